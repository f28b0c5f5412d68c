/- The walk of the law AesApart: it answers true, and makes new memory alone. -/
import Derived.Test.YtngghmjjeckmpaaAB9
import Derived.Test.YtngghmjjeckmpaaAQ0
namespace Go.Proofs.Ytngghmjjeckmpaa
open Go.RowKit

/-- The law's three arguments in memory. -/
def A3 (w : World) (k a b : Nat → Nat) (w' : World) : Prop := Below w.heap.size w w' ∧ OwnB w' w.heap.size 16 22 k ∧ OwnB w' (w.heap.size + 1) 16 22 a ∧ OwnB w' (w.heap.size + 2) 16 22 b
theorem A3.next {w w1 w2 : World} {k a b : Nat → Nat} (h : A3 w k a b w1) (hb : Below w1.heap.size w1 w2) : A3 w k a b w2 :=
  ⟨h.1.trans (hb.mono h.1.size), h.2.1.below hb h.2.1.lt, h.2.2.1.below hb h.2.2.1.lt, h.2.2.2.below hb h.2.2.2.lt⟩
theorem A3.drew {w w1 : World} {k a b : Nat → Nat} (h : A3 w k a b w1) : A3 w k a b w1.drew := ⟨h.1.drew, h.2.1, h.2.2.1, h.2.2.2⟩
theorem A3.start (w : World) (k a b : Nat → Nat) : A3 w k a b (((w.alloc (.cells (bys 16 k) 22)).alloc (.cells (bys 16 a) 22)).alloc (.cells (bys 16 b) 22)) := In3.start w 16 22 k a b
/-- .. and two ciphers of the key. -/
def A5 (w : World) (k a b : Nat → Nat) (c d : Nat) (w' : World) : Prop := A3 w k a b w' ∧ Ciph w' c (Aes.ks k) ∧ Ciph w' d (Aes.ks k)
theorem A5.next {w w1 w2 : World} {k a b : Nat → Nat} {c d : Nat} (h : A5 w k a b c d w1) (hb : Below w1.heap.size w1 w2) : A5 w k a b c d w2 :=
  ⟨h.1.next hb, OwnB.below h.2.1 hb (OwnB.lt h.2.1), OwnB.below h.2.2 hb (OwnB.lt h.2.2)⟩
theorem A5.drawn {w w1 : World} {k a b : Nat → Nat} {c d : Nat} (h : A5 w k a b c d w1) : A5 w k a b c d { w1 with drawn := w1.drawn + 1 } := ⟨h.1.drew, h.2.1, h.2.2⟩
set_option maxHeartbeats 4000000 in
set_option maxRecDepth 100000 in
theorem apart_walk (key a b : Nat → Nat) (w : World) (hk : ∀ i, key i < 256) (ha : ∀ i, a i < 256) (hb : ∀ i, b i < 256) :
    Calls Try.prog 6 #[.agg (bys 16 key), .agg (bys 16 a), .agg (bys 16 b)] w fun e w' => e = .returned (.bool true) ∧ Below w.heap.size w w' := by
  have HK := Lib.hid hk
  have HAB := Lib.hid (And.intro ha hb)
  have HA := Lib.hid (A3.start w key a b)
  clear hk ha hb
  go_enter Try.func6, Try.ntmps6
  go_wp2
  generalize (((w.alloc (.cells (bys 16 key) 22)).alloc (.cells (bys 16 a) 22)).alloc (.cells (bys 16 b) 22)) = w0 at HA ⊢
  refine wp_region_held_drew (S := A3 w key a b) (by kernel_rfl) HA.out.drew (fun hHeld => ?_)
  refine wpAnyH_take (i := 0) (v := .agg (bys 16 key)) rfl (by kernel_rfl) (by kernel_rfl) (by kernel_rfl) (fun _ _ _ h => h) (yl_row 22 16 _ Try.underlying22 Try.info22 rfl _ rfl _ rfl fun w' h => h.2.1) hHeld ?_
  refine wpAnyH_take (i := 2) (v := .agg (bys 16 key)) rfl (by kernel_rfl) (by kernel_rfl) (by kernel_rfl) (fun _ _ _ h => h) (yl_row 22 16 _ Try.underlying22 Try.info22 rfl _ rfl _ rfl fun w' h => h.2.1) hHeld ?_
  refine wpAnyH_ready (rs := [1]) (by kernel_rfl) (by simp) ?_
  refine AllReadyH.cons rfl (fun K hK => ?_) AllReadyH.nil
  rw [if_pos (by rfl)]
  go_simp
  refine (new_made key _ HK.out).mono ?_
  rintro e wA ⟨gA, rfl, hm⟩
  refine hK.out _ _ (hHeld.next hm.2.2) (fun hHeld2 => ?_)
  clear hK K
  refine wpAnyH_ready (rs := [3]) (by kernel_rfl) (by simp) ?_
  refine AllReadyH.cons rfl (fun K hK => ?_) AllReadyH.nil
  rw [if_pos (by rfl)]
  go_simp
  refine (new_made key _ HK.out).mono ?_
  rintro e wB ⟨gB, rfl, hm2⟩
  have H5 := Lib.hid (show A5 w key a b gA gB wB from ⟨hHeld2.next hm2.2.2, OwnB.below hm.2.1 hm2.2.2 (OwnB.lt hm.2.1), hm2.2.1⟩)
  refine hK.out _ _ (hHeld2.next hm2.2.2) (fun hHeld3 => ?_)
  clear hK K hHeld hHeld2 hm hm2 HA
  refine wpAnyH_take (i := 4) (v := .pointer (some ⟨gA, 0, none⟩)) rfl (by kernel_rfl) (by kernel_rfl) (by kernel_rfl) (fun _ _ _ h => h) (.inl ⟨rfl, fun w _ => rfl⟩) hHeld3 ?_
  refine wpAnyH_take (i := 5) (v := .pointer (some ⟨gB, 0, none⟩)) rfl (by kernel_rfl) (by kernel_rfl) (by kernel_rfl) (fun _ _ _ h => h) (.inl ⟨rfl, fun w _ => rfl⟩) hHeld3 ?_
  refine wpAnyH_done (by kernel_rfl) ?_ _
  clear hHeld3
  simp only [Act.put, List.setIfInBounds_toArray]
  go_wp2_with (go_at_call 9; refine (awake_any _).mono ?_; rintro e w1 ⟨rfl, hb1⟩; have H6 := Lib.hid (H5.out.next hb1); clear hb1 H5)
  have q1 : eqB 16 (Aes.enc (Aes.ks key) a) (Aes.enc (Aes.ks key) b) = eqB 16 a b := eqB_congr ⟨fun h => Aes.enc_inj (fun i _ => Aes.ks_lt key HK.out i) (fun i _ => HAB.out.1 i) (fun i _ => HAB.out.2 i) h, fun h => Aes.enc_congr h⟩
  have q2 := eqB_self 16 (Aes.enc (Aes.ks key) a)
  refine region_quiet (C := A5 w key a b gA gB) (by kernel_rfl) (by kernel_rfl) H6.out.drawn ?_
  go_big_quiet_want; go_big_quiet_op; go_big_quiet_on
  go_big_quiet_want; refine quiet_ld 22 16 _ Try.underlying22 Try.info22 _ rfl _ rfl (fun w' h => h.1.2.2.1) ?_; (simp only [Act.put, List.setIfInBounds_toArray, List.set_cons_zero, List.set_cons_succ]); go_big_quiet_on
  go_big_quiet_want; refine quiet_call _ _ (.agg (bys 16 (Aes.enc (Aes.ks key) a))) (fun w => by go_simp) (fun w' h => (encrypt_any gA (Aes.ks key) a w' h.2.1 HAB.out.1 (Aes.ks_lt key HK.out)).mono fun _ _ ⟨he, hb⟩ => ⟨he, h.next hb⟩) ?_; (simp only [Act.put, List.setIfInBounds_toArray, List.set_cons_zero, List.set_cons_succ]); go_big_quiet_on
  go_big_quiet_want; go_big_quiet_op; go_big_quiet_on
  go_big_quiet_want; refine quiet_ld 22 16 _ Try.underlying22 Try.info22 _ rfl _ rfl (fun w' h => h.1.2.2.2) ?_; (simp only [Act.put, List.setIfInBounds_toArray, List.set_cons_zero, List.set_cons_succ]); go_big_quiet_on
  go_big_quiet_want; refine quiet_call _ _ (.agg (bys 16 (Aes.enc (Aes.ks key) b))) (fun w => by go_simp) (fun w' h => (encrypt_any gA (Aes.ks key) b w' h.2.1 HAB.out.2 (Aes.ks_lt key HK.out)).mono fun _ _ ⟨he, hb⟩ => ⟨he, h.next hb⟩) ?_; (simp only [Act.put, List.setIfInBounds_toArray, List.set_cons_zero, List.set_cons_succ]); go_big_quiet_on
  go_big_quiet_want; refine quiet_eq16 _ _ _ rfl rfl rfl ?_; (simp only [Act.put, List.setIfInBounds_toArray, List.set_cons_zero, List.set_cons_succ]); go_big_quiet_on
  go_big_quiet_want; refine quiet_ld 22 16 _ Try.underlying22 Try.info22 _ rfl _ rfl (fun w' h => h.1.2.2.1) ?_; (simp only [Act.put, List.setIfInBounds_toArray, List.set_cons_zero, List.set_cons_succ]); go_big_quiet_on
  go_big_quiet_want; refine quiet_ld 22 16 _ Try.underlying22 Try.info22 _ rfl _ rfl (fun w' h => h.1.2.2.2) ?_; (simp only [Act.put, List.setIfInBounds_toArray, List.set_cons_zero, List.set_cons_succ]); go_big_quiet_on
  go_big_quiet_want; refine quiet_eq16 _ _ _ rfl rfl rfl ?_; (simp only [Act.put, List.setIfInBounds_toArray, List.set_cons_zero, List.set_cons_succ]); go_big_quiet_on
  go_big_quiet_want; refine quiet_val (.bool true) (fun w' h => by go_simp) ?_; (simp only [Act.put, List.setIfInBounds_toArray, List.set_cons_zero, List.set_cons_succ]); go_big_quiet_on
  go_big_quiet_want; go_big_quiet_op; go_big_quiet_on
  go_big_quiet_want; go_big_quiet_op; go_big_quiet_on
  go_big_quiet_want; refine quiet_ld 22 16 _ Try.underlying22 Try.info22 _ rfl _ rfl (fun w' h => h.1.2.2.1) ?_; (simp only [Act.put, List.setIfInBounds_toArray, List.set_cons_zero, List.set_cons_succ]); go_big_quiet_on
  go_big_quiet_want; refine quiet_call _ _ (.agg (bys 16 (Aes.enc (Aes.ks key) a))) (fun w => by go_simp) (fun w' h => (encrypt_any gA (Aes.ks key) a w' h.2.1 HAB.out.1 (Aes.ks_lt key HK.out)).mono fun _ _ ⟨he, hb⟩ => ⟨he, h.next hb⟩) ?_; (simp only [Act.put, List.setIfInBounds_toArray, List.set_cons_zero, List.set_cons_succ]); go_big_quiet_on
  go_big_quiet_want; go_big_quiet_op; go_big_quiet_on
  go_big_quiet_want; refine quiet_ld 22 16 _ Try.underlying22 Try.info22 _ rfl _ rfl (fun w' h => h.1.2.2.1) ?_; (simp only [Act.put, List.setIfInBounds_toArray, List.set_cons_zero, List.set_cons_succ]); go_big_quiet_on
  go_big_quiet_want; refine quiet_call _ _ (.agg (bys 16 (Aes.enc (Aes.ks key) a))) (fun w => by go_simp) (fun w' h => (encrypt_any gB (Aes.ks key) a w' h.2.2 HAB.out.1 (Aes.ks_lt key HK.out)).mono fun _ _ ⟨he, hb⟩ => ⟨he, h.next hb⟩) ?_; (simp only [Act.put, List.setIfInBounds_toArray, List.set_cons_zero, List.set_cons_succ]); go_big_quiet_on
  go_big_quiet_want; refine quiet_eq16 _ _ _ rfl rfl rfl ?_; (simp only [Act.put, List.setIfInBounds_toArray, List.set_cons_zero, List.set_cons_succ]); go_big_quiet_on
  go_big_quiet_want; refine quiet_val (.bool true) (fun w' h => by go_simp) ?_; (simp only [Act.put, List.setIfInBounds_toArray, List.set_cons_zero, List.set_cons_succ]); go_big_quiet_on
  go_big_quiet_want; go_big_quiet_op; go_big_quiet_on
  refine wpQuiet_nil ?_
  intro w' hw'
  have HW := Lib.hid hw'.1.1
  clear q1 q2 hw'
  go_wp2
  go_ret
  exact ⟨rfl, HW.out⟩
end Go.Proofs.Ytngghmjjeckmpaa
