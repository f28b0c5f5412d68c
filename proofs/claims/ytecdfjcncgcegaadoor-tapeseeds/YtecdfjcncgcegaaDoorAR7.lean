/- Contract of the document's own Word. -/
import Derived.Test.YtecdfjcncgcegaaDoorAR6
namespace Go.Proofs.YtecdfjcncgcegaaDoor
open Go.RowKit

/-- What the document's Word and Hash hold: the cipher in a cell of its own. -/
def CW (w : World) (g c gb cb : Nat) (wr : World) : Prop := Below w.heap.size w wr ∧ CB wr w.heap.size (sl8 g 176 c) (sl8 gb 256 cb)
theorem CW.start (w : World) (g c gb cb : Nat) : CW w g c gb cb (w.alloc (.cells #[sl8 g 176 c, sl8 gb 256 cb] 53)) := ⟨(Below.refl _ _).alloc (Nat.le_refl _) _, CB.new w _ _⟩
theorem CW.next {w w1 w2 : World} {g c gb cb B : Nat} (h : CW w g c gb cb w1) (hb : Below B w1 w2) (hB : w.heap.size < B) : CW w g c gb cb w2 := ⟨h.1.trans (hb.mono (by omega)), h.2.below hb hB⟩
theorem CW.drew {w w1 : World} {g c gb cb : Nat} (h : CW w g c gb cb w1) : CW w g c gb cb w1.drew := ⟨h.1.drew, h.2⟩
theorem CW.lt {w w1 : World} {g c gb cb : Nat} (h : CW w g c gb cb w1) : w.heap.size < w1.heap.size := h.2.lt
theorem zeros8 (w : World) : AtB (w.alloc (.cells #[.int .u8 0, .int .u8 0, .int .u8 0, .int .u8 0, .int .u8 0, .int .u8 0, .int .u8 0, .int .u8 0] 5)) ⟨w.heap.size, 0, none⟩ 8 (fun _ => 0) := AtB.own (OwnB.new w 8 5 fun _ => 0)
/-- Eight bytes and eight more: a block. -/
theorem append_block (w : World) (base gv cv gz cz x y : Nat) (f : Nat → Nat) (hown : OR w base (sl8 gv 8 cv) 8 (Aes.byt x)) (hA : AtB w ⟨gz, 0, none⟩ 8 f) (hf : ∀ i, f i = Aes.byt y i) (hbase : base ≤ w.heap.size) :
    ∃ g c w', (Builtin.append_ #[32, 32] 32 #[sl8 gv 8 cv, sl8 gz 8 cz]).run Tryd.prog w = .ok (sl8 g 16 c) w' ∧ AtB w' ⟨g, 0, none⟩ 16 (Aes.labB x y) ∧ Below base w w' := by
  obtain ⟨v', w', hr, ho, hb⟩ := append_ownB w base _ 8 8 (Aes.byt x) f ⟨gz, 0, none⟩ cz hown hA (by omega) hbase
  obtain ⟨g, c, rfl, _, _, _, ha⟩ := ho.read (by omega)
  refine ⟨g, c, w', hr, AtB.congr ha fun i _ => ?_, hb⟩
  unfold thenB Aes.labB
  split
  · rfl
  · exact hf _
theorem byt_zero (i : Nat) : 0 = Aes.byt 0 i := by unfold Aes.byt; simp
theorem psum_shift (F : Nat → Nat) : Aes.psum (fun i => F (8 + i)) 0 8 = Aes.psum F 8 8 := by rw [Aes.psum8, Aes.psum8]
theorem mk16_lo (gr : Nat) {w : World} {f : Nat → Nat} (h : OwnB w gr 16 5 f) : AtB w ⟨gr, 0, none⟩ 8 f := fun i hi => AtB.own h i (by omega)
theorem mk16_hi (gr : Nat) {w : World} {f : Nat → Nat} (h : OwnB w gr 16 5 f) : AtB w ⟨gr, 8, none⟩ 8 (fun i => f (8 + i)) := by
  have := AtB.sub (AtB.own h) 8 8 (by omega)
  rwa [Nat.zero_add] at this
set_option maxHeartbeats 1000000 in
set_option maxRecDepth 100000 in
theorem rword_any (key : Nat → Nat) (g c gb cb n : Nat) (w : World) (hC : RCi w key g c gb cb) (hk : ∀ i, key i < 256) (hn : n < 18446744073709551616) :
    Calls Tryd.prog 18 #[rci g c gb cb, .int .u64 (n : Int)] w fun e w' => e = .returned (.int .u64 (wordN (Aes.ks key) n : Int)) ∧ Below w.heap.size w w' := by
  obtain ⟨m, hm⟩ : ∃ m, m = n / 2 := ⟨_, rfl⟩
  have e1 : (n : Int) / 2 = (m : Int) := by omega
  have HM := Lib.hid hm
  have HC := Lib.hid hC
  have HK := Lib.hid hk
  have hm2 : m < 18446744073709551616 := by omega
  have HS := Lib.hid (CW.start w g c gb cb)
  clear hm hC hk
  go_enter Tryd.func18, Tryd.ntmps18
  go_wp2_with fail
  generalize w.alloc (.cells #[sl8 g 176 c, sl8 gb 256 cb] 53) = w0 at HS ⊢
  refine wp_region_held_drew (S := CW w g c gb cb) (by kernel_rfl) HS.out.drew (fun hHeld => ?_)
  refine wpAnyH_take (i := 0) (v := rci g c gb cb) rfl (by kernel_rfl) (by kernel_rfl) (by kernel_rfl) (fun _ _ _ h => h) (.inl ⟨rfl, fun w' hw' => by have a0 := hw'.2.cell0; have a1 := hw'.2.cell1; go_simp⟩) hHeld ?_
  refine wpAnyH_take (i := 1) (v := .int .u64 (n : Int)) rfl (by kernel_rfl) (by kernel_rfl) (by kernel_rfl) (fun _ _ _ h => h) (.inl ⟨rfl, fun w _ => rfl⟩) hHeld ?_
  refine wpAnyH_take (i := 2) (v := .int .u64 (m : Int)) rfl (by kernel_rfl) (by kernel_rfl) (by kernel_rfl) (fun _ _ _ h => h) (.inl ⟨rfl, fun w' hw' => by have e9 : IntKind.u64.wrap (m : Int) = (m : Int) := (by rw [u64w]; omega); go_simp⟩) hHeld ?_
  refine wpAnyH_ready (rs := [3, 4]) (by kernel_rfl) (by simp) ?_
  refine AllReadyH.cons rfl (fun K hK => ?_) (AllReadyH.cons rfl (fun K hK => ?_) AllReadyH.nil)
  · rw [if_pos (by rfl)]
    go_simp
    refine (eight_any m _ hm2).mono ?_
    rintro e w2 ⟨gv, cv, rfl, hO, hb⟩
    have hS2 := hHeld.next hb hHeld.lt
    have hl := hHeld.lt
    have hsz := hb.size
    refine hK.out _ _ hS2 (fun hHeld2 => ?_)
    clear hK K
    refine wpAnyH_ready (rs := [4]) (by kernel_rfl) (by simp) ?_
    refine AllReadyH.cons rfl (fun K hK => ?_) AllReadyH.nil
    rw [if_pos (by rfl)]
    go_simp
    have hS3 := hHeld2.next ((Below.refl w2.heap.size w2).alloc (Nat.le_refl _) (.cells #[.int .u8 0, .int .u8 0, .int .u8 0, .int .u8 0, .int .u8 0, .int .u8 0, .int .u8 0, .int .u8 0] 5)) hHeld2.lt
    have HO := Lib.hid (And.intro (hO.alloc (.cells #[.int .u8 0, .int .u8 0, .int .u8 0, .int .u8 0, .int .u8 0, .int .u8 0, .int .u8 0, .int .u8 0] 5)) (And.intro (zeros8 w2) (And.intro (show w0.drew.heap.size ≤ (w2.alloc (.cells #[.int .u8 0, .int .u8 0, .int .u8 0, .int .u8 0, .int .u8 0, .int .u8 0, .int .u8 0, .int .u8 0] 5)).heap.size by simp; simp at hsz; omega) hl)))
    refine hK.out _ _ hS3 (fun hHeld3 => ?_)
    clear hK K hS2 hS3 hO hb hHeld hHeld2 hl hsz HS
    obtain ⟨gw, cw, w4, hr, ha4, hb4⟩ := append_block _ _ _ _ _ 8 m 0 _ HO.out.1 HO.out.2.1 byt_zero HO.out.2.2.1
    have hS4 := hHeld3.next hb4 HO.out.2.2.2
    refine wpAnyH_ready (rs := [5]) (by kernel_rfl) (by simp) ?_
    refine AllReadyH.cons rfl (fun K hK => ?_) AllReadyH.nil
    refine step_append_eq rfl _ _ 32 rfl _ _ _ w4 rfl rfl hr ?_
    refine hK.out _ _ hS4 (fun hHeld4 => ?_)
    clear hK K hr HO hS4 hb4
    refine wpAnyH_ready (rs := [6]) (by kernel_rfl) (by simp) ?_
    refine AllReadyH.cons rfl (fun K hK => ?_) AllReadyH.nil
    rw [if_pos (by rfl)]
    go_simp
    refine (renc_any key _ g c gb cb _ 0 cw _ (HC.out.below hHeld4.1) ha4 HK.out (Aes.labB_lt m 0)).mono ?_
    rintro e w5 ⟨gr, rfl, hO, hb5⟩
    have hS5 := hHeld4.next hb5 hHeld4.lt
    refine hK.out _ _ hS5 (fun hHeld5 => ?_)
    clear hK K hHeld3 hHeld4 hb5 hS5 ha4
    refine wpAnyH_take (i := 7) (v := mk16 gr) rfl (by kernel_rfl) (by kernel_rfl) (by kernel_rfl) (fun _ _ _ h => h) (.inl ⟨rfl, fun w _ => rfl⟩) hHeld5 ?_
    refine wpAnyH_done (by kernel_rfl) ?_ _
    have HW := Lib.hid (And.intro hO hHeld5.1)
    clear hHeld5 hO
    simp only [List.getElem_toArray, List.getElem_cons_succ, List.getElem_cons_zero, Act.put, List.setIfInBounds_toArray, List.set_cons_zero, List.set_cons_succ]
    by_cases h0 : n % 2 = 0
    · have e2 : (n : Int) % 2 = 0 := by omega
      have H0 := Lib.hid h0
      clear h0
      go_wp2_with (fail)
      refine (whole_any gr 0 16 _ _ (mk16_lo gr HW.out.1) (enc_lt (Aes.ks_lt key HK.out) (Aes.labB_lt m 0))).mono ?_
      rintro e w6 ⟨rfl, rfl⟩
      go_wp2
      go_ret
      exact ⟨ret_int (by unfold wordN; rw [H0.out, ← HM.out]), HW.out.2⟩
    · have e2 : (n : Int) % 2 = 1 := by omega
      have H0 := Lib.hid (show n % 2 = 1 by omega)
      clear h0
      go_wp2_with (fail)
      refine (whole_any gr 8 8 _ _ (mk16_hi gr HW.out.1) (fun i => enc_lt (Aes.ks_lt key HK.out) (Aes.labB_lt m 0) _)).mono ?_
      rintro e w6 ⟨rfl, rfl⟩
      go_wp2
      go_ret
      exact ⟨ret_int (by unfold wordN; rw [H0.out, ← HM.out, psum_shift]), HW.out.2⟩
  · rw [if_pos (by rfl)]
    go_simp
    have hl := hHeld.lt
    have hb0 := (Below.refl w0.drew.heap.size w0.drew).alloc (Nat.le_refl _) (.cells #[.int .u8 0, .int .u8 0, .int .u8 0, .int .u8 0, .int .u8 0, .int .u8 0, .int .u8 0, .int .u8 0] 5)
    have hS2 := hHeld.next hb0 hHeld.lt
    refine hK.out _ _ hS2 (fun hHeld2 => ?_)
    clear hK K
    refine wpAnyH_ready (rs := [3]) (by kernel_rfl) (by simp) ?_
    refine AllReadyH.cons rfl (fun K hK => ?_) AllReadyH.nil
    rw [if_pos (by rfl)]
    go_simp
    refine (eight_any m _ hm2).mono ?_
    rintro e w2 ⟨gv, cv, rfl, hO, hb⟩
    have hS3 := hHeld2.next hb hHeld2.lt
    have HO := Lib.hid (And.intro hO (And.intro (AtB.below (zeros8 w0.drew) hb) (And.intro hb.size hHeld2.lt)))
    refine hK.out _ _ hS3 (fun hHeld3 => ?_)
    clear hK K hS2 hS3 hO hb hHeld hHeld2 hl hb0 HS
    obtain ⟨gw, cw, w4, hr, ha4, hb4⟩ := append_block _ _ _ _ _ 8 m 0 _ HO.out.1 HO.out.2.1 byt_zero HO.out.2.2.1
    have hS4 := hHeld3.next hb4 HO.out.2.2.2
    refine wpAnyH_ready (rs := [5]) (by kernel_rfl) (by simp) ?_
    refine AllReadyH.cons rfl (fun K hK => ?_) AllReadyH.nil
    refine step_append_eq rfl _ _ 32 rfl _ _ _ w4 rfl rfl hr ?_
    refine hK.out _ _ hS4 (fun hHeld4 => ?_)
    clear hK K hr HO hS4 hb4
    refine wpAnyH_ready (rs := [6]) (by kernel_rfl) (by simp) ?_
    refine AllReadyH.cons rfl (fun K hK => ?_) AllReadyH.nil
    rw [if_pos (by rfl)]
    go_simp
    refine (renc_any key _ g c gb cb _ 0 cw _ (HC.out.below hHeld4.1) ha4 HK.out (Aes.labB_lt m 0)).mono ?_
    rintro e w5 ⟨gr, rfl, hO, hb5⟩
    have hS5 := hHeld4.next hb5 hHeld4.lt
    refine hK.out _ _ hS5 (fun hHeld5 => ?_)
    clear hK K hHeld3 hHeld4 hb5 hS5 ha4
    refine wpAnyH_take (i := 7) (v := mk16 gr) rfl (by kernel_rfl) (by kernel_rfl) (by kernel_rfl) (fun _ _ _ h => h) (.inl ⟨rfl, fun w _ => rfl⟩) hHeld5 ?_
    refine wpAnyH_done (by kernel_rfl) ?_ _
    have HW := Lib.hid (And.intro hO hHeld5.1)
    clear hHeld5 hO
    simp only [List.getElem_toArray, List.getElem_cons_succ, List.getElem_cons_zero, Act.put, List.setIfInBounds_toArray, List.set_cons_zero, List.set_cons_succ]
    by_cases h0 : n % 2 = 0
    · have e2 : (n : Int) % 2 = 0 := by omega
      have H0 := Lib.hid h0
      clear h0
      go_wp2_with (fail)
      refine (whole_any gr 0 16 _ _ (mk16_lo gr HW.out.1) (enc_lt (Aes.ks_lt key HK.out) (Aes.labB_lt m 0))).mono ?_
      rintro e w6 ⟨rfl, rfl⟩
      go_wp2
      go_ret
      exact ⟨ret_int (by unfold wordN; rw [H0.out, ← HM.out]), HW.out.2⟩
    · have e2 : (n : Int) % 2 = 1 := by omega
      have H0 := Lib.hid (show n % 2 = 1 by omega)
      clear h0
      go_wp2_with (fail)
      refine (whole_any gr 8 8 _ _ (mk16_hi gr HW.out.1) (fun i => enc_lt (Aes.ks_lt key HK.out) (Aes.labB_lt m 0) _)).mono ?_
      rintro e w6 ⟨rfl, rfl⟩
      go_wp2
      go_ret
      exact ⟨ret_int (by unfold wordN; rw [H0.out, ← HM.out, psum_shift]), HW.out.2⟩
end Go.Proofs.YtecdfjcncgcegaaDoor
