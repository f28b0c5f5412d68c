/- Walk of AesHashes. -/
import Derived.Test.YtngghmjjeckmpaaAR8
import Derived.Test.YtngghmjjeckmpaaAQ0
namespace Go.Proofs.Ytngghmjjeckmpaa
open Go.RowKit

/-- What the law holds: its arguments, two ciphers. -/
def HC1 (w : World) (key : Nat → Nat) (a b : Nat) (w' : World) : Prop := Below w.heap.size w w' ∧ OwnB w' w.heap.size 16 22 key ∧ Lbl w' (w.heap.size + 1) a b
theorem HC1.next {w w1 w2 : World} {key : Nat → Nat} {a b : Nat} (h : HC1 w key a b w1) (hb : Below w1.heap.size w1 w2) : HC1 w key a b w2 := ⟨h.1.trans (hb.mono h.1.size), h.2.1.below hb h.2.1.lt, (hb.block _ h.2.2.lt).trans h.2.2⟩
theorem HC1.drew {w w1 : World} {key : Nat → Nat} {a b : Nat} (h : HC1 w key a b w1) : HC1 w key a b w1.drew := ⟨h.1.drew, h.2.1, h.2.2⟩
theorem Ciph.next {w1 w2 : World} {g : Nat} {k : Nat → Nat} (h : Ciph w1 g k) (hb : Below w1.heap.size w1 w2) : Ciph w2 g k := OwnB.below h hb (OwnB.lt h)
/-- .. all of it. -/
def HC3 (w : World) (key k0 : Nat → Nat) (a b gA gF : Nat) (w' : World) : Prop := Ciph w' gA (Aes.ks key) ∧ Ciph w' gF (Aes.ks k0) ∧ HC1 w key a b w'
theorem HC3.next {w w1 w2 : World} {key k0 : Nat → Nat} {a b gA gF : Nat} (h : HC3 w key k0 a b gA gF w1) (hb : Below w1.heap.size w1 w2) : HC3 w key k0 a b gA gF w2 := ⟨h.1.next hb, h.2.1.next hb, h.2.2.next hb⟩
theorem eq_labN (w : World) (x y : Nat) : (Op.equalIn 10000 38 (labN x y) (labN x y)).run Try.prog w = .ok true w := by
  have := run_eql_lab w (x : Int) (y : Int) (x : Int) (y : Int)
  simpa using this
theorem hashV (g : Nat) (k : Nat → Nat) (a b t A B : Nat) (w : World) (hV : hashA k a b t = A ∧ hashB k a b t = B) (hc : Ciph w g k) (hk : ∀ i, k i < 256) (ha : a < 18446744073709551616) (hb : b < 18446744073709551616) (ht : t < 18446744073709551616) :
    Calls Try.prog 16 #[.pointer (some ⟨g, 0, none⟩), labN a b, .int .u64 (t : Int)] w fun e w' => e = .returned (labN A B) ∧ Below w.heap.size w w' := by
  rw [← hV.1, ← hV.2]
  exact hash_any g k a b t w hc hk ha hb ht
theorem rhashV (key : Nat → Nat) (g c gb cb a b t A B : Nat) (w : World) (hV : hashA (Aes.ks key) a b t = A ∧ hashB (Aes.ks key) a b t = B) (hC : RCi w key g c gb cb) (hk : ∀ i, key i < 256) (ha : a < 18446744073709551616) (hb : b < 18446744073709551616) (ht : t < 18446744073709551616) :
    Calls Try.prog 17 #[rci g c gb cb, labN a b, .int .u64 (t : Int)] w fun e w' => e = .returned (labN A B) ∧ Below w.heap.size w w' := by
  rw [← hV.1, ← hV.2]
  exact rhash_any key g c gb cb a b t w hC hk ha hb ht
theorem rfix0 (k0 : Nat → Nat) (w : World) (h : k0 = kf) : Calls Try.prog 18 #[] w (RNewE w k0) := by rw [h]; exact rfixed_any w
set_option maxHeartbeats 4000000 in
set_option maxRecDepth 100000 in
theorem hashes_walk (key : Nat → Nat) (a b t : Nat) (w : World) (hk : ∀ i, key i < 256) (ha : a < 18446744073709551616) (hb : b < 18446744073709551616) (ht : t < 18446744073709551616) :
    Calls Try.prog 5 #[.agg (bys 16 key), labN a b, .int .u64 (t : Int)] w fun e w' => e = .returned (.bool true) ∧ Below w.heap.size w w' := by
  have HK := Lib.hid (And.intro hk (And.intro ha (And.intro hb ht)))
  clear hk ha hb ht
  have hI : HC1 w key a b ((w.alloc (.cells (bys 16 key) 22)).alloc (.cells #[.int .u64 (a : Int), .int .u64 (b : Int)] 38)) := by
    have q := Lbl.new (w.alloc (.cells (bys 16 key) 22)) (a : Int) (b : Int)
    simp only [World.size_alloc] at q
    exact ⟨((Below.refl _ _).alloc (Nat.le_refl _) _).alloc (by simp) _, (OwnB.new w 16 22 key).alloc _, q⟩
  have h1 := hI.2.1
  have HI := Lib.hid hI
  clear hI
  obtain ⟨k0, hk0, hk1⟩ : ∃ k, k = kf ∧ ∀ i, k i < 256 := ⟨_, rfl, kf_lt⟩
  have HK0 := Lib.hid hk1
  obtain ⟨A, B, hAB⟩ : ∃ A B, hashA (Aes.ks key) a b t = A ∧ hashB (Aes.ks key) a b t = B := ⟨_, _, rfl, rfl⟩
  obtain ⟨A', B', hAB'⟩ : ∃ A B, hashA (Aes.ks k0) a b t = A ∧ hashB (Aes.ks k0) a b t = B := ⟨_, _, rfl, rfl⟩
  have HV := Lib.hid (And.intro hAB hAB')
  clear hAB hAB'
  clear hk1
  go_enter Try.func5, Try.ntmps5
  go_wp2_with (refine ld_row 22 16 _ Try.underlying22 Try.info22 rfl _ rfl _ rfl h1 ?_)
  clear h1
  generalize ((w.alloc (.cells (bys 16 key) 22)).alloc (.cells #[.int .u64 (a : Int), .int .u64 (b : Int)] 38)) = w0 at HI ⊢
  refine (new_made key _ HK.out.1).mono ?_
  rintro e w1 ⟨gA, rfl, hm⟩
  have HI1 := Lib.hid (And.intro hm.2.1 (HI.out.next hm.2.2))
  clear hm HI
  go_wp2_with (fail)
  refine (fixed_any _).mono ?_
  rintro e w2 ⟨gF, rfl, hm⟩
  rw [← hk0] at hm
  have HI2 := Lib.hid (And.intro hm.2.1 (And.intro (HI1.out.1.next hm.2.2) (HI1.out.2.next hm.2.2)))
  clear hm HI1
  go_wp2_with (fail)
  refine (awake_any _).mono ?_
  rintro e w3 ⟨rfl, hb⟩
  have HI3 := Lib.hid (And.intro (HI2.out.1.next hb) (And.intro (HI2.out.2.1.next hb) (HI2.out.2.2.next hb)))
  clear hb HI2
  go_wp2
  refine wp_region_held_drew (S := HC3 w key k0 a b gA gF) (by kernel_rfl) ⟨HI3.out.2.1, HI3.out.1, HI3.out.2.2.drew⟩ (fun h0 => ?_)
  clear HI3
  refine wpAnyH_take (i := 0) (v := .pointer (some ⟨gA, 0, none⟩)) rfl (by kernel_rfl) (by kernel_rfl) (by kernel_rfl) (fun _ _ _ h => h) (.inl ⟨rfl, fun w' hw' => by rfl⟩) h0 ?_
  refine wpAnyH_take (i := 1) (v := labN a b) rfl (by kernel_rfl) (by kernel_rfl) (by kernel_rfl) (fun _ _ _ h => h) (.inl ⟨rfl, fun w' hw' => by have a0 := hw'.2.2.2.2.cell0; have a1 := hw'.2.2.2.2.cell1; go_simp⟩) h0 ?_
  refine wpAnyH_take (i := 2) (v := .int .u64 (t : Int)) rfl (by kernel_rfl) (by kernel_rfl) (by kernel_rfl) (fun _ _ _ h => h) (.inl ⟨rfl, fun w' hw' => by rfl⟩) h0 ?_
  refine wpAnyH_take (i := 4) (v := .slice (some ⟨w.heap.size, 0, none⟩) 16 16) rfl (by kernel_rfl) (by kernel_rfl) (by kernel_rfl) (fun _ _ _ h => h) (.inl ⟨rfl, fun w' hw' => by go_simp⟩) h0 ?_
  refine wpAnyH_take (i := 6) (v := labN a b) rfl (by kernel_rfl) (by kernel_rfl) (by kernel_rfl) (fun _ _ _ h => h) (.inl ⟨rfl, fun w' hw' => by have a0 := hw'.2.2.2.2.cell0; have a1 := hw'.2.2.2.2.cell1; go_simp⟩) h0 ?_
  refine wpAnyH_take (i := 7) (v := .int .u64 (t : Int)) rfl (by kernel_rfl) (by kernel_rfl) (by kernel_rfl) (fun _ _ _ h => h) (.inl ⟨rfl, fun w' hw' => by rfl⟩) h0 ?_
  refine wpAnyH_ready (rs := [3]) (by kernel_rfl) (by simp) ?_
  refine AllReadyH.cons rfl (fun K hK => ?_) AllReadyH.nil
  rw [if_pos (by rfl)]
  go_simp
  refine (hashV gA (Aes.ks key) a b t A B _ HV.out.1 h0.1 (Aes.ks_lt key HK.out.1) HK.out.2.1 HK.out.2.2.1 HK.out.2.2.2).mono ?_
  rintro e u1 ⟨rfl, hb⟩
  have hS1 := HC3.next h0 hb
  refine hK.out _ _ hS1 (fun h1 => ?_)
  clear hb
  clear hK K hS1 h0
  refine wpAnyH_ready (rs := [5]) (by kernel_rfl) (by simp) ?_
  refine AllReadyH.cons rfl (fun K hK => ?_) AllReadyH.nil
  rw [if_pos (by rfl)]
  go_simp
  refine (rnew_any key _ 16 _ HK.out.1 (AtB.own h1.2.2.2.1) ⟨Nat.le_refl _, by decide⟩).mono ?_
  rintro e u2 ⟨g, c, gb, cb, rfl, hC, hb⟩
  have hS2 := HC3.next h1 hb
  refine hK.out _ _ hS2 (fun h2 => ?_)
  clear hb
  clear hK K hS2 h1
  refine wpAnyH_ready (rs := [8]) (by kernel_rfl) (by simp) ?_
  refine AllReadyH.cons rfl (fun K hK => ?_) AllReadyH.nil
  rw [if_pos (by rfl)]
  go_simp
  refine (rhashV key g c gb cb a b t A B _ HV.out.1 hC HK.out.1 HK.out.2.1 HK.out.2.2.1 HK.out.2.2.2).mono ?_
  rintro e u3 ⟨rfl, hb⟩
  have hS3 := HC3.next h2 hb
  refine hK.out _ _ hS3 (fun h3 => ?_)
  clear hb hC
  clear hK K hS3 h2
  refine wpAnyH_take (i := 9) (v := .bool true) rfl (by kernel_rfl) (by kernel_rfl) (by kernel_rfl) (fun _ _ _ h => h) (.inl ⟨rfl, fun w' hw' => by have hq := eq_labN w'; go_simp⟩) h3 ?_
  simp only [List.getElem_toArray, List.getElem_cons_succ, List.getElem_cons_zero, Act.put, List.setIfInBounds_toArray, List.set_cons_zero, List.set_cons_succ]
  refine wpAnyH_take (i := 10) (v := .bool true) rfl (by kernel_rfl) (by kernel_rfl) (by kernel_rfl) (fun _ _ _ h => h) (.inl ⟨rfl, fun w' hw' => by rfl⟩) h3 ?_
  simp only [List.getElem_toArray, List.getElem_cons_succ, List.getElem_cons_zero, Act.put, List.setIfInBounds_toArray, List.set_cons_zero, List.set_cons_succ]
  refine wpAnyH_take (i := 11) (v := .pointer (some ⟨gF, 0, none⟩)) rfl (by kernel_rfl) (by kernel_rfl) (by kernel_rfl) (fun _ _ _ h => h) (.inl ⟨rfl, fun w' hw' => by rfl⟩) h3 ?_
  simp only [List.getElem_toArray, List.getElem_cons_succ, List.getElem_cons_zero, Act.put, List.setIfInBounds_toArray, List.set_cons_zero, List.set_cons_succ]
  refine wpAnyH_take (i := 12) (v := labN a b) rfl (by kernel_rfl) (by kernel_rfl) (by kernel_rfl) (fun _ _ _ h => h) (.inl ⟨rfl, fun w' hw' => by have a0 := hw'.2.2.2.2.cell0; have a1 := hw'.2.2.2.2.cell1; go_simp⟩) h3 ?_
  simp only [List.getElem_toArray, List.getElem_cons_succ, List.getElem_cons_zero, Act.put, List.setIfInBounds_toArray, List.set_cons_zero, List.set_cons_succ]
  refine wpAnyH_take (i := 13) (v := .int .u64 (t : Int)) rfl (by kernel_rfl) (by kernel_rfl) (by kernel_rfl) (fun _ _ _ h => h) (.inl ⟨rfl, fun w' hw' => by rfl⟩) h3 ?_
  simp only [List.getElem_toArray, List.getElem_cons_succ, List.getElem_cons_zero, Act.put, List.setIfInBounds_toArray, List.set_cons_zero, List.set_cons_succ]
  refine wpAnyH_take (i := 16) (v := labN a b) rfl (by kernel_rfl) (by kernel_rfl) (by kernel_rfl) (fun _ _ _ h => h) (.inl ⟨rfl, fun w' hw' => by have a0 := hw'.2.2.2.2.cell0; have a1 := hw'.2.2.2.2.cell1; go_simp⟩) h3 ?_
  simp only [List.getElem_toArray, List.getElem_cons_succ, List.getElem_cons_zero, Act.put, List.setIfInBounds_toArray, List.set_cons_zero, List.set_cons_succ]
  refine wpAnyH_take (i := 17) (v := .int .u64 (t : Int)) rfl (by kernel_rfl) (by kernel_rfl) (by kernel_rfl) (fun _ _ _ h => h) (.inl ⟨rfl, fun w' hw' => by rfl⟩) h3 ?_
  refine wpAnyH_ready (rs := [14]) (by kernel_rfl) (by simp) ?_
  refine AllReadyH.cons rfl (fun K hK => ?_) AllReadyH.nil
  rw [if_pos (by rfl)]
  go_simp
  refine (hashV gF (Aes.ks k0) a b t A' B' _ HV.out.2 h3.2.1 (Aes.ks_lt k0 HK0.out) HK.out.2.1 HK.out.2.2.1 HK.out.2.2.2).mono ?_
  rintro e u4 ⟨rfl, hb⟩
  have hS4 := HC3.next h3 hb
  refine hK.out _ _ hS4 (fun h4 => ?_)
  clear hb
  clear hK K hS4 h3
  refine wpAnyH_ready (rs := [15]) (by kernel_rfl) (by simp) ?_
  refine AllReadyH.cons rfl (fun K hK => ?_) AllReadyH.nil
  rw [if_pos (by rfl)]
  go_simp
  refine (rfix0 k0 _ hk0).mono ?_
  rintro e u5 ⟨g', c', gb', cb', rfl, hC, hb⟩
  have hS5 := HC3.next h4 hb
  refine hK.out _ _ hS5 (fun h5 => ?_)
  clear hb
  clear hK K hS5 h4
  refine wpAnyH_ready (rs := [18]) (by kernel_rfl) (by simp) ?_
  refine AllReadyH.cons rfl (fun K hK => ?_) AllReadyH.nil
  rw [if_pos (by rfl)]
  go_simp
  refine (rhashV k0 g' c' gb' cb' a b t A' B' _ HV.out.2 hC HK0.out HK.out.2.1 HK.out.2.2.1 HK.out.2.2.2).mono ?_
  rintro e u6 ⟨rfl, hb⟩
  have hS6 := HC3.next h5 hb
  refine hK.out _ _ hS6 (fun h6 => ?_)
  clear hb hC
  clear hK K hS6 h5
  refine wpAnyH_take (i := 19) (v := .bool true) rfl (by kernel_rfl) (by kernel_rfl) (by kernel_rfl) (fun _ _ _ h => h) (.inl ⟨rfl, fun w' hw' => by have hq := eq_labN w'; go_simp⟩) h6 ?_
  simp only [List.getElem_toArray, List.getElem_cons_succ, List.getElem_cons_zero, Act.put, List.setIfInBounds_toArray, List.set_cons_zero, List.set_cons_succ]
  refine wpAnyH_take (i := 20) (v := .bool true) rfl (by kernel_rfl) (by kernel_rfl) (by kernel_rfl) (fun _ _ _ h => h) (.inl ⟨rfl, fun w' hw' => by go_simp⟩) h6 ?_
  simp only [List.getElem_toArray, List.getElem_cons_succ, List.getElem_cons_zero, Act.put, List.setIfInBounds_toArray, List.set_cons_zero, List.set_cons_succ]
  refine wpAnyH_take (i := 21) (v := .bool true) rfl (by kernel_rfl) (by kernel_rfl) (by kernel_rfl) (fun _ _ _ h => h) (.inl ⟨rfl, fun w' hw' => by rfl⟩) h6 ?_
  refine wpAnyH_done (by kernel_rfl) ?_ _
  have HW := Lib.hid h6.2.2.1
  clear h6
  simp only [List.getElem_toArray, List.getElem_cons_succ, List.getElem_cons_zero, Act.put, List.setIfInBounds_toArray, List.set_cons_zero, List.set_cons_succ]
  go_wp2
  go_ret
  exact ⟨rfl, HW.out⟩
end Go.Proofs.Ytngghmjjeckmpaa
