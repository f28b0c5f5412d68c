/- NetFull's walk. -/
import Derived.Test.YtfilhlilagmhlaaDoorNX0
namespace Go.Proofs.YtfilhlilagmhlaaDoor
open Go.RowKit

/-- uint(z) % m, as a number. -/
theorem umod (z m : Int) (hm : 0 < m) (hm2 : m ≤ 18446744073709551616) : ∃ k : Nat, (k : Int) < m ∧ (IntKind.u64.wrap z).tmod m = (k : Int) ∧ z % 18446744073709551616 % m = (k : Int) := by
  have h0 : 0 ≤ z % 18446744073709551616 := Int.emod_nonneg _ (by omega)
  have h1 : 0 ≤ z % 18446744073709551616 % m := Int.emod_nonneg _ (by omega)
  have h2 : z % 18446744073709551616 % m < m := Int.emod_lt_of_pos _ hm
  refine ⟨(z % 18446744073709551616 % m).toNat, by omega, ?_, by omega⟩
  rw [u64w, Int.tmod_eq_emod_of_nonneg h0]
  omega
/-- A net with so many frames on the ways k and 1 - k. -/
def NetL (w : World) (base p k a b : Nat) : Prop := ∃ T, Net w base p T ∧ (T k).length = a ∧ (T (1 - k)).length = b
section
variable {w w' : World} {base p k a b : Nat}
theorem NetL.below (h : NetL w base p k a b) (hb : Below w.heap.size w w') : NetL w' base p k a b := let ⟨T, h1, h2⟩ := h; ⟨T, h1.below hb, h2⟩
theorem NetL.put {T : Txt} {l : List ByteArray} (h : Net w base p (upd T k l)) (hk : k < 2) (hl : l.length = a) (hb : (T (1 - k)).length = b) : NetL w base p k a b :=
  ⟨_, h, by rw [upd_same]; exact hl, by rw [upd_other _ _ _ _ (by omega)]; exact hb⟩
end
set_option maxHeartbeats 8000000 in
set_option maxRecDepth 100000 in
theorem full_walk (A : Option Addr) (n c : Nat) (f : Nat → Nat) (z1 z2 : Int) (w : World) (hg : Handle w) (hA : AtBO w A n f) (hf : ∀ i, f i < 256) (hn : n ≤ 140737488355328) :
    Calls Tryd.prog 4 #[.slice A n c, .int .i64 z1, .int .i64 z2] w fun e w' => e = .returned (.bool true) ∧ Below w.heap.size w w' := by
  have HG := Lib.hid hg
  have HA := Lib.hid (And.intro hA (And.intro hf hn))
  obtain ⟨k, hk, e1, e1'⟩ := umod z1 2 (by omega) (by omega)
  obtain ⟨i, hi, e2, e2'⟩ := umod z2 64 (by omega) (by omega)
  have e3 : IntKind.u64.wrap (k : Int) = (k : Int) := by rw [u64w]; omega
  have e4 : IntKind.i64.wrap (k : Int) = (k : Int) := i64_nat _ (by omega) (by omega)
  have e5 : IntKind.u64.wrap (i : Int) = (i : Int) := by rw [u64w]; omega
  have e6 : IntKind.i64.wrap (i : Int) = (i : Int) := i64_nat _ (by omega) (by omega)
  have HK := Lib.hid (show True ∧ k < 2 ∧ i < 64 from ⟨trivial, by omega, by omega⟩)
  clear hg hA hf hn hk hi
  go_enter Tryd.func4, Tryd.ntmps4
  go_wp2_with fail
  refine (new_any w).mono ?_
  rintro e w1 ⟨rfl, hw1⟩
  have hN := net_new w
  have hB : Below w.heap.size w (w.alloc (.cells #[.slice none 0 0, .slice none 0 0] 55)) := (Below.refl _ _).alloc (Nat.le_refl _) _
  rw [← hw1] at hN hB
  have H1 := Lib.hid (And.intro (show NetL w1 w.heap.size w.heap.size k 0 0 from ⟨_, hN, rfl, rfl⟩) hB)
  clear hw1 hN hB
  go_wp2_with fail
  refine (awake_any w1 (HG.out.below H1.out.2 HG.out.pos)).mono ?_
  rintro e w2 ⟨rfl, hb2⟩
  have H2 := Lib.hid (And.intro (H1.out.1.below hb2) (H1.out.2.trans (hb2.mono H1.out.2.size)))
  clear H1 hb2
  go_wp2
  clear e1 e1' e3 e4
  go_loopw [8] (fun q wr => ∃ j : Nat, q = .int .i64 j ∧ Hid (True ∧ j ≤ 64) ∧ Hid (NetL wr w.heap.size w.heap.size k j 0 ∧ Below w.heap.size w wr)) (fun q _ => 64 - (intOf q).toNat)
  case atStart => exact ⟨0, rfl, ⟨trivial, by omega⟩, H2⟩
  case round =>
    clear H2
    obtain ⟨j, rfl, HJ, HI⟩ := hrel
    by_cases hlt : j < 64
    · have hlt1 : (j : Int) < 64 := by omega
      have e7 : IntKind.i64.wrap ((j : Int) + 1) = (j : Int) + 1 := i64_nat _ (by omega) (by omega)
      have HLt := Lib.hid (And.intro trivial hlt)
      clear hlt
      go_wp2_with fail
      obtain ⟨T, hN, hl, hl0⟩ := HI.out.1
      have hbw := HI.out.2
      have hA' := HA.out.1.below hbw
      refine (nsend_ok (k := k) A n c f hN HK.out.2.1 (by have := HLt.out.2; omega) hA' HA.out.2.1 HA.out.2.2 hbw.size).mono ?_
      rintro e w3 ⟨rfl, hN3, hst⟩
      have HN := Lib.hid (show NetL w3 w.heap.size w.heap.size k (j + 1) 0 ∧ Below w.heap.size w w3 from ⟨NetL.put hN3 HK.out.2.1 (by rw [List.length_append, List.length_singleton]; omega) hl0, hbw.trans hst.below⟩)
      clear hN hl hl0 hbw hA' hN3 hst HI
      go_wp2
      go_roundw
      case rel => exact ⟨j + 1, rfl, ⟨trivial, HLt.out.2⟩, HN⟩
      case measure => have := HLt.out.2; simp [intOf]; omega
    · obtain rfl : j = 64 := by have := HJ.out.2; omega
      clear hlt
      obtain ⟨w3, hw3⟩ : ∃ z, z = wr := ⟨_, rfl⟩
      subst hw3
      go_wp2_with fail
      clear e2 e2' e5 e6
      obtain ⟨T, hN, hl, hl0⟩ := HI.out.1
      have hbw := HI.out.2
      have hgw : Handle w3 := HG.out.below hbw HG.out.pos
      refine (nsend_full (k := k) A n c hN HK.out.2.1 hgw hl).mono ?_
      rintro e w4 ⟨ps, rfl, hb4⟩
      have H4 := Lib.hid (show NetL w4 w.heap.size w.heap.size k 64 0 ∧ Below w.heap.size w w4 from ⟨⟨T, hN.below hb4, hl, hl0⟩, hbw.trans (hb4.mono hbw.size)⟩)
      clear hN hl hl0 hbw hgw hb4 HI
      go_wp2_with fail
      refine (fis_chain ps 5 5 w4).mono ?_
      rintro e w5 ⟨rfl, hb5⟩
      have H5 := Lib.hid (And.intro (H4.out.1.below hb5) (H4.out.2.trans (hb5.mono H4.out.2.size)))
      clear H4 hb5
      go_wp2_with fail
      obtain ⟨T, hN, hl, hl0⟩ := H5.out.1
      have hbw := H5.out.2
      have hgw : Handle w5 := HG.out.below hbw HG.out.pos
      refine (ncopy_full (k := k) (i := i) hN HK.out.2.1 (by rw [hl]; exact HK.out.2.2) hgw hl).mono ?_
      rintro e w6 ⟨ps, rfl, hb4⟩
      have H6 := Lib.hid (show NetL w6 w.heap.size w.heap.size k 64 0 ∧ Below w.heap.size w w6 from ⟨⟨T, hN.below hb4, hl, hl0⟩, hbw.trans (hb4.mono hbw.size)⟩)
      clear hN hl hl0 hbw hgw hb4 H5
      go_wp2_with fail
      refine (fis_chain ps 5 5 w6).mono ?_
      rintro e w7 ⟨rfl, hb5⟩
      have H7 := Lib.hid (And.intro (H6.out.1.below hb5) (H6.out.2.trans (hb5.mono H6.out.2.size)))
      clear H6 hb5
      go_wp2_with fail
      obtain ⟨T, hN, hl, hl0⟩ := H7.out.1
      have hbw := H7.out.2
      have hgw : Handle w7 := HG.out.below hbw HG.out.pos
      refine (copy_bad _ _ _ 4 w7 (nfind_none (k := k) 64 hN HK.out.2.1 hgw (by rw [hl]; omega))).mono ?_
      rintro e w8 ⟨ps, rfl, hb4⟩
      have H8 := Lib.hid (show NetL w8 w.heap.size w.heap.size k 64 0 ∧ Below w.heap.size w w8 from ⟨⟨T, hN.below hb4, hl, hl0⟩, hbw.trans (hb4.mono hbw.size)⟩)
      clear hN hl hl0 hbw hgw hb4 H7
      go_wp2_with fail
      refine (fis_chain ps 4 4 w8).mono ?_
      rintro e w9 ⟨rfl, hb5⟩
      have H9 := Lib.hid (And.intro (H8.out.1.below hb5) (H8.out.2.trans (hb5.mono H8.out.2.size)))
      clear H8 hb5
      have e8 : IntKind.i64.wrap (1 - (k : Int)) = ((1 - k : Nat) : Int) := by have := HK.out.2.1; rw [i64_nat _ (by omega) (by omega)]; omega
      go_wp2_with fail
      clear e8
      obtain ⟨T, hN, hl, hl0⟩ := H9.out.1
      have hbw := H9.out.2
      have hA' := HA.out.1.below hbw
      refine (nsend_ok (k := 1 - k) A n c f hN (by omega) (by omega) hA' HA.out.2.1 HA.out.2.2 hbw.size).mono ?_
      rintro e w10 ⟨rfl, hN3, hst⟩
      have H10 := Lib.hid (show NetL w10 w.heap.size w.heap.size k 64 1 ∧ Below w.heap.size w w10 from ⟨⟨_, hN3, by rw [upd_other _ _ _ _ (by have := HK.out.2.1; omega)]; exact hl, by rw [upd_same, List.length_append, hl0]; rfl⟩, hbw.trans hst.below⟩)
      clear hN hl hl0 hbw hA' hN3 hst H9
      go_wp2_with fail
      obtain ⟨T, hN, hl, hl0⟩ := H10.out.1
      have hbw := H10.out.2
      refine (ndrop_ok (k := k) (i := i) hN HK.out.2.1 (by rw [hl]; exact HK.out.2.2) hbw.size).mono ?_
      rintro e w11 ⟨rfl, hN3, hst⟩
      have H11 := Lib.hid (show NetL w11 w.heap.size w.heap.size k 63 1 ∧ Below w.heap.size w w11 from ⟨NetL.put hN3 HK.out.2.1 (by rw [List.length_eraseIdx, if_pos (by rw [hl]; exact HK.out.2.2), hl]) hl0, hbw.trans hst.below⟩)
      clear hN hl hl0 hbw hN3 hst H10
      go_wp2_with fail
      obtain ⟨T, hN, hl, hl0⟩ := H11.out.1
      have hbw := H11.out.2
      refine (ncopy_ok (k := k) (i := 0) hN HK.out.2.1 (List.getElem?_eq_getElem (by omega)) (by omega) hbw.size).mono ?_
      rintro e w12 ⟨rfl, hN3, hst⟩
      have H12 := Lib.hid (show NetL w12 w.heap.size w.heap.size k 64 1 ∧ Below w.heap.size w w12 from ⟨NetL.put hN3 HK.out.2.1 (by rw [List.length_append, List.length_singleton]; omega) hl0, hbw.trans hst.below⟩)
      clear hN hl hl0 hbw hN3 hst H11
      go_wp2_with fail
      obtain ⟨T, hN, hl, hl0⟩ := H12.out.1
      have hcl := nlen_ok (k := k) hN HK.out.2.1
      rw [hl] at hcl
      refine hcl.mono ?_
      rintro e w13 ⟨rfl, rfl⟩
      clear hN hl hl0 hcl
      go_wp2
      go_ret
      exact ⟨rfl, H12.out.2⟩
end Go.Proofs.YtfilhlilagmhlaaDoor
