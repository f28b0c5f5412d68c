/- The law's play: one call of the net beside the document's. -/
import Derived.Test.YtfilhlilagmhlaaDoorNP0
import Derived.Deep.CutBlock
import Derived.Deep.DeepCutAuto
namespace Go.Proofs.YtfilhlilagmhlaaDoor
open Go.RowKit

abbrev opV (kd z i b : Int) (A : Option Addr) (n c : Nat) : Value := .agg #[.int .i64 kd, .int .i64 z, .int .i64 i, .int .i64 b, .slice A n c]
/-- play's own memory: the document's net, the call, the answer's room. -/
structure Bx (w : World) (g : Nat) (a b kd z i bt fr : Value) : Prop where
  m : RN w g a b
  o : w.heap[g + 1]? = some (.cells #[kd, z, i, bt, fr] 34 (0, 0))
  r : RN w (g + 2) nilS nilS
section
variable {w w' : World} {base g : Nat} {a b kd z i bt fr : Value}
theorem Bx.below (h : Bx w g a b kd z i bt fr) (hb : Below w.heap.size w w') : Bx w' g a b kd z i bt fr := ⟨h.m.below hb h.m.lt, (hb.block _ (Array.getElem?_eq_some_iff.1 h.o).1).trans h.o, h.r.below hb h.r.lt⟩
theorem Bx.step (h : Bx w g a b kd z i bt fr) (hb : Step base w w') : Bx w' g a b kd z i bt fr := ⟨(hb.oth _ _ _ _ h.m (by decide) (by decide) (by decide)).trans h.m, (hb.oth _ _ _ _ h.o (by decide) (by decide) (by decide)).trans h.o, (hb.oth _ _ _ _ h.r (by decide) (by decide) (by decide)).trans h.r⟩
theorem Bx.set (h : Bx w g a b kd z i bt fr) (x y : Value) : Bx ((w.setCell ⟨g, 0, none⟩ x).setCell ⟨g, 1, none⟩ y) g x y kd z i bt fr := by
  have hf : ∀ k, k ≠ g → ((w.setCell ⟨g, 0, none⟩ x).setCell ⟨g, 1, none⟩ y).heap[k]? = w.heap[k]? := fun k hk => (Below.heap_setCell _ ⟨g, 1, none⟩ y k hk).trans (Below.heap_setCell w ⟨g, 0, none⟩ x k hk)
  exact ⟨h.m.set x y, (hf _ (by omega)).trans h.o, (hf _ (by omega)).trans h.r⟩
theorem Bx.o0 (h : Bx w g a b kd z i bt fr) : w.cell? ⟨g + 1, 0, none⟩ = some kd := by rw [cell_of_row w (g + 1) 0 _ _ (0, 0) h.o]; rfl
theorem Bx.o1 (h : Bx w g a b kd z i bt fr) : w.cell? ⟨g + 1, 1, none⟩ = some z := by rw [cell_of_row w (g + 1) 1 _ _ (0, 0) h.o]; rfl
theorem Bx.o2 (h : Bx w g a b kd z i bt fr) : w.cell? ⟨g + 1, 2, none⟩ = some i := by rw [cell_of_row w (g + 1) 2 _ _ (0, 0) h.o]; rfl
theorem Bx.o3 (h : Bx w g a b kd z i bt fr) : w.cell? ⟨g + 1, 3, none⟩ = some bt := by rw [cell_of_row w (g + 1) 3 _ _ (0, 0) h.o]; rfl
theorem Bx.o4 (h : Bx w g a b kd z i bt fr) : w.cell? ⟨g + 1, 4, none⟩ = some fr := by rw [cell_of_row w (g + 1) 4 _ _ (0, 0) h.o]; rfl
theorem Step.set {w0 : World} (h : Step base w0 w) {q : Addr} (hq : w0.heap.size ≤ q.block) (hb : base ≤ q.block) (x : Value) : Step base w0 (w.setCell q x) :=
  ⟨h.below.setCell hb x, fun k cur t f hc h1 h2 h3 => (Below.heap_setCell w q x k (fun e => by have := (Array.getElem?_eq_some_iff.1 hc).1; omega)).trans (h.oth k cur t f hc h1 h2 h3)⟩
theorem Net.set29 {p : Nat} {T : Txt} {x y : Value} {gg j : Nat} (h : Net w base p T) (hr : RN w gg x y) (u : Value) : Net (w.setCell ⟨gg, j, none⟩ u) base p T := by
  obtain ⟨s, h1, h2, h3⟩ := h
  refine ⟨s, h1.heap fun k ho => Below.heap_setCell w _ u k (fun e => ?_), h2, h3⟩
  subst e
  rcases ho with e | ⟨q, hq, hbq | ⟨x', hx, e⟩⟩
  · exact heap_ne hr h1.net (by decide) e
  · obtain ⟨_, cur, hh⟩ := (h1.way q hq).block hbq
    exact heap_ne hr hh (by decide) rfl
  · exact heap_ne hr (h1.fr q hq x' hx).own (by decide) e.symm
end
theorem bx_new (w : World) (a b kd z i bt fr : Value) : Bx (((w.alloc (.cells #[a, b] 29)).alloc (.cells #[kd, z, i, bt, fr] 34)).alloc (.cells #[nilS, nilS] 29)) w.heap.size a b kd z i bt fr ∧ Below w.heap.size w (((w.alloc (.cells #[a, b] 29)).alloc (.cells #[kd, z, i, bt, fr] 34)).alloc (.cells #[nilS, nilS] 29)) := by
  refine ⟨⟨((RN.new w a b).alloc _).alloc _, ?_, ?_⟩, (((Below.refl _ _).alloc (Nat.le_refl _) _).alloc (by simp) _).alloc (by simp; omega) _⟩
  · have := heap_alloc_new (w.alloc (.cells #[a, b] 29)) (.cells #[kd, z, i, bt, fr] 34)
    rw [World.size_alloc] at this
    rw [Below.heap_alloc _ _ _ (by simp)]
    exact this
  · have := RN.new ((w.alloc (.cells #[a, b] 29)).alloc (.cells #[kd, z, i, bt, fr] 34)) nilS nilS
    simp only [World.size_alloc] at this
    exact this
/-- Where the ways through play's switch meet. -/
def Met (w : World) (base p : Nat) (kd z i bt fr : Value) (e c : Value) (wc : World) : Prop :=
  ∃ (cd : Int) (T : Txt) (A0 : Option Addr) (n0 c0 : Nat) (A1 : Option Addr) (n1 c1 : Nat) (v : Nat → Value), c = .int .i64 cd ∧ EV e cd ∧ Net wc base p T ∧ Rf wc v T ∧ v 0 = .slice A0 n0 c0 ∧ v 1 = .slice A1 n1 c1 ∧ Bx wc w.heap.size (.slice A0 n0 c0) (.slice A1 n1 c1) kd z i bt fr ∧ Step base w wc ∧ w.heap.size + 3 ≤ wc.heap.size
theorem Rf.len {w : World} {v : Nat → Value} {T : Txt} {B0 B1 : Option Addr} {m0 e0 m1 e1 : Nat} (h : Rf w v T) (q0 : v 0 = .slice B0 m0 e0) (q1 : v 1 = .slice B1 m1 e1) : m0 = (T 0).length ∧ m1 = (T 1).length := by
  obtain ⟨A0, c0, A1, c1, h0, h1⟩ := h.vals
  rw [q0] at h0
  rw [q1] at h1
  injection h0 with _ h0 _
  injection h1 with _ h1 _
  exact ⟨h0, h1⟩
theorem met_set {w w4 : World} {base p : Nat} {kd z i bt fr e a b : Value} {cd : Int} {T : Txt} {v : Nat → Value} {B0 B1 : Option Addr} {m0 d0 m1 d1 : Nat} (hEV : EV e cd) (hN : Net w4 base p T) (hR : Rf w4 v T) (e0 : v 0 = .slice B0 m0 d0) (e1 : v 1 = .slice B1 m1 d1) (hB : Bx w4 w.heap.size a b kd z i bt fr) (hs : Step base w w4) (hz : w.heap.size + 3 ≤ w4.heap.size) (hb : base ≤ w.heap.size) :
    Met w base p kd z i bt fr e (.int .i64 cd) ((w4.setCell ⟨w.heap.size, 0, none⟩ (.slice B0 m0 d0)).setCell ⟨w.heap.size, 1, none⟩ (.slice B1 m1 d1)) :=
  ⟨cd, T, B0, m0, d0, B1, m1, d1, v, rfl, hEV, (hN.set29 (j := 0) hB.m _).set29 (j := 1) (hB.m.set0 _) _, (hR.set29 (i := 0) hB.m _).set29 (i := 1) (hB.m.set0 _) _, e0, e1, hB.set _ _, (hs.set (q := ⟨w.heap.size, 0, none⟩) (Nat.le_refl _) hb _).set (q := ⟨w.heap.size, 1, none⟩) (Nat.le_refl _) hb _, by simpa [World.setCell] using hz⟩
set_option maxHeartbeats 8000000 in
set_option maxRecDepth 100000 in
theorem play_any {w : World} (base p : Nat) (v : Nat → Value) (T : Txt) (kd z i b : Int) (A : Option Addr) (n c : Nat) (f : Nat → Nat) (hN : Net w base p T) (hR : Rf w v T) (hg : Handle w) (hbase : base ≤ w.heap.size) (h0b : 0 < base)
    (hA : ∀ w', Below base w w' → AtBO w' A n f) (hf : ∀ j, f j < 256) (hn : n ≤ 140737488355328) (hnil : A = none → n = 0 ∧ c = 0) (hb : b < 9223372036854775808) :
    Calls Tryd.prog 9 #[.pointer (some ⟨p, 0, none⟩), rvf v, opV kd z i b A n c] w fun e w' => ∃ v' T', e = .returned (.tuple #[rvf v', .bool true]) ∧ Net w' base p T' ∧ Rf w' v' T' ∧ Step base w w' := by
  obtain ⟨A0, c0, A1, c1, h0, h1⟩ := hR.vals
  have HI := Lib.hid (And.intro hN (And.intro hR (And.intro hg (And.intro hbase (And.intro h0b (And.intro hA (And.intro hf (And.intro hn (And.intro hnil (And.intro hb (And.intro h0 h1)))))))))))
  obtain ⟨hbx, hbb⟩ := bx_new w (.slice A0 (T 0).length c0) (.slice A1 (T 1).length c1) (.int .i64 kd) (.int .i64 z) (.int .i64 i) (.int .i64 b) (.slice A n c)
  unfold rvf
  simp only [h0, h1]
  generalize (T 0).length = n0 at *
  generalize (T 1).length = n1 at *
  have HB := Lib.hid (And.intro hbx hbb)
  have o0 := hbx.o0
  have HSZ := Lib.hid (show w.heap.size + 3 ≤ (((w.alloc (.cells #[.slice A0 n0 c0, .slice A1 n1 c1] 29)).alloc (.cells #[.int .i64 kd, .int .i64 z, .int .i64 i, .int .i64 b, .slice A n c] 34)).alloc (.cells #[nilS, nilS] 29)).heap.size by simp)
  clear hN hR hg hbase h0b hA hf hn hnil hb h0 h1 hbx hbb
  go_enter Tryd.func9, Tryd.ntmps9
  go_upto_block 0 with fail
  generalize ((w.alloc (.cells #[.slice A0 n0 c0, .slice A1 n1 c1] 29)).alloc (.cells #[.int .i64 kd, .int .i64 z, .int .i64 i, .int .i64 b, .slice A n c] 34)).alloc (.cells #[nilS, nilS] 29) = w0 at *
  go_cut [8, 9] (fun e cc wc => Hid (Met w base p (.int .i64 kd) (.int .i64 z) (.int .i64 i) (.int .i64 b) (.slice A n c) e cc wc))
  case first =>
    by_cases h1 : kd = 1
    · subst h1
      have HO := Lib.hid (show ∀ w' : World, w'.heap[w.heap.size + 1]? = w0.heap[w.heap.size + 1]? → w'.cell? ⟨w.heap.size + 1, 1, none⟩ = some (.int .i64 z) ∧ w'.cell? ⟨w.heap.size + 1, 4, none⟩ = some (.slice A n c) from fun w' hw' =>
        ⟨(World.cell?_of_block (w := w0) (a := ⟨w.heap.size + 1, 1, none⟩) hw').trans HB.out.1.o1, (World.cell?_of_block (w := w0) (a := ⟨w.heap.size + 1, 4, none⟩) hw').trans HB.out.1.o4⟩)
      go_wp2
      refine wp_region_held_drew (S := fun w' => w'.heap[w.heap.size + 1]? = w0.heap[w.heap.size + 1]?) (by kernel_rfl) rfl (fun hHeld => ?_)
      have HD := Lib.hid (show Below w0.heap.size w0 w0.drew ∧ w0.drew.heap = w0.heap from ⟨(Below.refl _ _).drew, rfl⟩)
      generalize w0.drew = wd at hHeld HD ⊢
      refine ht (i := 0) rfl (.pointer (some ⟨p, 0, none⟩)) (by kernel_rfl) (by kernel_rfl) (by kernel_rfl) (fun _ _ _ h => h) hHeld (fun w' hw' => by go_simp) ?_
      try simp only [Act.put, List.setIfInBounds_toArray, List.set_cons_zero, List.set_cons_succ]
      refine ht (i := 1) rfl (.pointer (some ⟨w.heap.size + 1, 1, none⟩)) (by kernel_rfl) (by kernel_rfl) (by kernel_rfl) (fun _ _ _ h => h) hHeld (fun w' hw' => by go_simp) ?_
      try simp only [Act.put, List.setIfInBounds_toArray, List.set_cons_zero, List.set_cons_succ]
      refine ht (i := 2) rfl (.int .i64 z) (by kernel_rfl) (by kernel_rfl) (by kernel_rfl) (fun _ _ _ h => h) hHeld (fun w' hw' => by obtain ⟨d1, d4⟩ := HO.out w' hw'; go_simp) ?_
      try simp only [Act.put, List.setIfInBounds_toArray, List.set_cons_zero, List.set_cons_succ]
      refine ht (i := 4) rfl (.pointer (some ⟨w.heap.size + 1, 4, none⟩)) (by kernel_rfl) (by kernel_rfl) (by kernel_rfl) (fun _ _ _ h => h) hHeld (fun w' hw' => by go_simp) ?_
      try simp only [Act.put, List.setIfInBounds_toArray, List.set_cons_zero, List.set_cons_succ]
      refine ht (i := 5) rfl (.slice A n c) (by kernel_rfl) (by kernel_rfl) (by kernel_rfl) (fun _ _ _ h => h) hHeld (fun w' hw' => by obtain ⟨d1, d4⟩ := HO.out w' hw'; go_simp) ?_
      try simp only [Act.put, List.setIfInBounds_toArray, List.set_cons_zero, List.set_cons_succ]
      have hlt1 : w.heap.size + 1 < w0.heap.size := by have := HSZ.out; omega
      have hbw : ∀ wx, Below w0.heap.size w0 wx → Below base w wx := fun wx hb => (HB.out.2.mono HI.out.2.2.2.1).trans (hb.mono (Nat.le_trans HI.out.2.2.2.1 HB.out.2.size))
      obtain ⟨g', k', w2, hr, ho, hb2⟩ := copyB wd A n c f (HI.out.2.2.2.2.2.1 _ (hbw _ HD.out.1)) HI.out.2.2.2.2.2.2.2.2.1 HI.out.2.2.2.2.2.2.2.1
      have hb02 : Below w0.heap.size w0 w2 := HD.out.1.trans (hb2.mono HD.out.1.size)
      have hbE : Below w0.heap.size w0 (wd.alloc (.cells #[] 5)) := HD.out.1.alloc HD.out.1.size _
      obtain ⟨cd, T', _, hs1, hs2⟩ := usend (w := w2) z (some ⟨g', 0, none⟩) n k' f ((HI.out.1.below HB.out.2).below hb02) (HI.out.2.2.1.below (hbw _ hb02) HI.out.2.2.2.2.1) ho.lt.2.2.2.2.opt HI.out.2.2.2.2.2.2.1 HI.out.2.2.2.2.2.2.2.1 (Nat.le_trans HI.out.2.2.2.1 (hbw _ hb02).size)
      have HQ := Lib.hid hr
      have HS1 := Lib.hid hs1
      have HW2 := Lib.hid (And.intro hb02 (And.intro hbE (And.intro hs2 (And.intro hlt1 hbw))))
      clear hHeld hr ho hb2 hb02 hbE hs1 hs2 hlt1 hbw
      refine h1 (i := 3) (by kernel_rfl) rfl (fun K hK => ?_)
      go_simp
      refine hK.out _ _ (HW2.out.2.1.block _ HW2.out.2.2.2.1) ?_
      clear hK K
      try simp only [Act.put, List.setIfInBounds_toArray, List.set_cons_zero, List.set_cons_succ]
      refine h1 (i := 6) (by kernel_rfl) rfl (fun K hK => ?_)
      refine wp_append_run _ _ 32 rfl (sl8 wd.heap.size 0 0) (.slice A n c) (sl8 g' n k') w2 rfl rfl HQ.out ?_
      refine hK.out _ _ (HW2.out.1.block _ HW2.out.2.2.2.1) ?_
      clear hK K
      try simp only [Act.put, List.setIfInBounds_toArray, List.set_cons_zero, List.set_cons_succ]
      refine h1 (i := 7) (by kernel_rfl) rfl (fun K hK => ?_)
      go_simp
      refine HS1.out.mono ?_
      rintro e w3 ⟨ev, rfl, hEV, hN3, hst3⟩
      have hB3 := (HB.out.1.below HW2.out.1).step hst3
      refine hK.out _ _ (hB3.o.trans HB.out.1.o.symm) ?_
      clear hK K
      try simp only [Act.put, List.setIfInBounds_toArray, List.set_cons_zero, List.set_cons_succ]
      refine h1 (i := 8) (by kernel_rfl) rfl (fun K hK => ?_)
      go_simp
      refine hK.out _ _ (hB3.o.trans HB.out.1.o.symm) ?_
      clear hK K
      refine wpAnyH_done (by kernel_rfl) ?_ _
      try simp only [Act.put, List.setIfInBounds_toArray, List.set_cons_zero, List.set_cons_succ]
      have a0 := hB3.m.cell0
      have a1 := hB3.m.cell1
      have o1 := hB3.o1
      have o4 := hB3.o4
      have hst : Step base w w3 := ((Step.of_below HB.out.2 HI.out.2.2.2.1).trans (Step.of_below HW2.out.1 (Nat.le_trans HI.out.2.2.2.1 HB.out.2.size))).trans hst3
      have hcv := conv_BO w3 A n c f (HI.out.2.2.2.2.2.1 w3 hst.below) HI.out.2.2.2.2.2.2.1 HI.out.2.2.2.2.2.2.2.2.1
      have hR3 : Rf w3 v T := HI.out.2.1.step hst
      have hrs := HW2.out.2.2.1 w3 v hR3
      unfold rvf at hrs
      rw [HI.out.2.2.2.2.2.2.2.2.2.2.1, HI.out.2.2.2.2.2.2.2.2.2.2.2] at hrs
      have HRS := Lib.hid hrs
      have H3 := Lib.hid (And.intro hEV (And.intro hN3 (And.intro hB3 (And.intro hst (show w.heap.size + 3 ≤ w3.heap.size by have := hst3.below.size; have := HW2.out.1.size; have := HSZ.out; omega)))))
      clear hEV hN3 hst3 hB3 hst hR3 hrs HS1 HQ HW2 HO HD
      go_wp2_with fail
      clear a0 a1 o1 o4 hcv
      refine HRS.out.mono ?_
      rintro e w4 ⟨v4, rfl, hR4, hb4⟩
      obtain ⟨B0, d0, B1, d1, q0, q1⟩ := hR4.vals
      unfold rvf
      rw [q0, q1]
      generalize (T' 0).length = m0 at *
      generalize (T' 1).length = m1 at *
      have hB4 := H3.out.2.2.1.below hb4
      have r0 := hB4.m.cell0
      have r1 := hB4.m.cell1
      have z0 := hB4.m.frozen 0
      have z1 := hB4.m.frozen 1
      have HM := Lib.hid (met_set H3.out.1 (H3.out.2.1.below hb4) hR4 q0 q1 hB4 (H3.out.2.2.2.1.trans (Step.of_below hb4 (Nat.le_trans HI.out.2.2.2.1 H3.out.2.2.2.1.below.size))) (Nat.le_trans H3.out.2.2.2.2 hb4.size) HI.out.2.2.2.1)
      clear hR4 hb4 q0 q1 hB4 H3 HRS
      go_wp2
      go_meet
      exact HM
    · by_cases h4 : kd = 4
      · subst h4
        obtain ⟨cd, T', _, hs1, hs2⟩ := ucopy (w := w0) z i (HI.out.1.below HB.out.2) (HI.out.2.2.1.below HB.out.2 HI.out.2.2.1.pos) (Nat.le_trans HI.out.2.2.2.1 HB.out.2.size)
        have HS1 := Lib.hid hs1
        have HS2 := Lib.hid hs2
        clear hs1 hs2
        have o1 := HB.out.1.o1
        have o2 := HB.out.1.o2
        have o3 := HB.out.1.o3
        go_wp2_with fail
        clear o0 o1 o2 o3
        refine HS1.out.mono ?_
        rintro e w3 ⟨ev, rfl, hEV, hN3, hst3⟩
        have hB3 := HB.out.1.step hst3
        have a0 := hB3.m.cell0
        have a1 := hB3.m.cell1
        have o1 := hB3.o1
        have o2 := hB3.o2
        have o3 := hB3.o3
        have hst : Step base w w3 := (Step.of_below HB.out.2 HI.out.2.2.2.1).trans hst3
        have hrs := HS2.out w3 v (HI.out.2.1.step hst)
        unfold rvf at hrs
        rw [HI.out.2.2.2.2.2.2.2.2.2.2.1, HI.out.2.2.2.2.2.2.2.2.2.2.2] at hrs
        have HRS := Lib.hid hrs
        have H3 := Lib.hid (And.intro hEV (And.intro hN3 (And.intro hB3 (And.intro hst (show w.heap.size + 3 ≤ w3.heap.size by have := hst3.below.size; have := HSZ.out; omega)))))
        clear hEV hN3 hst3 hB3 hst hrs HS1 HS2
        go_wp2_with fail
        clear a0 a1 o1 o2 o3
        refine HRS.out.mono ?_
        rintro e w4 ⟨v4, rfl, hR4, hb4⟩
        obtain ⟨B0, d0, B1, d1, q0, q1⟩ := hR4.vals
        unfold rvf
        rw [q0, q1]
        generalize (T' 0).length = m0 at *
        generalize (T' 1).length = m1 at *
        have hB4 := H3.out.2.2.1.below hb4
        have r0 := hB4.m.cell0
        have r1 := hB4.m.cell1
        have z0 := hB4.m.frozen 0
        have z1 := hB4.m.frozen 1
        have HM := Lib.hid (met_set H3.out.1 (H3.out.2.1.below hb4) hR4 q0 q1 hB4 (H3.out.2.2.2.1.trans (Step.of_below hb4 (Nat.le_trans HI.out.2.2.2.1 H3.out.2.2.2.1.below.size))) (Nat.le_trans H3.out.2.2.2.2 hb4.size) HI.out.2.2.2.1)
        clear hR4 hb4 q0 q1 hB4 H3 HRS
        go_wp2
        go_meet
        exact HM
      · by_cases h5 : kd = 5
        · subst h5
          obtain ⟨cd, T', _, hs1, hs2⟩ := uflip (w := w0) z i b (HI.out.1.below HB.out.2) (HI.out.2.2.1.below HB.out.2 HI.out.2.2.1.pos) (Nat.le_trans HI.out.2.2.2.1 HB.out.2.size) HI.out.2.2.2.2.2.2.2.2.2.1
          have HS1 := Lib.hid hs1
          have HS2 := Lib.hid hs2
          clear hs1 hs2
          have o1 := HB.out.1.o1
          have o2 := HB.out.1.o2
          have o3 := HB.out.1.o3
          go_wp2_with fail
          clear o0 o1 o2 o3
          refine HS1.out.mono ?_
          rintro e w3 ⟨ev, rfl, hEV, hN3, hst3⟩
          have hB3 := HB.out.1.step hst3
          have a0 := hB3.m.cell0
          have a1 := hB3.m.cell1
          have o1 := hB3.o1
          have o2 := hB3.o2
          have o3 := hB3.o3
          have hst : Step base w w3 := (Step.of_below HB.out.2 HI.out.2.2.2.1).trans hst3
          have hrs := HS2.out w3 v (HI.out.2.1.step hst)
          unfold rvf at hrs
          rw [HI.out.2.2.2.2.2.2.2.2.2.2.1, HI.out.2.2.2.2.2.2.2.2.2.2.2] at hrs
          have HRS := Lib.hid hrs
          have H3 := Lib.hid (And.intro hEV (And.intro hN3 (And.intro hB3 (And.intro hst (show w.heap.size + 3 ≤ w3.heap.size by have := hst3.below.size; have := HSZ.out; omega)))))
          clear hEV hN3 hst3 hB3 hst hrs HS1 HS2
          go_wp2_with fail
          clear a0 a1 o1 o2 o3
          refine HRS.out.mono ?_
          rintro e w4 ⟨v4, rfl, hR4, hb4⟩
          obtain ⟨B0, d0, B1, d1, q0, q1⟩ := hR4.vals
          unfold rvf
          rw [q0, q1]
          generalize (T' 0).length = m0 at *
          generalize (T' 1).length = m1 at *
          have hB4 := H3.out.2.2.1.below hb4
          have r0 := hB4.m.cell0
          have r1 := hB4.m.cell1
          have z0 := hB4.m.frozen 0
          have z1 := hB4.m.frozen 1
          have HM := Lib.hid (met_set H3.out.1 (H3.out.2.1.below hb4) hR4 q0 q1 hB4 (H3.out.2.2.2.1.trans (Step.of_below hb4 (Nat.le_trans HI.out.2.2.2.1 H3.out.2.2.2.1.below.size))) (Nat.le_trans H3.out.2.2.2.2 hb4.size) HI.out.2.2.2.1)
          clear hR4 hb4 q0 q1 hB4 H3 HRS
          go_wp2
          go_meet
          exact HM
        · by_cases h2 : kd = 2
          · subst h2
            obtain ⟨cd, T', t, _, hD1, hD2, hD3⟩ := udeliver (w := w) z i HI.out.1 HI.out.2.2.1 HI.out.2.2.2.1
            have hrs := hD3 w0 v (HI.out.2.1.below HB.out.2)
            unfold rvf at hrs
            rw [HI.out.2.2.2.2.2.2.2.2.2.2.1, HI.out.2.2.2.2.2.2.2.2.2.2.2] at hrs
            have HRS := Lib.hid hrs
            have HD := Lib.hid (And.intro hD1 hD2)
            clear hD1 hD2 hD3 hrs
            have a0 := HB.out.1.m.cell0
            have a1 := HB.out.1.m.cell1
            have o1 := HB.out.1.o1
            have o2 := HB.out.1.o2
            go_wp2_with fail
            clear a0 a1 o1 o2 o0
            refine HRS.out.mono ?_
            rintro e w1 ⟨v4, rfl, hR4, hb1⟩
            obtain ⟨B0, d0, B1, d1, q0, q1⟩ := hR4.vals
            unfold rvf
            rw [q0, q1]
            generalize (T' 0).length = m0 at *
            generalize (T' 1).length = m1 at *
            have hB1 := HB.out.1.below hb1
            have r0 := hB1.m.cell0
            have r1 := hB1.m.cell1
            have z0 := hB1.m.frozen 0
            have z1 := hB1.m.frozen 1
            have hbw1 : Below w.heap.size w ((w1.setCell ⟨w.heap.size, 0, none⟩ (.slice B0 m0 d0)).setCell ⟨w.heap.size, 1, none⟩ (.slice B1 m1 d1)) := ((HB.out.2.trans (hb1.mono HB.out.2.size)).setCell (p := ⟨w.heap.size, 0, none⟩) (Nat.le_refl _) _).setCell (p := ⟨w.heap.size, 1, none⟩) (Nat.le_refl _) _
            have hB2 := hB1.set (.slice B0 m0 d0) (.slice B1 m1 d1)
            have hR2 := (hR4.set29 (i := 0) hB1.m (.slice B0 m0 d0)).set29 (i := 1) (hB1.m.set0 _) (.slice B1 m1 d1)
            have o0 := hB2.o0
            have o1 := hB2.o1
            have o2 := hB2.o2
            have H2 := Lib.hid (And.intro hbw1 (And.intro hB2 (And.intro hR2 (And.intro q0 (And.intro q1 (show w.heap.size + 3 ≤ ((w1.setCell ⟨w.heap.size, 0, none⟩ (.slice B0 m0 d0)).setCell ⟨w.heap.size, 1, none⟩ (.slice B1 m1 d1)).heap.size by have := hb1.size; have := HSZ.out; simp [World.setCell]; omega))))))
            clear hR4 hb1 q0 q1 hB1 hbw1 hB2 hR2 HRS
            go_wp2_with fail
            clear o0 o1 o2
            generalize (w1.setCell ⟨w.heap.size, 0, none⟩ (.slice B0 m0 d0)).setCell ⟨w.heap.size, 1, none⟩ (.slice B1 m1 d1) = w2 at H2 ⊢
            refine (HD.out.1 w2 H2.out.1).mono ?_
            rintro e w5 ⟨A', n', d', ev, rfl, hEV, hcv5, hN5, hst5⟩
            have hcv := hcv5 w5 (Below.refl _ _)
            have HM := Lib.hid (show Met w base p (.int .i64 2) (.int .i64 z) (.int .i64 i) (.int .i64 b) (.slice A n c) ev (.int .i64 cd) w5 from ⟨cd, T', B0, m0, d0, B1, m1, d1, v4, rfl, hEV, hN5, H2.out.2.2.1.step hst5, H2.out.2.2.2.1, H2.out.2.2.2.2.1, H2.out.2.1.step hst5, (Step.of_below H2.out.1 HI.out.2.2.2.1).trans hst5, Nat.le_trans H2.out.2.2.2.2.2 hst5.below.size⟩)
            clear hEV hcv5 hN5 hst5 H2 HD
            go_wp2
            go_meet
            exact HM
          · by_cases h3 : kd = 3
            · subst h3
              obtain ⟨cd, T', t, _, hD1, hD2, hD3⟩ := udeliver (w := w) z i HI.out.1 HI.out.2.2.1 HI.out.2.2.2.1
              have hrs := hD3 w0 v (HI.out.2.1.below HB.out.2)
              unfold rvf at hrs
              rw [HI.out.2.2.2.2.2.2.2.2.2.2.1, HI.out.2.2.2.2.2.2.2.2.2.2.2] at hrs
              have HRS := Lib.hid hrs
              have HD := Lib.hid (And.intro hD1 hD2)
              clear hD1 hD2 hD3 hrs
              have a0 := HB.out.1.m.cell0
              have a1 := HB.out.1.m.cell1
              have o1 := HB.out.1.o1
              have o2 := HB.out.1.o2
              go_wp2_with fail
              clear a0 a1 o1 o2 o0
              refine HRS.out.mono ?_
              rintro e w1 ⟨v4, rfl, hR4, hb1⟩
              obtain ⟨B0, d0, B1, d1, q0, q1⟩ := hR4.vals
              unfold rvf
              rw [q0, q1]
              generalize (T' 0).length = m0 at *
              generalize (T' 1).length = m1 at *
              have hB1 := HB.out.1.below hb1
              have r0 := hB1.m.cell0
              have r1 := hB1.m.cell1
              have z0 := hB1.m.frozen 0
              have z1 := hB1.m.frozen 1
              have hbw1 : Below w.heap.size w ((w1.setCell ⟨w.heap.size, 0, none⟩ (.slice B0 m0 d0)).setCell ⟨w.heap.size, 1, none⟩ (.slice B1 m1 d1)) := ((HB.out.2.trans (hb1.mono HB.out.2.size)).setCell (p := ⟨w.heap.size, 0, none⟩) (Nat.le_refl _) _).setCell (p := ⟨w.heap.size, 1, none⟩) (Nat.le_refl _) _
              have hB2 := hB1.set (.slice B0 m0 d0) (.slice B1 m1 d1)
              have hR2 := (hR4.set29 (i := 0) hB1.m (.slice B0 m0 d0)).set29 (i := 1) (hB1.m.set0 _) (.slice B1 m1 d1)
              have o0 := hB2.o0
              have o1 := hB2.o1
              have o2 := hB2.o2
              have H2 := Lib.hid (And.intro hbw1 (And.intro hB2 (And.intro hR2 (And.intro q0 (And.intro q1 (show w.heap.size + 3 ≤ ((w1.setCell ⟨w.heap.size, 0, none⟩ (.slice B0 m0 d0)).setCell ⟨w.heap.size, 1, none⟩ (.slice B1 m1 d1)).heap.size by have := hb1.size; have := HSZ.out; simp [World.setCell]; omega))))))
              clear hR4 hb1 q0 q1 hB1 hbw1 hB2 hR2 HRS
              go_wp2_with fail
              clear o0 o1 o2
              generalize (w1.setCell ⟨w.heap.size, 0, none⟩ (.slice B0 m0 d0)).setCell ⟨w.heap.size, 1, none⟩ (.slice B1 m1 d1) = w2 at H2 ⊢
              refine (HD.out.2 w2 H2.out.1).mono ?_
              rintro e w5 ⟨ev, rfl, hEV, hN5, hst5⟩
              have HM := Lib.hid (show Met w base p (.int .i64 3) (.int .i64 z) (.int .i64 i) (.int .i64 b) (.slice A n c) ev (.int .i64 cd) w5 from ⟨cd, T', B0, m0, d0, B1, m1, d1, v4, rfl, hEV, hN5, H2.out.2.2.1.step hst5, H2.out.2.2.2.1, H2.out.2.2.2.2.1, H2.out.2.1.step hst5, (Step.of_below H2.out.1 HI.out.2.2.2.1).trans hst5, Nat.le_trans H2.out.2.2.2.2.2 hst5.below.size⟩)
              clear hEV hN5 hst5 H2 HD
              go_wp2
              go_meet
              exact HM
            · have b1 : (kd == 1) = false := by simpa using h1
              have b2 : (kd == 2) = false := by simpa using h2
              have b3 : (kd == 3) = false := by simpa using h3
              have b4 : (kd == 4) = false := by simpa using h4
              have b5 : (kd == 5) = false := by simpa using h5
              clear h1 h2 h3 h4 h5
              obtain ⟨cd, t, hs1, hs2⟩ := uat (w := w0) z i (HI.out.1.below HB.out.2) (HI.out.2.2.1.below HB.out.2 HI.out.2.2.1.pos) (Nat.le_trans HI.out.2.2.2.1 HB.out.2.size)
              have HS1 := Lib.hid hs1
              have HS2 := Lib.hid hs2
              clear hs1 hs2
              have o1 := HB.out.1.o1
              have o2 := HB.out.1.o2
              go_wp2_with fail
              clear o0 o1 o2
              refine HS1.out.mono ?_
              rintro e w3 ⟨A', n', d', ev, rfl, hEV, hcv3, hN3, hst3⟩
              have hB3 := HB.out.1.step hst3
              have a0 := hB3.m.cell0
              have a1 := hB3.m.cell1
              have o1 := hB3.o1
              have o2 := hB3.o2
              have hst : Step base w w3 := (Step.of_below HB.out.2 HI.out.2.2.2.1).trans hst3
              have hrs := HS2.out w3 v (HI.out.2.1.step hst)
              unfold rvf at hrs
              rw [HI.out.2.2.2.2.2.2.2.2.2.2.1, HI.out.2.2.2.2.2.2.2.2.2.2.2] at hrs
              have HRS := Lib.hid hrs
              have H3 := Lib.hid (And.intro hEV (And.intro hN3 (And.intro hB3 (And.intro hst (And.intro (show w.heap.size + 3 ≤ w3.heap.size by have := hst3.below.size; have := HSZ.out; omega) hcv3)))))
              clear hEV hN3 hst3 hB3 hst hrs HS1 HS2 hcv3
              go_wp2_with fail
              clear a0 a1 o1 o2
              refine HRS.out.mono ?_
              rintro e w4 ⟨rfl, hb4⟩
              have hcv := H3.out.2.2.2.2.2 w4 hb4
              have hst4 := H3.out.2.2.2.1.trans (Step.of_below hb4 (Nat.le_trans HI.out.2.2.2.1 H3.out.2.2.2.1.below.size))
              have HM := Lib.hid (show Met w base p (.int .i64 kd) (.int .i64 z) (.int .i64 i) (.int .i64 b) (.slice A n c) ev (.int .i64 cd) w4 from ⟨cd, T, A0, n0, c0, A1, n1, c1, v, rfl, H3.out.1, H3.out.2.1.below hb4, HI.out.2.1.step hst4, HI.out.2.2.2.2.2.2.2.2.2.2.1, HI.out.2.2.2.2.2.2.2.2.2.2.2, H3.out.2.2.1.below hb4, hst4, Nat.le_trans H3.out.2.2.2.2.1 hb4.size⟩)
              clear hb4 hst4 H3 HRS
              go_wp2
              go_meet
              exact HM
  case rest =>
    obtain ⟨cd, T', B0, m0, e0, B1, m1, e1, v', rfl, hEV, hN, hR, q0, q1, hB, hst, hsz⟩ := hcut.out
    clear hcut HB HSZ o0
    rcases hEV with ⟨rfl, rfl⟩ | ⟨ps, rfl, hc⟩
    · have HM := Lib.hid (And.intro hN (And.intro hR (And.intro q0 (And.intro q1 (And.intro hB (And.intro hst hsz))))))
      have hgw : Handle wc := HI.out.2.2.1.below hst.below HI.out.2.2.2.2.1
      have HC := Lib.hid (show ∀ w1, Below wc.heap.size wc w1 → Calls Tryd.prog 23 #[.nilIface] w1 (fun e w' => e = .returned (.int .i64 0) ∧ Below w1.heap.size w1 w') from fun w1 _ => (code_nil w1).mono (fun e w' h => ⟨h.1, h.2 ▸ Below.refl _ _⟩))
      have L0 := Lib.hid (Rf.len hR q0 q1)
      clear hN hR q0 q1 hB hst hsz hgw
      go_wp2
      refine wp_region_held_drew (S := fun w' => RN w' w.heap.size (.slice B0 m0 e0) (.slice B1 m1 e1)) (by kernel_rfl) (HM.out.2.2.2.2.1.m.heap rfl) (fun hHeld => ?_)
      have HD := Lib.hid (show Below wc.heap.size wc wc.drew from (Below.refl _ _).drew)
      generalize wc.drew = wd at hHeld HD ⊢
      refine wpAnyH_take (i := 0) (v := .agg #[.slice B0 m0 e0, .slice B1 m1 e1]) rfl (by kernel_rfl) (by kernel_rfl) (by kernel_rfl) (fun _ _ _ h => h) (.inl ⟨rfl, fun w' hw' => by have d0 := hw'.cell0; have d1 := hw'.cell1; go_simp⟩) hHeld ?_
      try simp only [List.getElem_toArray, List.getElem_cons_zero, Act.put, List.setIfInBounds_toArray, List.set_cons_zero, List.set_cons_succ]
      refine wpAnyH_take (i := 1) (v := .nilIface) rfl (by kernel_rfl) (by kernel_rfl) (by kernel_rfl) (fun _ _ _ h => h) (.inl ⟨rfl, fun w' hw' => by go_simp⟩) hHeld ?_
      try simp only [List.getElem_toArray, List.getElem_cons_succ, List.getElem_cons_zero, Act.put, List.setIfInBounds_toArray, List.set_cons_zero, List.set_cons_succ]
      refine wpAnyH_take (i := 3) (v := .int .i64 0) rfl (by kernel_rfl) (by kernel_rfl) (by kernel_rfl) (fun _ _ _ h => h) (.inl ⟨rfl, fun w' hw' => by go_simp⟩) hHeld ?_
      try simp only [List.getElem_toArray, List.getElem_cons_succ, List.getElem_cons_zero, Act.put, List.setIfInBounds_toArray, List.set_cons_zero, List.set_cons_succ]
      refine wpAnyH_ready (rs := [2]) (by kernel_rfl) (by simp) ?_
      refine AllReadyH.cons rfl (fun K hK => ?_) AllReadyH.nil
      rw [if_pos (by rfl)]
      go_simp
      refine (HC.out wd HD.out).mono ?_
      rintro e w1 ⟨rfl, hb1⟩
      have H1 := Lib.hid (show Below wc.heap.size wc w1 from HD.out.trans (hb1.mono HD.out.size))
      refine hK.out _ _ (HM.out.2.2.2.2.1.m.below H1.out HM.out.2.2.2.2.1.m.lt) (fun hHeld1 => ?_)
      clear hK K hHeld hb1
      try simp only [List.getElem_toArray, List.getElem_cons_succ, List.getElem_cons_zero, Act.put, List.setIfInBounds_toArray, List.set_cons_zero, List.set_cons_succ]
      refine wpAnyH_take (i := 4) (v := .bool true) rfl (by kernel_rfl) (by kernel_rfl) (by kernel_rfl) (fun _ _ _ h => h) (.inl ⟨rfl, fun w' hw' => by go_simp⟩) hHeld1 ?_
      try simp only [List.getElem_toArray, List.getElem_cons_succ, List.getElem_cons_zero, Act.put, List.setIfInBounds_toArray, List.set_cons_zero, List.set_cons_succ]
      refine wpAnyH_take (i := 5) (v := .bool true) rfl (by kernel_rfl) (by kernel_rfl) (by kernel_rfl) (fun _ _ _ h => h) (.inl ⟨rfl, fun w' hw' => by go_simp⟩) hHeld1 ?_
      try simp only [List.getElem_toArray, List.getElem_cons_succ, List.getElem_cons_zero, Act.put, List.setIfInBounds_toArray, List.set_cons_zero, List.set_cons_succ]
      refine wpAnyH_take (i := 6) (v := .nilIface) rfl (by kernel_rfl) (by kernel_rfl) (by kernel_rfl) (fun _ _ _ h => h) (.inl ⟨rfl, fun w' hw' => by go_simp⟩) hHeld1 ?_
      try simp only [List.getElem_toArray, List.getElem_cons_succ, List.getElem_cons_zero, Act.put, List.setIfInBounds_toArray, List.set_cons_zero, List.set_cons_succ]
      refine wpAnyH_take (i := 7) (v := .bool true) rfl (by kernel_rfl) (by kernel_rfl) (by kernel_rfl) (fun _ _ _ h => h) (.inl ⟨rfl, fun w' hw' => by go_simp⟩) hHeld1 ?_
      try simp only [List.getElem_toArray, List.getElem_cons_succ, List.getElem_cons_zero, Act.put, List.setIfInBounds_toArray, List.set_cons_zero, List.set_cons_succ]
      refine wpAnyH_take (i := 8) (v := .int .i64 0) rfl (by kernel_rfl) (by kernel_rfl) (by kernel_rfl) (fun _ _ _ h => h) (.inl ⟨rfl, fun w' hw' => by go_simp⟩) hHeld1 ?_
      try simp only [List.getElem_toArray, List.getElem_cons_succ, List.getElem_cons_zero, Act.put, List.setIfInBounds_toArray, List.set_cons_zero, List.set_cons_succ]
      refine wpAnyH_take (i := 9) (v := .bool true) rfl (by kernel_rfl) (by kernel_rfl) (by kernel_rfl) (fun _ _ _ h => h) (.inl ⟨rfl, fun w' hw' => by go_simp⟩) hHeld1 ?_
      try simp only [List.getElem_toArray, List.getElem_cons_succ, List.getElem_cons_zero, Act.put, List.setIfInBounds_toArray, List.set_cons_zero, List.set_cons_succ]
      refine wpAnyH_take (i := 10) (v := .bool true) rfl (by kernel_rfl) (by kernel_rfl) (by kernel_rfl) (fun _ _ _ h => h) (.inl ⟨rfl, fun w' hw' => by go_simp⟩) hHeld1 ?_
      try simp only [List.getElem_toArray, List.getElem_cons_succ, List.getElem_cons_zero, Act.put, List.setIfInBounds_toArray, List.set_cons_zero, List.set_cons_succ]
      refine wpAnyH_take (i := 11) (v := .bool true) rfl (by kernel_rfl) (by kernel_rfl) (by kernel_rfl) (fun _ _ _ h => h) (.inl ⟨rfl, fun w' hw' => by go_simp⟩) hHeld1 ?_
      try simp only [List.getElem_toArray, List.getElem_cons_succ, List.getElem_cons_zero, Act.put, List.setIfInBounds_toArray, List.set_cons_zero, List.set_cons_succ]
      refine wpAnyH_take (i := 12) (v := .bool true) rfl (by kernel_rfl) (by kernel_rfl) (by kernel_rfl) (fun _ _ _ h => h) (.inl ⟨rfl, fun w' hw' => by go_simp⟩) hHeld1 ?_
      try simp only [List.getElem_toArray, List.getElem_cons_succ, List.getElem_cons_zero, Act.put, List.setIfInBounds_toArray, List.set_cons_zero, List.set_cons_succ]
      refine wpAnyH_take (i := 13) (v := .pointer (some ⟨p, 0, none⟩)) rfl (by kernel_rfl) (by kernel_rfl) (by kernel_rfl) (fun _ _ _ h => h) (.inl ⟨rfl, fun w' hw' => by go_simp⟩) hHeld1 ?_
      try simp only [List.getElem_toArray, List.getElem_cons_succ, List.getElem_cons_zero, Act.put, List.setIfInBounds_toArray, List.set_cons_zero, List.set_cons_succ]
      refine wpAnyH_take (i := 15) (v := .pointer (some ⟨w.heap.size, 0, none⟩)) rfl (by kernel_rfl) (by kernel_rfl) (by kernel_rfl) (fun _ _ _ h => h) (.inl ⟨rfl, fun w' hw' => by go_simp⟩) hHeld1 ?_
      try simp only [List.getElem_toArray, List.getElem_cons_succ, List.getElem_cons_zero, Act.put, List.setIfInBounds_toArray, List.set_cons_zero, List.set_cons_succ]
      refine wpAnyH_take (i := 16) (v := .pointer (some ⟨w.heap.size, 0, none⟩)) rfl (by kernel_rfl) (by kernel_rfl) (by kernel_rfl) (fun _ _ _ h => h) (.inl ⟨rfl, fun w' hw' => by go_simp⟩) hHeld1 ?_
      try simp only [List.getElem_toArray, List.getElem_cons_succ, List.getElem_cons_zero, Act.put, List.setIfInBounds_toArray, List.set_cons_zero, List.set_cons_succ]
      refine wpAnyH_take (i := 17) (v := .slice B0 m0 e0) rfl (by kernel_rfl) (by kernel_rfl) (by kernel_rfl) (fun _ _ _ h => h) (.inl ⟨rfl, fun w' hw' => by have d0 := hw'.cell0; have d1 := hw'.cell1; go_simp⟩) hHeld1 ?_
      try simp only [List.getElem_toArray, List.getElem_cons_succ, List.getElem_cons_zero, Act.put, List.setIfInBounds_toArray, List.set_cons_zero, List.set_cons_succ]
      refine wpAnyH_take (i := 18) (v := .int .i64 (m0 : Int)) rfl (by kernel_rfl) (by kernel_rfl) (by kernel_rfl) (fun _ _ _ h => h) (.inl ⟨rfl, fun w' hw' => by go_simp⟩) hHeld1 ?_
      try simp only [List.getElem_toArray, List.getElem_cons_succ, List.getElem_cons_zero, Act.put, List.setIfInBounds_toArray, List.set_cons_zero, List.set_cons_succ]
      refine wpAnyH_ready (rs := [14]) (by kernel_rfl) (by simp) ?_
      refine AllReadyH.cons rfl (fun K hK => ?_) AllReadyH.nil
      rw [if_pos (by rfl)]
      go_simp
      have hl0 := nlen_ok (k := 0) (HM.out.1.below H1.out) (by omega)
      rw [← L0.out.1] at hl0
      refine hl0.mono ?_
      rintro e w2 ⟨rfl, rfl⟩
      refine hK.out _ _ hHeld1 (fun hHeld2 => ?_)
      clear hK K hl0 hHeld1
      try simp only [List.getElem_toArray, List.getElem_cons_succ, List.getElem_cons_zero, Act.put, List.setIfInBounds_toArray, List.set_cons_zero, List.set_cons_succ]
      refine wpAnyH_take (i := 19) (v := .bool true) rfl (by kernel_rfl) (by kernel_rfl) (by kernel_rfl) (fun _ _ _ h => h) (.inl ⟨rfl, fun w' hw' => by go_simp⟩) hHeld2 ?_
      try simp only [List.getElem_toArray, List.getElem_cons_succ, List.getElem_cons_zero, Act.put, List.setIfInBounds_toArray, List.set_cons_zero, List.set_cons_succ]
      refine wpAnyH_take (i := 20) (v := .bool true) rfl (by kernel_rfl) (by kernel_rfl) (by kernel_rfl) (fun _ _ _ h => h) (.inl ⟨rfl, fun w' hw' => by go_simp⟩) hHeld2 ?_
      try simp only [List.getElem_toArray, List.getElem_cons_succ, List.getElem_cons_zero, Act.put, List.setIfInBounds_toArray, List.set_cons_zero, List.set_cons_succ]
      refine wpAnyH_take (i := 21) (v := .bool true) rfl (by kernel_rfl) (by kernel_rfl) (by kernel_rfl) (fun _ _ _ h => h) (.inl ⟨rfl, fun w' hw' => by go_simp⟩) hHeld2 ?_
      try simp only [List.getElem_toArray, List.getElem_cons_succ, List.getElem_cons_zero, Act.put, List.setIfInBounds_toArray, List.set_cons_zero, List.set_cons_succ]
      refine wpAnyH_take (i := 22) (v := .pointer (some ⟨p, 0, none⟩)) rfl (by kernel_rfl) (by kernel_rfl) (by kernel_rfl) (fun _ _ _ h => h) (.inl ⟨rfl, fun w' hw' => by go_simp⟩) hHeld2 ?_
      try simp only [List.getElem_toArray, List.getElem_cons_succ, List.getElem_cons_zero, Act.put, List.setIfInBounds_toArray, List.set_cons_zero, List.set_cons_succ]
      refine wpAnyH_take (i := 24) (v := .pointer (some ⟨w.heap.size, 0, none⟩)) rfl (by kernel_rfl) (by kernel_rfl) (by kernel_rfl) (fun _ _ _ h => h) (.inl ⟨rfl, fun w' hw' => by go_simp⟩) hHeld2 ?_
      try simp only [List.getElem_toArray, List.getElem_cons_succ, List.getElem_cons_zero, Act.put, List.setIfInBounds_toArray, List.set_cons_zero, List.set_cons_succ]
      refine wpAnyH_take (i := 25) (v := .pointer (some ⟨w.heap.size, 1, none⟩)) rfl (by kernel_rfl) (by kernel_rfl) (by kernel_rfl) (fun _ _ _ h => h) (.inl ⟨rfl, fun w' hw' => by go_simp⟩) hHeld2 ?_
      try simp only [List.getElem_toArray, List.getElem_cons_succ, List.getElem_cons_zero, Act.put, List.setIfInBounds_toArray, List.set_cons_zero, List.set_cons_succ]
      refine wpAnyH_take (i := 26) (v := .slice B1 m1 e1) rfl (by kernel_rfl) (by kernel_rfl) (by kernel_rfl) (fun _ _ _ h => h) (.inl ⟨rfl, fun w' hw' => by have d0 := hw'.cell0; have d1 := hw'.cell1; go_simp⟩) hHeld2 ?_
      try simp only [List.getElem_toArray, List.getElem_cons_succ, List.getElem_cons_zero, Act.put, List.setIfInBounds_toArray, List.set_cons_zero, List.set_cons_succ]
      refine wpAnyH_take (i := 27) (v := .int .i64 (m1 : Int)) rfl (by kernel_rfl) (by kernel_rfl) (by kernel_rfl) (fun _ _ _ h => h) (.inl ⟨rfl, fun w' hw' => by go_simp⟩) hHeld2 ?_
      try simp only [List.getElem_toArray, List.getElem_cons_succ, List.getElem_cons_zero, Act.put, List.setIfInBounds_toArray, List.set_cons_zero, List.set_cons_succ]
      refine wpAnyH_ready (rs := [23]) (by kernel_rfl) (by simp) ?_
      refine AllReadyH.cons rfl (fun K hK => ?_) AllReadyH.nil
      rw [if_pos (by rfl)]
      go_simp
      have hl1 := nlen_ok (k := 1) (HM.out.1.below H1.out) (by omega)
      rw [← L0.out.2] at hl1
      refine hl1.mono ?_
      rintro e w2 ⟨rfl, rfl⟩
      refine hK.out _ _ hHeld2 (fun hHeld3 => ?_)
      clear hK K hl1 hHeld2
      try simp only [List.getElem_toArray, List.getElem_cons_succ, List.getElem_cons_zero, Act.put, List.setIfInBounds_toArray, List.set_cons_zero, List.set_cons_succ]
      refine wpAnyH_take (i := 28) (v := .bool true) rfl (by kernel_rfl) (by kernel_rfl) (by kernel_rfl) (fun _ _ _ h => h) (.inl ⟨rfl, fun w' hw' => by go_simp⟩) hHeld3 ?_
      try simp only [List.getElem_toArray, List.getElem_cons_succ, List.getElem_cons_zero, Act.put, List.setIfInBounds_toArray, List.set_cons_zero, List.set_cons_succ]
      refine wpAnyH_take (i := 29) (v := .bool true) rfl (by kernel_rfl) (by kernel_rfl) (by kernel_rfl) (fun _ _ _ h => h) (.inl ⟨rfl, fun w' hw' => by go_simp⟩) hHeld3 ?_
      try simp only [List.getElem_toArray, List.getElem_cons_succ, List.getElem_cons_zero, Act.put, List.setIfInBounds_toArray, List.set_cons_zero, List.set_cons_succ]
      have hr2 := HM.out.2.2.2.2.1.r.below H1.out HM.out.2.2.2.2.1.r.lt
      have r0 : w1.cell? ⟨w.heap.size + 1 + 1, 0, none⟩ = some nilS := hr2.cell0
      have r1 : w1.cell? ⟨w.heap.size + 1 + 1, 1, none⟩ = some nilS := hr2.cell1
      have z0 : w1.frozen? ⟨w.heap.size + 1 + 1, 0, none⟩ = false := hr2.frozen 0
      have z1 : w1.frozen? ⟨w.heap.size + 1 + 1, 1, none⟩ = false := hr2.frozen 1
      have hm1 : RN ((w1.setCell ⟨w.heap.size + 1 + 1, 0, none⟩ (.slice B0 m0 e0)).setCell ⟨w.heap.size + 1 + 1, 1, none⟩ (.slice B1 m1 e1)) w.heap.size (.slice B0 m0 e0) (.slice B1 m1 e1) := ((HM.out.2.2.2.2.1.m.below H1.out HM.out.2.2.2.2.1.m.lt).far (p := ⟨w.heap.size + 1 + 1, 0, none⟩) (by show w.heap.size ≠ w.heap.size + 1 + 1; omega) _).far (p := ⟨w.heap.size + 1 + 1, 1, none⟩) (by show w.heap.size ≠ w.heap.size + 1 + 1; omega) _
      have HE := Lib.hid (And.intro (And.intro ((HM.out.1.below H1.out).set29 (j := 0) hr2 (.slice B0 m0 e0)) (And.intro ((HM.out.2.1.below H1.out).set29 (i := 0) hr2 (.slice B0 m0 e0)) ((HM.out.2.2.2.2.2.1.trans (Step.of_below H1.out (Nat.le_trans HI.out.2.2.2.1 HM.out.2.2.2.2.2.1.below.size))).set (q := ⟨w.heap.size + 1 + 1, 0, none⟩) (by show w.heap.size ≤ w.heap.size + 1 + 1; omega) (by show base ≤ w.heap.size + 1 + 1; have := HI.out.2.2.2.1; omega) (.slice B0 m0 e0)))) (And.intro (hr2.set0 (.slice B0 m0 e0)) (hr2.set (.slice B0 m0 e0) (.slice B1 m1 e1))))
      clear hr2
      refine wpAnyH_ready (rs := [30]) (by kernel_rfl) (by simp) ?_
      refine AllReadyH.cons rfl (fun K hK => ?_) AllReadyH.nil
      rw [if_pos (by rfl)]
      go_simp
      refine hK.out _ _ hm1 (fun hHeld4 => ?_)
      clear hK K hHeld3 hm1
      try simp only [List.getElem_toArray, List.getElem_cons_succ, List.getElem_cons_zero, Act.put, List.setIfInBounds_toArray, List.set_cons_zero, List.set_cons_succ]
      refine wpAnyH_ready (rs := [31]) (by kernel_rfl) (by simp) ?_
      refine AllReadyH.cons rfl (fun K hK => ?_) AllReadyH.nil
      rw [if_pos (by rfl)]
      go_simp
      refine hK.out _ _ hHeld4 (fun _ => ?_)
      clear hK K hHeld4
      refine wpAnyH_done (by kernel_rfl) ?_ _
      try simp only [List.getElem_toArray, List.getElem_cons_succ, List.getElem_cons_zero, Act.put, List.setIfInBounds_toArray, List.set_cons_zero, List.set_cons_succ]
      go_wp2
      have s0 : ((w1.setCell ⟨w.heap.size + 1 + 1, 0, none⟩ (.slice B0 m0 e0)).setCell ⟨w.heap.size + 1 + 1, 1, none⟩ (.slice B1 m1 e1)).cell? ⟨w.heap.size + 1 + 1, 0, none⟩ = some (.slice B0 m0 e0) := HE.out.2.2.cell0
      have s1 : ((w1.setCell ⟨w.heap.size + 1 + 1, 0, none⟩ (.slice B0 m0 e0)).setCell ⟨w.heap.size + 1 + 1, 1, none⟩ (.slice B1 m1 e1)).cell? ⟨w.heap.size + 1 + 1, 1, none⟩ = some (.slice B1 m1 e1) := HE.out.2.2.cell1
      refine bodyPost_ret (v := .tuple #[rv (.slice B0 m0 e0) (.slice B1 m1 e1), .bool true]) (by simp [results, Tryd.results9, go_sem, s0, s1]) rfl ?_
      exact ⟨v', T', by rw [← HM.out.2.2.1, ← HM.out.2.2.2.1], HE.out.1.1.set29 (j := 1) HE.out.2.1 _, HE.out.1.2.1.set29 (i := 1) HE.out.2.1 _, HE.out.1.2.2.set (q := ⟨w.heap.size + 1 + 1, 1, none⟩) (by show w.heap.size ≤ w.heap.size + 1 + 1; omega) (by show base ≤ w.heap.size + 1 + 1; have := HI.out.2.2.2.1; omega) _⟩
    · obtain ⟨TT, uu, hT⟩ := chain_iface ps cd
      have kz : (cd == 0) = false := by simpa using hc
      have HM := Lib.hid (And.intro hN (And.intro hR (And.intro q0 (And.intro q1 (And.intro hB (And.intro hst hsz))))))
      have hgw : Handle wc := HI.out.2.2.1.below hst.below HI.out.2.2.2.2.1
      have HC := Lib.hid (show ∀ w1, Below wc.heap.size wc w1 → Calls Tryd.prog 23 #[.iface TT uu] w1 (fun e w' => e = .returned (.int .i64 cd) ∧ Below w1.heap.size w1 w') from fun w1 h => by rw [← hT]; exact code_chain ps cd w1 (hgw.below h hgw.pos))
      have L0 := Lib.hid (Rf.len hR q0 q1)
      rw [hT]
      clear hT hc hN hR q0 q1 hB hst hsz hgw
      go_wp2
      refine wp_region_held_drew (S := fun w' => RN w' w.heap.size (.slice B0 m0 e0) (.slice B1 m1 e1)) (by kernel_rfl) (HM.out.2.2.2.2.1.m.heap rfl) (fun hHeld => ?_)
      have HD := Lib.hid (show Below wc.heap.size wc wc.drew from (Below.refl _ _).drew)
      generalize wc.drew = wd at hHeld HD ⊢
      refine wpAnyH_take (i := 0) (v := .agg #[.slice B0 m0 e0, .slice B1 m1 e1]) rfl (by kernel_rfl) (by kernel_rfl) (by kernel_rfl) (fun _ _ _ h => h) (.inl ⟨rfl, fun w' hw' => by have d0 := hw'.cell0; have d1 := hw'.cell1; go_simp⟩) hHeld ?_
      try simp only [List.getElem_toArray, List.getElem_cons_zero, Act.put, List.setIfInBounds_toArray, List.set_cons_zero, List.set_cons_succ]
      refine wpAnyH_take (i := 1) (v := .iface TT uu) rfl (by kernel_rfl) (by kernel_rfl) (by kernel_rfl) (fun _ _ _ h => h) (.inl ⟨rfl, fun w' hw' => by go_simp⟩) hHeld ?_
      try simp only [List.getElem_toArray, List.getElem_cons_succ, List.getElem_cons_zero, Act.put, List.setIfInBounds_toArray, List.set_cons_zero, List.set_cons_succ]
      refine wpAnyH_take (i := 3) (v := .int .i64 cd) rfl (by kernel_rfl) (by kernel_rfl) (by kernel_rfl) (fun _ _ _ h => h) (.inl ⟨rfl, fun w' hw' => by go_simp⟩) hHeld ?_
      try simp only [List.getElem_toArray, List.getElem_cons_succ, List.getElem_cons_zero, Act.put, List.setIfInBounds_toArray, List.set_cons_zero, List.set_cons_succ]
      refine wpAnyH_ready (rs := [2]) (by kernel_rfl) (by simp) ?_
      refine AllReadyH.cons rfl (fun K hK => ?_) AllReadyH.nil
      rw [if_pos (by rfl)]
      go_simp
      refine (HC.out wd HD.out).mono ?_
      rintro e w1 ⟨rfl, hb1⟩
      have H1 := Lib.hid (show Below wc.heap.size wc w1 from HD.out.trans (hb1.mono HD.out.size))
      refine hK.out _ _ (HM.out.2.2.2.2.1.m.below H1.out HM.out.2.2.2.2.1.m.lt) (fun hHeld1 => ?_)
      clear hK K hHeld hb1
      try simp only [List.getElem_toArray, List.getElem_cons_succ, List.getElem_cons_zero, Act.put, List.setIfInBounds_toArray, List.set_cons_zero, List.set_cons_succ]
      refine wpAnyH_take (i := 4) (v := .bool true) rfl (by kernel_rfl) (by kernel_rfl) (by kernel_rfl) (fun _ _ _ h => h) (.inl ⟨rfl, fun w' hw' => by go_simp⟩) hHeld1 ?_
      try simp only [List.getElem_toArray, List.getElem_cons_succ, List.getElem_cons_zero, Act.put, List.setIfInBounds_toArray, List.set_cons_zero, List.set_cons_succ]
      refine wpAnyH_take (i := 5) (v := .bool true) rfl (by kernel_rfl) (by kernel_rfl) (by kernel_rfl) (fun _ _ _ h => h) (.inl ⟨rfl, fun w' hw' => by go_simp⟩) hHeld1 ?_
      try simp only [List.getElem_toArray, List.getElem_cons_succ, List.getElem_cons_zero, Act.put, List.setIfInBounds_toArray, List.set_cons_zero, List.set_cons_succ]
      refine wpAnyH_take (i := 6) (v := .iface TT uu) rfl (by kernel_rfl) (by kernel_rfl) (by kernel_rfl) (fun _ _ _ h => h) (.inl ⟨rfl, fun w' hw' => by go_simp⟩) hHeld1 ?_
      try simp only [List.getElem_toArray, List.getElem_cons_succ, List.getElem_cons_zero, Act.put, List.setIfInBounds_toArray, List.set_cons_zero, List.set_cons_succ]
      refine wpAnyH_take (i := 7) (v := .bool false) rfl (by kernel_rfl) (by kernel_rfl) (by kernel_rfl) (fun _ _ _ h => h) (.inl ⟨rfl, fun w' hw' => by go_simp⟩) hHeld1 ?_
      try simp only [List.getElem_toArray, List.getElem_cons_succ, List.getElem_cons_zero, Act.put, List.setIfInBounds_toArray, List.set_cons_zero, List.set_cons_succ]
      refine wpAnyH_take (i := 8) (v := .int .i64 cd) rfl (by kernel_rfl) (by kernel_rfl) (by kernel_rfl) (fun _ _ _ h => h) (.inl ⟨rfl, fun w' hw' => by go_simp⟩) hHeld1 ?_
      try simp only [List.getElem_toArray, List.getElem_cons_succ, List.getElem_cons_zero, Act.put, List.setIfInBounds_toArray, List.set_cons_zero, List.set_cons_succ]
      refine wpAnyH_take (i := 9) (v := .bool false) rfl (by kernel_rfl) (by kernel_rfl) (by kernel_rfl) (fun _ _ _ h => h) (.inl ⟨rfl, fun w' hw' => by go_simp⟩) hHeld1 ?_
      try simp only [List.getElem_toArray, List.getElem_cons_succ, List.getElem_cons_zero, Act.put, List.setIfInBounds_toArray, List.set_cons_zero, List.set_cons_succ]
      refine wpAnyH_take (i := 10) (v := .bool true) rfl (by kernel_rfl) (by kernel_rfl) (by kernel_rfl) (fun _ _ _ h => h) (.inl ⟨rfl, fun w' hw' => by go_simp⟩) hHeld1 ?_
      try simp only [List.getElem_toArray, List.getElem_cons_succ, List.getElem_cons_zero, Act.put, List.setIfInBounds_toArray, List.set_cons_zero, List.set_cons_succ]
      refine wpAnyH_take (i := 11) (v := .bool true) rfl (by kernel_rfl) (by kernel_rfl) (by kernel_rfl) (fun _ _ _ h => h) (.inl ⟨rfl, fun w' hw' => by go_simp⟩) hHeld1 ?_
      try simp only [List.getElem_toArray, List.getElem_cons_succ, List.getElem_cons_zero, Act.put, List.setIfInBounds_toArray, List.set_cons_zero, List.set_cons_succ]
      refine wpAnyH_take (i := 12) (v := .bool true) rfl (by kernel_rfl) (by kernel_rfl) (by kernel_rfl) (fun _ _ _ h => h) (.inl ⟨rfl, fun w' hw' => by go_simp⟩) hHeld1 ?_
      try simp only [List.getElem_toArray, List.getElem_cons_succ, List.getElem_cons_zero, Act.put, List.setIfInBounds_toArray, List.set_cons_zero, List.set_cons_succ]
      refine wpAnyH_take (i := 13) (v := .pointer (some ⟨p, 0, none⟩)) rfl (by kernel_rfl) (by kernel_rfl) (by kernel_rfl) (fun _ _ _ h => h) (.inl ⟨rfl, fun w' hw' => by go_simp⟩) hHeld1 ?_
      try simp only [List.getElem_toArray, List.getElem_cons_succ, List.getElem_cons_zero, Act.put, List.setIfInBounds_toArray, List.set_cons_zero, List.set_cons_succ]
      refine wpAnyH_take (i := 15) (v := .pointer (some ⟨w.heap.size, 0, none⟩)) rfl (by kernel_rfl) (by kernel_rfl) (by kernel_rfl) (fun _ _ _ h => h) (.inl ⟨rfl, fun w' hw' => by go_simp⟩) hHeld1 ?_
      try simp only [List.getElem_toArray, List.getElem_cons_succ, List.getElem_cons_zero, Act.put, List.setIfInBounds_toArray, List.set_cons_zero, List.set_cons_succ]
      refine wpAnyH_take (i := 16) (v := .pointer (some ⟨w.heap.size, 0, none⟩)) rfl (by kernel_rfl) (by kernel_rfl) (by kernel_rfl) (fun _ _ _ h => h) (.inl ⟨rfl, fun w' hw' => by go_simp⟩) hHeld1 ?_
      try simp only [List.getElem_toArray, List.getElem_cons_succ, List.getElem_cons_zero, Act.put, List.setIfInBounds_toArray, List.set_cons_zero, List.set_cons_succ]
      refine wpAnyH_take (i := 17) (v := .slice B0 m0 e0) rfl (by kernel_rfl) (by kernel_rfl) (by kernel_rfl) (fun _ _ _ h => h) (.inl ⟨rfl, fun w' hw' => by have d0 := hw'.cell0; have d1 := hw'.cell1; go_simp⟩) hHeld1 ?_
      try simp only [List.getElem_toArray, List.getElem_cons_succ, List.getElem_cons_zero, Act.put, List.setIfInBounds_toArray, List.set_cons_zero, List.set_cons_succ]
      refine wpAnyH_take (i := 18) (v := .int .i64 (m0 : Int)) rfl (by kernel_rfl) (by kernel_rfl) (by kernel_rfl) (fun _ _ _ h => h) (.inl ⟨rfl, fun w' hw' => by go_simp⟩) hHeld1 ?_
      try simp only [List.getElem_toArray, List.getElem_cons_succ, List.getElem_cons_zero, Act.put, List.setIfInBounds_toArray, List.set_cons_zero, List.set_cons_succ]
      refine wpAnyH_ready (rs := [14]) (by kernel_rfl) (by simp) ?_
      refine AllReadyH.cons rfl (fun K hK => ?_) AllReadyH.nil
      rw [if_pos (by rfl)]
      go_simp
      have hl0 := nlen_ok (k := 0) (HM.out.1.below H1.out) (by omega)
      rw [← L0.out.1] at hl0
      refine hl0.mono ?_
      rintro e w2 ⟨rfl, rfl⟩
      refine hK.out _ _ hHeld1 (fun hHeld2 => ?_)
      clear hK K hl0 hHeld1
      try simp only [List.getElem_toArray, List.getElem_cons_succ, List.getElem_cons_zero, Act.put, List.setIfInBounds_toArray, List.set_cons_zero, List.set_cons_succ]
      refine wpAnyH_take (i := 19) (v := .bool true) rfl (by kernel_rfl) (by kernel_rfl) (by kernel_rfl) (fun _ _ _ h => h) (.inl ⟨rfl, fun w' hw' => by go_simp⟩) hHeld2 ?_
      try simp only [List.getElem_toArray, List.getElem_cons_succ, List.getElem_cons_zero, Act.put, List.setIfInBounds_toArray, List.set_cons_zero, List.set_cons_succ]
      refine wpAnyH_take (i := 20) (v := .bool true) rfl (by kernel_rfl) (by kernel_rfl) (by kernel_rfl) (fun _ _ _ h => h) (.inl ⟨rfl, fun w' hw' => by go_simp⟩) hHeld2 ?_
      try simp only [List.getElem_toArray, List.getElem_cons_succ, List.getElem_cons_zero, Act.put, List.setIfInBounds_toArray, List.set_cons_zero, List.set_cons_succ]
      refine wpAnyH_take (i := 21) (v := .bool true) rfl (by kernel_rfl) (by kernel_rfl) (by kernel_rfl) (fun _ _ _ h => h) (.inl ⟨rfl, fun w' hw' => by go_simp⟩) hHeld2 ?_
      try simp only [List.getElem_toArray, List.getElem_cons_succ, List.getElem_cons_zero, Act.put, List.setIfInBounds_toArray, List.set_cons_zero, List.set_cons_succ]
      refine wpAnyH_take (i := 22) (v := .pointer (some ⟨p, 0, none⟩)) rfl (by kernel_rfl) (by kernel_rfl) (by kernel_rfl) (fun _ _ _ h => h) (.inl ⟨rfl, fun w' hw' => by go_simp⟩) hHeld2 ?_
      try simp only [List.getElem_toArray, List.getElem_cons_succ, List.getElem_cons_zero, Act.put, List.setIfInBounds_toArray, List.set_cons_zero, List.set_cons_succ]
      refine wpAnyH_take (i := 24) (v := .pointer (some ⟨w.heap.size, 0, none⟩)) rfl (by kernel_rfl) (by kernel_rfl) (by kernel_rfl) (fun _ _ _ h => h) (.inl ⟨rfl, fun w' hw' => by go_simp⟩) hHeld2 ?_
      try simp only [List.getElem_toArray, List.getElem_cons_succ, List.getElem_cons_zero, Act.put, List.setIfInBounds_toArray, List.set_cons_zero, List.set_cons_succ]
      refine wpAnyH_take (i := 25) (v := .pointer (some ⟨w.heap.size, 1, none⟩)) rfl (by kernel_rfl) (by kernel_rfl) (by kernel_rfl) (fun _ _ _ h => h) (.inl ⟨rfl, fun w' hw' => by go_simp⟩) hHeld2 ?_
      try simp only [List.getElem_toArray, List.getElem_cons_succ, List.getElem_cons_zero, Act.put, List.setIfInBounds_toArray, List.set_cons_zero, List.set_cons_succ]
      refine wpAnyH_take (i := 26) (v := .slice B1 m1 e1) rfl (by kernel_rfl) (by kernel_rfl) (by kernel_rfl) (fun _ _ _ h => h) (.inl ⟨rfl, fun w' hw' => by have d0 := hw'.cell0; have d1 := hw'.cell1; go_simp⟩) hHeld2 ?_
      try simp only [List.getElem_toArray, List.getElem_cons_succ, List.getElem_cons_zero, Act.put, List.setIfInBounds_toArray, List.set_cons_zero, List.set_cons_succ]
      refine wpAnyH_take (i := 27) (v := .int .i64 (m1 : Int)) rfl (by kernel_rfl) (by kernel_rfl) (by kernel_rfl) (fun _ _ _ h => h) (.inl ⟨rfl, fun w' hw' => by go_simp⟩) hHeld2 ?_
      try simp only [List.getElem_toArray, List.getElem_cons_succ, List.getElem_cons_zero, Act.put, List.setIfInBounds_toArray, List.set_cons_zero, List.set_cons_succ]
      refine wpAnyH_ready (rs := [23]) (by kernel_rfl) (by simp) ?_
      refine AllReadyH.cons rfl (fun K hK => ?_) AllReadyH.nil
      rw [if_pos (by rfl)]
      go_simp
      have hl1 := nlen_ok (k := 1) (HM.out.1.below H1.out) (by omega)
      rw [← L0.out.2] at hl1
      refine hl1.mono ?_
      rintro e w2 ⟨rfl, rfl⟩
      refine hK.out _ _ hHeld2 (fun hHeld3 => ?_)
      clear hK K hl1 hHeld2
      try simp only [List.getElem_toArray, List.getElem_cons_succ, List.getElem_cons_zero, Act.put, List.setIfInBounds_toArray, List.set_cons_zero, List.set_cons_succ]
      refine wpAnyH_take (i := 28) (v := .bool true) rfl (by kernel_rfl) (by kernel_rfl) (by kernel_rfl) (fun _ _ _ h => h) (.inl ⟨rfl, fun w' hw' => by go_simp⟩) hHeld3 ?_
      try simp only [List.getElem_toArray, List.getElem_cons_succ, List.getElem_cons_zero, Act.put, List.setIfInBounds_toArray, List.set_cons_zero, List.set_cons_succ]
      refine wpAnyH_take (i := 29) (v := .bool true) rfl (by kernel_rfl) (by kernel_rfl) (by kernel_rfl) (fun _ _ _ h => h) (.inl ⟨rfl, fun w' hw' => by go_simp⟩) hHeld3 ?_
      try simp only [List.getElem_toArray, List.getElem_cons_succ, List.getElem_cons_zero, Act.put, List.setIfInBounds_toArray, List.set_cons_zero, List.set_cons_succ]
      have hr2 := HM.out.2.2.2.2.1.r.below H1.out HM.out.2.2.2.2.1.r.lt
      have r0 : w1.cell? ⟨w.heap.size + 1 + 1, 0, none⟩ = some nilS := hr2.cell0
      have r1 : w1.cell? ⟨w.heap.size + 1 + 1, 1, none⟩ = some nilS := hr2.cell1
      have z0 : w1.frozen? ⟨w.heap.size + 1 + 1, 0, none⟩ = false := hr2.frozen 0
      have z1 : w1.frozen? ⟨w.heap.size + 1 + 1, 1, none⟩ = false := hr2.frozen 1
      have hm1 : RN ((w1.setCell ⟨w.heap.size + 1 + 1, 0, none⟩ (.slice B0 m0 e0)).setCell ⟨w.heap.size + 1 + 1, 1, none⟩ (.slice B1 m1 e1)) w.heap.size (.slice B0 m0 e0) (.slice B1 m1 e1) := ((HM.out.2.2.2.2.1.m.below H1.out HM.out.2.2.2.2.1.m.lt).far (p := ⟨w.heap.size + 1 + 1, 0, none⟩) (by show w.heap.size ≠ w.heap.size + 1 + 1; omega) _).far (p := ⟨w.heap.size + 1 + 1, 1, none⟩) (by show w.heap.size ≠ w.heap.size + 1 + 1; omega) _
      have HE := Lib.hid (And.intro (And.intro ((HM.out.1.below H1.out).set29 (j := 0) hr2 (.slice B0 m0 e0)) (And.intro ((HM.out.2.1.below H1.out).set29 (i := 0) hr2 (.slice B0 m0 e0)) ((HM.out.2.2.2.2.2.1.trans (Step.of_below H1.out (Nat.le_trans HI.out.2.2.2.1 HM.out.2.2.2.2.2.1.below.size))).set (q := ⟨w.heap.size + 1 + 1, 0, none⟩) (by show w.heap.size ≤ w.heap.size + 1 + 1; omega) (by show base ≤ w.heap.size + 1 + 1; have := HI.out.2.2.2.1; omega) (.slice B0 m0 e0)))) (And.intro (hr2.set0 (.slice B0 m0 e0)) (hr2.set (.slice B0 m0 e0) (.slice B1 m1 e1))))
      clear hr2
      refine wpAnyH_ready (rs := [30]) (by kernel_rfl) (by simp) ?_
      refine AllReadyH.cons rfl (fun K hK => ?_) AllReadyH.nil
      rw [if_pos (by rfl)]
      go_simp
      refine hK.out _ _ hm1 (fun hHeld4 => ?_)
      clear hK K hHeld3 hm1
      try simp only [List.getElem_toArray, List.getElem_cons_succ, List.getElem_cons_zero, Act.put, List.setIfInBounds_toArray, List.set_cons_zero, List.set_cons_succ]
      refine wpAnyH_ready (rs := [31]) (by kernel_rfl) (by simp) ?_
      refine AllReadyH.cons rfl (fun K hK => ?_) AllReadyH.nil
      rw [if_pos (by rfl)]
      go_simp
      refine hK.out _ _ hHeld4 (fun _ => ?_)
      clear hK K hHeld4
      refine wpAnyH_done (by kernel_rfl) ?_ _
      try simp only [List.getElem_toArray, List.getElem_cons_succ, List.getElem_cons_zero, Act.put, List.setIfInBounds_toArray, List.set_cons_zero, List.set_cons_succ]
      go_wp2
      have s0 : ((w1.setCell ⟨w.heap.size + 1 + 1, 0, none⟩ (.slice B0 m0 e0)).setCell ⟨w.heap.size + 1 + 1, 1, none⟩ (.slice B1 m1 e1)).cell? ⟨w.heap.size + 1 + 1, 0, none⟩ = some (.slice B0 m0 e0) := HE.out.2.2.cell0
      have s1 : ((w1.setCell ⟨w.heap.size + 1 + 1, 0, none⟩ (.slice B0 m0 e0)).setCell ⟨w.heap.size + 1 + 1, 1, none⟩ (.slice B1 m1 e1)).cell? ⟨w.heap.size + 1 + 1, 1, none⟩ = some (.slice B1 m1 e1) := HE.out.2.2.cell1
      refine bodyPost_ret (v := .tuple #[rv (.slice B0 m0 e0) (.slice B1 m1 e1), .bool true]) (by simp [results, Tryd.results9, go_sem, s0, s1]) rfl ?_
      exact ⟨v', T', by rw [← HM.out.2.2.1, ← HM.out.2.2.2.1], HE.out.1.1.set29 (j := 1) HE.out.2.1 _, HE.out.1.2.1.set29 (i := 1) HE.out.2.1 _, HE.out.1.2.2.set (q := ⟨w.heap.size + 1 + 1, 1, none⟩) (by show w.heap.size ≤ w.heap.size + 1 + 1; omega) (by show base ≤ w.heap.size + 1 + 1; have := HI.out.2.2.2.1; omega) _⟩
end Go.Proofs.YtfilhlilagmhlaaDoor
