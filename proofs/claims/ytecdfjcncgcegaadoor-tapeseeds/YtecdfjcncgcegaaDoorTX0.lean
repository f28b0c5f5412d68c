/- The laws' common beginning, and TapeEnds' walk. -/
import Derived.Test.YtecdfjcncgcegaaDoorTP3
namespace Go.Proofs.YtecdfjcncgcegaaDoor
open Go.RowKit

theorem Handle.keep {w w' : World} {g : Nat} (h : Handle w) (hk : Keep g w w') (hg : 0 ≠ g) : Handle w' :=
  (World.cell?_of_block (w := w) (a := ⟨0, 0, none⟩) (hk.block 0 h.pos hg)).trans h
/-- A label that is laid in a new block. -/
theorem below_lab (w : World) (x y : Value) : Below w.heap.size w (w.alloc (.cells #[x, y] 39)) :=
  (Below.refl _ _).alloc (Nat.le_refl _) _
def lit3 (q : Nat) : Int := if q = 0 then 5 else if q = 1 then 6 else 7
theorem own_lit3 (w : World) : Own (w.alloc (.cells #[.int .u64 5, .int .u64 6, .int .u64 7] 27)) w.heap.size 3 lit3 := heap_alloc_new w _
theorem lst_lit3 (w : World) : Lst (w.alloc (.cells #[.int .u64 5, .int .u64 6, .int .u64 7] 27)) (.slice (some ⟨w.heap.size, 0, none⟩) 3 3) 3 lit3 :=
  ⟨_, 3, rfl, by omega, by unfold maxLen; omega, fun h => (by cases h), (At.own (own_lit3 w)).opt⟩
set_option maxHeartbeats 2000000 in
set_option maxRecDepth 100000 in
theorem awake_any (w : World) (hg : Handle w) : Calls Tryd.prog 7 #[] w fun e w' => e = .returned (.bool true) ∧ Below w.heap.size w w' := by
  have hb0 := (Below.refl w.heap.size w).alloc (Nat.le_refl _) (.cells #[.int .u64 5, .int .u64 6, .int .u64 7] 27)
  have HL := Lib.hid (load_any _ 3 lit3 _ (lst_lit3 w) (by omega))
  have H0 := Lib.hid (And.intro hg hb0)
  clear hg hb0
  go_enter Tryd.func7, Tryd.ntmps7
  go_wp2_with fail
  refine HL.out.mono ?_
  rintro e w1 ⟨g, h, hg, hh, _, rfl, hT, hb1⟩
  simp only [World.size_alloc] at hg hh
  have hb : Below w.heap.size w w1 := H0.out.2.trans (hb1.mono H0.out.2.size)
  have H1 := Lib.hid (And.intro hT (And.intro hb (H0.out.1.below hb H0.out.1.pos)))
  have hp := H0.out.1.pos
  clear hT hb1 hb H0 HL
  go_wp2_with fail
  refine (next_some _ g h 3 lit3 0 H1.out.1 (by omega)).mono ?_
  rintro e w2 ⟨rfl, hT, hk⟩
  rw [show lit3 0 = 5 from rfl]
  have H2 := Lib.hid (show Tap w2 g h 3 lit3 1 ∧ Below w.heap.size w w2 ∧ Handle w2 from ⟨hT, hk.below H1.out.2.1 (by omega) H1.out.2.1.size, H1.out.2.2.keep hk (by omega)⟩)
  clear hT hk H1
  go_wp2_with fail
  refine (label_some _ g h 3 lit3 1 H2.out.1 (by omega)).mono ?_
  rintro e w3 ⟨rfl, hT, hk⟩
  rw [show lit3 1 = 6 from rfl, show lit3 (1 + 1) = 7 from rfl]
  have H3 := Lib.hid (show Tap w3 g h 3 lit3 3 ∧ Below w.heap.size w w3 ∧ Handle w3 from ⟨hT, hk.below H2.out.2.1 (by omega) H2.out.2.1.size, H2.out.2.2.keep hk (by omega)⟩)
  clear hT hk H2
  go_wp2_with fail
  have hb4 := below_lab w3 (.int .u64 6) (.int .u64 7)
  have hL4 : Lbl (w3.alloc (.cells #[.int .u64 6, .int .u64 7] 39)) w3.heap.size 6 7 := Lbl.new w3 6 7
  refine (next_none _ g h 3 lit3 3 (H3.out.1.below hb4) (by omega) (H3.out.2.2.below hb4 H3.out.2.2.pos)).mono ?_
  rintro e w5 ⟨rfl, hb5⟩
  have hL5 : Lbl w5 w3.heap.size 6 7 := (hb5.block _ hL4.lt).trans hL4
  have l0 := hL5.cell0
  have l1 := hL5.cell1
  have H5 := Lib.hid (show Tap w5 g h 3 lit3 3 ∧ Below w.heap.size w w5 from ⟨(H3.out.1.below hb4).below hb5, (H3.out.2.1.trans (hb4.mono H3.out.2.1.size)).trans (hb5.mono (Nat.le_trans H3.out.2.1.size hb4.size))⟩)
  clear hb4 hL4 hb5 hL5 H3
  have f5 := fun w => run_eql_lab w 6 7 6 7
  go_wp2_with (first
    | (go_at_call 16; refine (fis_chain _ 40 40 _).mono ?_; rintro e w6 ⟨rfl, h6⟩; have H6 := Lib.hid (show Tap w6 g h 3 lit3 3 ∧ Below w.heap.size w w6 from ⟨H5.out.1.below h6, H5.out.2.trans (h6.mono H5.out.2.size)⟩); clear h6)
    | (go_at_call 12; refine (used_any _ g h 3 lit3 3 H6.out.1).mono ?_; rintro e w7 ⟨rfl, rfl⟩))
  go_ret
  exact ⟨rfl, H6.out.2⟩

theorem left0 (w : World) (g h N : Nat) (f : Nat → Int) (x : Int) (ht : Tap w g h N f 0) (hx : (N : Int) = x) :
    Calls Tryd.prog 13 #[.pointer (some ⟨g, 0, none⟩)] w fun e w' => e = .returned (.int .i64 x) ∧ w = w' :=
  (left_any w g h N f 0 ht).mono fun _ _ ⟨h, h'⟩ => ⟨by rw [h]; exact ret_int (by omega), h'⟩
theorem used0 (w : World) (g h N : Nat) (f : Nat → Int) (ht : Tap w g h N f 0) :
    Calls Tryd.prog 12 #[.pointer (some ⟨g, 0, none⟩)] w fun e w' => e = .returned (.int .i64 0) ∧ w = w' :=
  (used_any w g h N f 0 ht).mono fun _ _ ⟨h, h'⟩ => ⟨by rw [h]; rfl, h'⟩
set_option maxHeartbeats 2000000 in
set_option maxRecDepth 100000 in
theorem ends_walk (key : Nat → Nat) (n : Int) (w : World) (hk : ∀ i, key i < 256) (hg : Handle w) :
    Calls Tryd.prog 5 #[.agg (bys 16 key), .int .i64 n] w fun e w' => e = .returned (.bool true) ∧ Below w.heap.size w w' := by
  have hb0 := (Below.refl w.heap.size w).alloc (Nat.le_refl _) (.cells (bys 16 key) 30)
  have HA := Lib.hid (awake_any _ (hg.below hb0 hg.pos))
  have H0 := Lib.hid (And.intro (OwnB.new w 16 30 key) (And.intro hb0 hk))
  clear hb0 hg hk
  go_enter Tryd.func5, Tryd.ntmps5
  go_wp2_with fail
  refine HA.out.mono ?_
  rintro e w1 ⟨rfl, hb1⟩
  have h1 : OwnB w1 w.heap.size 16 30 key := H0.out.1.below hb1 (by simp)
  have H1 := Lib.hid (And.intro (H0.out.2.1.trans (hb1.mono H0.out.2.1.size)) H0.out.2.2)
  clear hb1 H0 HA
  go_wp2_with (refine ld_row 30 16 _ Tryd.underlying30 Tryd.info30 rfl _ rfl _ rfl h1 ?_)
  refine (tnew_any key n _ H1.out.2).mono ?_
  rintro e w2 ⟨g, h, _, _, _, rfl, hT, hb2⟩
  have H2 := Lib.hid (And.intro hT (H1.out.1.trans (hb2.mono H1.out.1.size)))
  clear hT hb2 H1 h1
  by_cases hn : n < 0
  · have HE := Lib.hid (show ((cnt n : Nat) : Int) = 0 by rw [cnt_low n hn]; rfl)
    go_wp2_with (first
      | (go_at_call 12; refine (used0 _ g h _ _ H2.out.1).mono ?_; rintro e w7 ⟨rfl, rfl⟩)
      | (go_at_call 13; refine (left0 _ g h _ _ 0 H2.out.1 HE.out).mono ?_; rintro e w7 ⟨rfl, rfl⟩))
    go_ret
    exact ⟨rfl, H2.out.2⟩
  · by_cases hm : 1048576 < n
    · have HE := Lib.hid (show ((cnt n : Nat) : Int) = 1048576 by rw [cnt_high n hm]; rfl)
      go_wp2_with (first
        | (go_at_call 12; refine (used0 _ g h _ _ H2.out.1).mono ?_; rintro e w7 ⟨rfl, rfl⟩)
        | (go_at_call 13; refine (left0 _ g h _ _ 1048576 H2.out.1 HE.out).mono ?_; rintro e w7 ⟨rfl, rfl⟩))
      go_ret
      exact ⟨rfl, H2.out.2⟩
    · have HE := Lib.hid (cnt_mid n (by omega) (by omega))
      rcases (show n = 0 ∨ 0 < n by omega) with hz | hz
      · subst hz
        go_wp2_with (first
          | (go_at_call 12; refine (used0 _ g h _ _ H2.out.1).mono ?_; rintro e w7 ⟨rfl, rfl⟩)
          | (go_at_call 13; refine (left0 _ g h _ _ 0 H2.out.1 HE.out).mono ?_; rintro e w7 ⟨rfl, rfl⟩))
        go_ret
        exact ⟨rfl, H2.out.2⟩
      · go_wp2_with (first
          | (go_at_call 12; refine (used0 _ g h _ _ H2.out.1).mono ?_; rintro e w7 ⟨rfl, rfl⟩)
          | (go_at_call 13; refine (left0 _ g h _ _ n H2.out.1 HE.out).mono ?_; rintro e w7 ⟨rfl, rfl⟩))
        go_ret
        exact ⟨rfl, H2.out.2⟩
end Go.Proofs.YtecdfjcncgcegaaDoor
