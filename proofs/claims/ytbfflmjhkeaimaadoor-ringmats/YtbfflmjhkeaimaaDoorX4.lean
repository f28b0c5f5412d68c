/- The walk of the law RingTurned: it answers true, and makes new memory alone. -/
import Derived.Test.YtbfflmjhkeaimaaDoorM4
import Derived.Test.YtbfflmjhkeaimaaDoorX1
namespace Go.Proofs.YtbfflmjhkeaimaaDoor
open Go.RowKit

theorem In.below {w w' : World} {v : Value} {n : Nat} {f : Nat → Int} (h : In w v n f) (hb : Below w.heap.size w w') : In w' v n f := by
  rcases h with h | ⟨ad, c, rfl, hA⟩
  · exact .inl h
  · refine .inr ⟨ad, c, rfl, fun i hi => ?_⟩
    have := hA i hi
    rw [hb.cell (World.block_lt_of_cell? _ _ this)]
    exact this
theorem Below.next {B : Nat} {a b c : World} (h : Below B a b) (k : Below b.heap.size b c) (hB : B ≤ b.heap.size) : Below B a c := h.trans (k.mono hB)

set_option maxHeartbeats 2000000 in
set_option maxRecDepth 100000 in
theorem turned_walk (x y : Value) (n m : Nat) (f g : Nat → Int) (w : World) (hx : In w x n f) (hy : In w y m g) :
    Calls Tryd.prog 8 #[x, y] w fun e w' => e = .returned (.bool true) ∧ Below w.heap.size w w' := by
  have HX := Lib.hid hx
  have HY := Lib.hid hy
  clear hx hy
  go_enter Tryd.func8, Tryd.ntmps8
  go_wp2_with fail
  refine (awake_any _).mono ?_
  rintro e w1 ⟨rfl, hb1⟩
  have B1 := Lib.hid hb1
  clear hb1
  go_wp2_with fail
  refine (square_any x n f w1 (HX.out.below B1.out)).mono ?_
  rintro e w2 ⟨ga, hga, rfl, hOa, hb2⟩
  have B2 := Lib.hid (Below.next B1.out hb2 B1.out.size)
  have Oa := Lib.hid hOa
  clear hOa hb2 hga
  go_wp2_with fail
  refine (square_any y m g w2 (HY.out.below B2.out)).mono ?_
  rintro e w3 ⟨gb, hgb, rfl, hOb, hb3⟩
  have B3 := Lib.hid (Below.next B2.out hb3 B2.out.size)
  have Oa3 := Lib.hid (Oa.out.below hb3 Oa.out.lt)
  have Ob := Lib.hid hOb
  clear hOb hb3 hgb Oa
  generalize (fun i => if i < n then f i else 0) = F at *
  generalize (fun i => if i < m then g i else 0) = G at *
  go_wp2_with fail
  refine (times_any ga gb F G w3 Oa3.out Ob.out).mono ?_
  rintro e w4 ⟨gp, hgp, rfl, hOp, hb4⟩
  have B4 := Lib.hid (Below.next B3.out hb4 B3.out.size)
  have Oa4 := Lib.hid (Oa3.out.below hb4 Oa3.out.lt)
  have Ob4 := Lib.hid (Ob.out.below hb4 Ob.out.lt)
  have Op := Lib.hid hOp
  clear hOp hb4 hgp Oa3 Ob
  go_wp2_with fail
  refine (turned_any gp _ w4 Op.out).mono ?_
  rintro e w5 ⟨gt, hgt, rfl, hOt, hb5⟩
  have B5 := Lib.hid (Below.next B4.out hb5 B4.out.size)
  have Oa5 := Lib.hid (Oa4.out.below hb5 Oa4.out.lt)
  have Ob5 := Lib.hid (Ob4.out.below hb5 Ob4.out.lt)
  have Ot := Lib.hid hOt
  clear hOt hb5 hgt Oa4 Ob4 Op
  go_wp2_with fail
  refine (turned_any gb _ w5 Ob5.out).mono ?_
  rintro e w6 ⟨gc, hgc, rfl, hOc, hb6⟩
  have B6 := Lib.hid (Below.next B5.out hb6 B5.out.size)
  have Oa6 := Lib.hid (Oa5.out.below hb6 Oa5.out.lt)
  have Ot6 := Lib.hid (Ot.out.below hb6 Ot.out.lt)
  have Oc := Lib.hid hOc
  clear hOc hb6 hgc Oa5 Ot Ob5
  go_wp2_with fail
  refine (turned_any ga _ w6 Oa6.out).mono ?_
  rintro e w7 ⟨gd, hgd, rfl, hOd, hb7⟩
  have B7 := Lib.hid (Below.next B6.out hb7 B6.out.size)
  have Oa7 := Lib.hid (Oa6.out.below hb7 Oa6.out.lt)
  have Ot7 := Lib.hid (Ot6.out.below hb7 Ot6.out.lt)
  have Oc7 := Lib.hid (Oc.out.below hb7 Oc.out.lt)
  have Od := Lib.hid hOd
  clear hOd hb7 hgd Oa6 Ot6 Oc
  go_wp2_with fail
  refine (times_any gc gd _ _ w7 Oc7.out Od.out).mono ?_
  rintro e w8 ⟨ge, hge, rfl, hOe, hb8⟩
  have B8 := Lib.hid (Below.next B7.out hb8 B7.out.size)
  have Oa8 := Lib.hid (Oa7.out.below hb8 Oa7.out.lt)
  have Ot8 := Lib.hid (Ot7.out.below hb8 Ot7.out.lt)
  have Oe := Lib.hid hOe
  clear hOe hb8 hge Oa7 Ot7 Oc7 Od
  go_wp2_with fail
  refine (words_same _ _ 9 9 9 _ _ w8 (by unfold maxLen; omega) (At.own Ot8.out).opt (At.own Oe.out).opt (fun i hi => prod_turned F G i hi)).mono ?_
  rintro e w9 ⟨rfl, hb9⟩
  have B9 := Lib.hid (Below.next B8.out hb9 B8.out.size)
  have Oa9 := Lib.hid (Oa8.out.below hb9 Oa8.out.lt)
  clear hb9 Oa8 Ot8 Oe B1 B2 B3 B4 B5 B6 B7 B8
  go_wp2_with fail
  have hA : At (w9.alloc (.cells #[.int .u64 1, .int .u64 1, .int .u64 1] 22)) ⟨ga, 0, none⟩ (1 * 3) F := by
    have := At.own (Oa9.out.alloc (.cells #[.int .u64 1, .int .u64 1, .int .u64 1] 22))
    exact fun i hi => this i (by omega)
  have hB : At (w9.alloc (.cells #[.int .u64 1, .int .u64 1, .int .u64 1] 22)) ⟨w9.heap.size, 0, none⟩ (3 * 1) (fun q => if q = 0 then 1 else if q = 1 then 1 else 1) := At.own (own_lit3 w9 1 1 1)
  refine (mat_ok 1 3 1 9 3 F _ ⟨ga, 0, none⟩ ⟨w9.heap.size, 0, none⟩ _ (by omega) (by omega) (by omega) hA hB (by have := Oa9.out.lt; simp; omega) (by simp) (by omega)).mono ?_
  rintro e w10 ⟨gl, hgl, rfl, hOl, hb10⟩
  have hb9 := (Below.refl w9.heap.size w9).alloc (Nat.le_refl _) (.cells #[.int .u64 1, .int .u64 1, .int .u64 1] 22)
  have hbb := hb9.trans (hb10.mono (by simp))
  have B10 := Lib.hid (Below.next B9.out hbb B9.out.size)
  have Oa10 := Oa9.out.below hbb Oa9.out.lt
  have c1 : w10.cell? ⟨gl, 0, none⟩ = some (.int .u64 (U (sumTo F 3))) := by rw [← prod_ones]; exact hOl.cell 0 (by omega)
  have HS := Lib.hid (fun W (hW : W.heap = w10.heap) => (sum_any ⟨ga, 0, none⟩ 3 9 F W (by unfold maxLen; omega) (fun i hi => by have := At.own Oa10 i (by omega); simpa only [World.cell?, hW] using this)).mono (R' := fun e w' => e = .returned (.int .u64 (U (sumTo F 3))) ∧ w' = W) (fun _ _ ⟨h, h'⟩ => ⟨h, h'.symm⟩))
  clear hA hB hOl hb10 hb9 hbb Oa10 Oa9 hgl B9
  go_wp2
  go_quiet ((go_at_call 17; exact Calls.quiet_of_same (HS.out _ rfl)))
  go_wp2
  go_ret
  exact ⟨rfl, B10.out.os, B10.out.tape, B10.out.output, B10.out.size, B10.out.block⟩
end Go.Proofs.YtbfflmjhkeaimaaDoor
