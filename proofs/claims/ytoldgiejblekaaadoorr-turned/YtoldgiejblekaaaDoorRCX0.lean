/- The laws' common beginning: awake. -/
import Derived.Test.YtoldgiejblekaaaDoorRCC9
import Derived.Test.YtoldgiejblekaaaDoorREI
namespace Go.Proofs.YtoldgiejblekaaaDoorR
open Go.RowKit

/-- The example's circuit. -/
def exY (i j : Nat) : Int := if i = 0 then (if j = 0 then 2 else if j = 1 then 0 else 1) else (if j = 0 then 3 else if j = 1 then 2 else 0)
def exO (_ : Nat) : Int := 3
theorem ex_good : Circ.Good 2 2 exY 1 exO := ⟨by omega, by omega, by omega, by omega, fun i hi => by
  rcases (show i = 0 ∨ i = 1 by omega) with rfl | rfl
  · exact .inl ⟨.inr rfl, by decide, by decide, by decide, by decide⟩
  · exact .inr ⟨rfl, by decide, by decide, rfl⟩, fun i _ => ⟨by show (0 : Int) ≤ 3; omega, by show (3 : Int) < 2 + ((2 : Nat) : Int); omega⟩⟩
theorem ex_bad : ¬ Circ.Good 0 0 exY 1 (fun _ => 0) := fun h => by
  have := (h.out 0 (by omega)).2
  simp at this
theorem ex_vals (f : Nat → Bool) : Circ.vals 2 f exY 2 3 = !(f 0 && f 1) := rfl
/-- Gates that are laid out in a block. -/
theorem atG_block {w : World} {b n : Nat} {cs : Array Value} {y : Nat → Nat → Int} (h : Blk w b 41 cs) (hc : ∀ q, q < n * 3 → cs[q]? = some (gv y q)) : AtV w (some ⟨b, 0, none⟩) (n * 3) (gv y) := fun i hi => ⟨_, rfl, by
  rw [Addr.add_mid, Nat.zero_add]; exact h.cell i (hc i hi)⟩
theorem at_block {w : World} {b n t : Nat} {cs : Array Value} {F : Nat → Value} (h : Blk w b t cs) (hc : ∀ q, q < n → cs[q]? = some (F q)) : AtV w (some ⟨b, 0, none⟩) n F := fun i hi => ⟨_, rfl, by
  rw [Addr.add_mid, Nat.zero_add]; exact h.cell i (hc i hi)⟩
def exB (x y : Bool) (i : Nat) : Bool := if i = 0 then x else y
/-- What the example is in memory. -/
structure Exm (w : World) (b : Nat) (w' : World) : Prop where
  g : AtV w' (some ⟨b, 0, none⟩) (2 * 3) (gv exY)
  o : AtV w' (some ⟨b + 1, 0, none⟩) 1 (iv exO)
  c : circB w' (b + 1 + 1) 2 (some ⟨b, 0, none⟩) 2 2 (some ⟨b + 1, 0, none⟩) 1 1
  h : Handle w'
  b : Below w.heap.size w w'
theorem Exm.below {w w' w2 : World} {b : Nat} (h : Exm w b w') (hb : Below w'.heap.size w' w2) : Exm w b w2 :=
  ⟨h.g.below hb, h.o.below hb, h.c.below hb h.c.lt, h.h.below hb h.h.pos, h.b.trans (hb.mono h.b.size)⟩
theorem exm_start (w : World) (hh : Handle w) : Exm w w.heap.size (((w.alloc (.cells #[.int .i64 2, .int .i64 0, .int .i64 1, .int .i64 3, .int .i64 2, .int .i64 0] 41)).alloc (.cells #[.int .i64 3] 3)).alloc (.cells #[.int .i64 2, .slice (some ⟨w.heap.size, 0, none⟩) 2 2, .slice (some ⟨w.heap.size + 1, 0, none⟩) 1 1] 25)) := by
  have hG := ((Blk.new w 41 #[.int .i64 2, .int .i64 0, .int .i64 1, .int .i64 3, .int .i64 2, .int .i64 0]).alloc (.cells #[.int .i64 3] 3)).alloc (.cells #[.int .i64 2, .slice (some ⟨w.heap.size, 0, none⟩) 2 2, .slice (some ⟨w.heap.size + 1, 0, none⟩) 1 1] 25)
  have hO := (Blk.new (w.alloc (.cells #[.int .i64 2, .int .i64 0, .int .i64 1, .int .i64 3, .int .i64 2, .int .i64 0] 41)) 3 #[.int .i64 3]).alloc (.cells #[.int .i64 2, .slice (some ⟨w.heap.size, 0, none⟩) 2 2, .slice (some ⟨w.heap.size + 1, 0, none⟩) 1 1] 25)
  have hC := Blk.new ((w.alloc (.cells #[.int .i64 2, .int .i64 0, .int .i64 1, .int .i64 3, .int .i64 2, .int .i64 0] 41)).alloc (.cells #[.int .i64 3] 3)) 25 #[.int .i64 2, .slice (some ⟨w.heap.size, 0, none⟩) 2 2, .slice (some ⟨w.heap.size + 1, 0, none⟩) 1 1]
  simp only [World.size_alloc] at hO hC
  have hb : Below w.heap.size w (((w.alloc (.cells #[.int .i64 2, .int .i64 0, .int .i64 1, .int .i64 3, .int .i64 2, .int .i64 0] 41)).alloc (.cells #[.int .i64 3] 3)).alloc (.cells #[.int .i64 2, .slice (some ⟨w.heap.size, 0, none⟩) 2 2, .slice (some ⟨w.heap.size + 1, 0, none⟩) 1 1] 25)) := (((Below.refl _ w).alloc (Nat.le_refl _) _).alloc (by simp) _).alloc (by simp; omega) _
  refine ⟨atG_block hG fun q hq => ?_, at_block hO fun q hq => ?_, hC, hh.below hb hh.pos, hb⟩
  · rcases (show q = 0 ∨ q = 1 ∨ q = 2 ∨ q = 3 ∨ q = 4 ∨ q = 5 by omega) with rfl | rfl | rfl | rfl | rfl | rfl <;> rfl
  · obtain rfl : q = 0 := by omega
    rfl
theorem exb_at (w : World) (x y : Bool) : AtV (w.alloc (.cells #[.bool x, .bool y] 4)) (some ⟨w.heap.size, 0, none⟩) 2 (bv (exB x y)) :=
  at_block (Blk.new w _ _) fun q hq => by
    rcases (show q = 0 ∨ q = 1 by omega) with rfl | rfl <;> rfl
/-- The example evaluated. -/
theorem ex_eval (w0 w : World) (b : Nat) (x y : Bool) (h : Exm w0 b w) :
    Calls Tryd.prog 8 #[circV 2 (some ⟨b, 0, none⟩) 2 2 (some ⟨b + 1, 0, none⟩) 1 1, .slice (some ⟨w.heap.size, 0, none⟩) 2 2] (w.alloc (.cells #[.bool x, .bool y] 4)) fun e w' => ∃ g, e = .returned (.tuple #[.slice (some ⟨g, 0, none⟩) 1 1, .nilIface]) ∧ w'.cell? ⟨g, 0, none⟩ = some (.bool (!(x && y))) ∧ Exm w0 b w' ∧ Below w.heap.size w w' := by
  have hx := h.below ((Below.refl w.heap.size w).alloc (Nat.le_refl _) (.cells #[.bool x, .bool y] 4))
  have he := eval_ok (w.alloc (.cells #[.bool x, .bool y] 4)) 2 (some ⟨b, 0, none⟩) 2 2 exY (some ⟨b + 1, 0, none⟩) 1 1 exO (some ⟨w.heap.size, 0, none⟩) 2 (exB x y) hx.h hx.g hx.o (exb_at w x y) (fun h => by cases h) ex_good
  refine Calls.mono he ?_
  rintro e w' ⟨g, rfl, _, hR, hb⟩
  refine ⟨g, rfl, ?_, hx.below hb, ((Below.refl w.heap.size w).alloc (Nat.le_refl _) (.cells #[.bool x, .bool y] 4)).trans (hb.mono (by simp))⟩
  have := hR.cellAt 0 (by omega)
  exact this
set_option maxHeartbeats 4000000 in
set_option maxRecDepth 100000 in
theorem awake_any (w : World) (hh : Handle w) : Calls Tryd.prog 6 #[] w fun e w' => e = .returned (.bool true) ∧ Below w.heap.size w w' := by
  have hx := exm_start w hh
  have hs : (((w.alloc (.cells #[.int .i64 2, .int .i64 0, .int .i64 1, .int .i64 3, .int .i64 2, .int .i64 0] 41)).alloc (.cells #[.int .i64 3] 3)).alloc (.cells #[.int .i64 2, .slice (some ⟨w.heap.size, 0, none⟩) 2 2, .slice (some ⟨w.heap.size + 1, 0, none⟩) 1 1] 25)).heap.size = w.heap.size + 1 + 1 + 1 := by simp
  have he := ex_eval w _ w.heap.size true true hx
  rw [hs] at he
  have HE := Lib.hid he
  clear he hh hs hx
  go_enter Tryd.func6, Tryd.ntmps6
  go_wp2_with fail
  refine HE.out.mono ?_
  rintro e w1 ⟨g1, rfl, hc1, hx1, _⟩
  clear HE
  obtain ⟨b, hb⟩ : ∃ x, w.heap.size = x := ⟨_, rfl⟩
  rw [hb] at hx1 ⊢
  have c0 := hx1.c.cell 0 (v := .int .i64 2) rfl
  have c1 := hx1.c.cell 1 (v := .slice (some ⟨b, 0, none⟩) 2 2) rfl
  have c2 := hx1.c.cell 2 (v := .slice (some ⟨b + 1, 0, none⟩) 1 1) rfl
  have HE := Lib.hid (ex_eval w w1 b true false hx1)
  have H1 := Lib.hid (And.intro hb (And.intro hc1 hx1))
  clear hx1 hb hc1
  go_wp2_with fail
  refine HE.out.mono ?_
  rintro e w2 ⟨g2, rfl, hc2, hx2, hb12⟩
  clear HE c0 c1 c2
  have hc1 := (hb12.cell (World.block_lt_of_cell? _ _ H1.out.2.1)).trans H1.out.2.1
  have c0 := hx2.c.cell 0 (v := .int .i64 2) rfl
  have c1 := hx2.c.cell 1 (v := .slice (some ⟨b, 0, none⟩) 2 2) rfl
  have c2 := hx2.c.cell 2 (v := .slice (some ⟨b + 1, 0, none⟩) 1 1) rfl
  have HA : Hid (Calls Tryd.prog 13 #[circV 2 (some ⟨b, 0, none⟩) 2 2 (some ⟨b + 1, 0, none⟩) 1 1] w2 fun e w' => e = .returned (.int .i64 1) ∧ Below w2.heap.size w2 w') := ands_any w2 2 (some ⟨b, 0, none⟩) 2 2 exY (some ⟨b + 1, 0, none⟩) 1 1 hx2.g (by unfold maxLen; omega)
  have H2 := Lib.hid hx2
  simp only [Bool.and_self, Bool.and_false, Bool.not_true, Bool.not_false] at hc1 hc2
  clear hx2 hb12
  go_wp2_with fail
  refine HA.out.mono ?_
  rintro e w3 ⟨rfl, hb3⟩
  have hx3 := H2.out.below hb3
  have hb4 := (Below.refl w3.heap.size w3).alloc (Nat.le_refl _) (.cells #[.int .i64 0] 3)
  have hx4 := hx3.below hb4
  have HC := Lib.hid (check_bad (N := 0) (Ag := none) (n := 0) (cg := 0) (y := exY) (Ao := some ⟨w3.heap.size, 0, none⟩) (m := 1) (co := 1) (o := fun _ => 0) hx4.h AtV.zero (at_block (Blk.new w3 3 #[.int .i64 0]) fun q hq => by
    obtain rfl : q = 0 := by omega
    rfl) (by unfold maxLen; omega) (by unfold maxLen; omega) ex_bad)
  have H4 := Lib.hid hx4
  clear hb3 hx3 hb4 hx4 HA hc1 hc2 c0 c1 c2
  go_wp2_with fail
  refine HC.out.mono ?_
  rintro e w5 ⟨⟨p, a, rfl⟩, hb5⟩
  have H5 := Lib.hid (H4.out.below hb5)
  clear hb5
  obtain ⟨T, v, hT⟩ := chain_iface [(p, a)] 90
  have hfi := fis_chain [(p, a)] 90 90 w5
  rw [hT] at hfi ⊢
  have HF := Lib.hid hfi
  clear hfi hT
  go_wp2_with fail
  refine HF.out.mono ?_
  rintro e w6 ⟨rfl, hb6⟩
  have H6 := Lib.hid (H5.out.below hb6)
  have hbw := H1.out.1
  clear hb6
  go_wp2
  go_ret
  exact ⟨rfl, by have := H6.out.b; exact this⟩
end Go.Proofs.YtoldgiejblekaaaDoorR
