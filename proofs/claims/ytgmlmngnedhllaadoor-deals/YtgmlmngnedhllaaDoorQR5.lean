/- What stays while two stocks are used up beside it. -/
import Derived.Test.YtgmlmngnedhllaaDoorQR2
import Derived.Test.YtgmlmngnedhllaaDoorQR4
import Derived.Deep.RegionHeld
namespace Go.Proofs.YtgmlmngnedhllaaDoor
open Go.RowKit

/-- The numbers, the two stocks, the six lists: their blocks. -/
structure Ec (mb m8 m10 : Nat) (z1 z2 z3 : Int) (x0 x1 v0 v1 v2 v3 v4 v5 : Value) (w' : World) : Prop where
  n : Blk w' mb 23 (nums z1 z2 z3)
  s : Blk w' m8 29 #[x0, x1]
  r : Blk w' m10 38 #[v0, v1, v2, v3, v4, v5]
section
variable {mb m8 m10 : Nat} {z1 z2 z3 : Int} {x0 x1 v0 v1 v2 v3 v4 v5 : Value} {w w' : World}
theorem Ec.below (h : Ec mb m8 m10 z1 z2 z3 x0 x1 v0 v1 v2 v3 v4 v5 w) (hb : Below w.heap.size w w') : Ec mb m8 m10 z1 z2 z3 x0 x1 v0 v1 v2 v3 v4 v5 w' := ⟨h.n.below hb, h.s.below hb, h.r.below hb⟩
theorem Ec.chg {S : Nat → Prop} (h : Ec mb m8 m10 z1 z2 z3 x0 x1 v0 v1 v2 v3 v4 v5 w) (hc : Chg S w w') (h1 : ¬ S mb) (h2 : ¬ S m8) (h3 : ¬ S m10) : Ec mb m8 m10 z1 z2 z3 x0 x1 v0 v1 v2 v3 v4 v5 w' := ⟨h.n.chg hc h1, h.s.chg hc h2, h.r.chg hc h3⟩
theorem Ec.drew (h : Ec mb m8 m10 z1 z2 z3 x0 x1 v0 v1 v2 v3 v4 v5 w) : Ec mb m8 m10 z1 z2 z3 x0 x1 v0 v1 v2 v3 v4 v5 w.drew := ⟨h.n.drew, h.s.drew, h.r.drew⟩
theorem Ec.cells (h : Ec mb m8 m10 z1 z2 z3 x0 x1 v0 v1 v2 v3 v4 v5 w) : (w.cell? ⟨mb, 0, none⟩ = some (.int .i64 z1) ∧ w.cell? ⟨mb, 1, none⟩ = some (.int .i64 z2) ∧ w.cell? ⟨mb, 2, none⟩ = some (.int .i64 z3)) ∧ (w.cell? ⟨m8, 0, none⟩ = some x0 ∧ w.cell? ⟨m8, 1, none⟩ = some x1) ∧ w.cell? ⟨m10, 0, none⟩ = some v0 ∧ w.cell? ⟨m10, 1, none⟩ = some v1 ∧ w.cell? ⟨m10, 2, none⟩ = some v2 ∧ w.cell? ⟨m10, 3, none⟩ = some v3 ∧ w.cell? ⟨m10, 4, none⟩ = some v4 ∧ w.cell? ⟨m10, 5, none⟩ = some v5 :=
  ⟨⟨h.n.cell 0 rfl, h.n.cell 1 rfl, h.n.cell 2 rfl⟩, ⟨h.s.cell 0 rfl, h.s.cell 1 rfl⟩, h.r.cell 0 rfl, h.r.cell 1 rfl, h.r.cell 2 rfl, h.r.cell 3 rfl, h.r.cell 4 rfl, h.r.cell 5 rfl⟩
end
section
variable {P : Program} {ops : Array Oper} {Q : Exit → Act → World → Prop} {md : Region.Mode} {S : World → Prop}
/-- Take number i first, its slot written out; it may be guarded. -/
theorem htg {i d : Nat} {op : Op} {ty : TypeId} {pos : String} {af : Array Edge} {g : Option (Nat × Bool)} {fuel : Nat} {listed : Array Bool} {a : Act} {w : World} (hi : ops[i]? = some ⟨some d, op, ty, pos, af, g⟩) (v : Value)
    (hs : Region.noSelect ops = true) (hf : Region.free md ops listed i = true) (hr : (Region.ready md ops listed).contains i = true)
    (hQ : ∀ c a w, Q (.panic c) (a.put (some d) v) w → Q (.panic c) a w) (hw : Region.wanted ⟨some d, op, ty, pos, af, g⟩ (yielded ops a.tmps) = true) (hS : S w) (hv : ∀ w, S w → (execOp a.eval ⟨some d, op, ty, pos, af, g⟩).run P w = .ok (.value v) w)
    (h : wpAnyH P md ops Q S fuel (listed.setIfInBounds i true) (a.put (some d) v) w) : wpAnyH P md ops Q S (fuel + 1) listed a w :=
  wpAnyH_take hi hs hf hr hQ (.inl ⟨hw, hv⟩) hS h
/-- Just number i may come up; it may be guarded. -/
theorem h1g {i : Nat} {d : Option Nat} {op : Op} {ty : TypeId} {pos : String} {af : Array Edge} {g : Option (Nat × Bool)} {fuel : Nat} {listed : Array Bool} {a : Act} {w : World} (hr : Region.ready md ops listed = [i]) (hi : ops[i]? = some ⟨d, op, ty, pos, af, g⟩) (hw : Region.wanted ⟨d, op, ty, pos, af, g⟩ (yielded ops a.tmps) = true)
    (h : ∀ K : Act → World → Prop, Hid (∀ a w, S w → wpAnyH P md ops Q S fuel (listed.setIfInBounds i true) a w → K a w) → Oper.wp P ⟨d, op, ty, pos, af, g⟩ a w K Q) : wpAnyH P md ops Q S (fuel + 1) listed a w := by
  refine ⟨fun h0 => (by rw [hr] at h0; cases h0), fun j hj => ?_⟩
  rw [hr] at hj
  obtain rfl := List.mem_singleton.1 hj
  unfold wpOp
  simp only [hi, hw, if_true]
  exact .inl (h _ (fun a w h1 h2 => ⟨h1, h2⟩))
end
end Go.Proofs.YtgmlmngnedhllaaDoor
