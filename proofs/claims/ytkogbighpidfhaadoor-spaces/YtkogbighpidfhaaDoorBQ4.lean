/- A drawn statement at a class of worlds: operations that may be guarded, their slots written out. -/
import Derived.Test.YtkogbighpidfhaaDoorBB0
import Derived.StillTail
import Derived.Deep.RegionHeld
namespace Go.Proofs.YtkogbighpidfhaaDoor
open Go.RowKit

section
variable {P : Program} {ops : Array Oper} {Q : Exit → Act → World → Prop} {md : Region.Mode} {S : World → Prop}
/-- Take number i first, its slot written out; it may be guarded. -/
theorem htg {i d : Nat} {op : Op} {ty : TypeId} {pos : String} {af : Array Edge} {g : Option (Nat × Bool)} {fuel : Nat} {listed : Array Bool} {a : Act} {w : World} (hi : ops[i]? = some ⟨some d, op, ty, pos, af, g⟩) (v : Value)
    (hs : Region.noSelect ops = true) (hf : Region.free md ops listed i = true) (hr : (Region.ready md ops listed).contains i = true)
    (hQ : ∀ c a w, Q (.panic c) (a.put (some d) v) w → Q (.panic c) a w) (hw : Region.wanted ⟨some d, op, ty, pos, af, g⟩ (yielded ops a.tmps) = true) (hS : S w) (hv : ∀ w, S w → (execOp a.eval ⟨some d, op, ty, pos, af, g⟩).run P w = .ok (.value v) w)
    (h : wpAnyH P md ops Q S fuel (listed.setIfInBounds i true) (a.put (some d) v) w) : wpAnyH P md ops Q S (fuel + 1) listed a w :=
  wpAnyH_take hi hs hf hr hQ (.inl ⟨hw, hv⟩) hS h
/-- Just number i may come up; it may be guarded. -/
theorem h1g {i : Nat} {d : Option Nat} {op : Op} {ty : TypeId} {pos : String} {af : Array Edge} {g : Option (Nat × Bool)} {fuel : Nat} {listed : Array Bool} {a : Act} {w : World} (hr : Region.ready md ops listed = [i]) (hi : ops[i]? = some ⟨d, op, ty, pos, af, g⟩) (hw : Region.wanted ⟨d, op, ty, pos, af, g⟩ (yielded ops a.tmps) = true)
    (h : ∀ K : Act → World → Prop, Hid (∀ a w, S w → wpAnyH P md ops Q S fuel (listed.setIfInBounds i true) a w → K a w) → Oper.wp P ⟨d, op, ty, pos, af, g⟩ a w K Q) : wpAnyH P md ops Q S (fuel + 1) listed a w := by
  refine ⟨fun h0 => (by rw [hr] at h0; cases h0), fun j hj => ?_⟩
  rw [hr] at hj
  obtain rfl := List.mem_singleton.1 hj
  unfold wpOp
  simp only [hi, hw, if_true]
  exact .inl (h _ (fun a w h1 h2 => ⟨h1, h2⟩))
/-- Any of those that may come up. -/
theorem hall {fuel : Nat} {listed : Array Bool} {a : Act} {w : World} {l : List Nat} (hr : Region.ready md ops listed = l) (hne : l ≠ [])
    (h : ∀ i ∈ l, ∃ o, ops[i]? = some o ∧ Region.wanted o (yielded ops a.tmps) = true ∧ ∀ K : Act → World → Prop, Hid (∀ a w, S w → wpAnyH P md ops Q S fuel (listed.setIfInBounds i true) a w → K a w) → Oper.wp P o a w K Q) : wpAnyH P md ops Q S (fuel + 1) listed a w := by
  refine ⟨fun h0 => absurd (hr.symm.trans h0) hne, fun j hj => ?_⟩
  rw [hr] at hj
  obtain ⟨o, ho, hw, hK⟩ := h j hj
  unfold wpOp
  simp only [ho, hw, if_true]
  exact .inl (hK _ (fun a w h1 h2 => ⟨h1, h2⟩))
theorem h2g {i i' : Nat} {d d' : Option Nat} {op op' : Op} {ty ty' : TypeId} {pos pos' : String} {af af' : Array Edge} {fuel : Nat} {listed : Array Bool} {a : Act} {w : World} (hr : Region.ready md ops listed = [i, i']) (hi : ops[i]? = some ⟨d, op, ty, pos, af, none⟩) (hi' : ops[i']? = some ⟨d', op', ty', pos', af', none⟩)
    (h : ∀ K : Act → World → Prop, Hid (∀ a w, S w → wpAnyH P md ops Q S fuel (listed.setIfInBounds i true) a w → K a w) → Oper.wp P ⟨d, op, ty, pos, af, none⟩ a w K Q)
    (h' : ∀ K : Act → World → Prop, Hid (∀ a w, S w → wpAnyH P md ops Q S fuel (listed.setIfInBounds i' true) a w → K a w) → Oper.wp P ⟨d', op', ty', pos', af', none⟩ a w K Q) : wpAnyH P md ops Q S (fuel + 1) listed a w :=
  hall hr (by simp) fun j hj => by
    rcases List.mem_cons.1 hj with rfl | hj
    · exact ⟨_, hi, by simp [Region.wanted], h⟩
    · obtain rfl := List.mem_singleton.1 hj
      exact ⟨_, hi', by simp [Region.wanted], h'⟩
theorem h3g {i i' i2 : Nat} {d d' d2 : Option Nat} {op op' op2 : Op} {ty ty' ty2 : TypeId} {pos pos' pos2 : String} {af af' af2 : Array Edge} {fuel : Nat} {listed : Array Bool} {a : Act} {w : World} (hr : Region.ready md ops listed = [i, i', i2]) (hi : ops[i]? = some ⟨d, op, ty, pos, af, none⟩) (hi' : ops[i']? = some ⟨d', op', ty', pos', af', none⟩) (hi2 : ops[i2]? = some ⟨d2, op2, ty2, pos2, af2, none⟩)
    (h : ∀ K : Act → World → Prop, Hid (∀ a w, S w → wpAnyH P md ops Q S fuel (listed.setIfInBounds i true) a w → K a w) → Oper.wp P ⟨d, op, ty, pos, af, none⟩ a w K Q)
    (h' : ∀ K : Act → World → Prop, Hid (∀ a w, S w → wpAnyH P md ops Q S fuel (listed.setIfInBounds i' true) a w → K a w) → Oper.wp P ⟨d', op', ty', pos', af', none⟩ a w K Q)
    (h2 : ∀ K : Act → World → Prop, Hid (∀ a w, S w → wpAnyH P md ops Q S fuel (listed.setIfInBounds i2 true) a w → K a w) → Oper.wp P ⟨d2, op2, ty2, pos2, af2, none⟩ a w K Q) : wpAnyH P md ops Q S (fuel + 1) listed a w :=
  hall hr (by simp) fun j hj => by
    rcases List.mem_cons.1 hj with rfl | hj
    · exact ⟨_, hi, by simp [Region.wanted], h⟩
    · rcases List.mem_cons.1 hj with rfl | hj
      · exact ⟨_, hi', by simp [Region.wanted], h'⟩
      · obtain rfl := List.mem_singleton.1 hj
        exact ⟨_, hi2, by simp [Region.wanted], h2⟩
end
end Go.Proofs.YtkogbighpidfhaaDoor
