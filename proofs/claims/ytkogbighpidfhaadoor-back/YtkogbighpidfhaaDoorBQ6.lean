/- As BQ3, for operations that are guarded. -/
import Derived.Test.YtkogbighpidfhaaDoorBQ3
namespace Go.Proofs.YtkogbighpidfhaaDoor
open Go.RowKit

section
variable {P : Program} {ops : Array Oper} {Q : Exit → Act → World → Prop} {md : Region.Mode} {S : World → Prop} {z : List Nat}
/-- Take number i first, in the class; it may be guarded. -/
theorem ytg {i d : Nat} {op : Op} {ty : TypeId} {pos : String} {af : Array Edge} {g : Option (Nat × Bool)} {fuel : Nat} {listed : Array Bool} {a : Act} {w : World} (M : List Nat) (hi : ops[i]? = some ⟨some d, op, ty, pos, af, g⟩) (v : Value)
    (hs : Region.noSelect ops = true) (hf : Region.free md ops listed i = true) (hr : (Region.ready md ops listed).contains i = true) (hz : ((z.all fun m => M.contains m) && waitsAll md ops listed i (M.headD 0) M) = true)
    (hQ : ∀ c a w, Q (.panic c) (a.put (some d) v) w → Q (.panic c) a w) (hw : Region.wanted ⟨some d, op, ty, pos, af, g⟩ (yielded ops a.tmps) = true) (hS : S w) (hv : ∀ w, S w → (execOp a.eval ⟨some d, op, ty, pos, af, g⟩).run P w = .ok (.value v) w)
    (h : wpAnyY P md ops Q S z fuel (listed.setIfInBounds i true) (a.put (some d) v) w) : wpAnyY P md ops Q S z (fuel + 1) listed a w := by
  obtain ⟨h1, h2, h3⟩ := waitsY hz
  exact wpAnyY_first hi (Region.noSelect_spec hs) hQ M h1 h3 fuel listed a w (Region.free_spec hi hf) h2 (by simpa using hr) (.inl ⟨hw, hv⟩) hS h
/-- Take number i first, whatever the world; it may be guarded. -/
theorem yug {i d : Nat} {op : Op} {ty : TypeId} {pos : String} {af : Array Edge} {g : Option (Nat × Bool)} {fuel : Nat} {listed : Array Bool} {a : Act} {w : World} (hi : ops[i]? = some ⟨some d, op, ty, pos, af, g⟩) (v : Value)
    (hs : Region.noSelect ops = true) (hf : Region.free md ops listed i = true) (hr : (Region.ready md ops listed).contains i = true)
    (hQ : ∀ c a w, Q (.panic c) (a.put (some d) v) w → Q (.panic c) a w) (hw : Region.wanted ⟨some d, op, ty, pos, af, g⟩ (yielded ops a.tmps) = true) (hv : ∀ w, (execOp a.eval ⟨some d, op, ty, pos, af, g⟩).run P w = .ok (.value v) w)
    (h : wpAnyY P md ops Q S z fuel (listed.setIfInBounds i true) (a.put (some d) v) w) : wpAnyY P md ops Q S z (fuel + 1) listed a w :=
  wpAnyY_free hi (Region.noSelect_spec hs) hQ fuel listed a w (Region.free_spec hi hf) (by simpa using hr) (.inl ⟨hw, fun w _ => hv w⟩) h
/-- Number i's guard says no. -/
theorem yn {i d : Nat} {op : Op} {ty : TypeId} {pos : String} {af : Array Edge} {g : Option (Nat × Bool)} {fuel : Nat} {listed : Array Bool} {a : Act} {w : World} (hi : ops[i]? = some ⟨some d, op, ty, pos, af, g⟩)
    (hs : Region.noSelect ops = true) (hf : Region.free md ops listed i = true) (hr : (Region.ready md ops listed).contains i = true)
    (hQ : ∀ c a w, Q (.panic c) (a.put (some d) undef) w → Q (.panic c) a w) (hw : Region.wanted ⟨some d, op, ty, pos, af, g⟩ (yielded ops a.tmps) = false)
    (h : wpAnyY P md ops Q S z fuel (listed.setIfInBounds i true) (a.put (some d) undef) w) : wpAnyY P md ops Q S z (fuel + 1) listed a w :=
  wpAnyY_free hi (Region.noSelect_spec hs) hQ fuel listed a w (Region.free_spec hi hf) (by simpa using hr) (.inr ⟨hw, rfl⟩) h
/-- Just number i may come up; it may be guarded. -/
theorem y1g {i : Nat} {d : Option Nat} {op : Op} {ty : TypeId} {pos : String} {af : Array Edge} {g : Option (Nat × Bool)} {fuel : Nat} {listed : Array Bool} {a : Act} {w : World} (hr : Region.ready md ops listed = [i]) (hi : ops[i]? = some ⟨d, op, ty, pos, af, g⟩) (hw : Region.wanted ⟨d, op, ty, pos, af, g⟩ (yielded ops a.tmps) = true)
    (h : ∀ K : Act → World → Prop, Hid (∀ a' w', (i ∈ z ∨ (S w → S w')) → wpAnyY P md ops Q S z fuel (listed.setIfInBounds i true) a' w' → K a' w') → Oper.wp P ⟨d, op, ty, pos, af, g⟩ a w K Q) : wpAnyY P md ops Q S z (fuel + 1) listed a w := by
  refine ⟨fun h0 => (by rw [hr] at h0; cases h0), fun j hj => ?_⟩
  rw [hr] at hj
  obtain rfl := List.mem_singleton.1 hj
  unfold wpOp
  simp only [hi, hw, if_true]
  exact .inl (h _ (fun a w h1 h2 => ⟨h1, h2⟩))
end
end Go.Proofs.YtkogbighpidfhaaDoor
