/- A list of ints that came in, opened. -/
import Derived.Test.YtkogbighpidfhaaDoorSK
import Derived.Test.YtkogbighpidfhaaDoorCV1
import Derived.ChangeSlices
import Derived.SizedLaws
namespace Go.Proofs.YtkogbighpidfhaaDoor
open Go.ChangeShapes Go.WideShapes Go.ChangeAt Go.RowKit

section
variable {H : Type} {enc : TypeId × Value → H}
theorem cellsI64 : Tryd.prog.cellsOf 3 = 1 := by kernel_rfl
set_option maxRecDepth 100000 in
theorem open_intList {W : World} {base : Nat} {v : Value} {d : DataW H} {p : List MemPlace} (hval : Value.okWide Tryd.prog W .any base 43 v) (h : DataW.Trod enc Tryd.prog W 0 (fun _ => true) true 43 v d p) :
    ∃ A n c, ∃ f : Nat → Int, v = .slice A n c ∧ AtV W A n (fun i => .int .i64 (f i)) ∧ n ≤ maxLen := by
  obtain ⟨a1, len, cap, rfl⟩ := okWide_slice Tryd.underlying43 hval
  obtain ⟨fuel, hf⟩ := h
  rcases open_ints Tryd.underlying43 Tryd.underlying3 cellsI64 hf with ⟨hcs, hx⟩ | ⟨a, len', cap', zs, hcs, _, hl, hm, hz, hx, hcell, hwz⟩
  · simp [Value.cells] at hcs
    obtain ⟨rfl, rfl, rfl⟩ := hcs
    exact ⟨none, 0, 0, fun _ => 0, rfl, fun i hi => absurd hi (by omega), Nat.zero_le _⟩
  · simp [Value.cells] at hcs
    obtain ⟨rfl, rfl, rfl⟩ := hcs
    simp only [if_true] at hz
    exact ⟨some a, len, cap, fun i => zs.getD i 0, rfl, fun i hi => ⟨a, rfl, hcell i (by omega)⟩, by omega⟩
end
end Go.Proofs.YtkogbighpidfhaaDoor
