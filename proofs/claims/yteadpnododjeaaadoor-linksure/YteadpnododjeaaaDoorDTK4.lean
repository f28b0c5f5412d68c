/- Lists of byte lists that came in, opened. -/
import Derived.Test.YteadpnododjeaaaDoorDTK2
import Derived.Test.YteadpnododjeaaaDoorLY1
import Derived.Deep.Slices
namespace Go.Proofs.YteadpnododjeaaaDoor
open Go.ChangeShapes Go.WideShapes Go.ChangeAt Go.RowKit

set_option maxRecDepth 100000
theorem cellsBs : Tryd.prog.cellsOf 23 = 1 := by kernel_rfl
theorem open_pays {H : Type} {enc : TypeId × Value → H} {W : World} {base : Nat} {v : Value} {d : DataW H} {p : List MemPlace}
    (hval : Value.okWide Tryd.prog W .any base 27 v) (h : DataW.Trod enc Tryd.prog W 0 (fun _ => true) true 27 v d p) :
    ∃ A N c l f, v = .slice A N c ∧ Pays W A N l f := by
  obtain ⟨a1, len, cap, rfl⟩ := okWide_slice Tryd.underlying27 hval
  obtain ⟨fuel, hf⟩ := h
  rcases Go.Deep.open_slice1 Tryd.underlying27 cellsBs hf with ⟨hcs, hx⟩ | ⟨a, len', cap', m, n, V, D, Pl, hcs, _, hl, hm, hmm, hx, hall⟩
  · have : (.slice a1 len cap : Value) = .slice none 0 0 := by simpa [Value.cells] using hcs
    rw [this]
    exact ⟨none, 0, 0, fun _ => 0, fun _ _ => 0, rfl, fun i hi => absurd hi (by omega)⟩
  · have hv : (.slice a1 len cap : Value) = .slice (some a) len' cap' := by simpa [Value.cells] using hcs
    rw [hv]
    have hlm : len' ≤ m := by rw [hmm]; split <;> omega
    have key : ∀ i, ∃ t : Nat × (Nat → Nat), i < len' → ∃ ad g c, some a = some ad ∧ W.cell? (ad.add i) = some (.slice g t.1 c) ∧ AtBO W g t.1 t.2 ∧ (∀ j, t.2 j < 256) ∧ (g = none → t.1 = 0 ∧ c = 0) ∧ t.1 ≤ c := fun i => by
      by_cases hi : i < len'
      · obtain ⟨h1, h2⟩ := hall i (by omega)
        obtain ⟨A, n', c, f, hVi, h3, h4, h5, h6, _, _⟩ := open_bytesF h2
        have hVi' : V i = .slice A n' c := by simpa using hVi
        rw [hVi'] at h1
        exact ⟨(n', f), fun _ => ⟨a, A, c, rfl, h1, h3, h4, h5, h6⟩⟩
      · exact ⟨(0, fun _ => 0), fun h => absurd h hi⟩
    exact ⟨some a, len', cap', fun i => (Classical.choose (key i)).1, fun i => (Classical.choose (key i)).2, rfl, fun i hi => Classical.choose_spec (key i) hi⟩
end Go.Proofs.YteadpnododjeaaaDoor
