/- Lists of words that came in, opened. -/
import Derived.Test.YtgmlmngnedhllaaDoorCTK
import Derived.Test.YtgmlmngnedhllaaDoorQW
import Derived.ChangeSlices
import Derived.SizedLaws
namespace Go.Proofs.YtgmlmngnedhllaaDoor
open Go.ChangeShapes Go.WideShapes Go.ChangeAt Go.RowKit

set_option maxRecDepth 100000
theorem cellsU64 : Tryd.prog.cellsOf 46 = 1 := by kernel_rfl
section
variable {H : Type} {enc : TypeId × Value → H}
theorem getD_bd (M : Int) (zs : List Int) (h : ∀ n ∈ zs, 0 ≤ n ∧ n < M) (hM : 0 < M) (i : Nat) : 0 ≤ zs.getD i 0 ∧ zs.getD i 0 < M := by
  by_cases hi : i < zs.length
  · have e : zs.getD i 0 = zs[i] := by simp [List.getD, hi]
    rw [e]; exact h _ (List.getElem_mem _)
  · have e : zs.getD i 0 = 0 := by simp [List.getD, List.getElem?_eq_none (by omega : zs.length ≤ i)]
    rw [e]; exact ⟨Int.le_refl _, hM⟩
theorem open_words {W : World} {base : Nat} {v : Value} {d : DataW H} {p : List MemPlace} (hval : Value.okWide Tryd.prog W .any base 22 v) (h : DataW.Trod enc Tryd.prog W 0 (fun _ => true) true 22 v d p) :
    ∃ A n c f, v = .slice A n c ∧ AtO W A n f ∧ (∀ i, 0 ≤ f i ∧ f i < 18446744073709551616) ∧ (A = none → n = 0 ∧ c = 0) ∧ n ≤ c ∧ c ≤ maxLen := by
  obtain ⟨a1, len, cap, rfl⟩ := okWide_slice Tryd.underlying22 hval
  obtain ⟨fuel, hf⟩ := h
  rcases open_ints Tryd.underlying22 Tryd.underlying46 cellsU64 hf with ⟨hcs, hx⟩ | ⟨a, len', cap', zs, hcs, _, hl, hm, hz, hx, hcell, hwz⟩
  · simp [Value.cells] at hcs
    obtain ⟨rfl, rfl, rfl⟩ := hcs
    exact ⟨none, 0, 0, fun _ => 0, rfl, AtO.none, fun _ => ⟨Int.le_refl _, by show (0 : Int) < _; omega⟩, fun _ => ⟨rfl, rfl⟩, Nat.le_refl _, Nat.zero_le _⟩
  · simp [Value.cells] at hcs
    obtain ⟨rfl, rfl, rfl⟩ := hcs
    simp only [if_true] at hz
    exact ⟨some a, len, cap, fun i => zs.getD i 0, rfl, fun i hi => ⟨a, rfl, hcell i (by omega)⟩, getD_bd _ zs (fun n hn => wf_u64 (hwz n hn)) (by omega), fun h => (by cases h), hl, hm⟩
end
end Go.Proofs.YtgmlmngnedhllaaDoor
