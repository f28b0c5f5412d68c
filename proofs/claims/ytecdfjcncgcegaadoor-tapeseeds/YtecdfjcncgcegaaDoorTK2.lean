/- Lists of words and of ints that came in, opened. -/
import Derived.Test.YtecdfjcncgcegaaDoorTK
import Derived.Test.YtecdfjcncgcegaaDoorTP4
import Derived.ChangeSlices
import Derived.SizedLaws
namespace Go.Proofs.YtecdfjcncgcegaaDoor
open Go.ChangeShapes Go.WideShapes Go.ChangeAt Go.RowKit

set_option maxRecDepth 100000
theorem cellsI64 : Tryd.prog.cellsOf 3 = 1 := by kernel_rfl
theorem bytesU64 : Tryd.prog.bytesOf 27 = 8 := by kernel_rfl
section
variable {H : Type} {enc : TypeId × Value → H}
theorem open_words {W : World} {base : Nat} {v : Value} {d : DataW H} {p : List MemPlace} (hval : Value.okWide Tryd.prog W .any base 22 v) (h : DataW.Trod enc Tryd.prog W 0 (fun _ => true) true 22 v d p) :
    ∃ A n c f, v = .slice A n c ∧ AtO W A n f ∧ (A = none → n = 0 ∧ c = 0) ∧ (n = 0 ∨ ∃ el sp, d = .slice el sp ∧ el.length = n) := by
  obtain ⟨a1, len, cap, rfl⟩ := okWide_slice Tryd.underlying22 hval
  obtain ⟨fuel, hf⟩ := h
  rcases open_ints Tryd.underlying22 Tryd.underlying27 cellsU64 hf with ⟨hcs, hx⟩ | ⟨a, len', cap', zs, hcs, _, hl, hm, hz, hx, hcell, hwz⟩
  · simp [Value.cells] at hcs
    obtain ⟨rfl, rfl, rfl⟩ := hcs
    exact ⟨none, 0, 0, fun _ => 0, rfl, AtO.none, fun _ => ⟨rfl, rfl⟩, .inl rfl⟩
  · simp [Value.cells] at hcs
    obtain ⟨rfl, rfl, rfl⟩ := hcs
    simp only [if_true] at hz
    obtain ⟨rfl, _⟩ := Prod.mk.inj hx
    exact ⟨some a, len, cap, fun i => zs.getD i 0, rfl, fun i hi => ⟨a, rfl, hcell i (by omega)⟩, fun h => (by cases h), .inr ⟨_, _, rfl, by simp [lits]; omega⟩⟩
theorem open_intList {W : World} {base : Nat} {v : Value} {d : DataW H} {p : List MemPlace} (hval : Value.okWide Tryd.prog W .any base 23 v) (h : DataW.Trod enc Tryd.prog W 0 (fun _ => true) true 23 v d p) :
    ∃ A n c f, v = .slice A n c ∧ AtI W A n f ∧ n ≤ maxLen := by
  obtain ⟨a1, len, cap, rfl⟩ := okWide_slice Tryd.underlying23 hval
  obtain ⟨fuel, hf⟩ := h
  rcases open_ints Tryd.underlying23 Tryd.underlying3 cellsI64 hf with ⟨hcs, hx⟩ | ⟨a, len', cap', zs, hcs, _, hl, hm, hz, hx, hcell, hwz⟩
  · simp [Value.cells] at hcs
    obtain ⟨rfl, rfl, rfl⟩ := hcs
    exact ⟨none, 0, 0, fun _ => 0, rfl, fun i hi => absurd hi (by omega), Nat.zero_le _⟩
  · simp [Value.cells] at hcs
    obtain ⟨rfl, rfl, rfl⟩ := hcs
    simp only [if_true] at hz
    exact ⟨some a, len, cap, fun i => zs.getD i 0, rfl, fun i hi => ⟨a, rfl, hcell i (by omega)⟩, by omega⟩
/-- How long a list of words that came in can be. -/
theorem words_fit {ts : List TypeId} {ds : List (DataW H)} (hz : (DataW.weightsEach Tryd.prog ts ds).all (· ≤ reachBytes) = true) {j : Nat} (ht : ts[j]? = some 22) {d : DataW H} (hd : ds[j]? = some d) {n : Nat} (h : n = 0 ∨ ∃ el sp, d = .slice el sp ∧ el.length = n) : n * 8 ≤ 140737488355328 := by
  rcases h with rfl | ⟨el, sp, rfl, rfl⟩
  · omega
  · have := sized_slice hz ht hd Tryd.underlying22
    rw [bytesU64] at this
    unfold reachBytes at this
    omega
end
end Go.Proofs.YtecdfjcncgcegaaDoor
