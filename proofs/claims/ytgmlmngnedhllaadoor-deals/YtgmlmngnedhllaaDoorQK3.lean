/- Three numbers, and lists of numbers, that came in, opened. -/
import Derived.Test.YtgmlmngnedhllaaDoorQK
import Derived.Test.YtgmlmngnedhllaaDoorQGa
namespace Go.Proofs.YtgmlmngnedhllaaDoor
open Go.ChangeShapes Go.WideShapes Go.ChangeAt Go.RowKit

set_option maxRecDepth 100000
theorem cellsI64 : Tryd.prog.cellsOf 3 = 1 := by kernel_rfl
theorem cells3I : Tryd.prog.cellsOf 23 = 3 := by kernel_rfl
section
variable {H : Type} {enc : TypeId × Value → H}
theorem open_int3 {W : World} {base : Nat} {v : Value} {d : DataW H} {p : List MemPlace} (hval : Value.okWide Tryd.prog W .any base 23 v) (h : DataW.Trod enc Tryd.prog W 0 (fun _ => true) true 23 v d p) :
    ∃ z1 z2 z3 : Int, v = .agg (nums z1 z2 z3) := by
  have hv : ∃ cs, v = .agg cs ∧ cs.size = Tryd.prog.cellsOf 23 ∧ Row.okWide Tryd.prog W .any base 23 cs := by
    have := hval
    simp only [Value.okWide, Tryd.underlying23] at this
    exact this
  obtain ⟨cs, rfl, hs, _⟩ := hv
  rw [cells3I] at hs
  obtain ⟨c0, c1, c2, rfl⟩ : ∃ c0 c1 c2, cs = #[c0, c1, c2] := by
    obtain ⟨l⟩ := cs
    match l, hs with
    | [c0, c1, c2], _ => exact ⟨c0, c1, c2, rfl⟩
  obtain ⟨fuel, hf⟩ := h
  obtain ⟨xs, m, rfl, _, _, hl, he⟩ := DataW.trod_array Tryd.underlying23 hf
  have e0 := he 0 (by omega)
  have e1 := he 1 (by omega)
  have e2 := he 2 (by omega)
  rw [cellsI64] at e0 e1 e2
  rw [List.getElem?_eq_getElem (by omega)] at e0 e1 e2
  obtain ⟨a, ha, _, wa⟩ := DataW.trod_int Tryd.underlying3 e0
  obtain ⟨b, hb, _, wb⟩ := DataW.trod_int Tryd.underlying3 e1
  obtain ⟨c, hc, _, wc⟩ := DataW.trod_int Tryd.underlying3 e2
  have ha' : c0 = .int .i64 a := by simpa [Value.cells] using ha
  have hb' : c1 = .int .i64 b := by simpa [Value.cells] using hb
  have hc' : c2 = .int .i64 c := by simpa [Value.cells] using hc
  subst ha' hb' hc'
  exact ⟨a, b, c, rfl⟩
theorem open_intList {W : World} {base : Nat} {v : Value} {d : DataW H} {p : List MemPlace} (hval : Value.okWide Tryd.prog W .any base 24 v) (h : DataW.Trod enc Tryd.prog W 0 (fun _ => true) true 24 v d p) :
    ∃ A n c f, v = .slice A n c ∧ AtI W A n f ∧ n ≤ maxLen := by
  obtain ⟨a1, len, cap, rfl⟩ := okWide_slice Tryd.underlying24 hval
  obtain ⟨fuel, hf⟩ := h
  rcases open_ints Tryd.underlying24 Tryd.underlying3 cellsI64 hf with ⟨hcs, hx⟩ | ⟨a, len', cap', zs, hcs, _, hl, hm, hz, hx, hcell, hwz⟩
  · simp [Value.cells] at hcs
    obtain ⟨rfl, rfl, rfl⟩ := hcs
    exact ⟨none, 0, 0, fun _ => 0, rfl, fun i hi => absurd hi (by omega), Nat.zero_le _⟩
  · simp [Value.cells] at hcs
    obtain ⟨rfl, rfl, rfl⟩ := hcs
    simp only [if_true] at hz
    exact ⟨some a, len, cap, fun i => zs.getD i 0, rfl, fun i hi => ⟨a, rfl, hcell i (by omega)⟩, by omega⟩
end
end Go.Proofs.YtgmlmngnedhllaaDoor
