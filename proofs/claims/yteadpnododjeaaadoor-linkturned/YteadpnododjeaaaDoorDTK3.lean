/- Two ints, words of 32 bits that came in, opened. -/
import Derived.Test.YteadpnododjeaaaDoorDTK2
namespace Go.Proofs.YteadpnododjeaaaDoor
open Go.ChangeShapes Go.WideShapes Go.ChangeAt Go.RowKit

set_option maxRecDepth 100000
theorem cellsPair : Tryd.prog.cellsOf 67 = 2 := by kernel_rfl
theorem cellsInt : Tryd.prog.cellsOf 3 = 1 := by kernel_rfl
theorem wf_u32 {a : Int} (h : (Lit.int .u32 a).wf = true) : 0 ≤ a ∧ a < 4294967296 := by
  have := h
  simp [Lit.wf, IntKind.min, IntKind.max, IntKind.bits, IntKind.signed] at this
  omega
theorem open_pair {H : Type} {enc : TypeId × Value → H} {W : World} {base : Nat} {v : Value} {d : DataW H} {p : List MemPlace} (hval : Value.okWide Tryd.prog W .any base 67 v) (h : DataW.Trod enc Tryd.prog W 0 (fun _ => true) true 67 v d p) :
    ∃ a b : Int, v = .agg #[.int .i64 a, .int .i64 b] := by
  have hv : ∃ cs, v = .agg cs ∧ cs.size = Tryd.prog.cellsOf 67 ∧ Row.okWide Tryd.prog W .any base 67 cs := by
    have := hval
    simp only [Value.okWide, Tryd.underlying67] at this
    exact this
  obtain ⟨cs, rfl, hs, _⟩ := hv
  rw [cellsPair] at hs
  obtain ⟨c0, c1, rfl⟩ : ∃ c0 c1, cs = #[c0, c1] := by
    obtain ⟨l⟩ := cs
    match l, hs with
    | [c0, c1], _ => exact ⟨c0, c1, rfl⟩
  obtain ⟨fuel, hf⟩ := h
  obtain ⟨xs, m, rfl, _, _, hl, he⟩ := DataW.trod_array Tryd.underlying67 hf
  have e0 := he 0 (by omega)
  have e1 := he 1 (by omega)
  rw [cellsInt] at e0 e1
  rw [List.getElem?_eq_getElem (by omega)] at e0 e1
  obtain ⟨a, ha, _, _⟩ := DataW.trod_int Tryd.underlying3 e0
  obtain ⟨b, hb, _, _⟩ := DataW.trod_int Tryd.underlying3 e1
  have ha' : c0 = .int .i64 a := by simpa [Value.cells] using ha
  have hb' : c1 = .int .i64 b := by simpa [Value.cells] using hb
  subst ha' hb'
  exact ⟨a, b, rfl⟩
end Go.Proofs.YteadpnododjeaaaDoor
