/- Lists and arrays of three ints that came in, as the walk of RingMats wants them. -/
import Derived.Test.YtbfflmjhkeaimaaDoorK2
import Derived.Test.YtbfflmjhkeaimaaDoorM6
import Derived.Test.YtbfflmjhkeaimaaDoorE4
namespace Go.Proofs.YtbfflmjhkeaimaaDoor
open Go.ChangeShapes Go.WideShapes Go.ChangeAt Go.RowKit
set_option maxRecDepth 100000
theorem Came.lst {W : World} {v : Value} {n : Nat} {f : Nat → Int} (h : Came W v n f) : Lst W v n f := by
  rcases h.2.2 with ⟨h1, h2⟩ | ⟨ad, c, h1, h2, h3, h4, _⟩
  · subst h2
    exact ⟨none, 0, h1, Nat.le_refl _, Nat.zero_le _, fun _ => rfl, AtO.none⟩
  · exact ⟨some ad, c, h1, h2, h3, fun h => (by cases h), h4.opt⟩
theorem cells3 : Tryd.prog.cellsOf 3 = 1 := by kernel_rfl
theorem cells32 : Tryd.prog.cellsOf 32 = 3 := by kernel_rfl
/-- An array of three ints that came in. -/
theorem open_three {H : Type} {enc : TypeId × Value → H} {W : World} {base : Nat} {v : Value} {d : DataW H} {p : List MemPlace} (hval : Value.okWide Tryd.prog W .any base 32 v) (h : DataW.Trod enc Tryd.prog W 0 (fun _ => true) true 32 v d p) :
    ∃ a b c : Int, v = .agg #[.int .i64 a, .int .i64 b, .int .i64 c] := by
  have hv : ∃ cs, v = .agg cs ∧ cs.size = Tryd.prog.cellsOf 32 ∧ Row.okWide Tryd.prog W .any base 32 cs := by
    have := hval
    simp only [Value.okWide, Tryd.underlying32] at this
    exact this
  obtain ⟨cs, rfl, hs, _⟩ := hv
  rw [cells32] at hs
  obtain ⟨c0, c1, c2, rfl⟩ : ∃ c0 c1 c2, cs = #[c0, c1, c2] := by
    obtain ⟨l⟩ := cs
    match l, hs with
    | [c0, c1, c2], _ => exact ⟨c0, c1, c2, rfl⟩
  obtain ⟨fuel, hf⟩ := h
  obtain ⟨xs, m, rfl, _, _, hl, he⟩ := DataW.trod_array Tryd.underlying32 hf
  have e0 := he 0 (by omega)
  have e1 := he 1 (by omega)
  have e2 := he 2 (by omega)
  rw [cells3] at e0 e1 e2
  rw [List.getElem?_eq_getElem (by omega)] at e0 e1 e2
  obtain ⟨a, ha, _, _⟩ := DataW.trod_int Tryd.underlying3 e0
  obtain ⟨b, hb, _, _⟩ := DataW.trod_int Tryd.underlying3 e1
  obtain ⟨c, hc, _, _⟩ := DataW.trod_int Tryd.underlying3 e2
  have ha' : c0 = .int .i64 a := by simpa [Value.cells] using ha
  have hb' : c1 = .int .i64 b := by simpa [Value.cells] using hb
  have hc' : c2 = .int .i64 c := by simpa [Value.cells] using hc
  subst ha' hb' hc'
  exact ⟨a, b, c, rfl⟩
end Go.Proofs.YtbfflmjhkeaimaaDoor
