/- Arguments that came in, opened: arrays of sixteen bytes, labels, words; every argument reads behind a call that leaves old memory alone as it read before. -/
import Derived.Test.YtecdfjcncgcegaaDoorAB0
import Derived.ProofKit
import Derived.Carry
import Derived.OpenShut
namespace Go.Proofs.YtecdfjcncgcegaaDoor
open Go.ChangeShapes Go.WideShapes Go.ChangeAt Go.RowKit

set_option maxRecDepth 100000
theorem own : ownKnob Tryd.prog.godebug = none := by kernel_rfl
theorem laidOut : laidOutB Tryd.prog = true := by kernel_rfl
theorem cellsU8 : Tryd.prog.cellsOf 5 = 1 := by kernel_rfl
theorem cells16 : Tryd.prog.cellsOf 30 = 16 := by kernel_rfl
theorem cellsU64 : Tryd.prog.cellsOf 27 = 1 := by kernel_rfl
theorem cellsLab : Tryd.prog.cellsOf 39 = 2 := by kernel_rfl
theorem wf_u64 {a : Int} (h : (Lit.int .u64 a).wf = true) : 0 ≤ a ∧ a < 18446744073709551616 := by
  have := h
  simp [Lit.wf, IntKind.min, IntKind.max, IntKind.bits, IntKind.signed] at this
  omega
theorem wf_u8 {a : Int} (h : (Lit.int .u8 a).wf = true) : 0 ≤ a ∧ a < 256 := by
  have := h
  simp [Lit.wf, IntKind.min, IntKind.max, IntKind.bits, IntKind.signed] at this
  omega
section
variable {H : Type} {enc : TypeId × Value → H}
theorem trodAll_below {W W' : World} (hb : Below W.heap.size W W') : ∀ (ts : List TypeId) (vs : List Value) (ds : List (DataW H)) (p : List MemPlace),
    (∀ t ∈ ts, Tryd.prog.readableRec t = true ∧ t < Tryd.prog.types.size) → (∀ x ∈ p, x.block < W.heap.size) →
    DataW.TrodAll enc Tryd.prog W 0 (fun _ => true) true ts vs ds p → DataW.TrodAll enc Tryd.prog W' 0 (fun b => decide (b < W.heap.size)) true ts vs ds p
  | [], [], [], _, _, _, h => h
  | t :: ts, v :: vs, d :: ds, p, ht, hp, h => by
    obtain ⟨p1, q1, h1, h2, rfl⟩ := h
    exact ⟨p1, q1, Below.trod laidOut (ht t (List.mem_cons_self ..)).1 (ht t (List.mem_cons_self ..)).2 h1 hb (fun x hx => hp x (List.mem_append_left _ hx)),
      trodAll_below hb ts vs ds q1 (fun u hu => ht u (List.mem_cons_of_mem _ hu)) (fun x hx => hp x (List.mem_append_right _ hx)) h2, rfl⟩
  | [], [], _ :: _, _, _, _, h => False.elim h
  | [], _ :: _, _, _, _, _, h => False.elim h
  | _ :: _, [], _, _, _, _, h => False.elim h
  | _ :: _, _ :: _, [], _, _, _, h => False.elim h

/-- Sixteen bytes that came in. -/
theorem open_16 {W : World} {base : Nat} {v : Value} {d : DataW H} {p : List MemPlace} (hval : Value.okWide Tryd.prog W .any base 30 v) (h : DataW.Trod enc Tryd.prog W 0 (fun _ => true) true 30 v d p) :
    ∃ f : Nat → Nat, v = .agg (bys 16 f) ∧ ∀ i, f i < 256 := by
  have hv : ∃ cs, v = .agg cs ∧ cs.size = Tryd.prog.cellsOf 30 ∧ Row.okWide Tryd.prog W .any base 30 cs := by
    have := hval
    simp only [Value.okWide, Tryd.underlying30] at this
    exact this
  obtain ⟨cs, rfl, hs, _⟩ := hv
  rw [cells16] at hs
  obtain ⟨fuel, hf⟩ := h
  obtain ⟨xs, m, rfl, _, _, hl, he⟩ := DataW.trod_array Tryd.underlying30 hf
  obtain ⟨f, h1, h2⟩ := bys_of cs 16 hs (fun i hi => by
    have e0 := he i hi
    rw [cellsU8] at e0
    rw [List.getElem?_eq_getElem (by omega)] at e0
    obtain ⟨n, hn, _, wn⟩ := DataW.trod_int Tryd.underlying5 e0
    obtain ⟨b0, b1⟩ := wf_u8 wn
    obtain ⟨N, rfl⟩ := Int.eq_ofNat_of_zero_le b0
    refine ⟨N, by omega, ?_⟩
    have : (cs.extract i (i + 1)).toList = [.int .u8 (N : Int)] := by simpa [Value.cells] using hn
    have h3 := congrArg (fun l => l[0]?) this
    simpa [Array.getElem?_extract] using h3)
  exact ⟨f, by rw [h2], h1⟩
/-- A label that came in. -/
theorem open_lab {W : World} {base : Nat} {v : Value} {d : DataW H} {p : List MemPlace} (hval : Value.okWide Tryd.prog W .any base 39 v) (h : DataW.Trod enc Tryd.prog W 0 (fun _ => true) true 39 v d p) :
    ∃ a b : Nat, v = .agg #[.int .u64 (a : Int), .int .u64 (b : Int)] ∧ a < 18446744073709551616 ∧ b < 18446744073709551616 := by
  have hv : ∃ cs, v = .agg cs ∧ cs.size = Tryd.prog.cellsOf 39 ∧ Row.okWide Tryd.prog W .any base 39 cs := by
    have := hval
    simp only [Value.okWide, Tryd.underlying39] at this
    exact this
  obtain ⟨cs, rfl, hs, _⟩ := hv
  rw [cellsLab] at hs
  obtain ⟨c0, c1, rfl⟩ : ∃ c0 c1, cs = #[c0, c1] := by
    obtain ⟨l⟩ := cs
    match l, hs with
    | [c0, c1], _ => exact ⟨c0, c1, rfl⟩
  obtain ⟨fuel, hf⟩ := h
  obtain ⟨xs, m, rfl, _, _, hl, he⟩ := DataW.trod_array Tryd.underlying39 hf
  have e0 := he 0 (by omega)
  have e1 := he 1 (by omega)
  rw [cellsU64] at e0 e1
  rw [List.getElem?_eq_getElem (by omega)] at e0 e1
  obtain ⟨a, ha, _, wa⟩ := DataW.trod_int Tryd.underlying27 e0
  obtain ⟨b, hb, _, wb⟩ := DataW.trod_int Tryd.underlying27 e1
  have ha' : c0 = .int .u64 a := by simpa [Value.cells] using ha
  have hb' : c1 = .int .u64 b := by simpa [Value.cells] using hb
  obtain ⟨a0, a1⟩ := wf_u64 wa
  obtain ⟨b0, b1⟩ := wf_u64 wb
  obtain ⟨A, rfl⟩ := Int.eq_ofNat_of_zero_le a0
  obtain ⟨B, rfl⟩ := Int.eq_ofNat_of_zero_le b0
  subst ha' hb'
  exact ⟨A, B, rfl, by omega, by omega⟩
/-- A word that came in. -/
theorem open_word {W : World} {base : Nat} {v : Value} {d : DataW H} {p : List MemPlace} (hval : Value.okWide Tryd.prog W .any base 27 v) (h : DataW.Trod enc Tryd.prog W 0 (fun _ => true) true 27 v d p) :
    ∃ a : Nat, v = .int .u64 (a : Int) ∧ a < 18446744073709551616 := by
  obtain ⟨a, rfl, rfl, rfl, wa⟩ := open_int Tryd.underlying27 hval h
  obtain ⟨a0, a1⟩ := wf_u64 wa
  obtain ⟨A, rfl⟩ := Int.eq_ofNat_of_zero_le a0
  exact ⟨A, rfl, by omega⟩
end
end Go.Proofs.YtecdfjcncgcegaaDoor
