/- Arguments that are labels or lists of words, opened; every argument reads behind a call that leaves old memory alone as it read before. -/
import Derived.Test.YtbfflmjhkeaimaaDoorK1
import Derived.Test.YtbfflmjhkeaimaaDoorA1
import Derived.Carry
namespace Go.Proofs.YtbfflmjhkeaimaaDoor
open Go.ChangeShapes Go.WideShapes Go.ChangeAt Go.RowKit

set_option maxRecDepth 100000
theorem laidOut : laidOutB Tryd.prog = true := by kernel_rfl
theorem cells22 : Tryd.prog.cellsOf 22 = 1 := by kernel_rfl
theorem cells43 : Tryd.prog.cellsOf 43 = 2 := by kernel_rfl
section
variable {H : Type} {enc : TypeId × Value → H}
theorem trodAll_below {W W' : World} (hb : Below W.heap.size W W') : ∀ (ts : List TypeId) (vs : List Value) (ds : List (DataW H)) (p : List MemPlace),
    (∀ t ∈ ts, Tryd.prog.readableRec t = true ∧ t < Tryd.prog.types.size) → (∀ x ∈ p, x.block < W.heap.size) →
    DataW.TrodAll enc Tryd.prog W 0 (fun _ => true) true ts vs ds p → DataW.TrodAll enc Tryd.prog W' 0 (fun b => decide (b < W.heap.size)) true ts vs ds p
  | [], [], [], _, _, _, h => h
  | t :: ts, v :: vs, d :: ds, p, ht, hp, h => by
    obtain ⟨p1, q1, h1, h2, rfl⟩ := h
    exact ⟨p1, q1, Below.trod laidOut (ht t (List.mem_cons_self ..)).1 (ht t (List.mem_cons_self ..)).2 h1 hb (fun x hx => hp x (List.mem_append_left _ hx)),
      trodAll_below hb ts vs ds q1 (fun u hu => ht u (List.mem_cons_of_mem _ hu)) (fun x hx => hp x (List.mem_append_right _ hx)) h2, rfl⟩
  | [], [], _ :: _, _, _, _, h => False.elim h
  | [], _ :: _, _, _, _, _, h => False.elim h
  | _ :: _, [], _, _, _, _, h => False.elim h
  | _ :: _, _ :: _, [], _, _, _, h => False.elim h

/-- A label that came in. -/
theorem open_lab {W : World} {base : Nat} {v : Value} {d : DataW H} {p : List MemPlace} (hval : Value.okWide Tryd.prog W .any base 43 v) (h : DataW.Trod enc Tryd.prog W 0 (fun _ => true) true 43 v d p) :
    ∃ a b : Int, v = lab a b ∧ (0 ≤ a ∧ a < 18446744073709551616) ∧ (0 ≤ b ∧ b < 18446744073709551616) := by
  have hv : ∃ cs, v = .agg cs ∧ cs.size = Tryd.prog.cellsOf 43 ∧ Row.okWide Tryd.prog W .any base 43 cs := by
    have := hval
    simp only [Value.okWide, Tryd.underlying43] at this
    exact this
  obtain ⟨cs, rfl, hs, _⟩ := hv
  rw [cells43] at hs
  obtain ⟨c0, c1, rfl⟩ : ∃ c0 c1, cs = #[c0, c1] := by
    obtain ⟨l⟩ := cs
    match l, hs with
    | [c0, c1], _ => exact ⟨c0, c1, rfl⟩
  obtain ⟨fuel, hf⟩ := h
  obtain ⟨xs, m, rfl, _, _, hl, he⟩ := DataW.trod_array Tryd.underlying43 hf
  have e0 := he 0 (by omega)
  have e1 := he 1 (by omega)
  rw [cells22] at e0 e1
  rw [List.getElem?_eq_getElem (by omega)] at e0 e1
  obtain ⟨a, ha, _, wa⟩ := DataW.trod_int Tryd.underlying22 e0
  obtain ⟨b, hb, _, wb⟩ := DataW.trod_int Tryd.underlying22 e1
  have ha' : c0 = .int .u64 a := by simpa [Value.cells] using ha
  have hb' : c1 = .int .u64 b := by simpa [Value.cells] using hb
  subst ha' hb'
  exact ⟨a, b, rfl, wf_u64 wa, wf_u64 wb⟩

/-- A list of words that came in: nil, or words from an address on. -/
def Came (W : World) (v : Value) (n : Nat) (f : Nat → Int) : Prop :=
  n ≤ maxLen ∧ (∀ i, 0 ≤ f i ∧ f i < 18446744073709551616) ∧ ((v = .slice none 0 0 ∧ n = 0) ∨ ∃ ad c, v = .slice (some ad) n c ∧ n ≤ c ∧ c ≤ maxLen ∧ At W ad n f ∧ (0 < c → ad.block < W.heap.size))
theorem open_words {W : World} {base : Nat} {v : Value} {d : DataW H} {p : List MemPlace} (hval : Value.okWide Tryd.prog W .any base 28 v) (h : DataW.Trod enc Tryd.prog W 0 (fun _ => true) true 28 v d p) :
    ∃ n f, Came W v n f := by
  obtain ⟨a1, len, cap, rfl⟩ := okWide_slice Tryd.underlying28 hval
  obtain ⟨fuel, hf⟩ := h
  rcases open_ints Tryd.underlying28 Tryd.underlying22 cells22 hf with ⟨hcs, hx⟩ | ⟨a, len', cap', zs, hcs, _, hl, hm, hz, hx, hcell, hwz⟩
  · simp [Value.cells] at hcs
    obtain ⟨rfl, rfl, rfl⟩ := hcs
    exact ⟨0, fun _ => 0, Nat.zero_le _, fun _ => ⟨by simp, by simp⟩, .inl ⟨rfl, rfl⟩⟩
  · simp [Value.cells] at hcs
    obtain ⟨rfl, rfl, rfl⟩ := hcs
    simp only [if_true] at hz
    refine ⟨len, fun i => zs.getD i 0, by omega, fun i => ?_, .inr ⟨a, cap, rfl, hl, hm, fun i hi => hcell i (by omega), fun hc => ?_⟩⟩
    · rcases Nat.lt_or_ge i zs.length with h | h
      · have := hwz (zs.getD i 0) (by rw [List.getD_eq_getElem?_getD, List.getElem?_eq_getElem h]; exact List.getElem_mem h)
        exact wf_u64 this
      · show 0 ≤ zs.getD i 0 ∧ zs.getD i 0 < _
        rw [List.getD_eq_getElem?_getD, List.getElem?_eq_none h]; simp
    · have := World.block_lt_of_cell? _ _ (hcell 0 (by omega))
      simpa [block_add] using this
end
end Go.Proofs.YtbfflmjhkeaimaaDoor
