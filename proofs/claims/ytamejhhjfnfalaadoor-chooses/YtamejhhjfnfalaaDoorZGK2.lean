/- Words that came in. -/
import Derived.Test.YtamejhhjfnfalaaDoorZGK
import Derived.Test.YtamejhhjfnfalaaDoorZGC4
import Derived.ChangeSlices
import Derived.SizedLaws
namespace Go.Proofs.YtamejhhjfnfalaaDoor
open Go.ChangeShapes Go.WideShapes Go.ChangeAt Go.RowKit

set_option maxRecDepth 100000
section
variable {H : Type} {enc : TypeId × Value → H}
theorem nats_of (k : IntKind) (M : Int) (zs : List Int) (h : ∀ n ∈ zs, 0 ≤ n ∧ n < M) (hM : 0 < M) : ∃ f : Nat → Nat, (∀ i, (f i : Int) < M) ∧ ∀ i, Value.int k (zs.getD i 0) = .int k (f i : Int) := by
  have key : ∀ i, 0 ≤ zs.getD i 0 ∧ zs.getD i 0 < M := fun i => by
    by_cases hi : i < zs.length
    · have e : zs.getD i 0 = zs[i] := by simp [List.getD, hi]
      rw [e]; exact h _ (List.getElem_mem _)
    · have e : zs.getD i 0 = 0 := by simp [List.getD, List.getElem?_eq_none (by omega : zs.length ≤ i)]
      rw [e]; exact ⟨Int.le_refl _, hM⟩
  refine ⟨fun i => (zs.getD i 0).toNat, fun i => ?_, fun i => ?_⟩
  · have := key i
    show ((zs.getD i 0).toNat : Int) < M
    omega
  · show _ = Value.int k ((zs.getD i 0).toNat : Int)
    rw [Int.toNat_of_nonneg (key i).1]
theorem cellsU64x : Tryd.prog.cellsOf 26 = 1 := by kernel_rfl
theorem open_wds {W : World} {base : Nat} {v : Value} {d : DataW H} {p : List MemPlace} (hval : Value.okWide Tryd.prog W .any base 61 v) (h : DataW.Trod enc Tryd.prog W 0 (fun _ => true) true 61 v d p) :
    ∃ A n c f, v = .slice A n c ∧ AtV W A n (wv f) ∧ (∀ i, 0 ≤ f i ∧ f i < 18446744073709551616) ∧ (A = none → n = 0 ∧ c = 0) := by
  obtain ⟨a1, len, cap, rfl⟩ := okWide_slice Tryd.underlying61 hval
  obtain ⟨fuel, hf⟩ := h
  rcases open_ints Tryd.underlying61 Tryd.underlying26 cellsU64x hf with ⟨hcs, hx⟩ | ⟨a, len', cap', zs, hcs, _, hl, hm, hz, hx, hcell, hwz⟩
  · exact ⟨none, 0, 0, fun _ => 0, by simpa [Value.cells] using hcs, AtV.zero, fun _ => ⟨Int.le_refl 0, (by decide : (0 : Int) < 18446744073709551616)⟩, fun _ => ⟨rfl, rfl⟩⟩
  · simp only [if_true] at hz
    obtain ⟨f, hf1, hf2⟩ := nats_of .u64 18446744073709551616 zs (fun n hn => wf_u64 (hwz n hn)) (by omega)
    refine ⟨some a, len', cap', fun i => (f i : Int), by simpa [Value.cells] using hcs, fun i hi => ⟨a, rfl, ?_⟩, fun i => ⟨Int.natCast_nonneg _, hf1 i⟩, fun h => (by cases h)⟩
    rw [hcell i (by omega), hf2]
    rfl
end
end Go.Proofs.YtamejhhjfnfalaaDoor
