/- Lists of bytes that came in, opened. -/
import Derived.Test.YteadpnododjeaaaDoorDTK
import Derived.Test.YteadpnododjeaaaDoorNB1
import Derived.ChangeSlices
import Derived.SizedLaws
namespace Go.Proofs.YteadpnododjeaaaDoor
open Go.ChangeShapes Go.WideShapes Go.ChangeAt Go.RowKit

set_option maxRecDepth 100000
theorem bytesU8 : Tryd.prog.bytesOf 5 = 1 := by kernel_rfl
section
variable {H : Type} {enc : TypeId × Value → H}
/-- How long a list is whose data these are. -/
def Lng (d : DataW H) (n : Nat) : Prop := n = 0 ∨ ∃ el sp, d = .slice el sp ∧ el.length = n
theorem nats_of (k : IntKind) (M : Int) (zs : List Int) (h : ∀ n ∈ zs, 0 ≤ n ∧ n < M) (hM : 0 < M) : ∃ f : Nat → Nat, (∀ i, (f i : Int) < M) ∧ ∀ i, Value.int k (zs.getD i 0) = .int k (f i : Int) := by
  have key : ∀ i, 0 ≤ zs.getD i 0 ∧ zs.getD i 0 < M := fun i => by
    by_cases hi : i < zs.length
    · have e : zs.getD i 0 = zs[i] := by simp [List.getD, hi]
      rw [e]; exact h _ (List.getElem_mem _)
    · have e : zs.getD i 0 = 0 := by simp [List.getD, List.getElem?_eq_none (by omega : zs.length ≤ i)]
      rw [e]; exact ⟨Int.le_refl _, hM⟩
  refine ⟨fun i => (zs.getD i 0).toNat, fun i => ?_, fun i => ?_⟩
  · have := key i
    show ((zs.getD i 0).toNat : Int) < M
    omega
  · show _ = Value.int k ((zs.getD i 0).toNat : Int)
    rw [Int.toNat_of_nonneg (key i).1]
theorem open_bytesF {W : World} {fuel : Nat} {cs : List Value} {x : DataW H × List MemPlace} (hf : DataW.trod enc Tryd.prog W 0 (fun _ => true) true fuel 23 cs = some x) :
    ∃ A n c f, cs = [.slice A n c] ∧ AtBO W A n f ∧ (∀ i, f i < 256) ∧ (A = none → n = 0 ∧ c = 0) ∧ n ≤ c ∧ c ≤ maxLen ∧ Lng x.1 n := by
  rcases open_ints Tryd.underlying23 Tryd.underlying5 cellsU8 hf with ⟨hcs, hx⟩ | ⟨a, len, cap, zs, hcs, _, hl, hm, hz, hx, hcell, hwz⟩
  · exact ⟨none, 0, 0, fun _ => 0, hcs, AtBO.none, fun _ => Nat.zero_lt_succ _, fun _ => ⟨rfl, rfl⟩, Nat.le_refl _, Nat.zero_le _, .inl rfl⟩
  · simp only [if_true] at hz
    obtain ⟨f, hf1, hf2⟩ := nats_of .u8 256 zs (fun n hn => wf_u8 (hwz n hn)) (by omega)
    refine ⟨some a, len, cap, f, hcs, fun i hi => ⟨a, rfl, ?_⟩, fun i => by have := hf1 i; omega, fun h => (by cases h), hl, hm, .inr ⟨_, _, by rw [hx], by simp [lits]; omega⟩⟩
    rw [hcell i (by omega), hf2]
theorem open_bytes {W : World} {base : Nat} {v : Value} {d : DataW H} {p : List MemPlace} (hval : Value.okWide Tryd.prog W .any base 23 v) (h : DataW.Trod enc Tryd.prog W 0 (fun _ => true) true 23 v d p) :
    ∃ A n c f, v = .slice A n c ∧ AtBO W A n f ∧ (∀ i, f i < 256) ∧ (A = none → n = 0 ∧ c = 0) ∧ n ≤ c ∧ c ≤ maxLen ∧ Lng d n := by
  obtain ⟨a1, len, cap, rfl⟩ := okWide_slice Tryd.underlying23 hval
  obtain ⟨fuel, hf⟩ := h
  obtain ⟨A, n, c, f, hcs, rest⟩ := open_bytesF hf
  exact ⟨A, n, c, f, by simpa [Value.cells] using hcs, rest⟩
theorem bytes_fit {ts : List TypeId} {ds : List (DataW H)} (hz : (DataW.weightsEach Tryd.prog ts ds).all (· ≤ reachBytes) = true) {j : Nat} (ht : ts[j]? = some 23) {d : DataW H} (hd : ds[j]? = some d) {n : Nat} (h : Lng d n) : n ≤ 140737488351232 := by
  rcases h with rfl | ⟨el, sp, rfl, rfl⟩
  · omega
  · have := sized_slice hz ht hd Tryd.underlying23
    rw [bytesU8] at this
    unfold reachBytes at this
    omega
end
end Go.Proofs.YteadpnododjeaaaDoor
