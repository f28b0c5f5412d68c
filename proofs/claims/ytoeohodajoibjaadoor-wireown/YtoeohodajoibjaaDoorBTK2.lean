/- Lists of bytes and of words, and messages, that came in, opened. -/
import Derived.Test.YtoeohodajoibjaaDoorBTK
import Derived.Test.YtoeohodajoibjaaDoorWD1
import Derived.ChangeSlices
import Derived.SizedLaws
namespace Go.Proofs.YtoeohodajoibjaaDoor
open Go.ChangeShapes Go.WideShapes Go.ChangeAt Go.RowKit

set_option maxRecDepth 100000
theorem bytesU8 : Tryd.prog.bytesOf 5 = 1 := by kernel_rfl
theorem bytesU64 : Tryd.prog.bytesOf 46 = 8 := by kernel_rfl
section
variable {H : Type} {enc : TypeId × Value → H}
/-- How long a list is whose data these are. -/
def Lng (d : DataW H) (n : Nat) : Prop := n = 0 ∨ ∃ el sp, d = .slice el sp ∧ el.length = n
theorem nats_of (k : IntKind) (M : Int) (zs : List Int) (h : ∀ n ∈ zs, 0 ≤ n ∧ n < M) (hM : 0 < M) : ∃ f : Nat → Nat, (∀ i, (f i : Int) < M) ∧ ∀ i, Value.int k (zs.getD i 0) = .int k (f i : Int) := by
  have key : ∀ i, 0 ≤ zs.getD i 0 ∧ zs.getD i 0 < M := fun i => by
    by_cases hi : i < zs.length
    · have e : zs.getD i 0 = zs[i] := by simp [List.getD, hi]
      rw [e]; exact h _ (List.getElem_mem _)
    · have e : zs.getD i 0 = 0 := by simp [List.getD, List.getElem?_eq_none (by omega : zs.length ≤ i)]
      rw [e]; exact ⟨Int.le_refl _, hM⟩
  refine ⟨fun i => (zs.getD i 0).toNat, fun i => ?_, fun i => ?_⟩
  · have := key i
    show ((zs.getD i 0).toNat : Int) < M
    omega
  · show _ = Value.int k ((zs.getD i 0).toNat : Int)
    rw [Int.toNat_of_nonneg (key i).1]
theorem open_bytesF {W : World} {fuel : Nat} {cs : List Value} {x : DataW H × List MemPlace} (hf : DataW.trod enc Tryd.prog W 0 (fun _ => true) true fuel 22 cs = some x) :
    ∃ A n c f, cs = [.slice A n c] ∧ AtBO W A n f ∧ (∀ i, f i < 256) ∧ (A = none → n = 0 ∧ c = 0) ∧ n ≤ c ∧ c ≤ maxLen ∧ Lng x.1 n := by
  rcases open_ints Tryd.underlying22 Tryd.underlying5 cellsU8 hf with ⟨hcs, hx⟩ | ⟨a, len, cap, zs, hcs, _, hl, hm, hz, hx, hcell, hwz⟩
  · exact ⟨none, 0, 0, fun _ => 0, hcs, AtBO.none, fun _ => Nat.zero_lt_succ _, fun _ => ⟨rfl, rfl⟩, Nat.le_refl _, Nat.zero_le _, .inl rfl⟩
  · simp only [if_true] at hz
    obtain ⟨f, hf1, hf2⟩ := nats_of .u8 256 zs (fun n hn => wf_u8 (hwz n hn)) (by omega)
    refine ⟨some a, len, cap, f, hcs, fun i hi => ⟨a, rfl, ?_⟩, fun i => by have := hf1 i; omega, fun h => (by cases h), hl, hm, .inr ⟨_, _, by rw [hx], by simp [lits]; omega⟩⟩
    rw [hcell i (by omega), hf2]
theorem open_wordsF {W : World} {fuel : Nat} {cs : List Value} {x : DataW H × List MemPlace} (hf : DataW.trod enc Tryd.prog W 0 (fun _ => true) true fuel 34 cs = some x) :
    ∃ (A : Option Addr) (n c : Nat) (f : Nat → Nat), cs = [.slice A n c] ∧ AtO W A n (fun i => (f i : Int)) ∧ (∀ i, f i < 18446744073709551616) ∧ (A = none → n = 0 ∧ c = 0) ∧ n ≤ c ∧ c ≤ maxLen ∧ Lng x.1 n := by
  rcases open_ints Tryd.underlying34 Tryd.underlying46 cellsU64 hf with ⟨hcs, hx⟩ | ⟨a, len, cap, zs, hcs, _, hl, hm, hz, hx, hcell, hwz⟩
  · exact ⟨none, 0, 0, fun _ => 0, hcs, AtO.none, fun _ => Nat.zero_lt_succ _, fun _ => ⟨rfl, rfl⟩, Nat.le_refl _, Nat.zero_le _, .inl rfl⟩
  · simp only [if_true] at hz
    obtain ⟨f, hf1, hf2⟩ := nats_of .u64 18446744073709551616 zs (fun n hn => wf_u64 (hwz n hn)) (by omega)
    refine ⟨some a, len, cap, f, hcs, fun i hi => ⟨a, rfl, ?_⟩, fun i => by have := hf1 i; omega, fun h => (by cases h), hl, hm, .inr ⟨_, _, by rw [hx], by simp [lits]; omega⟩⟩
    rw [hcell i (by omega), hf2]
theorem open_bytes {W : World} {base : Nat} {v : Value} {d : DataW H} {p : List MemPlace} (hval : Value.okWide Tryd.prog W .any base 22 v) (h : DataW.Trod enc Tryd.prog W 0 (fun _ => true) true 22 v d p) :
    ∃ A n c f, v = .slice A n c ∧ AtBO W A n f ∧ (∀ i, f i < 256) ∧ (A = none → n = 0 ∧ c = 0) ∧ n ≤ c ∧ c ≤ maxLen ∧ Lng d n := by
  obtain ⟨a1, len, cap, rfl⟩ := okWide_slice Tryd.underlying22 hval
  obtain ⟨fuel, hf⟩ := h
  obtain ⟨A, n, c, f, hcs, rest⟩ := open_bytesF hf
  exact ⟨A, n, c, f, by simpa [Value.cells] using hcs, rest⟩
theorem bytes_fit {ts : List TypeId} {ds : List (DataW H)} (hz : (DataW.weightsEach Tryd.prog ts ds).all (· ≤ reachBytes) = true) {j : Nat} (ht : ts[j]? = some 22) {d : DataW H} (hd : ds[j]? = some d) {n : Nat} (h : Lng d n) : n ≤ 140737488355328 := by
  rcases h with rfl | ⟨el, sp, rfl, rfl⟩
  · omega
  · have := sized_slice hz ht hd Tryd.underlying22
    rw [bytesU8] at this
    unfold reachBytes at this
    omega
theorem cellsMsg : Tryd.prog.cellsOf 36 = 2 := by kernel_rfl
theorem cellsI64 : Tryd.prog.cellsOf 3 = 1 := by kernel_rfl
theorem cellsWs : Tryd.prog.cellsOf 34 = 1 := by kernel_rfl
/-- How long a message's list is whose data these are. -/
def LngM (d : DataW H) (n : Nat) : Prop := ∃ d0 d1, d = .agg [d0, d1] ∧ Lng d1 n
/-- A message that came in. -/
theorem open_msg {W : World} {base : Nat} {v : Value} {d : DataW H} {p : List MemPlace} (hval : Value.okWide Tryd.prog W .any base 36 v) (h : DataW.Trod enc Tryd.prog W 0 (fun _ => true) true 36 v d p) :
    ∃ (r : Int) (A : Option Addr) (n c : Nat) (f : Nat → Nat), v = .agg #[.int .i64 r, .slice A n c] ∧ -9223372036854775808 ≤ r ∧ r < 9223372036854775808 ∧ AtO W A n (fun i => (f i : Int)) ∧ (∀ i, f i < 18446744073709551616) ∧ (A = none → n = 0 ∧ c = 0) ∧ n ≤ c ∧ c ≤ maxLen ∧ LngM d n := by
  have hv : ∃ cs, v = .agg cs ∧ cs.size = Tryd.prog.cellsOf 36 ∧ Row.okWide Tryd.prog W .any base 36 cs := by
    have := hval
    simp only [Value.okWide, Tryd.underlying36] at this
    exact this
  obtain ⟨cs, rfl, hs, _⟩ := hv
  rw [cellsMsg] at hs
  obtain ⟨c0, c1, rfl⟩ : ∃ c0 c1, cs = #[c0, c1] := by
    obtain ⟨l⟩ := cs
    match l, hs with
    | [c0, c1], _ => exact ⟨c0, c1, rfl⟩
  obtain ⟨fuel, hf⟩ := h
  obtain ⟨y0, y1, m, hx, _, h0, h1⟩ := trod_struct2 Tryd.underlying36 hf
  have e0 : DataW.trod enc Tryd.prog W 0 (fun _ => true) true m 3 [c0] = some y0 := by
    rw [cellsI64] at h0; exact h0
  have e1 : DataW.trod enc Tryd.prog W 0 (fun _ => true) true m 34 [c1] = some y1 := by
    rw [cellsWs] at h1; exact h1
  obtain ⟨r, hr, _, wr⟩ := DataW.trod_int Tryd.underlying3 e0
  obtain ⟨A, n, c, f, hcs, h2, h3, h4, h5, h6, h7⟩ := open_wordsF e1
  have hr' : c0 = .int .i64 r := by simpa using hr
  have hcs' : c1 = .slice A n c := by simpa using hcs
  subst hr' hcs'
  obtain ⟨rfl, _⟩ := Prod.mk.inj hx
  exact ⟨r, A, n, c, f, rfl, (wf_i64 wr).1, (wf_i64 wr).2, h2, h3, h4, h5, h6, _, _, rfl, h7⟩
theorem msg_fit {ts : List TypeId} {ds : List (DataW H)} (hz : (DataW.weightsEach Tryd.prog ts ds).all (· ≤ reachBytes) = true) {j : Nat} (ht : ts[j]? = some 36) {d : DataW H} (hd : ds[j]? = some d) {n : Nat} (h : LngM d n) : n * 8 ≤ 140737488355328 := by
  obtain ⟨d0, d1, rfl, rfl | ⟨el, sp, rfl, rfl⟩⟩ := h
  · omega
  · have := List.all_eq_true.1 hz _ (DataW.weights_mem_each ht hd ((el.length + sp.length) * 8) (by simp [DataW.weights, DataW.weightsEach, Tryd.underlying36, Tryd.underlying34, bytesU64]))
    have h2 : (el.length + sp.length) * 8 ≤ reachBytes := by simpa using this
    unfold reachBytes at h2
    omega
end
end Go.Proofs.YtoeohodajoibjaaDoor
