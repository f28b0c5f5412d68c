/- Lists of calls that came in, opened. -/
import Derived.Test.YteadpnododjeaaaDoorDTK4
import Derived.Test.YteadpnododjeaaaDoorLZ4a
namespace Go.Proofs.YteadpnododjeaaaDoor
open Go.ChangeShapes Go.WideShapes Go.ChangeAt Go.RowKit

set_option maxRecDepth 100000
theorem cellsOp : Tryd.prog.cellsOf 41 = 4 := by kernel_rfl
theorem cellsInt : Tryd.prog.cellsOf 3 = 1 := by kernel_rfl
section
variable {H : Type} {enc : TypeId × Value → H}
theorem weightsAll_mem {P : Program} {e : TypeId} : ∀ {l : List (DataW H)} {d : DataW H} {n : Nat}, d ∈ l → n ∈ d.weights P e → n ∈ DataW.weightsAll P e l
  | x :: r, d, n, hd, hn => by
    simp only [DataW.weightsAll, List.mem_append]
    rcases List.mem_cons.1 hd with rfl | hd
    · exact .inl hn
    · exact .inr (weightsAll_mem hd hn)
/-- A byte list of data d within what may come in. -/
theorem lng_fit {d : DataW H} {n : Nat} (h : Lng d n) (hw : ∀ k ∈ d.weights Tryd.prog 23, k ≤ reachBytes) : n ≤ 140737488355328 := by
  rcases h with rfl | ⟨el, sp, rfl, rfl⟩
  · omega
  · have := hw ((el.length + sp.length) * 1) (by simp [DataW.weights, Tryd.underlying23, bytesU8])
    unfold reachBytes at this
    omega
theorem trod_struct4 {P : Program} {w : World} {base : Nat} {spare : Nat → Bool} {held : Bool} {t : TypeId} {f0 f1 f2 f3 : Field} {fuel : Nat} {cs : List Value} {x : DataW H × List MemPlace} (ht : P.underlying t = some (.struct #[f0, f1, f2, f3])) (h : DataW.trod enc P w base spare held fuel t cs = some x) :
    ∃ y0 y1 y2 y3 n, x = (.agg [y0.1, y1.1, y2.1, y3.1], y0.2 ++ (y1.2 ++ (y2.2 ++ y3.2))) ∧ cs.length = P.cellsOf t ∧ DataW.trod enc P w base spare held n f0.type ((cs.drop f0.offset).take (P.cellsOf f0.type)) = some y0 ∧
      DataW.trod enc P w base spare held n f1.type ((cs.drop f1.offset).take (P.cellsOf f1.type)) = some y1 ∧ DataW.trod enc P w base spare held n f2.type ((cs.drop f2.offset).take (P.cellsOf f2.type)) = some y2 ∧
      DataW.trod enc P w base spare held n f3.type ((cs.drop f3.offset).take (P.cellsOf f3.type)) = some y3 := by
  obtain ⟨xs, n, _, rfl, hl, hlen, hf⟩ := DataW.trod_struct ht h
  match xs, hlen with
  | [y0, y1, y2, y3], _ => exact ⟨y0, y1, y2, y3, n, by simp, hl, by simpa using hf 0 f0 rfl, by simpa using hf 1 f1 rfl, by simpa using hf 2 f2 rfl, by simpa using hf 3 f3 rfl⟩
/-- One call that came in. -/
theorem open_op {W : World} {fuel : Nat} {ad : Addr} {cs : List Value} {x : DataW H × List MemPlace} (hc : W.cells? 0 ad 4 = some cs) (hf : DataW.trod enc Tryd.prog W 0 (fun _ => true) true fuel 41 cs = some x) (hw : ∀ k ∈ x.1.weights Tryd.prog 41, k ≤ reachBytes) : ∃ kd z b A n c f, OpAt W ad kd z b A n c f := by
  obtain ⟨_, hlen, hcell⟩ := World.cells?_some hc
  obtain ⟨c0, c1, c2, c3, rfl⟩ : ∃ c0 c1 c2 c3, cs = [c0, c1, c2, c3] := by
    match cs, hlen with
    | [c0, c1, c2, c3], _ => exact ⟨c0, c1, c2, c3, rfl⟩
  obtain ⟨y0, y1, y2, y3, m, hx, _, h0, h1, h2, h3⟩ := trod_struct4 Tryd.underlying41 hf
  have e0 : DataW.trod enc Tryd.prog W 0 (fun _ => true) true m 3 [c0] = some y0 := by rw [cellsInt] at h0; exact h0
  have e1 : DataW.trod enc Tryd.prog W 0 (fun _ => true) true m 3 [c1] = some y1 := by rw [cellsInt] at h1; exact h1
  have e2 : DataW.trod enc Tryd.prog W 0 (fun _ => true) true m 3 [c2] = some y2 := by rw [cellsInt] at h2; exact h2
  have e3 : DataW.trod enc Tryd.prog W 0 (fun _ => true) true m 23 [c3] = some y3 := by rw [cellsBs] at h3; exact h3
  obtain ⟨kd, hk, _⟩ := DataW.trod_int Tryd.underlying3 e0
  obtain ⟨z, hz, _⟩ := DataW.trod_int Tryd.underlying3 e1
  obtain ⟨b, hb, _⟩ := DataW.trod_int Tryd.underlying3 e2
  obtain ⟨A, n, c, f, hcs, g1, g2, g3, _, _, g6⟩ := open_bytesF e3
  have hk' : c0 = .int .i64 kd := by simpa using hk
  have hz' : c1 = .int .i64 z := by simpa using hz
  have hb' : c2 = .int .i64 b := by simpa using hb
  have hcs' : c3 = .slice A n c := by simpa using hcs
  subst hk' hz' hb' hcs'
  refine ⟨kd, z, b, A, n, c, f, hcell 0 (by omega), hcell 1 (by omega), hcell 2 (by omega), hcell 3 (by omega), g1, g2, lng_fit g6 fun k hk => hw k ?_, g3⟩
  rw [hx]
  simp only [DataW.weights, Tryd.underlying41]
  exact DataW.weights_mem_each (ts := [3, 3, 3, 23]) (ds := [y0.1, y1.1, y2.1, y3.1]) (j := 3) rfl rfl k hk
theorem open_ops {W : World} {base : Nat} {v : Value} {d : DataW H} {p : List MemPlace} {ts : List TypeId} {ds : List (DataW H)} (hz : (DataW.weightsEach Tryd.prog ts ds).all (· ≤ reachBytes) = true) {j : Nat} (ht : ts[j]? = some 33) (hd : ds[j]? = some d)
    (hval : Value.okWide Tryd.prog W .any base 33 v) (h : DataW.Trod enc Tryd.prog W 0 (fun _ => true) true 33 v d p) :
    ∃ A N c, v = .slice A N c ∧ OpsAt W A N ∧ N ≤ 9223372036854775807 := by
  obtain ⟨a1, len, cap, rfl⟩ := okWide_slice Tryd.underlying33 hval
  obtain ⟨fuel, hf⟩ := h
  rcases Go.Deep.open_slice Tryd.underlying33 hf with ⟨hcs, hx⟩ | ⟨a, len', cap', m, n, D, Pl, hcs, _, hl, hm, hmm, hx, hall⟩
  · have : (.slice a1 len cap : Value) = .slice none 0 0 := by simpa [Value.cells] using hcs
    rw [this]
    exact ⟨none, 0, 0, rfl, fun i hi => absurd hi (by omega), by omega⟩
  · have hv : (.slice a1 len cap : Value) = .slice (some a) len' cap' := by simpa [Value.cells] using hcs
    rw [hv]
    have hlm : len' ≤ m := by rw [hmm]; split <;> omega
    obtain ⟨hdx, _⟩ := Prod.mk.inj hx
    refine ⟨some a, len', cap', rfl, fun i hi => ⟨a, rfl, ?_⟩, by unfold maxLen at hm; omega⟩
    obtain ⟨cs', h1, h2⟩ := hall i (by omega)
    rw [cellsOp] at h1
    refine open_op h1 h2 fun k hk => ?_
    have hmem : k ∈ d.weights Tryd.prog 33 := by
      rw [hdx]
      simp only [DataW.weights, Tryd.underlying33, List.mem_cons, List.mem_append]
      exact .inr (.inl (weightsAll_mem (List.mem_map.2 ⟨i, List.mem_range.2 hi, rfl⟩) hk))
    have := List.all_eq_true.1 hz _ (DataW.weights_mem_each ht hd k hmem)
    simpa using this
end
end Go.Proofs.YteadpnododjeaaaDoor
