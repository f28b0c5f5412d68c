/- Lists of byte lists that came in, opened. -/
import Derived.Test.YtfilhlilagmhlaaDoorCTK2
import Derived.Test.YtfilhlilagmhlaaDoorNX2
import Derived.Deep.Slices
namespace Go.Proofs.YtfilhlilagmhlaaDoor
open Go.ChangeShapes Go.WideShapes Go.ChangeAt Go.RowKit

set_option maxRecDepth 100000
theorem cellsBs : Tryd.prog.cellsOf 32 = 1 := by kernel_rfl
section
variable {H : Type} {enc : TypeId × Value → H}
theorem weightsAll_mem {P : Program} {e : TypeId} : ∀ {l : List (DataW H)} {d : DataW H} {n : Nat}, d ∈ l → n ∈ d.weights P e → n ∈ DataW.weightsAll P e l
  | x :: r, d, n, hd, hn => by
    simp only [DataW.weightsAll, List.mem_append]
    rcases List.mem_cons.1 hd with rfl | hd
    · exact .inl hn
    · exact .inr (weightsAll_mem hd hn)
/-- A byte list of data d within what may come in. -/
theorem lng_fit {d : DataW H} {n : Nat} (h : Lng d n) (hw : ∀ k ∈ d.weights Tryd.prog 32, k ≤ reachBytes) : n ≤ 140737488355328 := by
  rcases h with rfl | ⟨el, sp, rfl, rfl⟩
  · omega
  · have := hw ((el.length + sp.length) * 1) (by simp [DataW.weights, Tryd.underlying32, bytesU8])
    unfold reachBytes at this
    omega
theorem open_frames {W : World} {base : Nat} {v : Value} {d : DataW H} {p : List MemPlace} {ts : List TypeId} {ds : List (DataW H)} (hz : (DataW.weightsEach Tryd.prog ts ds).all (· ≤ reachBytes) = true) {j : Nat} (ht : ts[j]? = some 51) (hd : ds[j]? = some d)
    (hval : Value.okWide Tryd.prog W .any base 51 v) (h : DataW.Trod enc Tryd.prog W 0 (fun _ => true) true 51 v d p) :
    ∃ A N c text, v = .slice A N c ∧ Frs W A N text := by
  obtain ⟨a1, len, cap, rfl⟩ := okWide_slice Tryd.underlying51 hval
  obtain ⟨fuel, hf⟩ := h
  rcases Go.Deep.open_slice1 Tryd.underlying51 cellsBs hf with ⟨hcs, hx⟩ | ⟨a, len', cap', m, n, V, D, Pl, hcs, _, hl, hm, hmm, hx, hall⟩
  · have : (.slice a1 len cap : Value) = .slice none 0 0 := by simpa [Value.cells] using hcs
    rw [this]
    exact ⟨none, 0, 0, fun _ => ⟨#[]⟩, rfl, fun i hi => absurd hi (by omega)⟩
  · have hv : (.slice a1 len cap : Value) = .slice (some a) len' cap' := by simpa [Value.cells] using hcs
    rw [hv]
    have hlm : len' ≤ m := by rw [hmm]; split <;> omega
    obtain ⟨hdx, _⟩ := Prod.mk.inj hx
    have key : ∀ i, ∃ t : ByteArray, i < len' → ∃ ad g n c f, some a = some ad ∧ W.cell? (ad.add i) = some (.slice g n c) ∧ AtBO W g n f ∧ (∀ j, f j < 256) ∧ n ≤ 140737488355328 ∧ (g = none → n = 0 ∧ c = 0) ∧ strB n f = t := fun i => by
      by_cases hi : i < len'
      · obtain ⟨h1, h2⟩ := hall i (by omega)
        obtain ⟨A, n', c, f, hVi, h3, h4, h5, _, _, h8⟩ := open_bytesF h2
        have hVi' : V i = .slice A n' c := by simpa using hVi
        rw [hVi'] at h1
        refine ⟨strB n' f, fun _ => ⟨a, A, n', c, f, rfl, h1, h3, h4, lng_fit h8 fun k hk => ?_, h5, rfl⟩⟩
        have hmem : k ∈ d.weights Tryd.prog 51 := by
          rw [hdx]
          simp only [DataW.weights, Tryd.underlying51, List.mem_cons, List.mem_append]
          exact .inr (.inl (weightsAll_mem (List.mem_map.2 ⟨i, List.mem_range.2 hi, rfl⟩) hk))
        have := List.all_eq_true.1 hz _ (DataW.weights_mem_each ht hd k hmem)
        simpa using this
      · exact ⟨⟨#[]⟩, fun h => absurd h hi⟩
    exact ⟨some a, len', cap', fun i => Classical.choose (key i), rfl, fun i hi => Classical.choose_spec (key i) hi⟩
end
end Go.Proofs.YtfilhlilagmhlaaDoor
