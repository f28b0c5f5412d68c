/- Lists of labels, and the laws' keys, that came in, opened. -/
import Derived.Test.YtamejhhjfnfalaaDoorMK
import Derived.Test.YtamejhhjfnfalaaDoorZGA11
namespace Go.Proofs.YtamejhhjfnfalaaDoor
open Go.ChangeShapes Go.WideShapes Go.ChangeAt Go.RowKit

set_option maxRecDepth 100000
theorem cellsLab : Tryd.prog.cellsOf 28 = 2 := by kernel_rfl
theorem cellsU64 : Tryd.prog.cellsOf 26 = 1 := by kernel_rfl
theorem cellsLs : Tryd.prog.cellsOf 29 = 1 := by kernel_rfl
theorem cellsKeys : Tryd.prog.cellsOf 31 = 4 := by kernel_rfl
theorem bytesLab : Tryd.prog.bytesOf 28 = 16 := by kernel_rfl
section
variable {H : Type} {enc : TypeId × Value → H}
theorem trod_arr2 {P : Program} {w : World} {base : Nat} {spare : Nat → Bool} {held : Bool} {t e : TypeId} {fuel : Nat} {cs : List Value} {x : DataW H × List MemPlace} (ht : P.underlying t = some (.array 2 e)) (h : DataW.trod enc P w base spare held fuel t cs = some x) :
    ∃ y0 y1 n, DataW.trod enc P w base spare held n e (cs.take (P.cellsOf e)) = some y0 ∧ DataW.trod enc P w base spare held n e ((cs.drop (P.cellsOf e)).take (P.cellsOf e)) = some y1 := by
  obtain ⟨xs, n, _, rfl, hl, hlen, hf⟩ := DataW.trod_array ht h
  match xs, hlen with
  | [y0, y1], _ => exact ⟨y0, y1, n, by simpa using hf 0 (by omega), by simpa using hf 1 (by omega)⟩
theorem nat_of {a : Int} (h : 0 ≤ a ∧ a < 18446744073709551616) : ∃ n : Nat, a = (n : Int) ∧ n < 18446744073709551616 := ⟨a.toNat, by omega, by omega⟩
/-- Two cells that are a label. -/
theorem open_lab2 {W : World} {fuel : Nat} {c0 c1 : Value} {x : DataW H × List MemPlace} (hf : DataW.trod enc Tryd.prog W 0 (fun _ => true) true fuel 28 [c0, c1] = some x) :
    ∃ a : Lab, Garb.Wd a ∧ c0 = .int .u64 (a.1 : Int) ∧ c1 = .int .u64 (a.2 : Int) := by
  obtain ⟨u0, u1, n0, i0, i1⟩ := trod_arr2 Tryd.underlying28 hf
  rw [cellsU64] at i0 i1
  obtain ⟨a, ha, _, wa⟩ := DataW.trod_int Tryd.underlying26 i0
  obtain ⟨b, hb, _, wb⟩ := DataW.trod_int Tryd.underlying26 i1
  obtain ⟨a', rfl, la⟩ := nat_of (wf_u64 wa)
  obtain ⟨b', rfl, lb⟩ := nat_of (wf_u64 wb)
  exact ⟨(a', b'), ⟨la, lb⟩, by simpa using ha, by simpa using hb⟩
/-- One label in memory. -/
theorem open_labF {W : World} {fuel : Nat} {ad : Addr} {cs : List Value} {x : DataW H × List MemPlace} (hc : W.cells? 0 ad 2 = some cs) (hf : DataW.trod enc Tryd.prog W 0 (fun _ => true) true fuel 28 cs = some x) :
    ∃ a : Lab, Garb.Wd a ∧ W.cell? (ad.add 0) = some (.int .u64 (a.1 : Int)) ∧ W.cell? (ad.add 1) = some (.int .u64 (a.2 : Int)) := by
  obtain ⟨_, hlen, hcell⟩ := World.cells?_some hc
  obtain ⟨c0, c1, rfl⟩ : ∃ c0 c1, cs = [c0, c1] := by
    match cs, hlen with
    | [c0, c1], _ => exact ⟨c0, c1, rfl⟩
  obtain ⟨a, ha, rfl, rfl⟩ := open_lab2 hf
  exact ⟨a, ha, hcell 0 (by omega), hcell 1 (by omega)⟩
theorem open_labsF {W : World} {fuel : Nat} {cs : List Value} {x : DataW H × List MemPlace} (hf : DataW.trod enc Tryd.prog W 0 (fun _ => true) true fuel 29 cs = some x) :
    ∃ A n c L, cs = [.slice A n c] ∧ AtV W A (n * 2) (lv L) ∧ (∀ i, Garb.Wd (L i)) ∧ (A = none → n = 0 ∧ c = 0) ∧ n ≤ c ∧ c ≤ maxLen ∧ Lng x.1 n := by
  rcases Go.Deep.open_slice Tryd.underlying29 hf with ⟨hcs, hx⟩ | ⟨a, len', cap', m, n, D, Pl, hcs, _, hl, hm, hmm, hx, hall⟩
  · exact ⟨none, 0, 0, fun _ => (0, 0), hcs, fun i hi => absurd hi (by omega), fun _ => Garb.Wd.zero, fun _ => ⟨rfl, rfl⟩, Nat.le_refl _, Nat.zero_le _, .inl rfl⟩
  · have hlm : len' ≤ m := by rw [hmm]; split <;> omega
    obtain ⟨hdx, _⟩ := Prod.mk.inj hx
    have key : ∀ i, ∃ b : Lab, Garb.Wd b ∧ (i < len' → W.cell? (a.add (i * 2)) = some (.int .u64 (b.1 : Int)) ∧ W.cell? (a.add (i * 2 + 1)) = some (.int .u64 (b.2 : Int))) := fun i => by
      by_cases hi : i < len'
      · obtain ⟨cs', h1, h2⟩ := hall i (by omega)
        rw [cellsLab] at h1
        obtain ⟨b, hb, g0, g1⟩ := open_labF h1 h2
        rw [add_add] at g0 g1
        exact ⟨b, hb, fun _ => ⟨g0, g1⟩⟩
      · exact ⟨(0, 0), Garb.Wd.zero, fun h => absurd h hi⟩
    obtain ⟨fc, hfc⟩ : ∃ fc : Nat → Lab, ∀ i, Garb.Wd (fc i) ∧ (i < len' → W.cell? (a.add (i * 2)) = some (.int .u64 ((fc i).1 : Int)) ∧ W.cell? (a.add (i * 2 + 1)) = some (.int .u64 ((fc i).2 : Int))) := ⟨fun i => Classical.choose (key i), fun i => Classical.choose_spec (key i)⟩
    refine ⟨some a, len', cap', fc, hcs, fun q hq => ⟨a, rfl, ?_⟩, fun i => (hfc i).1, fun h => (by cases h), hl, hm, .inr ⟨_, _, hdx, by simp⟩⟩
    have h2 := (hfc (q / 2)).2 (by omega)
    unfold lv
    rcases (show q % 2 = 0 ∨ q % 2 = 1 by omega) with e | e
    · rw [if_pos e]
      have h3 := h2.1
      rw [show q / 2 * 2 = q by omega] at h3
      exact h3
    · rw [if_neg (by omega)]
      have h3 := h2.2
      rw [show q / 2 * 2 + 1 = q by omega] at h3
      exact h3
/-- Labels that came in. -/
theorem open_labs {W : World} {base : Nat} {v : Value} {d : DataW H} {p : List MemPlace} (hval : Value.okWide Tryd.prog W .any base 29 v) (h : DataW.Trod enc Tryd.prog W 0 (fun _ => true) true 29 v d p) :
    ∃ A n c L, v = .slice A n c ∧ AtV W A (n * 2) (lv L) ∧ (∀ i, Garb.Wd (L i)) ∧ (A = none → n = 0 ∧ c = 0) ∧ n ≤ c ∧ c ≤ maxLen ∧ Lng d n := by
  obtain ⟨a1, len, cap, rfl⟩ := okWide_slice Tryd.underlying29 hval
  obtain ⟨fuel, hf⟩ := h
  obtain ⟨A, n, c, L, hcs, rest⟩ := open_labsF hf
  exact ⟨A, n, c, L, by simpa [Value.cells] using hcs, rest⟩
/-- How long the keys' list is whose data these are. -/
def LngK (d : DataW H) (n : Nat) : Prop := ∃ d0 d1 d2, d = .agg [d0, d1, d2] ∧ Lng d1 n
theorem trod_struct3x {P : Program} {w : World} {base : Nat} {spare : Nat → Bool} {held : Bool} {t : TypeId} {f0 f1 f2 : Field} {fuel : Nat} {cs : List Value} {x : DataW H × List MemPlace} (ht : P.underlying t = some (.struct #[f0, f1, f2])) (h : DataW.trod enc P w base spare held fuel t cs = some x) :
    ∃ y0 y1 y2 n, x.1 = .agg [y0.1, y1.1, y2.1] ∧ DataW.trod enc P w base spare held n f0.type ((cs.drop f0.offset).take (P.cellsOf f0.type)) = some y0 ∧ DataW.trod enc P w base spare held n f1.type ((cs.drop f1.offset).take (P.cellsOf f1.type)) = some y1 ∧ DataW.trod enc P w base spare held n f2.type ((cs.drop f2.offset).take (P.cellsOf f2.type)) = some y2 := by
  obtain ⟨xs, n, _, rfl, hl, hlen, hf⟩ := DataW.trod_struct ht h
  match xs, hlen with
  | [y0, y1, y2], _ => exact ⟨y0, y1, y2, n, rfl, by simpa using hf 0 f0 rfl, by simpa using hf 1 f1 rfl, by simpa using hf 2 f2 rfl⟩
/-- Keys that came in. -/
theorem open_keys {W : World} {base : Nat} {v : Value} {d : DataW H} {p : List MemPlace} (hval : Value.okWide Tryd.prog W .any base 31 v) (h : DataW.Trod enc Tryd.prog W 0 (fun _ => true) true 31 v d p) :
    ∃ (dl : Lab) (A : Option Addr) (n c first : Nat) (L : Nat → Lab), v = keysV dl A n c first ∧ Garb.Wd dl ∧ first < 18446744073709551616 ∧ AtV W A (n * 2) (lv L) ∧ (∀ i, Garb.Wd (L i)) ∧ (A = none → n = 0 ∧ c = 0) ∧ n ≤ c ∧ c ≤ maxLen ∧ LngK d n := by
  have hv : ∃ cs, v = .agg cs ∧ cs.size = Tryd.prog.cellsOf 31 ∧ Row.okWide Tryd.prog W .any base 31 cs := by
    have := hval
    simp only [Value.okWide, Tryd.underlying31] at this
    exact this
  obtain ⟨cs, rfl, hs, _⟩ := hv
  rw [cellsKeys] at hs
  obtain ⟨c0, c1, c2, c3, rfl⟩ : ∃ c0 c1 c2 c3, cs = #[c0, c1, c2, c3] := by
    obtain ⟨l⟩ := cs
    match l, hs with
    | [c0, c1, c2, c3], _ => exact ⟨c0, c1, c2, c3, rfl⟩
  obtain ⟨fuel, hf⟩ := h
  obtain ⟨y0, y1, y2, m, hx, h0, h1, h2⟩ := trod_struct3x Tryd.underlying31 hf
  have e0 : DataW.trod enc Tryd.prog W 0 (fun _ => true) true m 28 [c0, c1] = some y0 := by rw [cellsLab] at h0; exact h0
  have e1 : DataW.trod enc Tryd.prog W 0 (fun _ => true) true m 29 [c2] = some y1 := by rw [cellsLs] at h1; exact h1
  have e2 : DataW.trod enc Tryd.prog W 0 (fun _ => true) true m 26 [c3] = some y2 := by rw [cellsU64] at h2; exact h2
  obtain ⟨dl, hdl, rfl, rfl⟩ := open_lab2 e0
  obtain ⟨A, n, c, L, hcs, g2, g3, g4, g5, g6, g7⟩ := open_labsF e1
  obtain ⟨f, hfz, _, wf⟩ := DataW.trod_int Tryd.underlying26 e2
  obtain ⟨f', rfl, lf⟩ := nat_of (wf_u64 wf)
  have hcs' : c2 = .slice A n c := by simpa using hcs
  have hf' : c3 = .int .u64 (f' : Int) := by simpa using hfz
  subst hcs' hf'
  exact ⟨dl, A, n, c, f', L, rfl, hdl, lf, g2, g3, g4, g5, g6, _, _, _, hx, g7⟩
theorem keys_fit {ts : List TypeId} {ds : List (DataW H)} (hz : (DataW.weightsEach Tryd.prog ts ds).all (· ≤ reachBytes) = true) {j : Nat} (ht : ts[j]? = some 31) {d : DataW H} (hd : ds[j]? = some d) {n : Nat} (h : LngK d n) : n * 16 ≤ 140737488351232 := by
  obtain ⟨d0, d1, d2, rfl, rfl | ⟨el, sp, rfl, rfl⟩⟩ := h
  · omega
  · have := List.all_eq_true.1 hz _ (DataW.weights_mem_each ht hd ((el.length + sp.length) * 16) (by simp [DataW.weights, DataW.weightsEach, Tryd.underlying31, Tryd.underlying29, bytesLab]))
    have h2 : (el.length + sp.length) * 16 ≤ reachBytes := by simpa using this
    unfold reachBytes at h2
    omega
end
end Go.Proofs.YtamejhhjfnfalaaDoor
