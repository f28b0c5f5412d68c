/- Lists of triples and of OTs that came in, opened. -/
import Derived.Test.YtgmlmngnedhllaaDoorQK
import Derived.Test.YtgmlmngnedhllaaDoorQX3
import Derived.Deep.Slices
namespace Go.Proofs.YtgmlmngnedhllaaDoor
open Go.ChangeShapes Go.WideShapes Go.ChangeAt Go.RowKit

set_option maxRecDepth 100000
theorem cellsTri : Tryd.prog.cellsOf 48 = 3 := by kernel_rfl
theorem cellsOt : Tryd.prog.cellsOf 55 = 5 := by kernel_rfl
theorem cellsLab : Tryd.prog.cellsOf 52 = 2 := by kernel_rfl
theorem cellsLabs : Tryd.prog.cellsOf 53 = 4 := by kernel_rfl
theorem cellsBool : Tryd.prog.cellsOf 4 = 1 := by kernel_rfl
theorem bytesTri : Tryd.prog.bytesOf 48 = 24 := by kernel_rfl
theorem bytesOt : Tryd.prog.bytesOf 55 = 40 := by kernel_rfl
section
variable {H : Type} {enc : TypeId × Value → H}
theorem trod_struct3 {P : Program} {w : World} {base : Nat} {spare : Nat → Bool} {held : Bool} {t : TypeId} {f0 f1 f2 : Field} {fuel : Nat} {cs : List Value} {x : DataW H × List MemPlace} (ht : P.underlying t = some (.struct #[f0, f1, f2])) (h : DataW.trod enc P w base spare held fuel t cs = some x) :
    ∃ y0 y1 y2 n, DataW.trod enc P w base spare held n f0.type ((cs.drop f0.offset).take (P.cellsOf f0.type)) = some y0 ∧ DataW.trod enc P w base spare held n f1.type ((cs.drop f1.offset).take (P.cellsOf f1.type)) = some y1 ∧ DataW.trod enc P w base spare held n f2.type ((cs.drop f2.offset).take (P.cellsOf f2.type)) = some y2 := by
  obtain ⟨xs, n, _, rfl, hl, hlen, hf⟩ := DataW.trod_struct ht h
  match xs, hlen with
  | [y0, y1, y2], _ => exact ⟨y0, y1, y2, n, by simpa using hf 0 f0 rfl, by simpa using hf 1 f1 rfl, by simpa using hf 2 f2 rfl⟩
theorem trod_struct2 {P : Program} {w : World} {base : Nat} {spare : Nat → Bool} {held : Bool} {t : TypeId} {f0 f1 : Field} {fuel : Nat} {cs : List Value} {x : DataW H × List MemPlace} (ht : P.underlying t = some (.struct #[f0, f1])) (h : DataW.trod enc P w base spare held fuel t cs = some x) :
    ∃ y0 y1 n, DataW.trod enc P w base spare held n f0.type ((cs.drop f0.offset).take (P.cellsOf f0.type)) = some y0 ∧ DataW.trod enc P w base spare held n f1.type ((cs.drop f1.offset).take (P.cellsOf f1.type)) = some y1 := by
  obtain ⟨xs, n, _, rfl, hl, hlen, hf⟩ := DataW.trod_struct ht h
  match xs, hlen with
  | [y0, y1], _ => exact ⟨y0, y1, n, by simpa using hf 0 f0 rfl, by simpa using hf 1 f1 rfl⟩
theorem trod_arr2 {P : Program} {w : World} {base : Nat} {spare : Nat → Bool} {held : Bool} {t e : TypeId} {fuel : Nat} {cs : List Value} {x : DataW H × List MemPlace} (ht : P.underlying t = some (.array 2 e)) (h : DataW.trod enc P w base spare held fuel t cs = some x) :
    ∃ y0 y1 n, DataW.trod enc P w base spare held n e (cs.take (P.cellsOf e)) = some y0 ∧ DataW.trod enc P w base spare held n e ((cs.drop (P.cellsOf e)).take (P.cellsOf e)) = some y1 := by
  obtain ⟨xs, n, _, rfl, hl, hlen, hf⟩ := DataW.trod_array ht h
  match xs, hlen with
  | [y0, y1], _ => exact ⟨y0, y1, n, by simpa using hf 0 (by omega), by simpa using hf 1 (by omega)⟩
/-- One triple that came in. -/
theorem open_tri {W : World} {fuel : Nat} {ad : Addr} {cs : List Value} {x : DataW H × List MemPlace} (hc : W.cells? 0 ad 3 = some cs) (hf : DataW.trod enc Tryd.prog W 0 (fun _ => true) true fuel 48 cs = some x) :
    ∃ y : Nat → Int, W.cell? (ad.add 0) = some (.int .u64 (y 0)) ∧ W.cell? (ad.add 1) = some (.int .u64 (y 1)) ∧ W.cell? (ad.add 2) = some (.int .u64 (y 2)) := by
  obtain ⟨_, hlen, hcell⟩ := World.cells?_some hc
  obtain ⟨c0, c1, c2, rfl⟩ : ∃ c0 c1 c2, cs = [c0, c1, c2] := by
    match cs, hlen with
    | [c0, c1, c2], _ => exact ⟨c0, c1, c2, rfl⟩
  obtain ⟨y0, y1, y2, m, h0, h1, h2⟩ := trod_struct3 Tryd.underlying48 hf
  have e0 : DataW.trod enc Tryd.prog W 0 (fun _ => true) true m 46 [c0] = some y0 := by rw [cellsU64] at h0; exact h0
  have e1 : DataW.trod enc Tryd.prog W 0 (fun _ => true) true m 46 [c1] = some y1 := by rw [cellsU64] at h1; exact h1
  have e2 : DataW.trod enc Tryd.prog W 0 (fun _ => true) true m 46 [c2] = some y2 := by rw [cellsU64] at h2; exact h2
  obtain ⟨a, ha, _⟩ := DataW.trod_int Tryd.underlying46 e0
  obtain ⟨b, hb, _⟩ := DataW.trod_int Tryd.underlying46 e1
  obtain ⟨c, hcc, _⟩ := DataW.trod_int Tryd.underlying46 e2
  have ha' : c0 = .int .u64 a := by simpa using ha
  have hb' : c1 = .int .u64 b := by simpa using hb
  have hc' : c2 = .int .u64 c := by simpa using hcc
  subst ha' hb' hc'
  exact ⟨fun q => if q = 0 then a else if q = 1 then b else c, hcell 0 (by omega), hcell 1 (by omega), hcell 2 (by omega)⟩
/-- One OT that came in. -/
theorem open_ot {W : World} {fuel : Nat} {ad : Addr} {cs : List Value} {x : DataW H × List MemPlace} (hc : W.cells? 0 ad 5 = some cs) (hf : DataW.trod enc Tryd.prog W 0 (fun _ => true) true fuel 55 cs = some x) :
    ∃ (y : Nat → Int) (k : Bool), W.cell? (ad.add 0) = some (.int .u64 (y 0)) ∧ W.cell? (ad.add 1) = some (.int .u64 (y 1)) ∧ W.cell? (ad.add 2) = some (.int .u64 (y 2)) ∧ W.cell? (ad.add 3) = some (.int .u64 (y 3)) ∧ W.cell? (ad.add 4) = some (.bool k) := by
  obtain ⟨_, hlen, hcell⟩ := World.cells?_some hc
  obtain ⟨c0, c1, c2, c3, c4, rfl⟩ : ∃ c0 c1 c2 c3 c4, cs = [c0, c1, c2, c3, c4] := by
    match cs, hlen with
    | [c0, c1, c2, c3, c4], _ => exact ⟨c0, c1, c2, c3, c4, rfl⟩
  obtain ⟨y0, y1, m, h0, h1⟩ := trod_struct2 Tryd.underlying55 hf
  have e0 : DataW.trod enc Tryd.prog W 0 (fun _ => true) true m 53 [c0, c1, c2, c3] = some y0 := by rw [cellsLabs] at h0; exact h0
  have e1 : DataW.trod enc Tryd.prog W 0 (fun _ => true) true m 4 [c4] = some y1 := by rw [cellsBool] at h1; exact h1
  obtain ⟨k, hk, _⟩ := DataW.trod_bool Tryd.underlying4 e1
  obtain ⟨z0, z1, m', g0, g1⟩ := trod_arr2 Tryd.underlying53 e0
  rw [cellsLab] at g0 g1
  have l0 : DataW.trod enc Tryd.prog W 0 (fun _ => true) true m' 52 [c0, c1] = some z0 := g0
  have l1 : DataW.trod enc Tryd.prog W 0 (fun _ => true) true m' 52 [c2, c3] = some z1 := g1
  obtain ⟨u0, u1, n0, i0, i1⟩ := trod_arr2 Tryd.underlying52 l0
  obtain ⟨u2, u3, n1, i2, i3⟩ := trod_arr2 Tryd.underlying52 l1
  rw [cellsU64] at i0 i1 i2 i3
  obtain ⟨a, ha, _⟩ := DataW.trod_int Tryd.underlying46 i0
  obtain ⟨b, hb, _⟩ := DataW.trod_int Tryd.underlying46 i1
  obtain ⟨c, hcc, _⟩ := DataW.trod_int Tryd.underlying46 i2
  obtain ⟨d, hd, _⟩ := DataW.trod_int Tryd.underlying46 i3
  have ha' : c0 = .int .u64 a := by simpa using ha
  have hb' : c1 = .int .u64 b := by simpa using hb
  have hc' : c2 = .int .u64 c := by simpa using hcc
  have hd' : c3 = .int .u64 d := by simpa using hd
  have hk' : c4 = .bool k := by simpa using hk
  subst ha' hb' hc' hd' hk'
  exact ⟨fun q => if q = 0 then a else if q = 1 then b else if q = 2 then c else d, k, hcell 0 (by omega), hcell 1 (by omega), hcell 2 (by omega), hcell 3 (by omega), hcell 4 (by omega)⟩
/-- How long a list is whose data these are. -/
def Lng (d : DataW H) (n : Nat) : Prop := n = 0 ∨ ∃ el sp, d = .slice el sp ∧ el.length = n
theorem open_tris {W : World} {base : Nat} {v : Value} {d : DataW H} {p : List MemPlace} (hval : Value.okWide Tryd.prog W .any base 34 v) (h : DataW.Trod enc Tryd.prog W 0 (fun _ => true) true 34 v d p) :
    ∃ A n c y, v = .slice A n c ∧ AtT W A n y ∧ (A = none → n = 0 ∧ c = 0) ∧ Lng d n := by
  obtain ⟨a1, len, cap, rfl⟩ := okWide_slice Tryd.underlying34 hval
  obtain ⟨fuel, hf⟩ := h
  rcases Go.Deep.open_slice Tryd.underlying34 hf with ⟨hcs, hx⟩ | ⟨a, len', cap', m, n, D, Pl, hcs, _, hl, hm, hmm, hx, hall⟩
  · have : (.slice a1 len cap : Value) = .slice none 0 0 := by simpa [Value.cells] using hcs
    rw [this]
    exact ⟨none, 0, 0, fun _ _ => 0, rfl, fun i hi => absurd hi (by omega), fun _ => ⟨rfl, rfl⟩, .inl rfl⟩
  · have hv : (.slice a1 len cap : Value) = .slice (some a) len' cap' := by simpa [Value.cells] using hcs
    rw [hv]
    have hlm : len' ≤ m := by rw [hmm]; split <;> omega
    obtain ⟨hdx, _⟩ := Prod.mk.inj hx
    have key : ∀ i, ∃ y : Nat → Int, i < len' → W.cell? (a.add (i * 3 + 0)) = some (.int .u64 (y 0)) ∧ W.cell? (a.add (i * 3 + 1)) = some (.int .u64 (y 1)) ∧ W.cell? (a.add (i * 3 + 2)) = some (.int .u64 (y 2)) := fun i => by
      by_cases hi : i < len'
      · obtain ⟨cs', h1, h2⟩ := hall i (by omega)
        rw [cellsTri] at h1
        obtain ⟨y, g0, g1, g2⟩ := open_tri h1 h2
        rw [add_add] at g0 g1 g2
        exact ⟨y, fun _ => ⟨g0, g1, g2⟩⟩
      · exact ⟨fun _ => 0, fun h => absurd h hi⟩
    exact ⟨some a, len', cap', fun i => Classical.choose (key i), rfl, fun i hi => ⟨a, rfl, Classical.choose_spec (key i) hi⟩, fun h => (by cases h), .inr ⟨_, _, hdx, by simp⟩⟩
theorem open_ots {W : World} {base : Nat} {v : Value} {d : DataW H} {p : List MemPlace} (hval : Value.okWide Tryd.prog W .any base 35 v) (h : DataW.Trod enc Tryd.prog W 0 (fun _ => true) true 35 v d p) :
    ∃ A n c y k, v = .slice A n c ∧ AtO3 W A n y k ∧ (A = none → n = 0 ∧ c = 0) ∧ Lng d n := by
  obtain ⟨a1, len, cap, rfl⟩ := okWide_slice Tryd.underlying35 hval
  obtain ⟨fuel, hf⟩ := h
  rcases Go.Deep.open_slice Tryd.underlying35 hf with ⟨hcs, hx⟩ | ⟨a, len', cap', m, n, D, Pl, hcs, _, hl, hm, hmm, hx, hall⟩
  · have : (.slice a1 len cap : Value) = .slice none 0 0 := by simpa [Value.cells] using hcs
    rw [this]
    exact ⟨none, 0, 0, fun _ _ => 0, fun _ => false, rfl, fun i hi => absurd hi (by omega), fun _ => ⟨rfl, rfl⟩, .inl rfl⟩
  · have hv : (.slice a1 len cap : Value) = .slice (some a) len' cap' := by simpa [Value.cells] using hcs
    rw [hv]
    have hlm : len' ≤ m := by rw [hmm]; split <;> omega
    obtain ⟨hdx, _⟩ := Prod.mk.inj hx
    have key : ∀ i, ∃ yk : (Nat → Int) × Bool, i < len' → W.cell? (a.add (i * 5 + 0)) = some (.int .u64 (yk.1 0)) ∧ W.cell? (a.add (i * 5 + 1)) = some (.int .u64 (yk.1 1)) ∧ W.cell? (a.add (i * 5 + 2)) = some (.int .u64 (yk.1 2)) ∧ W.cell? (a.add (i * 5 + 3)) = some (.int .u64 (yk.1 3)) ∧ W.cell? (a.add (i * 5 + 4)) = some (.bool yk.2) := fun i => by
      by_cases hi : i < len'
      · obtain ⟨cs', h1, h2⟩ := hall i (by omega)
        rw [cellsOt] at h1
        obtain ⟨y, k, g0, g1, g2, g3, g4⟩ := open_ot h1 h2
        rw [add_add] at g0 g1 g2 g3 g4
        exact ⟨(y, k), fun _ => ⟨g0, g1, g2, g3, g4⟩⟩
      · exact ⟨(fun _ => 0, false), fun h => absurd h hi⟩
    exact ⟨some a, len', cap', fun i => (Classical.choose (key i)).1, fun i => (Classical.choose (key i)).2, rfl, fun i hi => ⟨a, rfl, Classical.choose_spec (key i) hi⟩, fun h => (by cases h), .inr ⟨_, _, hdx, by simp⟩⟩
theorem tris_fit {ts : List TypeId} {ds : List (DataW H)} (hz : (DataW.weightsEach Tryd.prog ts ds).all (· ≤ reachBytes) = true) {j : Nat} (ht : ts[j]? = some 34) {d : DataW H} (hd : ds[j]? = some d) {n : Nat} (h : Lng d n) : n ≤ 1000000000000000 := by
  rcases h with rfl | ⟨el, sp, rfl, rfl⟩
  · omega
  · have := sized_slice hz ht hd Tryd.underlying34
    rw [bytesTri] at this
    unfold reachBytes at this
    omega
theorem ots_fit {ts : List TypeId} {ds : List (DataW H)} (hz : (DataW.weightsEach Tryd.prog ts ds).all (· ≤ reachBytes) = true) {j : Nat} (ht : ts[j]? = some 35) {d : DataW H} (hd : ds[j]? = some d) {n : Nat} (h : Lng d n) : n ≤ 1000000000000000 := by
  rcases h with rfl | ⟨el, sp, rfl, rfl⟩
  · omega
  · have := sized_slice hz ht hd Tryd.underlying35
    rw [bytesOt] at this
    unfold reachBytes at this
    omega
end
end Go.Proofs.YtgmlmngnedhllaaDoor
