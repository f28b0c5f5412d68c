/- What came in, opened: circuits, flags. No condition beyond those that each theorem states. -/
import Derived.Test.YtamejhhjfnfalaaDoorMQ
import Derived.Test.YtamejhhjfnfalaaDoorME
import Derived.Test.YtamejhhjfnfalaaDoorRows
import Derived.Test.YtamejhhjfnfalaaDoorTie
import Derived.Test.YtamejhhjfnfalaaDoorCards
import Derived.Test.YtamejhhjfnfalaaDoorMV
import Derived.ProofKit
import Derived.Carry
import Derived.OpenShut
import Derived.ChangeSame
import Derived.ChangeVars
import Derived.JoinedOf
import Derived.RowKit
import Derived.RowKitTokens
import Derived.LaidLaws
import Derived.LaidHandle
import Derived.Stop.Joined
import Derived.SevenTiedAt
import Derived.WalkKit
import Derived.Below
import Derived.ChangeSlices
import Derived.SizedLaws
import Derived.Deep.Slices
import Derived.Deep.Grids
import Derived.Lib.SmallJoins
/- Arguments that came in, opened: arrays of sixteen bytes, labels, words; every argument reads behind a call that leaves old memory alone as it read before. -/
namespace Go.Proofs.YtamejhhjfnfalaaDoor
open Go.ChangeShapes Go.WideShapes Go.ChangeAt Go.RowKit

set_option maxRecDepth 100000
theorem own : ownKnob Tryd.prog.godebug = none := by kernel_rfl
theorem laidOut : laidOutB Tryd.prog = true := by kernel_rfl
theorem cellsU8 : Tryd.prog.cellsOf 5 = 1 := by kernel_rfl
theorem wf_u64 {a : Int} (h : (Lit.int .u64 a).wf = true) : 0 ≤ a ∧ a < 18446744073709551616 := by
  have := h
  simp [Lit.wf, IntKind.min, IntKind.max, IntKind.bits, IntKind.signed] at this
  omega
theorem wf_u8 {a : Int} (h : (Lit.int .u8 a).wf = true) : 0 ≤ a ∧ a < 256 := by
  have := h
  simp [Lit.wf, IntKind.min, IntKind.max, IntKind.bits, IntKind.signed] at this
  omega
section
variable {H : Type} {enc : TypeId × Value → H}
theorem trodAll_below {W W' : World} (hb : Below W.heap.size W W') : ∀ (ts : List TypeId) (vs : List Value) (ds : List (DataW H)) (p : List MemPlace),
    (∀ t ∈ ts, Tryd.prog.readableRec t = true ∧ t < Tryd.prog.types.size) → (∀ x ∈ p, x.block < W.heap.size) →
    DataW.TrodAll enc Tryd.prog W 0 (fun _ => true) true ts vs ds p → DataW.TrodAll enc Tryd.prog W' 0 (fun b => decide (b < W.heap.size)) true ts vs ds p
  | [], [], [], _, _, _, h => h
  | t :: ts, v :: vs, d :: ds, p, ht, hp, h => by
    obtain ⟨p1, q1, h1, h2, rfl⟩ := h
    exact ⟨p1, q1, Below.trod laidOut (ht t (List.mem_cons_self ..)).1 (ht t (List.mem_cons_self ..)).2 h1 hb (fun x hx => hp x (List.mem_append_left _ hx)),
      trodAll_below hb ts vs ds q1 (fun u hu => ht u (List.mem_cons_of_mem _ hu)) (fun x hx => hp x (List.mem_append_right _ hx)) h2, rfl⟩
  | [], [], _ :: _, _, _, _, h => False.elim h
  | [], _ :: _, _, _, _, _, h => False.elim h
  | _ :: _, [], _, _, _, _, h => False.elim h
  | _ :: _, _ :: _, [], _, _, _, h => False.elim h

end
end Go.Proofs.YtamejhhjfnfalaaDoor

/- What all rows of this seat share: the listed variable's cell, and a world that meets the rows' condition (beside AK). -/
namespace Go.Proofs.YtamejhhjfnfalaaDoor
open Go.ChangeShapes Go.WideShapes Go.ChangeAt Go.RowKit

theorem et : Tryd.prog.globalNamed "errors.errorType" = some 0 := by kernel_rfl
theorem rt : (Tryd.prog.cutTypes.find? (·.1 == "internal/reflectlite.rtype")).map (·.2) = some 183 := by kernel_rfl
theorem oneRow : ((List.range 237).filter fun t => Tryd.prog.rowNamed t [101, 114, 114, 111, 114]) = [36] := by kernel_rfl
theorem sizeTypes : Tryd.prog.types.size = 237 := by kernel_rfl

/-- What the condition gives a walk: the variable's one cell. -/
theorem handle_of_laid {W : World} (h : laidMetH Tryd.prog [("errors.errorType", Rows.laid_errors_errorType)] W) : W.cell? ⟨0, 0, none⟩ = some (.iface 183 (.agg #[.pointer (some ⟨1, 36, none⟩)])) := by
  have h' : laidMet Tryd.prog [] W ∧ handlesMet Tryd.prog [("errors.errorType", Rows.laid_errors_errorType)] W := h
  obtain ⟨name, u, ty, e1, e2, e3, e4, e5⟩ := h'.2 _ (List.mem_singleton.2 rfl)
  have en : name = [101, 114, 114, 111, 114] := (Option.some.inj e1).symm
  subst en
  obtain rfl := Option.some.inj (rt.symm.trans e2)
  have hm : ty ∈ (List.range 237).filter fun t => Tryd.prog.rowNamed t [101, 114, 114, 111, 114] := List.mem_filter.2 ⟨List.mem_range.2 (by rw [← sizeTypes]; exact e3), e4⟩
  rw [oneRow] at hm
  obtain rfl := List.mem_singleton.1 hm
  have hh : typeHandle Tryd.prog 36 = .pointer (some ⟨1, 36, none⟩) := by kernel_rfl
  rw [hh] at e5
  simpa using World.var?_cell et e5 0

/-- A world that meets the condition: the settled one, the variable's cell laid. -/
noncomputable def laidWorld (os : Os) : World :=
  let w0 := World.holding Tryd.prog os ⟨#[], #[], []⟩
  { w0 with heap := w0.heap.modify 0 fun
      | .cells _ t frozen => .cells #[.iface 183 (.agg #[.pointer (some ⟨1, 36, none⟩)])] t frozen
      | o => o }
theorem laidWorld_met (os : Os) (args : Array Value) : laidMetH Tryd.prog [("errors.errorType", Rows.laid_errors_errorType)] ((laidWorld os).forCall (fun _ _ => 0) ⟨#[], args, []⟩).memory :=
  laidMetH_of_parts (laidMet_nil _ _) (by kernel_rfl)
theorem wf_i64 {a : Int} (h : (Lit.int .i64 a).wf = true) : -9223372036854775808 ≤ a ∧ a < 9223372036854775808 := by
  have := h
  simp [Lit.wf, IntKind.min, IntKind.max, IntKind.bits, IntKind.signed] at this
  omega
end Go.Proofs.YtamejhhjfnfalaaDoor

/- A word, a list of flags, a circuit that came in, opened. -/
namespace Go.Proofs.YtamejhhjfnfalaaDoor
open Go.ChangeShapes Go.WideShapes Go.ChangeAt Go.RowKit

set_option maxRecDepth 100000
theorem cellsBool : Tryd.prog.cellsOf 4 = 1 := by kernel_rfl
theorem bytesBool : Tryd.prog.bytesOf 4 = 1 := by kernel_rfl
theorem cellsInt : Tryd.prog.cellsOf 3 = 1 := by kernel_rfl
theorem cellsGate : Tryd.prog.cellsOf 84 = 3 := by kernel_rfl
theorem cellsCirc : Tryd.prog.cellsOf 25 = 3 := by kernel_rfl
section
variable {H : Type} {enc : TypeId × Value → H}
/-- A word that came in. -/
theorem open_word {W : World} {base : Nat} {v : Value} {d : DataW H} {p : List MemPlace} (hval : Value.okWide Tryd.prog W .any base 26 v) (h : DataW.Trod enc Tryd.prog W 0 (fun _ => true) true 26 v d p) :
    ∃ a : Int, v = .int .u64 a ∧ 0 ≤ a ∧ a < 18446744073709551616 := by
  obtain ⟨a, rfl, rfl, rfl, wa⟩ := open_int Tryd.underlying26 hval h
  obtain ⟨a0, a1⟩ := wf_u64 wa
  exact ⟨a, rfl, a0, a1⟩
/-- How long a list is whose data these are. -/
def Lng (d : DataW H) (n : Nat) : Prop := n = 0 ∨ ∃ el sp, d = .slice el sp ∧ el.length = n
/-- Flags that came in. -/
theorem open_flags {W : World} {base : Nat} {v : Value} {d : DataW H} {p : List MemPlace} (hval : Value.okWide Tryd.prog W .any base 49 v) (h : DataW.Trod enc Tryd.prog W 0 (fun _ => true) true 49 v d p) :
    ∃ A n c f, v = .slice A n c ∧ AtV W A n (bv f) ∧ (A = none → n = 0 ∧ c = 0) ∧ n ≤ maxLen ∧ Lng d n := by
  obtain ⟨a1, len, cap, rfl⟩ := okWide_slice Tryd.underlying49 hval
  obtain ⟨fuel, hf⟩ := h
  rcases Go.Deep.open_slice1 Tryd.underlying49 cellsBool hf with ⟨hcs, hx⟩ | ⟨a, len', cap', m, n, V, D, Pl, hcs, _, hl, hm, hmm, hx, hall⟩
  · have : (.slice a1 len cap : Value) = .slice none 0 0 := by simpa [Value.cells] using hcs
    rw [this]
    exact ⟨none, 0, 0, fun _ => false, rfl, AtV.zero, fun _ => ⟨rfl, rfl⟩, Nat.zero_le _, .inl rfl⟩
  · have hv : (.slice a1 len cap : Value) = .slice (some a) len' cap' := by simpa [Value.cells] using hcs
    rw [hv]
    have hlm : len' ≤ m := by rw [hmm]; split <;> omega
    obtain ⟨hdx, _⟩ := Prod.mk.inj hx
    have key : ∀ i, ∃ b : Bool, i < len' → W.cell? (a.add i) = some (.bool b) := fun i => by
      by_cases hi : i < len'
      · obtain ⟨h1, h2⟩ := hall i (by omega)
        obtain ⟨b, hb, _⟩ := DataW.trod_bool Tryd.underlying4 h2
        have hb' : V i = .bool b := by simpa using hb
        rw [hb'] at h1
        exact ⟨b, fun _ => h1⟩
      · exact ⟨false, fun h => absurd h hi⟩
    exact ⟨some a, len', cap', fun i => Classical.choose (key i), rfl, fun i hi => ⟨a, rfl, Classical.choose_spec (key i) hi⟩, fun h => (by cases h), by omega, .inr ⟨_, _, hdx, by simp⟩⟩
theorem flags_fit {d : DataW H} {n : Nat} {ts : List TypeId} {ds : List (DataW H)} (hz : (DataW.weightsEach Tryd.prog ts ds).all (· ≤ reachBytes) = true) {j : Nat} (ht : ts[j]? = some 49) (hd : ds[j]? = some d) (h : Lng d n) : n ≤ 140737488355328 := by
  rcases h with rfl | ⟨el, sp, rfl, rfl⟩
  · omega
  · have := sized_slice hz ht hd Tryd.underlying49
    rw [bytesBool] at this
    unfold reachBytes at this
    omega
/-- Numbers in a circuit that came in. -/
theorem open_outs {W : World} {fuel : Nat} {v : Value} {x : DataW H × List MemPlace} (hf : DataW.trod enc Tryd.prog W 0 (fun _ => true) true fuel 23 [v] = some x) :
    ∃ A n c o, v = .slice A n c ∧ AtV W A n (iv o) ∧ (A = none → n = 0 ∧ c = 0) ∧ n ≤ c ∧ c ≤ maxLen := by
  rcases Go.Deep.open_slice1 Tryd.underlying23 cellsInt hf with ⟨hcs, hx⟩ | ⟨a, len', cap', m, n, V, D, Pl, hcs, _, hl, hm, hmm, hx, hall⟩
  · have : v = .slice none 0 0 := by simpa using hcs
    rw [this]
    exact ⟨none, 0, 0, fun _ => 0, rfl, AtV.zero, fun _ => ⟨rfl, rfl⟩, Nat.le_refl _, Nat.zero_le _⟩
  · have hv : v = .slice (some a) len' cap' := by simpa using hcs
    rw [hv]
    have hlm : len' ≤ m := by rw [hmm]; split <;> omega
    have key : ∀ i, ∃ b : Int, i < len' → W.cell? (a.add i) = some (.int .i64 b) := fun i => by
      by_cases hi : i < len'
      · obtain ⟨h1, h2⟩ := hall i (by omega)
        obtain ⟨b, hb, _⟩ := DataW.trod_int Tryd.underlying3 h2
        have hb' : V i = .int .i64 b := by simpa using hb
        rw [hb'] at h1
        exact ⟨b, fun _ => h1⟩
      · exact ⟨0, fun h => absurd h hi⟩
    exact ⟨some a, len', cap', fun i => Classical.choose (key i), rfl, fun i hi => ⟨a, rfl, Classical.choose_spec (key i) hi⟩, fun h => (by cases h), hl, hm⟩
theorem trod_struct3 {P : Program} {w : World} {base : Nat} {spare : Nat → Bool} {held : Bool} {t : TypeId} {f0 f1 f2 : Field} {fuel : Nat} {cs : List Value} {x : DataW H × List MemPlace} (ht : P.underlying t = some (.struct #[f0, f1, f2])) (h : DataW.trod enc P w base spare held fuel t cs = some x) :
    ∃ y0 y1 y2 n, DataW.trod enc P w base spare held n f0.type ((cs.drop f0.offset).take (P.cellsOf f0.type)) = some y0 ∧ DataW.trod enc P w base spare held n f1.type ((cs.drop f1.offset).take (P.cellsOf f1.type)) = some y1 ∧ DataW.trod enc P w base spare held n f2.type ((cs.drop f2.offset).take (P.cellsOf f2.type)) = some y2 := by
  obtain ⟨xs, n, _, rfl, hl, hlen, hf⟩ := DataW.trod_struct ht h
  match xs, hlen with
  | [y0, y1, y2], _ => exact ⟨y0, y1, y2, n, by simpa using hf 0 f0 rfl, by simpa using hf 1 f1 rfl, by simpa using hf 2 f2 rfl⟩
/-- One gate that came in. -/
theorem open_gate {W : World} {fuel : Nat} {ad : Addr} {cs : List Value} {x : DataW H × List MemPlace} (hc : W.cells? 0 ad 3 = some cs) (hf : DataW.trod enc Tryd.prog W 0 (fun _ => true) true fuel 84 cs = some x) :
    ∃ y : Nat → Int, ∀ j, j < 3 → W.cell? (ad.add j) = some (.int .i64 (y j)) := by
  obtain ⟨_, hlen, hcell⟩ := World.cells?_some hc
  obtain ⟨c0, c1, c2, rfl⟩ : ∃ c0 c1 c2, cs = [c0, c1, c2] := by
    match cs, hlen with
    | [c0, c1, c2], _ => exact ⟨c0, c1, c2, rfl⟩
  have ck : Tryd.prog.cellsOf 82 = 1 := by kernel_rfl
  obtain ⟨y0, y1, y2, m, h0, h1, h2⟩ := trod_struct3 Tryd.underlying84 hf
  have e0 : DataW.trod enc Tryd.prog W 0 (fun _ => true) true m 82 [c0] = some y0 := by rw [ck] at h0; exact h0
  have e1 : DataW.trod enc Tryd.prog W 0 (fun _ => true) true m 3 [c1] = some y1 := by rw [cellsInt] at h1; exact h1
  have e2 : DataW.trod enc Tryd.prog W 0 (fun _ => true) true m 3 [c2] = some y2 := by rw [cellsInt] at h2; exact h2
  obtain ⟨a, ha, _⟩ := DataW.trod_int Tryd.underlying82 e0
  obtain ⟨b, hb, _⟩ := DataW.trod_int Tryd.underlying3 e1
  obtain ⟨c, hcc, _⟩ := DataW.trod_int Tryd.underlying3 e2
  have ha' : c0 = .int .i64 a := by simpa using ha
  have hb' : c1 = .int .i64 b := by simpa using hb
  have hc' : c2 = .int .i64 c := by simpa using hcc
  subst ha' hb' hc'
  refine ⟨fun q => if q = 0 then a else if q = 1 then b else c, fun j hj => ?_⟩
  rcases (show j = 0 ∨ j = 1 ∨ j = 2 by omega) with rfl | rfl | rfl
  · exact hcell 0 (by omega)
  · exact hcell 1 (by omega)
  · exact hcell 2 (by omega)
theorem open_gates {W : World} {fuel : Nat} {v : Value} {x : DataW H × List MemPlace} (hf : DataW.trod enc Tryd.prog W 0 (fun _ => true) true fuel 22 [v] = some x) :
    ∃ A n c y, v = .slice A n c ∧ AtV W A (n * 3) (gv y) ∧ (A = none → n = 0 ∧ c = 0) ∧ n ≤ c ∧ c ≤ maxLen := by
  rcases Go.Deep.open_slice Tryd.underlying22 hf with ⟨hcs, hx⟩ | ⟨a, len', cap', m, n, D, Pl, hcs, _, hl, hm, hmm, hx, hall⟩
  · have : v = .slice none 0 0 := by simpa using hcs
    rw [this]
    exact ⟨none, 0, 0, fun _ _ => 0, rfl, fun i hi => absurd hi (by omega), fun _ => ⟨rfl, rfl⟩, Nat.le_refl _, Nat.zero_le _⟩
  · have hv : v = .slice (some a) len' cap' := by simpa using hcs
    rw [hv]
    have hlm : len' ≤ m := by rw [hmm]; split <;> omega
    have key : ∀ i, ∃ y : Nat → Int, i < len' → ∀ j, j < 3 → W.cell? (a.add (i * 3 + j)) = some (.int .i64 (y j)) := fun i => by
      by_cases hi : i < len'
      · obtain ⟨cs', h1, h2⟩ := hall i (by omega)
        rw [cellsGate] at h1
        obtain ⟨y, hy⟩ := open_gate h1 h2
        exact ⟨y, fun _ j hj => by rw [← add_add]; exact hy j hj⟩
      · exact ⟨fun _ => 0, fun h => absurd h hi⟩
    refine ⟨some a, len', cap', fun i => Classical.choose (key i), rfl, fun q hq => ⟨a, rfl, ?_⟩, fun h => (by cases h), hl, hm⟩
    have := Classical.choose_spec (key (q / 3)) (by omega) (q % 3) (by omega)
    rw [show q / 3 * 3 + q % 3 = q by omega] at this
    exact this
/-- A circuit that came in. -/
theorem open_circ {W : World} {base : Nat} {v : Value} {d : DataW H} {p : List MemPlace} (hval : Value.okWide Tryd.prog W .any base 25 v) (h : DataW.Trod enc Tryd.prog W 0 (fun _ => true) true 25 v d p) :
    ∃ N Ag n cg y Ao m co o, v = circV N Ag n cg Ao m co ∧ AtV W Ag (n * 3) (gv y) ∧ AtV W Ao m (iv o) ∧ n ≤ cg ∧ m ≤ co ∧ (Ag = none → n = 0 ∧ cg = 0) ∧ (Ao = none → m = 0 ∧ co = 0) := by
  obtain ⟨v0, v1, v2, y0, y1, y2, n, rfl, rfl, rfl, h0, h1, h2⟩ := Go.Joins.open_agg3 Tryd.underlying25 (by kernel_rfl) cellsCirc hval h
  obtain ⟨N, hN, _⟩ := DataW.trod_int Tryd.underlying3 h0
  have hN' : v0 = .int .i64 N := by simpa using hN
  subst hN'
  obtain ⟨Ag, ng, cg, y, rfl, g1, g2, g3, _⟩ := open_gates h1
  obtain ⟨Ao, m, co, o, rfl, o1, o2, o3, _⟩ := open_outs h2
  exact ⟨N, Ag, ng, cg, y, Ao, m, co, o, rfl, g1, o1, g3, o3, g2, o2⟩
end
end Go.Proofs.YtamejhhjfnfalaaDoor
