/- Laws on statements whose order is open; lists of bytes. No condition beyond those that each theorem states. -/
import Derived.Test.YtamejhhjfnfalaaDoorRows
import Derived.WalkKit
import Derived.WalkSpells
import Derived.WalkLawsBesides
import Derived.IntWalk
import Derived.Lib.Hide
import Derived.Below
import Derived.BigQuiet
import Derived.BigRegion
import Derived.StillTailTactics
import Derived.Deep.QuietTactic
import Derived.Deep.RegionHeld3
import Derived.Deep.MidRow
import Derived.Deep.WholeRow
import Derived.OrdersHeld
import Derived.StillTail
import Derived.Deep.RegionHeld
/- Bytes by a function of the place: arrays as values, and blocks of memory that are known whole. -/
namespace Go.Proofs.YtamejhhjfnfalaaDoor
open Go.RowKit

theorem ret_int {k : IntKind} {a b : Int} (h : a = b) : Ending.returned (.int k a) = .returned (.int k b) := by rw [h]
theorem ret_agg {a b : Array Value} (h : a = b) : Ending.returned (.agg a) = .returned (.agg b) := by rw [h]
/-- The word modulo 2^64, modulo 2^8. -/
theorem u64w (n : Int) : IntKind.u64.wrap n = n % 18446744073709551616 := by
  simp [IntKind.wrap, IntKind.bits, IntKind.signed]
theorem u8w (n : Int) : IntKind.u8.wrap n = n % 256 := by
  simp [IntKind.wrap, IntKind.bits, IntKind.signed]
theorem i64_nat (x : Int) (h0 : 0 ≤ x) (h1 : x < 9223372036854775808) : IntKind.i64.wrap x = x := by
  simp [IntKind.wrap, IntKind.bits, IntKind.signed]; omega
theorem ofInt8_nat (X : Nat) (h : X < 256) : (BitVec.ofInt 8 (X : Int)).toNat = X := by
  rw [BitVec.ofInt_natCast, BitVec.toNat_ofNat]
  exact Nat.mod_eq_of_lt h
theorem bits8_xor (X Y : Nat) (hX : X < 256) (hY : Y < 256) : bits .xor .u8 (X : Int) (Y : Int) = ((X ^^^ Y : Nat) : Int) := by
  show IntKind.u8.wrap ((BitVec.ofInt 8 (X : Int) ^^^ BitVec.ofInt 8 (Y : Int)).toNat : Int) = _
  have := (BitVec.ofInt 8 (X : Int) ^^^ BitVec.ofInt 8 (Y : Int)).isLt
  rw [u8w, Int.emod_eq_of_lt (by omega) (by omega), BitVec.toNat_xor, ofInt8_nat X hX, ofInt8_nat Y hY]

/-- The bytes that a function tells, one behind the other. -/
def bys (N : Nat) (f : Nat → Nat) : Array Value := ((List.range N).map fun q => Value.int .u8 (f q : Int)).toArray
theorem bys_size (N : Nat) (f : Nat → Nat) : (bys N f).size = N := by simp [bys]
theorem bys_get (N : Nat) (f : Nat → Nat) (i : Nat) (h : i < N) : (bys N f)[i]? = some (.int .u8 (f i : Int)) := by
  simp [bys, h]
theorem bys_none (N : Nat) (f : Nat → Nat) (i : Nat) (h : N ≤ i) : (bys N f)[i]? = none := by
  simp [bys]; omega
theorem bys_congr {N : Nat} {f g : Nat → Nat} (h : ∀ q, q < N → f q = g q) : bys N f = bys N g := by
  unfold bys
  congr 1
  apply List.map_congr_left
  intro q hq
  rw [h q (List.mem_range.1 hq)]
theorem bys_inj {N : Nat} {f g : Nat → Nat} (h : bys N f = bys N g) : ∀ q, q < N → f q = g q := by
  intro q hq
  have := congrArg (fun a => a[q]?) h
  simp only [bys_get N _ q hq] at this
  have := Option.some.inj this
  injection this with _ h2
  omega
theorem bys_set (N : Nat) (f : Nat → Nat) (i x : Nat) : (bys N f).setIfInBounds i (.int .u8 (x : Int)) = bys N (fun q => if q = i then x else f q) := by
  apply Array.ext_getElem?
  intro j
  rw [Array.getElem?_setIfInBounds]
  by_cases hj : j < N
  · rw [bys_get N _ _ hj, bys_get N _ _ hj]
    by_cases e : i = j
    · subst e; simp [bys_size, hj]
    · have e' : ¬ j = i := fun h => e h.symm
      simp [e, e']
  · rw [bys_none N _ _ (by omega), bys_none N _ _ (by omega)]
    split
    · rw [if_neg (by rw [bys_size]; omega)]
    · rfl
theorem bys_one (N : Nat) (f : Nat → Nat) : (bys N f).all (·.oneCell') = true := by
  rw [Array.all_eq_true_iff_forall_mem]
  intro v hv
  simp only [bys, List.mem_toArray, List.mem_map] at hv
  obtain ⟨q, _, rfl⟩ := hv
  rfl
theorem bys_cons (N : Nat) (f : Nat → Nat) : bys (N + 1) f = #[.int .u8 (f 0 : Int)] ++ bys N (fun q => f (q + 1)) := by
  apply Array.ext_getElem?
  intro j
  rw [Array.getElem?_append]
  by_cases h : j < 1
  · obtain rfl : j = 0 := by omega
    rw [bys_get _ _ _ (by omega)]; simp
  · rw [if_neg (by simpa using h)]
    by_cases hj : j < N + 1
    · rw [bys_get _ _ _ hj, show (#[Value.int .u8 (f 0 : Int)]).size = 1 from rfl, bys_get _ _ _ (by omega), show j - 1 + 1 = j by omega]
    · rw [bys_none _ _ _ (by omega), show (#[Value.int .u8 (f 0 : Int)]).size = 1 from rfl, bys_none _ _ _ (by omega)]
/-- Sixteen bytes as a function of the place, out of a list. -/
theorem bys_of (cs : Array Value) (N : Nat) (hs : cs.size = N) (h : ∀ i, i < N → ∃ n : Nat, n < 256 ∧ cs[i]? = some (.int .u8 (n : Int))) : ∃ f : Nat → Nat, (∀ i, f i < 256) ∧ cs = bys N f := by
  have hf : ∀ i, ∃ n : Nat, n < 256 ∧ (i < N → cs[i]? = some (.int .u8 (n : Int))) := by
    intro i
    by_cases hi : i < N
    · obtain ⟨n, h1, h2⟩ := h i hi; exact ⟨n, h1, fun _ => h2⟩
    · exact ⟨0, by omega, fun h => absurd h hi⟩
  refine ⟨fun i => Classical.choose (hf i), fun i => (Classical.choose_spec (hf i)).1, ?_⟩
  apply Array.ext_getElem?
  intro j
  by_cases hj : j < N
  · rw [bys_get _ _ _ hj]; exact (Classical.choose_spec (hf j)).2 hj
  · rw [bys_none _ _ _ (by omega), Array.getElem?_eq_none (by omega)]

/-- Block g is just these bytes, of an array's type t, none of them fixed. -/
def OwnB (w : World) (g N t : Nat) (f : Nat → Nat) : Prop := w.heap[g]? = some (.cells (bys N f) t (0, 0))
section
variable {w w' : World} {g N t : Nat} {f f' : Nat → Nat}
theorem OwnB.lt (h : OwnB w g N t f) : g < w.heap.size := (Array.getElem?_eq_some_iff.1 h).1
theorem OwnB.cell (h : OwnB w g N t f) (i : Nat) (hi : i < N) : w.cell? ⟨g, i, none⟩ = some (.int .u8 (f i : Int)) := by
  rw [cell_of_row w g i _ t (0, 0) h, bys_get _ _ _ hi]
theorem OwnB.frozen (h : OwnB w g N t f) (i : Nat) : w.frozen? ⟨g, i, none⟩ = false := by
  unfold OwnB at h
  simp [World.frozen?, h]
theorem OwnB.congr (h : OwnB w g N t f) (hf : ∀ q, q < N → f q = f' q) : OwnB w g N t f' := by
  unfold OwnB at h ⊢
  rw [h, bys_congr hf]
theorem OwnB.set (h : OwnB w g N t f) (i : Nat) (x : Nat) : OwnB (w.setCell ⟨g, i, none⟩ (.int .u8 (x : Int))) g N t (fun q => if q = i then x else f q) := by
  unfold OwnB at h ⊢
  rw [← bys_set N f i x]
  simp only [World.setCell, Array.getElem?_modify, h]
  simp
theorem OwnB.below {B : Nat} (h : OwnB w g N t f) (hb : Below B w w') (hg : g < B) : OwnB w' g N t f := (hb.block g hg).trans h
theorem OwnB.drew (h : OwnB w g N t f) : OwnB w.drew g N t f := h
theorem OwnB.alloc (h : OwnB w g N t f) (o : Obj) : OwnB (w.alloc o) g N t f := (Below.heap_alloc w o g h.lt).trans h
theorem OwnB.far (h : OwnB w g N t f) {p : Addr} (hp : g ≠ p.block) (u : Value) : OwnB (w.setCell p u) g N t f := (Below.heap_setCell w p u g hp).trans h
theorem OwnB.new (w : World) (N t : Nat) (f : Nat → Nat) : OwnB (w.alloc (.cells (bys N f) t)) w.heap.size N t f := heap_alloc_new w _
theorem OwnB.setRow (h : OwnB w g N t f) (f' : Nat → Nat) : OwnB (w.setRow g (bys N f')) g N t f' := setRow_heap w g _ _ t _ h
end
theorem setRow_other (w : World) (g k : Nat) (cs : Array Value) (h : k ≠ g) : (w.setRow g cs).heap[k]? = w.heap[k]? := by
  unfold World.setRow
  simp only [Array.getElem?_modify]
  rw [if_neg (fun e => h e.symm)]
theorem OwnB.farRow {w : World} {g k N t : Nat} {f : Nat → Nat} (h : OwnB w k N t f) (hk : k ≠ g) (cs : Array Value) : OwnB (w.setRow g cs) k N t f := (setRow_other w g k cs hk).trans h
theorem Below.row {B : Nat} {w w' : World} (h : Below B w w') {g : Nat} (hg : B ≤ g) (cs : Array Value) : Below B w (w'.setRow g cs) :=
  ⟨h.os, h.tape, h.output, by have := h.size; simpa [World.setRow] using this, fun i hi => (setRow_other w' g i cs (by omega)).trans (h.block i hi)⟩

/-! The operations on whole arrays, as a walk meets them. -/
section
variable {ops : Array Oper} {rest : List Oper} {o : Oper} {a : Act} {w : World} {Q : Exit → Act → World → Prop}
theorem ld_row (t : Nat) (N e : Nat) (hu : Tryd.prog.underlying t = some (.array N e)) (hi : (Tryd.prog.info? t).map (·.size) = some N) (hgd : o.guard = none) (x : Operand) (ho : o.op = .load t x) (g : Nat) (hx : a.eval x = .pointer (some ⟨g, 0, none⟩)) {f : Nat → Nat} (h : OwnB w g N t f)
    (k : wpList Tryd.prog ops Q rest (a.put o.dst (.agg (bys N f))) w) : wpList Tryd.prog ops Q (o :: rest) a w :=
  wpList_load_row hgd t x ho g hx t _ (0, 0) _ h hu rfl (by rw [hi, bys_size]) k
theorem st_row (t : Nat) (N : Nat) (hi : (Tryd.prog.info? t).map (·.size) = some N) (hgd : o.guard = none) (x y : Operand) (ho : o.op = .store t x y) (g : Nat) {f f' : Nat → Nat} (hx : a.eval x = .pointer (some ⟨g, 0, none⟩)) (hy : a.eval y = .agg (bys N f')) (h : OwnB w g N t f)
    (k : wpList Tryd.prog ops Q rest (a.put o.dst undef) (w.setRow g (bys N f'))) : wpList Tryd.prog ops Q (o :: rest) a w :=
  wpList_plain hgd fun _ hK => wp_store_row t x y ho g _ hx hy t _ h (by rw [hi, bys_size]) (by rw [bys_size, bys_size]) (bys_one _ _) (hK _ _ k)
end
/-- What a call answers that has an array for its result. -/
theorem res_row {fn : Func} {p : Tmp} (t N e : Nat) (hu : Tryd.prog.underlying t = some (.array N e)) (hi : (Tryd.prog.info? t).map (·.size) = some N) (hr : fn.results = #[.cell p t]) (tmps : Array Value) (w : World) (g : Nat) {f f' : Nat → Nat}
    (hp : tmps.getD p undef = .pointer (some ⟨g, 0, none⟩)) (h : OwnB w g N t f') (hc : ∀ q, q < N → f' q = f q) : (results fn tmps).run Tryd.prog w = .ok (.agg (bys N f)) w := by
  rw [results_cell_row hr tmps w g t _ _ _ hp h hu rfl (by rw [hi, bys_size]), bys_congr hc]
end Go.Proofs.YtamejhhjfnfalaaDoor

/- A statement whose order is open and whose last operation, z, waits for all others: what yields in every world of a class is taken first; of the world behind z nothing is asked. -/
namespace Go.Proofs.YtamejhhjfnfalaaDoor
open Go.RowKit

section
variable {P : Program} {ops : Array Oper} {Q : Exit → Act → World → Prop} {md : Region.Mode} {S : World → Prop} {z : Nat}
/-- Whatever order is picked from here on; S holds behind every operation but z. -/
def wpAnyZ (P : Program) (md : Region.Mode) (ops : Array Oper) (Q : Exit → Act → World → Prop) (S : World → Prop) (z : Nat) : Nat → Array Bool → Act → World → Prop
  | 0, listed, a, w => Region.ready md ops listed = [] ∧ Q .normal a w
  | fuel + 1, listed, a, w =>
    (Region.ready md ops listed = [] → Q .normal a w) ∧
    ∀ i ∈ Region.ready md ops listed, wpOp P ops Q i (fun a' w' => (i = z ∨ S w') ∧ wpAnyZ P md ops Q S z fuel (listed.setIfInBounds i true) a' w') a w
theorem wpAny_of_z : ∀ (fuel : Nat) (listed : Array Bool) (a : Act) (w : World), wpAnyZ P md ops Q S z fuel listed a w → wpAny P md ops Q fuel listed a w
  | 0, _, _, _, h => h
  | fuel + 1, _, _, _, h => ⟨h.1, fun i hi => wpOp_mono (fun a' w' h' => wpAny_of_z fuel _ a' w' h'.2) (h.2 i hi)⟩
theorem wpAnyZ_first {i : Nat} {oi : Oper} {v : Value} (hi : ops[i]? = some oi) (hsel : ∀ (j : Nat) (o : Oper) cs b, ops[j]? = some o → o.op ≠ .select cs b)
    (hQ : ∀ c a w, Q (.panic c) (a.put oi.dst v) w → Q (.panic c) a w) (M : List Nat) (hzM : z ∈ M) (hM : ∀ m ∈ M, ∀ om, ops[m]? = some om → ∃ e ∈ om.after, Region.binds md e = true ∧ (e.on = i ∨ e.on ∈ M)) :
    ∀ (fuel : Nat) (listed : Array Bool) (a : Act) (w : World),
      (∀ j oj, ops[j]? = some oj → j ≠ i → listed.getD j true = false → (∀ e ∈ oj.after, Region.binds md e = true → e.on ≠ i) → oi.apart ops oj = true) →
      (∀ m ∈ M, listed.getD m true = false) → i ∈ Region.ready md ops listed → YieldsIf P ops S oi v a → S w →
      wpAnyZ P md ops Q S z fuel (listed.setIfInBounds i true) (a.put oi.dst v) w → wpAnyZ P md ops Q S z (fuel + 1) listed a w := by
  intro fuel
  induction fuel with
  | zero =>
    intro listed a w _ _ hr hy hS H
    refine ⟨fun h => (by rw [h] at hr; cases hr), fun j hj => ?_⟩
    by_cases hji : j = i
    · subst hji; exact hy.wpOp hi hS ⟨.inr hS, H⟩
    · have := ready_mono hj hji
      rw [H.1] at this
      cases this
  | succ fuel ih =>
    intro listed a w hfree hun hr hy hS H
    refine ⟨fun h => (by rw [h] at hr; cases hr), fun j hj => ?_⟩
    by_cases hji : j = i
    · subst hji; exact hy.wpOp hi hS ⟨.inr hS, H⟩
    · have h1 := H.2 j (ready_mono hj hji)
      obtain ⟨hjun, oj, hoj, hall⟩ := mem_ready.1 hj
      have hnot : ∀ e ∈ oj.after, Region.binds md e = true → e.on ≠ i := fun e he hb heq => by
        have h1 := hall e he hb
        have h0 := (mem_ready.1 hr).1
        rw [heq] at h1
        rcases Nat.lt_or_ge i listed.size with h' | h'
        · simp [h'] at h0 h1; rw [h0] at h1; cases h1
        · simp [Array.getElem?_eq_none h'] at h1
      have hjM : j ∉ M := fun e => by
        obtain ⟨e, he, hb, hon⟩ := hM j e oj hoj
        rcases hon with hon | hon
        · exact hnot e he hb hon
        · have h1 := hall e he hb
          have h0 := hun _ hon
          rcases Nat.lt_or_ge e.on listed.size with h' | h'
          · simp [h'] at h0 h1; rw [h0] at h1; cases h1
          · simp [Array.getElem?_eq_none h'] at h1
      have hjz : j ≠ z := fun e => by subst e; exact hjM hzM
      have hun' : ∀ m ∈ M, (listed.setIfInBounds j true).getD m true = false := fun m hm => by
        have hjm : j ≠ m := fun e => by subst e; exact hjM hm
        rw [getD_set_ne true hjm]; exact hun m hm
      have h2 := wpOp_putIf hoj (hfree j oj hoj hji hjun hnot) (fun cs b => hsel i oi cs b hi) (fun cs b => hsel j oj cs b hoj) hQ hy h1
      have hfree' : ∀ k ok, ops[k]? = some ok → k ≠ i → (listed.setIfInBounds j true).getD k true = false →
          (∀ e ∈ ok.after, Region.binds md e = true → e.on ≠ i) → oi.apart ops ok = true := fun k ok hk hki hun hno => by
        refine hfree k ok hk hki ?_ hno
        by_cases hjk : j = k
        · subst hjk; exact hjun
        · rw [getD_set_ne true hjk] at hun; exact hun
      refine wpOp_mono (fun a' w' h3 => ?_) h2
      have hS' : S w' := h3.2.1.resolve_left hjz
      refine ⟨.inr hS', ih (listed.setIfInBounds j true) a' w' hfree' hun' (ready_mono hr (Ne.symm hji)) h3.1 hS' ?_⟩
      rw [Array.setIfInBounds_comm _ _ hji]
      exact h3.2.2
/-- None of M, nor i, is done; each of M waits for another one of M, or for i. -/
def waitsAll (md : Region.Mode) (ops : Array Oper) (listed : Array Bool) (i z : Nat) (M : List Nat) : Bool :=
  M.contains z && M.all fun m => (listed.getD m true == false) && (match ops[m]? with
    | none => true
    | some o => o.after.any fun e => Region.binds md e && (e.on == i || M.contains e.on))
theorem waitsAll_spec {md : Region.Mode} {ops : Array Oper} {listed : Array Bool} {i z : Nat} {M : List Nat} (h : waitsAll md ops listed i z M = true) :
    z ∈ M ∧ (∀ m ∈ M, listed.getD m true = false) ∧ ∀ m ∈ M, ∀ om, ops[m]? = some om → ∃ e ∈ om.after, Region.binds md e = true ∧ (e.on = i ∨ e.on ∈ M) := by
  unfold waitsAll at h
  rw [Bool.and_eq_true] at h
  obtain ⟨h1, h2⟩ := h
  rw [List.all_eq_true] at h2
  refine ⟨by simpa using h1, fun m hm => ?_, fun m hm om ho => ?_⟩
  · have := h2 m hm
    rw [Bool.and_eq_true] at this
    exact beq_iff_eq.1 this.1
  · have := h2 m hm
    rw [Bool.and_eq_true, ho] at this
    have h3 := this.2
    simp only at h3
    rw [Array.any_eq_true'] at h3
    obtain ⟨e, he, hb⟩ := h3
    rw [Bool.and_eq_true, Bool.or_eq_true] at hb
    refine ⟨e, he, hb.1, ?_⟩
    rcases hb.2 with h | h
    · exact .inl (beq_iff_eq.1 h)
    · exact .inr (by simpa using h)
/-- Take number i first. -/
theorem wpAnyZ_take {i : Nat} {oi : Oper} {v : Value} {fuel : Nat} {listed : Array Bool} {a : Act} {w : World} (M : List Nat) (hi : ops[i]? = some oi)
    (hs : Region.noSelect ops = true) (hf : Region.free md ops listed i = true) (hr : (Region.ready md ops listed).contains i = true) (hz : waitsAll md ops listed i z M = true)
    (hQ : ∀ c a w, Q (.panic c) (a.put oi.dst v) w → Q (.panic c) a w) (hS : S w) (hy : YieldsIf P ops S oi v a)
    (h : wpAnyZ P md ops Q S z fuel (listed.setIfInBounds i true) (a.put oi.dst v) w) : wpAnyZ P md ops Q S z (fuel + 1) listed a w := by
  obtain ⟨h1, h2, h3⟩ := waitsAll_spec hz
  exact wpAnyZ_first hi (Region.noSelect_spec hs) hQ M h1 h3 fuel listed a w (Region.free_spec hi hf) h2 (by simpa using hr) hy hS h
/-- The same, its slot written out. -/
theorem zt {i d : Nat} {op : Op} {ty : TypeId} {pos : String} {af : Array Edge} {fuel : Nat} {listed : Array Bool} {a : Act} {w : World} (M : List Nat) (hi : ops[i]? = some ⟨some d, op, ty, pos, af, none⟩) (v : Value)
    (hs : Region.noSelect ops = true) (hf : Region.free md ops listed i = true) (hr : (Region.ready md ops listed).contains i = true) (hz : waitsAll md ops listed i z M = true)
    (hQ : ∀ c a w, Q (.panic c) (a.put (some d) v) w → Q (.panic c) a w) (hS : S w) (hv : ∀ w, S w → (execOp a.eval ⟨some d, op, ty, pos, af, none⟩).run P w = .ok (.value v) w)
    (h : wpAnyZ P md ops Q S z fuel (listed.setIfInBounds i true) (a.put (some d) v) w) : wpAnyZ P md ops Q S z (fuel + 1) listed a w :=
  wpAnyZ_take M hi hs hf hr hz hQ hS (.inl ⟨by simp [Region.wanted], hv⟩) h
/-- Just number i may come up. -/
theorem wpAnyZ_one {i : Nat} {o : Oper} {fuel : Nat} {listed : Array Bool} {a : Act} {w : World} (hr : Region.ready md ops listed = [i]) (ho : ops[i]? = some o) (hw : Region.wanted o (yielded ops a.tmps) = true)
    (h : ∀ K : Act → World → Prop, Hid (∀ a w, (i = z ∨ S w) → wpAnyZ P md ops Q S z fuel (listed.setIfInBounds i true) a w → K a w) → o.wp P a w K Q) : wpAnyZ P md ops Q S z (fuel + 1) listed a w := by
  refine ⟨fun h0 => (by rw [hr] at h0; cases h0), fun j hj => ?_⟩
  rw [hr] at hj
  obtain rfl := List.mem_singleton.1 hj
  unfold wpOp
  simp only [ho, hw, if_true]
  exact .inl (h _ (fun a w h1 h2 => ⟨h1, h2⟩))
/-- The same, its slot written out. -/
theorem z1 {i : Nat} {d : Option Nat} {op : Op} {ty : TypeId} {pos : String} {af : Array Edge} {fuel : Nat} {listed : Array Bool} {a : Act} {w : World} (hr : Region.ready md ops listed = [i]) (hi : ops[i]? = some ⟨d, op, ty, pos, af, none⟩)
    (h : ∀ K : Act → World → Prop, Hid (∀ a w, (i = z ∨ S w) → wpAnyZ P md ops Q S z fuel (listed.setIfInBounds i true) a w → K a w) → Oper.wp P ⟨d, op, ty, pos, af, none⟩ a w K Q) : wpAnyZ P md ops Q S z (fuel + 1) listed a w :=
  wpAnyZ_one hr hi (by simp [Region.wanted]) h
theorem wpAnyZ_done {listed : Array Bool} {a : Act} {w : World} (hr : Region.ready md ops listed = []) (h : Q .normal a w) : ∀ fuel, wpAnyZ P md ops Q S z fuel listed a w
  | 0 => ⟨hr, h⟩
  | _ + 1 => ⟨fun _ => h, by rw [hr]; simp⟩
theorem region_z {id : Nat} {a : Act} {w : World} (z : Nat) (S : World → Prop) (hm : P.follows .mixedOrders = true)
    (h : wpAnyZ P .any ops Q S z ops.size (Array.replicate ops.size false) a w.drew) : (Code.region id ops true).wp P Q a w :=
  wp_region_any hm (wpAny_of_z _ _ _ _ h)
end
end Go.Proofs.YtamejhhjfnfalaaDoor

/- As BQ1, with a list z of operations behind which nothing is asked of the world; what yields in every world is taken at any time. -/
namespace Go.Proofs.YtamejhhjfnfalaaDoor
open Go.RowKit

section
variable {P : Program} {ops : Array Oper} {Q : Exit → Act → World → Prop} {md : Region.Mode} {S : World → Prop} {z : List Nat}
/-- Whatever order is picked from here on; S holds behind every operation but those of z. -/
def wpAnyY (P : Program) (md : Region.Mode) (ops : Array Oper) (Q : Exit → Act → World → Prop) (S : World → Prop) (z : List Nat) : Nat → Array Bool → Act → World → Prop
  | 0, listed, a, w => Region.ready md ops listed = [] ∧ Q .normal a w
  | fuel + 1, listed, a, w =>
    (Region.ready md ops listed = [] → Q .normal a w) ∧
    ∀ i ∈ Region.ready md ops listed, wpOp P ops Q i (fun a' w' => (i ∈ z ∨ (S w → S w')) ∧ wpAnyY P md ops Q S z fuel (listed.setIfInBounds i true) a' w') a w
theorem wpAny_of_y : ∀ (fuel : Nat) (listed : Array Bool) (a : Act) (w : World), wpAnyY P md ops Q S z fuel listed a w → wpAny P md ops Q fuel listed a w
  | 0, _, _, _, h => h
  | fuel + 1, _, _, _, h => ⟨h.1, fun i hi => wpOp_mono (fun a' w' h' => wpAny_of_y fuel _ a' w' h'.2) (h.2 i hi)⟩
theorem wpAnyY_first {i : Nat} {oi : Oper} {v : Value} (hi : ops[i]? = some oi) (hsel : ∀ (j : Nat) (o : Oper) cs b, ops[j]? = some o → o.op ≠ .select cs b)
    (hQ : ∀ c a w, Q (.panic c) (a.put oi.dst v) w → Q (.panic c) a w) (M : List Nat) (hzM : ∀ m ∈ z, m ∈ M) (hM : ∀ m ∈ M, ∀ om, ops[m]? = some om → ∃ e ∈ om.after, Region.binds md e = true ∧ (e.on = i ∨ e.on ∈ M)) :
    ∀ (fuel : Nat) (listed : Array Bool) (a : Act) (w : World),
      (∀ j oj, ops[j]? = some oj → j ≠ i → listed.getD j true = false → (∀ e ∈ oj.after, Region.binds md e = true → e.on ≠ i) → oi.apart ops oj = true) →
      (∀ m ∈ M, listed.getD m true = false) → i ∈ Region.ready md ops listed → YieldsIf P ops S oi v a → S w →
      wpAnyY P md ops Q S z fuel (listed.setIfInBounds i true) (a.put oi.dst v) w → wpAnyY P md ops Q S z (fuel + 1) listed a w := by
  intro fuel
  induction fuel with
  | zero =>
    intro listed a w _ _ hr hy hS H
    refine ⟨fun h => (by rw [h] at hr; cases hr), fun j hj => ?_⟩
    by_cases hji : j = i
    · subst hji; exact hy.wpOp hi hS ⟨.inr id, H⟩
    · have := ready_mono hj hji
      rw [H.1] at this
      cases this
  | succ fuel ih =>
    intro listed a w hfree hun hr hy hS H
    refine ⟨fun h => (by rw [h] at hr; cases hr), fun j hj => ?_⟩
    by_cases hji : j = i
    · subst hji; exact hy.wpOp hi hS ⟨.inr id, H⟩
    · have h1 := H.2 j (ready_mono hj hji)
      obtain ⟨hjun, oj, hoj, hall⟩ := mem_ready.1 hj
      have hnot : ∀ e ∈ oj.after, Region.binds md e = true → e.on ≠ i := fun e he hb heq => by
        have h1 := hall e he hb
        have h0 := (mem_ready.1 hr).1
        rw [heq] at h1
        rcases Nat.lt_or_ge i listed.size with h' | h'
        · simp [h'] at h0 h1; rw [h0] at h1; cases h1
        · simp [Array.getElem?_eq_none h'] at h1
      have hjM : j ∉ M := fun e => by
        obtain ⟨e, he, hb, hon⟩ := hM j e oj hoj
        rcases hon with hon | hon
        · exact hnot e he hb hon
        · have h1 := hall e he hb
          have h0 := hun _ hon
          rcases Nat.lt_or_ge e.on listed.size with h' | h'
          · simp [h'] at h0 h1; rw [h0] at h1; cases h1
          · simp [Array.getElem?_eq_none h'] at h1
      have hjz : ¬ j ∈ z := fun e => hjM (hzM j e)
      have hun' : ∀ m ∈ M, (listed.setIfInBounds j true).getD m true = false := fun m hm => by
        have hjm : j ≠ m := fun e => by subst e; exact hjM hm
        rw [getD_set_ne true hjm]; exact hun m hm
      have h2 := wpOp_putIf hoj (hfree j oj hoj hji hjun hnot) (fun cs b => hsel i oi cs b hi) (fun cs b => hsel j oj cs b hoj) hQ hy h1
      have hfree' : ∀ k ok, ops[k]? = some ok → k ≠ i → (listed.setIfInBounds j true).getD k true = false →
          (∀ e ∈ ok.after, Region.binds md e = true → e.on ≠ i) → oi.apart ops ok = true := fun k ok hk hki hun hno => by
        refine hfree k ok hk hki ?_ hno
        by_cases hjk : j = k
        · subst hjk; exact hjun
        · rw [getD_set_ne true hjk] at hun; exact hun
      refine wpOp_mono (fun a' w' h3 => ?_) h2
      have hS' : S w' := h3.2.1.resolve_left hjz hS
      refine ⟨h3.2.1, ih (listed.setIfInBounds j true) a' w' hfree' hun' (ready_mono hr (Ne.symm hji)) h3.1 hS' ?_⟩
      rw [Array.setIfInBounds_comm _ _ hji]
      exact h3.2.2
theorem wpAnyY_free {i : Nat} {oi : Oper} {v : Value} (hi : ops[i]? = some oi) (hsel : ∀ (j : Nat) (o : Oper) cs b, ops[j]? = some o → o.op ≠ .select cs b)
    (hQ : ∀ c a w, Q (.panic c) (a.put oi.dst v) w → Q (.panic c) a w) :
    ∀ (fuel : Nat) (listed : Array Bool) (a : Act) (w : World),
      (∀ j oj, ops[j]? = some oj → j ≠ i → listed.getD j true = false → (∀ e ∈ oj.after, Region.binds md e = true → e.on ≠ i) → oi.apart ops oj = true) →
      i ∈ Region.ready md ops listed → YieldsIf P ops (fun _ => True) oi v a →
      wpAnyY P md ops Q S z fuel (listed.setIfInBounds i true) (a.put oi.dst v) w → wpAnyY P md ops Q S z (fuel + 1) listed a w := by
  intro fuel
  induction fuel with
  | zero =>
    intro listed a w _ hr hy H
    refine ⟨fun h => (by rw [h] at hr; cases hr), fun j hj => ?_⟩
    by_cases hji : j = i
    · subst hji; exact hy.wpOp hi trivial ⟨.inr id, H⟩
    · have := ready_mono hj hji
      rw [H.1] at this
      cases this
  | succ fuel ih =>
    intro listed a w hfree hr hy H
    refine ⟨fun h => (by rw [h] at hr; cases hr), fun j hj => ?_⟩
    by_cases hji : j = i
    · subst hji; exact hy.wpOp hi trivial ⟨.inr id, H⟩
    · have h1 := H.2 j (ready_mono hj hji)
      obtain ⟨hjun, oj, hoj, hall⟩ := mem_ready.1 hj
      have hnot : ∀ e ∈ oj.after, Region.binds md e = true → e.on ≠ i := fun e he hb heq => by
        have h1 := hall e he hb
        have h0 := (mem_ready.1 hr).1
        rw [heq] at h1
        rcases Nat.lt_or_ge i listed.size with h' | h'
        · simp [h'] at h0 h1; rw [h0] at h1; cases h1
        · simp [Array.getElem?_eq_none h'] at h1
      have h2 := wpOp_putIf hoj (hfree j oj hoj hji hjun hnot) (fun cs b => hsel i oi cs b hi) (fun cs b => hsel j oj cs b hoj) hQ hy h1
      have hfree' : ∀ k ok, ops[k]? = some ok → k ≠ i → (listed.setIfInBounds j true).getD k true = false →
          (∀ e ∈ ok.after, Region.binds md e = true → e.on ≠ i) → oi.apart ops ok = true := fun k ok hk hki hun hno => by
        refine hfree k ok hk hki ?_ hno
        by_cases hjk : j = k
        · subst hjk; exact hjun
        · rw [getD_set_ne true hjk] at hun; exact hun
      refine wpOp_mono (fun a' w' h3 => ?_) h2
      refine ⟨h3.2.1, ih (listed.setIfInBounds j true) a' w' hfree' (ready_mono hr (Ne.symm hji)) h3.1 ?_⟩
      rw [Array.setIfInBounds_comm _ _ hji]
      exact h3.2.2

theorem waitsY {md : Region.Mode} {ops : Array Oper} {listed : Array Bool} {i : Nat} {z M : List Nat} (h : ((z.all fun m => M.contains m) && waitsAll md ops listed i (M.headD 0) M) = true) :
    (∀ m ∈ z, m ∈ M) ∧ (∀ m ∈ M, listed.getD m true = false) ∧ ∀ m ∈ M, ∀ om, ops[m]? = some om → ∃ e ∈ om.after, Region.binds md e = true ∧ (e.on = i ∨ e.on ∈ M) := by
  rw [Bool.and_eq_true, List.all_eq_true] at h
  exact ⟨fun m hm => by simpa using h.1 m hm, (waitsAll_spec h.2).2⟩
/-- Take number i first, in the class. -/
theorem yt {i d : Nat} {op : Op} {ty : TypeId} {pos : String} {af : Array Edge} {fuel : Nat} {listed : Array Bool} {a : Act} {w : World} (M : List Nat) (hi : ops[i]? = some ⟨some d, op, ty, pos, af, none⟩) (v : Value)
    (hs : Region.noSelect ops = true) (hf : Region.free md ops listed i = true) (hr : (Region.ready md ops listed).contains i = true) (hz : ((z.all fun m => M.contains m) && waitsAll md ops listed i (M.headD 0) M) = true)
    (hQ : ∀ c a w, Q (.panic c) (a.put (some d) v) w → Q (.panic c) a w) (hS : S w) (hv : ∀ w, S w → (execOp a.eval ⟨some d, op, ty, pos, af, none⟩).run P w = .ok (.value v) w)
    (h : wpAnyY P md ops Q S z fuel (listed.setIfInBounds i true) (a.put (some d) v) w) : wpAnyY P md ops Q S z (fuel + 1) listed a w := by
  obtain ⟨h1, h2, h3⟩ := waitsY hz
  exact wpAnyY_first hi (Region.noSelect_spec hs) hQ M h1 h3 fuel listed a w (Region.free_spec hi hf) h2 (by simpa using hr) (.inl ⟨by simp [Region.wanted], hv⟩) hS h
/-- Take number i first, whatever the world. -/
theorem yu {i d : Nat} {op : Op} {ty : TypeId} {pos : String} {af : Array Edge} {fuel : Nat} {listed : Array Bool} {a : Act} {w : World} (hi : ops[i]? = some ⟨some d, op, ty, pos, af, none⟩) (v : Value)
    (hs : Region.noSelect ops = true) (hf : Region.free md ops listed i = true) (hr : (Region.ready md ops listed).contains i = true)
    (hQ : ∀ c a w, Q (.panic c) (a.put (some d) v) w → Q (.panic c) a w) (hv : ∀ w, (execOp a.eval ⟨some d, op, ty, pos, af, none⟩).run P w = .ok (.value v) w)
    (h : wpAnyY P md ops Q S z fuel (listed.setIfInBounds i true) (a.put (some d) v) w) : wpAnyY P md ops Q S z (fuel + 1) listed a w :=
  wpAnyY_free hi (Region.noSelect_spec hs) hQ fuel listed a w (Region.free_spec hi hf) (by simpa using hr) (.inl ⟨by simp [Region.wanted], fun w _ => hv w⟩) h
/-- Just number i may come up. -/
theorem y1 {i : Nat} {d : Option Nat} {op : Op} {ty : TypeId} {pos : String} {af : Array Edge} {fuel : Nat} {listed : Array Bool} {a : Act} {w : World} (hr : Region.ready md ops listed = [i]) (hi : ops[i]? = some ⟨d, op, ty, pos, af, none⟩)
    (h : ∀ K : Act → World → Prop, Hid (∀ a' w', (i ∈ z ∨ (S w → S w')) → wpAnyY P md ops Q S z fuel (listed.setIfInBounds i true) a' w' → K a' w') → Oper.wp P ⟨d, op, ty, pos, af, none⟩ a w K Q) : wpAnyY P md ops Q S z (fuel + 1) listed a w := by
  have hw : Region.wanted ⟨d, op, ty, pos, af, none⟩ (yielded ops a.tmps) = true := by simp [Region.wanted]
  refine ⟨fun h0 => (by rw [hr] at h0; cases h0), fun j hj => ?_⟩
  rw [hr] at hj
  obtain rfl := List.mem_singleton.1 hj
  unfold wpOp
  simp only [hi, hw, if_true]
  exact .inl (h _ (fun a w h1 h2 => ⟨h1, h2⟩))
theorem wpAnyY_done {listed : Array Bool} {a : Act} {w : World} (hr : Region.ready md ops listed = []) (h : Q .normal a w) : ∀ fuel, wpAnyY P md ops Q S z fuel listed a w
  | 0 => ⟨hr, h⟩
  | _ + 1 => ⟨fun _ => h, by rw [hr]; simp⟩
theorem region_y {id : Nat} {a : Act} {w : World} (z : List Nat) (S : World → Prop) (hm : P.follows .mixedOrders = true)
    (h : wpAnyY P .any ops Q S z ops.size (Array.replicate ops.size false) a w.drew) : (Code.region id ops true).wp P Q a w :=
  wp_region_any hm (wpAny_of_y _ _ _ _ h)
end
end Go.Proofs.YtamejhhjfnfalaaDoor

/- A statement whose order is open, by one law for each operation, whatever came before it: every operation is looked at once, new blocks' addresses included. No function of the program. -/
namespace Go.Proofs.YtamejhhjfnfalaaDoor
open Go.RowKit

namespace Rely
theorem eval_put_ne (a : Act) (d s : Nat) (v : Value) (h : d ≠ s) : (a.put (some d) v).eval (.tmp s) = a.eval (.tmp s) := by
  simp [Act.put, Act.eval, h]
theorem eval_put_eq (a : Act) (d : Nat) (v : Value) (h : d < a.tmps.size) : (a.put (some d) v).eval (.tmp d) = v := by
  simp [Act.put, Act.eval, h]
/-- One place turned. -/
def upd {α : Type} (f : Nat → α) (i : Nat) (x : α) : Nat → α := fun j => if j = i then x else f j
theorem upd_at {α : Type} (f : Nat → α) (i : Nat) (x : α) : upd f i x i = x := if_pos rfl
theorem upd_ne {α : Type} (f : Nat → α) (i : Nat) (x : α) {j : Nat} (h : j ≠ i) : upd f i x j = f j := if_neg h
theorem upd_same {α : Type} (f : Nat → α) (i : Nat) : upd f i (f i) = f := by
  funext j
  unfold upd
  split
  · rename_i h; rw [h]
  · rfl
/-- What operation i leaves, its number known. -/
def vget {G : Type} (vs : List (G → Value)) (i : Nat) (g : G) : Value := match vs[i]? with
  | some f => f g
  | none => undef
/-- The slot of operation i. -/
def dstOf (ops : Array Oper) (i : Nat) : Option Nat := match ops[i]? with
  | some o => o.dst
  | none => none
/-- What is asked of an operation's run. -/
def Good {G : Type} (P : Program) (o : Oper) (vs : List (G → Value)) (F : (Nat → Bool) → (Nat → G) → World → Prop) (i : Nat) (L : Nat → Bool) (γ : Nat → G) : Result Next → Prop
  | .ok (.value u) w' => ∃ g, (∀ d, o.dst = some d → u = vget vs i g) ∧ F (upd L i true) (upd γ i g) w'
  | .ok .skip w' => o.dst = none ∧ ∃ g, F (upd L i true) (upd γ i g) w'
  | .ok (.enter f args) w' => Calls P f args w' fun e w'' => ∃ g u, e = .returned u ∧ (∀ d, o.dst = some d → u = vget vs i g) ∧ F (upd L i true) (upd γ i g) w''
  | _ => False
/-- One operation's law. -/
def StepAt {G : Type} (P : Program) (ops : Array Oper) (a0 : Act) (vs : List (G → Value)) (F : (Nat → Bool) → (Nat → G) → World → Prop) (i : Nat) (o : Oper) : Prop :=
  ∀ (L : Nat → Bool) (γ : Nat → G) (ev : Operand → Value) (w : World), L i = false → (∀ e ∈ o.after, Region.binds .any e = true → L e.on = true) → F L γ w →
    (∀ v, ev (.const v) = v) → (∀ f, ev (.func f) = .func (.func f) #[] #[]) → (∀ s, (ops.all fun (o : Oper) => o.dst != some s) = true → ev (.tmp s) = a0.eval (.tmp s)) → (∀ j d, L j = true → dstOf ops j = some d → ev (.tmp d) = vget vs j (γ j)) →
    Good P o vs F i L γ ((execOp ev o).run P w)
section
variable {G : Type} {P : Program} {ops : Array Oper} {a0 : Act} {vs : List (G → Value)} {F : (Nat → Bool) → (Nat → G) → World → Prop}
theorem Good.value {o : Oper} {i : Nat} {L : Nat → Bool} {γ : Nat → G} {r : Result Next} {w' : World} (g : G) {u : Value} (hr : r = .ok (.value u) w') (hu : ∀ d, o.dst = some d → u = vget vs i g) (hF : F (upd L i true) (upd γ i g) w') : Good P o vs F i L γ r := by
  subst hr; exact ⟨g, hu, hF⟩
theorem Good.skip {o : Oper} {i : Nat} {L : Nat → Bool} {γ : Nat → G} {r : Result Next} {w' : World} (g : G) (hr : r = .ok .skip w') (hd : o.dst = none) (hF : F (upd L i true) (upd γ i g) w') : Good P o vs F i L γ r := by
  subst hr; exact ⟨hd, g, hF⟩
theorem Good.enter {o : Oper} {i : Nat} {L : Nat → Bool} {γ : Nat → G} {r : Result Next} {w' : World} {f : FuncId} {args : Array Value} (hr : r = .ok (.enter f args) w') (hc : Calls P f args w' fun e w'' => ∃ g u, e = .returned u ∧ (∀ d, o.dst = some d → u = vget vs i g) ∧ F (upd L i true) (upd γ i g) w'') : Good P o vs F i L γ r := by
  subst hr; exact hc
/-- An operation's law, its guard looked at: there is none, or it says yes, or it says no. -/
inductive OpAt {G : Type} (P : Program) (ops : Array Oper) (a0 : Act) (vs : List (G → Value)) (F : (Nat → Bool) → (Nat → G) → World → Prop) (i : Nat) (o : Oper) : Prop
  | plain (hg : o.guard = none) (h : StepAt P ops a0 vs F i o)
  | yes (j : Nat) (b : Bool) (hg : o.guard = some (j, b)) (hv : ∀ g, vget vs j g = .bool b) (h : StepAt P ops a0 vs F i o)
  | no (j : Nat) (b : Bool) (hg : o.guard = some (j, !b)) (hv : ∀ g, vget vs j g = .bool b) (hu : ∀ g, vget vs i g = undef) (h : ∀ L γ w, F L γ w → ∃ g, F (upd L i true) (upd γ i g) w)
/-- The laws of all operations, one behind the other. -/
def Steps {G : Type} (P : Program) (ops : Array Oper) (a0 : Act) (vs : List (G → Value)) (F : (Nat → Bool) → (Nat → G) → World → Prop) : Nat → List Oper → Prop
  | _, [] => True
  | i, o :: l => OpAt P ops a0 vs F i o ∧ Steps P ops a0 vs F (i + 1) l
theorem Steps.nil {i : Nat} : Steps P ops a0 vs F i [] := trivial
theorem Steps.cons {i : Nat} {o : Oper} {l : List Oper} (h : StepAt P ops a0 vs F i o) (hl : Steps P ops a0 vs F (i + 1) l) (hg : o.guard = none := by rfl) : Steps P ops a0 vs F i (o :: l) := ⟨.plain hg h, hl⟩
theorem Steps.yes {i : Nat} {o : Oper} {l : List Oper} (j : Nat) (b : Bool) (hv : ∀ g, vget vs j g = .bool b) (h : StepAt P ops a0 vs F i o) (hl : Steps P ops a0 vs F (i + 1) l) (hg : o.guard = some (j, b) := by rfl) : Steps P ops a0 vs F i (o :: l) := ⟨.yes j b hg hv h, hl⟩
theorem Steps.no {i : Nat} {o : Oper} {l : List Oper} (j : Nat) (b : Bool) (hv : ∀ g, vget vs j g = .bool b) (hu : ∀ g, vget vs i g = undef) (h : ∀ L γ w, F L γ w → ∃ g, F (upd L i true) (upd γ i g) w) (hl : Steps P ops a0 vs F (i + 1) l) (hg : o.guard = some (j, !b) := by rfl) : Steps P ops a0 vs F i (o :: l) := ⟨.no j b hg hv hu h, hl⟩
theorem Steps.at {l : List Oper} : ∀ {i : Nat}, Steps P ops a0 vs F i l → ∀ k o, l[k]? = some o → OpAt P ops a0 vs F (i + k) o := by
  induction l with
  | nil => intro i _ k o h; simp at h
  | cons x l ih =>
    intro i hs k o h
    cases k with
    | zero => simp at h; subst h; exact hs.1
    | succ k =>
      have := ih hs.2 k o (by simpa using h)
      rwa [show i + 1 + k = i + (k + 1) by omega] at this
/-- The frame that agrees with what is listed. -/
structure Slots {G : Type} (ops : Array Oper) (a0 : Act) (vs : List (G → Value)) (L : Nat → Bool) (γ : Nat → G) (a : Act) : Prop where
  size : a.tmps.size = a0.tmps.size
  defers : a.defers = a0.defers
  old : ∀ s, (∀ i d, L i = true → dstOf ops i = some d → d ≠ s) → a.eval (.tmp s) = a0.eval (.tmp s)
  val : ∀ j d, L j = true → dstOf ops j = some d → a.eval (.tmp d) = vget vs j (γ j)
/-- A guard's operation stands ahead, and has a slot. -/
def guarded (ops : Array Oper) (o : Oper) : Bool := match o.guard with
  | none => true
  | some (j, _) => (dstOf ops j).isSome && o.after.any fun e => Region.binds .any e && e.on == j
/-- Every operation has a slot of its own, behind which there is room; guards are waited for; edges point back. -/
def fit (ops : Array Oper) (n : Nat) : Bool :=
  ((List.range ops.size).all fun i => (List.range ops.size).all fun j => i == j || dstOf ops i != dstOf ops j || (dstOf ops i).isNone) &&
  (ops.all fun (o : Oper) => (o.dst.all fun d => decide (d < n)) && guarded ops o) &&
  ((List.range ops.size).all fun i => ((ops[i]?).map fun (o : Oper) => o.after.all fun e => !Region.binds .any e || decide (e.on < i)).getD true)
structure Fits (ops : Array Oper) (n : Nat) : Prop where
  uniq : ∀ i j d, dstOf ops i = some d → dstOf ops j = some d → i = j
  lt : ∀ i d, dstOf ops i = some d → d < n
  guard : ∀ (i : Nat) (o : Oper), ops[i]? = some o → guarded ops o = true
  back : ∀ (i : Nat) (o : Oper) (e : Edge), ops[i]? = some o → e ∈ o.after → Region.binds .any e = true → e.on < i
theorem dst_lt {i d : Nat} (h : dstOf ops i = some d) : i < ops.size := by
  rcases Nat.lt_or_ge i ops.size with h' | h'
  · exact h'
  · unfold dstOf at h; rw [Array.getElem?_eq_none h'] at h; cases h
theorem fit_spec {n : Nat} (h : fit ops n = true) : Fits ops n := by
  unfold fit at h
  simp only [Bool.and_eq_true, List.all_eq_true, List.mem_range, Array.all_eq_true_iff_forall_mem] at h
  obtain ⟨⟨h1, h2⟩, h3⟩ := h
  refine ⟨fun i j d hi hj => ?_, fun i d hi => ?_, fun i o ho => ?_, fun i o e ho he hb => ?_⟩
  · have := h1 i (dst_lt hi) j (dst_lt hj)
    rw [hi, hj] at this
    simpa using this
  · unfold dstOf at hi
    cases ho : ops[i]? with
    | none => rw [ho] at hi; cases hi
    | some o =>
      rw [ho] at hi
      have hd : o.dst = some d := hi
      have := (h2 o (Array.mem_of_getElem? ho)).1
      rw [hd] at this
      simpa using this
  · simpa using (h2 o (Array.mem_of_getElem? ho)).2
  · have hlt : i < ops.size := (Array.getElem?_eq_some_iff.1 ho).1
    have := h3 i hlt
    rw [ho] at this
    simp only [Option.map_some, Option.getD_some, Array.all_eq_true_iff_forall_mem] at this
    have := this e he
    rw [hb] at this
    simpa using this
theorem Slots.start (L : Nat → Bool) (hL : ∀ i, L i = false) (γ : Nat → G) : Slots ops a0 vs L γ a0 :=
  ⟨rfl, rfl, fun _ _ => rfl, fun j d h _ => by rw [hL j] at h; cases h⟩
theorem Slots.step {L : Nat → Bool} {γ : Nat → G} {a : Act} (hf : Fits ops a0.tmps.size) (h : Slots ops a0 vs L γ a) {i : Nat} {o : Oper} (ho : ops[i]? = some o) (hL : L i = false) (g : G) (u : Value) (hu : ∀ d, o.dst = some d → u = vget vs i g) :
    Slots ops a0 vs (upd L i true) (upd γ i g) (a.put o.dst u) := by
  have hb : dstOf ops i = o.dst := by unfold dstOf; rw [ho]
  cases hd : o.dst with
  | none =>
    refine ⟨h.size, h.defers, fun s hs => h.old s fun j d hj hjd => hs j d ?_ hjd, fun j d hj hjd => ?_⟩
    · unfold upd; split
      · rfl
      · exact hj
    · by_cases e : j = i
      · subst e; rw [hb, hd] at hjd; cases hjd
      · rw [upd_ne _ _ _ e] at hj ⊢; exact h.val j d hj hjd
  | some di =>
    have hbi : dstOf ops i = some di := hb.trans hd
    have hlt : di < a.tmps.size := by rw [h.size]; exact hf.lt i di hbi
    refine ⟨by simp [Act.put, h.size], by simp [Act.put, h.defers], fun s hs => ?_, fun j d hj hjd => ?_⟩
    · have hne : di ≠ s := hs i di (upd_at _ _ _) hbi
      rw [eval_put_ne _ _ _ _ hne]
      refine h.old s fun j d hj hjd => hs j d ?_ hjd
      unfold upd; split
      · rfl
      · exact hj
    · by_cases e : j = i
      · subst e
        rw [hbi] at hjd
        cases hjd
        rw [eval_put_eq _ _ _ hlt, upd_at]
        exact hu di hd
      · rw [upd_ne _ _ _ e] at hj ⊢
        have hne : di ≠ d := fun e2 => e (by subst e2; exact hf.uniq j i di hjd hbi)
        rw [eval_put_ne _ _ _ _ hne]
        exact h.val j d hj hjd
/-- The frame at the end. -/
def fin {G : Type} (γ : Nat → G) : List Oper → List (G → Value) → Nat → Act → Act
  | [], _, _, a => a
  | _ :: _, [], _, a => a
  | o :: l, f :: fs, i, a => fin γ l fs (i + 1) (a.put o.dst (f (γ i)))
theorem fin_slots (hf : Fits ops a0.tmps.size) (γ : Nat → G) : ∀ (l : List Oper) (fs : List (G → Value)) (i : Nat) (a : Act) (L : Nat → Bool), l.length = fs.length → (∀ k, ops[i + k]? = l[k]?) → (∀ k f, fs[k]? = some f → vs[i + k]? = some f) → (∀ j, L j = decide (j < i)) → Slots ops a0 vs L γ a →
    Slots ops a0 vs (fun j => decide (j < i + l.length)) γ (fin γ l fs i a)
  | [], _, i, a, L, _, _, _, hL, h => by
    have : L = fun j => decide (j < i) := funext hL
    simpa [fin, this] using this ▸ h
  | o :: l, [], i, a, L, hlen, _, _, _, _ => by simp at hlen
  | o :: l, f :: fs, i, a, L, hlen, hops, hvs, hL, h => by
    have ho : ops[i]? = some o := by simpa using hops 0
    have hv : vs[i]? = some f := by simpa using hvs 0 f (by simp)
    have h2 := h.step hf ho (by rw [hL]; simp) (γ i) (f (γ i)) (fun d _ => by unfold vget; rw [hv])
    rw [upd_same] at h2
    have := fin_slots hf γ l fs (i + 1) _ (upd L i true) (by simpa using hlen) (fun k => by have := hops (k + 1); rw [show i + 1 + k = i + (k + 1) by omega]; simpa using this) (fun k f' hk => by rw [show i + 1 + k = i + (k + 1) by omega]; exact hvs (k + 1) f' (by simpa using hk)) (fun j => by
      unfold upd
      split
      · rename_i e; subst e; simp
      · rename_i e
        rw [hL]
        by_cases hj : j < i
        · simp [hj]; omega
        · simp [hj]; omega) h2
    rw [show i + (o :: l).length = i + 1 + l.length by simp; omega]
    exact this
theorem Slots.eq {L : Nat → Bool} {γ : Nat → G} {a b : Act} (ha : Slots ops a0 vs L γ a) (hb : Slots ops a0 vs L γ b) : a = b := by
  have hs : a.tmps = b.tmps := by
    apply Array.ext
    · rw [ha.size, hb.size]
    · intro s h1 h2
      have he : a.eval (.tmp s) = b.eval (.tmp s) := by
        by_cases h : ∃ i d, L i = true ∧ dstOf ops i = some d ∧ d = s
        · obtain ⟨i, d, hi, hd, rfl⟩ := h
          rw [ha.val i d hi hd, hb.val i d hi hd]
        · have hn : ∀ i d, L i = true → dstOf ops i = some d → d ≠ s := fun i d hi hd e => h ⟨i, d, hi, hd, e⟩
          rw [ha.old s hn, hb.old s hn]
      simpa [Act.eval, h1, h2] using he
  cases a; cases b
  have hd := ha.defers.trans hb.defers.symm
  simp at hs hd
  simp [hs, hd]
/-- All are listed once none may come up. -/
theorem all_listed (hf : Fits ops a0.tmps.size) {listed : Array Bool} (hr : Region.ready .any ops listed = []) : ∀ i, i < ops.size → listed.getD i true = true := by
  intro i
  induction i using Nat.strongRecOn with
  | ind i ih =>
    intro hi
    by_cases h : listed.getD i true = true
    · exact h
    · exfalso
      have hm : i ∈ Region.ready .any ops listed := mem_ready.2 ⟨by simpa using h, ops[i], by simp [hi], fun e he hb => by
        have hlt := hf.back i ops[i] e (by simp [hi]) he hb
        have := ih e.on hlt (by omega)
        by_cases hsz : e.on < listed.size
        · simpa [hsz] using this
        · exfalso
          apply h
          simp [show ¬ i < listed.size by omega]⟩
      rw [hr] at hm; cases hm
/-- How many are not listed yet. -/
def left : List Bool → Nat
  | [] => 0
  | b :: l => (if b then 0 else 1) + left l
theorem left_set : ∀ (l : List Bool) (i : Nat), l[i]? = some false → left (l.set i true) + 1 = left l
  | [], i, h => by simp at h
  | b :: l, 0, h => by simp at h; subst h; simp [left]; omega
  | b :: l, i + 1, h => by
    have := left_set l i (by simpa using h)
    simp only [List.set_cons_succ, left]
    omega
theorem left_zero : ∀ (l : List Bool), left l = 0 → ∀ i, i < l.length → l[i]? = some true
  | [], _, i, h => by simp at h
  | b :: l, h, 0, _ => by
    cases b
    · simp [left] at h
    · rfl
  | b :: l, h, i + 1, hi => by
    have := left_zero l (by unfold left at h; omega) i (by simpa using hi)
    simpa using this
theorem left_new : ∀ n, left (List.replicate n false) = n
  | 0 => rfl
  | n + 1 => by
    rw [List.replicate_succ]
    unfold left
    rw [left_new n]
    simp; omega
theorem any {Q : Exit → Act → World → Prop} (hf : Fits ops a0.tmps.size) (hl : ops.size = vs.length) (hs : Steps P ops a0 vs F 0 ops.toList)
    (hend : ∀ (γ : Nat → G) (w : World), F (fun j => decide (j < ops.size)) γ w → Q .normal (fin γ ops.toList vs 0 a0) w) :
    ∀ (fuel : Nat) (listed : Array Bool) (L : Nat → Bool) (γ : Nat → G) (a : Act) (w : World), listed.size = ops.size → left listed.toList = fuel → (∀ i, L i = (decide (i < ops.size) && listed.getD i true)) → F L γ w → Slots ops a0 vs L γ a → wpAny P .any ops Q fuel listed a w := by
  have fin_ok : ∀ (listed : Array Bool) (L : Nat → Bool) (γ : Nat → G) (a : Act) (w : World), (∀ i, L i = (decide (i < ops.size) && listed.getD i true)) → (∀ i, i < ops.size → listed.getD i true = true) → F L γ w → Slots ops a0 vs L γ a → Q .normal a w := by
    intro listed L γ a w hL hall hF hsl
    obtain rfl : L = fun j => decide (j < ops.size) := funext fun j => by
      rw [hL]
      by_cases h : j < ops.size
      · rw [hall j h]; simp
      · simp [h]
    have hfs := fin_slots (vs := vs) hf γ ops.toList vs 0 a0 (fun _ => false) (by simpa using hl) (fun k => by simp) (fun k f h => by simpa using h) (fun j => by simp) (Slots.start _ (fun _ => rfl) γ)
    have hfs2 : Slots ops a0 vs (fun j => decide (j < ops.size)) γ (fin γ ops.toList vs 0 a0) := by simpa using hfs
    rw [hsl.eq hfs2]
    exact hend γ w hF
  intro fuel
  induction fuel with
  | zero =>
    intro listed L γ a w hsz hleft hL hF hsl
    have hall : ∀ i, i < ops.size → listed.getD i true = true := fun i hi => by
      have := left_zero _ hleft i (by simpa [hsz] using hi)
      have h2 : listed[i]? = some true := by simpa using this
      simp [Array.getD_eq_getD_getElem?, h2]
    refine ⟨?_, fin_ok listed L γ a w hL hall hF hsl⟩
    apply List.eq_nil_iff_forall_not_mem.2
    intro i hi
    obtain ⟨h1, o, ho, _⟩ := mem_ready.1 hi
    rw [hall i (Array.getElem?_eq_some_iff.1 ho).1] at h1
    cases h1
  | succ fuel ih =>
    intro listed L γ a w hsz hleft hL hF hsl
    refine ⟨fun hr => fin_ok listed L γ a w hL (all_listed hf hr) hF hsl, fun i hi => ?_⟩
    obtain ⟨hun, o, ho, hdep⟩ := mem_ready.1 hi
    have hlt : i < ops.size := (Array.getElem?_eq_some_iff.1 ho).1
    have hLi : L i = false := by rw [hL, hun]; simp
    have hstep := hs.at i o (by simpa using ho)
    rw [Nat.zero_add] at hstep
    have hlti : i < listed.size := by omega
    have hdeps : ∀ e ∈ o.after, Region.binds .any e = true → L e.on = true := fun e he hb => by
      rw [hL]
      have h1 := hdep e he hb
      have h2 : e.on < i := hf.back i o e ho he hb
      have h3 : e.on < listed.size := by omega
      simp only [Bool.and_eq_true, decide_eq_true_eq]
      refine ⟨by omega, ?_⟩
      simpa [Array.getD_eq_getD_getElem?, h3] using h1
    have hnext : ∀ g u w', (∀ d, o.dst = some d → u = vget vs i g) → F (upd L i true) (upd γ i g) w' → wpAny P .any ops Q fuel (listed.setIfInBounds i true) (a.put o.dst u) w' := fun g u w' hu hF' => by
      refine ih _ (upd L i true) (upd γ i g) _ w' (by simp [hsz]) ?_ (fun j => ?_) hF' (hsl.step hf ho hLi g u hu)
      · have := left_set listed.toList i (by
          have : listed[i]? = some false := by
            have h2 := hun
            simp [Array.getD_eq_getD_getElem?, hlti] at h2
            simp [hlti, h2]
          simpa using this)
        simp only [Array.toList_setIfInBounds]
        omega
      · unfold upd
        split
        · rename_i e
          subst e
          simp [hlt, hlti]
        · rename_i e
          rw [hL]
          have : ¬ i = j := fun e2 => e e2.symm
          simp [this]
    have hyield : ∀ j b c, o.guard = some (j, b) → (∀ g, vget vs j g = .bool c) → yielded ops a.tmps j = some c := fun j b c hg hv => by
      have h1 := hf.guard i o ho
      unfold guarded at h1
      rw [hg] at h1
      simp only [Bool.and_eq_true] at h1
      obtain ⟨h2, h3⟩ := h1
      obtain ⟨d, hd⟩ := Option.isSome_iff_exists.1 h2
      rw [Array.any_eq_true'] at h3
      obtain ⟨e, he, h4⟩ := h3
      simp only [Bool.and_eq_true, beq_iff_eq] at h4
      have hLj : L j = true := by rw [← h4.2]; exact hdeps e he h4.1
      have hv2 := hsl.val j d hLj hd
      rw [hv] at hv2
      have hdl : d < a.tmps.size := by rw [hsl.size]; exact hf.lt j d hd
      have hv3 : a.tmps[d]? = some (.bool c) := by
        simp [Act.eval, hdl] at hv2
        simp [hdl, hv2]
      unfold yielded
      unfold dstOf at hd
      cases hoj : ops[j]? with
      | none => rw [hoj] at hd; cases hd
      | some oj =>
        rw [hoj] at hd
        have hd' : oj.dst = some d := hd
        simp [hd', hv3]
    have run : StepAt P ops a0 vs F i o → Region.wanted o (yielded ops a.tmps) = true → wpOp P ops Q i (wpAny P .any ops Q fuel (listed.setIfInBounds i true)) a w := fun hstep hw => by
      have hgood := hstep L γ a.eval w hLi hdeps hF (fun v => rfl) (fun f => rfl) (fun s hsn => hsl.old s fun j d _ hjd e => by
        subst e
        unfold dstOf at hjd
        cases hoj : ops[j]? with
        | none => rw [hoj] at hjd; cases hjd
        | some oj =>
          rw [hoj] at hjd
          have hd : oj.dst = some d := hjd
          have := Array.all_eq_true_iff_forall_mem.1 hsn oj (Array.mem_of_getElem? hoj)
          simp [hd] at this) hsl.val
      unfold wpOp
      rw [ho]
      simp only [hw, if_true]
      refine .inl ?_
      unfold Oper.wp
      generalize (execOp a.eval o).run P w = r at hgood
      cases r with
      | ok n w' =>
        cases n <;> simp only [Good] at hgood
        case value u =>
          obtain ⟨g, hu, hF'⟩ := hgood
          exact hnext g u w' hu hF'
        case skip =>
          obtain ⟨hd, g, hF'⟩ := hgood
          have := hnext g undef w' (fun d e => by rw [hd] at e; cases e) hF'
          exact this
        case enter f args =>
          refine hgood.mono fun e w'' h => ?_
          obtain ⟨g, u, rfl, hu, hF'⟩ := h
          exact hnext g u w'' hu hF'
      | halt x w' => simp only [Good] at hgood
    rcases hstep with ⟨hg, h⟩ | ⟨j, b, hg, hv, h⟩ | ⟨j, b, hg, hv, hu, h⟩
    · exact run h (by simp [Region.wanted, hg])
    · exact run h (by simp [Region.wanted, hg, hyield j b b hg hv])
    · obtain ⟨g, hF'⟩ := h L γ w hF
      have hw : Region.wanted o (yielded ops a.tmps) = false := by simp [Region.wanted, hg, hyield j _ b hg hv]
      unfold wpOp
      rw [ho]
      simp only [hw, Bool.false_eq_true, if_false]
      exact hnext g undef w (fun d _ => (hu g).symm) hF'
theorem region {Q : Exit → Act → World → Prop} {id : Nat} {w : World} (vs : List (G → Value)) (F : (Nat → Bool) → (Nat → G) → World → Prop) (hm : P.follows .mixedOrders = true) (hf : fit ops a0.tmps.size = true) (hl : ops.size = vs.length) (γ0 : Nat → G) (h0 : F (fun _ => false) γ0 w.drew)
    (hs : Steps P ops a0 vs F 0 ops.toList) (hend : ∀ (γ : Nat → G) (w : World), F (fun j => decide (j < ops.size)) γ w → Q .normal (fin γ ops.toList vs 0 a0) w) : (Code.region id ops true).wp P Q a0 w :=
  wp_region_any hm (any (fit_spec hf) hl hs hend ops.size _ (fun _ => false) γ0 a0 _ (by simp) (by simp [left_new]) (fun i => by
    by_cases h : i < ops.size
    · simp [h]
    · simp [h]) h0 (Slots.start _ (fun _ => rfl) γ0))
end
end Rely
end Go.Proofs.YtamejhhjfnfalaaDoor

/- A drawn statement at a class of worlds: operations that may be guarded, their slots written out. -/
namespace Go.Proofs.YtamejhhjfnfalaaDoor
open Go.RowKit

section
variable {P : Program} {ops : Array Oper} {Q : Exit → Act → World → Prop} {md : Region.Mode} {S : World → Prop}
/-- Take number i first, its slot written out; it may be guarded. -/
theorem htg {i d : Nat} {op : Op} {ty : TypeId} {pos : String} {af : Array Edge} {g : Option (Nat × Bool)} {fuel : Nat} {listed : Array Bool} {a : Act} {w : World} (hi : ops[i]? = some ⟨some d, op, ty, pos, af, g⟩) (v : Value)
    (hs : Region.noSelect ops = true) (hf : Region.free md ops listed i = true) (hr : (Region.ready md ops listed).contains i = true)
    (hQ : ∀ c a w, Q (.panic c) (a.put (some d) v) w → Q (.panic c) a w) (hw : Region.wanted ⟨some d, op, ty, pos, af, g⟩ (yielded ops a.tmps) = true) (hS : S w) (hv : ∀ w, S w → (execOp a.eval ⟨some d, op, ty, pos, af, g⟩).run P w = .ok (.value v) w)
    (h : wpAnyH P md ops Q S fuel (listed.setIfInBounds i true) (a.put (some d) v) w) : wpAnyH P md ops Q S (fuel + 1) listed a w :=
  wpAnyH_take hi hs hf hr hQ (.inl ⟨hw, hv⟩) hS h
/-- Just number i may come up; it may be guarded. -/
theorem h1g {i : Nat} {d : Option Nat} {op : Op} {ty : TypeId} {pos : String} {af : Array Edge} {g : Option (Nat × Bool)} {fuel : Nat} {listed : Array Bool} {a : Act} {w : World} (hr : Region.ready md ops listed = [i]) (hi : ops[i]? = some ⟨d, op, ty, pos, af, g⟩) (hw : Region.wanted ⟨d, op, ty, pos, af, g⟩ (yielded ops a.tmps) = true)
    (h : ∀ K : Act → World → Prop, Hid (∀ a w, S w → wpAnyH P md ops Q S fuel (listed.setIfInBounds i true) a w → K a w) → Oper.wp P ⟨d, op, ty, pos, af, g⟩ a w K Q) : wpAnyH P md ops Q S (fuel + 1) listed a w := by
  refine ⟨fun h0 => (by rw [hr] at h0; cases h0), fun j hj => ?_⟩
  rw [hr] at hj
  obtain rfl := List.mem_singleton.1 hj
  unfold wpOp
  simp only [hi, hw, if_true]
  exact .inl (h _ (fun a w h1 h2 => ⟨h1, h2⟩))
/-- Any of those that may come up. -/
theorem hall {fuel : Nat} {listed : Array Bool} {a : Act} {w : World} {l : List Nat} (hr : Region.ready md ops listed = l) (hne : l ≠ [])
    (h : ∀ i ∈ l, ∃ o, ops[i]? = some o ∧ Region.wanted o (yielded ops a.tmps) = true ∧ ∀ K : Act → World → Prop, Hid (∀ a w, S w → wpAnyH P md ops Q S fuel (listed.setIfInBounds i true) a w → K a w) → Oper.wp P o a w K Q) : wpAnyH P md ops Q S (fuel + 1) listed a w := by
  refine ⟨fun h0 => absurd (hr.symm.trans h0) hne, fun j hj => ?_⟩
  rw [hr] at hj
  obtain ⟨o, ho, hw, hK⟩ := h j hj
  unfold wpOp
  simp only [ho, hw, if_true]
  exact .inl (hK _ (fun a w h1 h2 => ⟨h1, h2⟩))
theorem h2g {i i' : Nat} {d d' : Option Nat} {op op' : Op} {ty ty' : TypeId} {pos pos' : String} {af af' : Array Edge} {fuel : Nat} {listed : Array Bool} {a : Act} {w : World} (hr : Region.ready md ops listed = [i, i']) (hi : ops[i]? = some ⟨d, op, ty, pos, af, none⟩) (hi' : ops[i']? = some ⟨d', op', ty', pos', af', none⟩)
    (h : ∀ K : Act → World → Prop, Hid (∀ a w, S w → wpAnyH P md ops Q S fuel (listed.setIfInBounds i true) a w → K a w) → Oper.wp P ⟨d, op, ty, pos, af, none⟩ a w K Q)
    (h' : ∀ K : Act → World → Prop, Hid (∀ a w, S w → wpAnyH P md ops Q S fuel (listed.setIfInBounds i' true) a w → K a w) → Oper.wp P ⟨d', op', ty', pos', af', none⟩ a w K Q) : wpAnyH P md ops Q S (fuel + 1) listed a w :=
  hall hr (by simp) fun j hj => by
    rcases List.mem_cons.1 hj with rfl | hj
    · exact ⟨_, hi, by simp [Region.wanted], h⟩
    · obtain rfl := List.mem_singleton.1 hj
      exact ⟨_, hi', by simp [Region.wanted], h'⟩
theorem h3g {i i' i2 : Nat} {d d' d2 : Option Nat} {op op' op2 : Op} {ty ty' ty2 : TypeId} {pos pos' pos2 : String} {af af' af2 : Array Edge} {fuel : Nat} {listed : Array Bool} {a : Act} {w : World} (hr : Region.ready md ops listed = [i, i', i2]) (hi : ops[i]? = some ⟨d, op, ty, pos, af, none⟩) (hi' : ops[i']? = some ⟨d', op', ty', pos', af', none⟩) (hi2 : ops[i2]? = some ⟨d2, op2, ty2, pos2, af2, none⟩)
    (h : ∀ K : Act → World → Prop, Hid (∀ a w, S w → wpAnyH P md ops Q S fuel (listed.setIfInBounds i true) a w → K a w) → Oper.wp P ⟨d, op, ty, pos, af, none⟩ a w K Q)
    (h' : ∀ K : Act → World → Prop, Hid (∀ a w, S w → wpAnyH P md ops Q S fuel (listed.setIfInBounds i' true) a w → K a w) → Oper.wp P ⟨d', op', ty', pos', af', none⟩ a w K Q)
    (h2 : ∀ K : Act → World → Prop, Hid (∀ a w, S w → wpAnyH P md ops Q S fuel (listed.setIfInBounds i2 true) a w → K a w) → Oper.wp P ⟨d2, op2, ty2, pos2, af2, none⟩ a w K Q) : wpAnyH P md ops Q S (fuel + 1) listed a w :=
  hall hr (by simp) fun j hj => by
    rcases List.mem_cons.1 hj with rfl | hj
    · exact ⟨_, hi, by simp [Region.wanted], h⟩
    · rcases List.mem_cons.1 hj with rfl | hj
      · exact ⟨_, hi', by simp [Region.wanted], h'⟩
      · obtain rfl := List.mem_singleton.1 hj
        exact ⟨_, hi2, by simp [Region.wanted], h2⟩
end
end Go.Proofs.YtamejhhjfnfalaaDoor
