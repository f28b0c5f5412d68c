/- Bytes by a function of the place: arrays as values, and blocks of memory that are known whole. -/
import Derived.Test.YtkogbighpidfhaaDoorRows
import Derived.WalkKit
import Derived.WalkSpells
import Derived.WalkLawsBesides
import Derived.IntWalk
import Derived.Lib.Hide
import Derived.Below
import Derived.BigQuiet
import Derived.BigRegion
import Derived.StillTailTactics
import Derived.Deep.QuietTactic
import Derived.Deep.RegionHeld3
import Derived.Deep.MidRow
import Derived.Deep.WholeRow
namespace Go.Proofs.YtkogbighpidfhaaDoor
open Go.RowKit

theorem ret_int {k : IntKind} {a b : Int} (h : a = b) : Ending.returned (.int k a) = .returned (.int k b) := by rw [h]
theorem ret_agg {a b : Array Value} (h : a = b) : Ending.returned (.agg a) = .returned (.agg b) := by rw [h]
/-- The word modulo 2^64, modulo 2^8. -/
theorem u64w (n : Int) : IntKind.u64.wrap n = n % 18446744073709551616 := by
  simp [IntKind.wrap, IntKind.bits, IntKind.signed]
theorem u8w (n : Int) : IntKind.u8.wrap n = n % 256 := by
  simp [IntKind.wrap, IntKind.bits, IntKind.signed]
theorem i64_nat (x : Int) (h0 : 0 ≤ x) (h1 : x < 9223372036854775808) : IntKind.i64.wrap x = x := by
  simp [IntKind.wrap, IntKind.bits, IntKind.signed]; omega
theorem ofInt8_nat (X : Nat) (h : X < 256) : (BitVec.ofInt 8 (X : Int)).toNat = X := by
  rw [BitVec.ofInt_natCast, BitVec.toNat_ofNat]
  exact Nat.mod_eq_of_lt h
theorem bits8_xor (X Y : Nat) (hX : X < 256) (hY : Y < 256) : bits .xor .u8 (X : Int) (Y : Int) = ((X ^^^ Y : Nat) : Int) := by
  show IntKind.u8.wrap ((BitVec.ofInt 8 (X : Int) ^^^ BitVec.ofInt 8 (Y : Int)).toNat : Int) = _
  have := (BitVec.ofInt 8 (X : Int) ^^^ BitVec.ofInt 8 (Y : Int)).isLt
  rw [u8w, Int.emod_eq_of_lt (by omega) (by omega), BitVec.toNat_xor, ofInt8_nat X hX, ofInt8_nat Y hY]

/-- The bytes that a function tells, one behind the other. -/
def bys (N : Nat) (f : Nat → Nat) : Array Value := ((List.range N).map fun q => Value.int .u8 (f q : Int)).toArray
theorem bys_size (N : Nat) (f : Nat → Nat) : (bys N f).size = N := by simp [bys]
theorem bys_get (N : Nat) (f : Nat → Nat) (i : Nat) (h : i < N) : (bys N f)[i]? = some (.int .u8 (f i : Int)) := by
  simp [bys, h]
theorem bys_none (N : Nat) (f : Nat → Nat) (i : Nat) (h : N ≤ i) : (bys N f)[i]? = none := by
  simp [bys]; omega
theorem bys_congr {N : Nat} {f g : Nat → Nat} (h : ∀ q, q < N → f q = g q) : bys N f = bys N g := by
  unfold bys
  congr 1
  apply List.map_congr_left
  intro q hq
  rw [h q (List.mem_range.1 hq)]
theorem bys_inj {N : Nat} {f g : Nat → Nat} (h : bys N f = bys N g) : ∀ q, q < N → f q = g q := by
  intro q hq
  have := congrArg (fun a => a[q]?) h
  simp only [bys_get N _ q hq] at this
  have := Option.some.inj this
  injection this with _ h2
  omega
theorem bys_set (N : Nat) (f : Nat → Nat) (i x : Nat) : (bys N f).setIfInBounds i (.int .u8 (x : Int)) = bys N (fun q => if q = i then x else f q) := by
  apply Array.ext_getElem?
  intro j
  rw [Array.getElem?_setIfInBounds]
  by_cases hj : j < N
  · rw [bys_get N _ _ hj, bys_get N _ _ hj]
    by_cases e : i = j
    · subst e; simp [bys_size, hj]
    · have e' : ¬ j = i := fun h => e h.symm
      simp [e, e']
  · rw [bys_none N _ _ (by omega), bys_none N _ _ (by omega)]
    split
    · rw [if_neg (by rw [bys_size]; omega)]
    · rfl
theorem bys_one (N : Nat) (f : Nat → Nat) : (bys N f).all (·.oneCell') = true := by
  rw [Array.all_eq_true_iff_forall_mem]
  intro v hv
  simp only [bys, List.mem_toArray, List.mem_map] at hv
  obtain ⟨q, _, rfl⟩ := hv
  rfl
theorem bys_cons (N : Nat) (f : Nat → Nat) : bys (N + 1) f = #[.int .u8 (f 0 : Int)] ++ bys N (fun q => f (q + 1)) := by
  apply Array.ext_getElem?
  intro j
  rw [Array.getElem?_append]
  by_cases h : j < 1
  · obtain rfl : j = 0 := by omega
    rw [bys_get _ _ _ (by omega)]; simp
  · rw [if_neg (by simpa using h)]
    by_cases hj : j < N + 1
    · rw [bys_get _ _ _ hj, show (#[Value.int .u8 (f 0 : Int)]).size = 1 from rfl, bys_get _ _ _ (by omega), show j - 1 + 1 = j by omega]
    · rw [bys_none _ _ _ (by omega), show (#[Value.int .u8 (f 0 : Int)]).size = 1 from rfl, bys_none _ _ _ (by omega)]
/-- Sixteen bytes as a function of the place, out of a list. -/
theorem bys_of (cs : Array Value) (N : Nat) (hs : cs.size = N) (h : ∀ i, i < N → ∃ n : Nat, n < 256 ∧ cs[i]? = some (.int .u8 (n : Int))) : ∃ f : Nat → Nat, (∀ i, f i < 256) ∧ cs = bys N f := by
  have hf : ∀ i, ∃ n : Nat, n < 256 ∧ (i < N → cs[i]? = some (.int .u8 (n : Int))) := by
    intro i
    by_cases hi : i < N
    · obtain ⟨n, h1, h2⟩ := h i hi; exact ⟨n, h1, fun _ => h2⟩
    · exact ⟨0, by omega, fun h => absurd h hi⟩
  refine ⟨fun i => Classical.choose (hf i), fun i => (Classical.choose_spec (hf i)).1, ?_⟩
  apply Array.ext_getElem?
  intro j
  by_cases hj : j < N
  · rw [bys_get _ _ _ hj]; exact (Classical.choose_spec (hf j)).2 hj
  · rw [bys_none _ _ _ (by omega), Array.getElem?_eq_none (by omega)]

/-- Block g is just these bytes, of an array's type t, none of them fixed. -/
def OwnB (w : World) (g N t : Nat) (f : Nat → Nat) : Prop := w.heap[g]? = some (.cells (bys N f) t (0, 0))
section
variable {w w' : World} {g N t : Nat} {f f' : Nat → Nat}
theorem OwnB.lt (h : OwnB w g N t f) : g < w.heap.size := (Array.getElem?_eq_some_iff.1 h).1
theorem OwnB.cell (h : OwnB w g N t f) (i : Nat) (hi : i < N) : w.cell? ⟨g, i, none⟩ = some (.int .u8 (f i : Int)) := by
  rw [cell_of_row w g i _ t (0, 0) h, bys_get _ _ _ hi]
theorem OwnB.frozen (h : OwnB w g N t f) (i : Nat) : w.frozen? ⟨g, i, none⟩ = false := by
  unfold OwnB at h
  simp [World.frozen?, h]
theorem OwnB.congr (h : OwnB w g N t f) (hf : ∀ q, q < N → f q = f' q) : OwnB w g N t f' := by
  unfold OwnB at h ⊢
  rw [h, bys_congr hf]
theorem OwnB.set (h : OwnB w g N t f) (i : Nat) (x : Nat) : OwnB (w.setCell ⟨g, i, none⟩ (.int .u8 (x : Int))) g N t (fun q => if q = i then x else f q) := by
  unfold OwnB at h ⊢
  rw [← bys_set N f i x]
  simp only [World.setCell, Array.getElem?_modify, h]
  simp
theorem OwnB.below {B : Nat} (h : OwnB w g N t f) (hb : Below B w w') (hg : g < B) : OwnB w' g N t f := (hb.block g hg).trans h
theorem OwnB.drew (h : OwnB w g N t f) : OwnB w.drew g N t f := h
theorem OwnB.alloc (h : OwnB w g N t f) (o : Obj) : OwnB (w.alloc o) g N t f := (Below.heap_alloc w o g h.lt).trans h
theorem OwnB.far (h : OwnB w g N t f) {p : Addr} (hp : g ≠ p.block) (u : Value) : OwnB (w.setCell p u) g N t f := (Below.heap_setCell w p u g hp).trans h
theorem OwnB.new (w : World) (N t : Nat) (f : Nat → Nat) : OwnB (w.alloc (.cells (bys N f) t)) w.heap.size N t f := heap_alloc_new w _
theorem OwnB.setRow (h : OwnB w g N t f) (f' : Nat → Nat) : OwnB (w.setRow g (bys N f')) g N t f' := setRow_heap w g _ _ t _ h
end
theorem setRow_other (w : World) (g k : Nat) (cs : Array Value) (h : k ≠ g) : (w.setRow g cs).heap[k]? = w.heap[k]? := by
  unfold World.setRow
  simp only [Array.getElem?_modify]
  rw [if_neg (fun e => h e.symm)]
theorem OwnB.farRow {w : World} {g k N t : Nat} {f : Nat → Nat} (h : OwnB w k N t f) (hk : k ≠ g) (cs : Array Value) : OwnB (w.setRow g cs) k N t f := (setRow_other w g k cs hk).trans h
theorem Below.row {B : Nat} {w w' : World} (h : Below B w w') {g : Nat} (hg : B ≤ g) (cs : Array Value) : Below B w (w'.setRow g cs) :=
  ⟨h.os, h.tape, h.output, by have := h.size; simpa [World.setRow] using this, fun i hi => (setRow_other w' g i cs (by omega)).trans (h.block i hi)⟩

/-! The operations on whole arrays, as a walk meets them. -/
section
variable {ops : Array Oper} {rest : List Oper} {o : Oper} {a : Act} {w : World} {Q : Exit → Act → World → Prop}
theorem ld_row (t : Nat) (N e : Nat) (hu : Tryd.prog.underlying t = some (.array N e)) (hi : (Tryd.prog.info? t).map (·.size) = some N) (hgd : o.guard = none) (x : Operand) (ho : o.op = .load t x) (g : Nat) (hx : a.eval x = .pointer (some ⟨g, 0, none⟩)) {f : Nat → Nat} (h : OwnB w g N t f)
    (k : wpList Tryd.prog ops Q rest (a.put o.dst (.agg (bys N f))) w) : wpList Tryd.prog ops Q (o :: rest) a w :=
  wpList_load_row hgd t x ho g hx t _ (0, 0) _ h hu rfl (by rw [hi, bys_size]) k
theorem st_row (t : Nat) (N : Nat) (hi : (Tryd.prog.info? t).map (·.size) = some N) (hgd : o.guard = none) (x y : Operand) (ho : o.op = .store t x y) (g : Nat) {f f' : Nat → Nat} (hx : a.eval x = .pointer (some ⟨g, 0, none⟩)) (hy : a.eval y = .agg (bys N f')) (h : OwnB w g N t f)
    (k : wpList Tryd.prog ops Q rest (a.put o.dst undef) (w.setRow g (bys N f'))) : wpList Tryd.prog ops Q (o :: rest) a w :=
  wpList_plain hgd fun _ hK => wp_store_row t x y ho g _ hx hy t _ h (by rw [hi, bys_size]) (by rw [bys_size, bys_size]) (bys_one _ _) (hK _ _ k)
end
/-- What a call answers that has an array for its result. -/
theorem res_row {fn : Func} {p : Tmp} (t N e : Nat) (hu : Tryd.prog.underlying t = some (.array N e)) (hi : (Tryd.prog.info? t).map (·.size) = some N) (hr : fn.results = #[.cell p t]) (tmps : Array Value) (w : World) (g : Nat) {f f' : Nat → Nat}
    (hp : tmps.getD p undef = .pointer (some ⟨g, 0, none⟩)) (h : OwnB w g N t f') (hc : ∀ q, q < N → f' q = f q) : (results fn tmps).run Tryd.prog w = .ok (.agg (bys N f)) w := by
  rw [results_cell_row hr tmps w g t _ _ _ hp h hu rfl (by rw [hi, bys_size]), bys_congr hc]
end Go.Proofs.YtkogbighpidfhaaDoor
