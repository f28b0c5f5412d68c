/- Contracts of package aes: a cipher made, a block encrypted. No condition beyond those that each theorem states. -/
import Derived.Test.YtamejhhjfnfalaaDoorRows
import Derived.WalkKit
import Derived.WalkSpells
import Derived.WalkLawsBesides
import Derived.IntWalk
import Derived.Lib.Hide
import Derived.Below
import Derived.BigQuiet
import Derived.BigRegion
import Derived.StillTailTactics
import Derived.Deep.QuietTactic
import Derived.Deep.RegionHeld3
import Derived.Deep.MidRow
import Derived.Deep.WholeRow
import Derived.KernelRfl
import Derived.Laws.CopyOwn
/- Bytes by a function of the place: arrays as values, and blocks of memory that are known whole. -/
namespace Go.Proofs.YtamejhhjfnfalaaDoor.Ae
open Go.RowKit

theorem ret_int {k : IntKind} {a b : Int} (h : a = b) : Ending.returned (.int k a) = .returned (.int k b) := by rw [h]
theorem ret_agg {a b : Array Value} (h : a = b) : Ending.returned (.agg a) = .returned (.agg b) := by rw [h]
/-- The word modulo 2^64, modulo 2^8. -/
theorem u64w (n : Int) : IntKind.u64.wrap n = n % 18446744073709551616 := by
  simp [IntKind.wrap, IntKind.bits, IntKind.signed]
theorem u8w (n : Int) : IntKind.u8.wrap n = n % 256 := by
  simp [IntKind.wrap, IntKind.bits, IntKind.signed]
theorem i64_nat (x : Int) (h0 : 0 ≤ x) (h1 : x < 9223372036854775808) : IntKind.i64.wrap x = x := by
  simp [IntKind.wrap, IntKind.bits, IntKind.signed]; omega
theorem ofInt8_nat (X : Nat) (h : X < 256) : (BitVec.ofInt 8 (X : Int)).toNat = X := by
  rw [BitVec.ofInt_natCast, BitVec.toNat_ofNat]
  exact Nat.mod_eq_of_lt h
theorem bits8_xor (X Y : Nat) (hX : X < 256) (hY : Y < 256) : bits .xor .u8 (X : Int) (Y : Int) = ((X ^^^ Y : Nat) : Int) := by
  show IntKind.u8.wrap ((BitVec.ofInt 8 (X : Int) ^^^ BitVec.ofInt 8 (Y : Int)).toNat : Int) = _
  have := (BitVec.ofInt 8 (X : Int) ^^^ BitVec.ofInt 8 (Y : Int)).isLt
  rw [u8w, Int.emod_eq_of_lt (by omega) (by omega), BitVec.toNat_xor, ofInt8_nat X hX, ofInt8_nat Y hY]

/-- The bytes that a function tells, one behind the other. -/
def bys (N : Nat) (f : Nat → Nat) : Array Value := ((List.range N).map fun q => Value.int .u8 (f q : Int)).toArray
theorem bys_size (N : Nat) (f : Nat → Nat) : (bys N f).size = N := by simp [bys]
theorem bys_get (N : Nat) (f : Nat → Nat) (i : Nat) (h : i < N) : (bys N f)[i]? = some (.int .u8 (f i : Int)) := by
  simp [bys, h]
theorem bys_none (N : Nat) (f : Nat → Nat) (i : Nat) (h : N ≤ i) : (bys N f)[i]? = none := by
  simp [bys]; omega
theorem bys_congr {N : Nat} {f g : Nat → Nat} (h : ∀ q, q < N → f q = g q) : bys N f = bys N g := by
  unfold bys
  congr 1
  apply List.map_congr_left
  intro q hq
  rw [h q (List.mem_range.1 hq)]
theorem bys_inj {N : Nat} {f g : Nat → Nat} (h : bys N f = bys N g) : ∀ q, q < N → f q = g q := by
  intro q hq
  have := congrArg (fun a => a[q]?) h
  simp only [bys_get N _ q hq] at this
  have := Option.some.inj this
  injection this with _ h2
  omega
theorem bys_set (N : Nat) (f : Nat → Nat) (i x : Nat) : (bys N f).setIfInBounds i (.int .u8 (x : Int)) = bys N (fun q => if q = i then x else f q) := by
  apply Array.ext_getElem?
  intro j
  rw [Array.getElem?_setIfInBounds]
  by_cases hj : j < N
  · rw [bys_get N _ _ hj, bys_get N _ _ hj]
    by_cases e : i = j
    · subst e; simp [bys_size, hj]
    · have e' : ¬ j = i := fun h => e h.symm
      simp [e, e']
  · rw [bys_none N _ _ (by omega), bys_none N _ _ (by omega)]
    split
    · rw [if_neg (by rw [bys_size]; omega)]
    · rfl
theorem bys_one (N : Nat) (f : Nat → Nat) : (bys N f).all (·.oneCell') = true := by
  rw [Array.all_eq_true_iff_forall_mem]
  intro v hv
  simp only [bys, List.mem_toArray, List.mem_map] at hv
  obtain ⟨q, _, rfl⟩ := hv
  rfl
theorem bys_cons (N : Nat) (f : Nat → Nat) : bys (N + 1) f = #[.int .u8 (f 0 : Int)] ++ bys N (fun q => f (q + 1)) := by
  apply Array.ext_getElem?
  intro j
  rw [Array.getElem?_append]
  by_cases h : j < 1
  · obtain rfl : j = 0 := by omega
    rw [bys_get _ _ _ (by omega)]; simp
  · rw [if_neg (by simpa using h)]
    by_cases hj : j < N + 1
    · rw [bys_get _ _ _ hj, show (#[Value.int .u8 (f 0 : Int)]).size = 1 from rfl, bys_get _ _ _ (by omega), show j - 1 + 1 = j by omega]
    · rw [bys_none _ _ _ (by omega), show (#[Value.int .u8 (f 0 : Int)]).size = 1 from rfl, bys_none _ _ _ (by omega)]
/-- Sixteen bytes as a function of the place, out of a list. -/
theorem bys_of (cs : Array Value) (N : Nat) (hs : cs.size = N) (h : ∀ i, i < N → ∃ n : Nat, n < 256 ∧ cs[i]? = some (.int .u8 (n : Int))) : ∃ f : Nat → Nat, (∀ i, f i < 256) ∧ cs = bys N f := by
  have hf : ∀ i, ∃ n : Nat, n < 256 ∧ (i < N → cs[i]? = some (.int .u8 (n : Int))) := by
    intro i
    by_cases hi : i < N
    · obtain ⟨n, h1, h2⟩ := h i hi; exact ⟨n, h1, fun _ => h2⟩
    · exact ⟨0, by omega, fun h => absurd h hi⟩
  refine ⟨fun i => Classical.choose (hf i), fun i => (Classical.choose_spec (hf i)).1, ?_⟩
  apply Array.ext_getElem?
  intro j
  by_cases hj : j < N
  · rw [bys_get _ _ _ hj]; exact (Classical.choose_spec (hf j)).2 hj
  · rw [bys_none _ _ _ (by omega), Array.getElem?_eq_none (by omega)]

/-- Block g is just these bytes, of an array's type t, none of them fixed. -/
def OwnB (w : World) (g N t : Nat) (f : Nat → Nat) : Prop := w.heap[g]? = some (.cells (bys N f) t (0, 0))
section
variable {w w' : World} {g N t : Nat} {f f' : Nat → Nat}
theorem OwnB.lt (h : OwnB w g N t f) : g < w.heap.size := (Array.getElem?_eq_some_iff.1 h).1
theorem OwnB.cell (h : OwnB w g N t f) (i : Nat) (hi : i < N) : w.cell? ⟨g, i, none⟩ = some (.int .u8 (f i : Int)) := by
  rw [cell_of_row w g i _ t (0, 0) h, bys_get _ _ _ hi]
theorem OwnB.frozen (h : OwnB w g N t f) (i : Nat) : w.frozen? ⟨g, i, none⟩ = false := by
  unfold OwnB at h
  simp [World.frozen?, h]
theorem OwnB.congr (h : OwnB w g N t f) (hf : ∀ q, q < N → f q = f' q) : OwnB w g N t f' := by
  unfold OwnB at h ⊢
  rw [h, bys_congr hf]
theorem OwnB.set (h : OwnB w g N t f) (i : Nat) (x : Nat) : OwnB (w.setCell ⟨g, i, none⟩ (.int .u8 (x : Int))) g N t (fun q => if q = i then x else f q) := by
  unfold OwnB at h ⊢
  rw [← bys_set N f i x]
  simp only [World.setCell, Array.getElem?_modify, h]
  simp
theorem OwnB.below {B : Nat} (h : OwnB w g N t f) (hb : Below B w w') (hg : g < B) : OwnB w' g N t f := (hb.block g hg).trans h
theorem OwnB.drew (h : OwnB w g N t f) : OwnB w.drew g N t f := h
theorem OwnB.alloc (h : OwnB w g N t f) (o : Obj) : OwnB (w.alloc o) g N t f := (Below.heap_alloc w o g h.lt).trans h
theorem OwnB.far (h : OwnB w g N t f) {p : Addr} (hp : g ≠ p.block) (u : Value) : OwnB (w.setCell p u) g N t f := (Below.heap_setCell w p u g hp).trans h
theorem OwnB.new (w : World) (N t : Nat) (f : Nat → Nat) : OwnB (w.alloc (.cells (bys N f) t)) w.heap.size N t f := heap_alloc_new w _
theorem OwnB.setRow (h : OwnB w g N t f) (f' : Nat → Nat) : OwnB (w.setRow g (bys N f')) g N t f' := setRow_heap w g _ _ t _ h
end
theorem setRow_other (w : World) (g k : Nat) (cs : Array Value) (h : k ≠ g) : (w.setRow g cs).heap[k]? = w.heap[k]? := by
  unfold World.setRow
  simp only [Array.getElem?_modify]
  rw [if_neg (fun e => h e.symm)]
theorem OwnB.farRow {w : World} {g k N t : Nat} {f : Nat → Nat} (h : OwnB w k N t f) (hk : k ≠ g) (cs : Array Value) : OwnB (w.setRow g cs) k N t f := (setRow_other w g k cs hk).trans h
theorem Below.row {B : Nat} {w w' : World} (h : Below B w w') {g : Nat} (hg : B ≤ g) (cs : Array Value) : Below B w (w'.setRow g cs) :=
  ⟨h.os, h.tape, h.output, by have := h.size; simpa [World.setRow] using this, fun i hi => (setRow_other w' g i cs (by omega)).trans (h.block i hi)⟩

/-! The operations on whole arrays, as a walk meets them. -/
section
variable {ops : Array Oper} {rest : List Oper} {o : Oper} {a : Act} {w : World} {Q : Exit → Act → World → Prop}
theorem ld_row (t : Nat) (N e : Nat) (hu : Tryd.prog.underlying t = some (.array N e)) (hi : (Tryd.prog.info? t).map (·.size) = some N) (hgd : o.guard = none) (x : Operand) (ho : o.op = .load t x) (g : Nat) (hx : a.eval x = .pointer (some ⟨g, 0, none⟩)) {f : Nat → Nat} (h : OwnB w g N t f)
    (k : wpList Tryd.prog ops Q rest (a.put o.dst (.agg (bys N f))) w) : wpList Tryd.prog ops Q (o :: rest) a w :=
  wpList_load_row hgd t x ho g hx t _ (0, 0) _ h hu rfl (by rw [hi, bys_size]) k
theorem st_row (t : Nat) (N : Nat) (hi : (Tryd.prog.info? t).map (·.size) = some N) (hgd : o.guard = none) (x y : Operand) (ho : o.op = .store t x y) (g : Nat) {f f' : Nat → Nat} (hx : a.eval x = .pointer (some ⟨g, 0, none⟩)) (hy : a.eval y = .agg (bys N f')) (h : OwnB w g N t f)
    (k : wpList Tryd.prog ops Q rest (a.put o.dst undef) (w.setRow g (bys N f'))) : wpList Tryd.prog ops Q (o :: rest) a w :=
  wpList_plain hgd fun _ hK => wp_store_row t x y ho g _ hx hy t _ h (by rw [hi, bys_size]) (by rw [bys_size, bys_size]) (bys_one _ _) (hK _ _ k)
end
/-- What a call answers that has an array for its result. -/
theorem res_row {fn : Func} {p : Tmp} (t N e : Nat) (hu : Tryd.prog.underlying t = some (.array N e)) (hi : (Tryd.prog.info? t).map (·.size) = some N) (hr : fn.results = #[.cell p t]) (tmps : Array Value) (w : World) (g : Nat) {f f' : Nat → Nat}
    (hp : tmps.getD p undef = .pointer (some ⟨g, 0, none⟩)) (h : OwnB w g N t f') (hc : ∀ q, q < N → f' q = f q) : (results fn tmps).run Tryd.prog w = .ok (.agg (bys N f)) w := by
  rw [results_cell_row hr tmps w g t _ _ _ hp h hu rfl (by rw [hi, bys_size]), bys_congr hc]
theorem Tryd.info137 : (Tryd.prog.info? 137).map (·.size) = some 16 := by kernel_rfl
theorem Tryd.info173 : (Tryd.prog.info? 173).map (·.size) = some 4 := by kernel_rfl
theorem Tryd.info171 : (Tryd.prog.info? 171).map (·.size) = some 256 := by kernel_rfl
theorem Tryd.info176 : (Tryd.prog.info? 176).map (·.size) = some 432 := by kernel_rfl
end Go.Proofs.YtamejhhjfnfalaaDoor.Ae

/- AES-128 by the document's words, on numbers: products in the field, S, rounds; encrypting keeps blocks apart. -/
namespace Go.Proofs.YtamejhhjfnfalaaDoor.Aes

/-- Twice a byte, in the field. -/
def xt (x : Nat) : Nat := if 256 ≤ x * 2 then (x * 2) ^^^ 283 else x * 2
/-- n steps of the product: p so far, x the power's multiple, b the bits that are left. -/
def tmGo : Nat → Nat → Nat → Nat → Nat
  | 0, p, _, _ => p
  | n + 1, p, x, b => tmGo n (if b % 2 = 1 then p ^^^ x else p) (xt x) (b / 2)
/-- The product of two bytes. -/
def tm (a b : Nat) : Nat := tmGo 8 0 a b

theorem xt_lt {x : Nat} (h : x < 256) : xt x < 256 := by
  revert x; decide +kernel
theorem byte_xor {x y : Nat} (hx : x < 256) (hy : y < 256) : x ^^^ y < 256 := Nat.xor_lt_two_pow (n := 8) hx hy
theorem top_xor {x y : Nat} (hx : x < 256) (hy : y < 256) : (128 ≤ x ^^^ y) ↔ ((128 ≤ x) ↔ ¬ 128 ≤ y) := by
  have key : ∀ {z : Nat}, z < 256 → (128 ≤ z ↔ z.testBit 7 = true) := fun {z} hz => by
    rw [Nat.testBit_eq_decide_div_mod_eq]
    simp only [show (2 : Nat) ^ 7 = 128 from rfl, decide_eq_true_eq]
    omega
  rw [key (byte_xor hx hy), key hx, key hy, Nat.testBit_xor]
  cases x.testBit 7 <;> cases y.testBit 7 <;> simp
theorem two_xor (x y : Nat) : (x ^^^ y) * 2 = (x * 2) ^^^ (y * 2) := by
  have := Nat.shiftLeft_xor_distrib (a := x) (b := y) (i := 1)
  simpa [Nat.shiftLeft_eq] using this
theorem xt_xor {x y : Nat} (hx : x < 256) (hy : y < 256) : xt (x ^^^ y) = xt x ^^^ xt y := by
  have ht := top_xor hx hy
  unfold xt
  by_cases h1 : 128 ≤ x <;> by_cases h2 : 128 ≤ y
  · rw [if_neg (by have : ¬ 128 ≤ x ^^^ y := by rw [ht]; simp [h1, h2]
                   omega), if_pos (by omega), if_pos (by omega), two_xor]
    rw [Nat.xor_assoc, ← Nat.xor_assoc 283, Nat.xor_comm 283, Nat.xor_assoc (y * 2), Nat.xor_self, Nat.xor_zero]
  · rw [if_pos (by have : 128 ≤ x ^^^ y := by rw [ht]; simp [h1, h2]
                   omega), if_pos (by omega), if_neg (by omega), two_xor]
    rw [Nat.xor_assoc, Nat.xor_comm (y * 2), ← Nat.xor_assoc]
  · rw [if_pos (by have : 128 ≤ x ^^^ y := by rw [ht]; simp [h1, h2]
                   omega), if_neg (by omega), if_pos (by omega), two_xor, Nat.xor_assoc]
  · rw [if_neg (by have : ¬ 128 ≤ x ^^^ y := by rw [ht]; simp [h1, h2]
                   omega), if_neg (by omega), if_neg (by omega), two_xor]
theorem xor4 (a b c d : Nat) : (a ^^^ b) ^^^ (c ^^^ d) = (a ^^^ c) ^^^ (b ^^^ d) := by
  rw [Nat.xor_assoc, Nat.xor_assoc, ← Nat.xor_assoc b, Nat.xor_comm b c, Nat.xor_assoc c]
theorem tmGo_xor : ∀ (n p q x y b : Nat), x < 256 → y < 256 → tmGo n (p ^^^ q) (x ^^^ y) b = tmGo n p x b ^^^ tmGo n q y b
  | 0, _, _, _, _, _, _, _ => rfl
  | n + 1, p, q, x, y, b, hx, hy => by
    unfold tmGo
    rw [xt_xor hx hy]
    by_cases h : b % 2 = 1
    · rw [if_pos h, if_pos h, if_pos h, xor4]
      exact tmGo_xor n _ _ _ _ _ (xt_lt hx) (xt_lt hy)
    · rw [if_neg h, if_neg h, if_neg h]
      exact tmGo_xor n _ _ _ _ _ (xt_lt hx) (xt_lt hy)
/-- Products spread over sums. -/
theorem tm_xor {x y : Nat} (b : Nat) (hx : x < 256) (hy : y < 256) : tm (x ^^^ y) b = tm x b ^^^ tm y b := by
  have := tmGo_xor 8 0 0 x y b hx hy
  rwa [Nat.xor_zero] at this
theorem tmGo_lt : ∀ (n p x b : Nat), p < 256 → x < 256 → tmGo n p x b < 256
  | 0, _, _, _, hp, _ => hp
  | n + 1, p, x, b, hp, hx => by
    unfold tmGo
    refine tmGo_lt n _ _ _ ?_ (xt_lt hx)
    split
    · exact byte_xor hp hx
    · exact hp
theorem tm_lt {x : Nat} (b : Nat) (hx : x < 256) : tm x b < 256 := tmGo_lt 8 0 x b (by omega) hx

/-- One byte of a mixed column. -/
def mixB (a b c d : Nat) : Nat := tm a 2 ^^^ tm b 3 ^^^ c ^^^ d
theorem mixB_lt {a b c d : Nat} (ha : a < 256) (hb : b < 256) (hc : c < 256) (hd : d < 256) : mixB a b c d < 256 :=
  byte_xor (byte_xor (byte_xor (tm_lt 2 ha) (tm_lt 3 hb)) hc) hd
theorem id_a : ∀ t, t < 256 → tm (tm t 2) 14 ^^^ tm t 11 ^^^ tm t 13 ^^^ tm (tm t 3) 9 = t := by decide +kernel
theorem id_b : ∀ t, t < 256 → tm (tm t 3) 14 ^^^ tm (tm t 2) 11 ^^^ tm t 13 ^^^ tm t 9 = 0 := by decide +kernel
theorem id_c : ∀ t, t < 256 → tm t 14 ^^^ tm (tm t 3) 11 ^^^ tm (tm t 2) 13 ^^^ tm t 9 = 0 := by decide +kernel
theorem id_d : ∀ t, t < 256 → tm t 14 ^^^ tm t 11 ^^^ tm (tm t 3) 13 ^^^ tm (tm t 2) 9 = 0 := by decide +kernel
theorem tm_mix {a b c d : Nat} (k : Nat) (ha : a < 256) (hb : b < 256) (hc : c < 256) (hd : d < 256) : tm (mixB a b c d) k = tm (tm a 2) k ^^^ tm (tm b 3) k ^^^ tm c k ^^^ tm d k := by
  unfold mixB
  rw [tm_xor k (byte_xor (byte_xor (tm_lt 2 ha) (tm_lt 3 hb)) hc) hd, tm_xor k (byte_xor (tm_lt 2 ha) (tm_lt 3 hb)) hc, tm_xor k (tm_lt 2 ha) (tm_lt 3 hb)]
/-- A mixed column tells its first byte. -/
theorem unmix {a b c d : Nat} (ha : a < 256) (hb : b < 256) (hc : c < 256) (hd : d < 256) :
    tm (mixB a b c d) 14 ^^^ tm (mixB b c d a) 11 ^^^ tm (mixB c d a b) 13 ^^^ tm (mixB d a b c) 9 = a := by
  rw [tm_mix 14 ha hb hc hd, tm_mix 11 hb hc hd ha, tm_mix 13 hc hd ha hb, tm_mix 9 hd ha hb hc]
  have ea := id_a a ha
  have eb := id_b b hb
  have ec := id_c c hc
  have ed := id_d d hd
  calc _ = (tm (tm a 2) 14 ^^^ tm a 11 ^^^ tm a 13 ^^^ tm (tm a 3) 9) ^^^ (tm (tm b 3) 14 ^^^ tm (tm b 2) 11 ^^^ tm b 13 ^^^ tm b 9) ^^^
        (tm c 14 ^^^ tm (tm c 3) 11 ^^^ tm (tm c 2) 13 ^^^ tm c 9) ^^^ (tm d 14 ^^^ tm d 11 ^^^ tm (tm d 3) 13 ^^^ tm (tm d 2) 9) := by
        ac_rfl
    _ = a := by rw [ea, eb, ec, ed, Nat.xor_zero, Nat.xor_zero, Nat.xor_zero]

/-- The n-th power's step: n times the product with a. -/
def powGo : Nat → Nat → Nat → Nat
  | 0, p, _ => p
  | n + 1, p, a => powGo n (tm p a) a
/-- The inverse of a byte: its power 254. -/
def inv (a : Nat) : Nat := powGo 254 1 a
/-- A byte turned by one place. -/
def rotl (y : Nat) : Nat := (y * 2 + y / 128) % 256
/-- n steps of S: out so far, y turned on. -/
def sGo : Nat → Nat → Nat → Nat
  | 0, o, _ => o
  | n + 1, o, y => sGo n (o ^^^ y) (rotl y)
/-- S of a byte. -/
def sb (a : Nat) : Nat := sGo 5 99 (inv a)
theorem powGo_lt : ∀ (n p a : Nat), p < 256 → powGo n p a < 256
  | 0, _, _, hp => hp
  | n + 1, _, a, hp => powGo_lt n _ a (tm_lt a hp)
theorem sGo_lt : ∀ (n o y : Nat), o < 256 → y < 256 → sGo n o y < 256
  | 0, _, _, ho, _ => ho
  | n + 1, o, y, ho, hy => sGo_lt n _ _ (byte_xor ho hy) (Nat.mod_lt _ (by omega))
theorem sb_lt (a : Nat) : sb a < 256 := sGo_lt 5 99 _ (by omega) (powGo_lt 254 1 a (by omega))
/-- The same power, each step's byte reckoned before the next (for the kernel's sake). -/
def powF : Nat → Nat → Nat → Nat
  | 0, p, _ => p
  | n + 1, p, a => match tm p a with
    | 0 => powF n 0 a
    | q + 1 => powF n (q + 1) a
theorem powF_eq : ∀ (n p a : Nat), powF n p a = powGo n p a
  | 0, _, _ => rfl
  | n + 1, p, a => by
    unfold powF powGo
    split
    · next h => rw [h, powF_eq n]
    · next q h => rw [h, powF_eq n]
/-- S, in numbers. -/
def boxL : List Nat := [99, 124, 119, 123, 242, 107, 111, 197, 48, 1, 103, 43, 254, 215, 171, 118, 202, 130, 201, 125, 250, 89, 71, 240, 173, 212, 162, 175, 156, 164, 114, 192, 183, 253, 147, 38, 54, 63, 247, 204, 52, 165, 229, 241, 113, 216, 49, 21, 4, 199, 35, 195, 24, 150, 5, 154, 7, 18, 128, 226, 235, 39, 178, 117, 9, 131, 44, 26, 27, 110, 90, 160, 82, 59, 214, 179, 41, 227, 47, 132, 83, 209, 0, 237, 32, 252, 177, 91, 106, 203, 190, 57, 74, 76, 88, 207, 208, 239, 170, 251, 67, 77, 51, 133, 69, 249, 2, 127, 80, 60, 159, 168, 81, 163, 64, 143, 146, 157, 56, 245, 188, 182, 218, 33, 16, 255, 243, 210, 205, 12, 19, 236, 95, 151, 68, 23, 196, 167, 126, 61, 100, 93, 25, 115, 96, 129, 79, 220, 34, 42, 144, 136, 70, 238, 184, 20, 222, 94, 11, 219, 224, 50, 58, 10, 73, 6, 36, 92, 194, 211, 172, 98, 145, 149, 228, 121, 231, 200, 55, 109, 141, 213, 78, 169, 108, 86, 244, 234, 101, 122, 174, 8, 186, 120, 37, 46, 28, 166, 180, 198, 232, 221, 116, 31, 75, 189, 139, 138, 112, 62, 181, 102, 72, 3, 246, 14, 97, 53, 87, 185, 134, 193, 29, 158, 225, 248, 152, 17, 105, 217, 142, 148, 155, 30, 135, 233, 206, 85, 40, 223, 140, 161, 137, 13, 191, 230, 66, 104, 65, 153, 45, 15, 176, 84, 187, 22]
/-- .. and back. -/
def unboxL : List Nat := [82, 9, 106, 213, 48, 54, 165, 56, 191, 64, 163, 158, 129, 243, 215, 251, 124, 227, 57, 130, 155, 47, 255, 135, 52, 142, 67, 68, 196, 222, 233, 203, 84, 123, 148, 50, 166, 194, 35, 61, 238, 76, 149, 11, 66, 250, 195, 78, 8, 46, 161, 102, 40, 217, 36, 178, 118, 91, 162, 73, 109, 139, 209, 37, 114, 248, 246, 100, 134, 104, 152, 22, 212, 164, 92, 204, 93, 101, 182, 146, 108, 112, 72, 80, 253, 237, 185, 218, 94, 21, 70, 87, 167, 141, 157, 132, 144, 216, 171, 0, 140, 188, 211, 10, 247, 228, 88, 5, 184, 179, 69, 6, 208, 44, 30, 143, 202, 63, 15, 2, 193, 175, 189, 3, 1, 19, 138, 107, 58, 145, 17, 65, 79, 103, 220, 234, 151, 242, 207, 206, 240, 180, 230, 115, 150, 172, 116, 34, 231, 173, 53, 133, 226, 249, 55, 232, 28, 117, 223, 110, 71, 241, 26, 113, 29, 41, 197, 137, 111, 183, 98, 14, 170, 24, 190, 27, 252, 86, 62, 75, 198, 210, 121, 32, 154, 219, 192, 254, 120, 205, 90, 244, 31, 221, 168, 51, 136, 7, 199, 49, 177, 18, 16, 89, 39, 128, 236, 95, 96, 81, 127, 169, 25, 181, 74, 13, 45, 229, 122, 159, 147, 201, 156, 239, 160, 224, 59, 77, 174, 42, 245, 176, 200, 235, 187, 60, 131, 83, 153, 97, 23, 43, 4, 126, 186, 119, 214, 38, 225, 105, 20, 99, 85, 33, 12, 125]
set_option maxRecDepth 100000 in
theorem sb_table : ∀ a, a < 256 → sGo 5 99 (powF 254 1 a) = boxL.getD a 0 := by decide +kernel
set_option maxRecDepth 100000 in
theorem unbox_box : ∀ a, a < 256 → unboxL.getD (boxL.getD a 0) 0 = a := by decide +kernel
theorem sb_box {a : Nat} (h : a < 256) : sb a = boxL.getD a 0 := by
  rw [← sb_table a h]; unfold sb inv; rw [powF_eq]
theorem sb_inj {a b : Nat} (ha : a < 256) (hb : b < 256) (h : sb a = sb b) : a = b := by
  rw [sb_box ha, sb_box hb] at h
  rw [← unbox_box a ha, h, unbox_box b hb]

/-- Sixteen bytes, by a function of the place. -/
def Bytes (b : Nat → Nat) : Prop := ∀ i, i < 16 → b i < 256
/-- Where byte i comes from when the rows are turned. -/
def from_ (i : Nat) : Nat := 4 * ((i / 4 + i % 4) % 4) + i % 4
/-- Each byte its S, the rows turned. -/
def subs (b : Nat → Nat) (i : Nat) : Nat := sb (b (from_ i))
/-- The place in i's column, d rows on. -/
def col (i d : Nat) : Nat := 4 * (i / 4) + (i % 4 + d) % 4
/-- Each column mixed. -/
def mixF (t : Nat → Nat) (i : Nat) : Nat := mixB (t (col i 0)) (t (col i 1)) (t (col i 2)) (t (col i 3))
/-- A round, the keys' bytes added. -/
def roundF (keys : Nat → Nat) (k : Nat) (b : Nat → Nat) (i : Nat) : Nat := (if k < 10 then mixF (subs b) i else subs b i) ^^^ keys (16 * k + i)
/-- The first n rounds. -/
def encGo (keys block : Nat → Nat) : Nat → Nat → Nat
  | 0 => fun i => block i ^^^ keys i
  | n + 1 => roundF keys (n + 1) (encGo keys block n)
/-- A block, encrypted. -/
def enc (keys block : Nat → Nat) : Nat → Nat := encGo keys block 10

theorem from_lt (i : Nat) : from_ i < 16 := by unfold from_; omega
theorem col_lt {i : Nat} (d : Nat) (h : i < 16) : col i d < 16 := by unfold col; omega
theorem subs_bytes (b : Nat → Nat) : Bytes (subs b) := fun _ _ => sb_lt _
theorem mix_bytes {t : Nat → Nat} (h : Bytes t) : Bytes (mixF t) := fun _ hi => mixB_lt (h _ (col_lt 0 hi)) (h _ (col_lt 1 hi)) (h _ (col_lt 2 hi)) (h _ (col_lt 3 hi))
theorem round_bytes {keys : Nat → Nat} (hk : ∀ i, i < 176 → keys i < 256) {k : Nat} (h10 : k ≤ 10) (b : Nat → Nat) : Bytes (roundF keys k b) := fun i hi => by
  unfold roundF
  refine byte_xor ?_ (hk _ (by omega))
  split
  · exact mix_bytes (subs_bytes b) i hi
  · exact subs_bytes b i hi
theorem enc_bytes {keys block : Nat → Nat} (hk : ∀ i, i < 176 → keys i < 256) (hb : Bytes block) : ∀ n, n ≤ 10 → Bytes (encGo keys block n)
  | 0, _ => fun i hi => byte_xor (hb i hi) (hk i (by omega))
  | n + 1, hn => round_bytes hk hn _
theorem xor_cancel {a b k : Nat} (h : a ^^^ k = b ^^^ k) : a = b := by
  have := congrArg (· ^^^ k) h
  simpa [Nat.xor_assoc] using this
theorem subs_inj {a b : Nat → Nat} (ha : Bytes a) (hb : Bytes b) (h : ∀ i, i < 16 → subs a i = subs b i) : ∀ i, i < 16 → a i = b i := by
  intro i hi
  have hj : 4 * ((i / 4 + 4 - i % 4) % 4) + i % 4 < 16 := by omega
  have e : from_ (4 * ((i / 4 + 4 - i % 4) % 4) + i % 4) = i := by unfold from_; omega
  have := h _ hj
  unfold subs at this
  rw [e] at this
  exact sb_inj (ha i hi) (hb i hi) this
theorem mix_inj {a b : Nat → Nat} (ha : Bytes a) (hb : Bytes b) (h : ∀ i, i < 16 → mixF a i = mixF b i) : ∀ i, i < 16 → a i = b i := by
  intro i hi
  have un : ∀ {t : Nat → Nat}, Bytes t → tm (mixF t (col i 0)) 14 ^^^ tm (mixF t (col i 1)) 11 ^^^ tm (mixF t (col i 2)) 13 ^^^ tm (mixF t (col i 3)) 9 = t i := fun {t} ht => by
    have e : ∀ d e, col (col i d) e = col i (d + e) := fun d e => by unfold col; omega
    have w : ∀ d, col i (d + 4) = col i d := fun d => by unfold col; omega
    have z : col i 0 = i := by unfold col; omega
    have u := unmix (ht _ (col_lt 0 hi)) (ht _ (col_lt 1 hi)) (ht _ (col_lt 2 hi)) (ht _ (col_lt 3 hi))
    unfold mixF
    simp only [e, Nat.add_zero, Nat.zero_add, show (1 + 1 : Nat) = 2 from rfl, show (1 + 2 : Nat) = 3 from rfl, show (1 + 3 : Nat) = 0 + 4 from rfl, show (2 + 3 : Nat) = 1 + 4 from rfl, show (3 + 3 : Nat) = 2 + 4 from rfl, w]
    rw [u, z]
  rw [← un ha, ← un hb, h _ (col_lt 0 hi), h _ (col_lt 1 hi), h _ (col_lt 2 hi), h _ (col_lt 3 hi)]
theorem encGo_inj {keys a b : Nat → Nat} (hk : ∀ i, i < 176 → keys i < 256) (ha : Bytes a) (hb : Bytes b) : ∀ n, n ≤ 10 → (∀ i, i < 16 → encGo keys a n i = encGo keys b n i) → ∀ i, i < 16 → a i = b i
  | 0, _, h => fun i hi => xor_cancel (h i hi)
  | n + 1, hn, h => by
    refine encGo_inj hk ha hb n (by omega) (subs_inj (enc_bytes hk ha n (by omega)) (enc_bytes hk hb n (by omega)) ?_)
    have h' : ∀ i, i < 16 → (if n + 1 < 10 then mixF (subs (encGo keys a n)) i else subs (encGo keys a n) i) = (if n + 1 < 10 then mixF (subs (encGo keys b n)) i else subs (encGo keys b n) i) := fun i hi => xor_cancel (h i hi)
    by_cases h10 : n + 1 < 10
    · simp only [if_pos h10] at h'
      exact mix_inj (subs_bytes _) (subs_bytes _) h'
    · simp only [if_neg h10] at h'
      exact h'
/-- Blocks that differ are encrypted to blocks that differ. -/
theorem enc_inj {keys a b : Nat → Nat} (hk : ∀ i, i < 176 → keys i < 256) (ha : Bytes a) (hb : Bytes b) (h : ∀ i, i < 16 → enc keys a i = enc keys b i) : ∀ i, i < 16 → a i = b i :=
  encGo_inj hk ha hb 10 (Nat.le_refl _) h
end Go.Proofs.YtamejhhjfnfalaaDoor.Aes

/- AES on numbers, second part: the table S by powers of 3, the round keys, the document's example, words and bytes. -/
namespace Go.Proofs.YtamejhhjfnfalaaDoor.Aes

/-- Powers of 2 in the field. -/
def pw : Nat → Nat
  | 0 => 1
  | n + 1 => xt (pw n)
theorem pw_lt : ∀ n, pw n < 256
  | 0 => by decide
  | n + 1 => xt_lt (pw_lt n)
/-- Powers of 3 in the field. -/
def p3 : Nat → Nat
  | 0 => 1
  | n + 1 => p3 n ^^^ xt (p3 n)
def p3L : List Nat := [1, 3, 5, 15, 17, 51, 85, 255, 26, 46, 114, 150, 161, 248, 19, 53, 95, 225, 56, 72, 216, 115, 149, 164, 247, 2, 6, 10, 30, 34, 102, 170, 229, 52, 92, 228, 55, 89, 235, 38, 106, 190, 217, 112, 144, 171, 230, 49, 83, 245, 4, 12, 20, 60, 68, 204, 79, 209, 104, 184, 211, 110, 178, 205, 76, 212, 103, 169, 224, 59, 77, 215, 98, 166, 241, 8, 24, 40, 120, 136, 131, 158, 185, 208, 107, 189, 220, 127, 129, 152, 179, 206, 73, 219, 118, 154, 181, 196, 87, 249, 16, 48, 80, 240, 11, 29, 39, 105, 187, 214, 97, 163, 254, 25, 43, 125, 135, 146, 173, 236, 47, 113, 147, 174, 233, 32, 96, 160, 251, 22, 58, 78, 210, 109, 183, 194, 93, 231, 50, 86, 250, 21, 63, 65, 195, 94, 226, 61, 71, 201, 64, 192, 91, 237, 44, 116, 156, 191, 218, 117, 159, 186, 213, 100, 172, 239, 42, 126, 130, 157, 188, 223, 122, 142, 137, 128, 155, 182, 193, 88, 232, 35, 101, 175, 234, 37, 111, 177, 200, 67, 197, 84, 252, 31, 33, 99, 165, 244, 7, 9, 27, 45, 119, 153, 176, 203, 70, 202, 69, 207, 74, 222, 121, 139, 134, 145, 168, 227, 62, 66, 198, 81, 243, 14, 18, 54, 90, 238, 41, 123, 141, 140, 143, 138, 133, 148, 167, 242, 13, 23, 57, 75, 221, 124, 132, 151, 162, 253, 28, 36, 108, 180, 199, 82, 246, 1]
def logL : List Nat := [0, 0, 25, 1, 50, 2, 26, 198, 75, 199, 27, 104, 51, 238, 223, 3, 100, 4, 224, 14, 52, 141, 129, 239, 76, 113, 8, 200, 248, 105, 28, 193, 125, 194, 29, 181, 249, 185, 39, 106, 77, 228, 166, 114, 154, 201, 9, 120, 101, 47, 138, 5, 33, 15, 225, 36, 18, 240, 130, 69, 53, 147, 218, 142, 150, 143, 219, 189, 54, 208, 206, 148, 19, 92, 210, 241, 64, 70, 131, 56, 102, 221, 253, 48, 191, 6, 139, 98, 179, 37, 226, 152, 34, 136, 145, 16, 126, 110, 72, 195, 163, 182, 30, 66, 58, 107, 40, 84, 250, 133, 61, 186, 43, 121, 10, 21, 155, 159, 94, 202, 78, 212, 172, 229, 243, 115, 167, 87, 175, 88, 168, 80, 244, 234, 214, 116, 79, 174, 233, 213, 231, 230, 173, 232, 44, 215, 117, 122, 235, 22, 11, 245, 89, 203, 95, 176, 156, 169, 81, 160, 127, 12, 246, 111, 23, 196, 73, 236, 216, 67, 31, 45, 164, 118, 123, 183, 204, 187, 62, 90, 251, 96, 177, 134, 59, 82, 161, 108, 170, 85, 41, 157, 151, 178, 135, 144, 97, 190, 220, 252, 188, 149, 207, 205, 55, 63, 91, 209, 83, 57, 132, 60, 65, 162, 109, 71, 20, 42, 158, 93, 86, 242, 211, 171, 68, 17, 146, 217, 35, 32, 46, 137, 180, 124, 184, 38, 119, 153, 227, 165, 103, 74, 237, 222, 197, 49, 254, 24, 13, 99, 140, 128, 192, 247, 112, 7]
set_option maxRecDepth 100000 in
theorem p3_step : ∀ i, i < 255 → p3L.getD (i + 1) 0 = p3L.getD i 0 ^^^ xt (p3L.getD i 0) := by decide +kernel
theorem p3_eq : ∀ i, i < 256 → p3 i = p3L.getD i 0
  | 0, _ => rfl
  | n + 1, h => by
    show p3 n ^^^ xt (p3 n) = _
    rw [p3_eq n (by omega), p3_step n (by omega)]
set_option maxRecDepth 100000 in
theorem log_p3 : ∀ n, n < 255 → logL.getD (p3L.getD n 0) 0 = n := by decide +kernel
set_option maxRecDepth 100000 in
theorem p3_log : ∀ q, q < 256 → q = 0 ∨ (logL.getD q 0 < 255 ∧ p3L.getD (logL.getD q 0) 0 = q) := by decide +kernel
set_option maxRecDepth 100000 in
theorem p3L_lt : ∀ n, n < 256 → p3L.getD n 0 < 256 ∧ p3L.getD n 0 ≠ 0 := by decide +kernel
theorem p3_lt {n : Nat} (h : n < 256) : p3 n < 256 := by rw [p3_eq n h]; exact (p3L_lt n h).1
theorem p3_ne {n : Nat} (h : n < 256) : p3 n ≠ 0 := by rw [p3_eq n h]; exact (p3L_lt n h).2
theorem p3_inj {m n : Nat} (hm : m < 255) (hn : n < 255) (h : p3 m = p3 n) : m = n := by
  rw [p3_eq m (by omega), p3_eq n (by omega)] at h
  rw [← log_p3 m hm, h, log_p3 n hn]
/-- S of the byte whose inverse is y. -/
def sI (y : Nat) : Nat := sGo 5 99 y
theorem sI_lt {y : Nat} (h : y < 256) : sI y < 256 := sGo_lt 5 99 y (by omega) h
set_option maxRecDepth 100000 in
theorem sI_p3 : ∀ n, n < 255 → sI (p3L.getD (255 - n) 0) = boxL.getD (p3L.getD n 0) 0 := by decide +kernel
/-- The table behind n rounds. -/
def sF : Nat → Nat → Nat
  | 0, q => if q = 0 then sI 0 else 0
  | n + 1, q => if q = p3 n then sI (p3 (255 - n)) else sF n q
theorem sF_at : ∀ n, n ≤ 255 → ∀ m, m < n → sF n (p3 m) = sI (p3 (255 - m))
  | 0, _, m, h => by omega
  | n + 1, hn, m, h => by
    show (if p3 m = p3 n then sI (p3 (255 - n)) else sF n (p3 m)) = _
    by_cases e : m = n
    · subst e; rw [if_pos rfl]
    · rw [if_neg (fun h' => e (p3_inj (by omega) (by omega) h'))]
      exact sF_at n (by omega) m (by omega)
theorem sF_zero : ∀ n, n ≤ 255 → sF n 0 = sI 0
  | 0, _ => rfl
  | n + 1, hn => by
    show (if 0 = p3 n then sI (p3 (255 - n)) else sF n 0) = _
    rw [if_neg (fun h => p3_ne (n := n) (by omega) h.symm), sF_zero n (by omega)]
theorem sF_all (q : Nat) (h : q < 256) : sF 255 q = sb q := by
  rcases p3_log q h with rfl | ⟨h1, h2⟩
  · rw [sF_zero 255 (by omega), sb_box h]; decide +kernel
  · have e : q = p3 (logL.getD q 0) := by rw [p3_eq _ (by omega), h2]
    have := sF_at 255 (by omega) (logL.getD q 0) h1
    rw [← e] at this
    rw [this, p3_eq _ (by omega), sI_p3 _ h1, h2, sb_box h]

/-- The round keys' bytes. -/
def ks (key : Nat → Nat) (q : Nat) : Nat :=
  if q < 16 then key q else
    ks key (q - 16) ^^^ (if q / 4 % 4 = 0 then sb (ks key (4 * (q / 4 - 1) + (q % 4 + 1) % 4)) ^^^ (if q % 4 = 0 then pw (q / 4 / 4 - 1) else 0) else ks key (q - 4))
termination_by q
decreasing_by all_goals omega
theorem ks_lo (key : Nat → Nat) (q : Nat) (h : q < 16) : ks key q = key q := by rw [ks, if_pos h]
theorem ks_hi (key : Nat → Nat) (q : Nat) (h : ¬ q < 16) : ks key q = ks key (q - 16) ^^^ (if q / 4 % 4 = 0 then sb (ks key (4 * (q / 4 - 1) + (q % 4 + 1) % 4)) ^^^ (if q % 4 = 0 then pw (q / 4 / 4 - 1) else 0) else ks key (q - 4)) := by
  rw [ks, if_neg h]
theorem ks_lt (key : Nat → Nat) (hk : ∀ i, key i < 256) (q : Nat) : ks key q < 256 := by
  induction q using Nat.strongRecOn with
  | ind q ih =>
    by_cases h : q < 16
    · rw [ks_lo key q h]; exact hk q
    · rw [ks_hi key q h]
      refine byte_xor (ih _ (by omega)) ?_
      split
      · refine byte_xor (sb_lt _) ?_
        split
        · exact pw_lt _
        · omega
      · exact ih _ (by omega)
def ksL : List Nat := [0, 1, 2, 3, 4, 5, 6, 7, 8, 9, 10, 11, 12, 13, 14, 15, 214, 170, 116, 253, 210, 175, 114, 250, 218, 166, 120, 241, 214, 171, 118, 254, 182, 146, 207, 11, 100, 61, 189, 241, 190, 155, 197, 0, 104, 48, 179, 254, 182, 255, 116, 78, 210, 194, 201, 191, 108, 89, 12, 191, 4, 105, 191, 65, 71, 247, 247, 188, 149, 53, 62, 3, 249, 108, 50, 188, 253, 5, 141, 253, 60, 170, 163, 232, 169, 159, 157, 235, 80, 243, 175, 87, 173, 246, 34, 170, 94, 57, 15, 125, 247, 166, 146, 150, 167, 85, 61, 193, 10, 163, 31, 107, 20, 249, 112, 26, 227, 95, 226, 140, 68, 10, 223, 77, 78, 169, 192, 38, 71, 67, 135, 53, 164, 28, 101, 185, 224, 22, 186, 244, 174, 191, 122, 210, 84, 153, 50, 209, 240, 133, 87, 104, 16, 147, 237, 156, 190, 44, 151, 78, 19, 17, 29, 127, 227, 148, 74, 23, 243, 7, 167, 139, 77, 43, 48, 197]
set_option maxRecDepth 100000 in
theorem ksL_step : ∀ q, q < 176 → ksL.getD q 0 < 256 ∧ ksL.getD q 0 = if q < 16 then q else ksL.getD (q - 16) 0 ^^^ (if q / 4 % 4 = 0 then boxL.getD (ksL.getD (4 * (q / 4 - 1) + (q % 4 + 1) % 4) 0) 0 ^^^ (if q % 4 = 0 then pw (q / 4 / 4 - 1) else 0) else ksL.getD (q - 4) 0) := by decide +kernel
theorem ks_fixed {key : Nat → Nat} (hk : ∀ i, i < 16 → key i = i) (q : Nat) (hq : q < 176) : ks key q = ksL.getD q 0 := by
  induction q using Nat.strongRecOn with
  | ind q ih =>
    rw [(ksL_step q hq).2]
    by_cases h : q < 16
    · rw [ks_lo key q h, if_pos h, hk q h]
    · rw [ks_hi key q h, if_neg h, ih (q - 16) (by omega) (by omega), ih (q - 4) (by omega) (by omega), ih (4 * (q / 4 - 1) + (q % 4 + 1) % 4) (by omega) (by omega)]
      rw [sb_box (ksL_step _ (by omega)).1]
def enL : List (List Nat) := [[0, 16, 32, 48, 64, 80, 96, 112, 128, 144, 160, 176, 192, 208, 224, 240], [137, 216, 16, 232, 133, 90, 206, 104, 45, 24, 67, 216, 203, 18, 143, 228], [73, 21, 89, 143, 85, 229, 215, 160, 218, 202, 148, 250, 31, 10, 99, 247], [250, 99, 106, 40, 37, 179, 57, 201, 64, 102, 138, 49, 87, 36, 77, 23], [36, 114, 64, 35, 105, 102, 179, 250, 110, 210, 117, 50, 136, 66, 91, 108], [200, 22, 119, 188, 155, 122, 201, 59, 37, 2, 121, 146, 176, 38, 25, 150], [198, 47, 225, 9, 247, 94, 237, 195, 204, 121, 57, 93, 132, 249, 207, 93], [209, 135, 108, 15, 121, 196, 48, 10, 180, 85, 148, 173, 214, 111, 244, 31], [253, 227, 186, 210, 5, 229, 208, 215, 53, 71, 150, 78, 241, 254, 55, 241], [189, 110, 124, 61, 242, 181, 119, 158, 11, 97, 33, 110, 139, 16, 182, 137], [105, 196, 224, 216, 106, 123, 4, 48, 216, 205, 183, 128, 112, 180, 197, 90]]
/-- A round on numbers that are written out. -/
def roundL (k : Nat) (l : List Nat) (i : Nat) : Nat :=
  let s := fun i => boxL.getD (l.getD (from_ i) 0) 0
  (if k < 10 then mixB (s (col i 0)) (s (col i 1)) (s (col i 2)) (s (col i 3)) else s i) ^^^ ksL.getD (16 * k + i) 0
set_option maxRecDepth 100000 in
theorem enL_step : ∀ n, n < 10 → ∀ i, i < 16 → roundL (n + 1) (enL.getD n []) i = (enL.getD (n + 1) []).getD i 0 := by decide +kernel
set_option maxRecDepth 100000 in
theorem enL_lt : ∀ n, n < 11 → ∀ i, i < 16 → (enL.getD n []).getD i 0 < 256 := by decide +kernel
set_option maxRecDepth 100000 in
theorem enL_zero : ∀ i, i < 16 → (17 * i) ^^^ ksL.getD i 0 = (enL.getD 0 []).getD i 0 := by decide +kernel
theorem enc_fixed {key block : Nat → Nat} (hk : ∀ i, i < 16 → key i = i) (hb : ∀ i, i < 16 → block i = 17 * i) : ∀ n, n ≤ 10 → ∀ i, i < 16 → encGo (ks key) block n i = (enL.getD n []).getD i 0
  | 0, _, i, hi => by
    show block i ^^^ ks key i = _
    rw [hb i hi, ks_fixed hk i (by omega), enL_zero i hi]
  | n + 1, hn, i, hi => by
    rw [← enL_step n (by omega) i hi]
    have ih := enc_fixed hk hb n (by omega)
    have hs : ∀ j, subs (encGo (ks key) block n) j = boxL.getD ((enL.getD n []).getD (from_ j) 0) 0 := fun j => by
      unfold subs
      rw [ih _ (from_lt j), sb_box (enL_lt n (by omega) _ (from_lt j))]
    show roundF (ks key) (n + 1) (encGo (ks key) block n) i = _
    unfold roundF roundL mixF
    rw [ks_fixed hk _ (by omega)]
    simp only [hs]

/-- Twice the sum of two bytes and the second: a column's mixing as the program has it. -/
theorem tm_two : ∀ t, t < 256 → tm t 2 = xt t := by decide +kernel
theorem tm_three : ∀ t, t < 256 → tm t 3 = xt t ^^^ t := by decide +kernel
theorem mix_prog {p q r s : Nat} (hp : p < 256) (hq : q < 256) : xt (p ^^^ q) ^^^ q ^^^ r ^^^ s = mixB p q r s := by
  unfold mixB
  rw [xt_xor hp hq, tm_two p hp, tm_three q hq, Nat.xor_assoc (xt p) (xt q) q]

/-- The word of n bytes from o on, the lowest first. -/
def psum (b : Nat → Nat) (o : Nat) : Nat → Nat
  | 0 => 0
  | n + 1 => psum b o n + b (o + n) * 256 ^ n
theorem psum_lt (b : Nat → Nat) (o : Nat) (hb : ∀ i, b i < 256) : ∀ n, psum b o n < 256 ^ n
  | 0 => by simp [psum]
  | n + 1 => by
    have h1 := psum_lt b o hb n
    have h2 := hb (o + n)
    have h3 : (b (o + n) + 1) * 256 ^ n ≤ 256 * 256 ^ n := Nat.mul_le_mul_right _ h2
    rw [Nat.add_mul] at h3
    have h4 : 256 ^ (n + 1) = 256 * 256 ^ n := by rw [Nat.pow_succ, Nat.mul_comm]
    show psum b o n + b (o + n) * 256 ^ n < _
    rw [h4]; omega
/-- The bytes of a word. -/
def byt (x j : Nat) : Nat := x / 256 ^ j % 256
theorem byt_lt (x j : Nat) : byt x j < 256 := Nat.mod_lt _ (by omega)
/-- The bytes of a label. -/
def labB (x y : Nat) (i : Nat) : Nat := if i < 8 then byt x i else byt y (i - 8)
theorem labB_lt (x y i : Nat) : labB x y i < 256 := by unfold labB; split <;> exact byt_lt _ _
theorem psum8 (b : Nat → Nat) (o : Nat) : psum b o 8 = b o + 256 * (b (o + 1) + 256 * (b (o + 2) + 256 * (b (o + 3) + 256 * (b (o + 4) + 256 * (b (o + 5) + 256 * (b (o + 6) + 256 * b (o + 7))))))) := by
  simp only [psum, Nat.add_zero]
  omega
theorem encGo_congr {k a b : Nat → Nat} (h : ∀ i, i < 16 → a i = b i) : ∀ n i, i < 16 → encGo k a n i = encGo k b n i
  | 0, i, hi => by show a i ^^^ k i = b i ^^^ k i; rw [h i hi]
  | n + 1, i, hi => by
    have ih := encGo_congr (k := k) h n
    have hs : ∀ j, subs (encGo k a n) j = subs (encGo k b n) j := fun j => by unfold subs; rw [ih _ (from_lt j)]
    show roundF k (n + 1) (encGo k a n) i = roundF k (n + 1) (encGo k b n) i
    unfold roundF mixF
    simp only [hs]
theorem enc_congr {k a b : Nat → Nat} (h : ∀ i, i < 16 → a i = b i) : ∀ i, i < 16 → enc k a i = enc k b i := encGo_congr h 10
end Go.Proofs.YtamejhhjfnfalaaDoor.Aes

/- Two arrays of bytes compared. -/
namespace Go.Proofs.YtamejhhjfnfalaaDoor.Ae
open Go.RowKit

/-- Are the first n bytes the same? -/
def eqB (n : Nat) (f g : Nat → Nat) : Bool := decide (∀ i, i < n → f i = g i)
theorem Tryd.infoU8 : (Tryd.prog.info? 5).map (fun i => (i.zero, i.size, i.bytes)) = some (some (.int .u8 0), 1, 1) := by kernel_rfl
theorem forIn_all {P : Program} {w : World} (body : Nat → (Option Bool × Unit) → Sem (ForInStep (Option Bool × Unit))) (p : Nat → Bool) (N : Nat) (h : ∀ i s, i < N → (body i s).run P w = .ok (if p i = true then .yield (none, ()) else .done (some false, ())) w) :
    ∀ n s, s + n ≤ N → (forIn (List.range' s n 1) (none, ()) body).run P w = .ok (if (∀ i, i < n → p (s + i) = true) then (none, ()) else (some false, ())) w
  | 0, s, _ => by simp
  | n + 1, s, hn => by
    rw [List.range'_succ, List.forIn_cons, Sem.run_bind, h s _ (by omega)]
    cases hp : p s with
    | true =>
      have ih := forIn_all body p N h n (s + 1) (by omega)
      simp only [if_true, Result.andThen_ok]
      rw [ih]
      congr 2
      apply propext
      constructor
      · intro hh i hi
        rcases i with _ | i
        · exact hp
        · have := hh i (by omega); rwa [show s + 1 + i = s + (i + 1) by omega] at this
      · intro hh i hi
        have := hh (i + 1) (by omega); rwa [show s + (i + 1) = s + 1 + i by omega] at this
    | false =>
      have hno : ¬ ∀ i, i < n + 1 → p (s + i) = true := fun hh => by have := hh 0 (by omega); rw [Nat.add_zero, hp] at this; cases this
      rw [if_neg hno]
      simp
theorem run_eqlB (w : World) (f g : Nat → Nat) : (Op.equalIn 10000 137 (.agg (bys 16 f)) (.agg (bys 16 g))).run Tryd.prog w = .ok (eqB 16 f g) w := by
  obtain ⟨i0, hi, _, hz1, _⟩ := info_parts Tryd.infoU8
  have hs : (sizeOf 5).run Tryd.prog w = .ok 1 w := by simp [sizeOf, typeInfo, hi, hz1]
  show (Op.equalIn (9999 + 1) 137 _ _).run Tryd.prog w = _
  unfold Op.equalIn
  simp only [Sem.run_bind, run_underlying Tryd.underlying137, Result.andThen_ok, hs]
  have h1 : ∀ (x : Nat → Nat) (i : Nat), i < 16 → (part 5 (bys 16 x) i).run Tryd.prog w = .ok (.int .u8 (x i : Int)) w := by
    intro x i hi; simp [go_sem, part, bys_get 16 x i hi]
  have h3 : ∀ (x y : Int), (Op.equalIn 9999 5 (.int .u8 x) (.int .u8 y)).run Tryd.prog w = .ok (x == y) w := fun x y => run_equalIn_int w 9998 5 .u8 .u8 x y Tryd.underlying5
  simp only [Std.Legacy.Range.forIn_eq_forIn_range', Std.Legacy.Range.size]
  simp only [show (16 - 0 + 1 - 1) / 1 = 16 from rfl]
  rw [forIn_all _ (fun i => decide (f i = g i)) 16 ?_ 16 0 (by omega)]
  · unfold eqB
    by_cases hh : ∀ i, i < 16 → f i = g i
    · rw [if_pos (by intro i hi; simpa using hh i hi)]; simp; exact hh
    · rw [if_neg (by intro h'; exact hh fun i hi => by simpa using h' i hi)]; simp [hh]
  · intro i s hi
    simp only [Nat.mul_one, Sem.run_bind, h1 f i hi, h1 g i hi, h3, Result.andThen_ok]
    by_cases e : f i = g i
    · simp [e]
    · have e' : ¬ (f i : Int) = (g i : Int) := by omega
      simp [e, e']
theorem eqB_self (n : Nat) (f : Nat → Nat) : eqB n f f = true := by simp [eqB]
theorem eqB_true {n : Nat} {f g : Nat → Nat} (h : ∀ i, i < n → f i = g i) : eqB n f g = true := by simpa [eqB] using h
theorem eqB_congr {n : Nat} {f g f' g' : Nat → Nat} (h : (∀ i, i < n → f i = g i) ↔ ∀ i, i < n → f' i = g' i) : eqB n f g = eqB n f' g' := by
  unfold eqB; simp only [h]
end Go.Proofs.YtamejhhjfnfalaaDoor.Ae

/- Contracts of aes' small functions on bytes: twice, addColumns. -/
namespace Go.Proofs.YtamejhhjfnfalaaDoor.Ae
open Go.RowKit

theorem xt_bits (b : Nat) (hb : b < 256) : bits .xor .u8 ((b : Int) * 2 % 256) ((b : Int) / 128 * 27) = (Aes.xt b : Int) := by
  have h : ∀ b : Fin 256, bits .xor .u8 ((b.val : Int) * 2 % 256) ((b.val : Int) / 128 * 27) = (Aes.xt b.val : Int) := by decide +kernel
  exact h ⟨b, hb⟩
set_option maxHeartbeats 400000 in
theorem twice_any (b : Nat) (w : World) (hb : b < 256) :
    Calls Tryd.prog 102 #[.int .u8 (b : Int)] w fun e w' => e = .returned (.int .u8 (Aes.xt b : Int)) ∧ w = w' := by
  go_enter Tryd.func102, Tryd.ntmps102
  go_wp2
  go_ret
  exact ⟨ret_int (xt_bits b hb), rfl⟩
/-- Three blocks of the call's own behind w. -/
def In3 (w : World) (N t : Nat) (f0 f1 f2 : Nat → Nat) (wr : World) : Prop :=
  Below w.heap.size w wr ∧ OwnB wr w.heap.size N t f0 ∧ OwnB wr (w.heap.size + 1) N t f1 ∧ OwnB wr (w.heap.size + 2) N t f2
theorem In3.start (w : World) (N t : Nat) (f0 f1 f2 : Nat → Nat) : In3 w N t f0 f1 f2 (((w.alloc (.cells (bys N f0) t)).alloc (.cells (bys N f1) t)).alloc (.cells (bys N f2) t)) := by
  refine ⟨(((Below.refl _ _).alloc (Nat.le_refl _) _).alloc (by simp) _).alloc (by simp; omega) _, ((OwnB.new w N t f0).alloc _).alloc _, ?_, ?_⟩
  · have := OwnB.new (w.alloc (.cells (bys N f0) t)) N t f1
    simp only [World.size_alloc] at this
    exact this.alloc _
  · have := OwnB.new ((w.alloc (.cells (bys N f0) t)).alloc (.cells (bys N f1) t)) N t f2
    simp only [World.size_alloc] at this
    exact this
theorem In3.drew {w wr : World} {N t : Nat} {f0 f1 f2 : Nat → Nat} (h : In3 w N t f0 f1 f2 wr) : In3 w N t f0 f1 f2 wr.drew := ⟨h.1.drew, h.2.1, h.2.2.1, h.2.2.2⟩
theorem xor_dflt (i : Nat) (f g : Nat → Nat) (q : Nat) : (if q = i then f i ^^^ g i else if q < i then f q ^^^ g q else f q) = if q < i + 1 then f q ^^^ g q else f q := by
  by_cases h : q = i
  · subst h; rw [if_pos rfl, if_pos (by omega)]
  · rw [if_neg h]
    by_cases h' : q < i
    · rw [if_pos h', if_pos (by omega)]
    · rw [if_neg h', if_neg (by omega)]
set_option maxHeartbeats 1000000 in
set_option maxRecDepth 100000 in
theorem addColumns_any (f g : Nat → Nat) (w : World) (hf : ∀ i, f i < 256) (hg : ∀ i, g i < 256) :
    Calls Tryd.prog 88 #[.agg (bys 4 f), .agg (bys 4 g)] w fun e w' => e = .returned (.agg (bys 4 fun i => f i ^^^ g i)) ∧ Below w.heap.size w w' := by
  have HF := Lib.hid (And.intro hf hg)
  clear hf hg
  go_enter Tryd.func88, Tryd.ntmps88
  go_wp2
  go_loopw [6] (fun t wr => ∃ i : Nat, i ≤ 4 ∧ t = .int .i64 i ∧ In3 w 4 173 (fun q => if q < i then f q ^^^ g q else f q) g (fun _ => 0) wr) (fun t _ => 4 - (intOf t).toNat)
  case atStart => exact ⟨0, by omega, rfl, In3.start w 4 173 f g (fun _ => 0)⟩
  case round =>
    obtain ⟨i, hi, rfl, H⟩ := hrel
    by_cases hlt : i < 4
    · have c1 : wr.cell? ⟨w.heap.size, i, none⟩ = some (.int .u8 (f i : Int)) := by rw [H.2.1.cell i hlt, if_neg (by omega)]
      have c2 := H.2.2.1.cell i hlt
      have c3 := H.2.1.frozen i
      have HH := Lib.hid H
      have hb := Lib.hid (bits8_xor (f i) (g i) (HF.out.1 i) (HF.out.2 i))
      clear H
      go_wp2
      go_region
      go_wp2
      go_roundw
      case rel =>
        obtain ⟨h0, h1, h2, h3⟩ := HH.out
        refine ⟨i + 1, by omega, by go_num, (h0.setCell (Nat.le_refl _) _).drew, ?_, h2.far (by simp) _, h3.far (by simp) _⟩
        rw [hb.out]
        exact (h1.set i _).congr fun q _ => xor_dflt i f g q
      case measure => simp [intOf]; omega
    · obtain rfl : i = 4 := by omega
      obtain ⟨h0, h1, h2, h3⟩ := H
      have HH := Lib.hid h0
      clear h0
      go_wp2_with (first | (refine ld_row 173 4 _ Tryd.underlying173 Tryd.info173 rfl _ rfl _ rfl h1 ?_) | (refine st_row 173 4 Tryd.info173 rfl _ _ rfl _ rfl rfl h3 ?_))
      exact bodyPost_ret (v := .agg (bys 4 fun i => f i ^^^ g i)) (res_row 173 4 _ Tryd.underlying173 Tryd.info173 rfl _ _ _ rfl (h3.setRow _) fun q hq => by simp [hq]) rfl ⟨rfl, Below.row HH.out (by omega) _⟩

/-- A byte turned to the left by n places. -/
def rotN (y n : Nat) : Nat := y * 2 ^ n % 256 + y / 2 ^ (8 - n)
theorem rot_bits (y : Nat) (hy : y < 256) : bits .or .u8 ((y : Int) * 2 % 256) ((y : Int) / 128) = (rotN y 1 : Int) ∧ bits .or .u8 ((y : Int) * 4 % 256) ((y : Int) / 64) = (rotN y 2 : Int) ∧ bits .or .u8 ((y : Int) * 8 % 256) ((y : Int) / 32) = (rotN y 3 : Int) ∧ bits .or .u8 ((y : Int) * 16 % 256) ((y : Int) / 16) = (rotN y 4 : Int) := by
  have h : ∀ y : Fin 256, bits .or .u8 ((y.val : Int) * 2 % 256) ((y.val : Int) / 128) = (rotN y.val 1 : Int) ∧ bits .or .u8 ((y.val : Int) * 4 % 256) ((y.val : Int) / 64) = (rotN y.val 2 : Int) ∧ bits .or .u8 ((y.val : Int) * 8 % 256) ((y.val : Int) / 32) = (rotN y.val 3 : Int) ∧ bits .or .u8 ((y.val : Int) * 16 % 256) ((y.val : Int) / 16) = (rotN y.val 4 : Int) := by decide +kernel
  exact h ⟨y, hy⟩
set_option maxHeartbeats 400000 in
theorem rot_any (y n : Nat) (w : World) (hy : y < 256) (hn : 1 ≤ n ∧ n ≤ 4) :
    Calls Tryd.prog 107 #[.int .u8 (y : Int), .int .i64 (n : Int)] w fun e w' => e = .returned (.int .u8 (rotN y n : Int)) ∧ w = w' := by
  have HR := Lib.hid (rot_bits y hy)
  rcases (show n = 1 ∨ n = 2 ∨ n = 3 ∨ n = 4 by omega) with rfl | rfl | rfl | rfl
  · have b1 : bits .and .u64 1 7 = 1 := by decide +kernel
    show Calls Tryd.prog 107 #[.int .u8 (y : Int), .int .i64 1] w fun e w' => e = .returned (.int .u8 (rotN y 1 : Int)) ∧ w = w'
    clear hn
    go_enter Tryd.func107, Tryd.ntmps107
    go_wp2
    go_ret
    exact ⟨ret_int HR.out.1, rfl⟩
  · have b1 : bits .and .u64 2 7 = 2 := by decide +kernel
    show Calls Tryd.prog 107 #[.int .u8 (y : Int), .int .i64 2] w fun e w' => e = .returned (.int .u8 (rotN y 2 : Int)) ∧ w = w'
    clear hn
    go_enter Tryd.func107, Tryd.ntmps107
    go_wp2
    go_ret
    exact ⟨ret_int HR.out.2.1, rfl⟩
  · have b1 : bits .and .u64 3 7 = 3 := by decide +kernel
    show Calls Tryd.prog 107 #[.int .u8 (y : Int), .int .i64 3] w fun e w' => e = .returned (.int .u8 (rotN y 3 : Int)) ∧ w = w'
    clear hn
    go_enter Tryd.func107, Tryd.ntmps107
    go_wp2
    go_ret
    exact ⟨ret_int HR.out.2.2.1, rfl⟩
  · have b1 : bits .and .u64 4 7 = 4 := by decide +kernel
    show Calls Tryd.prog 107 #[.int .u8 (y : Int), .int .i64 4] w fun e w' => e = .returned (.int .u8 (rotN y 4 : Int)) ∧ w = w'
    clear hn
    go_enter Tryd.func107, Tryd.ntmps107
    go_wp2
    go_ret
    exact ⟨ret_int HR.out.2.2.2, rfl⟩
/-- What sOfInverse has behind n rounds. -/
def sofN (y : Nat) : Nat → Nat
  | 0 => y ^^^ 99
  | n + 1 => sofN y n ^^^ rotN y (n + 1)
theorem rotN_lt {y n : Nat} (hy : y < 256) (hn : n ≤ 4) : rotN y n < 256 := by
  have h : ∀ y : Fin 256, ∀ n : Fin 5, rotN y.val n.val < 256 := by decide +kernel
  exact h ⟨y, hy⟩ ⟨n, by omega⟩
theorem sofN_lt {y : Nat} (hy : y < 256) : ∀ n, n ≤ 4 → sofN y n < 256
  | 0, _ => Aes.byte_xor hy (by omega)
  | n + 1, h => Aes.byte_xor (sofN_lt hy n (by omega)) (rotN_lt hy (by omega))
theorem sofN_sI {y : Nat} (hy : y < 256) : sofN y 4 = Aes.sI y := by
  have h : ∀ y : Fin 256, sofN y.val 4 = Aes.sI y.val := by decide +kernel
  exact h ⟨y, hy⟩
set_option maxHeartbeats 400000 in
theorem power_any (n : Nat) (w : World) (hn : n < 1000) :
    Calls Tryd.prog 104 #[.int .i64 (n : Int)] w fun e w' => e = .returned (.int .u8 (Aes.pw n : Int)) ∧ w = w' := by
  go_enter Tryd.func104, Tryd.ntmps104
  go_wp2
  go_loop [3, 5] (fun b i => ∃ k : Nat, k ≤ n ∧ i = .int .i64 k ∧ b = .int .u8 (Aes.pw k : Int)) (fun _ i => n - (intOf i).toNat)
  case atStart => exact ⟨0, by omega, rfl, rfl⟩
  case round =>
    obtain ⟨k, hk, rfl, rfl⟩ := hrel
    have hp := Aes.pw_lt k
    by_cases hlt : k < n
    · go_wp2_with (go_at_call 102; refine (twice_any _ _ hp).mono ?_; rintro e w' ⟨rfl, rfl⟩)
      go_round
      case rel => exact ⟨k + 1, by omega, by go_num, rfl⟩
      case measure => simp [intOf]; omega
    · obtain rfl : k = n := by omega
      go_wp2
      go_ret
      exact ⟨rfl, rfl⟩
set_option maxHeartbeats 400000 in
theorem sOfInverse_any (y : Nat) (w : World) (hy : y < 256) :
    Calls Tryd.prog 103 #[.int .u8 (y : Int)] w fun e w' => e = .returned (.int .u8 (Aes.sI y : Int)) ∧ w = w' := by
  have H0 := Lib.hid (bits8_xor y 99 hy (by omega))
  have HE := Lib.hid (sofN_sI hy)
  go_enter Tryd.func103, Tryd.ntmps103
  go_wp2
  go_loop [3, 4] (fun s i => ∃ k : Nat, k ≤ 4 ∧ i = .int .i64 ((k + 1 : Nat) : Int) ∧ s = .int .u8 (sofN y k : Int)) (fun _ i => 5 - (intOf i).toNat)
  case atStart => exact ⟨0, by omega, rfl, by rw [show sofN y 0 = y ^^^ 99 from rfl, ← H0.out]; rfl⟩
  case round =>
    obtain ⟨k, hk, rfl, rfl⟩ := hrel
    by_cases hlt : k < 4
    · have hb := Lib.hid (bits8_xor (sofN y k) (rotN y (k + 1)) (sofN_lt hy k hk) (rotN_lt hy (by omega)))
      go_wp2_with (go_at_call 107; refine (rot_any _ (k + 1) _ hy (by omega)).mono ?_; rintro e w' ⟨rfl, rfl⟩)
      go_round
      case rel => exact ⟨k + 1, by omega, by go_num, by rw [hb.out]; rfl⟩
      case measure => simp [intOf]; omega
    · obtain rfl : k = 4 := by omega
      go_wp2
      go_ret
      exact ⟨ret_int (by rw [HE.out]), rfl⟩
end Go.Proofs.YtamejhhjfnfalaaDoor.Ae

/- Contracts of aes' makeS. -/
namespace Go.Proofs.YtamejhhjfnfalaaDoor.Ae
open Go.RowKit

theorem zero256 : ∀ w, (zeroValue 171).run Tryd.prog w = .ok (.agg (bys 256 fun _ => 0)) w :=
  (zero_of_info (n := 256) (by kernel_rfl)).1
def MS1 (w : World) (k : Nat) (wr : World) : Prop := Below w.heap.size w wr ∧ OwnB wr w.heap.size 256 171 (fun _ => 0) ∧ OwnB wr (w.heap.size + 1) 256 171 (fun q => if q < k then Aes.p3 q else 0)
def MS2 (w : World) (g k : Nat) (wr : World) : Prop := Below w.heap.size w wr ∧ OwnB wr w.heap.size 256 171 (fun _ => 0) ∧ OwnB wr (w.heap.size + 1) 256 171 Aes.p3 ∧ OwnB wr g 256 171 (Aes.sF k)
theorem p3_dflt (k q : Nat) : (if q = k then Aes.p3 k else if q < k then Aes.p3 q else 0) = if q < k + 1 then Aes.p3 q else 0 := by
  by_cases h : q = k
  · subst h; rw [if_pos rfl, if_pos (by omega)]
  · rw [if_neg h]
    by_cases h' : q < k
    · rw [if_pos h', if_pos (by omega)]
    · rw [if_neg h', if_neg (by omega)]
set_option maxHeartbeats 1000000 in
set_option maxRecDepth 100000 in
theorem makeS_any (w : World) :
    Calls Tryd.prog 87 #[] w fun e w' => e = .returned (.agg (bys 256 Aes.sb)) ∧ Below w.heap.size w w' := by
  have hz := zero256
  go_enter Tryd.func87, Tryd.ntmps87
  go_wp2
  go_loopw [2, 6] (fun b t wr => ∃ k : Nat, k ≤ 256 ∧ t = .int .i64 k ∧ b = .int .u8 (Aes.p3 k : Int) ∧ MS1 w k wr) (fun _ t _ => 256 - (intOf t).toNat)
  case atStart =>
    refine ⟨0, by omega, rfl, rfl, ((Below.refl _ _).alloc (Nat.le_refl _) _).alloc (by simp) _, (OwnB.new w 256 171 fun _ => 0).alloc _, ?_⟩
    have := OwnB.new (w.alloc (.cells (bys 256 fun _ => 0) 171)) 256 171 fun _ => 0
    simp only [World.size_alloc] at this
    exact this
  case round =>
    obtain ⟨k, hk, rfl, rfl, H⟩ := hrel
    by_cases hlt : k < 256
    · have c1 := H.2.2.cell k hlt
      have c2 := H.2.2.frozen k
      have HH := Lib.hid H
      have hp := Aes.p3_lt hlt
      have hx := Lib.hid (bits8_xor (Aes.p3 k) (Aes.xt (Aes.p3 k)) hp (Aes.xt_lt hp))
      clear H
      go_wp2_with (go_at_call 102; refine (twice_any _ _ hp).mono ?_; rintro e w' ⟨rfl, rfl⟩)
      go_roundw
      case rel =>
        obtain ⟨h0, h1, h2⟩ := HH.out
        exact ⟨k + 1, by omega, by go_num, by rw [hx.out]; rfl, h0.setCell (by simp) _, h1.far (by simp) _, (h2.set k _).congr fun q _ => p3_dflt k q⟩
      case measure => simp [intOf]; omega
    · obtain rfl : k = 256 := by omega
      have H2 : MS2 w wr.heap.size 0 ((wr.alloc (.cells (bys 256 fun _ => 0) 171)).setCell ⟨wr.heap.size, 0, none⟩ (.int .u8 (Aes.sI 0 : Int))) :=
        ⟨(H.1.alloc (by have := H.2.1.lt; omega) _).setCell (by have := H.2.1.lt; simp; omega) _, (H.2.1.alloc _).far (by have := H.2.1.lt; simp; omega) _,
          ((H.2.2.alloc _).far (by have := H.2.2.lt; simp; omega) _).congr (fun q hq => by rw [if_pos hq]), ((OwnB.new wr 256 171 fun _ => 0).set 0 (Aes.sI 0)).congr fun q _ => rfl⟩
      have hlt := H.2.2.lt
      have HH := Lib.hid H2
      rw [World.setCell_alloc_at _ _ _ _ _ rfl] at HH
      have hg0 : (bys 256 fun _ => 0)[0]? = some (.int .u8 0) := bys_get 256 (fun _ => 0) 0 (by omega)
      clear H H2
      go_wp2_with (go_at_call 103; refine (sOfInverse_any 0 _ (by omega)).mono ?_; rintro e w' ⟨rfl, rfl⟩)
      clear hg0
      generalize wr.heap.size = g at hlt HH ⊢
      go_loopw [19] (fun t w2 => ∃ k : Nat, k ≤ 255 ∧ t = .int .i64 k ∧ MS2 w g k w2) (fun t _ => 255 - (intOf t).toNat)
      case atStart => exact ⟨0, by omega, rfl, HH.out⟩
      case round =>
        clear HH
        obtain ⟨k, hk, rfl, H⟩ := hrel
        by_cases hlk : k < 255
        · have c1 := H.2.2.1.cell k (by omega)
          have c2 := H.2.2.1.cell (255 - k) (by omega)
          have hp := Aes.p3_lt (n := k) (by omega)
          have c3 := H.2.2.2.cell (Aes.p3 k) hp
          have c4 := H.2.2.2.frozen (Aes.p3 k)
          have hp2 := Aes.p3_lt (n := 255 - k) (by omega)
          have e1 : ((255 : Int) - (k : Int)).toNat = 255 - k := by omega
          have e2 : (k : Int) < 256 := by omega
          have e3 : (255 : Int) - (k : Int) < 256 := by omega
          have e4 : (k : Int) ≤ 255 := by omega
          have e5 : IntKind.i64.wrap ((255 : Int) - (k : Int)) = 255 - (k : Int) := i64_nat _ (by omega) (by omega)
          have e6 : (Aes.p3 k : Int) < 256 := by omega
          have hc := fun w => (sOfInverse_any (Aes.p3 (255 - k)) w hp2).mono (fun e w' h => (⟨h.1, h.2.symm⟩ : e = .returned (.int .u8 (Aes.sI (Aes.p3 (255 - k)) : Int)) ∧ w' = w))
          have HH := Lib.hid H
          have HC := Lib.hid hc
          clear H hc
          go_wp2
          go_still_tail 9, (by kernel_rfl)
          still_call (HC.out _)
          still_step
          refine wpStill_nil ?_
          change wpList _ _ _ _ _ wr.drew
          have HD : MS2 w g k wr.drew := ⟨HH.out.1.drew, HH.out.2.1, HH.out.2.2.1, HH.out.2.2.2⟩
          have HE := Lib.hid HD
          have c3' : wr.drew.cell? ⟨g, Aes.p3 k, none⟩ = some (.int .u8 (Aes.sF k (Aes.p3 k) : Int)) := c3
          have c4' : wr.drew.frozen? ⟨g, Aes.p3 k, none⟩ = false := c4
          clear HD HH c1 c2 c3 c4
          generalize wr.drew = w2 at HE c3' c4' ⊢
          go_wp2
          go_roundw
          case rel =>
            obtain ⟨h0, h1, h2, h3⟩ := HE.out
            exact ⟨k + 1, by omega, by go_num, h0.setCell (by simp; omega) _, h1.far (by simp; omega) _, h2.far (by simp; omega) _, (h3.set (Aes.p3 k) _).congr fun q _ => rfl⟩
          case measure => simp [intOf]; omega
        · obtain rfl : k = 255 := by omega
          obtain ⟨h0, h1, h2, h3⟩ := H
          have HH := Lib.hid h0
          clear h0 hz
          go_wp2_with (first | (refine ld_row 171 256 _ Tryd.underlying171 Tryd.info171 rfl _ rfl _ rfl h3 ?_) | (refine st_row 171 256 Tryd.info171 rfl _ _ rfl _ rfl rfl h1 ?_))
          exact bodyPost_ret (v := .agg (bys 256 Aes.sb)) (res_row 171 256 _ Tryd.underlying171 Tryd.info171 rfl _ _ _ rfl (h1.setRow _) fun q hq => Aes.sF_all q hq) rfl ⟨rfl, Below.row HH.out (by omega) _⟩
end Go.Proofs.YtamejhhjfnfalaaDoor.Ae

/- Contracts of aes' changed. -/
namespace Go.Proofs.YtamejhhjfnfalaaDoor.Ae
open Go.RowKit

/-- The cells of a cipher: S, then the round keys. -/
def CF (k : Nat → Nat) (q : Nat) : Nat := if q < 256 then Aes.sb q else k (q - 256)
theorem CF_lo (k : Nat → Nat) (q : Nat) (h : q < 256) : CF k q = Aes.sb q := if_pos h
theorem CF_hi (k : Nat → Nat) (q : Nat) : CF k (256 + q) = k q := by
  unfold CF; rw [if_neg (by omega), Nat.add_sub_cancel_left]
/-- Block g is a cipher with these round keys. -/
def Ciph (w : World) (g : Nat) (k : Nat → Nat) : Prop := OwnB w g 432 176 (CF k)
theorem Ciph.s {w : World} {g : Nat} {k : Nat → Nat} (h : Ciph w g k) (b : Nat) (hb : b < 256) : w.cell? ⟨g, b, none⟩ = some (.int .u8 (Aes.sb b : Int)) := by
  rw [OwnB.cell h b (by omega), CF_lo k b hb]
theorem Ciph.key {w : World} {g : Nat} {k : Nat → Nat} (h : Ciph w g k) (q : Nat) (hb : q < 176) : w.cell? ⟨g, 256 + q, none⟩ = some (.int .u8 (k q : Int)) := by
  rw [OwnB.cell h _ (by omega), CF_hi]
set_option maxHeartbeats 1000000 in
set_option maxRecDepth 100000 in
theorem changed_no (p : Option Addr) (f : Nat → Nat) (I : Int) (w : World) (h : (I.tmod 4 != 0) = true) :
    Calls Tryd.prog 89 #[.pointer p, .agg (bys 4 f), .int .i64 I] w fun e w' => e = .returned (.agg (bys 4 f)) ∧ Below w.heap.size w w' := by
  have h1 := (OwnB.new w 4 173 f).alloc (.cells (bys 4 fun _ => 0) 173)
  have h2 := OwnB.new (w.alloc (.cells (bys 4 f) 173)) 4 173 fun _ => 0
  have h3 := Lib.hid (((Below.refl w.heap.size w).alloc (Nat.le_refl _) (.cells (bys 4 f) 173)).alloc (by simp) (.cells (bys 4 fun _ => 0) 173))
  simp only [World.size_alloc] at h2
  go_enter Tryd.func89, Tryd.ntmps89
  go_wp2_with (first | (refine ld_row 173 4 _ Tryd.underlying173 Tryd.info173 rfl _ rfl _ rfl h1 ?_) | (refine st_row 173 4 Tryd.info173 rfl _ _ rfl _ rfl rfl h2 ?_))
  exact bodyPost_ret (v := .agg (bys 4 f)) (res_row 173 4 _ Tryd.underlying173 Tryd.info173 rfl _ _ _ rfl (h2.setRow _) fun q hq => rfl) rfl ⟨rfl, Below.row h3.out (by omega) _⟩

def CH (w : World) (f : Nat → Nat) (r : Nat) (wr : World) : Prop := In3 w 4 173 f (fun _ => 0) (fun q => if q < r then Aes.sb (f ((q + 1) % 4)) else 0) wr
theorem ch_dflt (f : Nat → Nat) (r q : Nat) : (if q = r then Aes.sb (f ((r + 1) % 4)) else if q < r then Aes.sb (f ((q + 1) % 4)) else 0) = if q < r + 1 then Aes.sb (f ((q + 1) % 4)) else 0 := by
  by_cases h : q = r
  · subst h; rw [if_pos rfl, if_pos (by omega)]
  · rw [if_neg h]
    by_cases h' : q < r
    · rw [if_pos h', if_pos (by omega)]
    · rw [if_neg h', if_neg (by omega)]
set_option maxHeartbeats 200000 in
set_option maxRecDepth 100000 in
theorem changed_yes (g : Nat) (k f : Nat → Nat) (I J : Int) (j : Nat) (w : World) (hc : Ciph w g k) (hf : ∀ i, f i < 256) (hI : (I.tmod 4 != 0) = false) (hJ : IntKind.i64.wrap (I.tdiv 4) = J) (hj : IntKind.i64.wrap (J - 1) = (j : Int)) (hj10 : j < 1000) :
    Calls Tryd.prog 89 #[.pointer (some ⟨g, 0, none⟩), .agg (bys 4 f), .int .i64 I] w fun e w' => e = .returned (.agg (bys 4 fun r => Aes.sb (f ((r + 1) % 4)) ^^^ if r = 0 then Aes.pw j else 0)) ∧ Below w.heap.size w w' := by
  have HF := Lib.hid hf
  have HG := Lib.hid hc
  have HJ := Lib.hid (And.intro hJ hj)
  clear hf hc hJ hj
  go_enter Tryd.func89, Tryd.ntmps89
  go_wp2
  go_loopw [13] (fun t wr => ∃ i : Nat, i ≤ 4 ∧ t = .int .i64 i ∧ CH w f i wr) (fun t _ => 4 - (intOf t).toNat)
  case atStart => exact ⟨0, by omega, rfl, In3.start w 4 173 f (fun _ => 0) (fun _ => 0)⟩
  case round =>
    obtain ⟨i, hi, rfl, H⟩ := hrel
    have hgl := HG.out.lt
    by_cases hlt : i < 4
    · obtain ⟨m, hm⟩ : ∃ m, m = (i + 1) % 4 := ⟨_, rfl⟩
      have c1 := H.2.1.cell m (by omega)
      have c2 := H.2.2.2.cell i hlt
      have c3 := H.2.2.2.frozen i
      have c4 := Ciph.s (OwnB.below HG.out H.1 hgl) (f m) (HF.out _)
      have c5 : (f m : Int) < 256 := by have := HF.out m; omega
      have e1 : (i : Int) < 4 := by omega
      have e2 : IntKind.i64.wrap ((i : Int) + 1) = (i : Int) + 1 := i64_nat _ (by omega) (by omega)
      have e3 : ((i : Int) + 1).tmod 4 = (m : Int) := by rw [hm]; rfl
      have e4 : (m : Int) < 4 := by omega
      have HH := Lib.hid H
      have HM := Lib.hid hm
      clear H hm
      go_wp2
      go_still_tail 12, (by kernel_rfl)
      change wpList _ _ _ _ _ wr.drew
      have HE := Lib.hid (show CH w f i wr.drew from In3.drew HH.out)
      have c2' : wr.drew.cell? ⟨w.heap.size + 2, i, none⟩ = some (.int .u8 ((if i < i then Aes.sb (f ((i + 1) % 4)) else 0 : Nat) : Int)) := c2
      have c3' : wr.drew.frozen? ⟨w.heap.size + 2, i, none⟩ = false := c3
      clear HH c1 c2 c3 c4
      generalize wr.drew = w2 at HE c2' c3' ⊢
      go_wp2
      go_roundw
      case rel =>
        obtain ⟨h0, h1, h2, h3⟩ := HE.out
        exact ⟨i + 1, by omega, by go_num, h0.setCell (by simp; omega) _, h1.far (by simp; omega) _, h2.far (by simp) _, (h3.set i _).congr fun q _ => by rw [HM.out]; exact ch_dflt f i q⟩
      case measure => simp [intOf]; omega
    · obtain rfl : i = 4 := by omega
      have c1 : wr.cell? ⟨w.heap.size + 2, 0, none⟩ = some (.int .u8 (Aes.sb (f 1) : Int)) := H.2.2.2.cell 0 (by omega)
      have c2 := H.2.2.2.frozen 0
      have hj1 := HJ.out.1
      have hj2 := HJ.out.2
      have HC := Lib.hid fun w => (power_any j w hj10).mono (fun e w' h => (⟨h.1, h.2.symm⟩ : e = .returned (.int .u8 (Aes.pw j : Int)) ∧ w' = w))
      have HX := Lib.hid (bits8_xor (Aes.sb (f 1)) (Aes.pw j) (Aes.sb_lt _) (Aes.pw_lt _))
      have HH := Lib.hid H
      clear H HJ
      go_wp2
      go_still_tail 8, (by kernel_rfl)
      still_call (HC.out _)
      still_step
      still_step
      refine wpStill_nil ?_
      change wpList _ _ _ _ _ wr.drew
      have HE := Lib.hid (show CH w f 4 wr.drew from In3.drew HH.out)
      have c1' : wr.drew.cell? ⟨w.heap.size + 2, 0, none⟩ = some (.int .u8 (Aes.sb (f 1) : Int)) := c1
      have c2' : wr.drew.frozen? ⟨w.heap.size + 2, 0, none⟩ = false := c2
      clear HH c1 c2 hj1 hj2
      generalize wr.drew = w2 at HE c1' c2' ⊢
      obtain ⟨h0, h1, h2, h3⟩ := HE.out
      have h3' := (h3.set 0 (Aes.sb (f 1) ^^^ Aes.pw j))
      have h2' := h2.far (p := ⟨w.heap.size + 2, 0, none⟩) (by simp) (.int .u8 ((Aes.sb (f 1) ^^^ Aes.pw j : Nat) : Int))
      rw [← HX.out] at h3' h2'
      have HB := Lib.hid (h0.setCell (p := ⟨w.heap.size + 2, 0, none⟩) (by simp) (.int .u8 (bits .xor .u8 (Aes.sb (f 1)) (Aes.pw j))))
      clear HE h0 h1 h2 h3 HX
      go_wp2_with (first | (refine ld_row 173 4 _ Tryd.underlying173 Tryd.info173 rfl _ rfl _ rfl h3' ?_) | (refine st_row 173 4 Tryd.info173 rfl _ _ rfl _ rfl rfl h2' ?_))
      exact bodyPost_ret (v := .agg (bys 4 fun r => Aes.sb (f ((r + 1) % 4)) ^^^ if r = 0 then Aes.pw j else 0)) (res_row 173 4 _ Tryd.underlying173 Tryd.info173 rfl _ _ _ rfl (h2'.setRow _) fun q hq => by
        by_cases e : q = 0
        · subst e; simp
        · simp [e, hq]) rfl ⟨rfl, Below.row HB.out (by omega) _⟩
end Go.Proofs.YtamejhhjfnfalaaDoor.Ae

/- Contracts of aes' addKey, replaced, mixed. -/
namespace Go.Proofs.YtamejhhjfnfalaaDoor.Ae
open Go.RowKit

/-- Two blocks of the call's own behind w. -/
def In2 (w : World) (N t : Nat) (f0 f1 : Nat → Nat) (wr : World) : Prop :=
  Below w.heap.size w wr ∧ OwnB wr w.heap.size N t f0 ∧ OwnB wr (w.heap.size + 1) N t f1
theorem In2.start (w : World) (N t : Nat) (f0 f1 : Nat → Nat) : In2 w N t f0 f1 ((w.alloc (.cells (bys N f0) t)).alloc (.cells (bys N f1) t)) := by
  refine ⟨((Below.refl _ _).alloc (Nat.le_refl _) _).alloc (by simp) _, (OwnB.new w N t f0).alloc _, ?_⟩
  have := OwnB.new (w.alloc (.cells (bys N f0) t)) N t f1
  simp only [World.size_alloc] at this
  exact this
theorem In2.drew {w wr : World} {N t : Nat} {f0 f1 : Nat → Nat} (h : In2 w N t f0 f1 wr) : In2 w N t f0 f1 wr.drew := ⟨h.1.drew, h.2.1, h.2.2⟩
/-- The first i places turned. -/
def upTo (i : Nat) (g f : Nat → Nat) (q : Nat) : Nat := if q < i then g q else f q
theorem upTo_at (i : Nat) (g f : Nat → Nat) : upTo i g f i = f i := if_neg (by omega)
theorem upTo_step (i : Nat) (g f : Nat → Nat) (q : Nat) : (if q = i then g i else upTo i g f q) = upTo (i + 1) g f q := by
  unfold upTo
  by_cases h : q = i
  · subst h; rw [if_pos rfl, if_pos (by omega)]
  · rw [if_neg h]
    by_cases h' : q < i
    · rw [if_pos h', if_pos (by omega)]
    · rw [if_neg h', if_neg (by omega)]
theorem upTo_full (N : Nat) (g f : Nat → Nat) (q : Nat) (h : q < N) : upTo N g f q = g q := if_pos h
set_option maxHeartbeats 1000000 in
set_option maxRecDepth 100000 in
theorem addKey_any (g : Nat) (k f : Nat → Nat) (n : Nat) (w : World) (hc : Ciph w g k) (hf : ∀ i, f i < 256) (hk : ∀ i, k i < 256) (hn : n ≤ 10) :
    Calls Tryd.prog 91 #[.pointer (some ⟨g, 0, none⟩), .agg (bys 16 f), .int .i64 (n : Int)] w fun e w' => e = .returned (.agg (bys 16 fun i => f i ^^^ k (16 * n + i))) ∧ Below w.heap.size w w' := by
  have HF := Lib.hid (And.intro hf hk)
  have HG := Lib.hid hc
  clear hf hc hk
  go_enter Tryd.func91, Tryd.ntmps91
  go_wp2
  go_loopw [8] (fun t wr => ∃ i : Nat, i ≤ 16 ∧ t = .int .i64 i ∧ In2 w 16 137 (upTo i (fun q => f q ^^^ k (16 * n + q)) f) (fun _ => 0) wr) (fun t _ => 16 - (intOf t).toNat)
  case atStart => exact ⟨0, by omega, rfl, In2.start w 16 137 f (fun _ => 0)⟩
  case round =>
    obtain ⟨i, hi, rfl, H⟩ := hrel
    have hgl := HG.out.lt
    by_cases hlt : i < 16
    · obtain ⟨d, hd⟩ : ∃ d, d = i / 4 := ⟨_, rfl⟩
      obtain ⟨r, hr⟩ : ∃ r, r = i % 4 := ⟨_, rfl⟩
      have c1 : wr.cell? ⟨w.heap.size, i, none⟩ = some (.int .u8 (f i : Int)) := by rw [H.2.1.cell i hlt, upTo_at]
      have c3 := H.2.1.frozen i
      have c4 : wr.cell? ⟨g, 256 + (4 * n + d) * 4 + r, none⟩ = some (.int .u8 (k (16 * n + i) : Int)) := by
        have := Ciph.key (OwnB.below HG.out H.1 hgl) (16 * n + i) (by omega)
        rw [show 256 + (4 * n + d) * 4 + r = 256 + (16 * n + i) by omega]; exact this
      have e1 : (i : Int) < 16 := by omega
      have e2 : IntKind.i64.wrap (4 * (n : Int)) = 4 * (n : Int) := i64_nat _ (by omega) (by omega)
      have e3 : IntKind.i64.wrap ((i : Int) / 4) = (d : Int) := by rw [i64_nat _ (by omega) (by omega)]; omega
      have e4 : (i : Int).tmod 4 = (r : Int) := by rw [Int.tmod_eq_emod_of_nonneg (by omega)]; omega
      have e5 : IntKind.i64.wrap (4 * (n : Int) + (d : Int)) = 4 * (n : Int) + (d : Int) := i64_nat _ (by omega) (by omega)
      have e6 : (0 : Int) ≤ 4 * (n : Int) + (d : Int) := by omega
      have e7 : 4 * (n : Int) + (d : Int) < 44 := by omega
      have e8 : (4 * (n : Int) + (d : Int)).toNat = 4 * n + d := by omega
      have e9 : (r : Int) < 4 := by omega
      have HX := Lib.hid (bits8_xor (f i) (k (16 * n + i)) (HF.out.1 i) (HF.out.2 _))
      have HH := Lib.hid H
      have HM := Lib.hid (And.intro hd hr)
      clear H hd hr
      go_wp2
      go_still_tail 18, (by kernel_rfl)
      change wpList _ _ _ _ _ wr.drew
      have HE := Lib.hid (In2.drew HH.out)
      have c1' : wr.drew.cell? ⟨w.heap.size, i, none⟩ = some (.int .u8 (f i : Int)) := c1
      have c3' : wr.drew.frozen? ⟨w.heap.size, i, none⟩ = false := c3
      clear HH c1 c3 c4
      generalize wr.drew = w2 at HE c1' c3' ⊢
      go_wp2
      go_roundw
      case rel =>
        obtain ⟨h0, h1, h2⟩ := HE.out
        exact ⟨i + 1, by omega, by go_num, h0.setCell (by simp) _, by rw [HX.out]; exact (h1.set i _).congr fun q _ => upTo_step i (fun q => f q ^^^ k (16 * n + q)) f q, h2.far (by simp) _⟩
      case measure => simp [intOf]; omega
    · obtain rfl : i = 16 := by omega
      obtain ⟨h0, h1, h2⟩ := H
      have HH := Lib.hid h0
      clear h0
      go_wp2_with (first | (refine ld_row 137 16 _ Tryd.underlying137 Tryd.info137 rfl _ rfl _ rfl h1 ?_) | (refine st_row 137 16 Tryd.info137 rfl _ _ rfl _ rfl rfl h2 ?_))
      exact bodyPost_ret (v := .agg (bys 16 fun i => f i ^^^ k (16 * n + i))) (res_row 137 16 _ Tryd.underlying137 Tryd.info137 rfl _ _ _ rfl (h2.setRow _) fun q hq => upTo_full 16 _ f q hq) rfl ⟨rfl, Below.row HH.out (by omega) _⟩
set_option maxHeartbeats 1000000 in
set_option maxRecDepth 100000 in
theorem replaced_any (g : Nat) (k f : Nat → Nat) (w : World) (hc : Ciph w g k) (hf : ∀ i, f i < 256) :
    Calls Tryd.prog 93 #[.pointer (some ⟨g, 0, none⟩), .agg (bys 16 f)] w fun e w' => e = .returned (.agg (bys 16 (Aes.subs f))) ∧ Below w.heap.size w w' := by
  have HF := Lib.hid hf
  have HG := Lib.hid hc
  clear hf hc
  go_enter Tryd.func93, Tryd.ntmps93
  go_wp2
  go_loopw [7] (fun t wr => ∃ i : Nat, i ≤ 16 ∧ t = .int .i64 i ∧ In3 w 16 137 f (fun _ => 0) (upTo i (Aes.subs f) fun _ => 0) wr) (fun t _ => 16 - (intOf t).toNat)
  case atStart => exact ⟨0, by omega, rfl, In3.start w 16 137 f (fun _ => 0) (fun _ => 0)⟩
  case round =>
    obtain ⟨i, hi, rfl, H⟩ := hrel
    have hgl := HG.out.lt
    by_cases hlt : i < 16
    · obtain ⟨m, hm⟩ : ∃ m, m = Aes.from_ i := ⟨_, rfl⟩
      obtain ⟨r, hr⟩ : ∃ r, r = i % 4 := ⟨_, rfl⟩
      have hm16 : m < 16 := by rw [hm]; exact Aes.from_lt i
      have hmr : (i + 4 * r) % 16 = m := by rw [hm, hr]; unfold Aes.from_; omega
      have c1 := H.2.1.cell m hm16
      have c2 : wr.cell? ⟨w.heap.size + 2, i, none⟩ = some (.int .u8 0) := by rw [H.2.2.2.cell i hlt, upTo_at]; rfl
      have c3 := H.2.2.2.frozen i
      have c4 := Ciph.s (OwnB.below HG.out H.1 hgl) (f m) (HF.out _)
      have c5 : (f m : Int) < 256 := by have := HF.out m; omega
      have e1 : (i : Int) < 16 := by omega
      have e4 : (i : Int).tmod 4 = (r : Int) := by rw [Int.tmod_eq_emod_of_nonneg (by omega)]; omega
      have e2 : IntKind.i64.wrap (4 * (r : Int)) = 4 * (r : Int) := i64_nat _ (by omega) (by omega)
      have e3 : IntKind.i64.wrap ((i : Int) + 4 * (r : Int)) = (i : Int) + 4 * (r : Int) := i64_nat _ (by omega) (by omega)
      have e5 : ((i : Int) + 4 * (r : Int)).tmod 16 = (m : Int) := by rw [Int.tmod_eq_emod_of_nonneg (by omega)]; omega
      have e6 : (m : Int) < 16 := by omega
      have HH := Lib.hid H
      have HM := Lib.hid (And.intro hm hr)
      clear H hm hr hmr
      go_wp2
      go_still_tail 15, (by kernel_rfl)
      change wpList _ _ _ _ _ wr.drew
      have HE := Lib.hid (In3.drew HH.out)
      have c2' : wr.drew.cell? ⟨w.heap.size + 2, i, none⟩ = some (.int .u8 0) := c2
      have c3' : wr.drew.frozen? ⟨w.heap.size + 2, i, none⟩ = false := c3
      clear HH c1 c2 c3 c4
      generalize wr.drew = w2 at HE c2' c3' ⊢
      go_wp2
      go_roundw
      case rel =>
        obtain ⟨h0, h1, h2, h3⟩ := HE.out
        exact ⟨i + 1, by omega, by go_num, h0.setCell (by simp; omega) _, h1.far (by simp; omega) _, h2.far (by simp) _, (h3.set i _).congr fun q _ => by rw [HM.out.1]; exact upTo_step i (Aes.subs f) (fun _ => 0) q⟩
      case measure => simp [intOf]; omega
    · obtain rfl : i = 16 := by omega
      obtain ⟨h0, h1, h2, h3⟩ := H
      have HH := Lib.hid h0
      clear h0
      go_wp2_with (first | (refine ld_row 137 16 _ Tryd.underlying137 Tryd.info137 rfl _ rfl _ rfl h3 ?_) | (refine st_row 137 16 Tryd.info137 rfl _ _ rfl _ rfl rfl h2 ?_))
      exact bodyPost_ret (v := .agg (bys 16 (Aes.subs f))) (res_row 137 16 _ Tryd.underlying137 Tryd.info137 rfl _ _ _ rfl (h2.setRow _) fun q hq => upTo_full 16 _ _ q hq) rfl ⟨rfl, Below.row HH.out (by omega) _⟩
end Go.Proofs.YtamejhhjfnfalaaDoor.Ae

/- Contracts of aes' mixed and Encrypt. -/
namespace Go.Proofs.YtamejhhjfnfalaaDoor.Ae
open Go.RowKit

theorem mixer (p q r s : Nat) (hp : p < 256) (hq : q < 256) (hr : r < 256) (hs : s < 256) : ∃ x y z : Nat, x < 256 ∧ bits .xor .u8 (p : Int) (q : Int) = (x : Int) ∧ bits .xor .u8 (Aes.xt x : Int) (q : Int) = (y : Int) ∧ bits .xor .u8 (y : Int) (r : Int) = (z : Int) ∧ bits .xor .u8 (z : Int) (s : Int) = (Aes.mixB p q r s : Int) := by
  have hx := Aes.byte_xor hp hq
  have hy := Aes.byte_xor (Aes.xt_lt hx) hq
  have hz := Aes.byte_xor hy hr
  exact ⟨p ^^^ q, _, _, hx, bits8_xor _ _ hp hq, bits8_xor _ _ (Aes.xt_lt hx) hq, bits8_xor _ _ hy hr, by rw [bits8_xor _ _ hz hs, Aes.mix_prog hp hq]⟩
theorem mix_step (c : Nat) (f : Nat → Nat) (hc : c % 4 = 0) (q : Nat) :
    (if q = c + 3 then Aes.mixB (f (c + 3)) (f c) (f (c + 1)) (f (c + 2)) else if q = c + 2 then Aes.mixB (f (c + 2)) (f (c + 3)) (f c) (f (c + 1)) else if q = c + 1 then Aes.mixB (f (c + 1)) (f (c + 2)) (f (c + 3)) (f c) else if q = c then Aes.mixB (f c) (f (c + 1)) (f (c + 2)) (f (c + 3)) else upTo c (Aes.mixF f) f q) = upTo (c + 4) (Aes.mixF f) f q := by
  have e : ∀ j d : Nat, j < 4 → Aes.col (c + j) d = c + (j + d) % 4 := fun j d hj => by unfold Aes.col; omega
  by_cases h3 : q = c + 3
  · subst h3; rw [if_pos rfl]; unfold upTo Aes.mixF; rw [if_pos (by omega), e 3 0 (by omega), e 3 1 (by omega), e 3 2 (by omega), e 3 3 (by omega)]; rfl
  rw [if_neg h3]
  by_cases h2 : q = c + 2
  · subst h2; rw [if_pos rfl]; unfold upTo Aes.mixF; rw [if_pos (by omega), e 2 0 (by omega), e 2 1 (by omega), e 2 2 (by omega), e 2 3 (by omega)]; rfl
  rw [if_neg h2]
  by_cases h1 : q = c + 1
  · subst h1; rw [if_pos rfl]; unfold upTo Aes.mixF; rw [if_pos (by omega), e 1 0 (by omega), e 1 1 (by omega), e 1 2 (by omega), e 1 3 (by omega)]; rfl
  rw [if_neg h1]
  by_cases h0 : q = c
  · subst h0; rw [if_pos rfl]; unfold upTo Aes.mixF
    have e0 := fun d => e 0 d (by omega)
    simp only [Nat.add_zero, Nat.zero_add] at e0
    rw [if_pos (by omega), e0 0, e0 1, e0 2, e0 3]; rfl
  rw [if_neg h0]
  unfold upTo
  by_cases h : q < c
  · rw [if_pos h, if_pos (by omega)]
  · rw [if_neg h, if_neg (by omega)]
set_option maxHeartbeats 2000000 in
set_option maxRecDepth 100000 in
theorem mixed_any (f : Nat → Nat) (w : World) (hf : ∀ i, f i < 256) :
    Calls Tryd.prog 92 #[.agg (bys 16 f)] w fun e w' => e = .returned (.agg (bys 16 (Aes.mixF f))) ∧ Below w.heap.size w w' := by
  have HF := Lib.hid hf
  clear hf
  go_enter Tryd.func92, Tryd.ntmps92
  go_wp2
  go_loopw [3] (fun t wr => ∃ c : Nat, (c ≤ 16 ∧ c % 4 = 0) ∧ t = .int .i64 c ∧ In2 w 16 137 (upTo c (Aes.mixF f) f) (fun _ => 0) wr) (fun t _ => 16 - (intOf t).toNat)
  case atStart => exact ⟨0, by omega, rfl, In2.start w 16 137 f (fun _ => 0)⟩
  case round =>
    obtain ⟨c, hc, rfl, H⟩ := hrel
    by_cases hlt : c < 16
    · have u : ∀ j, j < 4 → wr.cell? ⟨w.heap.size, c + j, none⟩ = some (.int .u8 (f (c + j) : Int)) := fun j hj => by
        rw [H.2.1.cell (c + j) (by omega)]; unfold upTo; rw [if_neg (by omega)]
      have c0 : wr.cell? ⟨w.heap.size, c, none⟩ = some (.int .u8 (f c : Int)) := u 0 (by omega)
      have c1 := u 1 (by omega)
      have c2 := u 2 (by omega)
      have c3 := u 3 (by omega)
      have z0 := H.2.1.frozen c
      have z1 := H.2.1.frozen (c + 1)
      have z2 := H.2.1.frozen (c + 2)
      have z3 := H.2.1.frozen (c + 3)
      obtain ⟨x0, y0, v0, b0, r0, r1, r2, r3⟩ := mixer (f c) (f (c + 1)) (f (c + 2)) (f (c + 3)) (HF.out _) (HF.out _) (HF.out _) (HF.out _)
      obtain ⟨x1, y1, v1, b1, s0, s1, s2, s3⟩ := mixer (f (c + 1)) (f (c + 2)) (f (c + 3)) (f c) (HF.out _) (HF.out _) (HF.out _) (HF.out _)
      obtain ⟨x2, y2, v2, b2, t0, t1, t2, t3⟩ := mixer (f (c + 2)) (f (c + 3)) (f c) (f (c + 1)) (HF.out _) (HF.out _) (HF.out _) (HF.out _)
      obtain ⟨x3, y3, v3, b3, q0, q1, q2, q3⟩ := mixer (f (c + 3)) (f c) (f (c + 1)) (f (c + 2)) (HF.out _) (HF.out _) (HF.out _) (HF.out _)
      have e0 : (c : Int) < 16 := by omega
      have e1 : (c : Int) + 1 < 16 := by omega
      have e2 : (c : Int) + 2 < 16 := by omega
      have e3 : (c : Int) + 3 < 16 := by omega
      have e4 : (0 : Int) ≤ (c : Int) + 1 := by omega
      have e5 : (0 : Int) ≤ (c : Int) + 2 := by omega
      have e6 : (0 : Int) ≤ (c : Int) + 3 := by omega
      have n1 : ((c : Int) + 1).toNat = c + 1 := by omega
      have n2 : ((c : Int) + 2).toNat = c + 2 := by omega
      have n3 : ((c : Int) + 3).toNat = c + 3 := by omega
      have w1 : IntKind.i64.wrap ((c : Int) + 1) = (c : Int) + 1 := i64_nat _ (by omega) (by omega)
      have w2 : IntKind.i64.wrap ((c : Int) + 2) = (c : Int) + 2 := i64_nat _ (by omega) (by omega)
      have w3 : IntKind.i64.wrap ((c : Int) + 3) = (c : Int) + 3 := i64_nat _ (by omega) (by omega)
      have w4 : IntKind.i64.wrap ((c : Int) + 4) = (c : Int) + 4 := i64_nat _ (by omega) (by omega)
      have HH := Lib.hid H
      have HC := Lib.hid hc
      clear H u hc
      go_wp2
      go_quiet (fail)
      go_wp2_with (go_at_call 102; refine (twice_any _ _ (by assumption)).mono ?_; rintro e w' ⟨rfl, rfl⟩)
      go_roundw
      case rel =>
        obtain ⟨h0, h1, h2⟩ := HH.out
        have hn : ∀ k, In2 w 16 137 (upTo c (Aes.mixF f) f) (fun _ => 0) (wr.drewN k) := fun k => ⟨⟨h0.os, h0.tape, h0.output, h0.size, h0.block⟩, h1, h2⟩
        obtain ⟨h0, h1, h2⟩ := hn nq
        exact ⟨c + 4, ⟨by have := HC.out; omega, by have := HC.out; omega⟩, by go_num, (((h0.setCell (Nat.le_refl _) _).setCell (Nat.le_refl _) _).setCell (Nat.le_refl _) _).setCell (Nat.le_refl _) _,
          ((((h1.set c _).set (c + 1) _).set (c + 2) _).set (c + 3) _).congr fun q _ => mix_step c f HC.out.2 q, (((h2.far (by simp) _).far (by simp) _).far (by simp) _).far (by simp) _⟩
      case measure => simp [intOf]; omega
    · obtain rfl : c = 16 := by omega
      obtain ⟨h0, h1, h2⟩ := H
      have HH := Lib.hid h0
      clear h0
      go_wp2_with (first | (refine ld_row 137 16 _ Tryd.underlying137 Tryd.info137 rfl _ rfl _ rfl h1 ?_) | (refine st_row 137 16 Tryd.info137 rfl _ _ rfl _ rfl rfl h2 ?_))
      exact bodyPost_ret (v := .agg (bys 16 (Aes.mixF f))) (res_row 137 16 _ Tryd.underlying137 Tryd.info137 rfl _ _ _ rfl (h2.setRow _) fun q hq => upTo_full 16 _ f q hq) rfl ⟨rfl, Below.row HH.out (by omega) _⟩
end Go.Proofs.YtamejhhjfnfalaaDoor.Ae

/- Contract of aes' Encrypt. -/
namespace Go.Proofs.YtamejhhjfnfalaaDoor.Ae
open Go.RowKit

theorem encGo_lt {k f : Nat → Nat} (hk : ∀ i, k i < 256) (hf : ∀ i, f i < 256) : ∀ n i, Aes.encGo k f n i < 256
  | 0, i => Aes.byte_xor (hf i) (hk i)
  | n + 1, i => by
    show (if n + 1 < 10 then Aes.mixF (Aes.subs (Aes.encGo k f n)) i else Aes.subs (Aes.encGo k f n) i) ^^^ k (16 * (n + 1) + i) < 256
    refine Aes.byte_xor ?_ (hk _)
    split
    · exact Aes.mixB_lt (Aes.sb_lt _) (Aes.sb_lt _) (Aes.sb_lt _) (Aes.sb_lt _)
    · exact Aes.sb_lt _
/-- What Encrypt has: its two blocks, and the block that is turned. -/
def EN (w : World) (b : Nat) (h : Nat → Nat) (wr : World) : Prop :=
  Below w.heap.size w wr ∧ OwnB wr (w.heap.size + 1) 16 137 (fun _ => 0) ∧ OwnB wr b 16 137 h
theorem EN.next {w w1 w2 : World} {b : Nat} {h : Nat → Nat} (he : EN w b h w1) (hb : Below w1.heap.size w1 w2) : EN w b h w2 :=
  ⟨he.1.trans (hb.mono he.1.size), he.2.1.below hb he.2.1.lt, he.2.2.below hb he.2.2.lt⟩
theorem EN.row {w w1 : World} {b : Nat} {h h' : Nat → Nat} (he : EN w b h w1) (hb : w.heap.size + 1 < b) : EN w b h' (w1.setRow b (bys 16 h')) :=
  ⟨Below.row he.1 (by omega) _, he.2.1.farRow (by omega) _, he.2.2.setRow h'⟩
theorem EN.ciph {w w1 : World} {b g : Nat} {h k : Nat → Nat} (he : EN w b h w1) (hc : Ciph w g k) : Ciph w1 g k := OwnB.below hc he.1 (OwnB.lt hc)
theorem EN.eq {w w1 : World} {b : Nat} {h h' : Nat → Nat} (he : EN w b h w1) (e : ∀ q, h q = h' q) : EN w b h' w1 := ⟨he.1, he.2.1, he.2.2.congr fun q _ => e q⟩
theorem addKey_zero (g : Nat) (k f : Nat → Nat) (w : World) (hc : Ciph w g k) (hf : ∀ i, f i < 256) (hk : ∀ i, k i < 256) :
    Calls Tryd.prog 91 #[.pointer (some ⟨g, 0, none⟩), .agg (bys 16 f), .int .i64 0] w fun e w' => e = .returned (.agg (bys 16 fun i => f i ^^^ k (16 * 0 + i))) ∧ Below w.heap.size w w' := addKey_any g k f 0 w hc hf hk (by omega)
theorem addKey_ten (g : Nat) (k f : Nat → Nat) (w : World) (hc : Ciph w g k) (hf : ∀ i, f i < 256) (hk : ∀ i, k i < 256) :
    Calls Tryd.prog 91 #[.pointer (some ⟨g, 0, none⟩), .agg (bys 16 f), .int .i64 10] w fun e w' => e = .returned (.agg (bys 16 fun i => f i ^^^ k (16 * 10 + i))) ∧ Below w.heap.size w w' := addKey_any g k f 10 w hc hf hk (by omega)
set_option maxHeartbeats 2000000 in
set_option maxRecDepth 100000 in
theorem encrypt_any (g : Nat) (k f : Nat → Nat) (w : World) (hc : Ciph w g k) (hf : ∀ i, f i < 256) (hk : ∀ i, k i < 256) :
    Calls Tryd.prog 68 #[.pointer (some ⟨g, 0, none⟩), .agg (bys 16 f)] w fun e w' => e = .returned (.agg (bys 16 (Aes.enc k f))) ∧ Below w.heap.size w w' := by
  have HF := Lib.hid (And.intro hf hk)
  have HG := Lib.hid hc
  have HI := Lib.hid (In2.start w 16 137 f (fun _ => 0))
  have h1 := HI.out.2.1
  clear hf hc hk
  go_enter Tryd.func68, Tryd.ntmps68
  go_wp2_with (refine ld_row 137 16 _ Tryd.underlying137 Tryd.info137 rfl _ rfl _ rfl h1 ?_)
  refine (addKey_zero g k f _ (OwnB.below HG.out HI.out.1 HG.out.lt) HF.out.1 HF.out.2).mono ?_
  rintro e w1 ⟨rfl, hb⟩
  have hB : Below w.heap.size w w1 := HI.out.1.trans (hb.mono (by simp; omega))
  have hR : OwnB w1 (w.heap.size + 1) 16 137 (fun _ => 0) := HI.out.2.2.below hb HI.out.2.2.lt
  have hg1 := hR.lt
  have h2 := OwnB.new w1 16 137 (fun _ => 0)
  have HE := Lib.hid (show EN w w1.heap.size (Aes.encGo k f 0) ((w1.alloc (.cells (bys 16 fun _ => 0) 137)).setRow w1.heap.size (bys 16 (fun i => f i ^^^ k (16 * 0 + i)))) from
    ⟨Below.row (hB.alloc (by omega) _) (by omega) _, (hR.alloc _).farRow (by omega) _, (h2.setRow _).congr fun q _ => by show _ = f q ^^^ k q; rw [Nat.mul_zero, Nat.zero_add]⟩)
  clear h1 HI hB hR hb
  go_wp2_with (refine st_row 137 16 Tryd.info137 rfl _ _ rfl _ rfl rfl h2 ?_)
  clear h2
  have hg2 := hg1
  clear hg1
  generalize w1.heap.size = b at hg2 HE ⊢
  go_loopw [6] (fun t wr => ∃ n : Nat, n ≤ 9 ∧ t = .int .i64 ((n + 1 : Nat) : Int) ∧ EN w b (Aes.encGo k f n) wr) (fun t _ => 10 - (intOf t).toNat)
  case atStart => exact ⟨0, by omega, rfl, HE.out⟩
  case round =>
    clear HE
    obtain ⟨n, hn, rfl, H⟩ := hrel
    have h3 := H.2.2
    have HH := Lib.hid H
    clear H
    by_cases hlt : n < 9
    · go_wp2_with (refine ld_row 137 16 _ Tryd.underlying137 Tryd.info137 rfl _ rfl _ rfl h3 ?_)
      refine (replaced_any g k _ _ (HH.out.ciph HG.out) (encGo_lt HF.out.2 HF.out.1 n)).mono ?_
      rintro e w2 ⟨rfl, hb⟩
      have H2 := Lib.hid (HH.out.next hb)
      clear h3 HH hb
      go_wp2_with fail
      refine (mixed_any _ _ fun _ => Aes.sb_lt _).mono ?_
      rintro e w3 ⟨rfl, hb⟩
      have H3 := Lib.hid (H2.out.next hb)
      clear H2 hb
      go_wp2_with fail
      refine (addKey_any g k _ (n + 1) _ (H3.out.ciph HG.out) (fun _ => Aes.mixB_lt (Aes.sb_lt _) (Aes.sb_lt _) (Aes.sb_lt _) (Aes.sb_lt _)) HF.out.2 (by omega)).mono ?_
      rintro e w4 ⟨rfl, hb⟩
      have H4 := H3.out.next hb
      have h4 := H4.2.2
      have H5 := Lib.hid H4
      clear H3 hb H4
      go_wp2_with (refine st_row 137 16 Tryd.info137 rfl _ _ rfl _ rfl rfl h4 ?_)
      go_roundw
      case rel =>
        exact ⟨n + 1, by omega, by go_num, EN.eq (EN.row H5.out hg2) fun q => by
          show _ = (if n + 1 < 10 then Aes.mixF (Aes.subs (Aes.encGo k f n)) q else Aes.subs (Aes.encGo k f n) q) ^^^ k (16 * (n + 1) + q)
          rw [if_pos (by omega)]; rfl⟩
      case measure => simp [intOf]; omega
    · obtain rfl : n = 9 := by omega
      go_wp2_with (refine ld_row 137 16 _ Tryd.underlying137 Tryd.info137 rfl _ rfl _ rfl h3 ?_)
      refine (replaced_any g k _ _ (HH.out.ciph HG.out) (encGo_lt HF.out.2 HF.out.1 9)).mono ?_
      rintro e w2 ⟨rfl, hb⟩
      have H2 := Lib.hid (HH.out.next hb)
      clear h3 HH hb
      go_wp2_with fail
      refine (addKey_ten g k _ _ (H2.out.ciph HG.out) (fun _ => Aes.sb_lt _) HF.out.2).mono ?_
      rintro e w4 ⟨rfl, hb⟩
      have H4 := H2.out.next hb
      have h4 := H4.2.1
      have H5 := Lib.hid H4
      clear H2 hb H4
      go_wp2_with (refine st_row 137 16 Tryd.info137 rfl _ _ rfl _ rfl rfl h4 ?_)
      exact bodyPost_ret (v := .agg (bys 16 (Aes.enc k f))) (res_row 137 16 _ Tryd.underlying137 Tryd.info137 rfl _ _ _ rfl (h4.setRow _) fun q hq => rfl) rfl ⟨rfl, Below.row H5.out.1 (by omega) _⟩
end Go.Proofs.YtamejhhjfnfalaaDoor.Ae

/- A cipher's block made; bytes copied. -/
namespace Go.Proofs.YtamejhhjfnfalaaDoor.Ae
open Go.RowKit

theorem built_cipher (f : Nat → Nat) : Tryd.prog.built 176 [(0, .agg (bys 256 f))] = some (bys 432 fun q => if q < 256 then f q else 0) := by kernel_rfl
theorem bd_cipher {ops : Array Oper} {rest : List Oper} {o : Oper} {a : Act} {w : World} {Q : Exit → Act → World → Prop} (hg : o.guard = none) (x : Operand) (ho : o.op = .build 176 #[(0, x)]) {f : Nat → Nat} (hx : a.eval x = .agg (bys 256 f))
    (k : wpList Tryd.prog ops Q rest (a.put o.dst (.agg (bys 432 fun q => if q < 256 then f q else 0))) w) : wpList Tryd.prog ops Q (o :: rest) a w := by
  have e : ((#[(0, x)] : Array (Nat × Operand)).map fun (i, x) => (i, a.eval x)).toList = [(0, Value.agg (bys 256 f))] := by simp [hx]
  refine wpList_build hg _ _ ho ?_ ?_
  · rw [e, built_cipher]; rfl
  · rw [e, built_cipher]; exact k
/-- n bytes h laid over F from off on. -/
def spl (F : Nat → Nat) (off n : Nat) (h : Nat → Nat) (q : Nat) : Nat := if off ≤ q ∧ q < off + n then h (q - off) else F q
theorem bys_splice (N off n : Nat) (F h : Nat → Nat) (hfit : off + n ≤ N) : ((bys N F).toList.take off ++ ((bys n h).toList ++ (bys N F).toList.drop (off + (bys n h).toList.length))).toArray = bys N (spl F off n h) := by
  apply Array.ext_getElem?
  intro j
  have hl : (bys n h).toList.length = n := by simp [bys_size]
  have hL : (bys N F).toList.length = N := by simp [bys_size]
  rw [List.getElem?_toArray, hl]
  by_cases h1 : j < off
  · rw [List.getElem?_append_left (by rw [List.length_take, hL]; omega), List.getElem?_take, if_pos h1, Array.getElem?_toList, bys_get _ _ _ (by omega), bys_get _ _ _ (by omega)]
    unfold spl; rw [if_neg (by omega)]
  · rw [List.getElem?_append_right (by rw [List.length_take, hL]; omega), List.length_take, hL, Nat.min_eq_left (by omega)]
    by_cases h2 : j < off + n
    · rw [List.getElem?_append_left (by rw [hl]; omega), Array.getElem?_toList, bys_get _ _ _ (by omega), bys_get _ _ _ (by omega)]
      unfold spl; rw [if_pos (by omega)]
    · rw [List.getElem?_append_right (by rw [hl]; omega), hl, List.getElem?_drop, Array.getElem?_toList, show off + n + (j - off - n) = j by omega]
      by_cases h3 : j < N
      · rw [bys_get _ _ _ h3, bys_get _ _ _ h3]; unfold spl; rw [if_neg (by omega)]
      · rw [bys_none _ _ _ (by omega), bys_none _ _ _ (by omega)]
theorem bys_mem (n : Nat) (h : Nat → Nat) : ∀ v ∈ (bys n h).toList, v.oneCell' = true := by
  intro v hv
  have := Array.all_eq_true_iff_forall_mem.1 (bys_one n h) v (by simpa using hv)
  exact this
theorem info5 : (Tryd.prog.info? 5).map (·.size) = some 1 := by kernel_rfl
theorem cp_bytes {ops : Array Oper} {rest : List Oper} {o : Oper} {a : Act} {w : World} {Q : Exit → Act → World → Prop} (hgd : o.guard = none) (d s : Operand) (ho : o.op = .call { callee := .builtin .copy, args := #[d, s], argTypes := #[99, 99] })
    (g off dLen dCap : Nat) (ad : Addr) (sLen sCap n : Nat) (hd : a.eval d = .slice (some ⟨g, off, none⟩) dLen dCap) (hs : a.eval s = .slice (some ad) sLen sCap) {N t : Nat} {F h : Nat → Nat} (hg : OwnB w g N t F) (hn : n = Nat.min sLen dLen)
    (hsrc : ∀ j, j < n → w.cell? (ad.add j) = some (.int .u8 (h j : Int))) (hfit : off + n ≤ N)
    (k : wpList Tryd.prog ops Q rest (a.put o.dst (goInt n)) (w.setRow g (bys N (spl F off n h)))) : wpList Tryd.prog ops Q (o :: rest) a w := by
  have hl : (bys n h).toList.length = n := by simp [bys_size]
  refine wpList_copy_own hgd d s _ _ ho _ Tryd.underlying99 info5 g off dLen dCap ad sLen sCap hd hs (bys N F) t hg (bys n h).toList (by rw [hl, hn]) ?_ (by rw [hl, bys_size]; exact hfit) (bys_mem n h) ?_
  · intro j v hv
    have hj : j < n := by have := (List.getElem?_eq_some_iff.1 hv).1; omega
    rw [Array.getElem?_toList, bys_get _ _ _ hj] at hv
    rw [hsrc j hj, hv]
  · rw [bys_splice N off n F h hfit, hl]; exact k
theorem OwnB.cell' {w : World} {g N t : Nat} {f : Nat → Nat} (h : OwnB w g N t f) (o j : Nat) (hj : o + j < N) : w.cell? ((⟨g, o, none⟩ : Addr).add j) = some (.int .u8 (f (o + j) : Int)) := by
  rw [Addr.add_mid]; exact h.cell _ hj
end Go.Proofs.YtamejhhjfnfalaaDoor.Ae

/- Contract of aes' New. -/
namespace Go.Proofs.YtamejhhjfnfalaaDoor.Ae
open Go.RowKit

/-- A column of bytes, written out. -/
abbrev c4 (a b c d : Nat) : Value := .agg #[.int .u8 (a : Int), .int .u8 (b : Int), .int .u8 (c : Int), .int .u8 (d : Int)]
def f4 (a b c d : Nat) : Nat → Nat
  | 0 => a
  | 1 => b
  | 2 => c
  | _ => d
theorem f4_lt {a b c d : Nat} (ha : a < 256) (hb : b < 256) (hc : c < 256) (hd : d < 256) : ∀ i, f4 a b c d i < 256
  | 0 => ha
  | 1 => hb
  | 2 => hc
  | _ + 3 => hd
theorem addColumns_raw (a0 a1 a2 a3 b0 b1 b2 b3 : Nat) (w : World) (h0 : a0 < 256) (h1 : a1 < 256) (h2 : a2 < 256) (h3 : a3 < 256) (k0 : b0 < 256) (k1 : b1 < 256) (k2 : b2 < 256) (k3 : b3 < 256) :
    Calls Tryd.prog 88 #[c4 a0 a1 a2 a3, c4 b0 b1 b2 b3] w fun e w' => e = .returned (c4 (a0 ^^^ b0) (a1 ^^^ b1) (a2 ^^^ b2) (a3 ^^^ b3)) ∧ Below w.heap.size w w' :=
  addColumns_any (f4 a0 a1 a2 a3) (f4 b0 b1 b2 b3) w (f4_lt h0 h1 h2 h3) (f4_lt k0 k1 k2 k3)
theorem changed_no_raw (p : Option Addr) (a0 a1 a2 a3 : Nat) (I : Int) (w : World) (h : (I.tmod 4 != 0) = true) :
    Calls Tryd.prog 89 #[.pointer p, c4 a0 a1 a2 a3, .int .i64 I] w fun e w' => e = .returned (c4 a0 a1 a2 a3) ∧ Below w.heap.size w w' := changed_no p (f4 a0 a1 a2 a3) I w h
theorem changed_yes_raw (g a0 a1 a2 a3 : Nat) (I : Int) (j : Nat) (w : World) (hc : ∃ k, Ciph w g k) (h0 : a0 < 256) (h1 : a1 < 256) (h2 : a2 < 256) (h3 : a3 < 256) (hI : (I.tmod 4 != 0) = false) (hj : IntKind.i64.wrap (IntKind.i64.wrap (I.tdiv 4) - 1) = (j : Int)) (hj10 : j < 1000) :
    Calls Tryd.prog 89 #[.pointer (some ⟨g, 0, none⟩), c4 a0 a1 a2 a3, .int .i64 I] w fun e w' => e = .returned (c4 (Aes.sb a1 ^^^ Aes.pw j) (Aes.sb a2) (Aes.sb a3) (Aes.sb a0)) ∧ Below w.heap.size w w' := by
  obtain ⟨k, hc⟩ := hc
  refine (changed_yes g k (f4 a0 a1 a2 a3) I _ j w hc (f4_lt h0 h1 h2 h3) hI rfl hj hj10).mono fun e w' ⟨h, hb⟩ => ⟨h.trans (ret_agg ?_), hb⟩
  show #[Value.int .u8 ((Aes.sb a1 ^^^ Aes.pw j : Nat) : Int), .int .u8 ((Aes.sb a2 ^^^ 0 : Nat) : Int), .int .u8 ((Aes.sb a3 ^^^ 0 : Nat) : Int), .int .u8 ((Aes.sb a0 ^^^ 0 : Nat) : Int)] = _
  simp only [Nat.xor_zero]
/-- The round keys so far. -/
def KK (key : Nat → Nat) (i q : Nat) : Nat := if q < 4 * i then Aes.ks key q else 0
def NS (w : World) (g : Nat) (key : Nat → Nat) (i : Nat) (wr : World) : Prop := Below w.heap.size w wr ∧ OwnB wr w.heap.size 16 137 key ∧ Ciph wr g (KK key i)
/-- What a cell holds. -/
def cellV (w : World) (g o : Nat) : Value := (w.cell? ⟨g, o, none⟩).getD undef
/-- The state while column m + 4 is made: of it nothing is said. -/
def NT (w : World) (g : Nat) (key : Nat → Nat) (m : Nat) (wr : World) : Prop :=
  Below w.heap.size w wr ∧ OwnB wr w.heap.size 16 137 key ∧ ∃ F, OwnB wr g 432 176 F ∧ ∀ q, (q < 256 + 4 * (m + 4) ∨ 256 + 4 * (m + 5) ≤ q) → F q = CF (KK key (m + 4)) q
theorem NS.nt {w wr : World} {g m : Nat} {key : Nat → Nat} (h : NS w g key (m + 4) wr) : NT w g key m wr := ⟨h.1, h.2.1, _, h.2.2, fun _ _ => rfl⟩
theorem NT.next {w w1 w2 : World} {g m : Nat} {key : Nat → Nat} (h : NT w g key m w1) (hb : Below w1.heap.size w1 w2) : NT w g key m w2 :=
  ⟨h.1.trans (hb.mono h.1.size), h.2.1.below hb h.2.1.lt, h.2.2.elim fun F hF => ⟨F, hF.1.below hb hF.1.lt, hF.2⟩⟩
theorem NT.drew {w w1 : World} {g m : Nat} {key : Nat → Nat} (h : NT w g key m w1) : NT w g key m w1.drew := ⟨h.1.drew, h.2.1, h.2.2⟩
theorem NT.ciph {w w1 : World} {g m : Nat} {key : Nat → Nat} {p : Prop} (h : p ∧ Hid (NT w g key m w1)) : ∃ k, Ciph w1 g k := by
  obtain ⟨_, _, F, hF, hq⟩ := h.2.out
  refine ⟨fun q => F (256 + q), hF.congr fun q h => ?_⟩
  unfold CF
  by_cases h1 : q < 256
  · rw [if_pos h1, hq q (by omega)]; exact CF_lo _ q h1
  · rw [if_neg h1]; show F q = F (256 + (q - 256)); rw [show 256 + (q - 256) = q by omega]
theorem NT.set {w w1 : World} {g m : Nat} {key : Nat → Nat} (h : NT w g key m w1) (hg : w.heap.size < g) (o x : Nat) (ho : 256 + 4 * (m + 4) ≤ o ∧ o < 256 + 4 * (m + 5)) : NT w g key m (w1.setCell ⟨g, o, none⟩ (.int .u8 (x : Int))) := by
  obtain ⟨h0, h1, F, hF, hq⟩ := h
  refine ⟨h0.setCell (by simp; omega) _, h1.far (by simp; omega) _, _, hF.set o x, fun q h => ?_⟩
  show (if q = o then x else F q) = _
  rw [if_neg (by omega)]; exact hq q h
theorem NT.cells {w wr : World} {g m : Nat} {key : Nat → Nat} (h : NT w g key m wr) (hm : m < 40) : (wr.cell? ⟨g, 256 + m * 4, none⟩ = some (.int .u8 (Aes.ks key (4 * m) : Int)) ∧ wr.cell? ⟨g, 256 + m * 4 + 1, none⟩ = some (.int .u8 (Aes.ks key (4 * m + 1) : Int)) ∧ wr.cell? ⟨g, 256 + m * 4 + 2, none⟩ = some (.int .u8 (Aes.ks key (4 * m + 2) : Int)) ∧ wr.cell? ⟨g, 256 + m * 4 + 3, none⟩ = some (.int .u8 (Aes.ks key (4 * m + 3) : Int)) ∧ wr.cell? ⟨g, 256 + (m + 3) * 4, none⟩ = some (.int .u8 (Aes.ks key (4 * (m + 3)) : Int)) ∧ wr.cell? ⟨g, 256 + (m + 3) * 4 + 1, none⟩ = some (.int .u8 (Aes.ks key (4 * (m + 3) + 1) : Int)) ∧ wr.cell? ⟨g, 256 + (m + 3) * 4 + 2, none⟩ = some (.int .u8 (Aes.ks key (4 * (m + 3) + 2) : Int)) ∧ wr.cell? ⟨g, 256 + (m + 3) * 4 + 3, none⟩ = some (.int .u8 (Aes.ks key (4 * (m + 3) + 3) : Int)) ∧ wr.cell? ⟨g, 256 + (m + 4) * 4, none⟩ = some (cellV wr g (256 + (m + 4) * 4)) ∧ wr.cell? ⟨g, 256 + (m + 4) * 4 + 1, none⟩ = some (cellV wr g (256 + (m + 4) * 4 + 1)) ∧ wr.cell? ⟨g, 256 + (m + 4) * 4 + 2, none⟩ = some (cellV wr g (256 + (m + 4) * 4 + 2)) ∧ wr.cell? ⟨g, 256 + (m + 4) * 4 + 3, none⟩ = some (cellV wr g (256 + (m + 4) * 4 + 3)) ∧ wr.frozen? ⟨g, 256 + (m + 4) * 4, none⟩ = false ∧ wr.frozen? ⟨g, 256 + (m + 4) * 4 + 1, none⟩ = false ∧ wr.frozen? ⟨g, 256 + (m + 4) * 4 + 2, none⟩ = false ∧ wr.frozen? ⟨g, 256 + (m + 4) * 4 + 3, none⟩ = false) ∧ Hid (NT w g key m wr) := by
  obtain ⟨h0, h1, F, hF, hq⟩ := h
  have c : ∀ o q, o = 256 + q → q < 4 * (m + 4) → wr.cell? ⟨g, o, none⟩ = some (.int .u8 (Aes.ks key q : Int)) := fun o q ho hq' => by
    rw [ho, hF.cell _ (by omega), hq _ (by omega), CF_hi]
    unfold KK; rw [if_pos hq']
  have v : ∀ o, o < 432 → wr.cell? ⟨g, o, none⟩ = some (cellV wr g o) := fun o ho => by
    unfold cellV; rw [hF.cell _ ho]; rfl
  have f : ∀ o, wr.frozen? ⟨g, o, none⟩ = false := fun o => hF.frozen o
  exact ⟨⟨c _ (4 * m) (by omega) (by omega), c _ (4 * m + 1) (by omega) (by omega), c _ (4 * m + 2) (by omega) (by omega), c _ (4 * m + 3) (by omega) (by omega), c _ (4 * (m + 3)) (by omega) (by omega), c _ (4 * (m + 3) + 1) (by omega) (by omega), c _ (4 * (m + 3) + 2) (by omega) (by omega), c _ (4 * (m + 3) + 3) (by omega) (by omega), v _ (by omega), v _ (by omega), v _ (by omega), v _ (by omega), f _, f _, f _, f _⟩, h0, h1, F, hF, hq⟩
theorem NT.step {w w1 w2 : World} {g m : Nat} {key : Nat → Nat} {p : Prop} (hb : Hid (Below w1.heap.size w1 w2)) (h : p ∧ Hid (NT w g key m w1)) (hm : m < 40) : (w2.cell? ⟨g, 256 + m * 4, none⟩ = some (.int .u8 (Aes.ks key (4 * m) : Int)) ∧ w2.cell? ⟨g, 256 + m * 4 + 1, none⟩ = some (.int .u8 (Aes.ks key (4 * m + 1) : Int)) ∧ w2.cell? ⟨g, 256 + m * 4 + 2, none⟩ = some (.int .u8 (Aes.ks key (4 * m + 2) : Int)) ∧ w2.cell? ⟨g, 256 + m * 4 + 3, none⟩ = some (.int .u8 (Aes.ks key (4 * m + 3) : Int)) ∧ w2.cell? ⟨g, 256 + (m + 3) * 4, none⟩ = some (.int .u8 (Aes.ks key (4 * (m + 3)) : Int)) ∧ w2.cell? ⟨g, 256 + (m + 3) * 4 + 1, none⟩ = some (.int .u8 (Aes.ks key (4 * (m + 3) + 1) : Int)) ∧ w2.cell? ⟨g, 256 + (m + 3) * 4 + 2, none⟩ = some (.int .u8 (Aes.ks key (4 * (m + 3) + 2) : Int)) ∧ w2.cell? ⟨g, 256 + (m + 3) * 4 + 3, none⟩ = some (.int .u8 (Aes.ks key (4 * (m + 3) + 3) : Int)) ∧ w2.cell? ⟨g, 256 + (m + 4) * 4, none⟩ = some (cellV w2 g (256 + (m + 4) * 4)) ∧ w2.cell? ⟨g, 256 + (m + 4) * 4 + 1, none⟩ = some (cellV w2 g (256 + (m + 4) * 4 + 1)) ∧ w2.cell? ⟨g, 256 + (m + 4) * 4 + 2, none⟩ = some (cellV w2 g (256 + (m + 4) * 4 + 2)) ∧ w2.cell? ⟨g, 256 + (m + 4) * 4 + 3, none⟩ = some (cellV w2 g (256 + (m + 4) * 4 + 3)) ∧ w2.frozen? ⟨g, 256 + (m + 4) * 4, none⟩ = false ∧ w2.frozen? ⟨g, 256 + (m + 4) * 4 + 1, none⟩ = false ∧ w2.frozen? ⟨g, 256 + (m + 4) * 4 + 2, none⟩ = false ∧ w2.frozen? ⟨g, 256 + (m + 4) * 4 + 3, none⟩ = false) ∧ Hid (NT w g key m w2) :=
  NT.cells (NT.next h.2.out hb.out) hm
theorem NT.sets {w w1 : World} {g m : Nat} {key : Nat → Nat} {p : Prop} (h : p ∧ Hid (NT w g key m w1)) (hg : w.heap.size < g) (x0 x1 x2 x3 : Nat) : NT w g key m ((((w1.setCell ⟨g, 256 + (m + 4) * 4, none⟩ (.int .u8 (x0 : Int))).setCell ⟨g, 256 + (m + 4) * 4 + 1, none⟩ (.int .u8 (x1 : Int))).setCell ⟨g, 256 + (m + 4) * 4 + 2, none⟩ (.int .u8 (x2 : Int))).setCell ⟨g, 256 + (m + 4) * 4 + 3, none⟩ (.int .u8 (x3 : Int))) :=
  (((h.2.out.set hg _ x0 (by omega)).set hg _ x1 (by omega)).set hg _ x2 (by omega)).set hg _ x3 (by omega)
theorem cell_set_eq {w : World} {g o : Nat} {v u : Value} (h : (w.setCell ⟨g, o, none⟩ v).cell? ⟨g, o, none⟩ = some u) : u = v := by
  cases hq : w.cell? ⟨g, o, none⟩ with
  | some x => rw [World.cell?_setCell_same _ _ _ hq] at h; exact (Option.some.inj h).symm
  | none =>
    exfalso
    simp only [World.cell?, World.setCell, Array.getElem?_modify] at h hq
    cases hg : w.heap[g]? with
    | none => simp [hg] at h
    | some ob => cases ob <;> simp_all
/-- The column is laid. -/
theorem NT.made {w w1 : World} {g m : Nat} {key : Nat → Nat} {p : Prop} (x0 x1 x2 x3 : Nat)
    (h : p ∧ Hid (NT w g key m ((((w1.setCell ⟨g, 256 + (m + 4) * 4, none⟩ (.int .u8 (x0 : Int))).setCell ⟨g, 256 + (m + 4) * 4 + 1, none⟩ (.int .u8 (x1 : Int))).setCell ⟨g, 256 + (m + 4) * 4 + 2, none⟩ (.int .u8 (x2 : Int))).setCell ⟨g, 256 + (m + 4) * 4 + 3, none⟩ (.int .u8 (x3 : Int))))) (hm : m < 40)
    (e0 : x0 = Aes.ks key (4 * (m + 4))) (e1 : x1 = Aes.ks key (4 * (m + 4) + 1)) (e2 : x2 = Aes.ks key (4 * (m + 4) + 2)) (e3 : x3 = Aes.ks key (4 * (m + 4) + 3)) :
    NS w g key (m + 5) ((((w1.setCell ⟨g, 256 + (m + 4) * 4, none⟩ (.int .u8 (x0 : Int))).setCell ⟨g, 256 + (m + 4) * 4 + 1, none⟩ (.int .u8 (x1 : Int))).setCell ⟨g, 256 + (m + 4) * 4 + 2, none⟩ (.int .u8 (x2 : Int))).setCell ⟨g, 256 + (m + 4) * 4 + 3, none⟩ (.int .u8 (x3 : Int))) := by
  obtain ⟨h0, h1, F, hF, hq⟩ := h.2.out
  have ne : ∀ a b : Nat, a ≠ b → (⟨g, a, none⟩ : Addr) ≠ ⟨g, b, none⟩ := fun a b h e => h (by injection e)
  have nat : ∀ {a b : Nat}, Value.int .u8 (a : Int) = .int .u8 (b : Int) → a = b := fun h => by injection h with _ h; omega
  have u3 := nat (cell_set_eq (hF.cell (256 + (m + 4) * 4 + 3) (by omega)))
  have v2 := hF.cell (256 + (m + 4) * 4 + 2) (by omega)
  rw [World.cell?_setCell_other _ _ _ _ (ne _ _ (by omega))] at v2
  have u2 := nat (cell_set_eq v2)
  have v1 := hF.cell (256 + (m + 4) * 4 + 1) (by omega)
  rw [World.cell?_setCell_other _ _ _ _ (ne _ _ (by omega)), World.cell?_setCell_other _ _ _ _ (ne _ _ (by omega))] at v1
  have u1 := nat (cell_set_eq v1)
  have v0 := hF.cell (256 + (m + 4) * 4) (by omega)
  rw [World.cell?_setCell_other _ _ _ _ (ne _ _ (by omega)), World.cell?_setCell_other _ _ _ _ (ne _ _ (by omega)), World.cell?_setCell_other _ _ _ _ (ne _ _ (by omega))] at v0
  have u0 := nat (cell_set_eq v0)
  refine ⟨h0, h1, hF.congr fun q hq4 => ?_⟩
  subst e0 e1 e2 e3
  by_cases g3 : q = 256 + (m + 4) * 4 + 3
  · subst g3; rw [u3, show 256 + (m + 4) * 4 + 3 = 256 + (4 * (m + 4) + 3) by omega, CF_hi]; unfold KK; rw [if_pos (by omega)]
  by_cases g2 : q = 256 + (m + 4) * 4 + 2
  · subst g2; rw [u2, show 256 + (m + 4) * 4 + 2 = 256 + (4 * (m + 4) + 2) by omega, CF_hi]; unfold KK; rw [if_pos (by omega)]
  by_cases g1 : q = 256 + (m + 4) * 4 + 1
  · subst g1; rw [u1, show 256 + (m + 4) * 4 + 1 = 256 + (4 * (m + 4) + 1) by omega, CF_hi]; unfold KK; rw [if_pos (by omega)]
  by_cases g0 : q = 256 + (m + 4) * 4
  · subst g0; rw [u0, show 256 + (m + 4) * 4 = 256 + 4 * (m + 4) by omega, CF_hi]; unfold KK; rw [if_pos (by omega)]
  rw [hq q (by omega)]
  unfold CF KK
  by_cases h1 : q < 256
  · rw [if_pos h1, if_pos h1]
  · rw [if_neg h1, if_neg h1]
    by_cases h2 : q - 256 < 4 * (m + 4)
    · rw [if_pos h2, if_pos (by omega)]
    · rw [if_neg h2, if_neg (by omega)]
theorem ks_no (key : Nat → Nat) (m j : Nat) (hj : j < 4) (hm : ¬ m % 4 = 0) : Aes.ks key (4 * m + j) ^^^ Aes.ks key (4 * (m + 3) + j) = Aes.ks key (4 * (m + 4) + j) := by
  rw [Aes.ks_hi key (4 * (m + 4) + j) (by omega), if_neg (by omega), show 4 * (m + 4) + j - 16 = 4 * m + j by omega, show 4 * (m + 4) + j - 4 = 4 * (m + 3) + j by omega]
theorem ks_yes (key : Nat → Nat) (m j : Nat) (hj : j < 4) (hm : m % 4 = 0) : Aes.ks key (4 * m + j) ^^^ (Aes.sb (Aes.ks key (4 * (m + 3) + (j + 1) % 4)) ^^^ if j = 0 then Aes.pw (m / 4) else 0) = Aes.ks key (4 * (m + 4) + j) := by
  rw [Aes.ks_hi key (4 * (m + 4) + j) (by omega), if_pos (show (4 * (m + 4) + j) / 4 % 4 = 0 by omega), show 4 * (m + 4) + j - 16 = 4 * m + j by omega, show 4 * ((4 * (m + 4) + j) / 4 - 1) + ((4 * (m + 4) + j) % 4 + 1) % 4 = 4 * (m + 3) + (j + 1) % 4 by omega,
    show (4 * (m + 4) + j) % 4 = j by omega, show (4 * (m + 4) + j) / 4 / 4 - 1 = m / 4 by omega]
theorem NS.copied {w wr : World} {g : Nat} {key : Nat → Nat} {i : Nat} (h : NS w g key i wr) (hi : i < 4) (hg : w.heap.size < g) : NS w g key (i + 1) (wr.setRow g (bys 432 (spl (CF (KK key i)) (256 + 4 * i) 4 fun j => key (4 * i + j)))) := by
  refine ⟨Below.row h.1 (by omega) _, h.2.1.farRow (by omega) _, (OwnB.setRow h.2.2 _).congr fun q hq => ?_⟩
  unfold spl CF KK
  by_cases h1 : q < 256
  · rw [if_neg (by omega), if_pos h1, if_pos h1]
  · by_cases h2 : q < 256 + 4 * i
    · rw [if_neg (by omega), if_neg h1, if_neg h1, if_pos (by omega), if_pos (by omega)]
    · by_cases h3 : q < 256 + 4 * i + 4
      · rw [if_pos (by omega), if_neg h1, if_pos (by omega), Aes.ks_lo _ _ (by omega)]; show key (4 * i + (q - (256 + 4 * i))) = _; rw [show 4 * i + (q - (256 + 4 * i)) = q - 256 by omega]
      · rw [if_neg (by omega), if_neg h1, if_neg h1, if_neg (by omega), if_neg (by omega)]
set_option maxHeartbeats 8000000 in
set_option maxRecDepth 100000 in
theorem new_any (key : Nat → Nat) (w : World) (hk : ∀ i, key i < 256) :
    Calls Tryd.prog 65 #[.agg (bys 16 key)] w fun e w' => ∃ g, w.heap.size ≤ g ∧ e = .returned (.pointer (some ⟨g, 0, none⟩)) ∧ Ciph w' g (Aes.ks key) ∧ Below w.heap.size w w' := by
  have HK := Lib.hid hk
  clear hk
  go_enter Tryd.func65, Tryd.ntmps65
  go_wp2_with fail
  refine (makeS_any _).mono ?_
  rintro e w1 ⟨rfl, hb⟩
  have H0 : Below w.heap.size w w1 ∧ OwnB w1 w.heap.size 16 137 key := ⟨((Below.refl w.heap.size w).alloc (Nat.le_refl _) _).trans (hb.mono (by simp)), (OwnB.new w 16 137 key).below hb (by simp)⟩
  have HH := Lib.hid H0
  have hlt : w.heap.size < w1.heap.size := H0.2.lt
  clear H0 hb
  go_wp2_with (refine bd_cipher rfl _ rfl rfl ?_)
  have HS : NS w w1.heap.size key 0 (w1.alloc (.cells (bys 432 fun q => if q < 256 then Aes.sb q else 0) 176)) :=
    ⟨HH.out.1.alloc (by omega) _, HH.out.2.alloc _, (OwnB.new w1 432 176 _).congr fun q _ => rfl⟩
  have HN := Lib.hid HS
  clear HS HH
  have hlt0 := hlt
  clear hlt
  generalize w1.heap.size = g at hlt0 HN ⊢
  go_loopw [8] (fun t wr => ∃ i : Nat, i ≤ 44 ∧ t = .int .i64 i ∧ NS w g key i wr) (fun t _ => 44 - (intOf t).toNat)
  case atStart => exact ⟨0, by omega, rfl, HN.out⟩
  case round =>
    clear HN
    obtain ⟨i, hi, rfl, H⟩ := hrel
    by_cases h4 : i < 4
    · have HH := Lib.hid H
      clear H
      rcases (show i = 0 ∨ i = 1 ∨ i = 2 ∨ i = 3 by omega) with rfl | rfl | rfl | rfl
      · have z : IntKind.i64.wrap 0 = 0 := rfl
        go_wp2
        go_still_tail 9, (by kernel_rfl)
        change wpList _ _ _ _ _ wr.drew
        have HE := Lib.hid (show NS w g key 0 wr.drew from ⟨HH.out.1.drew, HH.out.2.1, HH.out.2.2⟩)
        clear HH
        generalize wr.drew = w2 at HE ⊢
        go_wp2_with (refine cp_bytes rfl _ _ rfl _ _ _ _ _ _ _ 4 rfl rfl HE.out.2.2 rfl (fun j hj => HE.out.2.1.cell' 0 j (by omega)) (by omega) ?_)
        go_roundw
        case rel => exact ⟨1, by omega, rfl, NS.copied HE.out (by omega) hlt0⟩
        case measure => simp [intOf]
      · have z : IntKind.i64.wrap 4 = 4 := rfl
        go_wp2
        go_still_tail 9, (by kernel_rfl)
        change wpList _ _ _ _ _ wr.drew
        have HE := Lib.hid (show NS w g key 1 wr.drew from ⟨HH.out.1.drew, HH.out.2.1, HH.out.2.2⟩)
        clear HH
        generalize wr.drew = w2 at HE ⊢
        go_wp2_with (refine cp_bytes rfl _ _ rfl _ _ _ _ _ _ _ 4 rfl rfl HE.out.2.2 rfl (fun j hj => HE.out.2.1.cell' 4 j (by omega)) (by omega) ?_)
        go_roundw
        case rel => exact ⟨2, by omega, rfl, NS.copied HE.out (by omega) hlt0⟩
        case measure => simp [intOf]
      · have z : IntKind.i64.wrap 8 = 8 := rfl
        go_wp2
        go_still_tail 9, (by kernel_rfl)
        change wpList _ _ _ _ _ wr.drew
        have HE := Lib.hid (show NS w g key 2 wr.drew from ⟨HH.out.1.drew, HH.out.2.1, HH.out.2.2⟩)
        clear HH
        generalize wr.drew = w2 at HE ⊢
        go_wp2_with (refine cp_bytes rfl _ _ rfl _ _ _ _ _ _ _ 4 rfl rfl HE.out.2.2 rfl (fun j hj => HE.out.2.1.cell' 8 j (by omega)) (by omega) ?_)
        go_roundw
        case rel => exact ⟨3, by omega, rfl, NS.copied HE.out (by omega) hlt0⟩
        case measure => simp [intOf]
      · have z : IntKind.i64.wrap 12 = 12 := rfl
        go_wp2
        go_still_tail 9, (by kernel_rfl)
        change wpList _ _ _ _ _ wr.drew
        have HE := Lib.hid (show NS w g key 3 wr.drew from ⟨HH.out.1.drew, HH.out.2.1, HH.out.2.2⟩)
        clear HH
        generalize wr.drew = w2 at HE ⊢
        go_wp2_with (refine cp_bytes rfl _ _ rfl _ _ _ _ _ _ _ 4 rfl rfl HE.out.2.2 rfl (fun j hj => HE.out.2.1.cell' 12 j (by omega)) (by omega) ?_)
        go_roundw
        case rel => exact ⟨4, by omega, rfl, NS.copied HE.out (by omega) hlt0⟩
        case measure => simp [intOf]
    · by_cases hlt : i < 44
      · obtain ⟨m, rfl⟩ : ∃ m, i = m + 4 := ⟨i - 4, by omega⟩
        have e1 : IntKind.i64.wrap ((m : Int) + 4 - 4) = (m : Int) := by rw [i64_nat _ (by omega) (by omega)]; omega
        have e2 : IntKind.i64.wrap ((m : Int) + 4 - 1) = (m : Int) + 3 := by rw [i64_nat _ (by omega) (by omega)]; omega
        have e1' : IntKind.i64.wrap (m : Int) = (m : Int) := i64_nat _ (by omega) (by omega)
        have e2' : IntKind.i64.wrap ((m : Int) + 3) = (m : Int) + 3 := i64_nat _ (by omega) (by omega)
        have e3 : (m : Int) < 44 := by omega
        have e4 : (m : Int) + 3 < 44 := by omega
        have e5 : (m : Int) + 4 < 44 := by omega
        have e6 : ((m : Int) + 3).toNat = m + 3 := by omega
        have e7 : ((m : Int) + 4).toNat = m + 4 := by omega
        have e8 : (0 : Int) ≤ (m : Int) + 3 := by omega
        have e9 : (0 : Int) ≤ (m : Int) + 4 := by omega
        have HH := Lib.hid H
        have hm40 : m < 40 := by omega
        clear H
        have hltg := hlt0
        by_cases h0 : m % 4 = 0
        · have hI : (((m : Int) + 4).tmod 4 != 0) = false := by
            have : ((m : Int) + 4).tmod 4 = 0 := by rw [Int.tmod_eq_emod_of_nonneg (by omega)]; omega
            rw [this]; rfl
          have HJ := Lib.hid (show IntKind.i64.wrap (IntKind.i64.wrap (((m : Int) + 4).tdiv 4) - 1) = ((m / 4 : Nat) : Int) by
            rw [Int.tdiv_eq_ediv_of_nonneg (by omega), i64_nat (((m : Int) + 4) / 4) (by omega) (by omega), i64_nat _ (by omega) (by omega)]; omega)
          go_wp2
          go_region_held3 (fun w' => (w'.cell? ⟨g, 256 + m * 4, none⟩ = some (.int .u8 (Aes.ks key (4 * m) : Int)) ∧ w'.cell? ⟨g, 256 + m * 4 + 1, none⟩ = some (.int .u8 (Aes.ks key (4 * m + 1) : Int)) ∧ w'.cell? ⟨g, 256 + m * 4 + 2, none⟩ = some (.int .u8 (Aes.ks key (4 * m + 2) : Int)) ∧ w'.cell? ⟨g, 256 + m * 4 + 3, none⟩ = some (.int .u8 (Aes.ks key (4 * m + 3) : Int)) ∧ w'.cell? ⟨g, 256 + (m + 3) * 4, none⟩ = some (.int .u8 (Aes.ks key (4 * (m + 3)) : Int)) ∧ w'.cell? ⟨g, 256 + (m + 3) * 4 + 1, none⟩ = some (.int .u8 (Aes.ks key (4 * (m + 3) + 1) : Int)) ∧ w'.cell? ⟨g, 256 + (m + 3) * 4 + 2, none⟩ = some (.int .u8 (Aes.ks key (4 * (m + 3) + 2) : Int)) ∧ w'.cell? ⟨g, 256 + (m + 3) * 4 + 3, none⟩ = some (.int .u8 (Aes.ks key (4 * (m + 3) + 3) : Int)) ∧ w'.cell? ⟨g, 256 + (m + 4) * 4, none⟩ = some (cellV w' g (256 + (m + 4) * 4)) ∧ w'.cell? ⟨g, 256 + (m + 4) * 4 + 1, none⟩ = some (cellV w' g (256 + (m + 4) * 4 + 1)) ∧ w'.cell? ⟨g, 256 + (m + 4) * 4 + 2, none⟩ = some (cellV w' g (256 + (m + 4) * 4 + 2)) ∧ w'.cell? ⟨g, 256 + (m + 4) * 4 + 3, none⟩ = some (cellV w' g (256 + (m + 4) * 4 + 3)) ∧ w'.frozen? ⟨g, 256 + (m + 4) * 4, none⟩ = false ∧ w'.frozen? ⟨g, 256 + (m + 4) * 4 + 1, none⟩ = false ∧ w'.frozen? ⟨g, 256 + (m + 4) * 4 + 2, none⟩ = false ∧ w'.frozen? ⟨g, 256 + (m + 4) * 4 + 3, none⟩ = false) ∧ Hid (NT w g key m w')) (first | exact NT.cells (NT.drew (NS.nt HH.out)) hm40 | exact NT.step (by assumption) (by assumption) hm40 | exact NT.cells (NT.sets (by assumption) hltg _ _ _ _) hm40)
            (first
              | (go_at_call 89; refine (changed_yes_raw _ _ _ _ _ _ (m / 4) _ (NT.ciph (by assumption)) (by first | exact Aes.ks_lt key HK.out _ | exact Aes.sb_lt _ | exact Aes.byte_xor (Aes.sb_lt _) (Aes.pw_lt _)) (by first | exact Aes.ks_lt key HK.out _ | exact Aes.sb_lt _ | exact Aes.byte_xor (Aes.sb_lt _) (Aes.pw_lt _)) (by first | exact Aes.ks_lt key HK.out _ | exact Aes.sb_lt _ | exact Aes.byte_xor (Aes.sb_lt _) (Aes.pw_lt _)) (by first | exact Aes.ks_lt key HK.out _ | exact Aes.sb_lt _ | exact Aes.byte_xor (Aes.sb_lt _) (Aes.pw_lt _)) hI HJ.out (by omega)).mono ?_; rintro e w1 ⟨rfl, hb1⟩; have HB1 := Lib.hid hb1; clear hb1)
              | (go_at_call 88; refine (addColumns_raw _ _ _ _ _ _ _ _ _ (by first | exact Aes.ks_lt key HK.out _ | exact Aes.sb_lt _ | exact Aes.byte_xor (Aes.sb_lt _) (Aes.pw_lt _)) (by first | exact Aes.ks_lt key HK.out _ | exact Aes.sb_lt _ | exact Aes.byte_xor (Aes.sb_lt _) (Aes.pw_lt _)) (by first | exact Aes.ks_lt key HK.out _ | exact Aes.sb_lt _ | exact Aes.byte_xor (Aes.sb_lt _) (Aes.pw_lt _)) (by first | exact Aes.ks_lt key HK.out _ | exact Aes.sb_lt _ | exact Aes.byte_xor (Aes.sb_lt _) (Aes.pw_lt _)) (by first | exact Aes.ks_lt key HK.out _ | exact Aes.sb_lt _ | exact Aes.byte_xor (Aes.sb_lt _) (Aes.pw_lt _)) (by first | exact Aes.ks_lt key HK.out _ | exact Aes.sb_lt _ | exact Aes.byte_xor (Aes.sb_lt _) (Aes.pw_lt _)) (by first | exact Aes.ks_lt key HK.out _ | exact Aes.sb_lt _ | exact Aes.byte_xor (Aes.sb_lt _) (Aes.pw_lt _)) (by first | exact Aes.ks_lt key HK.out _ | exact Aes.sb_lt _ | exact Aes.byte_xor (Aes.sb_lt _) (Aes.pw_lt _))).mono ?_; rintro e w1 ⟨rfl, hb1⟩; have HB1 := Lib.hid hb1; clear hb1))
          go_wp2
          go_roundw
          case rel => exact ⟨m + 5, by omega, by go_num, NT.made _ _ _ _ (by assumption) hm40 ((ks_yes key m 0 (by omega) h0).symm.trans (by simp)).symm ((ks_yes key m 1 (by omega) h0).symm.trans (by simp)).symm ((ks_yes key m 2 (by omega) h0).symm.trans (by simp)).symm ((ks_yes key m 3 (by omega) h0).symm.trans (by simp)).symm⟩
          case measure => simp [intOf]; omega
        · have hI : (((m : Int) + 4).tmod 4 != 0) = true := by
            have : ((m : Int) + 4).tmod 4 = ((m % 4 : Nat) : Int) := by rw [Int.tmod_eq_emod_of_nonneg (by omega)]; omega
            rw [this]; simp; omega
          go_wp2
          go_region_held3 (fun w' => (w'.cell? ⟨g, 256 + m * 4, none⟩ = some (.int .u8 (Aes.ks key (4 * m) : Int)) ∧ w'.cell? ⟨g, 256 + m * 4 + 1, none⟩ = some (.int .u8 (Aes.ks key (4 * m + 1) : Int)) ∧ w'.cell? ⟨g, 256 + m * 4 + 2, none⟩ = some (.int .u8 (Aes.ks key (4 * m + 2) : Int)) ∧ w'.cell? ⟨g, 256 + m * 4 + 3, none⟩ = some (.int .u8 (Aes.ks key (4 * m + 3) : Int)) ∧ w'.cell? ⟨g, 256 + (m + 3) * 4, none⟩ = some (.int .u8 (Aes.ks key (4 * (m + 3)) : Int)) ∧ w'.cell? ⟨g, 256 + (m + 3) * 4 + 1, none⟩ = some (.int .u8 (Aes.ks key (4 * (m + 3) + 1) : Int)) ∧ w'.cell? ⟨g, 256 + (m + 3) * 4 + 2, none⟩ = some (.int .u8 (Aes.ks key (4 * (m + 3) + 2) : Int)) ∧ w'.cell? ⟨g, 256 + (m + 3) * 4 + 3, none⟩ = some (.int .u8 (Aes.ks key (4 * (m + 3) + 3) : Int)) ∧ w'.cell? ⟨g, 256 + (m + 4) * 4, none⟩ = some (cellV w' g (256 + (m + 4) * 4)) ∧ w'.cell? ⟨g, 256 + (m + 4) * 4 + 1, none⟩ = some (cellV w' g (256 + (m + 4) * 4 + 1)) ∧ w'.cell? ⟨g, 256 + (m + 4) * 4 + 2, none⟩ = some (cellV w' g (256 + (m + 4) * 4 + 2)) ∧ w'.cell? ⟨g, 256 + (m + 4) * 4 + 3, none⟩ = some (cellV w' g (256 + (m + 4) * 4 + 3)) ∧ w'.frozen? ⟨g, 256 + (m + 4) * 4, none⟩ = false ∧ w'.frozen? ⟨g, 256 + (m + 4) * 4 + 1, none⟩ = false ∧ w'.frozen? ⟨g, 256 + (m + 4) * 4 + 2, none⟩ = false ∧ w'.frozen? ⟨g, 256 + (m + 4) * 4 + 3, none⟩ = false) ∧ Hid (NT w g key m w')) (first | exact NT.cells (NT.drew (NS.nt HH.out)) hm40 | exact NT.step (by assumption) (by assumption) hm40 | exact NT.cells (NT.sets (by assumption) hltg _ _ _ _) hm40)
            (first
              | (go_at_call 89; refine (changed_no_raw _ _ _ _ _ _ _ hI).mono ?_; rintro e w1 ⟨rfl, hb1⟩; have HB1 := Lib.hid hb1; clear hb1)
              | (go_at_call 88; refine (addColumns_raw _ _ _ _ _ _ _ _ _ (by first | exact Aes.ks_lt key HK.out _ | exact Aes.sb_lt _ | exact Aes.byte_xor (Aes.sb_lt _) (Aes.pw_lt _)) (by first | exact Aes.ks_lt key HK.out _ | exact Aes.sb_lt _ | exact Aes.byte_xor (Aes.sb_lt _) (Aes.pw_lt _)) (by first | exact Aes.ks_lt key HK.out _ | exact Aes.sb_lt _ | exact Aes.byte_xor (Aes.sb_lt _) (Aes.pw_lt _)) (by first | exact Aes.ks_lt key HK.out _ | exact Aes.sb_lt _ | exact Aes.byte_xor (Aes.sb_lt _) (Aes.pw_lt _)) (by first | exact Aes.ks_lt key HK.out _ | exact Aes.sb_lt _ | exact Aes.byte_xor (Aes.sb_lt _) (Aes.pw_lt _)) (by first | exact Aes.ks_lt key HK.out _ | exact Aes.sb_lt _ | exact Aes.byte_xor (Aes.sb_lt _) (Aes.pw_lt _)) (by first | exact Aes.ks_lt key HK.out _ | exact Aes.sb_lt _ | exact Aes.byte_xor (Aes.sb_lt _) (Aes.pw_lt _)) (by first | exact Aes.ks_lt key HK.out _ | exact Aes.sb_lt _ | exact Aes.byte_xor (Aes.sb_lt _) (Aes.pw_lt _))).mono ?_; rintro e w1 ⟨rfl, hb1⟩; have HB1 := Lib.hid hb1; clear hb1))
          go_wp2
          go_roundw
          case rel => exact ⟨m + 5, by omega, by go_num, NT.made _ _ _ _ (by assumption) hm40 (ks_no key m 0 (by omega) h0) (ks_no key m 1 (by omega) h0) (ks_no key m 2 (by omega) h0) (ks_no key m 3 (by omega) h0)⟩
          case measure => simp [intOf]; omega
      · obtain rfl : i = 44 := by omega
        have HH := Lib.hid H
        clear H
        go_wp2
        go_ret
        exact ⟨g, by omega, rfl, OwnB.congr HH.out.2.2 (fun q hq => by unfold CF KK; by_cases h : q < 256; simp [h]; rw [if_neg h, if_neg h, if_pos (by omega)]), HH.out.1⟩
end Go.Proofs.YtamejhhjfnfalaaDoor.Ae

/- Contract of aes' Fixed. -/
namespace Go.Proofs.YtamejhhjfnfalaaDoor.Ae
open Go.RowKit

/-- A cipher made: where it lies, and that old memory stays. -/
def Made (w : World) (key : Nat → Nat) (g : Nat) (w' : World) : Prop := w.heap.size ≤ g ∧ Ciph w' g (Aes.ks key) ∧ Below w.heap.size w w'
def MadeE (w : World) (key : Nat → Nat) (e : Ending) (w' : World) : Prop := ∃ g, e = .returned (.pointer (some ⟨g, 0, none⟩)) ∧ Made w key g w'
theorem new_made (key : Nat → Nat) (w : World) (hk : ∀ i, key i < 256) : Calls Tryd.prog 65 #[.agg (bys 16 key)] w (MadeE w key) :=
  (new_any key w hk).mono fun _ _ ⟨g, h1, h2, h3, h4⟩ => ⟨g, h2, h1, h3, h4⟩
/-- The key 0 to 15. -/
def kf : Nat → Nat := upTo 16 (fun q => q) (fun _ => 0)
theorem kf_lt (i : Nat) : kf i < 256 := by
  show (if i < 16 then i else 0) < 256
  split <;> omega
theorem kf_at (i : Nat) (h : i < 16) : kf i = i := if_pos h
def FX (w : World) (i : Nat) (wr : World) : Prop := Below w.heap.size w wr ∧ OwnB wr w.heap.size 16 137 (upTo i (fun q => q) fun _ => 0)
theorem FX.start (w : World) : FX w 0 (w.alloc (.cells (bys 16 fun _ => 0) 137)) := ⟨(Below.refl _ _).alloc (Nat.le_refl _) _, OwnB.new w 16 137 fun _ => 0⟩
set_option maxHeartbeats 1000000 in
set_option maxRecDepth 100000 in
theorem fixed_any (w : World) : Calls Tryd.prog 39 #[] w (MadeE w kf) := by
  go_enter Tryd.func39, Tryd.ntmps39
  go_wp2
  go_loopw [3] (fun t wr => ∃ i : Nat, i ≤ 16 ∧ t = .int .i64 i ∧ FX w i wr) (fun t _ => 16 - (intOf t).toNat)
  case atStart => exact ⟨0, by omega, rfl, FX.start w⟩
  case round =>
    obtain ⟨i, hi, rfl, H⟩ := hrel
    by_cases hlt : i < 16
    · have c1 : wr.cell? ⟨w.heap.size, i, none⟩ = some (.int .u8 0) := by rw [H.2.cell i hlt, upTo_at]; rfl
      have c2 := H.2.frozen i
      have HH := Lib.hid H
      clear H
      go_wp2
      go_roundw
      case rel => exact ⟨i + 1, by omega, by go_num, HH.out.1.setCell (Nat.le_refl _) _, (HH.out.2.set i i).congr fun q _ => upTo_step i (fun q => q) (fun _ => 0) q⟩
      case measure => simp [intOf]; omega
    · obtain rfl : i = 16 := by omega
      have h1 := H.2
      have HH := Lib.hid H.1
      clear H
      go_wp2_with (refine ld_row 137 16 _ Tryd.underlying137 Tryd.info137 rfl _ rfl _ rfl h1 ?_)
      refine (new_made kf _ kf_lt).mono ?_
      rintro e w1 ⟨g, rfl, hg, hc, hb⟩
      go_wp2
      go_ret
      exact ⟨g, rfl, by have := HH.out.size; omega, hc, HH.out.trans (hb.mono HH.out.size)⟩
end Go.Proofs.YtamejhhjfnfalaaDoor.Ae
