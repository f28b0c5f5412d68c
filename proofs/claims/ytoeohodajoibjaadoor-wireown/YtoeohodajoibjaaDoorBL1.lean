/- Two words in an array: compared; a block of them; sums, ors and exclusive ors of words. No function of the program. -/
import Derived.Test.YtoeohodajoibjaaDoorBW
namespace Go.Proofs.YtoeohodajoibjaaDoor
open Go.RowKit

abbrev lab (a b : Int) : Value := .agg #[.int .u64 a, .int .u64 b]
/-- Two labels compared. -/
theorem run_eql_lab (w : World) (a b c d : Int) : (Op.equalIn 10000 47 (lab a b) (lab c d)).run Tryd.prog w = .ok ((a == c) && (b == d)) w := by
  obtain ⟨i0, hi, _, hz1, _⟩ := info_parts Tryd.info46
  have hs : (sizeOf 46).run Tryd.prog w = .ok 1 w := by simp [sizeOf, typeInfo, hi, hz1]
  show (Op.equalIn (9999 + 1) 47 _ _).run Tryd.prog w = _
  unfold Op.equalIn
  simp only [Sem.run_bind, run_underlying Tryd.underlying47, Result.andThen_ok, hs]
  have h1 : ∀ (x y : Int), (part 46 #[Value.int .u64 x, Value.int .u64 y] 0).run Tryd.prog w = .ok (.int .u64 x) w := by
    intro x y; simp [go_sem, part]
  have h2 : ∀ (x y : Int), (part 46 #[Value.int .u64 x, Value.int .u64 y] 1).run Tryd.prog w = .ok (.int .u64 y) w := by
    intro x y; simp [go_sem, part]
  have h3 : ∀ (x y : Int), (Op.equalIn 9999 46 (.int .u64 x) (.int .u64 y)).run Tryd.prog w = .ok (x == y) w := fun x y => run_equalIn_int w 9998 46 .u64 .u64 x y Tryd.underlying46
  simp only [Std.Legacy.Range.forIn_eq_forIn_range', Std.Legacy.Range.size]
  simp only [show List.range' 0 ((2 - 0 + 1 - 1) / 1) 1 = [0, 1] from rfl, List.forIn_cons, List.forIn_nil, Nat.zero_mul, Nat.one_mul, Sem.run_bind, h1, h3, Result.andThen_ok]
  by_cases e : a = c
  · subst e
    by_cases e2 : b = d
    · subst e2; simp [h2, h3]
    · simp [e2, h2, h3]
  · simp [e]
theorem lab_eq {a b c d : Int} (h1 : a = c) (h2 : b = d) : lab a b = lab c d := by rw [h1, h2]
theorem ofInt_nat (X : Nat) (h : X < 18446744073709551616) : (BitVec.ofInt 64 (X : Int)).toNat = X := by
  rw [BitVec.ofInt_natCast, BitVec.toNat_ofNat]
  exact Nat.mod_eq_of_lt h
theorem bits_xor (X Y : Nat) (hX : X < 18446744073709551616) (hY : Y < 18446744073709551616) : bits .xor .u64 (X : Int) (Y : Int) = ((X ^^^ Y : Nat) : Int) := by
  show IntKind.u64.wrap ((BitVec.ofInt 64 (X : Int) ^^^ BitVec.ofInt 64 (Y : Int)).toNat : Int) = _
  have := (BitVec.ofInt 64 (X : Int) ^^^ BitVec.ofInt 64 (Y : Int)).isLt
  rw [u64w, Int.emod_eq_of_lt (by omega) (by omega), BitVec.toNat_xor, ofInt_nat X hX, ofInt_nat Y hY]
theorem bits_or (X Y : Nat) (hX : X < 18446744073709551616) (hY : Y < 18446744073709551616) : bits .or .u64 (X : Int) (Y : Int) = ((X ||| Y : Nat) : Int) := by
  show IntKind.u64.wrap ((BitVec.ofInt 64 (X : Int) ||| BitVec.ofInt 64 (Y : Int)).toNat : Int) = _
  have := (BitVec.ofInt 64 (X : Int) ||| BitVec.ofInt 64 (Y : Int)).isLt
  rw [u64w, Int.emod_eq_of_lt (by omega) (by omega), BitVec.toNat_or, ofInt_nat X hX, ofInt_nat Y hY]
/-- Block g is a label. -/
def Lbl (w : World) (g : Nat) (a b : Int) : Prop := w.heap[g]? = some (.cells #[.int .u64 a, .int .u64 b] 47 (0, 0))
section
variable {w w' : World} {g : Nat} {a b : Int}
theorem Lbl.lt (h : Lbl w g a b) : g < w.heap.size := (Array.getElem?_eq_some_iff.1 h).1
theorem Lbl.cell0 (h : Lbl w g a b) : w.cell? ⟨g, 0, none⟩ = some (.int .u64 a) := by rw [cell_of_row w g 0 _ 47 (0, 0) h]; rfl
theorem Lbl.cell1 (h : Lbl w g a b) : w.cell? ⟨g, 1, none⟩ = some (.int .u64 b) := by rw [cell_of_row w g 1 _ 47 (0, 0) h]; rfl
theorem Lbl.frozen (h : Lbl w g a b) (i : Nat) : w.frozen? ⟨g, i, none⟩ = false := by unfold Lbl at h; simp [World.frozen?, h]
theorem Lbl.set0 (h : Lbl w g a b) (x : Int) : Lbl (w.setCell ⟨g, 0, none⟩ (.int .u64 x)) g x b := by
  unfold Lbl at h ⊢
  simp [World.setCell, Array.getElem?_modify, h]
theorem Lbl.set1 (h : Lbl w g a b) (x : Int) : Lbl (w.setCell ⟨g, 1, none⟩ (.int .u64 x)) g a x := by
  unfold Lbl at h ⊢
  simp [World.setCell, Array.getElem?_modify, h]
theorem Lbl.far (h : Lbl w g a b) {p : Addr} (hp : g ≠ p.block) (u : Value) : Lbl (w.setCell p u) g a b := (Below.heap_setCell w p u g hp).trans h
theorem Lbl.drew (h : Lbl w g a b) : Lbl w.drew g a b := h
theorem Lbl.alloc (h : Lbl w g a b) (o : Obj) : Lbl (w.alloc o) g a b := (Below.heap_alloc w o g h.lt).trans h
theorem Lbl.new (w : World) (a b : Int) : Lbl (w.alloc (.cells #[.int .u64 a, .int .u64 b] 47)) w.heap.size a b := heap_alloc_new w _
end
theorem xor_lt {X Y : Nat} (hX : X < 18446744073709551616) (hY : Y < 18446744073709551616) : X ^^^ Y < 18446744073709551616 :=
  Nat.xor_lt_two_pow (n := 64) hX hY
theorem xor_bd (a b : Int) (ha : 0 ≤ a ∧ a < 18446744073709551616) (hb : 0 ≤ b ∧ b < 18446744073709551616) : 0 ≤ bits .xor .u64 a b ∧ bits .xor .u64 a b < 18446744073709551616 := by
  obtain ⟨X, rfl⟩ := Int.eq_ofNat_of_zero_le ha.1
  obtain ⟨Y, rfl⟩ := Int.eq_ofNat_of_zero_le hb.1
  rw [bits_xor X Y (by omega) (by omega)]
  have := xor_lt (X := X) (Y := Y) (by omega) (by omega)
  omega
end Go.Proofs.YtoeohodajoibjaaDoor
