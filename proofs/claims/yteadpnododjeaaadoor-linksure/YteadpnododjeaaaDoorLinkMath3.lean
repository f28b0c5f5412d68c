/- Plain mathematics for the link laws: the sum by fours of bits. No function of the program. -/
import Derived.Test.YteadpnododjeaaaDoorLinkMath2
namespace Go.Proofs.YteadpnododjeaaaDoor
namespace Link

/-- Four bits at once, by the table of the sixteen. -/
theorem it_nib (x : Nat) : it 4 x = x / 16 ^^^ it 4 (x % 16) := by
  have e : x = x % 16 ^^^ 2 ^ 4 * (x / 16) := by
    rw [xor_add _ _ 4 (Nat.mod_lt _ (by omega))]
    omega
  have h := congrArg (it 4) e
  rw [it_xor, it_shift] at h
  rw [Nat.xor_comm]
  exact h
/-- The table. -/
def half : Nat → Nat
  | 0 => 0 | 1 => 498536548 | 2 => 997073096 | 3 => 651767980 | 4 => 1994146192 | 5 => 1802195444 | 6 => 1303535960 | 7 => 1342533948
  | 8 => 3988292384 | 9 => 4027552580 | 10 => 3604390888 | 11 => 3412177804 | 12 => 2607071920 | 13 => 2262029012 | 14 => 2685067896 | 15 => 3183342108 | _ => 0
theorem half_it : ∀ k, k < 16 → half k = it 4 k := by decide
theorem half_lt (k : Nat) (h : k < 16) : half k < 4294967296 := by rw [half_it k h]; exact it_lt 4 (by omega)
/-- Four bits of the register, as the program reckons. -/
def nib (x : Nat) : Nat := x / 16 ^^^ half (x % 16)
theorem nib_it (x : Nat) : nib x = it 4 x := by
  unfold nib
  rw [half_it _ (Nat.mod_lt _ (by omega)), ← it_nib]
theorem nib_lt {x : Nat} (h : x < 4294967296) : nib x < 4294967296 := by rw [nib_it]; exact it_lt 4 h
theorem reg_nib (c : Nat) (f : Nat → Nat) (n : Nat) : reg c f (n + 1) = nib (nib (reg c f n ^^^ f n)) := by
  rw [nib_it, nib_it, ← it_add 4 4]
  rfl
/-- Four bytes one by one. -/
theorem or_add (a b j : Nat) (ha : a < 2 ^ j) : a ||| 2 ^ j * b = a + 2 ^ j * b := by
  rw [Nat.add_comm, Nat.or_comm, Nat.two_pow_add_eq_or_of_lt ha]
/-- A number, byte by byte. -/
def acc (f : Nat → Nat) (a : Nat) : Nat → Nat
  | 0 => 0
  | k + 1 => acc f a k ||| 256 ^ k * f (a + k)
theorem acc_lt (f : Nat → Nat) (a : Nat) (hf : ∀ i, f i < 256) : ∀ k, acc f a k < 256 ^ k
  | 0 => Nat.one_pos
  | k + 1 => by
    have ih := acc_lt f a hf k
    have hb := hf (a + k)
    have e : (256 : Nat) ^ k = 2 ^ (8 * k) := by rw [Nat.pow_mul]
    show acc f a k ||| 256 ^ k * f (a + k) < _
    rw [e, or_add _ _ (8 * k) (by rw [← e]; exact ih), ← e, Nat.pow_succ]
    have : 256 ^ k * f (a + k) ≤ 256 ^ k * 255 := Nat.mul_le_mul_left _ (by omega)
    omega
theorem acc_add (f : Nat → Nat) (a : Nat) (hf : ∀ i, f i < 256) (k : Nat) : acc f a (k + 1) = acc f a k + 256 ^ k * f (a + k) := by
  have e : (256 : Nat) ^ k = 2 ^ (8 * k) := by rw [Nat.pow_mul]
  show acc f a k ||| 256 ^ k * f (a + k) = _
  rw [e, or_add _ _ (8 * k) (by rw [← e]; exact acc_lt f a hf k)]
theorem acc_le4 (f : Nat → Nat) (a : Nat) (hf : ∀ i, f i < 256) : acc f a 4 = le4 f a := by
  rw [acc_add f a hf 3, acc_add f a hf 2, acc_add f a hf 1, acc_add f a hf 0]
  unfold le4
  show 0 + 256 ^ 0 * f (a + 0) + 256 ^ 1 * f (a + 1) + 256 ^ 2 * f (a + 2) + 256 ^ 3 * f (a + 3) = _
  rw [Nat.add_zero]
  omega
end Link
end Go.Proofs.YteadpnododjeaaaDoor
