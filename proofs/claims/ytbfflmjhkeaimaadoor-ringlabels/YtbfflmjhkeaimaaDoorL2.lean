/- Doubling labels: it keeps sums and differences; the walk of the law RingLabels. -/
import Derived.Test.YtbfflmjhkeaimaaDoorA1
import Derived.Deep.RegionHeld3
namespace Go.Proofs.YtbfflmjhkeaimaaDoor
open Go.RowKit

theorem xor_lt {X Y : Nat} (hX : X < 18446744073709551616) (hY : Y < 18446744073709551616) : X ^^^ Y < 18446744073709551616 :=
  Nat.xor_lt_two_pow (n := 64) hX hY
theorem xor_bd (a b : Int) (ha : 0 ≤ a ∧ a < 18446744073709551616) (hb : 0 ≤ b ∧ b < 18446744073709551616) : 0 ≤ bits .xor .u64 a b ∧ bits .xor .u64 a b < 18446744073709551616 := by
  obtain ⟨X, rfl⟩ := Int.eq_ofNat_of_zero_le ha.1
  obtain ⟨Y, rfl⟩ := Int.eq_ofNat_of_zero_le hb.1
  rw [bits_xor X Y (by omega) (by omega)]
  have := xor_lt (X := X) (Y := Y) (by omega) (by omega)
  omega
/-- Doubling a label of two numbers. -/
def dloN (X Y : Nat) : Nat := if 9223372036854775808 ≤ Y then (X * 2 % 18446744073709551616) ^^^ 135 else X * 2 % 18446744073709551616
def dhiN (X Y : Nat) : Nat := Y * 2 % 18446744073709551616 + X / 9223372036854775808
theorem dlo_nat (X Y : Nat) : dlo (X : Int) (Y : Int) = (dloN X Y : Int) := by
  unfold dlo dloN
  have e : (X : Int) * 2 % 18446744073709551616 = ((X * 2 % 18446744073709551616 : Nat) : Int) := by omega
  by_cases h : 9223372036854775808 ≤ Y
  · rw [if_pos (by omega), if_pos h, e]
    exact bits_xor _ 135 (by omega) (by omega)
  · rw [if_neg (by omega), if_neg h, e]
theorem dhi_nat (X Y : Nat) : dhi (X : Int) (Y : Int) = (dhiN X Y : Int) := by
  unfold dhi dhiN; omega
theorem dloN_lt (X Y : Nat) : dloN X Y < 18446744073709551616 := by
  unfold dloN; split
  · exact xor_lt (by omega) (by omega)
  · omega
theorem dhiN_lt (X Y : Nat) (hX : X < 18446744073709551616) : dhiN X Y < 18446744073709551616 := by
  unfold dhiN; omega
/-- The doubled words by bits. -/
theorem dloN_bit (X Y : Nat) (hY : Y < 18446744073709551616) (i : Nat) : (dloN X Y).testBit i = ((decide (1 ≤ i) && decide (i < 64) && X.testBit (i - 1)) ^^ (Y.testBit 63 && (135 : Nat).testBit i)) := by
  have h2 : (X * 2 % 18446744073709551616).testBit i = (decide (1 ≤ i) && decide (i < 64) && X.testBit (i - 1)) := by
    rw [show (18446744073709551616 : Nat) = 2 ^ 64 from rfl, Nat.testBit_mod_two_pow, Nat.mul_comm]
    rw [show 2 * X = 2 ^ 1 * X from rfl, Nat.testBit_two_pow_mul]
    rcases Nat.lt_or_ge i 64 with h | h <;> rcases Nat.lt_or_ge i 1 with h' | h' <;> simp [h, h', Nat.not_le.2, Nat.not_lt.2]
  have h3 : Y.testBit 63 = decide (9223372036854775808 ≤ Y) := by
    have : Y.testBit 63 = decide (Y / 2 ^ 63 % 2 = 1) := by
      rw [Nat.testBit_eq_decide_div_mod_eq]
    rw [this]
    congr 1
    simp only [show (2 : Nat) ^ 63 = 9223372036854775808 from rfl]
    apply propext
    omega
  unfold dloN
  rw [h3]
  by_cases h : 9223372036854775808 ≤ Y
  · rw [if_pos h, Nat.testBit_xor, h2]; simp [h]
  · rw [if_neg h, h2]; simp [h]
theorem dhiN_bit (X Y : Nat) (hX : X < 18446744073709551616) (i : Nat) : (dhiN X Y).testBit i = ((decide (1 ≤ i) && decide (i < 64) && Y.testBit (i - 1)) || (decide (i = 0) && X.testBit 63)) := by
  have hb : X / 9223372036854775808 < 2 ^ 1 := by omega
  have he : dhiN X Y = (2 ^ 1 * (Y % 9223372036854775808)) ||| (X / 9223372036854775808) := by
    rw [← Nat.two_pow_add_eq_or_of_lt hb]; unfold dhiN; omega
  rw [he, Nat.testBit_or, Nat.testBit_two_pow_mul]
  have h1 : (X / 9223372036854775808).testBit i = (decide (i = 0) && X.testBit 63) := by
    rw [show (9223372036854775808 : Nat) = 2 ^ 63 from rfl, Nat.testBit_div_two_pow]
    rcases i with _ | i
    · simp
    · have : X.testBit (63 + (i + 1)) = false := Nat.testBit_lt_two_pow (Nat.lt_of_lt_of_le hX (by
        rw [show (18446744073709551616 : Nat) = 2 ^ 64 from rfl]; exact Nat.pow_le_pow_right (by omega) (by omega)))
      rw [Nat.add_comm]
      simp [this]
  rw [h1, show (9223372036854775808 : Nat) = 2 ^ 63 from rfl, Nat.testBit_mod_two_pow]
  congr 1
  by_cases h' : 1 ≤ i
  · have e : (i - 1 < 63) ↔ (i < 64) := by omega
    simp [h', e]
  · simp [h']
theorem dloN_xor (X Y X' Y' : Nat) (hY : Y < 18446744073709551616) (hY' : Y' < 18446744073709551616) : dloN (X ^^^ X') (Y ^^^ Y') = dloN X Y ^^^ dloN X' Y' := by
  apply Nat.eq_of_testBit_eq
  intro i
  rw [Nat.testBit_xor, dloN_bit _ _ (xor_lt hY hY'), dloN_bit _ _ hY, dloN_bit _ _ hY', Nat.testBit_xor, Nat.testBit_xor]
  generalize decide (1 ≤ i) = p1
  generalize decide (i < 64) = p2
  generalize X.testBit (i - 1) = p3
  generalize X'.testBit (i - 1) = p4
  generalize Y.testBit 63 = p5
  generalize Y'.testBit 63 = p6
  generalize (135 : Nat).testBit i = p7
  revert p1 p2 p3 p4 p5 p6 p7
  decide
theorem dhiN_xor (X Y X' Y' : Nat) (hX : X < 18446744073709551616) (hX' : X' < 18446744073709551616) : dhiN (X ^^^ X') (Y ^^^ Y') = dhiN X Y ^^^ dhiN X' Y' := by
  apply Nat.eq_of_testBit_eq
  intro i
  rw [Nat.testBit_xor, dhiN_bit _ _ (xor_lt hX hX'), dhiN_bit _ _ hX, dhiN_bit _ _ hX', Nat.testBit_xor, Nat.testBit_xor]
  have h : decide (1 ≤ i) = !decide (i = 0) := by
    rcases i with _ | i <;> simp
  rw [h]
  generalize decide (i = 0) = p1
  generalize decide (i < 64) = p2
  generalize X.testBit 63 = p3
  generalize X'.testBit 63 = p4
  generalize Y.testBit (i - 1) = p5
  generalize Y'.testBit (i - 1) = p6
  revert p1 p2 p3 p4 p5 p6
  decide
theorem double_inj (X Y X' Y' : Nat) (hX : X < 18446744073709551616) (hX' : X' < 18446744073709551616) (hY : Y < 18446744073709551616) (hY' : Y' < 18446744073709551616)
    (h1 : dloN X Y = dloN X' Y') (h2 : dhiN X Y = dhiN X' Y') : X = X' ∧ Y = Y' := by
  have l := fun i => (dloN_bit X Y hY i).symm.trans ((congrArg (Nat.testBit · i) h1).trans (dloN_bit X' Y' hY' i))
  have u := fun i => (dhiN_bit X Y hX i).symm.trans ((congrArg (Nat.testBit · i) h2).trans (dhiN_bit X' Y' hX' i))
  have top : Y.testBit 63 = Y'.testBit 63 := by
    have := l 0
    simpa using this
  have topX : X.testBit 63 = X'.testBit 63 := by
    have := u 0
    simpa using this
  have big : ∀ {Z : Nat}, Z < 18446744073709551616 → ∀ i, 64 ≤ i → Z.testBit i = false := fun hZ i hi =>
    Nat.testBit_lt_two_pow (Nat.lt_of_lt_of_le hZ (by rw [show (18446744073709551616 : Nat) = 2 ^ 64 from rfl]; exact Nat.pow_le_pow_right (by omega) hi))
  constructor
  · apply Nat.eq_of_testBit_eq
    intro i
    rcases Nat.lt_or_ge i 63 with hi | hi
    · have := l (i + 1)
      rw [top] at this
      have e : i + 1 < 64 := by omega
      simpa [e] using this
    · rcases Nat.eq_or_lt_of_le hi with e | h
      · rw [← e]; exact topX
      · rw [big hX i h, big hX' i h]
  · apply Nat.eq_of_testBit_eq
    intro i
    rcases Nat.lt_or_ge i 63 with hi | hi
    · have := u (i + 1)
      have e : i + 1 < 64 := by omega
      simpa [e] using this
    · rcases Nat.eq_or_lt_of_le hi with e | h
      · rw [← e]; exact top
      · rw [big hY i h, big hY' i h]
/-- What RingLabels asks, of words. -/
theorem labels_math (a0 a1 b0 b1 : Int) (h0 : 0 ≤ a0 ∧ a0 < 18446744073709551616) (h1 : 0 ≤ a1 ∧ a1 < 18446744073709551616) (k0 : 0 ≤ b0 ∧ b0 < 18446744073709551616) (k1 : 0 ≤ b1 ∧ b1 < 18446744073709551616) :
    bits .xor .u64 (dlo a0 a1) (dlo b0 b1) = dlo (bits .xor .u64 a0 b0) (bits .xor .u64 a1 b1) ∧ bits .xor .u64 (dhi a0 a1) (dhi b0 b1) = dhi (bits .xor .u64 a0 b0) (bits .xor .u64 a1 b1) ∧
      (dlo a0 a1 = dlo b0 b1 → dhi a0 a1 = dhi b0 b1 → a0 = b0 ∧ a1 = b1) := by
  obtain ⟨X, rfl⟩ := Int.eq_ofNat_of_zero_le h0.1
  obtain ⟨Y, rfl⟩ := Int.eq_ofNat_of_zero_le h1.1
  obtain ⟨X', rfl⟩ := Int.eq_ofNat_of_zero_le k0.1
  obtain ⟨Y', rfl⟩ := Int.eq_ofNat_of_zero_le k1.1
  have hX : X < 18446744073709551616 := by omega
  have hY : Y < 18446744073709551616 := by omega
  have hX' : X' < 18446744073709551616 := by omega
  have hY' : Y' < 18446744073709551616 := by omega
  simp only [dlo_nat, dhi_nat]
  rw [bits_xor X X' hX hX', bits_xor Y Y' hY hY', bits_xor _ _ (dloN_lt _ _) (dloN_lt _ _), bits_xor _ _ (dhiN_lt _ _ hX) (dhiN_lt _ _ hX'), dlo_nat, dhi_nat, dloN_xor _ _ _ _ hY hY', dhiN_xor _ _ _ _ hX hX']
  refine ⟨rfl, rfl, fun e1 e2 => ?_⟩
  obtain ⟨r1, r2⟩ := double_inj X Y X' Y' hX hX' hY hY' (by omega) (by omega)
  exact ⟨by rw [r1], by rw [r2]⟩
end Go.Proofs.YtbfflmjhkeaimaaDoor
