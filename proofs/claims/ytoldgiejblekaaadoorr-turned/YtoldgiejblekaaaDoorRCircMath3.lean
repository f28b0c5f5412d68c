/- Plain mathematics for the circuit laws: circuits as functions of the place: which are good, what their gates make, how many are And. No function of the program. -/
import Derived.KernelRfl
namespace Go.Proofs.YtoldgiejblekaaaDoorR
namespace Circ

/-- A gate that may be so, its own wire known. -/
def FitsP (k a b wire : Int) : Prop := (k = 1 ∨ k = 2) ∧ 0 ≤ a ∧ a < wire ∧ 0 ≤ b ∧ b < wire ∨ k = 3 ∧ 0 ≤ a ∧ a < wire ∧ b = 0
instance (k a b wire : Int) : Decidable (FitsP k a b wire) := by unfold FitsP; infer_instance
/-- A circuit. -/
structure Good (N : Int) (n : Nat) (y : Nat → Nat → Int) (m : Nat) (o : Nat → Int) : Prop where
  n0 : 0 ≤ N
  n1 : N ≤ 4096
  g : n ≤ 4096
  u : m ≤ 64
  fit : ∀ i, i < n → FitsP (y i 0) (y i 1) (y i 2) (N + i)
  out : ∀ i, i < m → 0 ≤ o i ∧ o i < N + n
/-- What a gate makes of two bits. -/
def gate (k : Int) (x y : Bool) : Bool := if k = 1 then x != y else if k = 2 then x && y else !x
/-- The wires' bits behind so many gates. -/
def vals (N : Nat) (f : Nat → Bool) (y : Nat → Nat → Int) : Nat → Nat → Bool
  | 0 => f
  | k + 1 => fun i => if i = N + k then gate (y k 0) (vals N f y k (y k 1).toNat) (vals N f y k (y k 2).toNat) else vals N f y k i
theorem vals_old (N : Nat) (f : Nat → Bool) (y : Nat → Nat → Int) (k : Nat) : ∀ j i, i < N + k → vals N f y (k + j) i = vals N f y k i
  | 0, _, _ => rfl
  | j + 1, i, h => by
    show (if i = N + (k + j) then _ else vals N f y (k + j) i) = _
    rw [if_neg (by omega)]
    exact vals_old N f y k j i h
theorem vals_in (N : Nat) (f : Nat → Bool) (y : Nat → Nat → Int) (k i : Nat) (h : i < N) : vals N f y k i = f i := by
  have := vals_old N f y 0 k i h
  rw [Nat.zero_add] at this
  exact this
theorem vals_new (N : Nat) (f : Nat → Bool) (y : Nat → Nat → Int) (k : Nat) : vals N f y (k + 1) (N + k) = gate (y k 0) (vals N f y k (y k 1).toNat) (vals N f y k (y k 2).toNat) := by
  show (if N + k = N + k then _ else _) = _
  rw [if_pos rfl]
theorem vals_congr {N : Nat} {f g : Nat → Bool} {y z : Nat → Nat → Int} : ∀ k, (∀ i, i < N → f i = g i) → (∀ i j, i < k → j < 3 → y i j = z i j) → (∀ i, i < k → FitsP (y i 0) (y i 1) (y i 2) ((N : Int) + i)) → ∀ i, i < N + k → vals N f y k i = vals N g z k i
  | 0, hf, _, _, i, hi => hf i hi
  | k + 1, hf, hy, hF, i, hi => by
    have ih := vals_congr k hf (fun i j hi hj => hy i j (by omega) hj) (fun i hi => hF i (by omega))
    show (if i = N + k then _ else vals N f y k i) = (if i = N + k then _ else vals N g z k i)
    by_cases e : i = N + k
    · rw [if_pos e, if_pos e, ← hy k 0 (by omega) (by omega), ← hy k 1 (by omega) (by omega), ← hy k 2 (by omega) (by omega)]
      have h1 : (y k 1).toNat < N + k := by
        rcases hF k (by omega) with ⟨_, h⟩ | ⟨_, h⟩ <;> omega
      rw [ih _ h1]
      unfold gate
      rcases hF k (by omega) with ⟨h0, h⟩ | ⟨h0, h⟩
      · rw [ih _ (by omega)]
      · rw [if_neg (by omega), if_neg (by omega), if_neg (by omega), if_neg (by omega)]
    · rw [if_neg e, if_neg e]
      exact ih i (by omega)
/-- And gates among the first k. -/
def ands (y : Nat → Nat → Int) : Nat → Nat
  | 0 => 0
  | k + 1 => if y k 0 = 2 then ands y k + 1 else ands y k
theorem ands_le (y : Nat → Nat → Int) : ∀ k, ands y k ≤ k
  | 0 => Nat.le_refl _
  | k + 1 => by
    have := ands_le y k
    unfold ands
    split <;> omega
theorem ands_congr {y z : Nat → Nat → Int} : ∀ k, (∀ i, i < k → y i 0 = z i 0) → ands y k = ands z k
  | 0, _ => rfl
  | k + 1, h => by
    unfold ands
    rw [h k (by omega), ands_congr k (fun i hi => h i (by omega))]
theorem ands_more (y : Nat → Nat → Int) (n : Nat) : ∀ k, (∀ i, n ≤ i → i < n + k → y i 0 ≠ 2) → ands y (n + k) = ands y n
  | 0, _ => rfl
  | k + 1, h => by
    show (if y (n + k) 0 = 2 then _ else ands y (n + k)) = _
    rw [if_neg (h _ (by omega) (by omega))]
    exact ands_more y n k fun i h1 h2 => h i h1 (by omega)
end Circ
end Go.Proofs.YtoldgiejblekaaaDoorR
