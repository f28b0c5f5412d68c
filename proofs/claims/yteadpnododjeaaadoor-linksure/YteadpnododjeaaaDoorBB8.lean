/- Two arrays of bytes compared. -/
import Derived.Test.YteadpnododjeaaaDoorBB0
namespace Go.Proofs.YteadpnododjeaaaDoor
open Go.RowKit

/-- Are the first n bytes the same? -/
def eqB (n : Nat) (f g : Nat → Nat) : Bool := decide (∀ i, i < n → f i = g i)
theorem Tryd.infoU8 : (Tryd.prog.info? 5).map (fun i => (i.zero, i.size, i.bytes)) = some (some (.int .u8 0), 1, 1) := by kernel_rfl
theorem forIn_all {P : Program} {w : World} (body : Nat → (Option Bool × Unit) → Sem (ForInStep (Option Bool × Unit))) (p : Nat → Bool) (N : Nat) (h : ∀ i s, i < N → (body i s).run P w = .ok (if p i = true then .yield (none, ()) else .done (some false, ())) w) :
    ∀ n s, s + n ≤ N → (forIn (List.range' s n 1) (none, ()) body).run P w = .ok (if (∀ i, i < n → p (s + i) = true) then (none, ()) else (some false, ())) w
  | 0, s, _ => by simp
  | n + 1, s, hn => by
    rw [List.range'_succ, List.forIn_cons, Sem.run_bind, h s _ (by omega)]
    cases hp : p s with
    | true =>
      have ih := forIn_all body p N h n (s + 1) (by omega)
      simp only [if_true, Result.andThen_ok]
      rw [ih]
      congr 2
      apply propext
      constructor
      · intro hh i hi
        rcases i with _ | i
        · exact hp
        · have := hh i (by omega); rwa [show s + 1 + i = s + (i + 1) by omega] at this
      · intro hh i hi
        have := hh (i + 1) (by omega); rwa [show s + (i + 1) = s + 1 + i by omega] at this
    | false =>
      have hno : ¬ ∀ i, i < n + 1 → p (s + i) = true := fun hh => by have := hh 0 (by omega); rw [Nat.add_zero, hp] at this; cases this
      rw [if_neg hno]
      simp
theorem eqB_self (n : Nat) (f : Nat → Nat) : eqB n f f = true := by simp [eqB]
theorem eqB_true {n : Nat} {f g : Nat → Nat} (h : ∀ i, i < n → f i = g i) : eqB n f g = true := by simpa [eqB] using h
theorem eqB_congr {n : Nat} {f g f' g' : Nat → Nat} (h : (∀ i, i < n → f i = g i) ↔ ∀ i, i < n → f' i = g' i) : eqB n f g = eqB n f' g' := by
  unfold eqB; simp only [h]
end Go.Proofs.YteadpnododjeaaaDoor
