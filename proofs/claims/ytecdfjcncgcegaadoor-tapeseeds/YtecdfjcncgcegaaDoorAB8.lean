/- Two arrays of bytes compared. -/
import Derived.Test.YtecdfjcncgcegaaDoorAB0
namespace Go.Proofs.YtecdfjcncgcegaaDoor
open Go.RowKit

/-- Are the first n bytes the same? -/
def eqB (n : Nat) (f g : Nat → Nat) : Bool := decide (∀ i, i < n → f i = g i)
theorem Tryd.infoU8 : (Tryd.prog.info? 5).map (fun i => (i.zero, i.size, i.bytes)) = some (some (.int .u8 0), 1, 1) := by kernel_rfl
theorem forIn_all {P : Program} {w : World} (body : Nat → (Option Bool × Unit) → Sem (ForInStep (Option Bool × Unit))) (p : Nat → Bool) (N : Nat) (h : ∀ i s, i < N → (body i s).run P w = .ok (if p i = true then .yield (none, ()) else .done (some false, ())) w) :
    ∀ n s, s + n ≤ N → (forIn (List.range' s n 1) (none, ()) body).run P w = .ok (if (∀ i, i < n → p (s + i) = true) then (none, ()) else (some false, ())) w
  | 0, s, _ => by simp
  | n + 1, s, hn => by
    rw [List.range'_succ, List.forIn_cons, Sem.run_bind, h s _ (by omega)]
    cases hp : p s with
    | true =>
      have ih := forIn_all body p N h n (s + 1) (by omega)
      simp only [if_true, Result.andThen_ok]
      rw [ih]
      congr 2
      apply propext
      constructor
      · intro hh i hi
        rcases i with _ | i
        · exact hp
        · have := hh i (by omega); rwa [show s + 1 + i = s + (i + 1) by omega] at this
      · intro hh i hi
        have := hh (i + 1) (by omega); rwa [show s + (i + 1) = s + 1 + i by omega] at this
    | false =>
      have hno : ¬ ∀ i, i < n + 1 → p (s + i) = true := fun hh => by have := hh 0 (by omega); rw [Nat.add_zero, hp] at this; cases this
      rw [if_neg hno]
      simp
theorem run_eqlB (w : World) (f g : Nat → Nat) : (Op.equalIn 10000 30 (.agg (bys 16 f)) (.agg (bys 16 g))).run Tryd.prog w = .ok (eqB 16 f g) w := by
  obtain ⟨i0, hi, _, hz1, _⟩ := info_parts Tryd.infoU8
  have hs : (sizeOf 5).run Tryd.prog w = .ok 1 w := by simp [sizeOf, typeInfo, hi, hz1]
  show (Op.equalIn (9999 + 1) 30 _ _).run Tryd.prog w = _
  unfold Op.equalIn
  simp only [Sem.run_bind, run_underlying Tryd.underlying30, Result.andThen_ok, hs]
  have h1 : ∀ (x : Nat → Nat) (i : Nat), i < 16 → (part 5 (bys 16 x) i).run Tryd.prog w = .ok (.int .u8 (x i : Int)) w := by
    intro x i hi; simp [go_sem, part, bys_get 16 x i hi]
  have h3 : ∀ (x y : Int), (Op.equalIn 9999 5 (.int .u8 x) (.int .u8 y)).run Tryd.prog w = .ok (x == y) w := fun x y => run_equalIn_int w 9998 5 .u8 .u8 x y Tryd.underlying5
  simp only [Std.Legacy.Range.forIn_eq_forIn_range', Std.Legacy.Range.size]
  simp only [show (16 - 0 + 1 - 1) / 1 = 16 from rfl]
  rw [forIn_all _ (fun i => decide (f i = g i)) 16 ?_ 16 0 (by omega)]
  · unfold eqB
    by_cases hh : ∀ i, i < 16 → f i = g i
    · rw [if_pos (by intro i hi; simpa using hh i hi)]; simp; exact hh
    · rw [if_neg (by intro h'; exact hh fun i hi => by simpa using h' i hi)]; simp [hh]
  · intro i s hi
    simp only [Nat.mul_one, Sem.run_bind, h1 f i hi, h1 g i hi, h3, Result.andThen_ok]
    by_cases e : f i = g i
    · simp [e]
    · have e' : ¬ (f i : Int) = (g i : Int) := by omega
      simp [e, e']
theorem eqB_self (n : Nat) (f : Nat → Nat) : eqB n f f = true := by simp [eqB]
theorem eqB_true {n : Nat} {f g : Nat → Nat} (h : ∀ i, i < n → f i = g i) : eqB n f g = true := by simpa [eqB] using h
theorem eqB_congr {n : Nat} {f g f' g' : Nat → Nat} (h : (∀ i, i < n → f i = g i) ↔ ∀ i, i < n → f' i = g' i) : eqB n f g = eqB n f' g' := by
  unfold eqB; simp only [h]
end Go.Proofs.YtecdfjcncgcegaaDoor
