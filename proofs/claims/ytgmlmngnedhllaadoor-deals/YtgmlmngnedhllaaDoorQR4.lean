/- The contract of the document's Deal where something is wrong. -/
import Derived.Test.YtgmlmngnedhllaaDoorQD4
namespace Go.Proofs.YtgmlmngnedhllaaDoor
open Go.RowKit

/-- Nothing is dealt, the number c is told. -/
def Nought (w : World) (c : Int) (e : Ending) (w' : World) : Prop := e = .returned (.tuple #[.agg #[.slice none 0 0, .slice none 0 0, .slice none 0 0, .slice none 0 0, .slice none 0 0, .slice none 0 0], .int .i64 c]) ∧ Below w.heap.size w w'
set_option maxHeartbeats 2000000 in
set_option maxRecDepth 100000 in
theorem rbad1n (A : Option Addr) (len c : Nat) (z1 z2 z3 : Int) (w : World)  (hn : z1 < 0) :
    Calls Tryd.prog 11 #[.slice A len c, .int .i64 z1, .int .i64 z2, .int .i64 z3] w (Nought w 1) := by
  have hd : decide (z1 < 0) = true := decide_eq_true hn
  go_enter Tryd.func11, Tryd.ntmps11
  go_wp2
  exact bodyPost_ret (v := .tuple #[.agg #[.slice none 0 0, .slice none 0 0, .slice none 0 0, .slice none 0 0, .slice none 0 0, .slice none 0 0], .int .i64 1]) (by simp [results, Tryd.results11, go_sem]) rfl ⟨rfl, ((Below.refl _ w).alloc (Nat.le_refl _) _).alloc (by simp) _⟩
set_option maxHeartbeats 2000000 in
set_option maxRecDepth 100000 in
theorem rbad1b (A : Option Addr) (len c : Nat) (z1 z2 z3 : Int) (w : World)  (hg : ¬ z1 < 0) (hn : (65536 : Int) < z1) :
    Calls Tryd.prog 11 #[.slice A len c, .int .i64 z1, .int .i64 z2, .int .i64 z3] w (Nought w 1) := by
  have hgd : decide (z1 < 0) = false := decide_eq_false hg
  have hd : decide ((65536 : Int) < z1) = true := decide_eq_true hn
  go_enter Tryd.func11, Tryd.ntmps11
  go_wp2
  exact bodyPost_ret (v := .tuple #[.agg #[.slice none 0 0, .slice none 0 0, .slice none 0 0, .slice none 0 0, .slice none 0 0, .slice none 0 0], .int .i64 1]) (by simp [results, Tryd.results11, go_sem]) rfl ⟨rfl, ((Below.refl _ w).alloc (Nat.le_refl _) _).alloc (by simp) _⟩
set_option maxHeartbeats 2000000 in
set_option maxRecDepth 100000 in
theorem rbad2n (A : Option Addr) (len c : Nat) (z1 z2 z3 : Int) (w : World) (g1 : ¬ Bad z1) (hn : z2 < 0) :
    Calls Tryd.prog 11 #[.slice A len c, .int .i64 z1, .int .i64 z2, .int .i64 z3] w (Nought w 1) := by
  have a1 : ¬ (z1 < 0) := by have := ok_of g1; omega
  have b1 : ¬ ((65536 : Int) < z1) := by have := ok_of g1; omega
  have ad1 : decide (z1 < 0) = false := decide_eq_false a1
  have bd1 : decide ((65536 : Int) < z1) = false := decide_eq_false b1
  clear g1
  have hd : decide (z2 < 0) = true := decide_eq_true hn
  go_enter Tryd.func11, Tryd.ntmps11
  go_wp2
  exact bodyPost_ret (v := .tuple #[.agg #[.slice none 0 0, .slice none 0 0, .slice none 0 0, .slice none 0 0, .slice none 0 0, .slice none 0 0], .int .i64 1]) (by simp [results, Tryd.results11, go_sem]) rfl ⟨rfl, ((Below.refl _ w).alloc (Nat.le_refl _) _).alloc (by simp) _⟩
set_option maxHeartbeats 2000000 in
set_option maxRecDepth 100000 in
theorem rbad2b (A : Option Addr) (len c : Nat) (z1 z2 z3 : Int) (w : World) (g1 : ¬ Bad z1) (hg : ¬ z2 < 0) (hn : (65536 : Int) < z2) :
    Calls Tryd.prog 11 #[.slice A len c, .int .i64 z1, .int .i64 z2, .int .i64 z3] w (Nought w 1) := by
  have a1 : ¬ (z1 < 0) := by have := ok_of g1; omega
  have b1 : ¬ ((65536 : Int) < z1) := by have := ok_of g1; omega
  have ad1 : decide (z1 < 0) = false := decide_eq_false a1
  have bd1 : decide ((65536 : Int) < z1) = false := decide_eq_false b1
  clear g1
  have hgd : decide (z2 < 0) = false := decide_eq_false hg
  have hd : decide ((65536 : Int) < z2) = true := decide_eq_true hn
  go_enter Tryd.func11, Tryd.ntmps11
  go_wp2
  exact bodyPost_ret (v := .tuple #[.agg #[.slice none 0 0, .slice none 0 0, .slice none 0 0, .slice none 0 0, .slice none 0 0, .slice none 0 0], .int .i64 1]) (by simp [results, Tryd.results11, go_sem]) rfl ⟨rfl, ((Below.refl _ w).alloc (Nat.le_refl _) _).alloc (by simp) _⟩
set_option maxHeartbeats 2000000 in
set_option maxRecDepth 100000 in
theorem rbad3n (A : Option Addr) (len c : Nat) (z1 z2 z3 : Int) (w : World) (g1 : ¬ Bad z1) (g2 : ¬ Bad z2) (hn : z3 < 0) :
    Calls Tryd.prog 11 #[.slice A len c, .int .i64 z1, .int .i64 z2, .int .i64 z3] w (Nought w 1) := by
  have a1 : ¬ (z1 < 0) := by have := ok_of g1; omega
  have b1 : ¬ ((65536 : Int) < z1) := by have := ok_of g1; omega
  have ad1 : decide (z1 < 0) = false := decide_eq_false a1
  have bd1 : decide ((65536 : Int) < z1) = false := decide_eq_false b1
  have a2 : ¬ (z2 < 0) := by have := ok_of g2; omega
  have b2 : ¬ ((65536 : Int) < z2) := by have := ok_of g2; omega
  have ad2 : decide (z2 < 0) = false := decide_eq_false a2
  have bd2 : decide ((65536 : Int) < z2) = false := decide_eq_false b2
  clear g1 g2
  have hd : decide (z3 < 0) = true := decide_eq_true hn
  go_enter Tryd.func11, Tryd.ntmps11
  go_wp2
  exact bodyPost_ret (v := .tuple #[.agg #[.slice none 0 0, .slice none 0 0, .slice none 0 0, .slice none 0 0, .slice none 0 0, .slice none 0 0], .int .i64 1]) (by simp [results, Tryd.results11, go_sem]) rfl ⟨rfl, ((Below.refl _ w).alloc (Nat.le_refl _) _).alloc (by simp) _⟩
set_option maxHeartbeats 2000000 in
set_option maxRecDepth 100000 in
theorem rbad3b (A : Option Addr) (len c : Nat) (z1 z2 z3 : Int) (w : World) (g1 : ¬ Bad z1) (g2 : ¬ Bad z2) (hg : ¬ z3 < 0) (hn : (65536 : Int) < z3) :
    Calls Tryd.prog 11 #[.slice A len c, .int .i64 z1, .int .i64 z2, .int .i64 z3] w (Nought w 1) := by
  have a1 : ¬ (z1 < 0) := by have := ok_of g1; omega
  have b1 : ¬ ((65536 : Int) < z1) := by have := ok_of g1; omega
  have ad1 : decide (z1 < 0) = false := decide_eq_false a1
  have bd1 : decide ((65536 : Int) < z1) = false := decide_eq_false b1
  have a2 : ¬ (z2 < 0) := by have := ok_of g2; omega
  have b2 : ¬ ((65536 : Int) < z2) := by have := ok_of g2; omega
  have ad2 : decide (z2 < 0) = false := decide_eq_false a2
  have bd2 : decide ((65536 : Int) < z2) = false := decide_eq_false b2
  clear g1 g2
  have hgd : decide (z3 < 0) = false := decide_eq_false hg
  have hd : decide ((65536 : Int) < z3) = true := decide_eq_true hn
  go_enter Tryd.func11, Tryd.ntmps11
  go_wp2
  exact bodyPost_ret (v := .tuple #[.agg #[.slice none 0 0, .slice none 0 0, .slice none 0 0, .slice none 0 0, .slice none 0 0, .slice none 0 0], .int .i64 1]) (by simp [results, Tryd.results11, go_sem]) rfl ⟨rfl, ((Below.refl _ w).alloc (Nat.le_refl _) _).alloc (by simp) _⟩
set_option maxHeartbeats 2000000 in
set_option maxRecDepth 100000 in
theorem rshort (A : Option Addr) (len c : Nat) (z1 z2 z3 : Int) (w : World) (g1 : ¬ Bad z1) (g2 : ¬ Bad z2) (g3 : ¬ Bad z3) (hs : (len : Int) < 5 * (z1 + z2 + z3)) :
    Calls Tryd.prog 11 #[.slice A len c, .int .i64 z1, .int .i64 z2, .int .i64 z3] w (Nought w 40) := by
  have a1 : ¬ (z1 < 0) := by have := ok_of g1; omega
  have b1 : ¬ ((65536 : Int) < z1) := by have := ok_of g1; omega
  have ad1 : decide (z1 < 0) = false := decide_eq_false a1
  have bd1 : decide ((65536 : Int) < z1) = false := decide_eq_false b1
  have a2 : ¬ (z2 < 0) := by have := ok_of g2; omega
  have b2 : ¬ ((65536 : Int) < z2) := by have := ok_of g2; omega
  have ad2 : decide (z2 < 0) = false := decide_eq_false a2
  have bd2 : decide ((65536 : Int) < z2) = false := decide_eq_false b2
  have a3 : ¬ (z3 < 0) := by have := ok_of g3; omega
  have b3 : ¬ ((65536 : Int) < z3) := by have := ok_of g3; omega
  have ad3 : decide (z3 < 0) = false := decide_eq_false a3
  have bd3 : decide ((65536 : Int) < z3) = false := decide_eq_false b3
  have e1 : IntKind.i64.wrap (z1 + z2) = z1 + z2 := by have := ok_of g1; have := ok_of g2; exact i64_nat _ (by omega) (by omega)
  have e2 : IntKind.i64.wrap (z1 + z2 + z3) = z1 + z2 + z3 := by have := ok_of g1; have := ok_of g2; have := ok_of g3; exact i64_nat _ (by omega) (by omega)
  have e3 : IntKind.i64.wrap (5 * (z1 + z2 + z3)) = 5 * (z1 + z2 + z3) := by have := ok_of g1; have := ok_of g2; have := ok_of g3; exact i64_nat _ (by omega) (by omega)
  clear g1 g2 g3
  go_enter Tryd.func11, Tryd.ntmps11
  go_wp2
  exact bodyPost_ret (v := .tuple #[.agg #[.slice none 0 0, .slice none 0 0, .slice none 0 0, .slice none 0 0, .slice none 0 0, .slice none 0 0], .int .i64 40]) (by simp [results, Tryd.results11, go_sem]) rfl ⟨rfl, ((Below.refl _ w).alloc (Nat.le_refl _) _).alloc (by simp) _⟩
/-- Which number is told, if one is. -/
theorem rdeal_err (A : Option Addr) (len cp : Nat) (z1 z2 z3 : Int) (w : World) (c : Int) (hc : (c = 1 ∧ (Bad z1 ∨ Bad z2 ∨ Bad z3)) ∨ (c = 40 ∧ ¬ Bad z1 ∧ ¬ Bad z2 ∧ ¬ Bad z3 ∧ (len : Int) < 5 * z1 + 5 * z2 + 5 * z3)) :
    Calls Tryd.prog 11 #[.slice A len cp, .int .i64 z1, .int .i64 z2, .int .i64 z3] w (Nought w c) := by
  rcases hc with ⟨rfl, hb⟩ | ⟨rfl, h0, h1, h2, hs⟩
  · by_cases b1 : Bad z1
    · by_cases n1 : z1 < 0
      · exact rbad1n A len cp z1 z2 z3 w n1
      · exact rbad1b A len cp z1 z2 z3 w n1 (by unfold Bad at b1; omega)
    · by_cases b2 : Bad z2
      · by_cases n1 : z2 < 0
        · exact rbad2n A len cp z1 z2 z3 w b1 n1
        · exact rbad2b A len cp z1 z2 z3 w b1 n1 (by unfold Bad at b2; omega)
      · have b3 : Bad z3 := by
          rcases hb with h | h | h
          · exact absurd h b1
          · exact absurd h b2
          · exact h
        by_cases n1 : z3 < 0
        · exact rbad3n A len cp z1 z2 z3 w b1 b2 n1
        · exact rbad3b A len cp z1 z2 z3 w b1 b2 n1 (by unfold Bad at b3; omega)
  · exact rshort A len cp z1 z2 z3 w h0 h1 h2 (by omega)
end Go.Proofs.YtgmlmngnedhllaaDoor
