/- The walk of the law RingOrder: it answers true, and makes new memory alone. -/
import Derived.Test.YtbfflmjhkeaimaaDoorX2
namespace Go.Proofs.YtbfflmjhkeaimaaDoor
open Go.RowKit
set_option maxHeartbeats 1000000 in
set_option maxRecDepth 100000 in
theorem order_core (x y z : Int) (n : Nat) (w : World) (A B : Int) (hn : n ≤ 63) (e0 : wrap64 (z.tmod 64) = (n : Int)) (eA : lss x y = A) (eB : lss y x = B)
    (hAB : (A = 0 ∧ B = 0 ∧ (x == y) = true) ∨ (A = 1 ∧ B = 0 ∧ (x == y) = false ∧ ((lss y z = 1 ∧ lss x z = 1) ∨ lss y z = 0)) ∨ (A = 0 ∧ B = 1 ∧ (x == y) = false))
    (o1 : lss (flr y n) (flr x n) ≤ B) (o2 : flr (flr x n) 3 = flr x ((n : Int) + 3)) :
    Calls Tryd.prog 9 #[.int .u64 x, .int .u64 y, .int .u64 z] w fun e w' => e = .returned (.bool true) ∧ Below w.heap.size w w' := by
  rcases hAB with ⟨rfl, rfl, hxy⟩ | ⟨rfl, rfl, hxy, ⟨h1, h2⟩ | h1⟩ | ⟨rfl, rfl, hxy⟩
  all_goals
    go_enter Tryd.func9, Tryd.ntmps9
    go_wp2_with (first
      | (go_at_call 10; refine (awake_any _).mono ?_; rintro e w1 ⟨rfl, hb1⟩; have HB1 := Lib.hid hb1; clear hb1)
      | (go_at_call 11; refine (floor_any _ _ _).mono ?_; rintro e w' ⟨rfl, rfl⟩)
      | (go_at_call 13; refine (less_any _ _ _).mono ?_; rintro e w' ⟨rfl, rfl⟩))
    go_ret
    exact ⟨rfl, HB1.out⟩
theorem order_walk (x y z : Int) (w : World) (hx : 0 ≤ x ∧ x < 18446744073709551616) (hy : 0 ≤ y ∧ y < 18446744073709551616) (hz : 0 ≤ z ∧ z < 18446744073709551616) :
    Calls Tryd.prog 9 #[.int .u64 x, .int .u64 y, .int .u64 z] w fun e w' => e = .returned (.bool true) ∧ Below w.heap.size w w' := by
  have e0 : wrap64 (z.tmod 64) = ((z % 64).toNat : Int) := by
    rw [Int.tmod_eq_emod_of_nonneg hz.1, w64s]; omega
  have hn : (z % 64).toNat ≤ 63 := by omega
  obtain ⟨m1, m2, m3⟩ := order_math x y z hx hy
  have a1 := lss_01 x y
  have a2 := lss_01 y x
  have a3 := lss_01 y z
  refine order_core x y z _ w _ _ hn e0 rfl rfl ?_ (order_floor x y _ hn) (floor_twice x _ hn)
  by_cases e : x = y
  · exact .inl ⟨by omega, by omega, by simpa using e⟩
  · by_cases h1 : lss x y = 1
    · refine .inr (.inl ⟨h1, by omega, by simpa using e, ?_⟩)
      by_cases h2 : lss y z = 1
      · exact .inl ⟨h2, m3 h1 h2⟩
      · exact .inr (by omega)
    · exact .inr (.inr ⟨by omega, by omega, by simpa using e⟩)
end Go.Proofs.YtbfflmjhkeaimaaDoor
