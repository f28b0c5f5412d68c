/- The walk of the law RingFloor: it answers true, and makes new memory alone. -/
import Derived.Test.YtbfflmjhkeaimaaDoorX1
namespace Go.Proofs.YtbfflmjhkeaimaaDoor
open Go.RowKit
set_option maxHeartbeats 1000000 in
set_option maxRecDepth 100000 in
theorem floor_walk (x k : Int) (w : World) :
    Calls Tryd.prog 4 #[.int .u64 x, .int .i64 k] w fun e w' => e = .returned (.bool true) ∧ Below w.heap.size w w' := by
  have hk : ∃ n : Nat, n ≤ 62 ∧ wrap64 ((IntKind.u64.wrap k).tmod 63) = (n : Int) := by
    refine ⟨(IntKind.u64.wrap k % 63).toNat, by omega, ?_⟩
    have h0 : 0 ≤ IntKind.u64.wrap k := by rw [u64w]; omega
    rw [Int.tmod_eq_emod_of_nonneg h0, w64s]
    omega
  obtain ⟨n, hn, e0⟩ := hk
  obtain ⟨m1, m2, m3⟩ := floor_walk_math x n hn
  have m1' : IntKind.u64.wrap (x - IntKind.u64.wrap (flr x n * 2 ^ n)) < IntKind.u64.wrap (2 ^ n) := by
    have hle : (2 : Int) ^ n ≤ 4611686018427387904 := by
      have := Nat.pow_le_pow_right (n := 2) (by omega) hn
      have h2 : ((2 ^ n : Nat) : Int) ≤ ((2 ^ 62 : Nat) : Int) := Int.ofNat_le.2 this
      simpa using h2
    have hp : (0 : Int) < 2 ^ n := Int.pow_pos (by omega)
    rw [u64w (2 ^ n), Int.emod_eq_of_lt (by omega) (by omega)]
    exact m1
  have M2 := Lib.hid m2
  clear m1 m2
  by_cases hs : wrap64 x < 0
  · have hs' := M2.out.2 hs
    go_enter Tryd.func4, Tryd.ntmps4
    go_wp2_with (first
      | (go_at_call 10; refine (awake_any _).mono ?_; rintro e w1 ⟨rfl, hb1⟩; have HB1 := Lib.hid hb1; clear hb1)
      | (go_at_call 11; refine (floor_any _ _ _).mono ?_; rintro e w' ⟨rfl, rfl⟩))
    go_ret
    exact ⟨rfl, HB1.out⟩
  · have hs' : ¬ wrap64 (flr x n) < 0 := fun h => hs (M2.out.1 h)
    go_enter Tryd.func4, Tryd.ntmps4
    go_wp2_with (first
      | (go_at_call 10; refine (awake_any _).mono ?_; rintro e w1 ⟨rfl, hb1⟩; have HB1 := Lib.hid hb1; clear hb1)
      | (go_at_call 11; refine (floor_any _ _ _).mono ?_; rintro e w' ⟨rfl, rfl⟩))
    go_ret
    exact ⟨rfl, HB1.out⟩

theorem lss_01 (x y : Int) : 0 ≤ lss x y ∧ lss x y ≤ 1 := by unfold lss; split <;> omega
/-- What RingOrder asks of its three words. -/
theorem order_math (x y z : Int) (hx : 0 ≤ x ∧ x < 18446744073709551616) (hy : 0 ≤ y ∧ y < 18446744073709551616) :
    lss x y + lss y x ≤ 1 ∧ (lss x y + lss y x = 0 ↔ x = y) ∧ (lss x y = 1 → lss y z = 1 → lss x z = 1) := by
  unfold lss
  simp only [w64s]
  refine ⟨?_, ?_, ?_⟩
  · split <;> split <;> omega
  · split <;> split <;> omega
  · split <;> split <;> split <;> omega
theorem wrap_flr (x : Int) (n : Nat) (hn : n ≤ 63) : wrap64 (flr x n) = wrap64 x / 2 ^ n := by
  have hs := sgn_bd x
  have hb := sdiv_bd (wrap64 x) n hs.1 hs.2
  unfold flr
  rw [show min (n : Int).toNat 63 = n by omega]
  generalize wrap64 x / 2 ^ n = q at *
  simp only [u64w, w64s] at *; omega
theorem order_floor (x y : Int) (n : Nat) (hn : n ≤ 63) : lss (flr y n) (flr x n) ≤ lss y x := by
  unfold lss
  rw [wrap_flr _ _ hn, wrap_flr _ _ hn]
  have hp : (0 : Int) < 2 ^ n := Int.pow_pos (by omega)
  by_cases h : wrap64 y < wrap64 x
  · rw [if_pos h]; split <;> omega
  · have := Int.ediv_le_ediv hp (show wrap64 x ≤ wrap64 y by omega)
    rw [if_neg h, if_neg (by omega)]
    omega
theorem floor_twice (x : Int) (n : Nat) (hn : n ≤ 63) : flr (flr x n) 3 = flr x ((n : Int) + 3) := by
  have h3 : flr (flr x n) 3 = IntKind.u64.wrap (wrap64 x / 2 ^ n / 8) := by
    show IntKind.u64.wrap (wrap64 (flr x n) / 2 ^ 3) = _
    rw [wrap_flr _ _ hn]; rfl
  rw [h3]
  unfold flr
  have hd : wrap64 x / 2 ^ n / 8 = wrap64 x / 2 ^ (n + 3) := by
    rw [Int.pow_add, Int.ediv_ediv_of_nonneg (Int.le_of_lt (Int.pow_pos (by omega)))]; rfl
  rw [hd]
  congr 1
  by_cases h : n + 3 ≤ 63
  · rw [show min ((n : Int) + 3).toNat 63 = n + 3 by omega]
  · rw [show min ((n : Int) + 3).toNat 63 = 63 by omega]
    have hs := sgn_bd x
    have key : ∀ m : Nat, 63 ≤ m → wrap64 x / 2 ^ m = if wrap64 x < 0 then -1 else 0 := by
      intro m hm
      have hp : (2 : Int) ^ 63 ≤ 2 ^ m := by
        have := Nat.pow_le_pow_right (n := 2) (by omega) hm
        have h2 : ((2 ^ 63 : Nat) : Int) ≤ ((2 ^ m : Nat) : Int) := Int.ofNat_le.2 this
        simpa using h2
      generalize (2 : Int) ^ m = P at *
      have hP : (9223372036854775808 : Int) ≤ P := by simpa using hp
      split
      · rw [Int.ediv_eq_iff_of_pos (by omega)]; omega
      · exact Int.ediv_eq_zero_of_lt (by omega) (by omega)
    rw [key _ (by omega), key _ (by omega)]
end Go.Proofs.YtbfflmjhkeaimaaDoor
