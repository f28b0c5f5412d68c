/- The walks of the laws RingWords, RingFloor and RingOrder: each answers true, and makes new memory alone. -/
import Derived.Test.YtbfflmjhkeaimaaDoorA1
namespace Go.Proofs.YtbfflmjhkeaimaaDoor
open Go.RowKit

theorem own_lit3 (w : World) (a b c : Int) : Own (w.alloc (.cells #[.int .u64 a, .int .u64 b, .int .u64 c] 22)) w.heap.size 3 (fun q => if q = 0 then a else if q = 1 then b else c) := heap_alloc_new w _
theorem sum3 (x y : Int) (w : World) :
    Calls Tryd.prog 17 #[.slice (some ⟨w.heap.size, 0, none⟩) 3 3] (w.alloc (.cells #[.int .u64 x, .int .u64 y, .int .u64 x] 22)) fun e w' =>
      e = .returned (.int .u64 (IntKind.u64.wrap (IntKind.u64.wrap (2 * x) + y))) ∧ (w.alloc (.cells #[.int .u64 x, .int .u64 y, .int .u64 x] 22)) = w' :=
  (sum_any _ 3 3 _ _ (by unfold maxLen; omega) (At.own (own_lit3 w x y x))).mono fun _ _ ⟨h, h'⟩ => ⟨by
    rw [h, u64w, u64w]
    apply ret_int
    show U (0 + x + y + x) = _
    unfold U; omega, h'⟩
set_option maxHeartbeats 1000000 in
set_option maxRecDepth 100000 in
theorem words_walk (x y k : Int) (w : World) (hx : 0 ≤ x ∧ x < 18446744073709551616) :
    Calls Tryd.prog 3 #[.int .u64 x, .int .u64 y, .int .i64 k] w fun e w' => e = .returned (.bool true) ∧ Below w.heap.size w w' := by
  have s0 := hx.1
  have s1 := hx.2
  clear hx
  go_enter Tryd.func3, Tryd.ntmps3
  go_wp2_with (first
    | (go_at_call 10; refine (awake_any _).mono ?_; rintro e w1 ⟨rfl, hb1⟩; have HB1 := Lib.hid hb1; clear hb1)
    | (go_at_call 11; refine (floor_any _ _ _).mono ?_; rintro e w' ⟨rfl, rfl⟩)
    | (go_at_call 12; refine (rfloor_any _ _ _ s0 s1).mono ?_; rintro e w' ⟨rfl, rfl⟩)
    | (go_at_call 13; refine (less_any _ _ _).mono ?_; rintro e w' ⟨rfl, rfl⟩)
    | (go_at_call 14; refine (rless_any _ _ _).mono ?_; rintro e w' ⟨rfl, rfl⟩)
    | (go_at_call 15; refine (spread_any _ _).mono ?_; rintro e w' ⟨rfl, rfl⟩)
    | (go_at_call 16; refine (rspread_any _ _ s0).mono ?_; rintro e w' ⟨rfl, rfl⟩)
    | (go_at_call 17; (with_reducible refine (sum_nil _).mono ?_); rintro e w' ⟨rfl, rfl⟩)
    | (go_at_call 17; (with_reducible refine (sum3 _ _ _).mono ?_); rintro e w' ⟨rfl, rfl⟩))
  go_ret
  exact ⟨rfl, HB1.out.alloc HB1.out.size _⟩

theorem floor_walk_math (x : Int) (n : Nat) (hn : n ≤ 62) :
    IntKind.u64.wrap (x - IntKind.u64.wrap (flr x n * 2 ^ n)) < 2 ^ n ∧ (wrap64 (flr x n) < 0 ↔ wrap64 x < 0) ∧ flr (flr x n) 0 = flr x n := by
  have hf : flr x n = IntKind.u64.wrap (wrap64 x / 2 ^ n) := by unfold flr; rw [show min (n : Int).toNat 63 = n by omega]
  have hs := sgn_bd x
  have hb := sdiv_bd (wrap64 x) n hs.1 hs.2
  have hp : (0 : Int) < 2 ^ n := Int.pow_pos (by omega)
  refine ⟨?_, ?_, ?_⟩
  · rw [hf]
    have hd := Int.mul_ediv_add_emod (wrap64 x) (2 ^ n)
    have hr := Int.emod_nonneg (wrap64 x) (show (2 : Int) ^ n ≠ 0 by omega)
    have hr' := Int.emod_lt_of_pos (wrap64 x) hp
    have hle : (2 : Int) ^ n ≤ 4611686018427387904 := by
      have := Nat.pow_le_pow_right (n := 2) (by omega) hn
      have h2 : ((2 ^ n : Nat) : Int) ≤ ((2 ^ 62 : Nat) : Int) := Int.ofNat_le.2 this
      simpa using h2
    generalize hq : wrap64 x / 2 ^ n = q at *
    generalize (2 : Int) ^ n = P at *
    have e : IntKind.u64.wrap (IntKind.u64.wrap q * P) = IntKind.u64.wrap (P * q) := by
      rw [u64w, u64w, u64w, Int.mul_comm P q, Int.mul_emod, Int.emod_emod_of_dvd _ (Int.dvd_refl _), ← Int.mul_emod]
    rw [e]
    generalize P * q = t at *
    simp only [u64w, w64s] at *
    omega
  · rw [hf]
    have hz : wrap64 (IntKind.u64.wrap (wrap64 x / 2 ^ n)) = wrap64 x / 2 ^ n := by
      generalize wrap64 x / 2 ^ n = q at *
      simp only [u64w, w64s] at *; omega
    rw [hz]
    constructor
    · intro h
      rcases Int.lt_or_le (wrap64 x) 0 with h' | h'
      · exact h'
      · exact absurd (Int.ediv_nonneg h' (Int.le_of_lt hp)) (by omega)
    · intro h
      exact Int.ediv_neg_of_neg_of_pos h hp
  · exact flr_zero _ (flr_bd x n).1 (flr_bd x n).2
end Go.Proofs.YtbfflmjhkeaimaaDoor
