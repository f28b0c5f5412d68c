/- Contracts of the small functions on words of package ring and of the document's own answers: Floor, Less, Spread, Sum. -/
import Derived.Test.YtbfflmjhkeaimaaDoorRows
import Derived.WalkKit
import Derived.WalkSpells
import Derived.WalkLawsBesides
import Derived.IntWalk
import Derived.Lib.Hide
namespace Go.Proofs.YtbfflmjhkeaimaaDoor
open Go.RowKit

theorem ret_int {k : IntKind} {a b : Int} (h : a = b) : Ending.returned (.int k a) = .returned (.int k b) := by rw [h]

/-- The word modulo 2^64. -/
theorem u64w (n : Int) : IntKind.u64.wrap n = n % 18446744073709551616 := by
  simp [IntKind.wrap, IntKind.bits, IntKind.signed]
theorem w64s (n : Int) : wrap64 n = (n + 9223372036854775808) % 18446744073709551616 - 9223372036854775808 := by
  simp [wrap64]

/-- What Floor answers. -/
def flr (x k : Int) : Int := IntKind.u64.wrap (wrap64 x / 2 ^ (min k.toNat 63))

set_option maxHeartbeats 400000 in
theorem floor_any (x k : Int) (w : World) :
    Calls Tryd.prog 11 #[.int .u64 x, .int .i64 k] w fun e w' => e = .returned (.int .u64 (flr x k)) ∧ w = w' := by
  by_cases h0 : k < 0
  · go_enter Tryd.func11, Tryd.ntmps11
    go_wp2
    go_ret
    exact ⟨ret_int (by unfold flr; rw [show min k.toNat 63 = 0 by omega]; simp), rfl⟩
  · by_cases h1 : 63 < k
    · go_enter Tryd.func11, Tryd.ntmps11
      go_wp2
      go_ret
      exact ⟨ret_int (by unfold flr; rw [show min k.toNat 63 = 63 by omega]; simp), rfl⟩
    · go_enter Tryd.func11, Tryd.ntmps11
      go_wp2
      go_ret
      exact ⟨ret_int (by unfold flr; rw [show min k.toNat 63 = k.toNat by omega]), rfl⟩

/-- What Less answers. -/
def lss (x y : Int) : Int := if wrap64 x < wrap64 y then 1 else 0
set_option maxHeartbeats 400000 in
theorem less_any (x y : Int) (w : World) :
    Calls Tryd.prog 13 #[.int .u64 x, .int .u64 y] w fun e w' => e = .returned (.int .u64 (lss x y)) ∧ w = w' := by
  by_cases h : wrap64 x < wrap64 y
  · go_enter Tryd.func13, Tryd.ntmps13
    go_wp2
    go_ret
    exact ⟨ret_int (by unfold lss; rw [if_pos h]), rfl⟩
  · go_enter Tryd.func13, Tryd.ntmps13
    go_wp2
    go_ret
    exact ⟨ret_int (by unfold lss; rw [if_neg (by omega)]), rfl⟩

theorem lss_ref (x y : Int) :
    (IntKind.u64.wrap (x + 9223372036854775808) < IntKind.u64.wrap (y + 9223372036854775808)) ↔ wrap64 x < wrap64 y := by
  simp only [u64w, w64s]
  omega
set_option maxHeartbeats 400000 in
theorem rless_any (x y : Int) (w : World) :
    Calls Tryd.prog 14 #[.int .u64 x, .int .u64 y] w fun e w' => e = .returned (.int .u64 (lss x y)) ∧ w = w' := by
  have hl := Lib.hid (lss_ref x y)
  by_cases h : IntKind.u64.wrap (x + 9223372036854775808) < IntKind.u64.wrap (y + 9223372036854775808)
  · go_enter Tryd.func14, Tryd.ntmps14
    go_wp2
    go_ret
    exact ⟨ret_int (by unfold lss; rw [if_pos (hl.out.1 h)]), rfl⟩
  · go_enter Tryd.func14, Tryd.ntmps14
    go_wp2
    go_ret
    exact ⟨ret_int (by unfold lss; rw [if_neg (fun h' => absurd (hl.out.2 h') (by omega))]), rfl⟩

/-- What Spread answers. -/
def spr (x : Int) : Int := if x % 2 = 1 then 18446744073709551615 else 0
theorem and_one (x : Int) : bits .and .u64 x 1 = x % 2 := by
  have h : (BitVec.ofInt 64 x &&& BitVec.ofInt 64 1).toNat = (BitVec.ofInt 64 x).toNat % 2 := by
    rw [BitVec.toNat_and]
    show _ &&& (1 : Nat) = _
    exact Nat.and_one_is_mod _
  show IntKind.u64.wrap ((BitVec.ofInt 64 x &&& BitVec.ofInt 64 1).toNat : Int) = _
  rw [h, u64w, BitVec.toNat_ofInt]
  omega
theorem spr_eq (x : Int) : IntKind.u64.wrap (-bits .and .u64 x 1) = spr x := by
  rw [and_one, u64w]; unfold spr
  split <;> omega
set_option maxHeartbeats 400000 in
theorem spread_any (x : Int) (w : World) :
    Calls Tryd.prog 15 #[.int .u64 x] w fun e w' => e = .returned (.int .u64 (spr x)) ∧ w = w' := by
  go_enter Tryd.func15, Tryd.ntmps15
  go_wp2
  go_ret
  exact ⟨ret_int (spr_eq x), rfl⟩
set_option maxHeartbeats 400000 in
theorem rspread_any (x : Int) (w : World) (hx : 0 ≤ x) :
    Calls Tryd.prog 16 #[.int .u64 x] w fun e w' => e = .returned (.int .u64 (spr x)) ∧ w = w' := by
  have ht : x.tmod 2 = x % 2 := Int.tmod_eq_emod_of_nonneg hx
  by_cases h : x % 2 = 1
  · have hb : (x.tmod 2 == 1) = true := by rw [ht, h]; rfl
    have h' := Lib.hid h
    clear ht h hx
    go_enter Tryd.func16, Tryd.ntmps16
    go_wp2
    go_ret
    exact ⟨ret_int (by unfold spr; rw [if_pos h'.out]), rfl⟩
  · have hb : (x.tmod 2 == 1) = false := by rw [ht]; simpa using h
    have h' := Lib.hid h
    clear ht h hx
    go_enter Tryd.func16, Tryd.ntmps16
    go_wp2
    go_ret
    exact ⟨ret_int (by unfold spr; rw [if_neg h'.out]), rfl⟩

theorem flr_zero (x : Int) (h0 : 0 ≤ x) (h1 : x < 18446744073709551616) : flr x 0 = x := by
  unfold flr
  simp only [u64w, w64s, Int.toNat_zero]
  simp only [Nat.zero_min, Int.pow_zero, Int.ediv_one]
  omega
theorem flr_bd (x k : Int) : 0 ≤ flr x k ∧ flr x k < 18446744073709551616 := by
  unfold flr; rw [u64w]; omega
theorem sgn_bd (x : Int) : -9223372036854775808 ≤ wrap64 x ∧ wrap64 x < 9223372036854775808 := by
  rw [w64s]; omega
theorem sdiv_bd (s : Int) (n : Nat) (h0 : -9223372036854775808 ≤ s) (h1 : s < 9223372036854775808) : -9223372036854775808 ≤ s / 2 ^ n ∧ s / 2 ^ n < 9223372036854775808 := by
  have hp : (0 : Int) < 2 ^ n := Int.pow_pos (by omega)
  constructor
  · rw [Int.le_ediv_iff_mul_le hp]
    have : (1 : Int) ≤ 2 ^ n := by omega
    have := Int.mul_le_mul_of_nonneg_left this (show (0 : Int) ≤ 9223372036854775808 by omega)
    omega
  · rw [Int.ediv_lt_iff_lt_mul hp]
    have : (1 : Int) ≤ 2 ^ n := by omega
    have := Int.mul_le_mul_of_nonneg_left this (show (0 : Int) ≤ 9223372036854775808 by omega)
    omega
theorem flr_succ (x : Int) (i : Nat) (hi : i < 63) :
    flr x i / 2 + flr x i / 9223372036854775808 * 9223372036854775808 = flr x (i + 1 : Nat) := by
  unfold flr
  rw [show min (i : Int).toNat 63 = i by omega, show min ((i + 1 : Nat) : Int).toNat 63 = i + 1 by omega]
  have hs := sgn_bd x
  have hb := sdiv_bd (wrap64 x) i hs.1 hs.2
  have hd : wrap64 x / 2 ^ (i + 1) = wrap64 x / 2 ^ i / 2 := by
    rw [Int.pow_succ, Int.ediv_ediv_of_nonneg (Int.le_of_lt (Int.pow_pos (by omega)))]
  rw [hd]
  generalize wrap64 x / 2 ^ i = t at hb ⊢
  simp only [u64w]
  omega

set_option maxHeartbeats 400000 in
theorem rfloor_any (x k : Int) (w : World) (h0 : 0 ≤ x) (h1 : x < 18446744073709551616) :
    Calls Tryd.prog 12 #[.int .u64 x, .int .i64 k] w fun e w' => e = .returned (.int .u64 (flr x k)) ∧ w = w' := by
  have hz := Lib.hid (flr_zero x h0 h1)
  go_enter Tryd.func12, Tryd.ntmps12
  go_wp2
  go_loop [0, 5] (fun t i => ∃ n : Nat, (n ≤ 63 ∧ (n = 0 ∨ (n : Int) ≤ k)) ∧ i = .int .i64 n ∧ t = .int .u64 (flr x n)) (fun _ i => 63 - (intOf i).toNat)
  case atStart => exact ⟨0, ⟨by omega, .inl rfl⟩, rfl, by rw [show flr x ((0 : Nat) : Int) = x from hz.out]⟩
  case round =>
    obtain ⟨n, hn, rfl, rfl⟩ := hrel
    have hb := flr_bd x n
    by_cases hlt : (n : Int) < k ∧ n < 63
    · obtain ⟨hk, h63⟩ := hlt
      have hS := Lib.hid (flr_succ x n h63)
      go_wp2
      go_round
      case rel => exact ⟨n + 1, ⟨by omega, by omega⟩, by go_num, by rw [← hS.out]⟩
      case measure => simp [intOf]; omega
    · by_cases hk : (n : Int) < k
      · have h63 : n = 63 := by omega
        subst h63
        clear hlt
        go_wp2
        go_ret
        exact ⟨ret_int (by unfold flr; congr 3; omega), rfl⟩
      · clear hlt
        go_wp2
        go_ret
        exact ⟨ret_int (by unfold flr; congr 3; omega), rfl⟩
end Go.Proofs.YtbfflmjhkeaimaaDoor
