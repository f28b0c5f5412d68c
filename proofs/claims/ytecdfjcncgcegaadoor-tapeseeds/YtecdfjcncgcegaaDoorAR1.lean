/- Contracts of the document's own Times, inverse and S. -/
import Derived.Test.YtecdfjcncgcegaaDoorAB0
import Derived.Test.YtecdfjcncgcegaaDoorAesMath2
namespace Go.Proofs.YtecdfjcncgcegaaDoor
open Go.RowKit

theorem i64w (n : Int) : IntKind.i64.wrap n = (n + 9223372036854775808) % 18446744073709551616 - 9223372036854775808 := by
  simp [IntKind.wrap, IntKind.bits, IntKind.signed]
  split <;> omega
theorem bits64_xor (X Y : Nat) (hX : X < 1000000) (hY : Y < 1000000) : bits .xor .i64 (X : Int) (Y : Int) = ((X ^^^ Y : Nat) : Int) := by
  show IntKind.i64.wrap ((BitVec.ofInt 64 (X : Int) ^^^ BitVec.ofInt 64 (Y : Int)).toNat : Int) = _
  have o : ∀ Z : Nat, Z < 1000000 → (BitVec.ofInt 64 (Z : Int)).toNat = Z := fun Z hZ => by
    rw [BitVec.ofInt_natCast, BitVec.toNat_ofNat]
    exact Nat.mod_eq_of_lt (by omega)
  have hl : X ^^^ Y < 2 ^ 20 := Nat.xor_lt_two_pow (by omega) (by omega)
  rw [BitVec.toNat_xor, o X hX, o Y hY, i64w]
  omega
theorem tm_step (n p x b : Nat) (hn : n < 8) : Aes.tmGo (8 - n) p x (b / 2 ^ n) = Aes.tmGo (8 - (n + 1)) (if b / 2 ^ n % 2 = 1 then p ^^^ x else p) (Aes.xt x) (b / 2 ^ (n + 1)) := by
  rw [show 8 - n = (8 - (n + 1)) + 1 by omega]
  show Aes.tmGo (8 - (n + 1)) _ _ (b / 2 ^ n / 2) = _
  rw [Nat.div_div_eq_div_mul, ← Nat.pow_succ]
set_option maxHeartbeats 8000000 in
set_option maxRecDepth 100000 in
theorem times_any (a b : Nat) (w : World) (ha : a < 256) (hb : b < 256) :
    Calls Tryd.prog 24 #[.int .u8 (a : Int), .int .u8 (b : Int)] w fun e w' => e = .returned (.int .u8 (Aes.tm a b : Int)) ∧ w = w' := by
  go_enter Tryd.func24, Tryd.ntmps24
  go_wp2
  go_loop [5, 6, 7] (fun p x i => ∃ n p' x' : Nat, n ≤ 8 ∧ i = .int .i64 n ∧ p = .int .i64 (p' : Int) ∧ x = .int .i64 (x' : Int) ∧ p' < 256 ∧ x' < 256 ∧ Hid (Aes.tmGo (8 - n) p' x' (b / 2 ^ n) = Aes.tm a b)) (fun _ _ i => 8 - (intOf i).toNat)
  case atStart => exact ⟨0, 0, a, by omega, rfl, rfl, rfl, by omega, ha, by show Aes.tmGo 8 0 a (b / 1) = _; rw [Nat.div_one]; rfl⟩
  case round =>
    obtain ⟨n, p, x, hn, rfl, rfl, rfl, hp, hx, HT⟩ := hrel
    by_cases hlt : n < 8
    · have b1 := bits64_xor p x (by omega) (by omega)
      have b2 : bits .xor .i64 ((x : Int) * 2) 283 = ((x * 2 ^^^ 283 : Nat) : Int) := by
        rw [show (x : Int) * 2 = ((x * 2 : Nat) : Int) by omega]; exact bits64_xor (x * 2) 283 (by omega) (by omega)
      have HB := Lib.hid (And.intro b1 b2)
      have hxt := Aes.xt_lt hx
      have hpx := Aes.byte_xor hp hx
      have HS := Lib.hid ((tm_step n p x b hlt).symm.trans HT.out)
      clear HT b1 b2
      rcases (show n = 0 ∨ n = 1 ∨ n = 2 ∨ n = 3 ∨ n = 4 ∨ n = 5 ∨ n = 6 ∨ n = 7 by omega) with rfl | rfl | rfl | rfl | rfl | rfl | rfl | rfl
      · by_cases hb1 : b % 2 = 1
        · by_cases h2 : 256 ≤ x * 2
          · go_wp2
            go_round
            case rel => exact ⟨1, p ^^^ x, Aes.xt x, by omega, rfl, by rw [HB.out.1], by rw [HB.out.2]; unfold Aes.xt; rw [if_pos h2], hpx, hxt, by have := HS.out; rw [if_pos (by simpa using hb1)] at this; exact this⟩
            case measure => simp [intOf]
          · go_wp2
            go_round
            case rel => exact ⟨1, p ^^^ x, Aes.xt x, by omega, rfl, by rw [HB.out.1], by unfold Aes.xt; rw [if_neg h2]; go_num, hpx, hxt, by have := HS.out; rw [if_pos (by simpa using hb1)] at this; exact this⟩
            case measure => simp [intOf]
        · by_cases h2 : 256 ≤ x * 2
          · go_wp2
            go_round
            case rel => exact ⟨1, p, Aes.xt x, by omega, rfl, rfl, by rw [HB.out.2]; unfold Aes.xt; rw [if_pos h2], hp, hxt, by have := HS.out; rw [if_neg (by simpa using hb1)] at this; exact this⟩
            case measure => simp [intOf]
          · go_wp2
            go_round
            case rel => exact ⟨1, p, Aes.xt x, by omega, rfl, rfl, by unfold Aes.xt; rw [if_neg h2]; go_num, hp, hxt, by have := HS.out; rw [if_neg (by simpa using hb1)] at this; exact this⟩
            case measure => simp [intOf]
      · by_cases hb1 : b / 2 % 2 = 1
        · by_cases h2 : 256 ≤ x * 2
          · go_wp2
            go_round
            case rel => exact ⟨2, p ^^^ x, Aes.xt x, by omega, rfl, by rw [HB.out.1], by rw [HB.out.2]; unfold Aes.xt; rw [if_pos h2], hpx, hxt, by have := HS.out; rw [if_pos (by simpa using hb1)] at this; exact this⟩
            case measure => simp [intOf]
          · go_wp2
            go_round
            case rel => exact ⟨2, p ^^^ x, Aes.xt x, by omega, rfl, by rw [HB.out.1], by unfold Aes.xt; rw [if_neg h2]; go_num, hpx, hxt, by have := HS.out; rw [if_pos (by simpa using hb1)] at this; exact this⟩
            case measure => simp [intOf]
        · by_cases h2 : 256 ≤ x * 2
          · go_wp2
            go_round
            case rel => exact ⟨2, p, Aes.xt x, by omega, rfl, rfl, by rw [HB.out.2]; unfold Aes.xt; rw [if_pos h2], hp, hxt, by have := HS.out; rw [if_neg (by simpa using hb1)] at this; exact this⟩
            case measure => simp [intOf]
          · go_wp2
            go_round
            case rel => exact ⟨2, p, Aes.xt x, by omega, rfl, rfl, by unfold Aes.xt; rw [if_neg h2]; go_num, hp, hxt, by have := HS.out; rw [if_neg (by simpa using hb1)] at this; exact this⟩
            case measure => simp [intOf]
      · by_cases hb1 : b / 4 % 2 = 1
        · by_cases h2 : 256 ≤ x * 2
          · go_wp2
            go_round
            case rel => exact ⟨3, p ^^^ x, Aes.xt x, by omega, rfl, by rw [HB.out.1], by rw [HB.out.2]; unfold Aes.xt; rw [if_pos h2], hpx, hxt, by have := HS.out; rw [if_pos (by simpa using hb1)] at this; exact this⟩
            case measure => simp [intOf]
          · go_wp2
            go_round
            case rel => exact ⟨3, p ^^^ x, Aes.xt x, by omega, rfl, by rw [HB.out.1], by unfold Aes.xt; rw [if_neg h2]; go_num, hpx, hxt, by have := HS.out; rw [if_pos (by simpa using hb1)] at this; exact this⟩
            case measure => simp [intOf]
        · by_cases h2 : 256 ≤ x * 2
          · go_wp2
            go_round
            case rel => exact ⟨3, p, Aes.xt x, by omega, rfl, rfl, by rw [HB.out.2]; unfold Aes.xt; rw [if_pos h2], hp, hxt, by have := HS.out; rw [if_neg (by simpa using hb1)] at this; exact this⟩
            case measure => simp [intOf]
          · go_wp2
            go_round
            case rel => exact ⟨3, p, Aes.xt x, by omega, rfl, rfl, by unfold Aes.xt; rw [if_neg h2]; go_num, hp, hxt, by have := HS.out; rw [if_neg (by simpa using hb1)] at this; exact this⟩
            case measure => simp [intOf]
      · by_cases hb1 : b / 8 % 2 = 1
        · by_cases h2 : 256 ≤ x * 2
          · go_wp2
            go_round
            case rel => exact ⟨4, p ^^^ x, Aes.xt x, by omega, rfl, by rw [HB.out.1], by rw [HB.out.2]; unfold Aes.xt; rw [if_pos h2], hpx, hxt, by have := HS.out; rw [if_pos (by simpa using hb1)] at this; exact this⟩
            case measure => simp [intOf]
          · go_wp2
            go_round
            case rel => exact ⟨4, p ^^^ x, Aes.xt x, by omega, rfl, by rw [HB.out.1], by unfold Aes.xt; rw [if_neg h2]; go_num, hpx, hxt, by have := HS.out; rw [if_pos (by simpa using hb1)] at this; exact this⟩
            case measure => simp [intOf]
        · by_cases h2 : 256 ≤ x * 2
          · go_wp2
            go_round
            case rel => exact ⟨4, p, Aes.xt x, by omega, rfl, rfl, by rw [HB.out.2]; unfold Aes.xt; rw [if_pos h2], hp, hxt, by have := HS.out; rw [if_neg (by simpa using hb1)] at this; exact this⟩
            case measure => simp [intOf]
          · go_wp2
            go_round
            case rel => exact ⟨4, p, Aes.xt x, by omega, rfl, rfl, by unfold Aes.xt; rw [if_neg h2]; go_num, hp, hxt, by have := HS.out; rw [if_neg (by simpa using hb1)] at this; exact this⟩
            case measure => simp [intOf]
      · by_cases hb1 : b / 16 % 2 = 1
        · by_cases h2 : 256 ≤ x * 2
          · go_wp2
            go_round
            case rel => exact ⟨5, p ^^^ x, Aes.xt x, by omega, rfl, by rw [HB.out.1], by rw [HB.out.2]; unfold Aes.xt; rw [if_pos h2], hpx, hxt, by have := HS.out; rw [if_pos (by simpa using hb1)] at this; exact this⟩
            case measure => simp [intOf]
          · go_wp2
            go_round
            case rel => exact ⟨5, p ^^^ x, Aes.xt x, by omega, rfl, by rw [HB.out.1], by unfold Aes.xt; rw [if_neg h2]; go_num, hpx, hxt, by have := HS.out; rw [if_pos (by simpa using hb1)] at this; exact this⟩
            case measure => simp [intOf]
        · by_cases h2 : 256 ≤ x * 2
          · go_wp2
            go_round
            case rel => exact ⟨5, p, Aes.xt x, by omega, rfl, rfl, by rw [HB.out.2]; unfold Aes.xt; rw [if_pos h2], hp, hxt, by have := HS.out; rw [if_neg (by simpa using hb1)] at this; exact this⟩
            case measure => simp [intOf]
          · go_wp2
            go_round
            case rel => exact ⟨5, p, Aes.xt x, by omega, rfl, rfl, by unfold Aes.xt; rw [if_neg h2]; go_num, hp, hxt, by have := HS.out; rw [if_neg (by simpa using hb1)] at this; exact this⟩
            case measure => simp [intOf]
      · by_cases hb1 : b / 32 % 2 = 1
        · by_cases h2 : 256 ≤ x * 2
          · go_wp2
            go_round
            case rel => exact ⟨6, p ^^^ x, Aes.xt x, by omega, rfl, by rw [HB.out.1], by rw [HB.out.2]; unfold Aes.xt; rw [if_pos h2], hpx, hxt, by have := HS.out; rw [if_pos (by simpa using hb1)] at this; exact this⟩
            case measure => simp [intOf]
          · go_wp2
            go_round
            case rel => exact ⟨6, p ^^^ x, Aes.xt x, by omega, rfl, by rw [HB.out.1], by unfold Aes.xt; rw [if_neg h2]; go_num, hpx, hxt, by have := HS.out; rw [if_pos (by simpa using hb1)] at this; exact this⟩
            case measure => simp [intOf]
        · by_cases h2 : 256 ≤ x * 2
          · go_wp2
            go_round
            case rel => exact ⟨6, p, Aes.xt x, by omega, rfl, rfl, by rw [HB.out.2]; unfold Aes.xt; rw [if_pos h2], hp, hxt, by have := HS.out; rw [if_neg (by simpa using hb1)] at this; exact this⟩
            case measure => simp [intOf]
          · go_wp2
            go_round
            case rel => exact ⟨6, p, Aes.xt x, by omega, rfl, rfl, by unfold Aes.xt; rw [if_neg h2]; go_num, hp, hxt, by have := HS.out; rw [if_neg (by simpa using hb1)] at this; exact this⟩
            case measure => simp [intOf]
      · by_cases hb1 : b / 64 % 2 = 1
        · by_cases h2 : 256 ≤ x * 2
          · go_wp2
            go_round
            case rel => exact ⟨7, p ^^^ x, Aes.xt x, by omega, rfl, by rw [HB.out.1], by rw [HB.out.2]; unfold Aes.xt; rw [if_pos h2], hpx, hxt, by have := HS.out; rw [if_pos (by simpa using hb1)] at this; exact this⟩
            case measure => simp [intOf]
          · go_wp2
            go_round
            case rel => exact ⟨7, p ^^^ x, Aes.xt x, by omega, rfl, by rw [HB.out.1], by unfold Aes.xt; rw [if_neg h2]; go_num, hpx, hxt, by have := HS.out; rw [if_pos (by simpa using hb1)] at this; exact this⟩
            case measure => simp [intOf]
        · by_cases h2 : 256 ≤ x * 2
          · go_wp2
            go_round
            case rel => exact ⟨7, p, Aes.xt x, by omega, rfl, rfl, by rw [HB.out.2]; unfold Aes.xt; rw [if_pos h2], hp, hxt, by have := HS.out; rw [if_neg (by simpa using hb1)] at this; exact this⟩
            case measure => simp [intOf]
          · go_wp2
            go_round
            case rel => exact ⟨7, p, Aes.xt x, by omega, rfl, rfl, by unfold Aes.xt; rw [if_neg h2]; go_num, hp, hxt, by have := HS.out; rw [if_neg (by simpa using hb1)] at this; exact this⟩
            case measure => simp [intOf]
      · by_cases hb1 : b / 128 % 2 = 1
        · by_cases h2 : 256 ≤ x * 2
          · go_wp2
            go_round
            case rel => exact ⟨8, p ^^^ x, Aes.xt x, by omega, rfl, by rw [HB.out.1], by rw [HB.out.2]; unfold Aes.xt; rw [if_pos h2], hpx, hxt, by have := HS.out; rw [if_pos (by simpa using hb1)] at this; exact this⟩
            case measure => simp [intOf]
          · go_wp2
            go_round
            case rel => exact ⟨8, p ^^^ x, Aes.xt x, by omega, rfl, by rw [HB.out.1], by unfold Aes.xt; rw [if_neg h2]; go_num, hpx, hxt, by have := HS.out; rw [if_pos (by simpa using hb1)] at this; exact this⟩
            case measure => simp [intOf]
        · by_cases h2 : 256 ≤ x * 2
          · go_wp2
            go_round
            case rel => exact ⟨8, p, Aes.xt x, by omega, rfl, rfl, by rw [HB.out.2]; unfold Aes.xt; rw [if_pos h2], hp, hxt, by have := HS.out; rw [if_neg (by simpa using hb1)] at this; exact this⟩
            case measure => simp [intOf]
          · go_wp2
            go_round
            case rel => exact ⟨8, p, Aes.xt x, by omega, rfl, rfl, by unfold Aes.xt; rw [if_neg h2]; go_num, hp, hxt, by have := HS.out; rw [if_neg (by simpa using hb1)] at this; exact this⟩
            case measure => simp [intOf]
    · obtain rfl : n = 8 := by omega
      go_wp2
      go_ret
      exact ⟨ret_int (by have := HT.out; rw [← this]; show _ = ((p : Nat) : Int); omega), rfl⟩
theorem pow_step (n p a : Nat) (hn : n < 254) : Aes.powGo (254 - n) p a = Aes.powGo (254 - (n + 1)) (Aes.tm p a) a := by
  rw [show 254 - n = (254 - (n + 1)) + 1 by omega]; rfl
set_option maxHeartbeats 1000000 in
set_option maxRecDepth 100000 in
theorem inverse_any (a : Nat) (w : World) (ha : a < 256) :
    Calls Tryd.prog 35 #[.int .u8 (a : Int)] w fun e w' => e = .returned (.int .u8 (Aes.inv a : Int)) ∧ w = w' := by
  go_enter Tryd.func35, Tryd.ntmps35
  go_wp2
  go_loop [3, 4] (fun p i => ∃ n p' : Nat, n ≤ 254 ∧ i = .int .i64 n ∧ p = .int .u8 (p' : Int) ∧ p' < 256 ∧ Hid (Aes.powGo (254 - n) p' a = Aes.inv a)) (fun _ i => 254 - (intOf i).toNat)
  case atStart => exact ⟨0, 1, by omega, rfl, rfl, by omega, rfl⟩
  case round =>
    obtain ⟨n, p, hn, rfl, rfl, hp, HT⟩ := hrel
    by_cases hlt : n < 254
    · have HS := Lib.hid ((pow_step n p a hlt).symm.trans HT.out)
      clear HT
      go_wp2_with (go_at_call 24; refine (times_any _ _ _ hp ha).mono ?_; rintro e w' ⟨rfl, rfl⟩)
      go_round
      case rel => exact ⟨n + 1, Aes.tm p a, by omega, by go_num, rfl, Aes.tm_lt a hp, HS.out⟩
      case measure => simp [intOf]; omega
    · obtain rfl : n = 254 := by omega
      have HE : Hid (p = Aes.inv a) := HT
      clear HT
      go_wp2
      go_ret
      exact ⟨ret_int (by rw [← HE.out]), rfl⟩
theorem sGo_step (n o y : Nat) (hn : n < 5) : Aes.sGo (5 - n) o y = Aes.sGo (5 - (n + 1)) (o ^^^ y) (Aes.rotl y) := by
  rw [show 5 - n = (5 - (n + 1)) + 1 by omega]; rfl
set_option maxHeartbeats 1000000 in
set_option maxRecDepth 100000 in
theorem s_any (a : Nat) (w : World) (ha : a < 256) :
    Calls Tryd.prog 23 #[.int .u8 (a : Int)] w fun e w' => e = .returned (.int .u8 (Aes.sb a : Int)) ∧ w = w' := by
  have hinv : Aes.inv a < 256 := Aes.powGo_lt 254 1 a (by omega)
  go_enter Tryd.func23, Tryd.ntmps23
  go_wp2_with (go_at_call 35; refine (inverse_any _ _ ha).mono ?_; rintro e w' ⟨rfl, rfl⟩)
  go_loop [3, 4, 5] (fun y o i => ∃ n y' o' : Nat, n ≤ 5 ∧ i = .int .i64 n ∧ y = .int .u8 (y' : Int) ∧ o = .int .u8 (o' : Int) ∧ y' < 256 ∧ o' < 256 ∧ Hid (Aes.sGo (5 - n) o' y' = Aes.sb a)) (fun _ _ i => 5 - (intOf i).toNat)
  case atStart => exact ⟨0, Aes.inv a, 99, by omega, rfl, rfl, rfl, hinv, by omega, rfl⟩
  case round =>
    obtain ⟨n, y, o, hn, rfl, rfl, rfl, hy, ho, HT⟩ := hrel
    by_cases hlt : n < 5
    · have HS := Lib.hid ((sGo_step n o y hlt).symm.trans HT.out)
      have HX := Lib.hid (bits8_xor o y ho hy)
      clear HT
      go_wp2
      go_round
      case rel => exact ⟨n + 1, Aes.rotl y, o ^^^ y, by omega, by go_num, by unfold Aes.rotl; go_num, by rw [HX.out], Nat.mod_lt _ (by omega), Aes.byte_xor ho hy, HS.out⟩
      case measure => simp [intOf]; omega
    · obtain rfl : n = 5 := by omega
      have HE : Hid (o = Aes.sb a) := HT
      clear HT
      go_wp2
      go_ret
      exact ⟨ret_int (by rw [← HE.out]), rfl⟩
end Go.Proofs.YtecdfjcncgcegaaDoor
