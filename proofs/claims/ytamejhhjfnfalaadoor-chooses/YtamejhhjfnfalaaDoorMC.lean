/- Contracts of the document's own AES. No condition beyond those that each theorem states. -/
import Derived.Test.YtamejhhjfnfalaaDoorMA
import Derived.Test.YtamejhhjfnfalaaDoorMB
import Derived.Maps.AppendAt
import Derived.Deep.RegionLaw
import Derived.OrdersHeld
import Derived.StillTail
import Derived.Laws.MakeOwn
/- Contracts of the document's own Times, inverse and S. -/
namespace Go.Proofs.YtamejhhjfnfalaaDoor.Ae
open Go.RowKit

theorem i64w (n : Int) : IntKind.i64.wrap n = (n + 9223372036854775808) % 18446744073709551616 - 9223372036854775808 := by
  simp [IntKind.wrap, IntKind.bits, IntKind.signed]
  split <;> omega
theorem bits64_xor (X Y : Nat) (hX : X < 1000000) (hY : Y < 1000000) : bits .xor .i64 (X : Int) (Y : Int) = ((X ^^^ Y : Nat) : Int) := by
  show IntKind.i64.wrap ((BitVec.ofInt 64 (X : Int) ^^^ BitVec.ofInt 64 (Y : Int)).toNat : Int) = _
  have o : ∀ Z : Nat, Z < 1000000 → (BitVec.ofInt 64 (Z : Int)).toNat = Z := fun Z hZ => by
    rw [BitVec.ofInt_natCast, BitVec.toNat_ofNat]
    exact Nat.mod_eq_of_lt (by omega)
  have hl : X ^^^ Y < 2 ^ 20 := Nat.xor_lt_two_pow (by omega) (by omega)
  rw [BitVec.toNat_xor, o X hX, o Y hY, i64w]
  omega
theorem tm_step (n p x b : Nat) (hn : n < 8) : Aes.tmGo (8 - n) p x (b / 2 ^ n) = Aes.tmGo (8 - (n + 1)) (if b / 2 ^ n % 2 = 1 then p ^^^ x else p) (Aes.xt x) (b / 2 ^ (n + 1)) := by
  rw [show 8 - n = (8 - (n + 1)) + 1 by omega]
  show Aes.tmGo (8 - (n + 1)) _ _ (b / 2 ^ n / 2) = _
  rw [Nat.div_div_eq_div_mul, ← Nat.pow_succ]
set_option maxHeartbeats 8000000 in
set_option maxRecDepth 100000 in
theorem times_any (a b : Nat) (w : World) (ha : a < 256) (hb : b < 256) :
    Calls Tryd.prog 97 #[.int .u8 (a : Int), .int .u8 (b : Int)] w fun e w' => e = .returned (.int .u8 (Aes.tm a b : Int)) ∧ w = w' := by
  go_enter Tryd.func97, Tryd.ntmps97
  go_wp2
  go_loop [5, 6, 7] (fun p x i => ∃ n p' x' : Nat, n ≤ 8 ∧ i = .int .i64 n ∧ p = .int .i64 (p' : Int) ∧ x = .int .i64 (x' : Int) ∧ p' < 256 ∧ x' < 256 ∧ Hid (Aes.tmGo (8 - n) p' x' (b / 2 ^ n) = Aes.tm a b)) (fun _ _ i => 8 - (intOf i).toNat)
  case atStart => exact ⟨0, 0, a, by omega, rfl, rfl, rfl, by omega, ha, by show Aes.tmGo 8 0 a (b / 1) = _; rw [Nat.div_one]; rfl⟩
  case round =>
    obtain ⟨n, p, x, hn, rfl, rfl, rfl, hp, hx, HT⟩ := hrel
    by_cases hlt : n < 8
    · have b1 := bits64_xor p x (by omega) (by omega)
      have b2 : bits .xor .i64 ((x : Int) * 2) 283 = ((x * 2 ^^^ 283 : Nat) : Int) := by
        rw [show (x : Int) * 2 = ((x * 2 : Nat) : Int) by omega]; exact bits64_xor (x * 2) 283 (by omega) (by omega)
      have HB := Lib.hid (And.intro b1 b2)
      have hxt := Aes.xt_lt hx
      have hpx := Aes.byte_xor hp hx
      have HS := Lib.hid ((tm_step n p x b hlt).symm.trans HT.out)
      clear HT b1 b2
      rcases (show n = 0 ∨ n = 1 ∨ n = 2 ∨ n = 3 ∨ n = 4 ∨ n = 5 ∨ n = 6 ∨ n = 7 by omega) with rfl | rfl | rfl | rfl | rfl | rfl | rfl | rfl
      · by_cases hb1 : b % 2 = 1
        · by_cases h2 : 256 ≤ x * 2
          · go_wp2
            go_round
            case rel => exact ⟨1, p ^^^ x, Aes.xt x, by omega, rfl, by rw [HB.out.1], by rw [HB.out.2]; unfold Aes.xt; rw [if_pos h2], hpx, hxt, by have := HS.out; rw [if_pos (by simpa using hb1)] at this; exact this⟩
            case measure => simp [intOf]
          · go_wp2
            go_round
            case rel => exact ⟨1, p ^^^ x, Aes.xt x, by omega, rfl, by rw [HB.out.1], by unfold Aes.xt; rw [if_neg h2]; go_num, hpx, hxt, by have := HS.out; rw [if_pos (by simpa using hb1)] at this; exact this⟩
            case measure => simp [intOf]
        · by_cases h2 : 256 ≤ x * 2
          · go_wp2
            go_round
            case rel => exact ⟨1, p, Aes.xt x, by omega, rfl, rfl, by rw [HB.out.2]; unfold Aes.xt; rw [if_pos h2], hp, hxt, by have := HS.out; rw [if_neg (by simpa using hb1)] at this; exact this⟩
            case measure => simp [intOf]
          · go_wp2
            go_round
            case rel => exact ⟨1, p, Aes.xt x, by omega, rfl, rfl, by unfold Aes.xt; rw [if_neg h2]; go_num, hp, hxt, by have := HS.out; rw [if_neg (by simpa using hb1)] at this; exact this⟩
            case measure => simp [intOf]
      · by_cases hb1 : b / 2 % 2 = 1
        · by_cases h2 : 256 ≤ x * 2
          · go_wp2
            go_round
            case rel => exact ⟨2, p ^^^ x, Aes.xt x, by omega, rfl, by rw [HB.out.1], by rw [HB.out.2]; unfold Aes.xt; rw [if_pos h2], hpx, hxt, by have := HS.out; rw [if_pos (by simpa using hb1)] at this; exact this⟩
            case measure => simp [intOf]
          · go_wp2
            go_round
            case rel => exact ⟨2, p ^^^ x, Aes.xt x, by omega, rfl, by rw [HB.out.1], by unfold Aes.xt; rw [if_neg h2]; go_num, hpx, hxt, by have := HS.out; rw [if_pos (by simpa using hb1)] at this; exact this⟩
            case measure => simp [intOf]
        · by_cases h2 : 256 ≤ x * 2
          · go_wp2
            go_round
            case rel => exact ⟨2, p, Aes.xt x, by omega, rfl, rfl, by rw [HB.out.2]; unfold Aes.xt; rw [if_pos h2], hp, hxt, by have := HS.out; rw [if_neg (by simpa using hb1)] at this; exact this⟩
            case measure => simp [intOf]
          · go_wp2
            go_round
            case rel => exact ⟨2, p, Aes.xt x, by omega, rfl, rfl, by unfold Aes.xt; rw [if_neg h2]; go_num, hp, hxt, by have := HS.out; rw [if_neg (by simpa using hb1)] at this; exact this⟩
            case measure => simp [intOf]
      · by_cases hb1 : b / 4 % 2 = 1
        · by_cases h2 : 256 ≤ x * 2
          · go_wp2
            go_round
            case rel => exact ⟨3, p ^^^ x, Aes.xt x, by omega, rfl, by rw [HB.out.1], by rw [HB.out.2]; unfold Aes.xt; rw [if_pos h2], hpx, hxt, by have := HS.out; rw [if_pos (by simpa using hb1)] at this; exact this⟩
            case measure => simp [intOf]
          · go_wp2
            go_round
            case rel => exact ⟨3, p ^^^ x, Aes.xt x, by omega, rfl, by rw [HB.out.1], by unfold Aes.xt; rw [if_neg h2]; go_num, hpx, hxt, by have := HS.out; rw [if_pos (by simpa using hb1)] at this; exact this⟩
            case measure => simp [intOf]
        · by_cases h2 : 256 ≤ x * 2
          · go_wp2
            go_round
            case rel => exact ⟨3, p, Aes.xt x, by omega, rfl, rfl, by rw [HB.out.2]; unfold Aes.xt; rw [if_pos h2], hp, hxt, by have := HS.out; rw [if_neg (by simpa using hb1)] at this; exact this⟩
            case measure => simp [intOf]
          · go_wp2
            go_round
            case rel => exact ⟨3, p, Aes.xt x, by omega, rfl, rfl, by unfold Aes.xt; rw [if_neg h2]; go_num, hp, hxt, by have := HS.out; rw [if_neg (by simpa using hb1)] at this; exact this⟩
            case measure => simp [intOf]
      · by_cases hb1 : b / 8 % 2 = 1
        · by_cases h2 : 256 ≤ x * 2
          · go_wp2
            go_round
            case rel => exact ⟨4, p ^^^ x, Aes.xt x, by omega, rfl, by rw [HB.out.1], by rw [HB.out.2]; unfold Aes.xt; rw [if_pos h2], hpx, hxt, by have := HS.out; rw [if_pos (by simpa using hb1)] at this; exact this⟩
            case measure => simp [intOf]
          · go_wp2
            go_round
            case rel => exact ⟨4, p ^^^ x, Aes.xt x, by omega, rfl, by rw [HB.out.1], by unfold Aes.xt; rw [if_neg h2]; go_num, hpx, hxt, by have := HS.out; rw [if_pos (by simpa using hb1)] at this; exact this⟩
            case measure => simp [intOf]
        · by_cases h2 : 256 ≤ x * 2
          · go_wp2
            go_round
            case rel => exact ⟨4, p, Aes.xt x, by omega, rfl, rfl, by rw [HB.out.2]; unfold Aes.xt; rw [if_pos h2], hp, hxt, by have := HS.out; rw [if_neg (by simpa using hb1)] at this; exact this⟩
            case measure => simp [intOf]
          · go_wp2
            go_round
            case rel => exact ⟨4, p, Aes.xt x, by omega, rfl, rfl, by unfold Aes.xt; rw [if_neg h2]; go_num, hp, hxt, by have := HS.out; rw [if_neg (by simpa using hb1)] at this; exact this⟩
            case measure => simp [intOf]
      · by_cases hb1 : b / 16 % 2 = 1
        · by_cases h2 : 256 ≤ x * 2
          · go_wp2
            go_round
            case rel => exact ⟨5, p ^^^ x, Aes.xt x, by omega, rfl, by rw [HB.out.1], by rw [HB.out.2]; unfold Aes.xt; rw [if_pos h2], hpx, hxt, by have := HS.out; rw [if_pos (by simpa using hb1)] at this; exact this⟩
            case measure => simp [intOf]
          · go_wp2
            go_round
            case rel => exact ⟨5, p ^^^ x, Aes.xt x, by omega, rfl, by rw [HB.out.1], by unfold Aes.xt; rw [if_neg h2]; go_num, hpx, hxt, by have := HS.out; rw [if_pos (by simpa using hb1)] at this; exact this⟩
            case measure => simp [intOf]
        · by_cases h2 : 256 ≤ x * 2
          · go_wp2
            go_round
            case rel => exact ⟨5, p, Aes.xt x, by omega, rfl, rfl, by rw [HB.out.2]; unfold Aes.xt; rw [if_pos h2], hp, hxt, by have := HS.out; rw [if_neg (by simpa using hb1)] at this; exact this⟩
            case measure => simp [intOf]
          · go_wp2
            go_round
            case rel => exact ⟨5, p, Aes.xt x, by omega, rfl, rfl, by unfold Aes.xt; rw [if_neg h2]; go_num, hp, hxt, by have := HS.out; rw [if_neg (by simpa using hb1)] at this; exact this⟩
            case measure => simp [intOf]
      · by_cases hb1 : b / 32 % 2 = 1
        · by_cases h2 : 256 ≤ x * 2
          · go_wp2
            go_round
            case rel => exact ⟨6, p ^^^ x, Aes.xt x, by omega, rfl, by rw [HB.out.1], by rw [HB.out.2]; unfold Aes.xt; rw [if_pos h2], hpx, hxt, by have := HS.out; rw [if_pos (by simpa using hb1)] at this; exact this⟩
            case measure => simp [intOf]
          · go_wp2
            go_round
            case rel => exact ⟨6, p ^^^ x, Aes.xt x, by omega, rfl, by rw [HB.out.1], by unfold Aes.xt; rw [if_neg h2]; go_num, hpx, hxt, by have := HS.out; rw [if_pos (by simpa using hb1)] at this; exact this⟩
            case measure => simp [intOf]
        · by_cases h2 : 256 ≤ x * 2
          · go_wp2
            go_round
            case rel => exact ⟨6, p, Aes.xt x, by omega, rfl, rfl, by rw [HB.out.2]; unfold Aes.xt; rw [if_pos h2], hp, hxt, by have := HS.out; rw [if_neg (by simpa using hb1)] at this; exact this⟩
            case measure => simp [intOf]
          · go_wp2
            go_round
            case rel => exact ⟨6, p, Aes.xt x, by omega, rfl, rfl, by unfold Aes.xt; rw [if_neg h2]; go_num, hp, hxt, by have := HS.out; rw [if_neg (by simpa using hb1)] at this; exact this⟩
            case measure => simp [intOf]
      · by_cases hb1 : b / 64 % 2 = 1
        · by_cases h2 : 256 ≤ x * 2
          · go_wp2
            go_round
            case rel => exact ⟨7, p ^^^ x, Aes.xt x, by omega, rfl, by rw [HB.out.1], by rw [HB.out.2]; unfold Aes.xt; rw [if_pos h2], hpx, hxt, by have := HS.out; rw [if_pos (by simpa using hb1)] at this; exact this⟩
            case measure => simp [intOf]
          · go_wp2
            go_round
            case rel => exact ⟨7, p ^^^ x, Aes.xt x, by omega, rfl, by rw [HB.out.1], by unfold Aes.xt; rw [if_neg h2]; go_num, hpx, hxt, by have := HS.out; rw [if_pos (by simpa using hb1)] at this; exact this⟩
            case measure => simp [intOf]
        · by_cases h2 : 256 ≤ x * 2
          · go_wp2
            go_round
            case rel => exact ⟨7, p, Aes.xt x, by omega, rfl, rfl, by rw [HB.out.2]; unfold Aes.xt; rw [if_pos h2], hp, hxt, by have := HS.out; rw [if_neg (by simpa using hb1)] at this; exact this⟩
            case measure => simp [intOf]
          · go_wp2
            go_round
            case rel => exact ⟨7, p, Aes.xt x, by omega, rfl, rfl, by unfold Aes.xt; rw [if_neg h2]; go_num, hp, hxt, by have := HS.out; rw [if_neg (by simpa using hb1)] at this; exact this⟩
            case measure => simp [intOf]
      · by_cases hb1 : b / 128 % 2 = 1
        · by_cases h2 : 256 ≤ x * 2
          · go_wp2
            go_round
            case rel => exact ⟨8, p ^^^ x, Aes.xt x, by omega, rfl, by rw [HB.out.1], by rw [HB.out.2]; unfold Aes.xt; rw [if_pos h2], hpx, hxt, by have := HS.out; rw [if_pos (by simpa using hb1)] at this; exact this⟩
            case measure => simp [intOf]
          · go_wp2
            go_round
            case rel => exact ⟨8, p ^^^ x, Aes.xt x, by omega, rfl, by rw [HB.out.1], by unfold Aes.xt; rw [if_neg h2]; go_num, hpx, hxt, by have := HS.out; rw [if_pos (by simpa using hb1)] at this; exact this⟩
            case measure => simp [intOf]
        · by_cases h2 : 256 ≤ x * 2
          · go_wp2
            go_round
            case rel => exact ⟨8, p, Aes.xt x, by omega, rfl, rfl, by rw [HB.out.2]; unfold Aes.xt; rw [if_pos h2], hp, hxt, by have := HS.out; rw [if_neg (by simpa using hb1)] at this; exact this⟩
            case measure => simp [intOf]
          · go_wp2
            go_round
            case rel => exact ⟨8, p, Aes.xt x, by omega, rfl, rfl, by unfold Aes.xt; rw [if_neg h2]; go_num, hp, hxt, by have := HS.out; rw [if_neg (by simpa using hb1)] at this; exact this⟩
            case measure => simp [intOf]
    · obtain rfl : n = 8 := by omega
      go_wp2
      go_ret
      exact ⟨ret_int (by have := HT.out; rw [← this]; show _ = ((p : Nat) : Int); omega), rfl⟩
theorem pow_step (n p a : Nat) (hn : n < 254) : Aes.powGo (254 - n) p a = Aes.powGo (254 - (n + 1)) (Aes.tm p a) a := by
  rw [show 254 - n = (254 - (n + 1)) + 1 by omega]; rfl
set_option maxHeartbeats 1000000 in
set_option maxRecDepth 100000 in
theorem inverse_any (a : Nat) (w : World) (ha : a < 256) :
    Calls Tryd.prog 105 #[.int .u8 (a : Int)] w fun e w' => e = .returned (.int .u8 (Aes.inv a : Int)) ∧ w = w' := by
  go_enter Tryd.func105, Tryd.ntmps105
  go_wp2
  go_loop [3, 4] (fun p i => ∃ n p' : Nat, n ≤ 254 ∧ i = .int .i64 n ∧ p = .int .u8 (p' : Int) ∧ p' < 256 ∧ Hid (Aes.powGo (254 - n) p' a = Aes.inv a)) (fun _ i => 254 - (intOf i).toNat)
  case atStart => exact ⟨0, 1, by omega, rfl, rfl, by omega, rfl⟩
  case round =>
    obtain ⟨n, p, hn, rfl, rfl, hp, HT⟩ := hrel
    by_cases hlt : n < 254
    · have HS := Lib.hid ((pow_step n p a hlt).symm.trans HT.out)
      clear HT
      go_wp2_with (go_at_call 97; refine (times_any _ _ _ hp ha).mono ?_; rintro e w' ⟨rfl, rfl⟩)
      go_round
      case rel => exact ⟨n + 1, Aes.tm p a, by omega, by go_num, rfl, Aes.tm_lt a hp, HS.out⟩
      case measure => simp [intOf]; omega
    · obtain rfl : n = 254 := by omega
      have HE : Hid (p = Aes.inv a) := HT
      clear HT
      go_wp2
      go_ret
      exact ⟨ret_int (by rw [← HE.out]), rfl⟩
theorem sGo_step (n o y : Nat) (hn : n < 5) : Aes.sGo (5 - n) o y = Aes.sGo (5 - (n + 1)) (o ^^^ y) (Aes.rotl y) := by
  rw [show 5 - n = (5 - (n + 1)) + 1 by omega]; rfl
set_option maxHeartbeats 1000000 in
set_option maxRecDepth 100000 in
theorem s_any (a : Nat) (w : World) (ha : a < 256) :
    Calls Tryd.prog 96 #[.int .u8 (a : Int)] w fun e w' => e = .returned (.int .u8 (Aes.sb a : Int)) ∧ w = w' := by
  have hinv : Aes.inv a < 256 := Aes.powGo_lt 254 1 a (by omega)
  go_enter Tryd.func96, Tryd.ntmps96
  go_wp2_with (go_at_call 105; refine (inverse_any _ _ ha).mono ?_; rintro e w' ⟨rfl, rfl⟩)
  go_loop [3, 4, 5] (fun y o i => ∃ n y' o' : Nat, n ≤ 5 ∧ i = .int .i64 n ∧ y = .int .u8 (y' : Int) ∧ o = .int .u8 (o' : Int) ∧ y' < 256 ∧ o' < 256 ∧ Hid (Aes.sGo (5 - n) o' y' = Aes.sb a)) (fun _ _ i => 5 - (intOf i).toNat)
  case atStart => exact ⟨0, Aes.inv a, 99, by omega, rfl, rfl, rfl, hinv, by omega, rfl⟩
  case round =>
    obtain ⟨n, y, o, hn, rfl, rfl, rfl, hy, ho, HT⟩ := hrel
    by_cases hlt : n < 5
    · have HS := Lib.hid ((sGo_step n o y hlt).symm.trans HT.out)
      have HX := Lib.hid (bits8_xor o y ho hy)
      clear HT
      go_wp2
      go_round
      case rel => exact ⟨n + 1, Aes.rotl y, o ^^^ y, by omega, by go_num, by unfold Aes.rotl; go_num, by rw [HX.out], Nat.mod_lt _ (by omega), Aes.byte_xor ho hy, HS.out⟩
      case measure => simp [intOf]; omega
    · obtain rfl : n = 5 := by omega
      have HE : Hid (o = Aes.sb a) := HT
      clear HT
      go_wp2
      go_ret
      exact ⟨ret_int (by rw [← HE.out]), rfl⟩
end Go.Proofs.YtamejhhjfnfalaaDoor.Ae

/- Lists of bytes: those that are only read, those of the call's own that grow. -/
namespace Go.Proofs.YtamejhhjfnfalaaDoor.Ae
open Go.RowKit

section
variable {P : Program} {w : World} {ops : Array Oper} {rest : List Oper} {o : Oper} {a : Act} {K : Act → World → Prop} {Q : Exit → Act → World → Prop}
/-- An append whose run is known. -/
theorem wp_append_run (s x : Operand) (t : TypeId) (ho : o.op = .call { callee := .builtin .append, args := #[s, x], argTypes := #[t, t] }) (v x' v' : Value) (w' : World) (hs : a.eval s = v) (hx : a.eval x = x')
    (hr : (Builtin.append_ #[t, t] o.type #[v, x']).run P w = .ok v' w') (h : K (a.put o.dst v') w') : o.wp P a w K Q := by
  unfold Oper.wp execOp
  simp only [ho, resolve, invoke, builtin, Sem.run_bind, Sem.run_pure, Result.andThen_ok, List.map_toArray, List.map_cons, List.map_nil, hs, hx, hr]
  exact h
theorem wpList_append_run (hgd : o.guard = none) (s x : Operand) (t : TypeId) (ho : o.op = .call { callee := .builtin .append, args := #[s, x], argTypes := #[t, t] }) (v x' v' : Value) (w' : World) (hs : a.eval s = v) (hx : a.eval x = x')
    (hr : (Builtin.append_ #[t, t] o.type #[v, x']).run P w = .ok v' w') (h : wpList P ops Q rest (a.put o.dst v') w') : wpList P ops Q (o :: rest) a w :=
  wpList_plain hgd fun _ hK => wp_append_run s x t ho v x' v' w' hs hx hr (hK _ _ h)
theorem step_append_eq {E : Prop} (hgd : o.guard = none) (s x : Operand) (t : TypeId) (ho : o.op = .call { callee := .builtin .append, args := #[s, x], argTypes := #[t, t] }) (v x' v' : Value) (w' : World) (hs : a.eval s = v) (hx : a.eval x = x')
    (hr : (Builtin.append_ #[t, t] o.type #[v, x']).run P w = .ok v' w') (h : K (a.put o.dst v') w') : if Region.wanted o (yielded ops a.tmps) = true then Oper.wp P o a w K Q else E := by
  have hw : Region.wanted o (yielded ops a.tmps) = true := by simp [Region.wanted, hgd]
  rw [if_pos hw]
  exact wp_append_run s x t ho v x' v' w' hs hx hr h
end
/-- Bytes that are read from an address on. -/
def AtB (w : World) (ad : Addr) (n : Nat) (f : Nat → Nat) : Prop := ∀ i, i < n → w.cell? (ad.add i) = some (.int .u8 (f i : Int))
theorem AtB.below {w w' : World} {ad : Addr} {n : Nat} {f : Nat → Nat} (h : AtB w ad n f) (hb : Below w.heap.size w w') : AtB w' ad n f := fun i hi =>
  (hb.cell (World.block_lt_of_cell? _ _ (h i hi))).trans (h i hi)
theorem AtB.congr {w : World} {ad : Addr} {n : Nat} {f g : Nat → Nat} (h : AtB w ad n f) (hf : ∀ i, i < n → f i = g i) : AtB w ad n g := fun i hi => by rw [← hf i hi]; exact h i hi
theorem AtB.own {w : World} {g N t : Nat} {f : Nat → Nat} (h : OwnB w g N t f) : AtB w ⟨g, 0, none⟩ N f := fun i hi => by
  rw [Addr.add_mid, Nat.zero_add]; exact h.cell i hi
theorem AtB.sub {w : World} {g o : Nat} {n : Nat} {f : Nat → Nat} (h : AtB w ⟨g, o, none⟩ n f) (d m : Nat) (hm : d + m ≤ n) : AtB w ⟨g, o + d, none⟩ m (fun i => f (d + i)) := fun i hi => by
  have := h (d + i) (by omega)
  rw [Addr.add_mid] at this ⊢
  rw [show o + d + i = o + (d + i) by omega]; exact this
theorem AtB.cell {w : World} {g o n : Nat} {f : Nat → Nat} (h : AtB w ⟨g, o, none⟩ n f) (i : Nat) (hi : i < n) : w.cell? ⟨g, o + i, none⟩ = some (.int .u8 (f i : Int)) := by
  have := h i hi
  rwa [Addr.add_mid] at this
theorem infoB : ∃ i, Tryd.prog.info? 5 = some i ∧ i.zero = some (.int .u8 0) ∧ i.size = 1 ∧ i.bytes = 1 := info_parts Tryd.infoU8
theorem newsB {w : World} {n : Nat} {f : Nat → Nat} {ad : Addr} (h : AtB w ad n f) : ∀ j u, (bys n f).toList[j]? = some u → w.cell? (ad.add j) = some u := by
  intro j u hu
  rw [Array.getElem?_toList] at hu
  rcases Nat.lt_or_ge j n with hj | hj
  · rw [bys_get _ _ _ hj] at hu; rw [← hu]; exact h j hj
  · rw [bys_none _ _ _ hj] at hu; cases hu
theorem bys_oneL (n : Nat) (f : Nat → Nat) : ∀ u ∈ (bys n f).toList, u.oneCell' = true := by
  intro v hv
  have := Array.all_eq_true_iff_forall_mem.1 (bys_one n f) v (by simpa using hv)
  exact this
/-- First n of f, then g. -/
def thenB (n : Nat) (f g : Nat → Nat) (i : Nat) : Nat := if i < n then f i else g (i - n)
theorem bys_app (n m : Nat) (f g : Nat → Nat) : (bys n f).toList ++ (bys m g).toList = (bys (n + m) (thenB n f g)).toList := by
  have hl : (bys n f).toList.length = n := by simp [bys_size]
  apply List.ext_getElem?
  intro i
  rcases Nat.lt_or_ge i n with hi | hi
  · rw [List.getElem?_append_left (by omega), Array.getElem?_toList, Array.getElem?_toList, bys_get _ _ _ hi, bys_get _ _ _ (by omega)]
    unfold thenB; rw [if_pos hi]
  · rw [List.getElem?_append_right (by omega), hl, Array.getElem?_toList, Array.getElem?_toList]
    rcases Nat.lt_or_ge i (n + m) with h | h
    · rw [bys_get _ _ _ (by omega), bys_get _ _ _ h]; unfold thenB; rw [if_neg (by omega)]
    · rw [bys_none _ _ _ (by omega), bys_none _ _ _ h]
/-- A list of the call's own: n bytes f, in blocks from base on. -/
def OR (w : World) (base : Nat) (v : Value) (n : Nat) (f : Nat → Nat) : Prop := w.ownsRow base 5 1 v n (bys n f).toList
theorem OR.congr {w : World} {base n : Nat} {v : Value} {f g : Nat → Nat} (h : OR w base v n f) (hf : ∀ i, i < n → f i = g i) : OR w base v n g := by
  unfold OR at h ⊢; rwa [bys_congr hf] at h
theorem OR.nil (w : World) (base : Nat) (f : Nat → Nat) : OR w base (.slice none 0 0) 0 f := World.ownsRow_nil _ _ _ _
theorem OR.alloc {w : World} {base n : Nat} {v : Value} {f : Nat → Nat} (h : OR w base v n f) (o : Obj) : OR (w.alloc o) base v n f := World.ownsRow.alloc h o
theorem OR.drew {w : World} {base n : Nat} {v : Value} {f : Nat → Nat} (h : OR w base v n f) : OR w.drew base v n f := World.ownsRow.drew h
/-- append onto a list of the call's own. -/
theorem append_ownB (w : World) (base : Nat) (v : Value) (n m : Nat) (f g : Nat → Nat) (ad : Addr) (c : Nat) (hown : OR w base v n f) (hA : AtB w ad m g) (hn : n + m ≤ 1000000000000) (hbase : base ≤ w.heap.size) :
    ∃ v' w', (Builtin.append_ #[99, 99] 99 #[v, .slice (some ad) m c]).run Tryd.prog w = .ok v' w' ∧ OR w' base v' (n + m) (thenB n f g) ∧ Below base w w' := by
  obtain ⟨i0, hi, hz0, hz1, hz2⟩ := infoB
  obtain ⟨v', w', hr, h2, h3, _, h5⟩ := run_append_own_at w base 99 99 5 i0 (.int .u8 0) 1 1 Tryd.underlying99 hi hz0 hz1 hz2 rfl (by omega) v n _ hown ad m c (bys m g).toList (by simp [bys_size]) (newsB hA) (bys_oneL m g) (by unfold maxLen; omega) (by omega) hbase
  refine ⟨v', w', hr, by unfold OR; rw [← bys_app]; exact h2, (Below.refl base w).grown h3 hbase fun k hk => ?_⟩
  rcases hown.2 with ⟨rfl, _⟩ | ⟨g', cap, cur, rfl, hb, _⟩
  · simp [Value.ownBlock] at hk
  · simp [Value.ownBlock] at hk; omega
/-- A list of the call's own, read. -/
theorem OR.read {w : World} {base n : Nat} {v : Value} {f : Nat → Nat} (h : OR w base v n f) (hn : 0 < n) : ∃ g c, v = .slice (some ⟨g, 0, none⟩) n c ∧ base ≤ g ∧ n ≤ c ∧ c ≤ maxLen ∧ AtB w ⟨g, 0, none⟩ n f := by
  rcases h.2 with ⟨rfl, hx⟩ | ⟨g, cap, cur, rfl, hb, hg, hnc, hm, hsz, ht⟩
  · omega
  · refine ⟨g, cap, rfl, hb, hnc, hm, fun i hi => ?_⟩
    rw [Addr.add_mid, Nat.zero_add, cell_of_row w g i cur 5 (0, 0) hg]
    have : (cur.toList.take (n * 1))[i]? = some (.int .u8 (f i : Int)) := by rw [ht, Array.getElem?_toList, bys_get _ _ _ hi]
    rw [Nat.mul_one, List.getElem?_take, if_pos hi] at this
    simpa using this
/-- All blocks but g are as they were. -/
structure Keep (g : Nat) (w w' : World) : Prop where
  os : w'.os = w.os
  tape : w'.tape = w.tape
  output : w'.output = w.output
  size : w.heap.size ≤ w'.heap.size
  block : ∀ k, k < w.heap.size → k ≠ g → w'.heap[k]? = w.heap[k]?
theorem Keep.below {g B : Nat} {w0 w w' : World} (h : Keep g w w') (hb : Below B w0 w) (hB : B ≤ g) (hs : B ≤ w.heap.size) : Below B w0 w' :=
  hb.trans ⟨h.os, h.tape, h.output, h.size, fun k hk => h.block k (by omega) (by omega)⟩
theorem Keep.atB {g : Nat} {w w' : World} (h : Keep g w w') {ad : Addr} {n : Nat} {f : Nat → Nat} (ha : AtB w ad n f) (hg : ad.block ≠ g) : AtB w' ad n f := fun i hi => by
  have hc := ha i hi
  have hb : (ad.add i).block = ad.block := by unfold Addr.add; split <;> rfl
  rw [World.cell?_of_block (w := w) (h.block _ (World.block_lt_of_cell? _ _ hc) (by rw [hb]; exact hg))]
  exact hc
set_option maxRecDepth 100000 in
/-- append onto a list that lies in block g: what lay there may still be read. -/
theorem append_at (w : World) (base g c n m : Nat) (f h : Nat → Nat) (ad : Addr) (d : Nat) (hown : OR w base (.slice (some ⟨g, 0, none⟩) n c) n f) (hA : AtB w ad m h) (hn : n + m ≤ 1000000000000) (hbase : base ≤ w.heap.size) :
    ∃ g' c' w', (Builtin.append_ #[99, 99] 99 #[.slice (some ⟨g, 0, none⟩) n c, .slice (some ad) m d]).run Tryd.prog w = .ok (.slice (some ⟨g', 0, none⟩) (n + m) c') w' ∧ OR w' base (.slice (some ⟨g', 0, none⟩) (n + m) c') (n + m) (thenB n f h) ∧ Keep g w w' ∧ (g' = g ∨ g' = w.heap.size) ∧
      ∀ j, j < n → w'.cell? ⟨g, j, none⟩ = some (.int .u8 (f j : Int)) := by
  obtain ⟨i0, hi, hz0, hz1, hz2⟩ := infoB
  have hl : (bys m h).toList.length = m * i0.size := by rw [hz1]; simp [bys_size]
  obtain ⟨v', w', hr, h2, h3, h4, h5⟩ := run_append_own_at w base 99 99 5 i0 (.int .u8 0) 1 1 Tryd.underlying99 hi hz0 hz1 hz2 rfl (by omega) _ n _ hown ad m d (bys m h).toList (by simp [bys_size]) (newsB hA) (bys_oneL m h) (by unfold maxLen; omega) (by omega) hbase
  have hown' : w.ownsRow base 5 i0.size (.slice (some ⟨g, 0, none⟩) n c) n (bys n f).toList := by rw [hz1]; exact hown
  rcases h2.2 with ⟨hv, _⟩ | ⟨g', c', cur, hv, _, hg', _, _, _, ht⟩
  · have := (h4.1 hv).1; cases this
  · subst hv
    have hO : OR w' base (.slice (some ⟨g', 0, none⟩) (n + m) c') (n + m) (thenB n f h) := by unfold OR; rw [← bys_app]; exact h2
    have hgg : g' = g ∨ g' = w.heap.size := by
      rcases h5 with e | e
      · left; simpa [Value.ownBlock] using e
      · right; simpa [Value.ownBlock] using e
    refine ⟨g', c', w', hr, hO, ⟨h3.os, h3.tape, h3.output, h3.size, fun k hk hne => h3.block k hk (fun e => hne (by simpa [Value.ownBlock] using e))⟩, hgg, fun j hj => ?_⟩
    have hc : w.cell? ⟨g, j, none⟩ = some (.int .u8 (f j : Int)) := by
      have := hown.cells (g := g) rfl j (.int .u8 (f j : Int)) (by rw [Array.getElem?_toList, bys_get _ _ _ hj])
      rwa [Addr.add_mid, Nat.zero_add] at this
    rcases hgg with rfl | e
    · have : (cur.toList.take ((n + m) * 1))[j]? = some (.int .u8 (f j : Int)) := by
        rw [ht, List.getElem?_append_left (by simp [bys_size]; omega), Array.getElem?_toList, bys_get _ _ _ hj]
      rw [Nat.mul_one, List.getElem?_take, if_pos (by omega)] at this
      rw [cell_of_row w' g' j cur 5 (0, 0) hg']
      simpa using this
    · by_cases hroom : n + m ≤ c
      · rcases hown.2 with ⟨hx, _⟩ | ⟨g2, cap, cu, hv2, hb2, hg2, hnc2, hm2, hsz2, ht2⟩
        · cases hx
        · injection hv2 with e1 e2 e3
          injection e1 with e1
          injection e1 with e1
          subst e1 e3
          have hfit : n * i0.size + (bys m h).toList.length ≤ cu.size := by rw [hl, hsz2, hz1, ← Nat.add_mul]; exact Nat.mul_le_mul_right _ hroom
          have hr2 := run_append_room (P := Tryd.prog) w 99 99 5 i0 Tryd.underlying99 hi g n c cu hg2 ad m d (bys m h).toList hl (newsB hA) (bys_oneL m h) hroom hfit
          have := hr.symm.trans hr2
          injection this with t1 _
          injection t1 with t1 _ _
          injection t1 with t1
          injection t1 with t1
          have hlt : g < w.heap.size := (Array.getElem?_eq_some_iff.1 hg2).1
          omega
      · have hr2 := run_append_grow (P := Tryd.prog) w 99 99 5 i0 (.int .u8 0) Tryd.underlying99 hi hz0 ⟨g, 0, none⟩ n c (bys n f).toList hown'.1 (hown.cells (g := g) rfl) ad m d (bys m h).toList hl (newsB hA) (by omega) (by omega) (growslice_fits (by omega) (by rw [hz2]; omega))
        have := hr.symm.trans hr2
        injection this with _ t2
        subst t2
        have hlt := World.block_lt_of_cell? _ _ hc
        rw [World.cell?_alloc_lt _ _ _ (by simpa using hlt)]
        exact hc
/-- append onto nil. -/
theorem append_nil (w : World) (base m : Nat) (h : Nat → Nat) (ad : Addr) (d : Nat) (hA : AtB w ad m h) (hm : 0 < m) (hn : m ≤ 1000000000000) (hbase : base ≤ w.heap.size) :
    ∃ g' c' w', (Builtin.append_ #[99, 99] 99 #[.slice none 0 0, .slice (some ad) m d]).run Tryd.prog w = .ok (.slice (some ⟨g', 0, none⟩) m c') w' ∧ OR w' base (.slice (some ⟨g', 0, none⟩) m c') m h ∧ Below w.heap.size w w' ∧ g' = w.heap.size := by
  obtain ⟨i0, hi, hz0, hz1, hz2⟩ := infoB
  obtain ⟨v', w', hr, h2, h3, h4, h5⟩ := run_append_own_at w base 99 99 5 i0 (.int .u8 0) 1 1 Tryd.underlying99 hi hz0 hz1 hz2 rfl (by omega) _ 0 _ (OR.nil w base h) ad m d (bys m h).toList (by simp [bys_size]) (newsB hA) (bys_oneL m h) (by unfold maxLen; omega) (by omega) hbase
  rw [Nat.zero_add, bys_app, Nat.zero_add] at h2
  rcases h2.2 with ⟨hv, _⟩ | ⟨g', c', cur, hv, _⟩
  · have := (h4.1 hv).2; omega
  · subst hv
    refine ⟨g', c', w', hr, OR.congr h2 (fun i _ => by unfold thenB; rw [if_neg (by omega), Nat.sub_zero]), ⟨h3.os, h3.tape, h3.output, h3.size, fun k hk => h3.block k hk (fun e => by cases e)⟩, ?_⟩
    rcases h5 with e | e
    · cases e
    · simpa [Value.ownBlock] using e
theorem OR.lt {w : World} {base g n c : Nat} {f : Nat → Nat} (h : OR w base (.slice (some ⟨g, 0, none⟩) n c) n f) : base ≤ g ∧ g < w.heap.size ∧ n ≤ c ∧ c ≤ maxLen ∧ AtB w ⟨g, 0, none⟩ n f := by
  rcases h.2 with ⟨hx, _⟩ | ⟨g', cap, cur, hv, hb, hg, hnc, hm, hsz, ht⟩
  · cases hx
  · injection hv with e1 e2 e3
    injection e1 with e1
    injection e1 with e1
    subst e1 e3
    refine ⟨hb, (Array.getElem?_eq_some_iff.1 hg).1, hnc, hm, fun i hi => ?_⟩
    rw [Addr.add_mid, Nat.zero_add, cell_of_row w _ i cur 5 (0, 0) hg]
    have : (cur.toList.take (n * 1))[i]? = some (.int .u8 (f i : Int)) := by rw [ht, Array.getElem?_toList, bys_get _ _ _ hi]
    rw [Nat.mul_one, List.getElem?_take, if_pos hi] at this
    simpa using this
theorem OR.set {w : World} {base n : Nat} {v : Value} {f : Nat → Nat} (h : OR w base v n f) {p : Addr} (hp : p.block < base) (u : Value) : OR (w.setCell p u) base v n f := ownsRow_setCell_below h hp u
theorem OR.one (w : World) (x : Nat) : AtB (w.alloc (.cells #[.int .u8 (x : Int)] 5)) ⟨w.heap.size, 0, none⟩ 1 (fun _ => x) := fun i hi => by
  obtain rfl : i = 0 := by omega
  simp [Addr.add]
end Go.Proofs.YtamejhhjfnfalaaDoor.Ae

/- A statement whose order is open and whose last operation, z, waits for all others: what yields in every world of a class is taken first; of the world behind z nothing is asked. -/
namespace Go.Proofs.YtamejhhjfnfalaaDoor.Ae
open Go.RowKit

section
variable {P : Program} {ops : Array Oper} {Q : Exit → Act → World → Prop} {md : Region.Mode} {S : World → Prop} {z : Nat}
/-- Whatever order is picked from here on; S holds behind every operation but z. -/
def wpAnyZ (P : Program) (md : Region.Mode) (ops : Array Oper) (Q : Exit → Act → World → Prop) (S : World → Prop) (z : Nat) : Nat → Array Bool → Act → World → Prop
  | 0, listed, a, w => Region.ready md ops listed = [] ∧ Q .normal a w
  | fuel + 1, listed, a, w =>
    (Region.ready md ops listed = [] → Q .normal a w) ∧
    ∀ i ∈ Region.ready md ops listed, wpOp P ops Q i (fun a' w' => (i = z ∨ S w') ∧ wpAnyZ P md ops Q S z fuel (listed.setIfInBounds i true) a' w') a w
theorem wpAny_of_z : ∀ (fuel : Nat) (listed : Array Bool) (a : Act) (w : World), wpAnyZ P md ops Q S z fuel listed a w → wpAny P md ops Q fuel listed a w
  | 0, _, _, _, h => h
  | fuel + 1, _, _, _, h => ⟨h.1, fun i hi => wpOp_mono (fun a' w' h' => wpAny_of_z fuel _ a' w' h'.2) (h.2 i hi)⟩
theorem wpAnyZ_first {i : Nat} {oi : Oper} {v : Value} (hi : ops[i]? = some oi) (hsel : ∀ (j : Nat) (o : Oper) cs b, ops[j]? = some o → o.op ≠ .select cs b)
    (hQ : ∀ c a w, Q (.panic c) (a.put oi.dst v) w → Q (.panic c) a w) (hz : ∀ oz, ops[z]? = some oz → ∃ e ∈ oz.after, Region.binds md e = true ∧ e.on = i) :
    ∀ (fuel : Nat) (listed : Array Bool) (a : Act) (w : World),
      (∀ j oj, ops[j]? = some oj → j ≠ i → listed.getD j true = false → (∀ e ∈ oj.after, Region.binds md e = true → e.on ≠ i) → oi.apart ops oj = true) →
      i ∈ Region.ready md ops listed → YieldsIf P ops S oi v a → S w →
      wpAnyZ P md ops Q S z fuel (listed.setIfInBounds i true) (a.put oi.dst v) w → wpAnyZ P md ops Q S z (fuel + 1) listed a w := by
  intro fuel
  induction fuel with
  | zero =>
    intro listed a w _ hr hy hS H
    refine ⟨fun h => (by rw [h] at hr; cases hr), fun j hj => ?_⟩
    by_cases hji : j = i
    · subst hji; exact hy.wpOp hi hS ⟨.inr hS, H⟩
    · have := ready_mono hj hji
      rw [H.1] at this
      cases this
  | succ fuel ih =>
    intro listed a w hfree hr hy hS H
    refine ⟨fun h => (by rw [h] at hr; cases hr), fun j hj => ?_⟩
    by_cases hji : j = i
    · subst hji; exact hy.wpOp hi hS ⟨.inr hS, H⟩
    · have h1 := H.2 j (ready_mono hj hji)
      obtain ⟨hjun, oj, hoj, hall⟩ := mem_ready.1 hj
      have hnot : ∀ e ∈ oj.after, Region.binds md e = true → e.on ≠ i := fun e he hb heq => by
        have h1 := hall e he hb
        have h0 := (mem_ready.1 hr).1
        rw [heq] at h1
        rcases Nat.lt_or_ge i listed.size with h' | h'
        · simp [h'] at h0 h1; rw [h0] at h1; cases h1
        · simp [Array.getElem?_eq_none h'] at h1
      have hjz : j ≠ z := fun e => by
        subst e
        obtain ⟨e, he, hb, hon⟩ := hz oj hoj
        exact hnot e he hb hon
      have h2 := wpOp_putIf hoj (hfree j oj hoj hji hjun hnot) (fun cs b => hsel i oi cs b hi) (fun cs b => hsel j oj cs b hoj) hQ hy h1
      have hfree' : ∀ k ok, ops[k]? = some ok → k ≠ i → (listed.setIfInBounds j true).getD k true = false →
          (∀ e ∈ ok.after, Region.binds md e = true → e.on ≠ i) → oi.apart ops ok = true := fun k ok hk hki hun hno => by
        refine hfree k ok hk hki ?_ hno
        by_cases hjk : j = k
        · subst hjk; exact hjun
        · rw [getD_set_ne true hjk] at hun; exact hun
      refine wpOp_mono (fun a' w' h3 => ?_) h2
      have hS' : S w' := h3.2.1.resolve_left hjz
      refine ⟨.inr hS', ih (listed.setIfInBounds j true) a' w' hfree' (ready_mono hr (Ne.symm hji)) h3.1 hS' ?_⟩
      rw [Array.setIfInBounds_comm _ _ hji]
      exact h3.2.2
/-- Take number i first. -/
theorem wpAnyZ_take {i : Nat} {oi : Oper} {v : Value} {fuel : Nat} {listed : Array Bool} {a : Act} {w : World} (hi : ops[i]? = some oi)
    (hs : Region.noSelect ops = true) (hf : Region.free md ops listed i = true) (hr : (Region.ready md ops listed).contains i = true) (hz : Region.waitsFor md ops z i = true)
    (hQ : ∀ c a w, Q (.panic c) (a.put oi.dst v) w → Q (.panic c) a w) (hS : S w) (hy : YieldsIf P ops S oi v a)
    (h : wpAnyZ P md ops Q S z fuel (listed.setIfInBounds i true) (a.put oi.dst v) w) : wpAnyZ P md ops Q S z (fuel + 1) listed a w :=
  wpAnyZ_first hi (Region.noSelect_spec hs) hQ (fun oz hoz => by
    obtain ⟨oj, hoj, e, he, hb, hon⟩ := Region.waitsFor_spec hz
    rw [hoz] at hoj
    cases hoj
    exact ⟨e, he, hb, hon⟩) fuel listed a w (Region.free_spec hi hf) (by simpa using hr) hy hS h
/-- The same, its slot written out. -/
theorem zt {i d : Nat} {op : Op} {ty : TypeId} {pos : String} {af : Array Edge} {fuel : Nat} {listed : Array Bool} {a : Act} {w : World} (hi : ops[i]? = some ⟨some d, op, ty, pos, af, none⟩) (v : Value)
    (hs : Region.noSelect ops = true) (hf : Region.free md ops listed i = true) (hr : (Region.ready md ops listed).contains i = true) (hz : Region.waitsFor md ops z i = true)
    (hQ : ∀ c a w, Q (.panic c) (a.put (some d) v) w → Q (.panic c) a w) (hS : S w) (hv : ∀ w, S w → (execOp a.eval ⟨some d, op, ty, pos, af, none⟩).run P w = .ok (.value v) w)
    (h : wpAnyZ P md ops Q S z fuel (listed.setIfInBounds i true) (a.put (some d) v) w) : wpAnyZ P md ops Q S z (fuel + 1) listed a w :=
  wpAnyZ_take hi hs hf hr hz hQ hS (.inl ⟨by simp [Region.wanted], hv⟩) h
/-- Just number i may come up. -/
theorem wpAnyZ_one {i : Nat} {o : Oper} {fuel : Nat} {listed : Array Bool} {a : Act} {w : World} (hr : Region.ready md ops listed = [i]) (ho : ops[i]? = some o) (hw : Region.wanted o (yielded ops a.tmps) = true)
    (h : ∀ K : Act → World → Prop, Hid (∀ a w, (i = z ∨ S w) → wpAnyZ P md ops Q S z fuel (listed.setIfInBounds i true) a w → K a w) → o.wp P a w K Q) : wpAnyZ P md ops Q S z (fuel + 1) listed a w := by
  refine ⟨fun h0 => (by rw [hr] at h0; cases h0), fun j hj => ?_⟩
  rw [hr] at hj
  obtain rfl := List.mem_singleton.1 hj
  unfold wpOp
  simp only [ho, hw, if_true]
  exact .inl (h _ (fun a w h1 h2 => ⟨h1, h2⟩))
/-- The same, its slot written out. -/
theorem z1 {i : Nat} {d : Option Nat} {op : Op} {ty : TypeId} {pos : String} {af : Array Edge} {fuel : Nat} {listed : Array Bool} {a : Act} {w : World} (hr : Region.ready md ops listed = [i]) (hi : ops[i]? = some ⟨d, op, ty, pos, af, none⟩)
    (h : ∀ K : Act → World → Prop, Hid (∀ a w, (i = z ∨ S w) → wpAnyZ P md ops Q S z fuel (listed.setIfInBounds i true) a w → K a w) → Oper.wp P ⟨d, op, ty, pos, af, none⟩ a w K Q) : wpAnyZ P md ops Q S z (fuel + 1) listed a w :=
  wpAnyZ_one hr hi (by simp [Region.wanted]) h
theorem wpAnyZ_done {listed : Array Bool} {a : Act} {w : World} (hr : Region.ready md ops listed = []) (h : Q .normal a w) : ∀ fuel, wpAnyZ P md ops Q S z fuel listed a w
  | 0 => ⟨hr, h⟩
  | _ + 1 => ⟨fun _ => h, by rw [hr]; simp⟩
theorem region_z {id : Nat} {a : Act} {w : World} (z : Nat) (S : World → Prop) (hm : P.follows .mixedOrders = true)
    (h : wpAnyZ P .any ops Q S z ops.size (Array.replicate ops.size false) a w.drew) : (Code.region id ops true).wp P Q a w :=
  wp_region_any hm (wpAny_of_z _ _ _ _ h)
end
end Go.Proofs.YtamejhhjfnfalaaDoor.Ae

/- The document's own New: S of each byte. -/
namespace Go.Proofs.YtamejhhjfnfalaaDoor.Ae
open Go.RowKit

/-- Block g is a struct of two lists. -/
def CB (w : World) (g : Nat) (k b : Value) : Prop := w.heap[g]? = some (.cells #[k, b] 101 (0, 0))
section
variable {w w' : World} {g : Nat} {k b : Value}
theorem CB.lt (h : CB w g k b) : g < w.heap.size := (Array.getElem?_eq_some_iff.1 h).1
theorem CB.cell0 (h : CB w g k b) : w.cell? ⟨g, 0, none⟩ = some k := by rw [cell_of_row w g 0 _ 101 (0, 0) h]; rfl
theorem CB.cell1 (h : CB w g k b) : w.cell? ⟨g, 1, none⟩ = some b := by rw [cell_of_row w g 1 _ 101 (0, 0) h]; rfl
theorem CB.frozen (h : CB w g k b) (i : Nat) : w.frozen? ⟨g, i, none⟩ = false := by unfold CB at h; simp [World.frozen?, h]
theorem CB.set0 (h : CB w g k b) (x : Value) : CB (w.setCell ⟨g, 0, none⟩ x) g x b := by
  unfold CB at h ⊢
  simp [World.setCell, Array.getElem?_modify, h]
theorem CB.set1 (h : CB w g k b) (x : Value) : CB (w.setCell ⟨g, 1, none⟩ x) g k x := by
  unfold CB at h ⊢
  simp [World.setCell, Array.getElem?_modify, h]
theorem CB.far (h : CB w g k b) {p : Addr} (hp : g ≠ p.block) (u : Value) : CB (w.setCell p u) g k b := (Below.heap_setCell w p u g hp).trans h
theorem CB.drew (h : CB w g k b) : CB w.drew g k b := h
theorem CB.alloc (h : CB w g k b) (o : Obj) : CB (w.alloc o) g k b := (Below.heap_alloc w o g h.lt).trans h
theorem CB.new (w : World) (k b : Value) : CB (w.alloc (.cells #[k, b] 101)) w.heap.size k b := heap_alloc_new w _
theorem CB.below {B : Nat} (h : CB w g k b) (hb : Below B w w') (hg : g < B) : CB w' g k b := (hb.block g hg).trans h
theorem CB.keep {d : Nat} (h : CB w g k b) (hb : Keep d w w') (hg : g ≠ d) : CB w' g k b := (hb.block g h.lt hg).trans h
end
abbrev nil8 : Value := .slice none 0 0
/-- Behind i rounds of the first loop. -/
def RN1 (w : World) (i : Nat) (v : Value) (wr : World) : Prop := Below w.heap.size w wr ∧ CB wr w.heap.size nil8 nil8 ∧ CB wr (w.heap.size + 1) nil8 v ∧ OR wr (w.heap.size + 2) v i Aes.sb
theorem RN1.start (w : World) : RN1 w 0 nil8 ((w.alloc (.cells #[nil8, nil8] 101)).alloc (.cells #[nil8, nil8] 101)) := by
  refine ⟨((Below.refl _ _).alloc (Nat.le_refl _) _).alloc (by simp) _, (CB.new w nil8 nil8).alloc _, ?_, OR.nil _ _ _⟩
  have := CB.new (w.alloc (.cells #[nil8, nil8] 101)) nil8 nil8
  simp only [World.size_alloc] at this
  exact this
theorem RN1.step {w wr : World} {i : Nat} {v : Value} (h : RN1 w i v wr) (hi : i < 256) :
    ∃ g c w', (Builtin.append_ #[99, 99] 99 #[v, .slice (some ⟨wr.heap.size, 0, none⟩) 1 1]).run Tryd.prog (wr.drew.alloc (.cells #[.int .u8 (Aes.sb i : Int)] 5)) = .ok (.slice (some ⟨g, 0, none⟩) (i + 1) c) w' ∧
      w'.cell? ⟨w.heap.size + 1, 1, none⟩ = some v ∧ w'.frozen? ⟨w.heap.size + 1, 1, none⟩ = false ∧ RN1 w (i + 1) (.slice (some ⟨g, 0, none⟩) (i + 1) c) (w'.setCell ⟨w.heap.size + 1, 1, none⟩ (.slice (some ⟨g, 0, none⟩) (i + 1) c)) := by
  obtain ⟨h0, h1, h2, h3⟩ := h
  have hl := h2.lt
  obtain ⟨v', w', hr, ho, hb⟩ := append_ownB (wr.drew.alloc (.cells #[.int .u8 (Aes.sb i : Int)] 5)) (w.heap.size + 2) v i 1 Aes.sb (fun _ => Aes.sb i) ⟨wr.heap.size, 0, none⟩ 1 (h3.drew.alloc _) (OR.one wr.drew (Aes.sb i)) (by omega) (by simp; omega)
  have c1 : CB w' w.heap.size nil8 nil8 := ((h1.drew).alloc _).below hb (by omega)
  have c2 : CB w' (w.heap.size + 1) nil8 v := ((h2.drew).alloc _).below hb (by omega)
  have hb' : Below w.heap.size w w' := (h0.drew.alloc (by have := h0.size; simpa using this) _).trans (hb.mono (by omega))
  obtain ⟨g, c, rfl, _, _, _, _⟩ := ho.read (by omega)
  refine ⟨g, c, w', hr, c2.cell1, c2.frozen 1, hb'.setCell (by simp) _, c1.far (by simp) _, c2.set1 _, ?_⟩
  refine OR.congr (ho.set (by simp) _) fun j hj => ?_
  unfold thenB
  split
  · rfl
  · rw [show j = i by omega]
abbrev sl8 (g n c : Nat) : Value := .slice (some ⟨g, 0, none⟩) n c
/-- The keys' first n bytes are made. -/
def RK (w : World) (key : Nat → Nat) (n g c gb cb : Nat) (wr : World) : Prop :=
  Below w.heap.size w wr ∧ CB wr w.heap.size nil8 nil8 ∧ CB wr (w.heap.size + 1) (sl8 g n c) (sl8 gb 256 cb) ∧ OR wr (w.heap.size + 2) (sl8 g n c) n (Aes.ks key) ∧ AtB wr ⟨gb, 0, none⟩ 256 Aes.sb ∧ w.heap.size + 2 ≤ gb ∧ gb < wr.heap.size ∧ gb ≠ g ∧ 256 ≤ cb ∧ cb ≤ maxLen
theorem RN1.keys {w wr : World} {v : Value} {key : Nat → Nat} {g0 c0 : Nat} (h : RN1 w 256 v wr) (hA : AtB w ⟨g0, 0, none⟩ 16 key) :
    ∃ gb cb, v = sl8 gb 256 cb ∧ ∃ g c w', (Builtin.append_ #[99, 99] 99 #[nil8, .slice (some ⟨g0, 0, none⟩) 16 c0]).run Tryd.prog wr.drew = .ok (sl8 g 16 c) w' ∧
      w'.cell? ⟨w.heap.size + 1, 0, none⟩ = some nil8 ∧ w'.frozen? ⟨w.heap.size + 1, 0, none⟩ = false ∧ RK w key 16 g c gb cb (w'.setCell ⟨w.heap.size + 1, 0, none⟩ (sl8 g 16 c)) := by
  obtain ⟨h0, h1, h2, h3⟩ := h
  have hl := h2.lt
  have hg0 : g0 < w.heap.size := by have := World.block_lt_of_cell? _ _ (hA 0 (by omega)); simpa [Addr.add] using this
  have hA' : AtB wr.drew ⟨g0, 0, none⟩ 16 key := AtB.below hA h0.drew
  obtain ⟨gb, cb, rfl, hgb, hcb, hcm, hB⟩ := h3.read (by omega)
  have hgl := (OR.lt h3).2.1
  obtain ⟨g, c, w', hr, ho, hb, rfl⟩ := append_nil wr.drew (w.heap.size + 2) 16 key ⟨g0, 0, none⟩ c0 hA' (by omega) (by omega) (by simp; omega)
  have c1 : CB w' w.heap.size nil8 nil8 := h1.drew.below hb (by simp; omega)
  have c2 : CB w' (w.heap.size + 1) nil8 (sl8 gb 256 cb) := h2.drew.below hb (by simp; omega)
  have b1 : Below w.heap.size w w' := h0.drew.trans (hb.mono (by have := h0.size; simpa using this))
  have hB' : AtB w' ⟨gb, 0, none⟩ 256 Aes.sb := AtB.below (w := wr.drew) hB hb
  refine ⟨gb, cb, rfl, _, c, w', hr, c2.cell0, c2.frozen 0, b1.setCell (by simp) _, c1.far (by simp) _, c2.set0 _, ?_, ?_, hgb, ?_, ?_, hcb, hcm⟩
  · exact OR.congr (ho.set (by simp) _) fun j hj => (Aes.ks_lo key j hj).symm
  · intro j hj
    rw [World.cell?_setCell_other _ _ _ _ (fun e => by have := congrArg Addr.block e; simp [Addr.add_mid] at this; omega)]
    exact hB' j hj
  · have := hb.size; simp at this ⊢; omega
  · simp; omega
theorem OR.empty (w : World) (f : Nat → Nat) : OR (w.alloc (.cells #[] 5)) w.heap.size (sl8 w.heap.size 0 0) 0 f := by
  refine ⟨by simp [bys_size], .inr ⟨w.heap.size, 0, #[], rfl, Nat.le_refl _, heap_alloc_new w _, Nat.le_refl _, Nat.zero_le _, rfl, ?_⟩⟩
  simp [bys]
theorem OR.keep {w w' : World} {base g n c d : Nat} {f : Nat → Nat} (h : OR w base (sl8 g n c) n f) (hk : Keep d w w') (hg : g ≠ d) : OR w' base (sl8 g n c) n f := by
  have hl := (OR.lt h).2.1
  refine ⟨h.1, ?_⟩
  rcases h.2 with hx | ⟨g', cap, cur, hv, hb, hh, r⟩
  · exact .inl hx
  · refine .inr ⟨g', cap, cur, hv, hb, ?_, r⟩
    injection hv with e1 _ _
    injection e1 with e1
    injection e1 with e1
    subst e1
    rw [hk.block _ hl hg]; exact hh
/-- .. and t lies in block gt. -/
def RT (w : World) (key : Nat → Nat) (n g c gb cb gt ct : Nat) (tf : Nat → Nat) (wr : World) : Prop :=
  RK w key n g c gb cb wr ∧ AtB wr ⟨gt, 0, none⟩ 4 tf ∧ gt ≠ g ∧ gt ≠ gb ∧ w.heap.size + 2 ≤ gt ∧ gt < wr.heap.size ∧ 4 ≤ ct ∧ ct ≤ maxLen
theorem RK.keep {w wr w' : World} {key : Nat → Nat} {n g c gb cb d : Nat} (h : RK w key n g c gb cb wr) (hk : Keep d wr w') (hd : wr.heap.size ≤ d) : RK w key n g c gb cb w' := by
  obtain ⟨h0, h1, h2, h3, h4, h5, h6, h7, h8⟩ := h
  have hg := (OR.lt h3).2.1
  have l2 := h2.lt
  exact ⟨hk.below h0 (by omega) (by omega), h1.keep hk (by omega), h2.keep hk (by omega), h3.keep hk (by omega), hk.atB h4 (by simp; omega), h5, by have := hk.size; omega, h7, h8⟩
theorem RK.keep' {w wr w' : World} {key : Nat → Nat} {n g c gb cb d : Nat} (h : RK w key n g c gb cb wr) (hk : Keep d wr w') (h1' : d ≠ g) (h2' : d ≠ gb) (h3' : w.heap.size + 1 < d) (hs : w.heap.size + 1 < wr.heap.size) : RK w key n g c gb cb w' := by
  obtain ⟨h0, h1, h2, h3, h4, h5, h6, h7, h8⟩ := h
  exact ⟨hk.below h0 (by omega) (by omega), h1.keep hk (by omega), h2.keep hk (by omega), h3.keep hk (by omega), hk.atB h4 (by simp; omega), h5, by have := hk.size; omega, h7, h8⟩
theorem RK.alloc {w wr : World} {key : Nat → Nat} {n g c gb cb : Nat} (h : RK w key n g c gb cb wr) (o : Obj) : RK w key n g c gb cb (wr.alloc o) := by
  obtain ⟨h0, h1, h2, h3, h4, h5, h6, h7, h8⟩ := h
  exact ⟨h0.alloc h0.size o, h1.alloc o, h2.alloc o, h3.alloc o, AtB.below h4 ((Below.refl _ _).alloc (Nat.le_refl _) _), h5, by simp; omega, h7, h8⟩
theorem RK.drew {w wr : World} {key : Nat → Nat} {n g c gb cb : Nat} (h : RK w key n g c gb cb wr) : RK w key n g c gb cb wr.drew := by
  obtain ⟨h0, h1, h2, h3, h4, h5, h6, h7, h8⟩ := h
  exact ⟨h0.drew, h1, h2, h3.drew, h4, h5, h6, h7, h8⟩
theorem RK.copied {w wr : World} {key : Nat → Nat} {i g c gb cb d : Nat} (h : RK w key (4 * i) g c gb cb wr) (hi : 4 ≤ i) :
    ∃ gt ct w', (Builtin.append_ #[99, 99] 99 #[sl8 wr.heap.size 0 0, .slice (some ⟨g, 4 * i - 4, none⟩) (4 * i - (4 * i - 4)) d]).run Tryd.prog (wr.alloc (.cells #[] 5)) = .ok (sl8 gt 4 ct) w' ∧ RT w key (4 * i) g c gb cb gt ct (fun j => Aes.ks key (4 * i - 4 + j)) w' := by
  rw [show 4 * i - (4 * i - 4) = 4 by omega]
  have h3 := h.2.2.2.1
  have hg := OR.lt h3
  have hA : AtB (wr.alloc (.cells #[] 5)) ⟨g, 4 * i - 4, none⟩ 4 (fun j => Aes.ks key (4 * i - 4 + j)) := by
    have := AtB.sub (AtB.below hg.2.2.2.2 ((Below.refl _ _).alloc (Nat.le_refl _) (.cells #[] 5))) (4 * i - 4) 4 (by omega)
    rwa [Nat.zero_add] at this
  obtain ⟨gt, ct, w', hr, ho, hk, hgt, _⟩ := append_at (wr.alloc (.cells #[] 5)) wr.heap.size wr.heap.size 0 0 4 (fun _ => 0) _ _ d (OR.empty wr _) hA (by omega) (by simp)
  have hl := OR.lt ho
  simp only [World.size_alloc] at hgt
  have h5 := h.2.2.2.2.2.1
  have h6 := h.2.2.2.2.2.2.1
  have l2 := h.2.2.1.lt
  refine ⟨gt, ct, w', hr, (h.alloc _).keep' hk (by omega) (by omega) (by omega) (by simp; omega), ?_, by omega, by omega, by omega, hl.2.1, hl.2.2.1, hl.2.2.2.1⟩
  refine AtB.congr hl.2.2.2.2 fun j hj => ?_
  unfold thenB; rw [if_neg (by omega), Nat.sub_zero]
theorem RT.drew {w wr : World} {key tf : Nat → Nat} {n g c gb cb gt ct : Nat} (h : RT w key n g c gb cb gt ct tf wr) : RT w key n g c gb cb gt ct tf wr.drew := ⟨h.1.drew, h.2⟩
theorem RT.app {w wr : World} {key tf : Nat → Nat} {i r g c gb cb gt ct : Nat} {X : Int} (h : RT w key (4 * i + r) g c gb cb gt ct tf wr) (hi : 4 ≤ i ∧ i < 44) (hr4 : r < 4) (hX : X = (Aes.ks key (4 * i + r) : Int)) :
    ∃ g' c' w', (Builtin.append_ #[99, 99] 99 #[sl8 g (4 * i + r) c, .slice (some ⟨wr.heap.size, 0, none⟩) 1 1]).run Tryd.prog (wr.drew.alloc (.cells #[.int .u8 X] 5)) = .ok (sl8 g' (4 * i + r + 1) c') w' ∧
      w'.cell? ⟨w.heap.size + 1, 0, none⟩ = some (sl8 g (4 * i + r) c) ∧ w'.frozen? ⟨w.heap.size + 1, 0, none⟩ = false ∧ (∀ q, q < 4 * i + r → w'.cell? ⟨g, q, none⟩ = some (.int .u8 (Aes.ks key q : Int))) ∧ w'.cell? ⟨gt, r, none⟩ = some (.int .u8 (tf r : Int)) ∧ RT w key (4 * i + (r + 1)) g' c' gb cb gt ct tf (w'.setCell ⟨w.heap.size + 1, 0, none⟩ (sl8 g' (4 * i + r + 1) c')) := by
  subst hX
  obtain ⟨⟨h0, h1, h2, h3, h4, h5, h6, h7, h8⟩, t1, t2, t3, t4, t5, t6⟩ := h
  have hg := OR.lt h3
  have l2 := h2.lt
  have hA := OR.one wr.drew (Aes.ks key (4 * i + r))
  obtain ⟨g', c', w', hr, ho, hk, hgt, hold⟩ := append_at (wr.drew.alloc (.cells #[.int .u8 (Aes.ks key (4 * i + r) : Int)] 5)) (w.heap.size + 2) g c (4 * i + r) 1 (Aes.ks key) _ ⟨wr.heap.size, 0, none⟩ 1 (h3.drew.alloc _) hA (by omega) (by simp; omega)
  simp only [World.size_alloc, World.size_drew] at hgt
  have c1 : CB w' w.heap.size nil8 nil8 := (h1.drew.alloc _).keep hk (by omega)
  have c2 : CB w' (w.heap.size + 1) (sl8 g (4 * i + r) c) (sl8 gb 256 cb) := (h2.drew.alloc _).keep hk (by omega)
  have b1 : Below w.heap.size w w' := hk.below (h0.drew.alloc (by have := h0.size; simpa using this) _) (by omega) (by have := h0.size; simp; omega)
  have far : ∀ (ad : Addr) (n : Nat) (f : Nat → Nat), ad.block ≠ w.heap.size + 1 → ad.block ≠ g → AtB wr ad n f → AtB (w'.setCell ⟨w.heap.size + 1, 0, none⟩ (sl8 g' (4 * i + r + 1) c')) ad n f := fun ad n f e1 e2 ha j hj => by
    have ha' : AtB (wr.drew.alloc (.cells #[.int .u8 (Aes.ks key (4 * i + r) : Int)] 5)) ad n f := AtB.below (w := wr.drew) ha ((Below.refl _ _).alloc (Nat.le_refl _) _)
    have hb : (ad.add j).block = ad.block := by unfold Addr.add; split <;> rfl
    rw [World.cell?_setCell_other _ _ _ _ (fun e => e1 (by rw [← hb, ← e]))]
    exact hk.atB ha' e2 j hj
  have hs' := hk.size
  simp at hs'
  have ht' : AtB w' ⟨gt, 0, none⟩ 4 tf := hk.atB (AtB.below (w := wr.drew) t1 ((Below.refl _ _).alloc (Nat.le_refl _) _)) (by simp; omega)
  refine ⟨g', c', w', hr, c2.cell0, c2.frozen 0, hold, by have := AtB.cell ht' r hr4; rwa [Nat.zero_add] at this, ⟨b1.setCell (by simp) _, c1.far (by simp) _, ?_, ?_, far _ _ _ (by simp; omega) (by simp; omega) h4, h5, ?_, ?_, h8⟩, far _ _ _ (by simp; omega) (by simp; omega) t1, ?_, t3, t4, ?_, t6⟩
  · have := c2.set0 (sl8 g' (4 * i + r + 1) c')
    rw [show 4 * i + (r + 1) = 4 * i + r + 1 by omega]
    exact this
  · rw [show 4 * i + (r + 1) = 4 * i + r + 1 by omega]
    refine OR.congr (ho.set (by simp) _) fun j hj => ?_
    unfold thenB
    split
    · rfl
    · rw [show j = 4 * i + r by omega]
  · simp; omega
  · omega
  · omega
  · simp; omega
theorem ks_next (key : Nat → Nat) (i r : Nat) (hi : 4 ≤ i) (hr : r < 4) (tf : Nat → Nat) (htf : tf r = if i % 4 = 0 then Aes.sb (Aes.ks key (4 * i - 4 + (r + 1) % 4)) ^^^ (if r = 0 then Aes.pw (i / 4 - 1) else 0) else Aes.ks key (4 * i - 4 + r)) : Aes.ks key (4 * i - 16 + r) ^^^ tf r = Aes.ks key (4 * i + r) := by
  rw [Aes.ks_hi key (4 * i + r) (by omega), htf, show 4 * i + r - 16 = 4 * i - 16 + r by omega, show (4 * i + r) / 4 = i by omega, show (4 * i + r) % 4 = r by omega, show 4 * (i - 1) = 4 * i - 4 by omega, show 4 * i + r - 4 = 4 * i - 4 + r by omega]
theorem times_two (a : Nat) (w : World) (ha : a < 256) :
    Calls Tryd.prog 97 #[.int .u8 (a : Int), .int .u8 2] w fun e w' => e = .returned (.int .u8 (Aes.xt a : Int)) ∧ w = w' :=
  (times_any a 2 w ha (by omega)).mono fun _ _ ⟨h, hw⟩ => ⟨by rw [h, Aes.tm_two a ha], hw⟩
theorem RT.fresh {w w1 : World} {key tf0 : Nat → Nat} {i g c gb cb gt ct k0 k1 k2 k3 : Nat} (h : RT w key (4 * i) g c gb cb gt ct tf0 w1) (hi : 4 ≤ i) (h0 : i % 4 = 0)
    (e : Aes.ks key (4 * i - 4) = k0 ∧ Aes.ks key (4 * i - 4 + 1) = k1 ∧ Aes.ks key (4 * i - 4 + 2) = k2 ∧ Aes.ks key (4 * i - 4 + 3) = k3) :
    ∃ tf : Nat → Nat, ((∀ r, tf r < 256) ∧ ∀ r, tf r = Aes.sb (Aes.ks key (4 * i - 4 + (r + 1) % 4)) ^^^ (if r = 0 then Aes.pw (i / 4 - 1) else 0)) ∧
      RT w key (4 * i) g c gb cb w1.heap.size 4 tf (w1.drew.alloc (.cells #[.int .u8 (bits .xor .u8 (Aes.sb k1 : Int) (Aes.pw ((i - 1) / 4) : Int)), .int .u8 (Aes.sb k2 : Int), .int .u8 (Aes.sb k3 : Int), .int .u8 (Aes.sb k0 : Int)] 5)) := by
  obtain ⟨rfl, rfl, rfl, rfl⟩ := e
  obtain ⟨h1, _⟩ := h
  have hg := (OR.lt h1.2.2.2.1).2.1
  have h6 := h1.2.2.2.2.2.2.1
  have l2 := h1.2.2.1.lt
  refine ⟨fun r => Aes.sb (Aes.ks key (4 * i - 4 + (r + 1) % 4)) ^^^ (if r = 0 then Aes.pw (i / 4 - 1) else 0), ⟨fun r => Aes.byte_xor (Aes.sb_lt _) (by split; exact Aes.pw_lt _; omega), fun r => rfl⟩, h1.drew.alloc _, ?_, by omega, by omega, by omega, by simp, by omega, by decide⟩
  rw [bits8_xor _ _ (Aes.sb_lt _) (Aes.pw_lt _), show (i - 1) / 4 = i / 4 - 1 by omega]
  intro r hr
  rw [Addr.add_mid, Nat.zero_add]
  have hb := heap_alloc_new w1.drew (.cells #[.int .u8 ((Aes.sb (Aes.ks key (4 * i - 4 + 1)) ^^^ Aes.pw (i / 4 - 1) : Nat) : Int), .int .u8 (Aes.sb (Aes.ks key (4 * i - 4 + 2)) : Int), .int .u8 (Aes.sb (Aes.ks key (4 * i - 4 + 3)) : Int), .int .u8 (Aes.sb (Aes.ks key (4 * i - 4)) : Int)] 5)
  rw [cell_of_row _ w1.heap.size r _ 5 (0, 0) hb]
  rcases (show r = 0 ∨ r = 1 ∨ r = 2 ∨ r = 3 by omega) with rfl | rfl | rfl | rfl
  · simp
  · simp
  · simp
  · simp
/-- A cipher of the document's own. -/
def RCi (w : World) (key : Nat → Nat) (g c gb cb : Nat) : Prop := AtB w ⟨g, 0, none⟩ 176 (Aes.ks key) ∧ AtB w ⟨gb, 0, none⟩ 256 Aes.sb ∧ 176 ≤ c ∧ c ≤ maxLen ∧ 256 ≤ cb ∧ cb ≤ maxLen
abbrev rci (g c gb cb : Nat) : Value := .agg #[sl8 g 176 c, sl8 gb 256 cb]
def RNewE (w : World) (key : Nat → Nat) (e : Ending) (w' : World) : Prop := ∃ g c gb cb, e = .returned (rci g c gb cb) ∧ RCi w' key g c gb cb ∧ Below w.heap.size w w'
theorem infoRC : (Tryd.prog.info? 101).map (·.size) = some 2 := by kernel_rfl
theorem RK.ends {w wr : World} {key : Nat → Nat} {g c gb cb : Nat} (h : RK w key 176 g c gb cb wr) :
    CB ((wr.setCell ⟨w.heap.size, 0, none⟩ (sl8 g 176 c)).setCell ⟨w.heap.size, 1, none⟩ (sl8 gb 256 cb)) w.heap.size (sl8 g 176 c) (sl8 gb 256 cb) ∧ RCi ((wr.setCell ⟨w.heap.size, 0, none⟩ (sl8 g 176 c)).setCell ⟨w.heap.size, 1, none⟩ (sl8 gb 256 cb)) key g c gb cb ∧
      Below w.heap.size w ((wr.setCell ⟨w.heap.size, 0, none⟩ (sl8 g 176 c)).setCell ⟨w.heap.size, 1, none⟩ (sl8 gb 256 cb)) := by
  obtain ⟨h0, h1, h2, h3, h4, h5, h6, h7, h8⟩ := h
  have hg := OR.lt h3
  have far : ∀ (b n : Nat) (f : Nat → Nat), b ≠ w.heap.size → AtB wr ⟨b, 0, none⟩ n f → AtB ((wr.setCell ⟨w.heap.size, 0, none⟩ (sl8 g 176 c)).setCell ⟨w.heap.size, 1, none⟩ (sl8 gb 256 cb)) ⟨b, 0, none⟩ n f := fun b n f hb ha j hj => by
    have ne : ∀ o, (⟨w.heap.size, o, none⟩ : Addr) ≠ (⟨b, 0, none⟩ : Addr).add j := fun o e => by
      rw [Addr.add_mid] at e
      injection e with e1
      exact hb e1.symm
    rw [World.cell?_setCell_other _ _ _ _ (ne 1), World.cell?_setCell_other _ _ _ _ (ne 0)]
    exact ha j hj
  exact ⟨(h1.set0 _).set1 _, ⟨far _ _ _ (by omega) hg.2.2.2.2, far _ _ _ (by omega) h4, hg.2.2.1, hg.2.2.2.1, h8.1, h8.2⟩, (h0.setCell (Nat.le_refl _) _).setCell (Nat.le_refl _) _⟩
set_option maxHeartbeats 8000000 in
set_option maxRecDepth 100000 in
theorem rnew_any (key : Nat → Nat) (g0 : Nat) (c0 : Nat) (w : World) (hk : ∀ i, key i < 256) (hA : AtB w ⟨g0, 0, none⟩ 16 key) (hc : 16 ≤ c0 ∧ c0 ≤ maxLen) :
    Calls Tryd.prog 75 #[.slice (some ⟨g0, 0, none⟩) 16 c0] w (RNewE w key) := by
  have HA := Lib.hid hA
  have HK := Lib.hid hk
  clear hA hk
  go_enter Tryd.func75, Tryd.ntmps75
  go_wp2
  go_loopw [4] (fun t wr => ∃ i v, i ≤ 256 ∧ t = .int .i64 (i : Nat) ∧ Hid (RN1 w i v wr)) (fun t _ => 256 - (intOf t).toNat)
  case atStart => exact ⟨0, nil8, by omega, rfl, RN1.start w⟩
  case round =>
    obtain ⟨i, v, hi, rfl, HR⟩ := hrel
    by_cases hlt : i < 256
    · have c1 := HR.out.2.2.1.cell1
      have hsz : w.heap.size + 1 < wr.heap.size := HR.out.2.2.1.lt
      have z1 : IntKind.u8.wrap (i : Int) = (i : Int) := by rw [u8w]; omega
      obtain ⟨g', c', w', hr, c2, c3, hR⟩ := RN1.step HR.out hlt
      have HQ := Lib.hid hr
      have HN := Lib.hid hR
      clear hr hR
      go_wp2
      go_region_law (first | (refine step_append_eq rfl _ _ 99 rfl _ _ _ w' rfl rfl HQ.out ?_) | (go_simp; go_at_call 96; refine (s_any i _ hlt).mono ?_; rintro e w2 ⟨rfl, rfl⟩))
      all_goals
        go_wp2
        go_roundw
        case rel => exact ⟨i + 1, _, by omega, by go_num, HN⟩
        case measure => simp [intOf]; omega
    · obtain rfl : i = 256 := by omega
      obtain ⟨gb, cb, rfl, g, c, w', hr, c2, c3, hR⟩ := RN1.keys (c0 := c0) HR.out HA.out
      have c1 := HR.out.2.2.1.cell0
      have HQ := Lib.hid hr
      have HN := Lib.hid hR
      have hc1 : (16 : Int) ≤ (c0 : Int) := by omega
      clear hr hR HR
      go_wp2
      go_region_law (first | (refine step_append_eq rfl _ _ 99 rfl _ _ _ w' rfl rfl HQ.out ?_))
      go_wp2
      go_loopw [5, 6] (fun p t wr => ∃ i g c gb cb : Nat, (4 ≤ i ∧ i ≤ 44) ∧ t = .int .i64 i ∧ p = .int .u8 (Aes.pw ((i - 1) / 4) : Int) ∧ Hid (RK w key (4 * i) g c gb cb wr)) (fun _ t _ => 44 - (intOf t).toNat)
      case atStart => exact ⟨4, g, c, gb, cb, by omega, rfl, rfl, HN⟩
      case round =>
        clear HN HQ c1 c2 c3
        obtain ⟨i, g, c, gb, cb, hi, rfl, rfl, HR⟩ := hrel
        by_cases hlt : i < 44
        · have c1 := HR.out.2.2.1.cell0
          have hsz : w.heap.size + 1 < wr.heap.size := HR.out.2.2.1.lt
          have hg := OR.lt HR.out.2.2.2.1
          have hcm := hg.2.2.2.1
          have hcn := hg.2.2.1
          unfold maxLen at hcm
          clear hg
          obtain ⟨gt, ct, w1, hr, hT⟩ := RK.copied (d := c - (4 * i - 4)) HR.out hi.1
          have HQ := Lib.hid hr
          have HT := Lib.hid hT
          clear hr hT
          by_cases h0 : i % 4 = 0
          · have h0' : ((i : Int) % 4 == 0) = true := by simp; omega
            go_wp2_with (at_builtin; refine wpList_append_run rfl _ _ 99 rfl _ _ _ w1 rfl rfl HQ.out ?_)
            clear HQ c1 hcm hcn hsz
            have t0 := HT.out.2.1
            have u0 : w1.cell? ⟨gt, 0, none⟩ = some (.int .u8 (Aes.ks key (4 * i - 4) : Int)) := AtB.cell t0 0 (by omega)
            have u1 : w1.cell? ⟨gt, 1, none⟩ = some (.int .u8 (Aes.ks key (4 * i - 4 + 1) : Int)) := AtB.cell t0 1 (by omega)
            have u2 : w1.cell? ⟨gt, 2, none⟩ = some (.int .u8 (Aes.ks key (4 * i - 4 + 2) : Int)) := AtB.cell t0 2 (by omega)
            have u3 : w1.cell? ⟨gt, 3, none⟩ = some (.int .u8 (Aes.ks key (4 * i - 4 + 3) : Int)) := AtB.cell t0 3 (by omega)
            have b0 := Aes.ks_lt key HK.out (4 * i - 4)
            have b1 := Aes.ks_lt key HK.out (4 * i - 4 + 1)
            have b2 := Aes.ks_lt key HK.out (4 * i - 4 + 2)
            have b3 := Aes.ks_lt key HK.out (4 * i - 4 + 3)
            have HKS := Lib.hid (show ∃ k0 k1 k2 k3 : Nat, Aes.ks key (4 * i - 4) = k0 ∧ Aes.ks key (4 * i - 4 + 1) = k1 ∧ Aes.ks key (4 * i - 4 + 2) = k2 ∧ Aes.ks key (4 * i - 4 + 3) = k3 from ⟨_, _, _, _, rfl, rfl, rfl, rfl⟩)
            obtain ⟨k0, k1, k2, k3, e0, e1, e2, e3⟩ := HKS.out
            rw [e0] at u0 b0
            rw [e1] at u1 b1
            rw [e2] at u2 b2
            rw [e3] at u3 b3
            have HKE := Lib.hid (And.intro e0 (And.intro e1 (And.intro e2 e3)))
            clear e0 e1 e2 e3 HKS t0
            have hB := HT.out.1.2.2.2.2.1
            have y0 : w1.cell? ⟨gb, k0, none⟩ = some (.int .u8 (Aes.sb k0 : Int)) := by have := AtB.cell hB k0 b0; rwa [Nat.zero_add] at this
            have y1 : w1.cell? ⟨gb, k1, none⟩ = some (.int .u8 (Aes.sb k1 : Int)) := by have := AtB.cell hB k1 b1; rwa [Nat.zero_add] at this
            have y2 : w1.cell? ⟨gb, k2, none⟩ = some (.int .u8 (Aes.sb k2 : Int)) := by have := AtB.cell hB k2 b2; rwa [Nat.zero_add] at this
            have y3 : w1.cell? ⟨gb, k3, none⟩ = some (.int .u8 (Aes.sb k3 : Int)) := by have := AtB.cell hB k3 b3; rwa [Nat.zero_add] at this
            have cb1 := HT.out.1.2.2.1.cell1
            have i0 : (k0 : Int) < 256 := by omega
            have i1 : (k1 : Int) < 256 := by omega
            have i2 : (k2 : Int) < 256 := by omega
            have i3 : (k3 : Int) < 256 := by omega
            clear hB b0 b1 b2 b3
            go_still_tail 30, (by kernel_rfl)
            change wpList _ _ _ _ _ w1.drew
            have hpl := Aes.pw_lt ((i - 1) / 4)
            go_wp2_with (go_at_call 97; refine (times_two _ _ hpl).mono ?_; rintro e w2 ⟨rfl, rfl⟩)
            clear u0 u1 u2 u3 y0 y1 y2 y3 cb1 i0 i1 i2 i3 hpl
            obtain ⟨tf, htf, HT2⟩ := RT.fresh HT.out hi.1 h0 HKE.out
            have HTF := Lib.hid htf
            have HT3 := Lib.hid HT2
            clear HT HT2 htf HKE
            generalize w1.heap.size = gt2 at HT3 ⊢
            have HT := HT3
            clear HT3
            go_loopw [8] (fun t w3 => ∃ r g c : Nat, r ≤ 4 ∧ t = .int .i64 r ∧ Hid (RT w key (4 * i + r) g c gb cb gt2 4 tf w3)) (fun t _ => 4 - (intOf t).toNat)
            case atStart => exact ⟨0, g, c, by omega, rfl, HT⟩
            case round =>
              clear HT
              obtain ⟨r, g, c, hr, rfl, HT⟩ := hrel
              by_cases hlr : r < 4
              · obtain ⟨q, hq⟩ : ∃ q, q = 4 * i - 16 + r := ⟨_, rfl⟩
                have hg := OR.lt HT.out.1.2.2.2.1
                have hsz : w.heap.size + 1 < wr.heap.size := HT.out.1.2.2.1.lt
                have c1 := HT.out.1.2.2.1.cell0
                have c4 : wr.cell? ⟨g, q, none⟩ = some (.int .u8 (Aes.ks key q : Int)) := by have := AtB.cell hg.2.2.2.2 q (by omega); rwa [Nat.zero_add] at this
                have c5 : wr.cell? ⟨gt2, r, none⟩ = some (.int .u8 (tf r : Int)) := by have := AtB.cell HT.out.2.1 r hlr; rwa [Nat.zero_add] at this
                have hX : bits .xor .u8 (Aes.ks key q : Int) (tf r : Int) = (Aes.ks key (4 * i + r) : Int) := by
                  rw [bits8_xor _ _ (Aes.ks_lt key HK.out _) (HTF.out.1 r), hq]
                  exact congrArg _ (ks_next key i r hi.1 hlr tf (by rw [if_pos h0]; exact HTF.out.2 r))
                obtain ⟨g', c', w', hr', c2, c3, c6, c7, hR⟩ := RT.app HT.out ⟨hi.1, hlt⟩ hlr hX
                have c6' := c6 q (by omega)
                have e1 : IntKind.i64.wrap (4 * (i : Int)) = 4 * (i : Int) := i64_nat _ (by omega) (by omega)
                have e2 : IntKind.i64.wrap (4 * (i : Int) - 16) = 4 * (i : Int) - 16 := i64_nat _ (by omega) (by omega)
                have e3 : IntKind.i64.wrap (4 * (i : Int) - 16 + (r : Int)) = (q : Int) := by rw [i64_nat _ (by omega) (by omega)]; omega
                have e4 : (q : Int) < 4 * (i : Int) + (r : Int) := by omega
                have e5 : (r : Int) < 4 := by omega
                have HQ := Lib.hid hr'
                have HN := Lib.hid hR
                have HX := Lib.hid (And.intro hq hX)
                have hgl : g < wr.heap.size := hg.2.1
                have hgt : gt2 < wr.heap.size := HT.out.2.2.2.2.2.1
                clear hr' hR HT hg hq hX c6
                go_wp2
                refine region_z 19 (fun w' => w'.cell? ⟨w.heap.size + 1, 0, none⟩ = some (sl8 g (4 * i + r) c) ∧ w'.cell? ⟨g, q, none⟩ = some (.int .u8 (Aes.ks key q : Int)) ∧ w'.cell? ⟨gt2, r, none⟩ = some (.int .u8 (tf r : Int))) (by kernel_rfl) ?_
                have hS : wr.drew.cell? ⟨w.heap.size + 1, 0, none⟩ = some (sl8 g (4 * i + r) c) ∧ wr.drew.cell? ⟨g, q, none⟩ = some (.int .u8 (Aes.ks key q : Int)) ∧ wr.drew.cell? ⟨gt2, r, none⟩ = some (.int .u8 (tf r : Int)) := ⟨c1, c4, c5⟩
                refine zt (i := 0) rfl (.pointer (some ⟨w.heap.size + 1, 0, none⟩)) (by kernel_rfl) (by kernel_rfl) (by kernel_rfl) (by kernel_rfl) (fun _ _ _ h => h) hS (fun w' ⟨d1, d2, d3⟩ => by go_simp) ?_
                simp only [Act.put, List.setIfInBounds_toArray, List.set_cons_zero, List.set_cons_succ]
                refine zt (i := 1) rfl (sl8 g (4 * i + r) c) (by kernel_rfl) (by kernel_rfl) (by kernel_rfl) (by kernel_rfl) (fun _ _ _ h => h) hS (fun w' ⟨d1, d2, d3⟩ => by go_simp) ?_
                simp only [Act.put, List.setIfInBounds_toArray, List.set_cons_zero, List.set_cons_succ]
                refine zt (i := 2) rfl (.pointer (some ⟨w.heap.size + 1, 0, none⟩)) (by kernel_rfl) (by kernel_rfl) (by kernel_rfl) (by kernel_rfl) (fun _ _ _ h => h) hS (fun w' ⟨d1, d2, d3⟩ => by go_simp) ?_
                simp only [Act.put, List.setIfInBounds_toArray, List.set_cons_zero, List.set_cons_succ]
                refine zt (i := 3) rfl (sl8 g (4 * i + r) c) (by kernel_rfl) (by kernel_rfl) (by kernel_rfl) (by kernel_rfl) (fun _ _ _ h => h) hS (fun w' ⟨d1, d2, d3⟩ => by go_simp) ?_
                simp only [Act.put, List.setIfInBounds_toArray, List.set_cons_zero, List.set_cons_succ]
                refine zt (i := 4) rfl (.int .i64 (i : Int)) (by kernel_rfl) (by kernel_rfl) (by kernel_rfl) (by kernel_rfl) (fun _ _ _ h => h) hS (fun w' ⟨d1, d2, d3⟩ => by go_simp) ?_
                simp only [Act.put, List.setIfInBounds_toArray, List.set_cons_zero, List.set_cons_succ]
                refine zt (i := 5) rfl (.int .i64 (4 * (i : Int))) (by kernel_rfl) (by kernel_rfl) (by kernel_rfl) (by kernel_rfl) (fun _ _ _ h => h) hS (fun w' ⟨d1, d2, d3⟩ => by go_simp) ?_
                simp only [Act.put, List.setIfInBounds_toArray, List.set_cons_zero, List.set_cons_succ]
                refine zt (i := 6) rfl (.int .i64 (4 * (i : Int) - 16)) (by kernel_rfl) (by kernel_rfl) (by kernel_rfl) (by kernel_rfl) (fun _ _ _ h => h) hS (fun w' ⟨d1, d2, d3⟩ => by go_simp) ?_
                simp only [Act.put, List.setIfInBounds_toArray, List.set_cons_zero, List.set_cons_succ]
                refine zt (i := 7) rfl (.int .i64 (r : Int)) (by kernel_rfl) (by kernel_rfl) (by kernel_rfl) (by kernel_rfl) (fun _ _ _ h => h) hS (fun w' ⟨d1, d2, d3⟩ => by go_simp) ?_
                simp only [Act.put, List.setIfInBounds_toArray, List.set_cons_zero, List.set_cons_succ]
                refine zt (i := 8) rfl (.int .i64 (q : Int)) (by kernel_rfl) (by kernel_rfl) (by kernel_rfl) (by kernel_rfl) (fun _ _ _ h => h) hS (fun w' ⟨d1, d2, d3⟩ => by go_simp) ?_
                simp only [Act.put, List.setIfInBounds_toArray, List.set_cons_zero, List.set_cons_succ]
                refine zt (i := 9) rfl (.pointer (some ⟨g, q, none⟩)) (by kernel_rfl) (by kernel_rfl) (by kernel_rfl) (by kernel_rfl) (fun _ _ _ h => h) hS (fun w' ⟨d1, d2, d3⟩ => by go_simp) ?_
                simp only [Act.put, List.setIfInBounds_toArray, List.set_cons_zero, List.set_cons_succ]
                refine zt (i := 10) rfl (.int .u8 (Aes.ks key q : Int)) (by kernel_rfl) (by kernel_rfl) (by kernel_rfl) (by kernel_rfl) (fun _ _ _ h => h) hS (fun w' ⟨d1, d2, d3⟩ => by go_simp) ?_
                simp only [Act.put, List.setIfInBounds_toArray, List.set_cons_zero, List.set_cons_succ]
                refine zt (i := 11) rfl (sl8 gt2 4 4) (by kernel_rfl) (by kernel_rfl) (by kernel_rfl) (by kernel_rfl) (fun _ _ _ h => h) hS (fun w' ⟨d1, d2, d3⟩ => by go_simp) ?_
                simp only [Act.put, List.setIfInBounds_toArray, List.set_cons_zero, List.set_cons_succ]
                refine zt (i := 12) rfl (.int .i64 (r : Int)) (by kernel_rfl) (by kernel_rfl) (by kernel_rfl) (by kernel_rfl) (fun _ _ _ h => h) hS (fun w' ⟨d1, d2, d3⟩ => by go_simp) ?_
                simp only [Act.put, List.setIfInBounds_toArray, List.set_cons_zero, List.set_cons_succ]
                refine zt (i := 13) rfl (.pointer (some ⟨gt2, r, none⟩)) (by kernel_rfl) (by kernel_rfl) (by kernel_rfl) (by kernel_rfl) (fun _ _ _ h => h) hS (fun w' ⟨d1, d2, d3⟩ => by go_simp) ?_
                simp only [Act.put, List.setIfInBounds_toArray, List.set_cons_zero, List.set_cons_succ]
                refine zt (i := 14) rfl (.int .u8 (tf r : Int)) (by kernel_rfl) (by kernel_rfl) (by kernel_rfl) (by kernel_rfl) (fun _ _ _ h => h) hS (fun w' ⟨d1, d2, d3⟩ => by go_simp) ?_
                simp only [Act.put, List.setIfInBounds_toArray, List.set_cons_zero, List.set_cons_succ]
                refine zt (i := 15) rfl (.int .u8 (bits .xor .u8 (Aes.ks key q : Int) (tf r : Int))) (by kernel_rfl) (by kernel_rfl) (by kernel_rfl) (by kernel_rfl) (fun _ _ _ h => h) hS (fun w' ⟨d1, d2, d3⟩ => by go_simp) ?_
                simp only [Act.put, List.setIfInBounds_toArray, List.set_cons_zero, List.set_cons_succ]
                have al : ∀ (o : Obj) (b j : Nat), b < wr.heap.size → (wr.drew.alloc o).cell? ⟨b, j, none⟩ = wr.drew.cell? ⟨b, j, none⟩ := fun o b j h => World.cell?_alloc_lt _ _ _ (by simpa using h)
                refine z1 (i := 16) (by kernel_rfl) rfl (fun K hK => ?_)
                go_simp
                refine hK.out _ _ (.inr ⟨(al _ _ _ hsz).trans hS.1, (al _ _ _ hgl).trans hS.2.1, (al _ _ _ hgt).trans hS.2.2⟩) ?_
                clear hK K
                refine z1 (i := 17) (by kernel_rfl) rfl (fun K hK => ?_)
                refine wp_append_run _ _ 99 rfl _ _ _ w' rfl rfl HQ.out ?_
                refine hK.out _ _ (.inr ⟨c2, c6', c7⟩) ?_
                clear hK K
                simp only [Act.put, List.setIfInBounds_toArray, List.set_cons_zero, List.set_cons_succ]
                refine z1 (i := 18) (by kernel_rfl) rfl (fun K hK => ?_)
                go_simp
                refine hK.out _ _ (.inr ⟨c2, c6', c7⟩) ?_
                clear hK K
                refine z1 (i := 19) (by kernel_rfl) rfl (fun K hK => ?_)
                go_simp
                refine hK.out _ _ (.inl rfl) ?_
                clear hK K
                refine wpAnyZ_done (by kernel_rfl) ?_ _
                clear hS al c1 c2 c3 c4 c5 c6' c7 HQ
                go_wp2
                go_roundw
                case rel => exact ⟨r + 1, g', c', by omega, by go_num, HN⟩
                case measure => simp [intOf]; omega
              · obtain rfl : r = 4 := by omega
                have HE := Lib.hid (show RK w key (4 * (i + 1)) g c gb cb wr from HT.out.1)
                clear HT
                go_wp2
                go_roundw
                case rel => exact ⟨i + 1, g, c, gb, cb, by omega, by go_num, by rw [show (i + 1 - 1) / 4 = (i - 1) / 4 + 1 by omega]; rfl, HE⟩
                case measure => simp [intOf]; omega
          · have h0' : ((i : Int) % 4 == 0) = false := by simp; omega
            go_wp2_with (at_builtin; refine wpList_append_run rfl _ _ 99 rfl _ _ _ w1 rfl rfl HQ.out ?_)
            clear HQ c1 hcm hcn hsz
            go_loopw [8] (fun t w3 => ∃ r g c : Nat, r ≤ 4 ∧ t = .int .i64 r ∧ Hid (RT w key (4 * i + r) g c gb cb gt ct (fun j => Aes.ks key (4 * i - 4 + j)) w3)) (fun t _ => 4 - (intOf t).toNat)
            case atStart => exact ⟨0, g, c, by omega, rfl, HT⟩
            case round =>
              clear HT
              obtain ⟨r, g, c, hr, rfl, HT⟩ := hrel
              by_cases hlr : r < 4
              · obtain ⟨q, hq⟩ : ∃ q, q = 4 * i - 16 + r := ⟨_, rfl⟩
                have hg := OR.lt HT.out.1.2.2.2.1
                have hsz : w.heap.size + 1 < wr.heap.size := HT.out.1.2.2.1.lt
                have c1 := HT.out.1.2.2.1.cell0
                have c4 : wr.cell? ⟨g, q, none⟩ = some (.int .u8 (Aes.ks key q : Int)) := by have := AtB.cell hg.2.2.2.2 q (by omega); rwa [Nat.zero_add] at this
                have c5 : wr.cell? ⟨gt, r, none⟩ = some (.int .u8 (Aes.ks key (4 * i - 4 + r) : Int)) := by have := AtB.cell HT.out.2.1 r hlr; rwa [Nat.zero_add] at this
                have hX : bits .xor .u8 (Aes.ks key q : Int) (Aes.ks key (4 * i - 4 + r) : Int) = (Aes.ks key (4 * i + r) : Int) := by
                  rw [bits8_xor _ _ (Aes.ks_lt key HK.out _) (Aes.ks_lt key HK.out _), hq]
                  exact congrArg _ (ks_next key i r hi.1 hlr (fun j => Aes.ks key (4 * i - 4 + j)) (by rw [if_neg h0]))
                obtain ⟨g', c', w', hr', c2, c3, c6, c7, hR⟩ := RT.app HT.out ⟨hi.1, hlt⟩ hlr hX
                have c6' := c6 q (by omega)
                have e1 : IntKind.i64.wrap (4 * (i : Int)) = 4 * (i : Int) := i64_nat _ (by omega) (by omega)
                have e2 : IntKind.i64.wrap (4 * (i : Int) - 16) = 4 * (i : Int) - 16 := i64_nat _ (by omega) (by omega)
                have e3 : IntKind.i64.wrap (4 * (i : Int) - 16 + (r : Int)) = (q : Int) := by rw [i64_nat _ (by omega) (by omega)]; omega
                have e4 : (q : Int) < 4 * (i : Int) + (r : Int) := by omega
                have e5 : (r : Int) < 4 := by omega
                have HQ := Lib.hid hr'
                have HN := Lib.hid hR
                have HX := Lib.hid (And.intro hq hX)
                have hgl : g < wr.heap.size := hg.2.1
                have hgt : gt < wr.heap.size := HT.out.2.2.2.2.2.1
                clear hr' hR HT hg hq hX c6
                go_wp2
                refine region_z 19 (fun w' => w'.cell? ⟨w.heap.size + 1, 0, none⟩ = some (sl8 g (4 * i + r) c) ∧ w'.cell? ⟨g, q, none⟩ = some (.int .u8 (Aes.ks key q : Int)) ∧ w'.cell? ⟨gt, r, none⟩ = some (.int .u8 (Aes.ks key (4 * i - 4 + r) : Int))) (by kernel_rfl) ?_
                have hS : wr.drew.cell? ⟨w.heap.size + 1, 0, none⟩ = some (sl8 g (4 * i + r) c) ∧ wr.drew.cell? ⟨g, q, none⟩ = some (.int .u8 (Aes.ks key q : Int)) ∧ wr.drew.cell? ⟨gt, r, none⟩ = some (.int .u8 (Aes.ks key (4 * i - 4 + r) : Int)) := ⟨c1, c4, c5⟩
                refine zt (i := 0) rfl (.pointer (some ⟨w.heap.size + 1, 0, none⟩)) (by kernel_rfl) (by kernel_rfl) (by kernel_rfl) (by kernel_rfl) (fun _ _ _ h => h) hS (fun w' ⟨d1, d2, d3⟩ => by go_simp) ?_
                simp only [Act.put, List.setIfInBounds_toArray, List.set_cons_zero, List.set_cons_succ]
                refine zt (i := 1) rfl (sl8 g (4 * i + r) c) (by kernel_rfl) (by kernel_rfl) (by kernel_rfl) (by kernel_rfl) (fun _ _ _ h => h) hS (fun w' ⟨d1, d2, d3⟩ => by go_simp) ?_
                simp only [Act.put, List.setIfInBounds_toArray, List.set_cons_zero, List.set_cons_succ]
                refine zt (i := 2) rfl (.pointer (some ⟨w.heap.size + 1, 0, none⟩)) (by kernel_rfl) (by kernel_rfl) (by kernel_rfl) (by kernel_rfl) (fun _ _ _ h => h) hS (fun w' ⟨d1, d2, d3⟩ => by go_simp) ?_
                simp only [Act.put, List.setIfInBounds_toArray, List.set_cons_zero, List.set_cons_succ]
                refine zt (i := 3) rfl (sl8 g (4 * i + r) c) (by kernel_rfl) (by kernel_rfl) (by kernel_rfl) (by kernel_rfl) (fun _ _ _ h => h) hS (fun w' ⟨d1, d2, d3⟩ => by go_simp) ?_
                simp only [Act.put, List.setIfInBounds_toArray, List.set_cons_zero, List.set_cons_succ]
                refine zt (i := 4) rfl (.int .i64 (i : Int)) (by kernel_rfl) (by kernel_rfl) (by kernel_rfl) (by kernel_rfl) (fun _ _ _ h => h) hS (fun w' ⟨d1, d2, d3⟩ => by go_simp) ?_
                simp only [Act.put, List.setIfInBounds_toArray, List.set_cons_zero, List.set_cons_succ]
                refine zt (i := 5) rfl (.int .i64 (4 * (i : Int))) (by kernel_rfl) (by kernel_rfl) (by kernel_rfl) (by kernel_rfl) (fun _ _ _ h => h) hS (fun w' ⟨d1, d2, d3⟩ => by go_simp) ?_
                simp only [Act.put, List.setIfInBounds_toArray, List.set_cons_zero, List.set_cons_succ]
                refine zt (i := 6) rfl (.int .i64 (4 * (i : Int) - 16)) (by kernel_rfl) (by kernel_rfl) (by kernel_rfl) (by kernel_rfl) (fun _ _ _ h => h) hS (fun w' ⟨d1, d2, d3⟩ => by go_simp) ?_
                simp only [Act.put, List.setIfInBounds_toArray, List.set_cons_zero, List.set_cons_succ]
                refine zt (i := 7) rfl (.int .i64 (r : Int)) (by kernel_rfl) (by kernel_rfl) (by kernel_rfl) (by kernel_rfl) (fun _ _ _ h => h) hS (fun w' ⟨d1, d2, d3⟩ => by go_simp) ?_
                simp only [Act.put, List.setIfInBounds_toArray, List.set_cons_zero, List.set_cons_succ]
                refine zt (i := 8) rfl (.int .i64 (q : Int)) (by kernel_rfl) (by kernel_rfl) (by kernel_rfl) (by kernel_rfl) (fun _ _ _ h => h) hS (fun w' ⟨d1, d2, d3⟩ => by go_simp) ?_
                simp only [Act.put, List.setIfInBounds_toArray, List.set_cons_zero, List.set_cons_succ]
                refine zt (i := 9) rfl (.pointer (some ⟨g, q, none⟩)) (by kernel_rfl) (by kernel_rfl) (by kernel_rfl) (by kernel_rfl) (fun _ _ _ h => h) hS (fun w' ⟨d1, d2, d3⟩ => by go_simp) ?_
                simp only [Act.put, List.setIfInBounds_toArray, List.set_cons_zero, List.set_cons_succ]
                refine zt (i := 10) rfl (.int .u8 (Aes.ks key q : Int)) (by kernel_rfl) (by kernel_rfl) (by kernel_rfl) (by kernel_rfl) (fun _ _ _ h => h) hS (fun w' ⟨d1, d2, d3⟩ => by go_simp) ?_
                simp only [Act.put, List.setIfInBounds_toArray, List.set_cons_zero, List.set_cons_succ]
                refine zt (i := 11) rfl (sl8 gt 4 ct) (by kernel_rfl) (by kernel_rfl) (by kernel_rfl) (by kernel_rfl) (fun _ _ _ h => h) hS (fun w' ⟨d1, d2, d3⟩ => by go_simp) ?_
                simp only [Act.put, List.setIfInBounds_toArray, List.set_cons_zero, List.set_cons_succ]
                refine zt (i := 12) rfl (.int .i64 (r : Int)) (by kernel_rfl) (by kernel_rfl) (by kernel_rfl) (by kernel_rfl) (fun _ _ _ h => h) hS (fun w' ⟨d1, d2, d3⟩ => by go_simp) ?_
                simp only [Act.put, List.setIfInBounds_toArray, List.set_cons_zero, List.set_cons_succ]
                refine zt (i := 13) rfl (.pointer (some ⟨gt, r, none⟩)) (by kernel_rfl) (by kernel_rfl) (by kernel_rfl) (by kernel_rfl) (fun _ _ _ h => h) hS (fun w' ⟨d1, d2, d3⟩ => by go_simp) ?_
                simp only [Act.put, List.setIfInBounds_toArray, List.set_cons_zero, List.set_cons_succ]
                refine zt (i := 14) rfl (.int .u8 (Aes.ks key (4 * i - 4 + r) : Int)) (by kernel_rfl) (by kernel_rfl) (by kernel_rfl) (by kernel_rfl) (fun _ _ _ h => h) hS (fun w' ⟨d1, d2, d3⟩ => by go_simp) ?_
                simp only [Act.put, List.setIfInBounds_toArray, List.set_cons_zero, List.set_cons_succ]
                refine zt (i := 15) rfl (.int .u8 (bits .xor .u8 (Aes.ks key q : Int) (Aes.ks key (4 * i - 4 + r) : Int))) (by kernel_rfl) (by kernel_rfl) (by kernel_rfl) (by kernel_rfl) (fun _ _ _ h => h) hS (fun w' ⟨d1, d2, d3⟩ => by go_simp) ?_
                simp only [Act.put, List.setIfInBounds_toArray, List.set_cons_zero, List.set_cons_succ]
                have al : ∀ (o : Obj) (b j : Nat), b < wr.heap.size → (wr.drew.alloc o).cell? ⟨b, j, none⟩ = wr.drew.cell? ⟨b, j, none⟩ := fun o b j h => World.cell?_alloc_lt _ _ _ (by simpa using h)
                refine z1 (i := 16) (by kernel_rfl) rfl (fun K hK => ?_)
                go_simp
                refine hK.out _ _ (.inr ⟨(al _ _ _ hsz).trans hS.1, (al _ _ _ hgl).trans hS.2.1, (al _ _ _ hgt).trans hS.2.2⟩) ?_
                clear hK K
                refine z1 (i := 17) (by kernel_rfl) rfl (fun K hK => ?_)
                refine wp_append_run _ _ 99 rfl _ _ _ w' rfl rfl HQ.out ?_
                refine hK.out _ _ (.inr ⟨c2, c6', c7⟩) ?_
                clear hK K
                simp only [Act.put, List.setIfInBounds_toArray, List.set_cons_zero, List.set_cons_succ]
                refine z1 (i := 18) (by kernel_rfl) rfl (fun K hK => ?_)
                go_simp
                refine hK.out _ _ (.inr ⟨c2, c6', c7⟩) ?_
                clear hK K
                refine z1 (i := 19) (by kernel_rfl) rfl (fun K hK => ?_)
                go_simp
                refine hK.out _ _ (.inl rfl) ?_
                clear hK K
                refine wpAnyZ_done (by kernel_rfl) ?_ _
                clear hS al c1 c2 c3 c4 c5 c6' c7 HQ
                go_wp2
                go_roundw
                case rel => exact ⟨r + 1, g', c', by omega, by go_num, HN⟩
                case measure => simp [intOf]; omega
              · obtain rfl : r = 4 := by omega
                have HE := Lib.hid (show RK w key (4 * (i + 1)) g c gb cb wr from HT.out.1)
                clear HT
                go_wp2
                go_roundw
                case rel => exact ⟨i + 1, g, c, gb, cb, by omega, by go_num, by rw [show (i + 1 - 1) / 4 = (i - 1) / 4 by omega], HE⟩
                case measure => simp [intOf]; omega
        · obtain rfl : i = 44 := by omega
          have c1 := HR.out.2.2.1.cell0
          have c2 := HR.out.2.2.1.cell1
          have c3 := HR.out.2.1.cell0
          have c4 := HR.out.2.1.cell1
          have c5 := HR.out.2.1.frozen 0
          have c6 := HR.out.2.1.frozen 1
          go_wp2
          have HE := RK.ends HR.out
          exact bodyPost_ret (v := rci g c gb cb) (results_cell_row rfl _ _ w.heap.size _ _ _ _ rfl HE.1 Tryd.underlying101 rfl infoRC) rfl ⟨g, c, gb, cb, rfl, HE.2.1, HE.2.2⟩
end Go.Proofs.YtamejhhjfnfalaaDoor.Ae

/- Contracts of the document's own add and mix. -/
namespace Go.Proofs.YtamejhhjfnfalaaDoor.Ae
open Go.RowKit

/-- Sixteen bytes that a call has made for itself. -/
abbrev mk16 (g : Nat) : Value := .slice (some ⟨g, 0, none⟩) 16 16
theorem make16 (w : World) : (Instr.makeSlice 99 (.int .i64 16) (.int .i64 16)).run Tryd.prog w = .ok (mk16 w.heap.size) (w.alloc (.cells (bys 16 fun _ => 0) 5)) := by
  obtain ⟨i0, hi, hz0, hz1, hz2⟩ := infoB
  have := run_make (P := Tryd.prog) w 99 5 i0 (.int .u8 0) Tryd.underlying99 hi hz0 .i64 .i64 16 16 (by omega) (by omega) (by rw [hz2]; decide) (by omega)
  rw [this, hz1, show madeCells (Value.int .u8 0).cells (Int.toNat 16 * 1) = bys 16 fun _ => 0 by kernel_rfl]
  rfl
def AD (w : World) (F : Nat → Nat) (i : Nat) (wr : World) : Prop := Below w.heap.size w wr ∧ OwnB wr w.heap.size 16 5 (upTo i F fun _ => 0)
theorem AD.start (w : World) (F : Nat → Nat) : AD w F 0 (w.alloc (.cells (bys 16 fun _ => 0) 5)) := ⟨(Below.refl _ _).alloc (Nat.le_refl _) _, OwnB.new w 16 5 fun _ => 0⟩
theorem AD.drew {w wr : World} {F : Nat → Nat} {i : Nat} (h : AD w F i wr) : AD w F i wr.drew := ⟨h.1.drew, h.2⟩
theorem AD.set {w wr : World} {F : Nat → Nat} {i : Nat} {x : Int} (h : AD w F i wr) (hx : x = (F i : Int)) : AD w F (i + 1) (wr.setCell ⟨w.heap.size, i, none⟩ (.int .u8 x)) := by
  subst hx
  exact ⟨h.1.setCell (Nat.le_refl _) _, (h.2.set i _).congr fun q _ => upTo_step i F (fun _ => 0) q⟩
theorem AD.drewN {w wr : World} {F : Nat → Nat} {i : Nat} (h : AD w F i wr) (n : Nat) : AD w F i (wr.drewN n) := by
  exact ⟨⟨h.1.os, h.1.tape, h.1.output, h.1.size, h.1.block⟩, h.2⟩
theorem AD.setAt {w wr : World} {F : Nat → Nat} {c r q x : Nat} (h : AD w F (4 * c + r) wr) (n : Nat) (hq : q = 4 * c + r) (hx : x = F q) : AD w F (4 * c + (r + 1)) ((wr.drewN n).setCell ⟨w.heap.size, q, none⟩ (.int .u8 x)) := by
  subst hq
  subst hx
  exact AD.set (i := 4 * c + r) (h.drewN n) rfl
theorem AtB.down {w wr : World} {ad : Addr} {n : Nat} {f : Nat → Nat} (h : AtB w ad n f) (hb : Below w.heap.size w wr) : AtB wr ad n f := AtB.below h hb
set_option maxHeartbeats 1000000 in
set_option maxRecDepth 100000 in
theorem add_any (ga oa ca gb ob cb : Nat) (f h : Nat → Nat) (w : World) (hA : AtB w ⟨ga, oa, none⟩ 16 f) (hB : AtB w ⟨gb, ob, none⟩ 16 h) (hf : ∀ i, f i < 256) (hh : ∀ i, h i < 256) :
    Calls Tryd.prog 98 #[.slice (some ⟨ga, oa, none⟩) 16 ca, .slice (some ⟨gb, ob, none⟩) 16 cb] w fun e w' => e = .returned (mk16 w.heap.size) ∧ OwnB w' w.heap.size 16 5 (fun i => f i ^^^ h i) ∧ Below w.heap.size w w' := by
  have HA := Lib.hid (And.intro hA hB)
  have HF := Lib.hid (And.intro hf hh)
  have hm := make16
  clear hA hB hf hh
  go_enter Tryd.func98, Tryd.ntmps98
  go_wp2
  clear hm
  go_loopw [6] (fun t wr => ∃ i : Nat, i ≤ 16 ∧ t = .int .i64 i ∧ Hid (AD w (fun q => f q ^^^ h q) i wr)) (fun t _ => 16 - (intOf t).toNat)
  case atStart => exact ⟨0, by omega, rfl, AD.start w _⟩
  case round =>
    obtain ⟨i, hi, rfl, HH⟩ := hrel
    by_cases hlt : i < 16
    · have c1 := AtB.cell (HA.out.1.down HH.out.1) i hlt
      have c2 := AtB.cell (HA.out.2.down HH.out.1) i hlt
      have c3 : wr.cell? ⟨w.heap.size, i, none⟩ = some (.int .u8 0) := by rw [HH.out.2.cell i hlt, upTo_at]; rfl
      have c4 := HH.out.2.frozen i
      have e1 : (i : Int) < 16 := by omega
      have HX := Lib.hid (bits8_xor (f i) (h i) (HF.out.1 i) (HF.out.2 i))
      go_wp2
      go_still_tail 12, (by kernel_rfl)
      change wpList _ _ _ _ _ wr.drew
      have HE := Lib.hid HH.out.drew
      have c3' : wr.drew.cell? ⟨w.heap.size, i, none⟩ = some (.int .u8 0) := c3
      have c4' : wr.drew.frozen? ⟨w.heap.size, i, none⟩ = false := c4
      clear HH c1 c2 c3 c4
      generalize wr.drew = w2 at HE c3' c4' ⊢
      go_wp2
      go_roundw
      case rel => exact ⟨i + 1, by omega, by go_num, AD.set HE.out HX.out⟩
      case measure => simp [intOf]; omega
    · obtain rfl : i = 16 := by omega
      go_wp2
      go_ret
      exact ⟨rfl, HH.out.2.congr fun q hq => upTo_full 16 _ _ q hq, HH.out.1⟩
theorem times_c2 (a : Nat) (w : World) (ha : a < 256) :
    Calls Tryd.prog 97 #[.int .u8 (a : Int), .int .u8 2] w fun e w' => e = .returned (.int .u8 (Aes.tm a 2 : Int)) ∧ w = w' := times_any a 2 w ha (by omega)
theorem times_c3 (a : Nat) (w : World) (ha : a < 256) :
    Calls Tryd.prog 97 #[.int .u8 (a : Int), .int .u8 3] w fun e w' => e = .returned (.int .u8 (Aes.tm a 3 : Int)) ∧ w = w' := times_any a 3 w ha (by omega)
theorem rmixer (p q r s : Nat) (hp : p < 256) (hq : q < 256) (hr : r < 256) (hs : s < 256) : ∃ x y : Nat, bits .xor .u8 (Aes.tm p 2 : Int) (Aes.tm q 3 : Int) = (x : Int) ∧ bits .xor .u8 (x : Int) (r : Int) = (y : Int) ∧ bits .xor .u8 (y : Int) (s : Int) = (Aes.mixB p q r s : Int) := by
  have hx := Aes.byte_xor (Aes.tm_lt 2 hp) (Aes.tm_lt 3 hq)
  have hy := Aes.byte_xor hx hr
  exact ⟨_, _, bits8_xor _ _ (Aes.tm_lt 2 hp) (Aes.tm_lt 3 hq), bits8_xor _ _ hx hr, bits8_xor _ _ hy hs⟩
theorem mix_idx (c r : Nat) (hc : c < 4) (hr : r < 4) : ∃ m1 m2 m3 q0 q1 q2 q3 : Nat, (q0 = 4 * c + r ∧ ∀ f : Nat → Nat, Aes.mixB (f q0) (f q1) (f q2) (f q3) = Aes.mixF f q0) ∧ (q0 < 16 ∧ q1 < 16 ∧ q2 < 16 ∧ q3 < 16) ∧
    IntKind.i64.wrap (4 * (c : Int)) = 4 * (c : Int) ∧ IntKind.i64.wrap (4 * (c : Int) + (r : Int)) = (q0 : Int) ∧
    IntKind.i64.wrap ((r : Int) + 1) = (r : Int) + 1 ∧ IntKind.i64.wrap ((r : Int) + 2) = (r : Int) + 2 ∧ IntKind.i64.wrap ((r : Int) + 3) = (r : Int) + 3 ∧
    ((r : Int) + 1).tmod 4 = (m1 : Int) ∧ ((r : Int) + 2).tmod 4 = (m2 : Int) ∧ ((r : Int) + 3).tmod 4 = (m3 : Int) ∧
    IntKind.i64.wrap (4 * (c : Int) + (m1 : Int)) = (q1 : Int) ∧ IntKind.i64.wrap (4 * (c : Int) + (m2 : Int)) = (q2 : Int) ∧ IntKind.i64.wrap (4 * (c : Int) + (m3 : Int)) = (q3 : Int) ∧
    (q0 : Int) < 16 ∧ (q1 : Int) < 16 ∧ (q2 : Int) < 16 ∧ (q3 : Int) < 16 := by
  refine ⟨(r + 1) % 4, (r + 2) % 4, (r + 3) % 4, 4 * c + r, 4 * c + (r + 1) % 4, 4 * c + (r + 2) % 4, 4 * c + (r + 3) % 4, ⟨rfl, fun f => ?_⟩, by omega, ?_, ?_, ?_, ?_, ?_, ?_, ?_, ?_, ?_, ?_, ?_, ?_, ?_, ?_, ?_⟩
  · unfold Aes.mixF Aes.col
    rw [show 4 * ((4 * c + r) / 4) + ((4 * c + r) % 4 + 0) % 4 = 4 * c + r by omega, show 4 * ((4 * c + r) / 4) + ((4 * c + r) % 4 + 1) % 4 = 4 * c + (r + 1) % 4 by omega, show 4 * ((4 * c + r) / 4) + ((4 * c + r) % 4 + 2) % 4 = 4 * c + (r + 2) % 4 by omega, show 4 * ((4 * c + r) / 4) + ((4 * c + r) % 4 + 3) % 4 = 4 * c + (r + 3) % 4 by omega]
  · exact i64_nat _ (by omega) (by omega)
  · rw [i64_nat _ (by omega) (by omega)]; omega
  · exact i64_nat _ (by omega) (by omega)
  · exact i64_nat _ (by omega) (by omega)
  · exact i64_nat _ (by omega) (by omega)
  · rw [Int.tmod_eq_emod_of_nonneg (by omega)]; omega
  · rw [Int.tmod_eq_emod_of_nonneg (by omega)]; omega
  · rw [Int.tmod_eq_emod_of_nonneg (by omega)]; omega
  · rw [i64_nat _ (by omega) (by omega)]; omega
  · rw [i64_nat _ (by omega) (by omega)]; omega
  · rw [i64_nat _ (by omega) (by omega)]; omega
  · omega
  · omega
  · omega
  · omega
set_option maxHeartbeats 1000000 in
set_option maxRecDepth 100000 in
theorem mix_any (ga oa ca : Nat) (f : Nat → Nat) (w : World) (hA : AtB w ⟨ga, oa, none⟩ 16 f) (hf : ∀ i, f i < 256) :
    Calls Tryd.prog 99 #[.slice (some ⟨ga, oa, none⟩) 16 ca] w fun e w' => e = .returned (mk16 w.heap.size) ∧ OwnB w' w.heap.size 16 5 (Aes.mixF f) ∧ Below w.heap.size w w' := by
  have HA := Lib.hid hA
  have HF := Lib.hid hf
  have hm := make16
  clear hA hf
  go_enter Tryd.func99, Tryd.ntmps99
  go_wp2
  clear hm
  go_loopw [4] (fun t wr => ∃ c : Nat, c ≤ 4 ∧ t = .int .i64 c ∧ Hid (AD w (Aes.mixF f) (4 * c) wr)) (fun t _ => 4 - (intOf t).toNat)
  case atStart => exact ⟨0, by omega, rfl, AD.start w _⟩
  case round =>
    obtain ⟨c, hc, rfl, HH⟩ := hrel
    by_cases hlc : c < 4
    · have hbc : decide ((c : Int) < 4) = true := by simp; omega
      go_wp2
      clear hbc
      go_loopw [5] (fun t w2 => ∃ r : Nat, r ≤ 4 ∧ t = .int .i64 r ∧ Hid (AD w (Aes.mixF f) (4 * c + r) w2)) (fun t _ => 4 - (intOf t).toNat)
      case atStart => exact ⟨0, by omega, rfl, HH⟩
      case round =>
        clear HH
        obtain ⟨r, hr, rfl, HH⟩ := hrel
        by_cases hlr : r < 4
        · obtain ⟨m1, m2, m3, q0, q1, q2, q3, hI, ⟨g0, g1, g2, g3⟩, e0, e1, w1, w2, w3, t1, t2, t3, v1, v2, v3, l0, l1, l2, l3⟩ := mix_idx c r hlc hlr
          have a0 := AtB.cell (HA.out.down HH.out.1) q0 g0
          have a1 := AtB.cell (HA.out.down HH.out.1) q1 g1
          have a2 := AtB.cell (HA.out.down HH.out.1) q2 g2
          have a3 := AtB.cell (HA.out.down HH.out.1) q3 g3
          have c3 : wr.cell? ⟨w.heap.size, q0, none⟩ = some (.int .u8 0) := by rw [hI.1, HH.out.2.cell _ (hI.1 ▸ g0), upTo_at]; rfl
          have c4 := HH.out.2.frozen q0
          obtain ⟨x, y, x1, x2, x3⟩ := rmixer (f q0) (f q1) (f q2) (f q3) (HF.out _) (HF.out _) (HF.out _) (HF.out _)
          have HM := Lib.hid (hI.2 f)
          have hF0 := HF.out q0
          have hF1 := HF.out q1
          have HQ := Lib.hid hI.1
          clear hI g0 g1 g2 g3
          go_wp2
          go_quiet (fail)
          go_wp2_with (fail)
          refine (times_c2 _ _ hF0).mono ?_
          rintro e w9 ⟨rfl, rfl⟩
          go_wp2_with (fail)
          refine (times_c3 _ _ hF1).mono ?_
          rintro e w9 ⟨rfl, rfl⟩
          go_wp2
          go_roundw
          case rel => exact ⟨r + 1, by omega, by go_num, AD.setAt HH.out nq HQ.out HM.out⟩
          case measure => simp [intOf]; omega
        · obtain rfl : r = 4 := by omega
          go_wp2
          go_roundw
          case rel => exact ⟨c + 1, by omega, by go_num, HH⟩
          case measure => simp [intOf]; omega
    · obtain rfl : c = 4 := by omega
      go_wp2
      go_ret
      exact ⟨rfl, HH.out.2.congr fun q hq => upTo_full 16 _ _ q hq, HH.out.1⟩
end Go.Proofs.YtamejhhjfnfalaaDoor.Ae

/- Contract of the document's own Encrypt. -/
namespace Go.Proofs.YtamejhhjfnfalaaDoor.Ae
open Go.RowKit

theorem enc_idx (c r : Nat) (hc : c < 4) (hr : r < 4) : ∃ m q0 q1 : Nat, (q0 = 4 * c + r ∧ q1 = Aes.from_ q0) ∧ (q0 < 16 ∧ q1 < 16) ∧
    IntKind.i64.wrap (4 * (c : Int)) = 4 * (c : Int) ∧ IntKind.i64.wrap (4 * (c : Int) + (r : Int)) = (q0 : Int) ∧
    IntKind.i64.wrap ((c : Int) + (r : Int)) = (c : Int) + (r : Int) ∧ ((c : Int) + (r : Int)).tmod 4 = (m : Int) ∧
    IntKind.i64.wrap (4 * (m : Int)) = 4 * (m : Int) ∧ IntKind.i64.wrap (4 * (m : Int) + (r : Int)) = (q1 : Int) ∧
    (q0 : Int) < 16 ∧ (q1 : Int) < 16 := by
  refine ⟨(c + r) % 4, 4 * c + r, 4 * ((c + r) % 4) + r, ⟨rfl, ?_⟩, by omega, ?_, ?_, ?_, ?_, ?_, ?_, ?_, ?_⟩
  · unfold Aes.from_; rw [show (4 * c + r) / 4 = c by omega, show (4 * c + r) % 4 = r by omega]
  · exact i64_nat _ (by omega) (by omega)
  · rw [i64_nat _ (by omega) (by omega)]; omega
  · exact i64_nat _ (by omega) (by omega)
  · rw [Int.tmod_eq_emod_of_nonneg (by omega)]; omega
  · exact i64_nat _ (by omega) (by omega)
  · rw [i64_nat _ (by omega) (by omega)]; omega
  · omega
  · omega
/-- Behind n rounds: the cipher's own cell, and block b. -/
def RE (w : World) (key : Nat → Nat) (g c gb cb b : Nat) (h : Nat → Nat) (wr : World) : Prop :=
  Below w.heap.size w wr ∧ CB wr w.heap.size (sl8 g 176 c) (sl8 gb 256 cb) ∧ OwnB wr b 16 5 h ∧ RCi wr key g c gb cb
theorem RCi.below {w w' : World} {key : Nat → Nat} {g c gb cb : Nat} (h : RCi w key g c gb cb) (hb : Below w.heap.size w w') : RCi w' key g c gb cb := ⟨AtB.below h.1 hb, AtB.below h.2.1 hb, h.2.2⟩
theorem RE.next {w w1 w2 : World} {key h h' : Nat → Nat} {g c gb cb b b' : Nat} (he : RE w key g c gb cb b h w1) (hb : Below w1.heap.size w1 w2) (ho : OwnB w2 b' 16 5 h') : RE w key g c gb cb b' h' w2 :=
  ⟨he.1.trans (hb.mono he.1.size), he.2.1.below hb he.2.1.lt, ho, he.2.2.2.below hb⟩
theorem ks_at {w : World} {key : Nat → Nat} {g c gb cb : Nat} (h : RCi w key g c gb cb) (o : Nat) (ho : o + 16 ≤ 176) : AtB w ⟨g, o, none⟩ 16 (fun i => Aes.ks key (o + i)) := by
  have := AtB.sub h.1 o 16 ho
  rwa [Nat.zero_add] at this
set_option maxHeartbeats 1000000 in
set_option maxRecDepth 100000 in
theorem renc_any (key f : Nat → Nat) (g c gb cb gf off cf : Nat) (w : World) (hC : RCi w key g c gb cb) (hA : AtB w ⟨gf, off, none⟩ 16 f) (hk : ∀ i, key i < 256) (hf : ∀ i, f i < 256) :
    Calls Tryd.prog 77 #[rci g c gb cb, .slice (some ⟨gf, off, none⟩) 16 cf] w fun e w' => ∃ gr, e = .returned (mk16 gr) ∧ OwnB w' gr 16 5 (Aes.enc (Aes.ks key) f) ∧ Below w.heap.size w w' := by
  have HC := Lib.hid (And.intro hC hA)
  have HF := Lib.hid (And.intro (Aes.ks_lt key hk) hf)
  have hc1 := hC.2.2.1
  have hc2 := hC.2.2.2.1
  have hc3 := hC.2.2.2.2.1
  have hc4 := hC.2.2.2.2.2
  clear hC hA hk hf
  go_enter Tryd.func77, Tryd.ntmps77
  go_wp2_with (fail)
  have hb0 : Below w.heap.size w (w.alloc (.cells #[sl8 g 176 c, sl8 gb 256 cb] 101)) := (Below.refl _ _).alloc (Nat.le_refl _) _
  have hC0 := HC.out.1.below hb0
  refine (add_any gf off cf g 0 c f _ _ (HC.out.2.down hb0) (ks_at hC0 0 (by omega)) HF.out.2 (fun i => HF.out.1 _)).mono ?_
  rintro e w1 ⟨rfl, ho, hb⟩
  have hE : RE w key g c gb cb (w.alloc (.cells #[sl8 g 176 c, sl8 gb 256 cb] 101)).heap.size (Aes.encGo (Aes.ks key) f 0) w1 := by
    refine ⟨hb0.trans (hb.mono (by simp)), (CB.new w _ _).below hb (by simp), ho.congr fun q _ => ?_, hC0.below hb⟩
    show _ = f q ^^^ Aes.ks key q
    rw [Nat.zero_add]
  clear hb ho hC0 hb0 HC
  generalize (w.alloc (.cells #[sl8 g 176 c, sl8 gb 256 cb] 101)).heap.size = b at hE ⊢
  have HE := Lib.hid hE
  clear hE
  go_wp2
  go_loopw [5, 6] (fun s t wr => ∃ n b : Nat, n ≤ 10 ∧ t = .int .i64 ((n : Int) + 1) ∧ s = mk16 b ∧ Hid (RE w key g c gb cb b (Aes.encGo (Aes.ks key) f n) wr)) (fun _ t _ => 11 - (intOf t).toNat)
  case atStart => exact ⟨0, b, by omega, rfl, rfl, HE⟩
  case round =>
    clear HE
    obtain ⟨n, b, hn, rfl, rfl, HE⟩ := hrel
    obtain ⟨w0, hw0⟩ : ∃ x, x = wr := ⟨_, rfl⟩
    subst hw0
    by_cases hlt : n < 10
    · have hm := make16
      have hbn : decide ((n : Int) + 1 ≤ 10) = true := by simp; omega
      go_wp2
      clear hm hbn
      have HH0 := AD.start w0 (Aes.subs (Aes.encGo (Aes.ks key) f n))
      have hN := encGo_lt (f := f) HF.out.1 HF.out.2 n
      generalize hh : Aes.encGo (Aes.ks key) f n = h at HE hN HH0
      have HN := Lib.hid hN
      have HH := Lib.hid HH0
      clear HH0 hN
      go_loopw [8] (fun t w2 => ∃ i : Nat, i ≤ 4 ∧ t = .int .i64 i ∧ Hid (AD w0 (Aes.subs h) (4 * i) w2)) (fun t _ => 4 - (intOf t).toNat)
      case atStart => exact ⟨0, by omega, rfl, HH⟩
      case round =>
        clear HH
        obtain ⟨i, hi, rfl, HH⟩ := hrel
        by_cases hli : i < 4
        · have hbi : decide ((i : Int) < 4) = true := by simp; omega
          go_wp2
          clear hbi
          go_loopw [9] (fun t w2 => ∃ r : Nat, r ≤ 4 ∧ t = .int .i64 r ∧ Hid (AD w0 (Aes.subs h) (4 * i + r) w2)) (fun t _ => 4 - (intOf t).toNat)
          case atStart => exact ⟨0, by omega, rfl, HH⟩
          case round =>
            clear HH
            obtain ⟨r, hr, rfl, HH⟩ := hrel
            by_cases hlr : r < 4
            · obtain ⟨m, q0, q1, hI, ⟨g0, g1⟩, e0, e1, e2, e3, e4, e5, l0, l1⟩ := enc_idx i r hli hlr
              have HI := Lib.hid hI
              clear hI
              have a0 := (HE.out.2.1.below HH.out.1 HE.out.2.1.lt).cell1
              have a1 := (HE.out.2.2.1.below HH.out.1 HE.out.2.2.1.lt).cell q1 g1
              have hx0 := HN.out q1
              have a2 := AtB.cell (AtB.below HE.out.2.2.2.2.1 HH.out.1) (h q1) hx0
              rw [Nat.zero_add] at a2
              have hx : ((h q1 : Nat) : Int) < 256 := by omega
              clear hx0
              have c3 : wr.cell? ⟨w0.heap.size, q0, none⟩ = some (.int .u8 0) := by rw [HI.out.1, HH.out.2.cell _ (HI.out.1 ▸ g0), upTo_at]; rfl
              have c4 := HH.out.2.frozen q0
              have HM := Lib.hid (show Aes.sb (h q1) = Aes.subs h q0 by rw [HI.out.2]; rfl)
              clear g0 g1
              go_wp2
              go_still_tail 20, (by kernel_rfl)
              change wpList _ _ _ _ _ wr.drew
              have HD := Lib.hid HH.out.drew
              have c3' : wr.drew.cell? ⟨w0.heap.size, q0, none⟩ = some (.int .u8 0) := c3
              have c4' : wr.drew.frozen? ⟨w0.heap.size, q0, none⟩ = false := c4
              clear HH c3 c4 a0 a1 a2
              generalize wr.drew = w2 at HD c3' c4' ⊢
              go_wp2
              go_roundw
              case rel => exact ⟨r + 1, by omega, by go_num, AD.setAt HD.out 0 HI.out.1 HM.out⟩
              case measure => simp [intOf]; omega
            · obtain rfl : r = 4 := by omega
              go_wp2
              go_roundw
              case rel => exact ⟨i + 1, by omega, by go_num, HH⟩
              case measure => simp [intOf]; omega
        · obtain rfl : i = 4 := by omega
          have HT := Lib.hid (show RE w key g c gb cb w0.heap.size (Aes.subs h) wr from RE.next HE.out HH.out.1 (HH.out.2.congr fun q hq => upTo_full 16 _ _ q hq))
          clear HH HE
          generalize w0.heap.size = t at HT ⊢
          obtain ⟨o, ho, o1, o2, o3, o4⟩ : ∃ o : Nat, o = 16 * (n + 1) ∧ IntKind.i64.wrap (16 * ((n : Int) + 1)) = (o : Int) ∧ IntKind.i64.wrap ((o : Int) + 16) = (o : Int) + 16 ∧ o + 16 ≤ 176 ∧ (o : Int) + 16 ≤ 176 :=
            ⟨16 * (n + 1), rfl, by rw [i64_nat _ (by omega) (by omega)]; omega, i64_nat _ (by omega) (by omega), by omega, by omega⟩
          have HO := Lib.hid ho
          clear ho
          by_cases hl9 : n < 9
          · have hb9 : decide ((n : Int) + 1 < 10) = true := by simp; omega
            go_wp2_with (fail)
            refine (mix_any t 0 16 (Aes.subs h) _ (AtB.own HT.out.2.2.1) (fun _ => Aes.sb_lt _)).mono ?_
            rintro e w3 ⟨rfl, hw, hb⟩
            have hR := RE.next HT.out hb hw
            have a0 := hR.2.1.cell0
            have HR := Lib.hid hR
            clear HT hb hw hR
            generalize wr.heap.size = t' at HR ⊢
            go_wp2_with (fail)
            refine (add_any t' 0 16 g o (c - o) (Aes.mixF (Aes.subs h)) _ _ (AtB.own HR.out.2.2.1) (ks_at HR.out.2.2.2 o o3) (fun _ => Aes.mixB_lt (Aes.sb_lt _) (Aes.sb_lt _) (Aes.sb_lt _) (Aes.sb_lt _)) (fun i => HF.out.1 _)).mono ?_
            rintro e w4 ⟨rfl, hw, hb⟩
            have HZ := Lib.hid (RE.next HR.out hb hw)
            clear HR hb hw a0
            generalize w3.heap.size = t4 at HZ ⊢
            go_wp2
            go_roundw
            case rel =>
              refine ⟨n + 1, t4, by omega, by go_num, rfl, ⟨HZ.out.1, HZ.out.2.1, HZ.out.2.2.1.congr fun q _ => ?_, HZ.out.2.2.2⟩⟩
              show _ = (if n + 1 < 10 then Aes.mixF (Aes.subs (Aes.encGo (Aes.ks key) f n)) q else Aes.subs (Aes.encGo (Aes.ks key) f n) q) ^^^ Aes.ks key (16 * (n + 1) + q)
              rw [if_pos (by omega), hh, HO.out]
            case measure => simp [intOf]; omega
          · obtain rfl : n = 9 := by omega
            have a0 := HT.out.2.1.cell0
            go_wp2_with (fail)
            refine (add_any t 0 16 g 160 (c - 160) (Aes.subs h) _ _ (AtB.own HT.out.2.2.1) (ks_at HT.out.2.2.2 160 (by omega)) (fun _ => Aes.sb_lt _) (fun i => HF.out.1 _)).mono ?_
            rintro e w4 ⟨rfl, hw, hb⟩
            have HZ := Lib.hid (RE.next HT.out hb hw)
            clear HT hb hw a0
            generalize wr.heap.size = t4 at HZ ⊢
            go_wp2
            go_roundw
            case rel =>
              refine ⟨10, t4, by omega, by go_num, rfl, ⟨HZ.out.1, HZ.out.2.1, HZ.out.2.2.1.congr fun q _ => ?_, HZ.out.2.2.2⟩⟩
              show _ = (if 10 < 10 then Aes.mixF (Aes.subs (Aes.encGo (Aes.ks key) f 9)) q else Aes.subs (Aes.encGo (Aes.ks key) f 9) q) ^^^ Aes.ks key (16 * 10 + q)
              rw [if_neg (by omega), hh]
            case measure => simp [intOf]
    · obtain rfl : n = 10 := by omega
      go_wp2
      go_ret
      exact ⟨b, rfl, HE.out.2.2.1, HE.out.1⟩
end Go.Proofs.YtamejhhjfnfalaaDoor.Ae

/- Contracts of the document's own Eight and Whole. -/
namespace Go.Proofs.YtamejhhjfnfalaaDoor.Ae
open Go.RowKit

/-- Behind i rounds of Eight. -/
def EI (w : World) (x i : Nat) (v : Value) (wr : World) : Prop := Below w.heap.size w wr ∧ OR wr w.heap.size v i (Aes.byt x)
def RList (w : World) (n : Nat) (f : Nat → Nat) (e : Ending) (w' : World) : Prop := ∃ g c, e = .returned (sl8 g n c) ∧ OR w' w.heap.size (sl8 g n c) n f ∧ Below w.heap.size w w'
theorem EI.step {w wr : World} {x i z : Nat} {v : Value} (h : EI w x i v wr) (hi : i < 8) (hz : z = Aes.byt x i) :
    ∃ g c w', (Builtin.append_ #[99, 99] 99 #[v, .slice (some ⟨wr.heap.size, 0, none⟩) 1 1]).run Tryd.prog (wr.alloc (.cells #[.int .u8 (z : Int)] 5)) = .ok (sl8 g (i + 1) c) w' ∧ EI w x (i + 1) (sl8 g (i + 1) c) w' := by
  subst hz
  obtain ⟨h0, h3⟩ := h
  obtain ⟨v', w', hr, ho, hb⟩ := append_ownB (wr.alloc (.cells #[.int .u8 (Aes.byt x i : Int)] 5)) w.heap.size v i 1 (Aes.byt x) (fun _ => Aes.byt x i) ⟨wr.heap.size, 0, none⟩ 1 (h3.alloc _) (OR.one wr (Aes.byt x i)) (by omega) (by have := h0.size; simp; omega)
  have hb' : Below w.heap.size w w' := (h0.alloc h0.size _).trans hb
  obtain ⟨g, c, rfl, _, _, _, _⟩ := ho.read (by omega)
  refine ⟨g, c, w', hr, hb', OR.congr ho fun j hj => ?_⟩
  unfold thenB
  split
  · rfl
  · rw [show j = i by omega]
set_option maxHeartbeats 1000000 in
set_option maxRecDepth 100000 in
theorem eight_any (x : Nat) (w : World) (hx : x < 18446744073709551616) :
    Calls Tryd.prog 78 #[.int .u64 (x : Int)] w (RList w 8 (Aes.byt x)) := by
  go_enter Tryd.func78, Tryd.ntmps78
  go_wp2
  go_loopw [0, 3, 4] (fun p s t wr => ∃ i y : Nat, i ≤ 8 ∧ p = .int .u64 y ∧ t = .int .i64 i ∧ Hid (y = x / 256 ^ i) ∧ Hid (EI w x i s wr)) (fun _ _ t _ => 8 - (intOf t).toNat)
  case atStart => exact ⟨0, x, by omega, rfl, rfl, by simp [Hid], ⟨Below.refl _ _, OR.nil _ _ _⟩⟩
  case round =>
    obtain ⟨i, y, hi, rfl, rfl, HY, HE⟩ := hrel
    by_cases hlt : i < 8
    · obtain ⟨z, hz⟩ : ∃ z, z = y % 256 := ⟨_, rfl⟩
      obtain ⟨y2, hy2⟩ : ∃ z, z = y / 256 := ⟨_, rfl⟩
      have e1 : (y : Int) % 256 = (z : Int) := by omega
      have e2 : (y : Int) / 256 = (y2 : Int) := by omega
      have hy : y ≤ x := by rw [HY.out]; exact Nat.div_le_self _ _
      have e4 : IntKind.u64.wrap (y2 : Int) = (y2 : Int) := by rw [u64w]; omega
      have e3 : IntKind.u8.wrap (z : Int) = (z : Int) := by rw [u8w]; omega
      obtain ⟨g, c, w', hr, hE⟩ := HE.out.step hlt (show z = Aes.byt x i by unfold Aes.byt; rw [hz, HY.out])
      have HQ := Lib.hid hr
      have HN := Lib.hid hE
      have HY2 := Lib.hid (show y2 = x / 256 ^ (i + 1) by rw [hy2, HY.out, Nat.div_div_eq_div_mul, Nat.pow_succ])
      clear hr hE HE HY hz hy2 hy
      go_wp2_with (at_builtin; refine wpList_append_run rfl _ _ 99 rfl _ _ _ w' rfl rfl HQ.out ?_)
      go_roundw
      case rel => exact ⟨i + 1, y2, by omega, rfl, by go_num, HY2, HN⟩
      case measure => simp [intOf]; omega
    · obtain rfl : i = 8 := by omega
      obtain ⟨g, c, rfl, _, _, _, _⟩ := HE.out.2.read (by omega)
      go_wp2
      go_ret
      exact ⟨g, c, rfl, HE.out.2, HE.out.1⟩
def hsum (f : Nat → Nat) : Nat → Nat
  | 0 => 0
  | j + 1 => hsum f j * 256 + f (7 - j)
theorem hsum_lt (f : Nat → Nat) (hf : ∀ i, f i < 256) : ∀ j, hsum f j < 256 ^ j
  | 0 => by simp [hsum]
  | j + 1 => by
    have := hsum_lt f hf j
    have := hf (7 - j)
    rw [Nat.pow_succ]; show hsum f j * 256 + f (7 - j) < _
    omega
theorem hsum_full (f : Nat → Nat) : hsum f 8 = Aes.psum f 0 8 := by
  rw [Aes.psum8]
  simp only [hsum, Nat.zero_add, Nat.reduceSub]
  omega
set_option maxHeartbeats 1000000 in
set_option maxRecDepth 100000 in
theorem whole_any (g o c : Nat) (f : Nat → Nat) (w : World) (hA : AtB w ⟨g, o, none⟩ 8 f) (hf : ∀ i, f i < 256) :
    Calls Tryd.prog 79 #[.slice (some ⟨g, o, none⟩) 8 c] w fun e w' => e = .returned (.int .u64 (Aes.psum f 0 8 : Int)) ∧ w = w' := by
  have HA := Lib.hid (And.intro hA hf)
  clear hA hf
  go_enter Tryd.func79, Tryd.ntmps79
  go_wp2
  go_loopw [3, 4] (fun p t wr => ∃ (j h : Nat) (z : Int), j ≤ 8 ∧ p = .int .u64 h ∧ t = .int .i64 z ∧ Hid (h = hsum f j) ∧ Hid (z = 7 - (j : Int)) ∧ Hid (w = wr)) (fun _ t _ => (intOf t + 1).toNat)
  case atStart => exact ⟨0, 0, 7, by omega, rfl, rfl, rfl, rfl, rfl⟩
  case round =>
    obtain ⟨j, h, z, hj, rfl, rfl, HH, HZ, HW⟩ := hrel
    obtain rfl := HW.out
    by_cases hlt : j < 8
    · obtain ⟨k, hk⟩ : ∃ k : Nat, k = 7 - j := ⟨_, rfl⟩
      have hz : z = (k : Int) := by rw [HZ.out]; omega
      subst hz
      have hb := hsum_lt f HA.out.2 j
      have hb2 := hsum_lt f HA.out.2 (j + 1)
      have hp : 256 ^ (j + 1) ≤ 256 ^ 8 := Nat.pow_le_pow_right (by omega) (by omega)
      have hs : hsum f (j + 1) = h * 256 + f k := by rw [HH.out, hk]; rfl
      have c1 := AtB.cell HA.out.1 k (by omega)
      have hf := HA.out.2 k
      obtain ⟨h2, hh2⟩ : ∃ z, z = h * 256 := ⟨_, rfl⟩
      obtain ⟨h3, hh3⟩ : ∃ z, z = h2 + f k := ⟨_, rfl⟩
      have e1 : IntKind.u64.wrap ((h : Int) * 256) = (h2 : Int) := by rw [u64w]; omega
      have e2 : IntKind.u64.wrap ((f k : Int)) = (f k : Int) := by rw [u64w]; omega
      have e3 : IntKind.u64.wrap ((h2 : Int) + (f k : Int)) = (h3 : Int) := by rw [u64w]; omega
      have e4 : (k : Int) < 8 := by omega
      have H3 := Lib.hid (show h3 = hsum f (j + 1) by omega)
      have HK := Lib.hid (show (k : Int) - 1 = 7 - ((j + 1 : Nat) : Int) by omega)
      have e5 : IntKind.i64.wrap ((k : Int) - 1) = (k : Int) - 1 := by simp [IntKind.wrap, IntKind.bits, IntKind.signed]; omega
      clear hb hb2 hp hs hf hh2 hh3 hk
      go_wp2
      go_roundw
      case rel => exact ⟨j + 1, h3, _, by omega, rfl, rfl, H3, HK, Lib.hid trivial⟩
      case measure => simp [intOf]
    · obtain rfl : j = 8 := by omega
      have hz : z = -1 := by rw [HZ.out]; omega
      subst hz
      go_wp2
      go_ret
      exact ⟨ret_int (by rw [HH.out, hsum_full]), rfl⟩
end Go.Proofs.YtamejhhjfnfalaaDoor.Ae

/- What the document's Word and Hash hold; two halves of a block. -/
namespace Go.Proofs.YtamejhhjfnfalaaDoor.Ae
open Go.RowKit

/-- What the document's Word and Hash hold: the cipher in a cell of its own. -/
def CW (w : World) (g c gb cb : Nat) (wr : World) : Prop := Below w.heap.size w wr ∧ CB wr w.heap.size (sl8 g 176 c) (sl8 gb 256 cb)
theorem CW.start (w : World) (g c gb cb : Nat) : CW w g c gb cb (w.alloc (.cells #[sl8 g 176 c, sl8 gb 256 cb] 101)) := ⟨(Below.refl _ _).alloc (Nat.le_refl _) _, CB.new w _ _⟩
theorem CW.next {w w1 w2 : World} {g c gb cb B : Nat} (h : CW w g c gb cb w1) (hb : Below B w1 w2) (hB : w.heap.size < B) : CW w g c gb cb w2 := ⟨h.1.trans (hb.mono (by omega)), h.2.below hb hB⟩
theorem CW.drew {w w1 : World} {g c gb cb : Nat} (h : CW w g c gb cb w1) : CW w g c gb cb w1.drew := ⟨h.1.drew, h.2⟩
theorem CW.lt {w w1 : World} {g c gb cb : Nat} (h : CW w g c gb cb w1) : w.heap.size < w1.heap.size := h.2.lt
theorem zeros8 (w : World) : AtB (w.alloc (.cells #[.int .u8 0, .int .u8 0, .int .u8 0, .int .u8 0, .int .u8 0, .int .u8 0, .int .u8 0, .int .u8 0] 5)) ⟨w.heap.size, 0, none⟩ 8 (fun _ => 0) := AtB.own (OwnB.new w 8 5 fun _ => 0)
/-- Eight bytes and eight more: a block. -/
theorem append_block (w : World) (base gv cv gz cz x y : Nat) (f : Nat → Nat) (hown : OR w base (sl8 gv 8 cv) 8 (Aes.byt x)) (hA : AtB w ⟨gz, 0, none⟩ 8 f) (hf : ∀ i, f i = Aes.byt y i) (hbase : base ≤ w.heap.size) :
    ∃ g c w', (Builtin.append_ #[99, 99] 99 #[sl8 gv 8 cv, sl8 gz 8 cz]).run Tryd.prog w = .ok (sl8 g 16 c) w' ∧ AtB w' ⟨g, 0, none⟩ 16 (Aes.labB x y) ∧ Below base w w' := by
  obtain ⟨v', w', hr, ho, hb⟩ := append_ownB w base _ 8 8 (Aes.byt x) f ⟨gz, 0, none⟩ cz hown hA (by omega) hbase
  obtain ⟨g, c, rfl, _, _, _, ha⟩ := ho.read (by omega)
  refine ⟨g, c, w', hr, AtB.congr ha fun i _ => ?_, hb⟩
  unfold thenB Aes.labB
  split
  · rfl
  · exact hf _
theorem byt_zero (i : Nat) : 0 = Aes.byt 0 i := by unfold Aes.byt; simp
theorem psum_shift (F : Nat → Nat) : Aes.psum (fun i => F (8 + i)) 0 8 = Aes.psum F 8 8 := by rw [Aes.psum8, Aes.psum8]
theorem mk16_lo (gr : Nat) {w : World} {f : Nat → Nat} (h : OwnB w gr 16 5 f) : AtB w ⟨gr, 0, none⟩ 8 f := fun i hi => AtB.own h i (by omega)
theorem mk16_hi (gr : Nat) {w : World} {f : Nat → Nat} (h : OwnB w gr 16 5 f) : AtB w ⟨gr, 8, none⟩ 8 (fun i => f (8 + i)) := by
  have := AtB.sub (AtB.own h) 8 8 (by omega)
  rwa [Nat.zero_add] at this
end Go.Proofs.YtamejhhjfnfalaaDoor.Ae

/- Contracts of the document's own Hash and Fixed. -/
namespace Go.Proofs.YtamejhhjfnfalaaDoor.Ae
open Go.RowKit

/-- What the document's Hash holds: the cipher, the result's cell, the doubled label. -/
def HS (w : World) (g c gb cb gs x y : Nat) (wr : World) : Prop := CW w g c gb cb wr ∧ (∃ p q, Lbl wr (w.heap.size + 2) p q) ∧ Lbl wr gs x y ∧ w.heap.size + 2 < gs
theorem HS.next {w w1 w2 : World} {g c gb cb gs x y : Nat} (h : HS w g c gb cb gs x y w1) {B : Nat} (hb : Below B w1 w2) (hB : gs < B) : HS w g c gb cb gs x y w2 := by
  obtain ⟨h0, ⟨p, q, h1⟩, h2, h3⟩ := h
  exact ⟨h0.next hb (by omega), ⟨p, q, (hb.block _ (by omega)).trans h1⟩, (hb.block _ hB).trans h2, h3⟩
theorem HS.lt {w w1 : World} {g c gb cb gs x y : Nat} (h : HS w g c gb cb gs x y w1) : gs < w1.heap.size := h.2.2.1.lt
theorem HS.drew {w w1 : World} {g c gb cb gs x y : Nat} (h : HS w g c gb cb gs x y w1) : HS w g c gb cb gs x y w1.drew := ⟨h.1.drew, h.2⟩
theorem HS.ends {w w1 : World} {g c gb cb gs x y : Nat} (h : HS w g c gb cb gs x y w1) (u v : Int) : HS w g c gb cb gs x y ((w1.setCell ⟨w.heap.size + 2, 0, none⟩ (.int .u64 u)).setCell ⟨w.heap.size + 2, 1, none⟩ (.int .u64 v)) ∧ Lbl ((w1.setCell ⟨w.heap.size + 2, 0, none⟩ (.int .u64 u)).setCell ⟨w.heap.size + 2, 1, none⟩ (.int .u64 v)) (w.heap.size + 2) u v := by
  obtain ⟨h0, ⟨p, q, h1⟩, h2, h3⟩ := h
  have hl := (h1.set0 u).set1 v
  exact ⟨⟨⟨(h0.1.setCell (by simp) _).setCell (by simp) _, (h0.2.far (by simp) _).far (by simp) _⟩, ⟨u, v, hl⟩, (h2.far (by simp; omega) _).far (by simp; omega) _, h3⟩, hl⟩
theorem OR.next {w w' : World} {base g n c : Nat} {f : Nat → Nat} (h : OR w base (sl8 g n c) n f) (hb : Below w.heap.size w w') : OR w' base (sl8 g n c) n f :=
  OR.keep (d := w.heap.size) h ⟨hb.os, hb.tape, hb.output, hb.size, fun k hk _ => hb.block k hk⟩ (by have := (OR.lt h).2.1; omega)
theorem rdoubleN_any (a b x y : Nat) (w : World) (h0 : a < 18446744073709551616) (h1 : b < 18446744073709551616) (hx : dloN a b = x) (hy : dhiN a b = y) :
    Calls Tryd.prog 76 #[labN a b] w fun e w' => e = .returned (labN x y) ∧ Below w.heap.size w w' :=
  (rdouble_any a b w (by omega) (by omega) (by omega) (by omega)).mono fun _ _ ⟨h, hb⟩ => ⟨by rw [h, dlo_nat, dhi_nat, hx, hy], hb⟩
theorem wholeN (g o c : Nat) (f : Nat → Nat) (P : Nat) (w : World) (hA : AtB w ⟨g, o, none⟩ 8 f) (hf : ∀ i, f i < 256) (hP : Aes.psum f 0 8 = P) :
    Calls Tryd.prog 79 #[.slice (some ⟨g, o, none⟩) 8 c] w fun e w' => e = .returned (.int .u64 (P : Int)) ∧ w = w' := by
  subst hP
  exact whole_any g o c f w hA hf
set_option maxHeartbeats 1000000 in
set_option maxRecDepth 100000 in
theorem rhash_any (key : Nat → Nat) (g c gb cb a b t : Nat) (w : World) (hC : RCi w key g c gb cb) (hk : ∀ i, key i < 256) (ha : a < 18446744073709551616) (hb : b < 18446744073709551616) (ht : t < 18446744073709551616) :
    Calls Tryd.prog 47 #[rci g c gb cb, labN a b, .int .u64 (t : Int)] w fun e w' => e = .returned (labN (hashA (Aes.ks key) a b t) (hashB (Aes.ks key) a b t)) ∧ Below w.heap.size w w' := by
  have HC := Lib.hid hC
  have HK := Lib.hid hk
  have HB := Lib.hid (And.intro ha (And.intro hb ht))
  obtain ⟨d0, hd0⟩ : ∃ x, dloN a b = x := ⟨_, rfl⟩
  obtain ⟨s1, hs1e⟩ : ∃ x, hs1 a b = x := ⟨_, rfl⟩
  obtain ⟨s0, hs0e⟩ : ∃ x, hs0 a b t = x := ⟨_, rfl⟩
  obtain ⟨P0, hP0⟩ : ∃ x, Aes.psum (Aes.enc (Aes.ks key) (Aes.labB s0 s1)) 0 8 = x := ⟨_, rfl⟩
  obtain ⟨P1, hP1⟩ : ∃ x, Aes.psum (Aes.enc (Aes.ks key) (Aes.labB s0 s1)) 8 8 = x := ⟨_, rfl⟩
  obtain ⟨A, hA⟩ : ∃ x, hashA (Aes.ks key) a b t = x := ⟨_, rfl⟩
  obtain ⟨B, hB⟩ : ∃ x, hashB (Aes.ks key) a b t = x := ⟨_, rfl⟩
  have ls0 : s0 < 18446744073709551616 := hs0e ▸ hs0_lt ht
  have ls1 : s1 < 18446744073709551616 := hs1e ▸ hs1_lt ha
  have hE := enc_lt (Aes.ks_lt key hk) (Aes.labB_lt s0 s1)
  have x1 : bits .xor .u64 (d0 : Int) (t : Int) = (s0 : Int) := by
    have := bits_xor (dloN a b) t (dloN_lt a b) ht
    rw [← hd0, this, ← hs0e]; rfl
  have x2 : bits .xor .u64 (s0 : Int) (P0 : Int) = (A : Int) := by
    rw [bits_xor s0 P0 ls0 (hP0 ▸ psum8_lt _ _ hE), ← hA]; unfold hashA; rw [hs0e, hs1e, hP0, Nat.xor_comm]
  have x3 : bits .xor .u64 (s1 : Int) (P1 : Int) = (B : Int) := by
    rw [bits_xor s1 P1 ls1 (hP1 ▸ psum8_lt _ _ hE), ← hB]; unfold hashB; rw [hs0e, hs1e, hP1, Nat.xor_comm]
  rw [hA, hB]
  have HP := Lib.hid (And.intro hP0 hP1)
  have HEl := Lib.hid hE
  have HD := Lib.hid (And.intro hd0 hs1e)
  have HL := Lib.hid (And.intro ls0 ls1)
  clear hC hk ha hb ht hd0 hs1e hs0e hP0 hP1 hA hB ls0 ls1 hE
  go_enter Tryd.func47, Tryd.ntmps47
  go_wp2_with fail
  refine (rdoubleN_any a b d0 s1 _ HB.out.1 HB.out.2.1 HD.out.1 HD.out.2).mono ?_
  rintro e w1 ⟨rfl, hb1⟩
  have H1 := Lib.hid (show CW w g c gb cb w1 ∧ Lbl w1 (w.heap.size + 2) 0 0 by
    have q0 := CW.start w g c gb cb
    have q1 := (q0.next ((Below.refl _ _).alloc (Nat.le_refl _) (.cells #[.int .u64 (a : Int), .int .u64 (b : Int)] 28)) (by simp))
    have q2 := (q1.next ((Below.refl _ _).alloc (Nat.le_refl _) (.cells #[.int .u64 0, .int .u64 0] 28)) (by simp; omega))
    have q3 := Lbl.new ((w.alloc (.cells #[sl8 g 176 c, sl8 gb 256 cb] 101)).alloc (.cells #[.int .u64 (a : Int), .int .u64 (b : Int)] 28)) 0 0
    simp only [World.size_alloc] at q3
    exact ⟨q2.next hb1 q2.lt, (hb1.block _ q3.lt).trans q3⟩)
  have hlt : w.heap.size + 2 < w1.heap.size := H1.out.2.lt
  have hL := Lbl.new w1 (d0 : Int) (s1 : Int)
  have c0 := hL.cell0
  have c1 := hL.frozen 0
  clear hb1
  go_wp2
  have H3 := Lib.hid (show HS w g c gb cb w1.heap.size s0 s1 (w1.alloc (.cells #[.int .u64 (s0 : Int), .int .u64 (s1 : Int)] 28)) by
    obtain ⟨⟨q0, q1⟩, q2⟩ := H1.out
    exact ⟨⟨q0.alloc q0.size _, q1.alloc _⟩, ⟨0, 0, q2.alloc _⟩, Lbl.new w1 _ _, hlt⟩)
  clear H1 c0 c1 hL x1
  generalize (w1.alloc (.cells #[.int .u64 (s0 : Int), .int .u64 (s1 : Int)] 28)) = w2 at H3 ⊢
  generalize w1.heap.size = gs at H3 hlt ⊢
  refine wp_region_held_drew (S := HS w g c gb cb gs s0 s1) (by kernel_rfl) H3.out.drew (fun hHeld => ?_)
  clear H3
  refine wpAnyH_take (i := 0) (v := rci g c gb cb) rfl (by kernel_rfl) (by kernel_rfl) (by kernel_rfl) (fun _ _ _ h => h) (.inl ⟨rfl, fun w' hw' => by have a0 := hw'.1.2.cell0; have a1 := hw'.1.2.cell1; go_simp⟩) hHeld ?_
  refine wpAnyH_take (i := 1) (v := .pointer (some ⟨gs, 0, none⟩)) rfl (by kernel_rfl) (by kernel_rfl) (by kernel_rfl) (fun _ _ _ h => h) (.inl ⟨rfl, fun w' hw' => by go_simp⟩) hHeld ?_
  refine wpAnyH_take (i := 2) (v := .int .u64 (s0 : Int)) rfl (by kernel_rfl) (by kernel_rfl) (by kernel_rfl) (fun _ _ _ h => h) (.inl ⟨rfl, fun w' hw' => by have a0 := hw'.2.2.1.cell0; go_simp⟩) hHeld ?_
  refine wpAnyH_take (i := 4) (v := .pointer (some ⟨gs, 1, none⟩)) rfl (by kernel_rfl) (by kernel_rfl) (by kernel_rfl) (fun _ _ _ h => h) (.inl ⟨rfl, fun w' hw' => by go_simp⟩) hHeld ?_
  refine wpAnyH_take (i := 5) (v := .int .u64 (s1 : Int)) rfl (by kernel_rfl) (by kernel_rfl) (by kernel_rfl) (fun _ _ _ h => h) (.inl ⟨rfl, fun w' hw' => by have a0 := hw'.2.2.1.cell1; go_simp⟩) hHeld ?_
  refine wpAnyH_ready (rs := [3]) (by kernel_rfl) (by simp) ?_
  refine AllReadyH.cons rfl (fun K hK => ?_) AllReadyH.nil
  rw [if_pos (by rfl)]
  go_simp
  refine (eight_any s0 _ HL.out.1).mono ?_
  rintro e w3 ⟨gv, cv, rfl, hO, hb⟩
  have hl := hHeld.lt
  have hS := hHeld.next hb hHeld.lt
  refine hK.out _ _ hS (fun hHeld2 => ?_)
  have hsz := hb.size
  clear hK K hS hb hHeld
  refine wpAnyH_ready (rs := [6]) (by kernel_rfl) (by simp) ?_
  refine AllReadyH.cons rfl (fun K hK => ?_) AllReadyH.nil
  rw [if_pos (by rfl)]
  go_simp
  refine (eight_any s1 _ HL.out.2).mono ?_
  rintro e w4 ⟨gz, cz, rfl, hO2, hb⟩
  have hS := hHeld2.next hb hHeld2.lt
  have hO := hO.next hb
  refine hK.out _ _ hS (fun hHeld3 => ?_)
  have hsz2 := hb.size
  clear hK K hS hb hHeld2
  obtain ⟨gw, cw, w5, hr, ha5, hb5⟩ := append_block _ _ _ _ _ cz s0 s1 _ hO (OR.lt hO2).2.2.2.2 (fun _ => rfl) (by omega)
  have hS5 := hHeld3.next hb5 hl
  refine wpAnyH_ready (rs := [7]) (by kernel_rfl) (by simp) ?_
  refine AllReadyH.cons rfl (fun K hK => ?_) AllReadyH.nil
  refine step_append_eq rfl _ _ 99 rfl _ _ _ w5 rfl rfl hr ?_
  refine hK.out _ _ hS5 (fun hHeld4 => ?_)
  clear hK K hr hO hO2 hS5 hb5 hl hsz hsz2 hHeld3
  refine wpAnyH_ready (rs := [8]) (by kernel_rfl) (by simp) ?_
  refine AllReadyH.cons rfl (fun K hK => ?_) AllReadyH.nil
  rw [if_pos (by rfl)]
  go_simp
  refine (renc_any key _ g c gb cb _ 0 cw _ (HC.out.below hHeld4.1.1) ha5 HK.out (Aes.labB_lt s0 s1)).mono ?_
  rintro e w6 ⟨gr, rfl, hO, hb6⟩
  have hS6 := hHeld4.next hb6 hHeld4.lt
  refine hK.out _ _ hS6 (fun hHeld5 => ?_)
  clear hK K hHeld4 hb6 hS6 ha5
  refine wpAnyH_take (i := 9) (v := mk16 gr) rfl (by kernel_rfl) (by kernel_rfl) (by kernel_rfl) (fun _ _ _ h => h) (.inl ⟨rfl, fun w' hw' => by rfl⟩) hHeld5 ?_
  refine wpAnyH_done (by kernel_rfl) ?_ _
  have HW := Lib.hid (And.intro hHeld5 hO)
  clear hHeld5 hO
  simp only [List.getElem_toArray, List.getElem_cons_succ, List.getElem_cons_zero, Act.put, List.setIfInBounds_toArray, List.set_cons_zero, List.set_cons_succ]
  go_wp2
  refine wp_region_held_drew (S := HS w g c gb cb gs s0 s1) (by kernel_rfl) HW.out.1.drew (fun hHeld => ?_)
  refine wpAnyH_take (i := 0) (v := .pointer (some ⟨gs, 0, none⟩)) rfl (by kernel_rfl) (by kernel_rfl) (by kernel_rfl) (fun _ _ _ h => h) (.inl ⟨rfl, fun w' hw' => by go_simp⟩) hHeld ?_
  refine wpAnyH_take (i := 1) (v := .int .u64 (s0 : Int)) rfl (by kernel_rfl) (by kernel_rfl) (by kernel_rfl) (fun _ _ _ h => h) (.inl ⟨rfl, fun w' hw' => by have a0 := hw'.2.2.1.cell0; go_simp⟩) hHeld ?_
  refine wpAnyH_take (i := 2) (v := mk16 gr) rfl (by kernel_rfl) (by kernel_rfl) (by kernel_rfl) (fun _ _ _ h => h) (.inl ⟨rfl, fun w' hw' => by rfl⟩) hHeld ?_
  refine wpAnyH_take (i := 3) (v := .slice (some ⟨gr, 0, none⟩) 8 16) rfl (by kernel_rfl) (by kernel_rfl) (by kernel_rfl) (fun _ _ _ h => h) (.inl ⟨rfl, fun w' hw' => by go_simp⟩) hHeld ?_
  refine wpAnyH_take (i := 6) (v := .pointer (some ⟨gs, 1, none⟩)) rfl (by kernel_rfl) (by kernel_rfl) (by kernel_rfl) (fun _ _ _ h => h) (.inl ⟨rfl, fun w' hw' => by go_simp⟩) hHeld ?_
  refine wpAnyH_take (i := 7) (v := .int .u64 (s1 : Int)) rfl (by kernel_rfl) (by kernel_rfl) (by kernel_rfl) (fun _ _ _ h => h) (.inl ⟨rfl, fun w' hw' => by have a0 := hw'.2.2.1.cell1; go_simp⟩) hHeld ?_
  refine wpAnyH_take (i := 8) (v := mk16 gr) rfl (by kernel_rfl) (by kernel_rfl) (by kernel_rfl) (fun _ _ _ h => h) (.inl ⟨rfl, fun w' hw' => by rfl⟩) hHeld ?_
  refine wpAnyH_take (i := 9) (v := .slice (some ⟨gr, 8, none⟩) 8 8) rfl (by kernel_rfl) (by kernel_rfl) (by kernel_rfl) (fun _ _ _ h => h) (.inl ⟨rfl, fun w' hw' => by go_simp⟩) hHeld ?_
  refine wpAnyH_ready (rs := [4]) (by kernel_rfl) (by simp) ?_
  refine AllReadyH.cons rfl (fun K hK => ?_) AllReadyH.nil
  rw [if_pos (by rfl)]
  go_simp
  refine (wholeN gr 0 16 _ P0 _ (mk16_lo gr (OwnB.drew HW.out.2)) HEl.out HP.out.1).mono ?_
  rintro e w7 ⟨rfl, rfl⟩
  refine hK.out _ _ hHeld (fun _ => ?_)
  clear hK K
  refine wpAnyH_take (i := 5) (v := .int .u64 (A : Int)) rfl (by kernel_rfl) (by kernel_rfl) (by kernel_rfl) (fun _ _ _ h => h) (.inl ⟨rfl, fun w' hw' => by go_simp⟩) hHeld ?_
  refine wpAnyH_ready (rs := [10]) (by kernel_rfl) (by simp) ?_
  refine AllReadyH.cons rfl (fun K hK => ?_) AllReadyH.nil
  rw [if_pos (by rfl)]
  go_simp
  refine (wholeN gr 8 8 _ P1 _ (mk16_hi gr (OwnB.drew HW.out.2)) (fun i => HEl.out _) ((psum_shift _).trans HP.out.2)).mono ?_
  rintro e w7 ⟨rfl, rfl⟩
  refine hK.out _ _ hHeld (fun _ => ?_)
  clear hK K
  refine wpAnyH_take (i := 11) (v := .int .u64 (B : Int)) rfl (by kernel_rfl) (by kernel_rfl) (by kernel_rfl) (fun _ _ _ h => h) (.inl ⟨rfl, fun w' hw' => by go_simp⟩) hHeld ?_
  refine wpAnyH_take (i := 12) (v := labN A B) rfl (by kernel_rfl) (by kernel_rfl) (by kernel_rfl) (fun _ _ _ h => h) (.inl ⟨rfl, fun w' hw' => by go_simp⟩) hHeld ?_
  obtain ⟨p, q, hl⟩ := hHeld.2.1
  have c0 : w6.drew.cell? ⟨w.heap.size + 1 + 1, 0, none⟩ = some (.int .u64 p) := hl.cell0
  have c1 : w6.drew.cell? ⟨w.heap.size + 1 + 1, 1, none⟩ = some (.int .u64 q) := hl.cell1
  have f0 : w6.drew.frozen? ⟨w.heap.size + 1 + 1, 0, none⟩ = false := hl.frozen 0
  have f1 : w6.drew.frozen? ⟨w.heap.size + 1 + 1, 1, none⟩ = false := hl.frozen 1
  clear hl
  generalize w6.drew = w7 at hHeld c0 c1 f0 f1 ⊢
  refine wpAnyH_ready (rs := [13]) (by kernel_rfl) (by simp) ?_
  refine AllReadyH.cons rfl (fun K hK => ?_) AllReadyH.nil
  rw [if_pos (by rfl)]
  go_simp
  refine hK.out _ _ (HS.ends hHeld _ _).1 (fun _ => ?_)
  clear hK K c0 c1 f0 f1
  refine wpAnyH_done (by kernel_rfl) ?_ _
  have HF := Lib.hid (HS.ends hHeld A B)
  clear hHeld HW
  go_wp2
  exact bodyPost_ret (v := labN A B) (res_lab rfl _ _ _ rfl HF.out.2) rfl ⟨rfl, HF.out.1.1.1⟩
theorem AtB.far {w : World} {ad : Addr} {n : Nat} {f : Nat → Nat} (h : AtB w ad n f) {p : Addr} (hp : p.block ≠ ad.block) (u : Value) : AtB (w.setCell p u) ad n f := fun j hj => by
  have hb : (ad.add j).block = ad.block := by unfold Addr.add; split <;> rfl
  rw [World.cell?_setCell_other _ _ _ _ (fun e => hp (by rw [← hb, ← e]))]
  exact h j hj
theorem RCi.far {w : World} {key : Nat → Nat} {g c gb cb g0 : Nat} (h : RCi w key g c gb cb) {y : Value} (hc : CB w g0 nil8 y) (u v : Value) : RCi ((w.setCell ⟨g0, 0, none⟩ u).setCell ⟨g0, 1, none⟩ v) key g c gb cb := by
  have n1 : g0 ≠ g := by
    rintro rfl
    have := h.1 0 (by omega)
    rw [Addr.add_mid, Nat.zero_add, hc.cell0] at this
    cases this
  have n2 : g0 ≠ gb := by
    rintro rfl
    have := h.2.1 0 (by omega)
    rw [Addr.add_mid, Nat.zero_add, hc.cell0] at this
    cases this
  exact ⟨(h.1.far n1 _).far n1 _, (h.2.1.far n2 _).far n2 _, h.2.2⟩
theorem kf_list : bys 16 kf = #[.int .u8 0, .int .u8 1, .int .u8 2, .int .u8 3, .int .u8 4, .int .u8 5, .int .u8 6, .int .u8 7, .int .u8 8, .int .u8 9, .int .u8 10, .int .u8 11, .int .u8 12, .int .u8 13, .int .u8 14, .int .u8 15] := by rfl
theorem kf_any : ∃ k : Nat → Nat, k = kf ∧ (∀ i, k i < 256) ∧ bys 16 k = #[.int .u8 0, .int .u8 1, .int .u8 2, .int .u8 3, .int .u8 4, .int .u8 5, .int .u8 6, .int .u8 7, .int .u8 8, .int .u8 9, .int .u8 10, .int .u8 11, .int .u8 12, .int .u8 13, .int .u8 14, .int .u8 15] := ⟨kf, rfl, kf_lt, kf_list⟩
set_option maxHeartbeats 1000000 in
set_option maxRecDepth 100000 in
theorem rfixed_any (w : World) : Calls Tryd.prog 46 #[] w (RNewE w kf) := by
  obtain ⟨k, hkf, hk, hl⟩ := kf_any
  rw [← hkf]
  have h0 : Below w.heap.size w ((w.alloc (.cells #[nil8, nil8] 101)).alloc (.cells (bys 16 k) 5)) := ((Below.refl _ _).alloc (Nat.le_refl _) _).alloc (by simp) _
  have h1 := AtB.own (OwnB.new (w.alloc (.cells #[nil8, nil8] 101)) 16 5 k)
  have h2 := (CB.new w nil8 nil8).alloc (.cells (bys 16 k) 5)
  rw [hl] at h0 h1 h2
  simp only [World.size_alloc] at h1
  have H := Lib.hid (And.intro h0 (And.intro h1 h2))
  have HK := Lib.hid hk
  clear h0 h1 h2 hkf hk hl
  go_enter Tryd.func46, Tryd.ntmps46
  go_wp2_with fail
  refine (rnew_any k _ 16 _ HK.out H.out.2.1 ⟨Nat.le_refl _, by decide⟩).mono ?_
  rintro e w3 ⟨g, c, gb, cb, rfl, hC, hb⟩
  have hb' : Below w.heap.size w w3 := H.out.1.trans (hb.mono (by simp; omega))
  have hcb : CB w3 w.heap.size nil8 nil8 := H.out.2.2.below hb (by simp; omega)
  have c0 := hcb.cell0
  have c1 := hcb.cell1
  have f0 := hcb.frozen 0
  have f1 := hcb.frozen 1
  have H3 := Lib.hid (And.intro hC (And.intro hb' hcb))
  clear hC hb hb' hcb H
  go_wp2
  exact bodyPost_ret (v := rci g c gb cb) (results_cell_row rfl _ _ w.heap.size _ _ _ _ rfl ((H3.out.2.2.set0 _).set1 _) Tryd.underlying101 rfl infoRC) rfl ⟨g, c, gb, cb, rfl, H3.out.1.far H3.out.2.2 _ _, (H3.out.2.1.setCell (by simp) _).setCell (by simp) _⟩
end Go.Proofs.YtamejhhjfnfalaaDoor.Ae
