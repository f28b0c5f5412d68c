/- Contract of TakeNumber. -/
import Derived.Test.YtoeohodajoibjaaDoorWN2
namespace Go.Proofs.YtoeohodajoibjaaDoor
open Go.RowKit

abbrev pr (p : Nat × Nat) : Value := .tuple #[.int .i64 (p.1 : Int), .int .i64 (p.2 : Int)]
theorem shl_int (x i : Nat) : (x : Int) * 2 ^ (7 * i) = ((x * 128 ^ i : Nat) : Int) := by
  rw [show (128 : Nat) ^ i = 2 ^ (7 * i) by rw [Nat.pow_mul], Int.natCast_mul, Int.natCast_pow]
  rfl
theorem run_shl7 (x i y : Nat) (hi : i < 5) (hy : y = x * 128 ^ i) (hb : y < 9223372036854775808) (w : World) : (Op.shift .shl .i64 (x : Int) .i64 (7 * (i : Int))).run Tryd.prog w = .ok (.int .i64 (y : Int)) w := by
  unfold Op.shift
  rw [if_neg (by omega)]
  have e : min (7 * (i : Int)).toNat IntKind.i64.bits = 7 * i := by
    rw [show IntKind.i64.bits = 64 from rfl]; omega
  simp only [e, shl_int, ← hy]
  rw [i64_nat _ (by omega) (by omega)]
  rfl
set_option maxHeartbeats 2000000 in
set_option maxRecDepth 100000 in
theorem take_any (A : Option Addr) (L c : Nat) (f : Nat → Nat) (w : World) (hA : AtBO w A L f) (hL : L ≤ maxLen) (hf : ∀ i, f i < 256) :
    Calls Tryd.prog 14 #[.slice A L c] w fun e w' => e = .returned (pr (Wire.tak f L)) ∧ w = w' := by
  have hm : (L : Int) < 9223372036854775808 := by unfold maxLen at hL; omega
  have HA := Lib.hid (And.intro hA hf)
  clear hA hf hL
  obtain ⟨m, hmin⟩ : ∃ m, m = min L 5 := ⟨_, rfl⟩
  have em : (if (5 : Int) < (L : Int) then 5 else (L : Int)) = (m : Int) := by split <;> omega
  have em' : (if 5 < L then (5 : Int) else (L : Int)) = (m : Int) := by split <;> omega
  have HM := Lib.hid hmin
  have HM5 := Lib.hid (show m ≤ 5 ∧ m ≤ L by omega)
  clear hmin
  go_enter Tryd.func14, Tryd.ntmps14
  go_wp2
  clear em em'
  go_loopw [4, 9] (fun a p wr => ∃ i V : Nat, i ≤ m ∧ a = .int .i64 (V : Int) ∧ p = .int .i64 i ∧ Hid (V = Wire.val f i) ∧ Hid (∀ j, j < i → 128 ≤ f j) ∧ Hid (w = wr)) (fun _ p _ => m - (intOf p).toNat)
  case atStart => exact ⟨0, 0, by omega, rfl, rfl, rfl, fun j hj => by omega, rfl⟩
  case round =>
    obtain ⟨i, V, hi, rfl, rfl, HV, HJ, HW⟩ := hrel
    obtain rfl := HW.out
    by_cases hlt : i < m
    · have hlt2 : (i : Int) < (m : Int) := by omega
      have h5 := HM5.out
      have hiL : (i : Int) < (L : Int) := by omega
      obtain ⟨ad, rfl, hc⟩ := HA.out.1 i (by omega)
      have hfi := HA.out.2 i
      have e1 : IntKind.i64.wrap (7 * (i : Int)) = 7 * (i : Int) := i64_nat _ (by omega) (by omega)
      obtain ⟨x, hx⟩ : ∃ x, x = f i % 128 := ⟨_, rfl⟩
      obtain ⟨y, hy⟩ : ∃ y, y = x * 128 ^ i := ⟨_, rfl⟩
      obtain ⟨V2, hV2⟩ : ∃ z, z = V + y := ⟨_, rfl⟩
      have hval : V2 = Wire.val f (i + 1) := by rw [hV2, HV.out, hy, hx]; rfl
      have hlt35 : V2 < 34359738368 := by
        rw [hval]
        exact Nat.lt_of_lt_of_le (Wire.val_lt f (i + 1)) (show 128 ^ (i + 1) ≤ 128 ^ 5 from Nat.pow_le_pow_right (by omega) (by omega))
      have e2 : (f i : Int) % 128 = (x : Int) := by omega
      have e3 : IntKind.i64.wrap (x : Int) = (x : Int) := i64_nat _ (by omega) (by omega)
      have e4 := run_shl7 x i y (by omega) hy (by omega)
      have e6 : IntKind.i64.wrap ((V : Int) + (y : Int)) = (V2 : Int) := by rw [i64_nat _ (by omega) (by omega)]; omega
      have e7 : IntKind.i64.wrap ((i : Int) + 1) = (i : Int) + 1 := i64_nat _ (by omega) (by omega)
      have HX := Lib.hid hval
      have HI := Lib.hid (show i < min L 5 by omega)
      have HH := Lib.hid (And.intro hi (And.intro hlt hm))
      clear hx hy hV2 hval h5 hi hlt hm
      by_cases hb : f i < 128
      · have hb1 : ¬ (128 : Int) ≤ (f i : Int) := by omega
        by_cases hbig : 4294967295 < V2
        · have hbig1 : (4294967295 : Int) < (V2 : Int) := by omega
          go_wp2
          go_ret2
          exact ⟨by rw [Wire.tak_bad f L i HI.out HJ.out hb (.inl (by rw [← HX.out]; exact hbig))]; rfl, rfl⟩
        · have hbig1 : decide ((4294967295 : Int) < (V2 : Int)) = false := decide_eq_false (by omega)
          have HBig := Lib.hid hbig
          clear hbig hlt35
          by_cases hi0 : i = 0
          · have hi1 : decide ((0 : Int) < (i : Int)) = false := decide_eq_false (by omega)
            have hi2 : decide (0 < i) = false := decide_eq_false (by omega)
            have HI0 := Lib.hid hi0
            clear hi0
            go_wp2
            go_ret2
            exact ⟨by rw [Wire.tak_some f L i HI.out HJ.out hb (by have := HBig.out; rw [← HX.out]; omega) (.inl HI0.out), ← HX.out]; rfl, rfl⟩
          · have hi1 : (0 : Int) < (i : Int) := by omega
            by_cases hf0 : f i = 0
            · have hf1 : ((f i : Int) == 0) = true := by rw [hf0]; rfl
              have HF0 := Lib.hid hf0
              clear hf0
              go_wp2
              go_ret2
              exact ⟨by rw [Wire.tak_bad f L i HI.out HJ.out hb (.inr ⟨by omega, HF0.out⟩)]; rfl, rfl⟩
            · have hf1 : ((f i : Int) == 0) = false := beq_false_of_ne (by omega)
              go_wp2
              go_ret2
              exact ⟨by rw [Wire.tak_some f L i HI.out HJ.out hb (by have := HBig.out; rw [← HX.out]; omega) (.inr hf0), ← HX.out]; rfl, rfl⟩
      · have hb1 : (128 : Int) ≤ (f i : Int) := by omega
        have HJ2 := Lib.hid (show ∀ j, j < i + 1 → 128 ≤ f j from fun j hj => by
          by_cases e : j = i
          · subst e; omega
          · exact HJ.out j (by omega))
        go_wp2
        go_roundw
        case rel => exact ⟨i + 1, V2, by have := HH.out; omega, rfl, by have := HH.out; have := HI.out; go_num, HX, HJ2, Lib.hid trivial⟩
        case measure => have := HH.out; simp [intOf]; omega
    · obtain rfl : i = m := by omega
      go_wp2
      go_ret2
      exact ⟨by rw [Wire.tak_none f L (fun j hj => HJ.out j (by rw [HM.out]; exact hj))]; rfl, rfl⟩
end Go.Proofs.YtoeohodajoibjaaDoor
