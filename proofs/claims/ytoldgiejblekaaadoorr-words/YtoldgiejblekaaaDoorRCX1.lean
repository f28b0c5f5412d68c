/- CircWords' walk. -/
import Derived.Test.YtoldgiejblekaaaDoorRCX0
namespace Go.Proofs.YtoldgiejblekaaaDoorR
open Go.RowKit

/-- A list's flags, those that lack false. -/
def padded (L : Nat) (f : Nat → Bool) (q : Nat) : Bool := if q < L then f q else false
theorem word_padded (L : Nat) (f : Nat → Bool) : wordN (padded L f) 64 = wordN f (min L 64) := by
  rcases Nat.lt_or_ge L 64 with h | h
  · obtain ⟨d, hd⟩ : ∃ d, 64 = L + d := ⟨64 - L, by omega⟩
    rw [show min L 64 = L by omega, hd, wordN_more (padded L f) L d fun i hi => by unfold padded; rw [if_neg (by omega)]]
    exact wordN_congr L fun i hi => by unfold padded; rw [if_pos hi]
  · rw [show min L 64 = 64 by omega]
    exact wordN_congr 64 fun i hi => by unfold padded; rw [if_pos (by omega)]
set_option maxHeartbeats 8000000 in
set_option maxRecDepth 100000 in
theorem words_walk (x : Int) (A : Option Addr) (L c : Nat) (f : Nat → Bool) (w : World) (hh : Handle w) (hA : AtV w A L (bv f)) (hz : A = none → L = 0 ∧ c = 0) (h0 : 0 ≤ x) (h1 : x < 18446744073709551616) (hL : L ≤ 140737488355328) :
    Calls Tryd.prog 4 #[.int .u64 x, .slice A L c] w fun e w' => e = .returned (.bool true) ∧ Below w.heap.size w w' := by
  have H0 := Lib.hid (And.intro hA (And.intro hz hL))
  have HW := Lib.hid (awake_any w hh)
  have HX := Lib.hid (And.intro h0 h1)
  clear hh hA hz hL
  go_enter Tryd.func4, Tryd.ntmps4
  go_wp2_with fail
  refine HW.out.mono ?_
  rintro e w1 ⟨rfl, hb1⟩
  have HBt := Lib.hid (bits_any x w1 h0 h1)
  have H1 := Lib.hid hb1
  clear hb1 HW h0 h1
  go_wp2_with fail
  refine HBt.out.mono ?_
  rintro e w2 ⟨rfl, hR2, hb2⟩
  obtain ⟨g, hg⟩ : ∃ x, w1.heap.size = x := ⟨_, rfl⟩
  have hbw := H1.out.trans (hb2.mono H1.out.size)
  rw [hg] at hR2 ⊢
  have hat : AtV w2 (some ⟨g, 0, none⟩) 64 (bv (bitI x)) := fun i hi => ⟨_, rfl, by
    rw [Addr.add_mid, Nat.zero_add]; exact hR2.cellAt i (by omega)⟩
  have HWd : Hid (Calls Tryd.prog 16 #[.slice (some ⟨g, 0, none⟩) 64 64] w2 fun e w' => e = .returned (.int .u64 x) ∧ w2 = w') := by
    have := word_any w2 (some ⟨g, 0, none⟩) 64 64 (bitI x) hat
    rw [show min 64 64 = 64 from rfl, wordN_word x HX.out.1 HX.out.2] at this
    exact this
  have H2 := Lib.hid (And.intro hR2 hbw)
  clear hg hbw hR2 hat hb2 HBt
  go_wp2_with fail
  refine HWd.out.mono ?_
  rintro e w3 ⟨rfl, rfl⟩
  clear HWd
  go_wp2
  go_loopw [6, 7] (fun x' i wr => ∃ k : Nat, k ≤ 64 ∧ x' = .int .u64 (wordN (padded L f) k : Int) ∧ i = .int .i64 k ∧ Hid (Row wr g 4 1 (.slice (some ⟨g, 0, none⟩) 64 64) 64 (bv (bitI x)) ∧ Below w.heap.size w wr)) (fun _ i _ => 64 - (intOf i).toNat)
  case atStart => exact ⟨0, Nat.zero_le _, rfl, rfl, H2.out⟩
  case round =>
    obtain ⟨k, hk, rfl, rfl, HI⟩ := hrel
    by_cases hlt : k < 64
    · have lt1 : (k : Int) < 64 := by omega
      have lt0 : (0 : Int) ≤ (k : Int) := by omega
      have e1 : IntKind.i64.wrap ((k : Int) + 1) = (k : Int) + 1 := i64_nat _ (by omega) (by omega)
      have cb : wr.cell? ⟨g, k, none⟩ = some (.bool (bitI x k)) := HI.out.1.cellAt k (by omega)
      have HRb := Lib.hid (fun wx => (rbit_any x k wx HX.out.1 HX.out.2 hlt).mono fun _ _ h => (⟨h.1, h.2.symm⟩ : _ ∧ _ = wx))
      obtain ⟨v, hv, hvb⟩ : ∃ v : Int, (if bitI x k = true then 1 else 0) = v ∧ (v == 1) = bitI x k := ⟨_, rfl, by cases bitI x k <;> rfl⟩
      rw [hv] at HRb
      have HLt := Lib.hid hlt
      clear hv hlt
      go_wp2
      go_quiet ((go_at_call 17; exact Calls.quiet_of_same (HRb.out _)))
      have HD := Lib.hid (show wordN (padded L f) (k + 1) = if padded L f k then wordN (padded L f) k + 2 ^ k else wordN (padded L f) k from rfl)
      by_cases hkL : k < L
      · obtain ⟨ad, rfl, ca⟩ := (H0.out.1.belowB HI.out.2 (AtV.lt H0.out.1)) k hkL
        unfold bv at ca
        have lk : (k : Int) < (L : Int) := by omega
        have hpd : padded L f k = f k := by unfold padded; rw [if_pos hkL]
        rw [hpd] at HD
        have hwl := wordN_lt (padded L f) k
        have hp : 2 ^ k < 2 ^ 64 := Nat.pow_lt_pow_right (by omega) HLt.out
        have hp2 : 2 ^ k * 2 ≤ 2 ^ 64 := by rw [← Nat.pow_succ]; exact Nat.pow_le_pow_right (by omega) HLt.out
        have e2 : IntKind.u64.wrap ((2 : Int) ^ (min k 64)) = ((2 ^ k : Nat) : Int) := by
          rw [show min k 64 = k by have := HLt.out; omega]
          have : ((2 ^ k : Nat) : Int) = (2 : Int) ^ k := by push_cast; rfl
          rw [← this, u64w]
          generalize 2 ^ k = p at *
          omega
        have e3 : IntKind.u64.wrap ((2 : Int) ^ k) = ((2 ^ k : Nat) : Int) := by rw [← e2, show min k 64 = k by have := HLt.out; omega]
        obtain ⟨p, hpp⟩ : ∃ p, 2 ^ k = p := ⟨_, rfl⟩
        rw [hpp] at e2 e3 HD hwl hp hp2
        have e4 : IntKind.u64.wrap ((wordN (padded L f) k : Int) + (p : Int)) = ((wordN (padded L f) k + p : Nat) : Int) := by
          rw [u64w]
          omega
        clear hpp hwl hp hp2 hkL hpd
        cases hf : f k with
        | false =>
          rw [hf] at ca
          have HE := Lib.hid (show wordN (padded L f) (k + 1) = wordN (padded L f) k by rw [HD.out, hf]; rfl)
          clear hf
          go_wp2
          go_roundw
          case rel => exact ⟨k + 1, by have := HLt.out; omega, by rw [HE.out], by go_num, HI.out.1.chg (Chg.of_below (S := fun _ => False) (drewN_below wr.heap.size wr _) (fun k h1 h2 => by omega)) (fun _ _ h => h), HI.out.2.trans (drewN_below _ _ _)⟩
          case measure => simp [intOf]; have := HLt.out; omega
        | true =>
          rw [hf] at ca
          have HE := Lib.hid (show wordN (padded L f) (k + 1) = wordN (padded L f) k + p by rw [HD.out, hf]; rfl)
          clear hf
          go_wp2
          go_roundw
          case rel => exact ⟨k + 1, by have := HLt.out; omega, by rw [HE.out, Int.natCast_add], by go_num, HI.out.1.chg (Chg.of_below (S := fun _ => False) (drewN_below wr.heap.size wr _) (fun k h1 h2 => by omega)) (fun _ _ h => h), HI.out.2.trans (drewN_below _ _ _)⟩
          case measure => simp [intOf]; have := HLt.out; omega
      · have lk : ¬ (k : Int) < (L : Int) := by omega
        have lkd : decide ((k : Int) < (L : Int)) = false := decide_eq_false lk
        have lkn : decide (k < L) = false := decide_eq_false hkL
        have HE := Lib.hid (show wordN (padded L f) (k + 1) = wordN (padded L f) k by
          rw [HD.out, show padded L f k = false by unfold padded; rw [if_neg hkL]]
          rfl)
        clear hkL
        go_wp2
        go_roundw
        case rel => exact ⟨k + 1, by have := HLt.out; omega, by rw [HE.out], by go_num, HI.out.1.chg (Chg.of_below (S := fun _ => False) (drewN_below wr.heap.size wr _) (fun k h1 h2 => by omega)) (fun _ _ h => h), HI.out.2.trans (drewN_below _ _ _)⟩
        case measure => simp [intOf]; have := HLt.out; omega
    · obtain rfl : k = 64 := by omega
      have hAr := H0.out.1.belowB HI.out.2 (AtV.lt H0.out.1)
      obtain ⟨g2, k2, w5, hr, hg2, _, hk2, hR5, hb5⟩ := append_empty eltB wr A L c (bv f) (by rw [Nat.mul_one]; exact hAr) H0.out.2.1 (bv_one f) (by have := H0.out.2.2; unfold maxLen; omega) (by have := H0.out.2.2; omega)
      have hat : AtV w5 (some ⟨g2, 0, none⟩) L (bv f) := fun i hi => ⟨_, rfl, by
        rw [Addr.add_mid, Nat.zero_add]; exact hR5.cellAt i (by omega)⟩
      have HWd := word_any w5 (some ⟨g2, 0, none⟩) L k2 f hat
      rw [← word_padded] at HWd
      have HR := Lib.hid hr
      have HWh := Lib.hid HWd
      have HF := Lib.hid (HI.out.2.trans (hb5.mono HI.out.2.size))
      obtain ⟨wv, hwv⟩ : ∃ x : Int, (wordN (padded L f) 64 : Int) = x := ⟨_, rfl⟩
      rw [hwv] at HWh ⊢
      clear hlt hk hAr hr hg2 hk2 hR5 hb5 hat HWd HI hwv
      go_wp2_with (first
        | (at_builtin; refine wpList_append_run rfl _ _ 26 rfl (.slice (some ⟨wr.heap.size, 0, none⟩) 0 0) (.slice A L c) (.slice (some ⟨g2, 0, none⟩) L k2) w5 rfl rfl (HR.out _) ?_)
        | fail)
      refine HWh.out.mono ?_
      rintro e w6 ⟨rfl, rfl⟩
      go_wp2
      go_ret
      exact ⟨rfl, HF.out⟩
end Go.Proofs.YtoldgiejblekaaaDoorR
