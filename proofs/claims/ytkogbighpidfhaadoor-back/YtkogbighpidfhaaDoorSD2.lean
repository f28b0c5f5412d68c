/- Contract of the document's Number, at digits. -/
import Derived.Test.YtkogbighpidfhaaDoorSSC
namespace Go.Proofs.YtkogbighpidfhaaDoor
open Go.RowKit
open Lx

theorem val_snoc (l : List Nat) (k v c : Nat) (r : List Nat) (h : l.drop k = c :: r) : val v (l.take (k + 1)) = val v (l.take k) * 10 + (c - 48) := by
  induction k generalizing l v with
  | zero => rw [List.drop_zero] at h; subst h; rfl
  | succ k ih =>
    rcases l with _ | ⟨d, l⟩
    · simp at h
    · rw [List.drop_succ_cons] at h
      exact ih l (v * 10 + (d - 48)) h
theorem val_take (l : List Nat) (k : Nat) : val 0 (l.take k) ≤ val 0 l := by
  have h : ∀ (u v : List Nat) (x : Nat), val x (u ++ v) = val (val x u) v := by
    intro u
    induction u with
    | nil => intro v x; rfl
    | cons c u ih => intro v x; exact ih v _
  conv => rhs; rw [← List.take_append_drop k l]
  rw [h]
  exact val_ge _ _
/-- What Number answers. -/
def numV (s : ByteArray) (c : Nat) : Value := if val 0 (bts s) < 18446744073709551616 then .tuple #[.int .u64 (val 0 (bts s) : Int), .bool (decide (s.size = 1 ∨ c ≠ 48))] else .tuple #[.int .u64 0, .bool false]
set_option maxHeartbeats 8000000 in
set_option maxRecDepth 100000 in
theorem number_any (s : ByteArray) (c : Nat) (r : List Nat) (w : World) (hc : bts s = c :: r) (hd : ∀ c ∈ bts s, digit c = true) (hs : s.size ≤ 1000000) :
    Calls Tryd.prog 30 #[.string s] w fun e w' => e = .returned (numV s c) ∧ Below w.heap.size w w' := by
  have HS := Lib.hid (And.intro hs hd)
  have HC := Lib.hid hc
  obtain ⟨M, hM⟩ : ∃ M, M = 18446744073709551616 := ⟨_, rfl⟩
  have HM := Lib.hid hM
  clear hs hd hc hM
  go_enter Tryd.func30, Tryd.ntmps30
  go_wp2
  go_loop [4, 5] (fun n i => ∃ (k : Nat) (x : Int), n = .int .u64 x ∧ i = .int .i64 (k : Int) ∧ Hid (k ≤ s.size ∧ x = (val 0 ((bts s).take k) : Int) ∧ val 0 ((bts s).take k) < M)) (fun _ i => s.size - (intOf i).toNat)
  case atStart => exact ⟨0, 0, rfl, rfl, Nat.zero_le _, rfl, by rw [HM.out, List.take_zero]; exact Nat.zero_lt_succ _⟩
  case round =>
    obtain ⟨k, x, rfl, rfl, HI⟩ := hrel
    by_cases hk : k < s.size
    · obtain ⟨b, hb, hbb, hdr⟩ := at_byte s k hk
      have lt1 : (k : Int) < (s.size : Int) := by omega
      have hix := run_ix s k b hk hbb
      have hdig : digit b = true := HS.out.2 b (List.mem_of_mem_drop (show b ∈ (bts s).drop k by rw [hdr]; simp))
      rw [digit_iff] at hdig
      obtain ⟨d, hd⟩ : ∃ d, b - 48 = d := ⟨_, rfl⟩
      have e1 : IntKind.u8.wrap ((b : Int) - 48) = (d : Int) := by rw [IntKind.wrap_u8]; omega
      have e2 : IntKind.u64.wrap (d : Int) = (d : Int) := by rw [IntKind.wrap_u64]; omega
      have e3 : IntKind.i64.wrap ((k : Int) + 1) = (k : Int) + 1 := i64_nat _ (by omega) (by have := HS.out.1; omega)
      have HV := Lib.hid (show val 0 ((bts s).take (k + 1)) = val 0 ((bts s).take k) * 10 + d by rw [val_snoc _ _ _ _ _ hdr, hd])
      have HD := Lib.hid (show d ≤ 9 by omega)
      have HLt := Lib.hid hk
      clear hb hbb hdr hdig hd hk
      by_cases h1 : 1844674407370955161 < x
      · have HO := Lib.hid (show M ≤ val 0 (bts s) by
          have h2 := val_take (bts s) (k + 1)
          rw [HV.out] at h2
          have h3 := HI.out.2.1
          rw [HM.out]
          omega)
        clear lt1
        have lt1 : (k : Int) < (s.size : Int) := by have := HLt.out; omega
        go_wp2
        go_ret2
        exact ⟨by unfold numV; rw [if_neg (by have := HO.out; rw [HM.out] at this; omega)]; rfl, Below.refl _ _⟩
      by_cases h2 : x = 1844674407370955161
      · by_cases h3 : (5 : Int) < (d : Int)
        · have b2 : (x == 1844674407370955161) = true := by rw [beq_iff_eq]; exact h2
          have HO := Lib.hid (show M ≤ val 0 (bts s) by
            have h2' := val_take (bts s) (k + 1)
            rw [HV.out] at h2'
            have h3 := HI.out.2.1
            rw [HM.out]
            omega)
          clear h2
          go_wp2
          go_ret2
          exact ⟨by unfold numV; rw [if_neg (by have := HO.out; rw [HM.out] at this; omega)]; rfl, Below.refl _ _⟩
        · have b2 : (x == 1844674407370955161) = true := by rw [beq_iff_eq]; exact h2
          have e4 : IntKind.u64.wrap (x * 10) = x * 10 := by rw [u64w]; omega
          have HN := Lib.hid (show x * 10 + (d : Int) = (val 0 ((bts s).take (k + 1)) : Int) ∧ val 0 ((bts s).take (k + 1)) < M by
            have h3 := HI.out.2.1
            rw [HV.out, HM.out]
            omega)
          obtain ⟨y, hy⟩ : ∃ y, x * 10 + (d : Int) = y := ⟨_, rfl⟩
          have e5 : IntKind.u64.wrap (x * 10 + (d : Int)) = y := by rw [u64w, ← hy]; omega
          rw [hy] at HN
          clear h2 hy
          go_wp2
          go_round
          case rel => exact ⟨k + 1, y, rfl, by go_num, by have := HLt.out; omega, HN.out.1, HN.out.2⟩
          case measure => simp [intOf]; have := HLt.out; omega
      · have b2 : (x == 1844674407370955161) = false := by rw [beq_eq_false_iff_ne]; exact h2
        have e4 : IntKind.u64.wrap (x * 10) = x * 10 := by rw [u64w]; have := HI.out.2.1; omega
        have HN := Lib.hid (show x * 10 + (d : Int) = (val 0 ((bts s).take (k + 1)) : Int) ∧ val 0 ((bts s).take (k + 1)) < M by
          have h3 := HI.out.2.1
          have h4 := HD.out
          rw [HV.out, HM.out]
          omega)
        obtain ⟨y, hy⟩ : ∃ y, x * 10 + (d : Int) = y := ⟨_, rfl⟩
        have e5 : IntKind.u64.wrap (x * 10 + (d : Int)) = y := by rw [u64w, ← hy]; have := HI.out.2.1; have := HD.out; omega
        rw [hy] at HN
        clear h2 hy
        go_wp2
        go_round
        case rel => exact ⟨k + 1, y, rfl, by go_num, by have := HLt.out; omega, HN.out.1, HN.out.2⟩
        case measure => simp [intOf]; have := HLt.out; omega
    · have lt1 : ¬ (k : Int) < (s.size : Int) := by omega
      have hks : k = s.size := by have := HI.out.1; omega
      have HV := Lib.hid (show x = (val 0 (bts s) : Int) ∧ val 0 (bts s) < M by
        have h := HI.out.2
        rw [List.take_of_length_le (by rw [bts_length]; omega)] at h
        exact h)
      obtain ⟨b, hb, hbb, hdr⟩ := at_byte s 0 (by rw [← bts_length, HC.out]; simp)
      obtain rfl : b = c := by
        rw [List.drop_zero, HC.out] at hdr
        simp at hdr
        exact hdr.symm
      have hix := run_ix s 0 b (by rw [← bts_length, HC.out]; simp) hbb
      rw [Int.natCast_zero] at hix
      clear hk hbb hdr hb
      obtain ⟨B, hB⟩ : ∃ B, decide (s.size = 1 ∨ b ≠ 48) = B := ⟨_, rfl⟩
      have HF := Lib.hid (show numV s b = .tuple #[.int .u64 x, .bool B] by
        unfold numV
        rw [if_pos (by have := HV.out.2; rw [HM.out] at this; exact this), hB, ← HV.out.1])
      have hsz : 0 < s.size := by rw [← bts_length, HC.out]; simp
      by_cases h1 : s.size = 1
      · have b1 : ((s.size : Int) == 1) = true := by rw [beq_iff_eq]; omega
        obtain rfl : B = true := by rw [← hB]; exact decide_eq_true (.inl h1)
        clear h1 hB hks hsz
        go_wp2
        go_quiet (fail)
        go_wp2
        go_ret2
        exact ⟨by rw [HF.out]; rfl, rfl, rfl, rfl, Nat.le_refl _, fun _ _ => rfl⟩
      · have b1 : ((s.size : Int) == 1) = false := by rw [beq_eq_false_iff_ne]; omega
        have lz : (0 : Int) < (s.size : Int) := by omega
        by_cases h48 : b = 48
        · have b2 : ((b : Int) != 48) = false := beqI b 48 (by omega)
          obtain rfl : B = false := by rw [← hB]; exact decide_eq_false (by omega)
          clear h1 hB hks hsz h48
          go_wp2
          go_quiet (fail)
          go_wp2
          go_ret2
          exact ⟨by rw [HF.out]; rfl, rfl, rfl, rfl, Nat.le_refl _, fun _ _ => rfl⟩
        · have b2 : ((b : Int) != 48) = true := bneI b 48 (by omega)
          obtain rfl : B = true := by rw [← hB]; exact decide_eq_true (by omega)
          clear h1 hB hks hsz h48
          go_wp2
          go_quiet (fail)
          go_wp2
          go_ret2
          exact ⟨by rw [HF.out]; rfl, rfl, rfl, rfl, Nat.le_refl _, fun _ _ => rfl⟩
end Go.Proofs.YtkogbighpidfhaaDoor
