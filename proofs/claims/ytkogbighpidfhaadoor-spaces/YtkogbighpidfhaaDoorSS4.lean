/- Contract of lex's skip. -/
import Derived.Test.YtkogbighpidfhaaDoorSS3
namespace Go.Proofs.YtkogbighpidfhaaDoor
open Go.RowKit
open Lx

theorem bts_from (s : ByteArray) (a : Nat) : bts (s.extract a s.size) = (bts s).drop a := by
  rw [bts_extract, List.take_of_length_le]
  rw [List.length_drop, bts_length]
  exact Nat.le_refl _
theorem gap_remark : ∀ l : List Nat, gap true l = run (fun c => c != 10) l + gap false (l.drop (run (fun c => c != 10) l))
  | [] => rfl
  | c :: l => by
    by_cases h : c = 10
    · subst h
      simp only [run, show ((10 : Nat) != 10) = false from rfl, Bool.false_eq_true, if_false, List.drop_zero]
      show gap false l + 1 = _
      rw [gap_sp rfl]
      omega
    · have hb : (c != 10) = true := by simpa using h
      simp only [gap, run, hb, if_true, List.drop_succ_cons]
      rw [gap_remark l]
      omega
theorem eqI (c : Nat) (m : Int) (h : (c : Int) = m) : ((c : Int) == m) = true := by rw [beq_iff_eq]; exact h
theorem neI (c : Nat) (m : Int) (h : (c : Int) ≠ m) : ((c : Int) == m) = false := by rw [beq_eq_false_iff_ne]; exact h
set_option maxHeartbeats 8000000 in
set_option maxRecDepth 100000 in
theorem skip_any (s : ByteArray) (a r : Nat) (w : World) (hr : a + gap false ((bts s).drop a) = r) (ha : a ≤ s.size) (hs : s.size ≤ 1000000) :
    Calls Tryd.prog 15 #[.string s, .int .i64 (a : Int)] w fun e w' => e = .returned (.int .i64 (r : Int)) ∧ w = w' := by
  have HS := Lib.hid (And.intro hs ha)
  have HR := Lib.hid hr
  clear hs ha hr
  go_enter Tryd.func15, Tryd.ntmps15
  go_wp2
  go_loop [1] (fun v => ∃ k : Nat, v = .int .i64 (k : Int) ∧ Hid (k ≤ s.size ∧ a + gap false ((bts s).drop a) = k + gap false ((bts s).drop k))) (fun v => s.size - (intOf v).toNat)
  case atStart => exact ⟨a, rfl, HS.out.2, rfl⟩
  case round =>
    obtain ⟨k, rfl, HK⟩ := hrel
    by_cases hk : k < s.size
    · obtain ⟨c, hc, hb, hd⟩ := at_byte s k hk
      have lt1 : (k : Int) < (s.size : Int) := by omega
      have hix := run_ix s k c hk hb
      have HD := Lib.hid hd
      have HLt := Lib.hid hk
      have e1 : IntKind.i64.wrap ((k : Int) + 1) = (k : Int) + 1 := i64_nat _ (by omega) (by have := HS.out.1; omega)
      clear hb hd hc
      by_cases h35 : c = 35
      · have b0 := eqI c 35 (by omega)
        have l0 : (0 : Int) ≤ (k : Int) + 1 := by omega
        have l1 : (k : Int) + 1 ≤ (s.size : Int) := by omega
        have t1 : ((k : Int) + 1).toNat = k + 1 := by omega
        have HN := Lib.hid (count_any _ _ clo_skip1 (s.extract (k + 1) s.size) w (by rw [ByteArray.size_extract]; have := HS.out.1; omega))
        rw [bts_from] at HN
        obtain ⟨n, hn⟩ : ∃ n, run (fun c => c != 10) ((bts s).drop (k + 1)) = n := ⟨_, rfl⟩
        rw [hn] at HN
        have hnl := run_le (fun c => c != 10) ((bts s).drop (k + 1))
        rw [hn, List.length_drop, bts_length] at hnl
        have e2 : IntKind.i64.wrap ((k : Int) + (n : Int)) = (k : Int) + (n : Int) := i64_nat _ (by omega) (by have := HS.out.1; omega)
        have e3 : IntKind.i64.wrap ((k : Int) + (n : Int) + 1) = (k : Int) + (n : Int) + 1 := i64_nat _ (by omega) (by have := HS.out.1; omega)
        have HG := Lib.hid (show k + n + 1 ≤ s.size ∧ gap false ((bts s).drop k) = n + 1 + gap false ((bts s).drop (k + n + 1)) by
          refine ⟨by omega, ?_⟩
          rw [HD.out]
          simp only [gap]
          rw [if_pos h35, gap_remark, hn, List.drop_drop, show k + 1 + n = k + n + 1 by omega]
          omega)
        clear hk h35 hn hnl
        go_wp2_with fail
        refine HN.out.mono ?_
        rintro e w1 ⟨rfl, rfl⟩
        clear HN
        go_wp2
        go_round
        case rel => exact ⟨k + n + 1, by go_num, HG.out.1, by have h1 := HG.out.2; have h2 := HK.out.2; omega⟩
        case measure => simp [intOf]; have := HLt.out; omega
      · have b0 := neI c 35 (by omega)
        by_cases hsp : sp c = true
        · have HG := Lib.hid (show k + 1 ≤ s.size ∧ gap false ((bts s).drop k) = 1 + gap false ((bts s).drop (k + 1)) by
            refine ⟨by omega, ?_⟩
            rw [HD.out, gap_sp hsp])
          rw [sp_iff] at hsp
          clear hk h35
          rcases hsp with h | h | h | h
          all_goals
            have b1 := h
            subst b1
            clear h b0
            go_wp2
            go_round
            case rel => exact ⟨k + 1, by go_num, HG.out.1, by have h1 := HG.out.2; have h2 := HK.out.2; omega⟩
            case measure => simp [intOf]; have := HLt.out; omega
        · have HG := Lib.hid (show gap false ((bts s).drop k) = 0 by
            rw [HD.out]
            simp only [gap]
            rw [if_neg h35, if_neg hsp])
          rw [sp_iff] at hsp
          have b1 := neI c 32 (by omega)
          have b2 := neI c 10 (by omega)
          have b3 := neI c 9 (by omega)
          have b4 := neI c 13 (by omega)
          clear hk h35 hsp
          go_wp2
          go_ret
          exact ⟨by rw [← show k = r by have h1 := HG.out; have h2 := HK.out.2; have h3 := HR.out; omega]; rfl, rfl⟩
    · have lt1 : ¬ (k : Int) < (s.size : Int) := by omega
      have HE := Lib.hid (show a + gap false ((bts s).drop a) = k by
        have h2 := HK.out
        rw [bts_end s k (by omega)] at h2
        exact h2.2)
      clear hk
      go_wp2
      go_ret
      exact ⟨by rw [← show k = r from HE.out.symm.trans HR.out]; rfl, rfl⟩
end Go.Proofs.YtkogbighpidfhaaDoor
