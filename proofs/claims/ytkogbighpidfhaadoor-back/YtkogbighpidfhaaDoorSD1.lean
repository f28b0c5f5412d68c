/- Contract of the document's between. -/
import Derived.Test.YtkogbighpidfhaaDoorSS4
namespace Go.Proofs.YtkogbighpidfhaaDoor
open Go.RowKit
open Lx

theorem bneI (c : Nat) (m : Int) (h : (c : Int) ≠ m) : ((c : Int) != m) = true := by rw [bne_iff_ne]; exact h
theorem beqI (c : Nat) (m : Int) (h : (c : Int) = m) : ((c : Int) != m) = false := by rw [h]; simp
theorem gap_sharp (l : List Nat) : gap false (35 :: l) = gap true (35 :: l) := rfl
theorem gap_nl (l : List Nat) : gap true (10 :: l) = gap false (10 :: l) := rfl
theorem gap_in {c : Nat} (h : c ≠ 10) (l : List Nat) : gap true (c :: l) = gap true l + 1 := by
  have hb : (c != 10) = true := by simpa using h
  simp only [gap, hb]
set_option maxHeartbeats 8000000 in
set_option maxRecDepth 100000 in
theorem between_any (s : ByteArray) (a r : Nat) (w : World) (hr : a + gap false ((bts s).drop a) = r) (ha : a ≤ s.size) (hs : s.size ≤ 1000000) :
    Calls Tryd.prog 17 #[.string s, .int .i64 (a : Int)] w fun e w' => e = .returned (.int .i64 (r : Int)) ∧ w = w' := by
  have HS := Lib.hid (And.intro hs ha)
  have HR := Lib.hid hr
  clear hs ha hr
  go_enter Tryd.func17, Tryd.ntmps17
  go_wp2
  go_loop [1] (fun v => ∃ k : Nat, v = .int .i64 (k : Int) ∧ Hid (k ≤ s.size ∧ r = k + gap false ((bts s).drop k))) (fun v => s.size - (intOf v).toNat)
  case atStart => exact ⟨a, rfl, HS.out.2, HR.out.symm⟩
  case round =>
    obtain ⟨k, rfl, HK⟩ := hrel
    by_cases hk : k < s.size
    · obtain ⟨c, hc, hb, hd⟩ := at_byte s k hk
      have lt1 : (k : Int) < (s.size : Int) := by omega
      have hix := run_ix s k c hk hb
      have HD := Lib.hid hd
      have HLt := Lib.hid hk
      have e1 : IntKind.i64.wrap ((k : Int) + 1) = (k : Int) + 1 := i64_nat _ (by omega) (by have := HS.out.1; omega)
      clear hb hd hc hk
      by_cases h35 : c = 35
      · subst h35
        go_wp2
        go_loop [1] (fun v => ∃ j : Nat, v = .int .i64 (j : Int) ∧ Hid (k ≤ j ∧ j ≤ s.size ∧ r = j + gap true ((bts s).drop j))) (fun v => s.size - (intOf v).toNat)
        case atStart => exact ⟨k, rfl, Nat.le_refl _, HK.out.1, by have h := HK.out.2; rw [HD.out, gap_sharp, ← HD.out] at h; exact h⟩
        case round =>
          clear hix lt1 e1
          obtain ⟨j, rfl, HJ⟩ := hrel
          by_cases hj : j < s.size
          · obtain ⟨d, hc, hb, hd⟩ := at_byte s j hj
            have lt2 : (j : Int) < (s.size : Int) := by omega
            have hix := run_ix s j d hj hb
            have HE := Lib.hid hd
            have HLj := Lib.hid hj
            have e1 : IntKind.i64.wrap ((j : Int) + 1) = (j : Int) + 1 := i64_nat _ (by omega) (by have := HS.out.1; omega)
            clear hb hd hc hj
            by_cases h10 : d = 10
            · have b0 := beqI d 10 (by omega)
              have HG := Lib.hid (show r = j + gap false ((bts s).drop j) ∧ k < j by
                have h := HJ.out.2.2
                have h1 := HE.out
                rw [h10] at h1
                rw [h1, gap_nl, ← h1] at h
                refine ⟨h, ?_⟩
                rcases Nat.lt_or_ge k j with h2 | h2
                · exact h2
                · have e : k = j := by have := HJ.out.1; omega
                  subst e
                  rw [HD.out] at h1
                  cases h1)
              clear h10
              go_wp2
              go_round
              case rel => exact ⟨j, by go_num, HJ.out.2.1, HG.out.1⟩
              case measure => simp [intOf]; have := HG.out.2; have := HLt.out; omega
            · have b0 := bneI d 10 (by omega)
              have HG := Lib.hid (show r = j + 1 + gap true ((bts s).drop (j + 1)) by
                have h := HJ.out.2.2
                rw [HE.out, gap_in h10] at h
                omega)
              clear h10
              go_wp2
              go_round
              case rel => exact ⟨j + 1, by go_num, by have := HJ.out.1; omega, by have := HLj.out; omega, HG.out⟩
              case measure => simp [intOf]; have := HLj.out; omega
          · have lt2 : ¬ (j : Int) < (s.size : Int) := by omega
            have HG := Lib.hid (show r = j + gap false ((bts s).drop j) ∧ k < j by
              have h := HJ.out.2.2
              rw [bts_end s j (by omega)] at h ⊢
              exact ⟨h, by have := HLt.out; omega⟩)
            clear hj
            go_wp2
            go_round
            case rel => exact ⟨j, by go_num, HJ.out.2.1, HG.out.1⟩
            case measure => simp [intOf]; have := HG.out.2; have := HLt.out; omega
      · have b0 := neI c 35 (by omega)
        by_cases hsp : sp c = true
        · have HG := Lib.hid (show k + 1 ≤ s.size ∧ r = k + 1 + gap false ((bts s).drop (k + 1)) by
            refine ⟨by have := HLt.out; omega, ?_⟩
            have h := HK.out.2
            rw [HD.out, gap_sp hsp] at h
            omega)
          rw [sp_iff] at hsp
          clear h35
          rcases hsp with h | h | h | h
          all_goals
            have b1 := h
            subst b1
            clear h b0
            go_wp2
            go_round
            case rel => exact ⟨k + 1, by go_num, HG.out.1, HG.out.2⟩
            case measure => simp [intOf]; have := HLt.out; omega
        · have HG := Lib.hid (show k = r by
            have h := HK.out.2
            rw [HD.out] at h
            simp only [gap] at h
            rw [if_neg h35, if_neg hsp] at h
            omega)
          rw [sp_iff] at hsp
          have b1 := bneI c 32 (by omega)
          have b2 := bneI c 10 (by omega)
          have b3 := bneI c 9 (by omega)
          have b4 := bneI c 13 (by omega)
          clear h35 hsp
          go_wp2
          go_ret
          exact ⟨by rw [← HG.out]; rfl, rfl⟩
    · have lt1 : ¬ (k : Int) < (s.size : Int) := by omega
      have HE := Lib.hid (show k = r by
        have h2 := HK.out
        rw [bts_end s k (by omega)] at h2
        exact h2.2.symm)
      clear hk
      go_wp2
      go_ret
      exact ⟨by rw [← HE.out]; rfl, rfl⟩
end Go.Proofs.YtkogbighpidfhaaDoor
