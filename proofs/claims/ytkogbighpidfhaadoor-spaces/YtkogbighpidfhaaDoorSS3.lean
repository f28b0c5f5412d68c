/- Contracts of lex's count, countInName and skip. -/
import Derived.Test.YtkogbighpidfhaaDoorSS2
namespace Go.Proofs.YtkogbighpidfhaaDoor
open Go.RowKit
open Lx

/-- A function on bytes that is handed on: what it answers. -/
structure Clo (K : Nat) (p : Nat → Bool) : Prop where
  enter : ∀ args w, (callFunc K args).run Tryd.prog w = .ok (.enter K args) w
  call : ∀ (c : Nat) w, Calls Tryd.prog K #[.int .u8 (c : Int)] w fun e w' => e = .returned (.bool (p c)) ∧ w = w'
theorem run_drop_step (p : Nat → Bool) (l : List Nat) (k : Nat) (hk : k ≤ run p l) : run p l = k + run p (l.drop k) := by
  induction l generalizing k with
  | nil => simp [run] at hk ⊢; omega
  | cons c l ih =>
    rcases k with _ | k
    · simp
    · simp only [run] at hk ⊢
      split at hk
      · rename_i hc
        rw [if_pos hc, List.drop_succ_cons]
        have := ih k (by omega)
        omega
      · omega
/-- A text's byte, as the walk asks for it. -/
theorem run_ix (s : ByteArray) (k c : Nat) (hk : k < s.size) (hb : ∀ h', (s[k]'h').toNat = c) (w : World) : (Instr.index 9 (.string s) (.int .i64 (k : Int))).run Tryd.prog w = .ok (.int .u8 (c : Int)) w := by
  rw [run_index_string w 9 s .i64 (k : Int) Tryd.underlying9, dif_pos ⟨by omega, by omega⟩]
  have : (s[(k : Int).toNat]'(by omega)).toNat = c := hb hk
  rw [this]
set_option maxHeartbeats 4000000 in
set_option maxRecDepth 100000 in
theorem count_any (K : Nat) (p : Nat → Bool) (hC : Clo K p) (s : ByteArray) (w : World) (hs : s.size ≤ 1000000) :
    Calls Tryd.prog 22 #[.string s, .func (.func K) #[] #[]] w fun e w' => e = .returned (.int .i64 (run p (bts s) : Int)) ∧ w = w' := by
  have HS := Lib.hid hs
  have HC := Lib.hid hC.call
  have hent := hC.enter
  clear hC hs
  go_enter Tryd.func22, Tryd.ntmps22
  go_wp2
  go_loop [5] (fun v => ∃ k : Nat, v = .int .i64 (k : Int) ∧ Hid (k ≤ run p (bts s))) (fun v => s.size - (intOf v).toNat)
  case atStart => exact ⟨0, rfl, Nat.zero_le _⟩
  case round =>
    obtain ⟨k, rfl, HK⟩ := hrel
    by_cases hk : k < s.size
    · obtain ⟨c, hc, hb, hd⟩ := at_byte s k hk
      have lt0 : (0 : Int) ≤ (k : Int) := by omega
      have lt1 : (k : Int) < (s.size : Int) := by omega
      have e1 : IntKind.i64.wrap ((k : Int) + 1) = (k : Int) + 1 := i64_nat _ (by omega) (by have := HS.out; omega)
      have hix := run_ix s k c hk hb
      have HR := Lib.hid (run_drop_step p (bts s) k HK.out)
      rw [hd] at HR
      have HLt := Lib.hid hk
      have HCc := Lib.hid (HC.out c w)
      cases hp : p c
      · have HE := Lib.hid (show run p (bts s) = k by
          have := HR.out
          simp only [run] at this
          rw [if_neg (by rw [hp]; decide)] at this
          exact this)
        rw [hp] at HCc
        clear hk hc hb hd HR hp lt0
        go_wp2_with fail
        refine HCc.out.mono ?_
        rintro e w1 ⟨rfl, rfl⟩
        clear HCc
        go_wp2
        go_ret
        exact ⟨by rw [HE.out]; rfl, rfl⟩
      · have HE := Lib.hid (show k + 1 ≤ run p (bts s) by
          have := HR.out
          simp only [run] at this
          rw [if_pos hp] at this
          omega)
        rw [hp] at HCc
        clear hk hc hb hd HR hp lt0
        go_wp2_with fail
        refine HCc.out.mono ?_
        rintro e w1 ⟨rfl, rfl⟩
        clear HCc
        go_wp2
        go_round
        case rel => exact ⟨k + 1, by go_num, HE.out⟩
        case measure => simp [intOf]; have := HLt.out; omega
    · have lt1 : ¬ (k : Int) < (s.size : Int) := by omega
      have HE := Lib.hid (show run p (bts s) = k by
        have h1 := run_le p (bts s)
        rw [bts_length] at h1
        have := HK.out
        omega)
      clear hk
      go_wp2
      go_ret
      exact ⟨by rw [HE.out]; rfl, rfl⟩
theorem clo_skip1 : Clo 23 (fun c => c != 10) := ⟨fun _ _ => by kernel_rfl, skip1_any⟩
theorem clo_inName1 : Clo 47 namec := ⟨fun _ _ => by kernel_rfl, inName1_any⟩
theorem clo_isDigit : Clo 26 digit := ⟨fun _ _ => by kernel_rfl, isDigit_any⟩
set_option maxHeartbeats 2000000 in
set_option maxRecDepth 100000 in
theorem inName_any (s : ByteArray) (w : World) (hs : s.size ≤ 1000000) :
    Calls Tryd.prog 37 #[.string s] w fun e w' => e = .returned (.int .i64 (run namec (bts s) : Int)) ∧ w = w' := by
  have HC := Lib.hid (count_any _ _ clo_inName1 s w hs)
  clear hs
  go_enter Tryd.func37, Tryd.ntmps37
  go_wp2_with fail
  refine HC.out.mono ?_
  rintro e w1 ⟨rfl, rfl⟩
  clear HC
  go_wp2
  go_ret
  exact ⟨rfl, rfl⟩
end Go.Proofs.YtkogbighpidfhaaDoor
