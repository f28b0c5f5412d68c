/- Contracts of strings.HasPrefix (at >>), strings.IndexByte (at the signs) and lex's frontSign. -/
import Derived.Test.YtkogbighpidfhaaDoorSS6
namespace Go.Proofs.YtkogbighpidfhaaDoor
open Go.RowKit
open Lx

set_option maxHeartbeats 2000000 in
set_option maxRecDepth 100000 in
theorem slPrefix_any (s : ByteArray) (b : Bool) (w : World) (hb : ((bts s).take 2 == [62, 62]) = b) :
    Calls Tryd.prog 51 #[.string s, .string ⟨#[62, 62]⟩] w fun e w' => e = .returned (.bool b) ∧ w = w' := by
  by_cases h2 : 2 ≤ s.size
  · have l2 : (2 : Int) ≤ (s.size : Int) := by omega
    have he : ((s.extract 0 2).toList == [62, 62]) = b := by
      rw [← bts_eq, bts_to]; exact hb
    clear hb h2
    go_enter Tryd.func51, Tryd.ntmps51
    go_wp2
    go_ret
    exact ⟨rfl, rfl⟩
  · have l2 : ¬ (2 : Int) ≤ (s.size : Int) := by omega
    have HE := Lib.hid (show b = false by
      rw [← hb, beq_eq_false_iff_ne]
      intro h
      have := congrArg List.length h
      rw [List.length_take, bts_length] at this
      simp at this
      omega)
    clear hb h2
    go_enter Tryd.func51, Tryd.ntmps51
    go_wp2
    go_ret
    exact ⟨by rw [HE.out]; rfl, rfl⟩
set_option maxHeartbeats 2000000 in
set_option maxRecDepth 100000 in
theorem prefix_any (s : ByteArray) (b : Bool) (w : World) (hb : ((bts s).take 2 == [62, 62]) = b) :
    Calls Tryd.prog 41 #[.string s, .string ⟨#[62, 62]⟩] w fun e w' => e = .returned (.bool b) ∧ w = w' := by
  have HC := Lib.hid (slPrefix_any s b w hb)
  clear hb
  go_enter Tryd.func41, Tryd.ntmps41
  go_wp2_with fail
  refine HC.out.mono ?_
  rintro e w1 ⟨rfl, rfl⟩
  clear HC
  go_wp2
  go_ret
  exact ⟨rfl, rfl⟩
/-- The signs of one byte. -/
def signB : ByteArray := ⟨#[43, 45, 42, 64, 60, 61, 40, 41, 91, 93, 44, 59]⟩
theorem sign_all : ((List.range 256).all fun c => decide (0 ≤ firstIdx signB ((c : Int).toNat.toUInt8)) == sign c) = true := by kernel_rfl
theorem sign_idx (c : Nat) (hc : c < 256) : ∃ j : Int, firstIdx signB ((c : Int).toNat.toUInt8) = j ∧ (0 ≤ j ↔ sign c = true) := by
  have := List.all_eq_true.1 sign_all c (List.mem_range.2 hc)
  rw [beq_iff_eq] at this
  exact ⟨_, rfl, by rw [← this, decide_eq_true_iff]⟩
set_option maxHeartbeats 2000000 in
set_option maxRecDepth 100000 in
theorem slIndex_any (c : Nat) (j : Int) (w : World) (hj : firstIdx signB ((c : Int).toNat.toUInt8) = j) :
    Calls Tryd.prog 52 #[.string signB, .int .u8 (c : Int)] w fun e w' => e = .returned (.int .i64 j) ∧ w = w' := by
  have hr : (callFunc 62 #[.string signB, .int .u8 (c : Int)]).run Tryd.prog w = .ok (.value (.int .i64 j)) w := by
    rw [run_callFunc_indexByte (P := Tryd.prog) (f := 62) Tryd.func62 (by kernel_rfl) (by kernel_rfl) (by kernel_rfl) (by kernel_rfl), run_indexByte_string, hj]
    rfl
  clear hj
  go_enter Tryd.func52, Tryd.ntmps52
  go_wp2
  go_ret
  exact ⟨rfl, rfl⟩
set_option maxHeartbeats 2000000 in
set_option maxRecDepth 100000 in
theorem index_any (c : Nat) (j : Int) (w : World) (hj : firstIdx signB ((c : Int).toNat.toUInt8) = j) :
    Calls Tryd.prog 42 #[.string signB, .int .u8 (c : Int)] w fun e w' => e = .returned (.int .i64 j) ∧ w = w' := by
  have HC := Lib.hid (slIndex_any c j w hj)
  clear hj
  go_enter Tryd.func42, Tryd.ntmps42
  go_wp2_with fail
  refine HC.out.mono ?_
  rintro e w1 ⟨rfl, rfl⟩
  clear HC
  go_wp2
  go_ret
  exact ⟨rfl, rfl⟩
end Go.Proofs.YtkogbighpidfhaaDoor
