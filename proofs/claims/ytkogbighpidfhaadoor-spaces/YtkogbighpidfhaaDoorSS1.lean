/- Bytes of texts; contracts of the small functions on bytes, in the code and in the document. -/
import Derived.Test.YtkogbighpidfhaaDoorBB0
import Derived.Test.YtkogbighpidfhaaDoorLexMath
import Derived.MapKept
import Derived.Laws.StructEq
namespace Go.Proofs.YtkogbighpidfhaaDoor
open Go.RowKit
open Lx

/-- A text's byte. -/
theorem at_byte (s : ByteArray) (k : Nat) (h : k < s.size) : ∃ c : Nat, c < 256 ∧ (∀ h', (s[k]'h').toNat = c) ∧ (bts s).drop k = c :: (bts s).drop (k + 1) :=
  ⟨(s.data[k]'h).toNat, (s.data[k]'h).toNat_lt, fun _ => rfl, bts_drop s k h⟩
theorem str_ne {a b : ByteArray} (h : a ≠ b) : (a.toList == b.toList) = false := by
  rw [← beq_toListBytes]
  cases hb : a == b with
  | false => rfl
  | true => exact absurd ((MapKept.bytes_beq a b).1 hb) h
theorem str_eq (a : ByteArray) : (a.toList == a.toList) = true := by simp

section
variable (c : Nat) (w : World)

set_option maxHeartbeats 2000000 in
set_option maxRecDepth 100000 in
theorem isLetter_any : Calls Tryd.prog 24 #[.int .u8 (c : Int)] w fun e w' => e = .returned (.bool (letter c)) ∧ w = w' := by
  by_cases h1 : 97 ≤ c
  · have l1 : (97 : Int) ≤ (c : Int) := by omega
    by_cases h2 : c ≤ 122
    · have l2 : (c : Int) ≤ 122 := by omega
      have HR := Lib.hid ((letter_iff c).2 ⟨h1, h2⟩)
      clear h1 h2
      go_enter Tryd.func24, Tryd.ntmps24
      go_wp2
      go_ret
      exact ⟨by rw [HR.out]; rfl, rfl⟩
    · have l2 : ¬ (c : Int) ≤ 122 := by omega
      have HR := Lib.hid (show letter c = false by rw [Bool.eq_false_iff]; intro h; rw [letter_iff] at h; omega)
      clear h1 h2
      go_enter Tryd.func24, Tryd.ntmps24
      go_wp2
      go_ret
      exact ⟨by rw [HR.out]; rfl, rfl⟩
  · have l1 : ¬ (97 : Int) ≤ (c : Int) := by omega
    have HR := Lib.hid (show letter c = false by rw [Bool.eq_false_iff]; intro h; rw [letter_iff] at h; omega)
    clear h1
    go_enter Tryd.func24, Tryd.ntmps24
    go_wp2
    go_ret
    exact ⟨by rw [HR.out]; rfl, rfl⟩
set_option maxHeartbeats 2000000 in
set_option maxRecDepth 100000 in
theorem isDigit_any : Calls Tryd.prog 26 #[.int .u8 (c : Int)] w fun e w' => e = .returned (.bool (digit c)) ∧ w = w' := by
  by_cases h1 : 48 ≤ c
  · have l1 : (48 : Int) ≤ (c : Int) := by omega
    by_cases h2 : c ≤ 57
    · have l2 : (c : Int) ≤ 57 := by omega
      have HR := Lib.hid ((digit_iff c).2 ⟨h1, h2⟩)
      clear h1 h2
      go_enter Tryd.func26, Tryd.ntmps26
      go_wp2
      go_ret
      exact ⟨by rw [HR.out]; rfl, rfl⟩
    · have l2 : ¬ (c : Int) ≤ 57 := by omega
      have HR := Lib.hid (show digit c = false by rw [Bool.eq_false_iff]; intro h; rw [digit_iff] at h; omega)
      clear h1 h2
      go_enter Tryd.func26, Tryd.ntmps26
      go_wp2
      go_ret
      exact ⟨by rw [HR.out]; rfl, rfl⟩
  · have l1 : ¬ (48 : Int) ≤ (c : Int) := by omega
    have HR := Lib.hid (show digit c = false by rw [Bool.eq_false_iff]; intro h; rw [digit_iff] at h; omega)
    clear h1
    go_enter Tryd.func26, Tryd.ntmps26
    go_wp2
    go_ret
    exact ⟨by rw [HR.out]; rfl, rfl⟩
set_option maxHeartbeats 2000000 in
set_option maxRecDepth 100000 in
theorem rLetter_any : Calls Tryd.prog 31 #[.int .u8 (c : Int)] w fun e w' => e = .returned (.bool (letter c)) ∧ w = w' := by
  by_cases h1 : 97 ≤ c
  · have l1 : (97 : Int) ≤ (c : Int) := by omega
    by_cases h2 : c ≤ 122
    · have l2 : (c : Int) ≤ 122 := by omega
      have HR := Lib.hid ((letter_iff c).2 ⟨h1, h2⟩)
      clear h1 h2
      go_enter Tryd.func31, Tryd.ntmps31
      go_wp2
      go_ret
      exact ⟨by rw [HR.out]; rfl, rfl⟩
    · have l2 : ¬ (c : Int) ≤ 122 := by omega
      have HR := Lib.hid (show letter c = false by rw [Bool.eq_false_iff]; intro h; rw [letter_iff] at h; omega)
      clear h1 h2
      go_enter Tryd.func31, Tryd.ntmps31
      go_wp2
      go_ret
      exact ⟨by rw [HR.out]; rfl, rfl⟩
  · have l1 : ¬ (97 : Int) ≤ (c : Int) := by omega
    have HR := Lib.hid (show letter c = false by rw [Bool.eq_false_iff]; intro h; rw [letter_iff] at h; omega)
    clear h1
    go_enter Tryd.func31, Tryd.ntmps31
    go_wp2
    go_ret
    exact ⟨by rw [HR.out]; rfl, rfl⟩
set_option maxHeartbeats 2000000 in
set_option maxRecDepth 100000 in
theorem rDigit_any : Calls Tryd.prog 29 #[.int .u8 (c : Int)] w fun e w' => e = .returned (.bool (digit c)) ∧ w = w' := by
  by_cases h1 : 48 ≤ c
  · have l1 : (48 : Int) ≤ (c : Int) := by omega
    by_cases h2 : c ≤ 57
    · have l2 : (c : Int) ≤ 57 := by omega
      have HR := Lib.hid ((digit_iff c).2 ⟨h1, h2⟩)
      clear h1 h2
      go_enter Tryd.func29, Tryd.ntmps29
      go_wp2
      go_ret
      exact ⟨by rw [HR.out]; rfl, rfl⟩
    · have l2 : ¬ (c : Int) ≤ 57 := by omega
      have HR := Lib.hid (show digit c = false by rw [Bool.eq_false_iff]; intro h; rw [digit_iff] at h; omega)
      clear h1 h2
      go_enter Tryd.func29, Tryd.ntmps29
      go_wp2
      go_ret
      exact ⟨by rw [HR.out]; rfl, rfl⟩
  · have l1 : ¬ (48 : Int) ≤ (c : Int) := by omega
    have HR := Lib.hid (show digit c = false by rw [Bool.eq_false_iff]; intro h; rw [digit_iff] at h; omega)
    clear h1
    go_enter Tryd.func29, Tryd.ntmps29
    go_wp2
    go_ret
    exact ⟨by rw [HR.out]; rfl, rfl⟩
set_option maxHeartbeats 2000000 in
set_option maxRecDepth 100000 in
theorem skip1_any : Calls Tryd.prog 23 #[.int .u8 (c : Int)] w fun e w' => e = .returned (.bool (c != 10)) ∧ w = w' := by
  have HR := Lib.hid (show ((c : Int) != 10) = (c != 10) by
    by_cases h : c = 10
    · subst h; rfl
    · rw [(bne_iff_ne (a := c) (b := 10)).2 h, bne_iff_ne]; omega)
  go_enter Tryd.func23, Tryd.ntmps23
  go_wp2
  go_ret
  exact ⟨by rw [← HR.out]; rfl, rfl⟩
set_option maxHeartbeats 2000000 in
set_option maxRecDepth 100000 in
theorem inName1_any : Calls Tryd.prog 47 #[.int .u8 (c : Int)] w fun e w' => e = .returned (.bool (namec c)) ∧ w = w' := by
  have HL := Lib.hid (isLetter_any c w)
  have HD := Lib.hid (isDigit_any c w)
  have h95 : ((c : Int) == 95) = (c == 95) := by
    by_cases h : c = 95
    · subst h; rfl
    · rw [beq_false_of_ne h, beq_eq_false_iff_ne]; omega
  have HR := Lib.hid (show namec c = (letter c || digit c || c == 95) from rfl)
  cases hl : letter c
  · cases hd : digit c
    · rw [hl, hd] at HR
      rw [hl] at HL
      rw [hd] at HD
      clear hl hd
      go_enter Tryd.func47, Tryd.ntmps47
      go_wp2_with fail
      refine HL.out.mono ?_
      rintro e w1 ⟨rfl, rfl⟩
      clear HL
      go_wp2_with fail
      refine HD.out.mono ?_
      rintro e w1 ⟨rfl, rfl⟩
      clear HD
      go_wp2
      go_ret
      exact ⟨by rw [HR.out]; rfl, rfl⟩
    · rw [hl, hd] at HR
      rw [hl] at HL
      rw [hd] at HD
      clear hl hd
      go_enter Tryd.func47, Tryd.ntmps47
      go_wp2_with fail
      refine HL.out.mono ?_
      rintro e w1 ⟨rfl, rfl⟩
      clear HL
      go_wp2_with fail
      refine HD.out.mono ?_
      rintro e w1 ⟨rfl, rfl⟩
      clear HD
      go_wp2
      go_ret
      exact ⟨by rw [HR.out]; rfl, rfl⟩
  · rw [hl] at HR HL
    clear hl HD
    go_enter Tryd.func47, Tryd.ntmps47
    go_wp2_with fail
    refine HL.out.mono ?_
    rintro e w1 ⟨rfl, rfl⟩
    clear HL
    go_wp2
    go_ret
    exact ⟨by rw [HR.out]; rfl, rfl⟩
end
end Go.Proofs.YtkogbighpidfhaaDoor
