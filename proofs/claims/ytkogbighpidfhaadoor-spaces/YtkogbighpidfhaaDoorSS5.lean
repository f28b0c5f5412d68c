/- Contracts of lex's isWord and the document's Word. -/
import Derived.Test.YtkogbighpidfhaaDoorSD1
namespace Go.Proofs.YtkogbighpidfhaaDoor
open Go.RowKit
open Lx

theorem bts_eq (s : ByteArray) (l : List UInt8) : (bts s == l.map UInt8.toNat) = (s.toList == l) := by
  rw [ByteArray.toList_eq]
  unfold bts
  by_cases h : s.data.toList = l
  · rw [h, beq_self_eq_true, beq_self_eq_true]
  · rw [beq_false_of_ne h, beq_eq_false_iff_ne]
    intro e
    exact h (List.map_inj_right (fun a b => UInt8.toNat_inj.1) |>.1 e)
theorem isWord_or (s : ByteArray) : isWord (bts s) = ((s.toList == [105, 110, 112, 117, 116]) || ((s.toList == [108, 101, 116]) || ((s.toList == [111, 117, 116, 112, 117, 116]) || ((s.toList == [114, 101, 108, 117]) || ((s.toList == [115, 117, 109]) || ((s.toList == [97, 114, 103, 109, 97, 120]) || ((s.toList == [109, 97, 120]) || ((s.toList == [109, 117, 120]))))))))) := by
  rw [← bts_eq s [105, 110, 112, 117, 116], ← bts_eq s [108, 101, 116], ← bts_eq s [111, 117, 116, 112, 117, 116], ← bts_eq s [114, 101, 108, 117], ← bts_eq s [115, 117, 109], ← bts_eq s [97, 114, 103, 109, 97, 120], ← bts_eq s [109, 97, 120], ← bts_eq s [109, 117, 120]]
  unfold isWord words
  simp only [List.contains_cons, List.contains_nil, Bool.or_false]
  rfl
set_option maxHeartbeats 8000000 in
set_option maxRecDepth 100000 in
theorem isWord_any (s : ByteArray) (w : World) :
    Calls Tryd.prog 38 #[.string s] w fun e w' => e = .returned (.bool (isWord (bts s))) ∧ w = w' := by
  have HW := Lib.hid (isWord_or s)
  rcases Bool.eq_false_or_eq_true (s.toList == [105, 110, 112, 117, 116]) with b0 | b0
  · rw [b0] at HW
    go_enter Tryd.func38, Tryd.ntmps38
    go_wp2
    go_ret
    exact ⟨by rw [HW.out]; rfl, rfl⟩
  rw [b0] at HW
  rcases Bool.eq_false_or_eq_true (s.toList == [108, 101, 116]) with b1 | b1
  · rw [b1] at HW
    go_enter Tryd.func38, Tryd.ntmps38
    go_wp2
    go_ret
    exact ⟨by rw [HW.out]; rfl, rfl⟩
  rw [b1] at HW
  rcases Bool.eq_false_or_eq_true (s.toList == [111, 117, 116, 112, 117, 116]) with b2 | b2
  · rw [b2] at HW
    go_enter Tryd.func38, Tryd.ntmps38
    go_wp2
    go_ret
    exact ⟨by rw [HW.out]; rfl, rfl⟩
  rw [b2] at HW
  rcases Bool.eq_false_or_eq_true (s.toList == [114, 101, 108, 117]) with b3 | b3
  · rw [b3] at HW
    go_enter Tryd.func38, Tryd.ntmps38
    go_wp2
    go_ret
    exact ⟨by rw [HW.out]; rfl, rfl⟩
  rw [b3] at HW
  rcases Bool.eq_false_or_eq_true (s.toList == [115, 117, 109]) with b4 | b4
  · rw [b4] at HW
    go_enter Tryd.func38, Tryd.ntmps38
    go_wp2
    go_ret
    exact ⟨by rw [HW.out]; rfl, rfl⟩
  rw [b4] at HW
  rcases Bool.eq_false_or_eq_true (s.toList == [97, 114, 103, 109, 97, 120]) with b5 | b5
  · rw [b5] at HW
    go_enter Tryd.func38, Tryd.ntmps38
    go_wp2
    go_ret
    exact ⟨by rw [HW.out]; rfl, rfl⟩
  rw [b5] at HW
  rcases Bool.eq_false_or_eq_true (s.toList == [109, 97, 120]) with b6 | b6
  · rw [b6] at HW
    go_enter Tryd.func38, Tryd.ntmps38
    go_wp2
    go_ret
    exact ⟨by rw [HW.out]; rfl, rfl⟩
  rw [b6] at HW
  rcases Bool.eq_false_or_eq_true (s.toList == [109, 117, 120]) with b7 | b7
  · rw [b7] at HW
    go_enter Tryd.func38, Tryd.ntmps38
    go_wp2
    go_ret
    exact ⟨by rw [HW.out]; rfl, rfl⟩
  rw [b7] at HW
  go_enter Tryd.func38, Tryd.ntmps38
  go_wp2
  go_ret
  exact ⟨by rw [HW.out]; rfl, rfl⟩
set_option maxHeartbeats 8000000 in
set_option maxRecDepth 100000 in
theorem rWord_any (s : ByteArray) (w : World) :
    Calls Tryd.prog 32 #[.string s] w fun e w' => e = .returned (.bool (isWord (bts s))) ∧ w = w' := by
  have HW := Lib.hid (isWord_or s)
  rcases Bool.eq_false_or_eq_true (s.toList == [105, 110, 112, 117, 116]) with b0 | b0
  · rw [b0] at HW
    go_enter Tryd.func32, Tryd.ntmps32
    go_wp2
    go_ret
    exact ⟨by rw [HW.out]; rfl, rfl⟩
  rw [b0] at HW
  rcases Bool.eq_false_or_eq_true (s.toList == [108, 101, 116]) with b1 | b1
  · rw [b1] at HW
    go_enter Tryd.func32, Tryd.ntmps32
    go_wp2
    go_ret
    exact ⟨by rw [HW.out]; rfl, rfl⟩
  rw [b1] at HW
  rcases Bool.eq_false_or_eq_true (s.toList == [111, 117, 116, 112, 117, 116]) with b2 | b2
  · rw [b2] at HW
    go_enter Tryd.func32, Tryd.ntmps32
    go_wp2
    go_ret
    exact ⟨by rw [HW.out]; rfl, rfl⟩
  rw [b2] at HW
  rcases Bool.eq_false_or_eq_true (s.toList == [114, 101, 108, 117]) with b3 | b3
  · rw [b3] at HW
    go_enter Tryd.func32, Tryd.ntmps32
    go_wp2
    go_ret
    exact ⟨by rw [HW.out]; rfl, rfl⟩
  rw [b3] at HW
  rcases Bool.eq_false_or_eq_true (s.toList == [115, 117, 109]) with b4 | b4
  · rw [b4] at HW
    go_enter Tryd.func32, Tryd.ntmps32
    go_wp2
    go_ret
    exact ⟨by rw [HW.out]; rfl, rfl⟩
  rw [b4] at HW
  rcases Bool.eq_false_or_eq_true (s.toList == [97, 114, 103, 109, 97, 120]) with b5 | b5
  · rw [b5] at HW
    go_enter Tryd.func32, Tryd.ntmps32
    go_wp2
    go_ret
    exact ⟨by rw [HW.out]; rfl, rfl⟩
  rw [b5] at HW
  rcases Bool.eq_false_or_eq_true (s.toList == [109, 97, 120]) with b6 | b6
  · rw [b6] at HW
    go_enter Tryd.func32, Tryd.ntmps32
    go_wp2
    go_ret
    exact ⟨by rw [HW.out]; rfl, rfl⟩
  rw [b6] at HW
  rcases Bool.eq_false_or_eq_true (s.toList == [109, 117, 120]) with b7 | b7
  · rw [b7] at HW
    go_enter Tryd.func32, Tryd.ntmps32
    go_wp2
    go_ret
    exact ⟨by rw [HW.out]; rfl, rfl⟩
  rw [b7] at HW
  go_enter Tryd.func32, Tryd.ntmps32
  go_wp2
  go_ret
  exact ⟨by rw [HW.out]; rfl, rfl⟩
end Go.Proofs.YtkogbighpidfhaaDoor
