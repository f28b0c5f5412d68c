/- The law's helper 'turned', and what three matrices' products have in common. -/
import Derived.Test.YtbfflmjhkeaimaaDoorM3
namespace Go.Proofs.YtbfflmjhkeaimaaDoor
open Go.RowKit

def tr (q : Nat) : Nat := q % 3 * 3 + q / 3
theorem tr_lt {q : Nat} (h : q < 9) : tr q < 9 := by unfold tr; omega
theorem tr_tr {q : Nat} (h : q < 9) : tr (tr q) = q := by unfold tr; omega
def turnF (f : Nat → Int) (i q : Nat) : Int := if tr q < i then f (tr q) else 0
theorem turnF_step (f : Nat → Int) (i q : Nat) (hi : i < 9) (hq : q < 9) : (if q = tr i then f i else turnF f i q) = turnF f (i + 1) q := by
  unfold turnF
  by_cases e : q = tr i
  · subst e
    rw [if_pos rfl, if_pos (by rw [tr_tr hi]; omega), tr_tr hi]
  · rw [if_neg e]
    by_cases h : tr q < i
    · rw [if_pos h, if_pos (by omega)]
    · rw [if_neg h, if_neg]
      intro h'
      have : tr q = i := by omega
      exact e (by rw [← this, tr_tr hq])
set_option maxHeartbeats 1000000 in
theorem turned_any (ga : Nat) (f : Nat → Int) (w : World) (hA : Own w ga 9 f) :
    Calls Tryd.prog 28 #[.slice (some ⟨ga, 0, none⟩) 9 9] w (NewList 9 (fun q => f (tr q)) w) := by
  have hmk : (Instr.makeSlice 28 (.int .i64 9) (.int .i64 9)).run Tryd.prog w = .ok (.slice (some ⟨w.heap.size, 0, none⟩) 9 9) (w.alloc (.cells (wordsOf 9 fun _ => 0).toArray 22)) := run_makeWords w 9 (by omega)
  have hO : Own (w.alloc (.cells (wordsOf 9 fun _ => 0).toArray 22)) w.heap.size 9 (fun _ => 0) := heap_alloc_new w _
  have hb : Below w.heap.size w (w.alloc (.cells (wordsOf 9 fun _ => 0).toArray 22)) := (Below.refl _ _).alloc (Nat.le_refl _) _
  have H := Lib.hid (And.intro hO hb)
  have HA := Lib.hid hA
  clear hO hb hA
  go_enter Tryd.func28, Tryd.ntmps28
  go_wp2
  clear hmk
  generalize w.alloc (.cells (wordsOf 9 fun _ => 0).toArray 22) = w2 at H ⊢
  go_loopw [10] (fun t wr => ∃ i : Nat, i ≤ 9 ∧ t = .int .i64 i ∧ Hid (Own wr w.heap.size 9 (turnF f i)) ∧ Hid (Below w.heap.size w wr)) (fun t _ => 9 - (intOf t).toNat)
  case atStart => exact ⟨0, by omega, rfl, H.out.1.congr fun q _ => by simp [turnF], H.out.2⟩
  case round =>
    clear H
    obtain ⟨i, hi, rfl, HO, HW⟩ := hrel
    by_cases hlt : i < 9
    · have c1 : wr.cell? ⟨ga, i, none⟩ = some (.int .u64 (f i)) := (HA.out.below HW.out HA.out.lt).cell i hlt
      have c2 := HO.out.cell (tr i) (tr_lt hlt)
      have c3 := HO.out.frozen (tr i)
      unfold tr at c2 c3
      go_wp2
      go_roundw
      case rel => exact ⟨i + 1, by omega, by go_num, (HO.out.set (tr i) (tr_lt hlt) (f i)).congr fun q hq => turnF_step f i q hlt hq, HW.out.setCell (Nat.le_refl _) _⟩
      case measure => simp [intOf]; omega
    · go_wp2
      go_ret
      refine ⟨w.heap.size, Nat.le_refl _, rfl, HO.out.congr fun q hq => ?_, HW.out⟩
      unfold turnF
      rw [if_pos (by have := tr_lt hq; omega)]

theorem U_cong {x y : Int} (h : x % 18446744073709551616 = y % 18446744073709551616) : U x = U y := h
theorem U_add (x y : Int) : U (U x + U y) = U (x + y) := by unfold U; omega
theorem U_mulL (x y : Int) : U (U x * y) = U (x * y) := by
  unfold U; rw [Int.mul_emod, Int.emod_emod_of_dvd _ (Int.dvd_refl _), ← Int.mul_emod]
theorem U_mulR (x y : Int) : U (x * U y) = U (x * y) := by rw [Int.mul_comm, U_mulL, Int.mul_comm]
theorem U_sum3 (a b c : Int) : U (a + b + c) = U (U a + U b + U c) := by unfold U; omega
theorem prod3 (f g : Nat → Int) (q : Nat) : prodF f g 3 3 q = U (f (q / 3 * 3) * g (q % 3) + f (q / 3 * 3 + 1) * g (3 + q % 3) + f (q / 3 * 3 + 2) * g (6 + q % 3)) := by
  show U (0 + f (q / 3 * 3 + 0) * g (0 * 3 + q % 3) + f (q / 3 * 3 + 1) * g (1 * 3 + q % 3) + f (q / 3 * 3 + 2) * g (2 * 3 + q % 3)) = _
  rw [Nat.add_zero, Nat.zero_mul, Nat.zero_add, Int.zero_add]
theorem prod3_at (f g : Nat → Int) (i j : Nat) (hj : j < 3) : prodF f g 3 3 (i * 3 + j) = U (f (i * 3) * g j + f (i * 3 + 1) * g (3 + j) + f (i * 3 + 2) * g (6 + j)) := by
  rw [prod3, show (i * 3 + j) / 3 = i by omega, show (i * 3 + j) % 3 = j by omega]
theorem assoc_words (a0 a1 a2 b00 b01 b02 b10 b11 b12 b20 b21 b22 c0 c1 c2 : Int) :
    U (U (a0 * b00 + a1 * b10 + a2 * b20) * c0 + U (a0 * b01 + a1 * b11 + a2 * b21) * c1 + U (a0 * b02 + a1 * b12 + a2 * b22) * c2) =
      U (a0 * U (b00 * c0 + b01 * c1 + b02 * c2) + a1 * U (b10 * c0 + b11 * c1 + b12 * c2) + a2 * U (b20 * c0 + b21 * c1 + b22 * c2)) := by
  rw [U_sum3 (U _ * c0), U_mulL, U_mulL, U_mulL, ← U_sum3, U_sum3 (a0 * U _), U_mulR, U_mulR, U_mulR, ← U_sum3]
  congr 1
  simp only [Int.add_mul, Int.mul_add, Int.mul_assoc]
  omega
theorem prod_assoc (f g h : Nat → Int) (q : Nat) : prodF (prodF f g 3 3) h 3 3 q = prodF f (prodF g h 3 3) 3 3 q := by
  rw [prod3 (prodF f g 3 3), prod3 f (prodF g h 3 3)]
  have hj : q % 3 < 3 := by omega
  have e0 := prod3_at f g (q / 3) 0 (by omega)
  have e1 := prod3_at f g (q / 3) 1 (by omega)
  have e2 := prod3_at f g (q / 3) 2 (by omega)
  have d0 := prod3_at g h 0 (q % 3) hj
  have d1 := prod3_at g h 1 (q % 3) hj
  have d2 := prod3_at g h 2 (q % 3) hj
  simp only [Nat.zero_mul, Nat.one_mul, Nat.zero_add, Nat.add_zero] at e0 e1 e2 d0 d1 d2
  rw [e0, e1, e2, d0, d1, show 6 + q % 3 = 2 * 3 + q % 3 by omega, d2]
  exact assoc_words ..
theorem prod_spread (f g h : Nat → Int) (q : Nat) : prodF f (fun i => U (g i + h i)) 3 3 q = U (prodF f g 3 3 q + prodF f h 3 3 q) := by
  rw [prod3, prod3, prod3, U_add, U_sum3, U_mulR, U_mulR, U_mulR, ← U_sum3]
  congr 1
  simp only [Int.mul_add]
  omega
theorem prod_turned (f g : Nat → Int) (q : Nat) (hq : q < 9) : prodF f g 3 3 (tr q) = prodF (fun i => g (tr i)) (fun i => f (tr i)) 3 3 q := by
  have e : tr q = q % 3 * 3 + q / 3 := rfl
  rw [e, prod3_at f g (q % 3) (q / 3) (by omega), prod3]
  have t0 : tr (q / 3 * 3) = q / 3 := by unfold tr; omega
  have t1 : tr (q / 3 * 3 + 1) = 3 + q / 3 := by unfold tr; omega
  have t2 : tr (q / 3 * 3 + 2) = 6 + q / 3 := by unfold tr; omega
  have s0 : tr (q % 3) = q % 3 * 3 := by unfold tr; omega
  have s1 : tr (3 + q % 3) = q % 3 * 3 + 1 := by unfold tr; omega
  have s2 : tr (6 + q % 3) = q % 3 * 3 + 2 := by unfold tr; omega
  rw [t0, t1, t2, s0, s1, s2, Int.mul_comm (f _), Int.mul_comm (f _), Int.mul_comm (f _)]
theorem prod_ones (f : Nat → Int) : prodF f (fun q => if q = 0 then 1 else if q = 1 then 1 else 1) 3 1 0 = U (sumTo f 3) := by
  show U (0 + f (0 * 3 + 0) * _ + f (0 * 3 + 1) * _ + f (0 * 3 + 2) * _) = U (0 + f 0 + f 1 + f 2)
  simp
end Go.Proofs.YtbfflmjhkeaimaaDoor
