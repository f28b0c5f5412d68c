/- The laws' common beginning: the document's examples hold; and the contract of Sum. -/
import Derived.Test.YtbfflmjhkeaimaaDoorM2
import Derived.Test.YtbfflmjhkeaimaaDoorL1
namespace Go.Proofs.YtbfflmjhkeaimaaDoor
open Go.RowKit

theorem At.one {w : World} {g : Nat} {f : Nat → Int} (h : w.cell? ⟨g, 0, none⟩ = some (.int .u64 (f 0))) : At w ⟨g, 0, none⟩ 1 f := by
  intro i hi
  obtain rfl : i = 0 := by omega
  exact h
theorem At.own {w : World} {g N : Nat} {f : Nat → Int} (h : Own w g N f) : At w ⟨g, 0, none⟩ N f := by
  intro i hi
  have e : (⟨g, 0, none⟩ : Addr).add i = ⟨g, i, none⟩ := by
    unfold Addr.add; split
    · subst i; rfl
    · simp
  rw [e]; exact h.cell i hi
theorem own_lit2 (w : World) (a b : Int) : Own (w.alloc (.cells #[.int .u64 a, .int .u64 b] 22)) w.heap.size 2 (fun q => if q = 0 then a else b) := heap_alloc_new w _
set_option maxHeartbeats 1000000 in
set_option maxRecDepth 100000 in
theorem awake_any (w : World) : Calls Tryd.prog 10 #[] w fun e w' => e = .returned (.bool true) ∧ Below w.heap.size w w' := by
  go_enter Tryd.func10, Tryd.ntmps10
  go_wp2_with fail
  have hA : At ((w.alloc (.cells #[.int .u64 1, .int .u64 2] 22)).alloc (.cells #[.int .u64 3, .int .u64 4] 22)) ⟨w.heap.size, 0, none⟩ (1 * 2) (fun q => if q = 0 then 1 else 2) := At.own ((own_lit2 w 1 2).alloc _)
  have hB : At ((w.alloc (.cells #[.int .u64 1, .int .u64 2] 22)).alloc (.cells #[.int .u64 3, .int .u64 4] 22)) ⟨w.heap.size + 1, 0, none⟩ (2 * 1) (fun q => if q = 0 then 3 else 4) := by
    have := own_lit2 (w.alloc (.cells #[.int .u64 1, .int .u64 2] 22)) 3 4
    simp only [World.size_alloc] at this
    exact At.own this
  refine (mat_ok 1 2 1 2 2 _ _ ⟨w.heap.size, 0, none⟩ ⟨w.heap.size + 1, 0, none⟩ _ (by omega) (by omega) (by omega) hA hB (by simp; omega) (by simp) (by omega)).mono ?_
  rintro e w1 ⟨g, hg, rfl, hO, hb⟩
  have c1 : w1.cell? ⟨g, 0, none⟩ = some (.int .u64 11) := hO.cell 0 (by omega)
  have HB := Lib.hid ((((Below.refl w.heap.size w).alloc (Nat.le_refl _) _).alloc (by simp) _).trans (hb.mono (by simp; omega)))
  clear hA hB hO hb hg
  have f1 : flr 18446744073709551613 1 = 18446744073709551614 := by decide +kernel
  have f2 : lss 18446744073709551615 0 = 1 := by decide +kernel
  have f3 : dlo 0 9223372036854775808 = 135 := by decide +kernel
  have f5 := fun w => run_eql_lab w 135 0 135 0
  have f4 : dhi 0 9223372036854775808 = 0 := by decide +kernel
  go_wp2_with (first
    | (go_at_call 11; refine (floor_any _ _ _).mono ?_; rintro e w' ⟨rfl, rfl⟩)
    | (go_at_call 13; refine (less_any _ _ _).mono ?_; rintro e w' ⟨rfl, rfl⟩)
    | (go_at_call 24; refine (double_any 0 9223372036854775808 _ (by omega) (by omega) (by omega) (by omega)).mono ?_; rintro e w2 ⟨rfl, hb2⟩; have HB2 := Lib.hid hb2; clear hb2))
  go_ret
  exact ⟨rfl, HB.out.trans (HB2.out.mono HB.out.size)⟩

theorem U_wrap (n : Int) : IntKind.u64.wrap n = U n := u64w n
set_option maxHeartbeats 400000 in
theorem sum_any (ad : Addr) (n c : Nat) (f : Nat → Int) (w : World) (hl : n ≤ maxLen) (hr : At w ad n f) :
    Calls Tryd.prog 17 #[.slice (some ad) n c] w fun e w' => e = .returned (.int .u64 (U (sumTo f n))) ∧ w = w' := by
  have HR := Lib.hid hr
  clear hr
  unfold maxLen at hl
  go_enter Tryd.func17, Tryd.ntmps17
  go_wp2
  go_loop [3, 7] (fun t i => ∃ k : Nat, k ≤ n ∧ i = .int .i64 k ∧ t = .int .u64 (U (sumTo f k))) (fun _ i => n - (intOf i).toNat)
  case atStart => exact ⟨0, by omega, rfl, rfl⟩
  case round =>
    obtain ⟨k, hn, rfl, rfl⟩ := hrel
    by_cases hlt : k < n
    · have hc := HR.out k hlt
      go_wp2
      go_round
      case rel => exact ⟨k + 1, by omega, by go_num, by rw [u64w]; show _ = Value.int .u64 (U (sumTo f k + f k)); unfold U; congr 1; omega⟩
      case measure => simp [intOf]; omega
    · go_wp2
      go_ret
      exact ⟨ret_int (by rw [show k = n by omega]), rfl⟩
set_option maxHeartbeats 400000 in
theorem sum_nil (w : World) :
    Calls Tryd.prog 17 #[.slice none 0 0] w fun e w' => e = .returned (.int .u64 0) ∧ w = w' := by
  go_enter Tryd.func17, Tryd.ntmps17
  go_wp2
  go_loop [3, 7] (fun t i => t = .int .u64 0 ∧ i = .int .i64 0) (fun _ _ => 0)
  case atStart => exact ⟨rfl, rfl⟩
  case round =>
    obtain ⟨rfl, rfl⟩ := hrel
    go_wp2
    go_ret
    exact ⟨rfl, rfl⟩
end Go.Proofs.YtbfflmjhkeaimaaDoor
