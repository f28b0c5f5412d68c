/- The walk of the law RingLabels: it answers true, and makes new memory alone. -/
import Derived.Test.YtbfflmjhkeaimaaDoorL2
namespace Go.Proofs.YtbfflmjhkeaimaaDoor
open Go.RowKit
/-- Are two labels the same? -/
def labEq (a b c d : Int) : Bool := (a == c) && (b == d)
theorem run_labEq (w : World) (a b c d : Int) : (Op.equalIn 10000 43 (lab a b) (lab c d)).run Tryd.prog w = .ok (labEq a b c d) w := run_eql_lab w a b c d
def LS (w : World) (a0 a1 b0 b1 : Int) (w' : World) : Prop := Below w.heap.size w w' ∧ Lbl w' w.heap.size a0 a1 ∧ Lbl w' (w.heap.size + 1) b0 b1
theorem LS.next {w w1 w2 : World} {a0 a1 b0 b1 : Int} (h : LS w a0 a1 b0 b1 w1) (hb : Below w1.heap.size w1 w2) : LS w a0 a1 b0 b1 w2 :=
  ⟨h.1.trans (hb.mono h.1.size), (hb.block _ h.2.1.lt).trans h.2.1, (hb.block _ h.2.2.lt).trans h.2.2⟩
theorem LS.cells {w w1 : World} {a0 a1 b0 b1 : Int} (h : LS w a0 a1 b0 b1 w1) :
    (w1.cell? ⟨w.heap.size, 0, none⟩ = some (.int .u64 a0) ∧ w1.cell? ⟨w.heap.size, 1, none⟩ = some (.int .u64 a1) ∧ w1.cell? ⟨w.heap.size + 1, 0, none⟩ = some (.int .u64 b0) ∧ w1.cell? ⟨w.heap.size + 1, 1, none⟩ = some (.int .u64 b1)) ∧ Hid (LS w a0 a1 b0 b1 w1) :=
  ⟨⟨h.2.1.cell0, h.2.1.cell1, h.2.2.cell0, h.2.2.cell1⟩, h⟩
theorem LS.drew {w w1 : World} {a0 a1 b0 b1 : Int} (h : LS w a0 a1 b0 b1 w1) : LS w a0 a1 b0 b1 w1.drew := ⟨h.1.drew, h.2.1, h.2.2⟩
theorem LS.step {w w1 w2 : World} {a0 a1 b0 b1 : Int} {p : Prop} (hb : Hid (Below w1.heap.size w1 w2)) (h : p ∧ Hid (LS w a0 a1 b0 b1 w1)) :
    (w2.cell? ⟨w.heap.size, 0, none⟩ = some (.int .u64 a0) ∧ w2.cell? ⟨w.heap.size, 1, none⟩ = some (.int .u64 a1) ∧ w2.cell? ⟨w.heap.size + 1, 0, none⟩ = some (.int .u64 b0) ∧ w2.cell? ⟨w.heap.size + 1, 1, none⟩ = some (.int .u64 b1)) ∧ Hid (LS w a0 a1 b0 b1 w2) :=
  (h.2.out.next hb.out).cells
set_option maxHeartbeats 4000000 in
set_option maxRecDepth 100000 in
theorem labels_walk (a0 a1 b0 b1 : Int) (w : World) (h0 : 0 ≤ a0 ∧ a0 < 18446744073709551616) (h1 : 0 ≤ a1 ∧ a1 < 18446744073709551616) (k0 : 0 ≤ b0 ∧ b0 < 18446744073709551616) (k1 : 0 ≤ b1 ∧ b1 < 18446744073709551616) :
    Calls Tryd.prog 6 #[lab a0 a1, lab b0 b1] w fun e w' => e = .returned (.bool true) ∧ Below w.heap.size w w' := by
  obtain ⟨x0, x1, inj⟩ := labels_math a0 a1 b0 b1 h0 h1 k0 k1
  have q1 : ∀ a b, labEq a b a b = true := fun a b => by simp [labEq]
  have q2 : labEq (dlo a0 a1) (dhi a0 a1) (dlo b0 b1) (dhi b0 b1) = labEq a0 a1 b0 b1 := by
    by_cases e : a0 = b0 ∧ a1 = b1
    · obtain ⟨rfl, rfl⟩ := e; simp [labEq]
    · have e' : ¬ (dlo a0 a1 = dlo b0 b1 ∧ dhi a0 a1 = dhi b0 b1) := fun h => e (inj h.1 h.2)
      have l1 : labEq a0 a1 b0 b1 = false := by simpa [labEq] using e
      have l2 : labEq (dlo a0 a1) (dhi a0 a1) (dlo b0 b1) (dhi b0 b1) = false := by simpa [labEq] using e'
      rw [l1, l2]
  have q3 := fun w a b c d => run_labEq w a b c d
  have HX := Lib.hid (And.intro (xor_bd a0 b0 h0 k0) (xor_bd a1 b1 h1 k1))
  have HB := Lib.hid (And.intro h0 (And.intro h1 (And.intro k0 k1)))
  clear inj h0 h1 k0 k1
  go_enter Tryd.func6, Tryd.ntmps6
  go_wp2
  have HS : LS w a0 a1 b0 b1 ((w.alloc (.cells #[.int .u64 a0, .int .u64 a1] 43)).alloc (.cells #[.int .u64 b0, .int .u64 b1] 43)) := by
    refine ⟨((Below.refl _ _).alloc (Nat.le_refl _) _).alloc (by simp) _, (Lbl.new w a0 a1).alloc _, ?_⟩
    have := Lbl.new (w.alloc (.cells #[.int .u64 a0, .int .u64 a1] 43)) b0 b1
    simp only [World.size_alloc] at this
    exact this
  have HS0 := HS.cells
  clear HS
  generalize ((w.alloc (.cells #[.int .u64 a0, .int .u64 a1] 43)).alloc (.cells #[.int .u64 b0, .int .u64 b1] 43)) = w0 at HS0 ⊢
  go_region_held3 (fun w' => (w'.cell? ⟨w.heap.size, 0, none⟩ = some (.int .u64 a0) ∧ w'.cell? ⟨w.heap.size, 1, none⟩ = some (.int .u64 a1) ∧ w'.cell? ⟨w.heap.size + 1, 0, none⟩ = some (.int .u64 b0) ∧ w'.cell? ⟨w.heap.size + 1, 1, none⟩ = some (.int .u64 b1)) ∧ Hid (LS w a0 a1 b0 b1 w')) (first | exact LS.cells (LS.drew HS0.2.out) | exact LS.step (by assumption) (by assumption))
    (first
      | (go_at_call 10; refine (awake_any _).mono ?_; rintro e w1 ⟨rfl, hb1⟩; have HB1 := Lib.hid hb1; clear hb1)
      | (go_at_call 22; refine (xor_any _ _ _ _ _).mono ?_; rintro e w1 ⟨rfl, hb1⟩; have HB1 := Lib.hid hb1; clear hb1)
      | (go_at_call 23; refine (rxor_any _ _ _ _ _).mono ?_; rintro e w1 ⟨rfl, hb1⟩; have HB1 := Lib.hid hb1; clear hb1)
      | (go_at_call 24; refine (double_any _ _ _ ?_ ?_ ?_ ?_).mono ?_; (with_reducible first | exact HB.out.1.1 | exact HB.out.2.2.1.1 | exact HX.out.1.1); (with_reducible first | exact HB.out.1.2 | exact HB.out.2.2.1.2 | exact HX.out.1.2); (with_reducible first | exact HB.out.2.1.1 | exact HB.out.2.2.2.1 | exact HX.out.2.1); (with_reducible first | exact HB.out.2.1.2 | exact HB.out.2.2.2.2 | exact HX.out.2.2); rintro e w1 ⟨rfl, hb1⟩; have HB1 := Lib.hid hb1; clear hb1)
      | (go_at_call 25; refine (rdouble_any _ _ _ ?_ ?_ ?_ ?_).mono ?_; (exact HB.out.1.1); (exact HB.out.1.2); (exact HB.out.2.1.1); (exact HB.out.2.1.2); rintro e w1 ⟨rfl, hb1⟩; have HB1 := Lib.hid hb1; clear hb1))
  go_wp2
  rename_i hh
  go_ret
  exact ⟨rfl, hh.2.out.1⟩
end Go.Proofs.YtbfflmjhkeaimaaDoor
