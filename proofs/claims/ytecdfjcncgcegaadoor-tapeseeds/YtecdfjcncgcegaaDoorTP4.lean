/- The law's own reads: a tape answers as its words do. -/
import Derived.Test.YtecdfjcncgcegaaDoorTX0
import Derived.Test.YtecdfjcncgcegaaDoorAQ0
namespace Go.Proofs.YtecdfjcncgcegaaDoor
open Go.RowKit

/-- Ints that are read from where a list begins. -/
def AtI (w : World) (A : Option Addr) (n : Nat) (f : Nat → Int) : Prop := ∀ i, i < n → ∃ ad, A = some ad ∧ w.cell? (ad.add i) = some (.int .i64 (f i))
theorem Keep.atI {g : Nat} {w w' : World} (h : Keep g w w') {A : Option Addr} {n : Nat} {f : Nat → Int} (ha : AtI w A n f) (hg : ∀ ad, A = some ad → 0 < n → ad.block ≠ g) : AtI w' A n f := fun i hi => by
  obtain ⟨ad, e, hc⟩ := ha i hi
  have hb : (ad.add i).block = ad.block := by unfold Addr.add; split <;> rfl
  refine ⟨ad, e, ?_⟩
  rw [World.cell?_of_block (w := w) (h.block _ (World.block_lt_of_cell? _ _ hc) (by rw [hb]; exact hg ad e (by omega)))]
  exact hc
theorem AtI.below {w w' : World} {A : Option Addr} {n : Nat} {f : Nat → Int} (h : AtI w A n f) (hb : Below w.heap.size w w') : AtI w' A n f := fun i hi => by
  obtain ⟨ad, e, hc⟩ := h i hi
  exact ⟨ad, e, (hb.cell (World.block_lt_of_cell? _ _ hc)).trans hc⟩
/-- What reads holds to, round by round. -/
def RdIn (w : World) (g h N : Nat) (f : Nat → Int) (u : Nat) (wr : World) : Prop := Tap wr g h N f u ∧ Keep g w wr
theorem RdIn.below {w w1 w2 : World} {g h N u : Nat} {f : Nat → Int} (hr : RdIn w g h N f u w1) (hb : Below w1.heap.size w1 w2) : RdIn w g h N f u w2 :=
  ⟨hr.1.below hb, hr.2.trans (Keep.of_below hb (Nat.le_refl _))⟩
theorem tmod2 (x : Int) : (x.tmod 2 == 0) = true ∨ (x.tmod 2 == 0) = false := by cases (x.tmod 2 == 0) <;> simp

set_option maxHeartbeats 4000000 in
set_option maxRecDepth 100000 in
theorem reads_any (g h N M : Nat) (f sc : Nat → Int) (A B : Option Addr) (c d : Nat) (w : World) (ht : Tap w g h N f 0) (hh : Handle w) (hg : 0 ≠ g)
    (hA : AtO w A N f) (hAg : ∀ ad, A = some ad → 0 < N → ad.block ≠ g) (hB : AtI w B M sc) (hBg : ∀ ad, B = some ad → 0 < M → ad.block ≠ g) (hM : M ≤ maxLen) :
    Calls Tryd.prog 9 #[.pointer (some ⟨g, 0, none⟩), .slice A N c, .slice B M d] w fun e w' => e = .returned (.bool true) ∧ Keep g w w' := by
  have hN : N < 9223372036854775807 := ht.2.2.1
  unfold maxLen at hM
  have H0 := Lib.hid (And.intro hh (And.intro hg (And.intro hA (And.intro hAg (And.intro hB hBg)))))
  have HT := Lib.hid ht
  clear ht hh hg hA hAg hB hBg
  go_enter Tryd.func9, Tryd.ntmps9
  go_wp2
  go_loopw [7, 8] (fun a i wr => ∃ u k : Nat, u ≤ N ∧ k ≤ M ∧ a = .int .i64 u ∧ i = .int .i64 k ∧ Hid (RdIn w g h N f u wr)) (fun _ i _ => M - (intOf i).toNat)
  case atStart => exact ⟨0, 0, by omega, by omega, rfl, rfl, HT.out, Keep.refl _ _⟩
  case round =>
    obtain ⟨u, k, hu, hk, rfl, rfl, HR⟩ := hrel
    clear HT
    have e2 : IntKind.i64.wrap ((N : Int) - (u : Int)) = (N : Int) - (u : Int) := i64_nat _ (by omega) (by omega)
    by_cases hlt : k < M
    · by_cases h200 : (k : Int) < 200
      · obtain ⟨sa, rfl, cs⟩ := (HR.out.2.atI H0.out.2.2.2.2.1 H0.out.2.2.2.2.2) k hlt
        have e1 : IntKind.i64.wrap ((k : Int) + 1) = (k : Int) + 1 := i64_nat _ (by omega) (by omega)
        have q1 : (k : Int) < (M : Int) := by omega
        have q2 : (0 : Int) ≤ (k : Int) := by omega
        rcases tmod2 (sc k) with t1 | t1
        · by_cases hun : u < N
          · obtain ⟨wa, rfl, cw⟩ := H0.out.2.2.1 u hun
            have e3 : IntKind.i64.wrap ((u : Int) + 1) = (u : Int) + 1 := i64_nat _ (by omega) (by omega)
            have q3 : (u : Int) < (N : Int) := by omega
            have q4 : (0 : Int) ≤ (u : Int) := by omega
            have hne : (f u != f u) = false := by simp
            go_wp2_with (go_at_call 15; refine (next_some _ g h N f u HR.out.1 hun).mono ?_; rintro e w1 ⟨rfl, h1, h2⟩; have H1 := Lib.hid (show RdIn w g h N f (u + 1) w1 from ⟨h1, HR.out.2.trans h2⟩); obtain ⟨wb, eb, cw1⟩ := H1.out.2.atO H0.out.2.2.1 H0.out.2.2.2.1 u hun; cases eb; clear h1 h2)
            go_roundw
            case rel => exact ⟨u + 1, k + 1, by omega, by omega, by go_num, by go_num, H1.out⟩
            case measure => simp [intOf]; omega
          · have q3 : (N : Int) ≤ (u : Int) := by omega
            go_wp2_with (first
              | (go_at_call 15; refine (next_none _ g h N f u HR.out.1 hun (Handle.keep H0.out.1 HR.out.2 H0.out.2.1)).mono ?_; rintro e w1 ⟨rfl, h1⟩; have H1 := Lib.hid (show RdIn w g h N f u w1 from RdIn.below HR.out h1); clear h1)
              | (go_at_call 16; refine (fis_chain _ 40 40 _).mono ?_; rintro e w2 ⟨rfl, h2⟩; have H2 := Lib.hid (show RdIn w g h N f u w2 from RdIn.below H1.out h2); clear h2))
            go_roundw
            case rel => exact ⟨u, k + 1, by omega, by omega, rfl, by go_num, H2.out⟩
            case measure => simp [intOf]; omega
        · by_cases hun : u + 1 < N
          · obtain ⟨wa, rfl, cw⟩ := H0.out.2.2.1 u (by omega)
            have e3 : IntKind.i64.wrap ((u : Int) + 1) = (u : Int) + 1 := i64_nat _ (by omega) (by omega)
            have e4 : IntKind.i64.wrap ((u : Int) + 2) = (u : Int) + 2 := i64_nat _ (by omega) (by omega)
            have q3 : (u : Int) < (N : Int) := by omega
            have q4 : (0 : Int) ≤ (u : Int) := by omega
            have q5 : (u : Int) + 1 < (N : Int) := by omega
            have q6 : (0 : Int) ≤ (u : Int) + 1 := by omega
            have q7 : ¬ ((N : Int) - (u : Int) < 2) := by omega
            go_wp2_with (go_at_call 14; refine (label_some _ g h N f u HR.out.1 hun).mono ?_; rintro e w1 ⟨rfl, h1, h2⟩; have H1 := Lib.hid (show RdIn w g h N f (u + 2) w1 from ⟨h1, HR.out.2.trans h2⟩); clear h1 h2)
            generalize hW2 : w1.alloc (.cells #[.int .u64 (f u), .int .u64 (f (u + 1))] 39) = w2
            have hL : Lbl w2 w1.heap.size (f u) (f (u + 1)) := by rw [← hW2]; exact Lbl.new w1 _ _
            have hb2 : Below w1.heap.size w1 w2 := by rw [← hW2]; exact below_lab w1 _ _
            have H2 := Lib.hid (show RdIn w g h N f (u + 2) w2 from RdIn.below H1.out hb2)
            obtain ⟨wb, eb, cw1⟩ := H2.out.2.atO H0.out.2.2.1 H0.out.2.2.2.1 u (by omega)
            cases eb
            obtain ⟨wb, eb, cw2⟩ := H2.out.2.atO H0.out.2.2.1 H0.out.2.2.2.1 (u + 1) hun
            cases eb
            have t1 : ((u : Int) + 1).toNat = u + 1 := by omega
            have cw3 : w2.cell? { block := wa.block, off := wa.off + (u + 1) } = some (.int .u64 (f (u + 1))) := by rw [← cw2]; simp [Addr.add]
            have l0 := hL.cell0
            have l1 := hL.cell1
            have f5 := fun w => run_eql_lab w (f u) (f (u + 1)) (f u) (f (u + 1))
            clear hW2 hL hb2 H1
            go_quiet (fail)
            go_wp2
            go_roundw
            case rel => exact ⟨u + 2, k + 1, by omega, by omega, by go_num, by go_num, RdIn.below H2.out ⟨rfl, rfl, rfl, Nat.le_refl _, fun _ _ => rfl⟩⟩
            case measure => simp [intOf]; omega
          · have q7 : (N : Int) - (u : Int) < 2 := by omega
            have f5 := fun w => run_eql_lab w 0 0 0 0
            go_wp2_with (first
              | (go_at_call 14; refine (label_none _ g h N f u HR.out.1 hun (Handle.keep H0.out.1 HR.out.2 H0.out.2.1)).mono ?_; rintro e w1 ⟨rfl, h1⟩; have H1 := Lib.hid (show RdIn w g h N f u w1 from RdIn.below HR.out h1); clear h1)
              | (go_at_call 16; refine (fis_chain _ 40 40 _).mono ?_; rintro e w2 ⟨rfl, h2⟩; have H2 := Lib.hid (show RdIn w g h N f u w2 from RdIn.below H1.out ((below_lab w1 _ _).trans (h2.mono (by simp)))); clear h2))
            go_roundw
            case rel => exact ⟨u, k + 1, by omega, by omega, rfl, by go_num, H2.out⟩
            case measure => simp [intOf]; omega
      · go_wp2_with (first
          | (go_at_call 12; refine (used_any _ g h N f u HR.out.1).mono ?_; rintro e w1 ⟨rfl, rfl⟩)
          | (go_at_call 13; refine (left_any _ g h N f u HR.out.1).mono ?_; rintro e w1 ⟨rfl, rfl⟩))
        go_ret
        exact ⟨rfl, HR.out.2⟩
    · go_wp2_with (first
        | (go_at_call 12; refine (used_any _ g h N f u HR.out.1).mono ?_; rintro e w1 ⟨rfl, rfl⟩)
        | (go_at_call 13; refine (left_any _ g h N f u HR.out.1).mono ?_; rintro e w1 ⟨rfl, rfl⟩))
      go_ret
      exact ⟨rfl, HR.out.2⟩
end Go.Proofs.YtecdfjcncgcegaaDoor
