/- Contract of lex's frontSign. -/
import Derived.Test.YtkogbighpidfhaaDoorSS7
namespace Go.Proofs.YtkogbighpidfhaaDoor
open Go.RowKit
open Lx

theorem pair_iff (c : Nat) (r : List Nat) : ((c :: r).take 2 == [62, 62]) = decide (c = 62 ∧ twice r = true) := by
  rcases r with _ | ⟨d, r⟩
  · simp [twice]
  · simp only [List.take_succ_cons, List.take_zero, twice]
    by_cases h1 : c = 62 <;> by_cases h2 : d = 62 <;> simp [h1, h2]
set_option maxHeartbeats 8000000 in
set_option maxRecDepth 100000 in
theorem frontSign_any (s : ByteArray) (c : Nat) (r : List Nat) (w : World) (hd : bts s = c :: r) (hs : s.size ≤ 1000000) :
    Calls Tryd.prog 28 #[.string s] w fun e w' => e = .returned (if c = 62 ∧ twice r = true then aTk 3 (s.extract 0 2) 0 else if sign c = true then aTk 3 (s.extract 0 1) 0 else noTk) ∧ Below w.heap.size w w' := by
  have hsz : s.size = r.length + 1 := by rw [← bts_length, hd]; rfl
  obtain ⟨w1, hw1⟩ : ∃ x, w.alloc (.cells (tkC 0 ⟨#[]⟩ 0 0) 37) = x := ⟨_, rfl⟩
  have hb1 : Below w.heap.size w w1 := hw1 ▸ (Below.refl _ _).alloc (Nat.le_refl _) _
  have X : TkB w1 w.heap.size 0 ⟨#[]⟩ 0 0 := hw1 ▸ Blk.new w 37 (tkC 0 ⟨#[]⟩ 0 0)
  have HX := Lib.hid (And.intro hb1 X)
  have HW := Lib.hid hw1
  obtain ⟨b, hb⟩ : ∃ b, decide (c = 62 ∧ twice r = true) = b := ⟨_, rfl⟩
  have HP := Lib.hid (prefix_any s b w1 (by rw [hd, pair_iff, hb]))
  clear hb1 X hw1
  cases b
  · rw [if_neg (of_decide_eq_false hb)]
    obtain ⟨c', hc, hbb, hdd⟩ := at_byte s 0 (by omega)
    obtain rfl : c' = c := by
      rw [hd] at hdd
      simp at hdd
      exact hdd.symm
    obtain ⟨j, hj, hjs⟩ := sign_idx c' hc
    have HI := Lib.hid (index_any c' j w1 hj)
    have hix := run_ix s 0 c' (by omega) hbb
    have l0 : (0 : Int) < (s.size : Int) := by omega
    rw [Int.natCast_zero] at hix
    by_cases hsg : sign c' = true
    · have l1 : 0 ≤ j := hjs.2 hsg
      rw [if_pos hsg]
      have HCt := Lib.hid (cut_any 3 s 1 w1 (by omega) (by omega))
      clear hsg hjs hj hc hbb hdd hd hb hsz hs
      go_enter Tryd.func28, Tryd.ntmps28
      go_wp2_with fail
      rw [HW.out]
      refine HP.out.mono ?_
      rintro e w2 ⟨rfl, rfl⟩
      clear HP
      go_wp2_with fail
      refine HI.out.mono ?_
      rintro e w2 ⟨rfl, rfl⟩
      clear HI
      go_wp2_with fail
      refine HCt.out.mono ?_
      rintro e w2 ⟨rfl, hb⟩
      have Y := HX.out.2.below hb HX.out.2.lt
      obtain ⟨c0, c1, c2, c3⟩ := TkB.cells Y
      have f0 := Y.frozen
      have HB := Lib.hid (HX.out.1.trans (hb.mono HX.out.1.size))
      obtain ⟨z0, z1, z2, z3⟩ := (TkB.st Y 3 (s.extract 0 1) 0 0).cells
      clear hb HCt HX HW Y
      go_wp2
      exact bodyPost_ret (v := aTk 3 (s.extract 0 1) 0) (by simp [results, Tryd.results28, go_sem, z0, z1, z2, z3]) rfl ⟨rfl, below_stK HB.out (Nat.le_refl _) _ _ _ _⟩
    · have l1 : ¬ 0 ≤ j := fun h => hsg (hjs.1 h)
      rw [if_neg hsg]
      obtain ⟨c0, c1, c2, c3⟩ := TkB.cells HX.out.2
      have f0 := Blk.frozen HX.out.2
      obtain ⟨z0, z1, z2, z3⟩ := (TkB.st HX.out.2 0 ⟨#[]⟩ 0 0).cells
      clear hsg hjs hj hc hbb hdd hd hb hsz hs
      go_enter Tryd.func28, Tryd.ntmps28
      go_wp2_with fail
      rw [HW.out]
      refine HP.out.mono ?_
      rintro e w2 ⟨rfl, rfl⟩
      clear HP
      go_wp2_with fail
      refine HI.out.mono ?_
      rintro e w2 ⟨rfl, rfl⟩
      clear HI
      go_wp2
      exact bodyPost_ret (v := noTk) (by simp [results, Tryd.results28, go_sem, z0, z1, z2, z3]) rfl ⟨rfl, below_stK HX.out.1 (Nat.le_refl _) _ _ _ _⟩
  · rw [if_pos (of_decide_eq_true hb)]
    have h2 : 2 ≤ s.size := by
      have := of_decide_eq_true hb
      rcases r with _ | ⟨d, r⟩
      · exact absurd this.2 (by decide)
      · rw [hsz]; simp
    have HCt := Lib.hid (cut_any 3 s 2 w1 h2 (by omega))
    clear hb hd hsz hs h2
    go_enter Tryd.func28, Tryd.ntmps28
    go_wp2_with fail
    rw [HW.out]
    refine HP.out.mono ?_
    rintro e w2 ⟨rfl, rfl⟩
    clear HP
    go_wp2_with fail
    refine HCt.out.mono ?_
    rintro e w2 ⟨rfl, hb⟩
    have Y := HX.out.2.below hb HX.out.2.lt
    obtain ⟨c0, c1, c2, c3⟩ := TkB.cells Y
    have f0 := Y.frozen
    have HB := Lib.hid (HX.out.1.trans (hb.mono HX.out.1.size))
    obtain ⟨z0, z1, z2, z3⟩ := (TkB.st Y 3 (s.extract 0 2) 0 0).cells
    clear hb HCt HX HW Y
    go_wp2
    exact bodyPost_ret (v := aTk 3 (s.extract 0 2) 0) (by simp [results, Tryd.results28, go_sem, z0, z1, z2, z3]) rfl ⟨rfl, below_stK HB.out (Nat.le_refl _) _ _ _ _⟩
end Go.Proofs.YtkogbighpidfhaaDoor
