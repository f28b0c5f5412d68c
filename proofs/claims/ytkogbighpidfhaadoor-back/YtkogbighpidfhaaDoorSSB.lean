/- Contract of lex's front. -/
import Derived.Test.YtkogbighpidfhaaDoorSSA
namespace Go.Proofs.YtkogbighpidfhaaDoor
open Go.RowKit
open Lx

/-- What front answers. -/
def frV (s : ByteArray) : Value := match tok (bts s) with
  | some (k, l, n) => aTk k (s.extract 0 l) n
  | none => noTk
theorem frV_shape (s : ByteArray) : ∃ (k : Int) (t : ByteArray) (v : Int) (b : Bool), frV s = .tuple #[tkV k t v 0, .bool b] := by
  unfold frV
  split
  · exact ⟨_, _, _, _, rfl⟩
  · exact ⟨_, _, _, _, rfl⟩
theorem frV_name (s : ByteArray) (c : Nat) (r : List Nat) (hd : bts s = c :: r) (hc : letter c = true) :
    (if run namec (bts s) ≤ 16 then aTk (if isWord ((bts s).take (run namec (bts s))) then 4 else 1) (s.extract 0 (run namec (bts s))) 0 else noTk) = frV s := by
  have hnd : ¬ digit c = true := by
    rw [letter_iff] at hc; rw [digit_iff]; omega
  unfold frV
  rw [hd]
  simp only [tok]
  rw [if_neg hnd, if_pos hc]
  split
  · rfl
  · rfl
theorem frV_number (s : ByteArray) (c : Nat) (r : List Nat) (hd : bts s = c :: r) (hc : digit c = true) :
    (if NumOk c (run digit (bts s)) (bts s) then aTk 2 (s.extract 0 (run digit (bts s))) (val 0 ((bts s).take (run digit (bts s)))) else noTk) = frV s := by
  unfold frV
  rw [hd]
  simp only [tok]
  rw [if_pos hc]
  by_cases h : NumOk c (run digit (c :: r)) (c :: r)
  · rw [if_pos h, if_pos (show val 0 ((c :: r).take (run digit (c :: r))) < 18446744073709551616 ∧ (run digit (c :: r) = 1 ∨ c ≠ 48) ∧ lowAt ((c :: r).drop (run digit (c :: r))) = false from h)]
  · rw [if_neg h, if_neg (show ¬ (val 0 ((c :: r).take (run digit (c :: r))) < 18446744073709551616 ∧ (run digit (c :: r) = 1 ∨ c ≠ 48) ∧ lowAt ((c :: r).drop (run digit (c :: r))) = false) from h)]
theorem frV_sign (s : ByteArray) (c : Nat) (r : List Nat) (hd : bts s = c :: r) (hl : letter c = false) (hg : digit c = false) :
    (if c = 62 ∧ twice r = true then aTk 3 (s.extract 0 2) 0 else if sign c = true then aTk 3 (s.extract 0 1) 0 else noTk) = frV s := by
  have ht : tok (c :: r) = if c = 62 then (if twice r then some (3, 2, 0) else none) else if sign c then some (3, 1, 0) else none := by
    simp only [tok]
    rw [if_neg (show ¬ digit c = true by rw [hg]; decide), if_neg (show ¬ letter c = true by rw [hl]; decide)]
  unfold frV
  rw [hd, ht]
  clear ht
  by_cases h62 : c = 62
  · rw [if_pos h62]
    by_cases ht : twice r = true
    · rw [if_pos ⟨h62, ht⟩, if_pos ht]
    · rw [if_neg (fun h => ht h.2), if_neg ht, if_neg (by subst h62; decide)]
  · rw [if_neg (fun h => h62 h.1), if_neg h62]
    by_cases hs : sign c = true
    · rw [if_pos hs, if_pos hs]
    · rw [if_neg hs, if_neg hs]
set_option maxHeartbeats 8000000 in
set_option maxRecDepth 100000 in
theorem front_any (s : ByteArray) (w : World) (h0 : 0 < s.size) (hs : s.size ≤ 1000000) (hE : ErrR w) :
    Calls Tryd.prog 16 #[.string s] w fun e w' => e = .returned (frV s) ∧ Below w.heap.size w w' := by
  obtain ⟨w1, hw1⟩ : ∃ x, w.alloc (.cells (tkC 0 ⟨#[]⟩ 0 0) 37) = x := ⟨_, rfl⟩
  have hb1 : Below w.heap.size w w1 := hw1 ▸ (Below.refl _ _).alloc (Nat.le_refl _) _
  have X : TkB w1 w.heap.size 0 ⟨#[]⟩ 0 0 := hw1 ▸ Blk.new w 37 (tkC 0 ⟨#[]⟩ 0 0)
  have hE1 : ErrR w1 := hE.below hb1 hE.lt
  have HX := Lib.hid (And.intro hb1 X)
  have HW := Lib.hid hw1
  obtain ⟨c, hc, hbb, hd⟩ := at_byte s 0 h0
  have hix := run_ix s 0 c h0 hbb
  rw [Int.natCast_zero] at hix
  rw [List.drop_zero] at hd
  have lz : (0 : Int) < (s.size : Int) := by omega
  have HL := Lib.hid (isLetter_any c w1)
  have HD := Lib.hid (isDigit_any c w1)
  obtain ⟨k, t, v, b, hv⟩ := frV_shape s
  have hN := frontName_any s _ w1 rfl hs
  have hS := frontSign_any s c _ w1 hd hs
  have hU := fun h => frontNumber_any s c _ _ w1 hd rfl h hs hE1
  cases hl : letter c
  · cases hg : digit c
    · rw [frV_sign s c _ hd hl hg, hv] at hS
      rw [hl] at HL
      rw [hg] at HD
      have HC := Lib.hid hS
      rw [hv]
      clear hN hU hS hv hE hE1 h0 hs hbb hd hl hg hb1 X hw1 hc
      go_enter Tryd.func16, Tryd.ntmps16
      go_wp2_with fail
      rw [HW.out]
      refine HL.out.mono ?_
      rintro e w2 ⟨rfl, rfl⟩
      go_wp2_with fail
      refine HD.out.mono ?_
      rintro e w2 ⟨rfl, rfl⟩
      go_wp2_with fail
      refine HC.out.mono ?_
      rintro e w2 ⟨rfl, hb⟩
      have Y := HX.out.2.below hb HX.out.2.lt
      obtain ⟨c0, c1, c2, c3⟩ := TkB.cells Y
      have f0 := Y.frozen
      have HB := Lib.hid (HX.out.1.trans (hb.mono HX.out.1.size))
      obtain ⟨z0, z1, z2, z3⟩ := (TkB.st Y k t v 0).cells
      clear hb Y
      go_wp2
      exact bodyPost_ret (v := .tuple #[tkV k t v 0, .bool b]) (by simp [results, Tryd.results16, go_sem, z0, z1, z2, z3]) rfl ⟨rfl, below_stK HB.out (Nat.le_refl _) _ _ _ _⟩
    · have hU' := hU hg
      rw [frV_number s c _ hd hg, hv] at hU'
      rw [hl] at HL
      rw [hg] at HD
      have HC := Lib.hid hU'
      rw [hv]
      clear hN hU hU' hS hv hE hE1 h0 hs hbb hd hl hg hb1 X hw1 hc
      go_enter Tryd.func16, Tryd.ntmps16
      go_wp2_with fail
      rw [HW.out]
      refine HL.out.mono ?_
      rintro e w2 ⟨rfl, rfl⟩
      go_wp2_with fail
      refine HD.out.mono ?_
      rintro e w2 ⟨rfl, rfl⟩
      go_wp2_with fail
      refine HC.out.mono ?_
      rintro e w2 ⟨rfl, hb⟩
      have Y := HX.out.2.below hb HX.out.2.lt
      obtain ⟨c0, c1, c2, c3⟩ := TkB.cells Y
      have f0 := Y.frozen
      have HB := Lib.hid (HX.out.1.trans (hb.mono HX.out.1.size))
      obtain ⟨z0, z1, z2, z3⟩ := (TkB.st Y k t v 0).cells
      clear hb Y
      go_wp2
      exact bodyPost_ret (v := .tuple #[tkV k t v 0, .bool b]) (by simp [results, Tryd.results16, go_sem, z0, z1, z2, z3]) rfl ⟨rfl, below_stK HB.out (Nat.le_refl _) _ _ _ _⟩
  · rw [frV_name s c _ hd hl, hv] at hN
    rw [hl] at HL
    have HC := Lib.hid hN
    rw [hv]
    clear hN hU hS hv hE hE1 h0 hs hbb hd hl hb1 X hw1 hc HD
    go_enter Tryd.func16, Tryd.ntmps16
    go_wp2_with fail
    rw [HW.out]
    refine HL.out.mono ?_
    rintro e w2 ⟨rfl, rfl⟩
    go_wp2_with fail
    refine HC.out.mono ?_
    rintro e w2 ⟨rfl, hb⟩
    have Y := HX.out.2.below hb HX.out.2.lt
    obtain ⟨c0, c1, c2, c3⟩ := TkB.cells Y
    have f0 := Y.frozen
    have HB := Lib.hid (HX.out.1.trans (hb.mono HX.out.1.size))
    obtain ⟨z0, z1, z2, z3⟩ := (TkB.st Y k t v 0).cells
    clear hb Y
    go_wp2
    exact bodyPost_ret (v := .tuple #[tkV k t v 0, .bool b]) (by simp [results, Tryd.results16, go_sem, z0, z1, z2, z3]) rfl ⟨rfl, below_stK HB.out (Nat.le_refl _) _ _ _ _⟩
end Go.Proofs.YtkogbighpidfhaaDoor
