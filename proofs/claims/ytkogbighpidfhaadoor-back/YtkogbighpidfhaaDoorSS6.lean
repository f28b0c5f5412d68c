/- Contracts of lex's frontName and frontSign. -/
import Derived.Test.YtkogbighpidfhaaDoorSS5
import Derived.Laws.StandIn
namespace Go.Proofs.YtkogbighpidfhaaDoor
open Go.RowKit
open Lx

/-- No token: what is answered. -/
abbrev noTk : Value := .tuple #[tkV 0 ⟨#[]⟩ 0 0, .bool false]
abbrev aTk (k : Nat) (s : ByteArray) (n : Nat) : Value := .tuple #[tkV (k : Int) s (n : Int) 0, .bool true]
theorem bts_to (s : ByteArray) (n : Nat) : bts (s.extract 0 n) = (bts s).take n := by rw [bts_extract, List.drop_zero, Nat.sub_zero]
set_option maxHeartbeats 8000000 in
set_option maxRecDepth 100000 in
theorem frontName_any (s : ByteArray) (n : Nat) (w : World) (hn : run namec (bts s) = n) (hs : s.size ≤ 1000000) :
    Calls Tryd.prog 25 #[.string s] w fun e w' => e = .returned (if n ≤ 16 then aTk (if isWord ((bts s).take n) then 4 else 1) (s.extract 0 n) 0 else noTk) ∧ Below w.heap.size w w' := by
  obtain ⟨w1, hw1⟩ : ∃ x, w.alloc (.cells (tkC 0 ⟨#[]⟩ 0 0) 37) = x := ⟨_, rfl⟩
  have hb1 : Below w.heap.size w w1 := hw1 ▸ (Below.refl _ _).alloc (Nat.le_refl _) _
  have X : TkB w1 w.heap.size 0 ⟨#[]⟩ 0 0 := hw1 ▸ Blk.new w 37 (tkC 0 ⟨#[]⟩ 0 0)
  have HN := Lib.hid (inName_any s w1 hs)
  rw [hn] at HN
  have hnl := run_le namec (bts s)
  rw [hn, bts_length] at hnl
  have HX := Lib.hid (And.intro hb1 X)
  have HW := Lib.hid hw1
  have HS := Lib.hid (And.intro hs hnl)
  clear hb1 X hw1 hn
  by_cases h16 : n ≤ 16
  · have lt1 : ¬ (16 : Int) < (n : Int) := by omega
    have l0 : (0 : Int) ≤ (n : Int) := by omega
    have l1 : (n : Int) ≤ (s.size : Int) := by omega
    have HI := Lib.hid (isWord_any (s.extract 0 n) w1)
    rw [bts_to] at HI
    rw [if_pos h16]
    obtain ⟨b, hb⟩ : ∃ b, isWord ((bts s).take n) = b := ⟨_, rfl⟩
    rw [hb] at HI ⊢
    have HCt := fun k : Int => Lib.hid (cut_any k s n w1 hnl (by omega))
    clear h16 hb hnl hs
    go_enter Tryd.func25, Tryd.ntmps25
    go_wp2_with fail
    rw [HW.out]
    refine HN.out.mono ?_
    rintro e w2 ⟨rfl, rfl⟩
    go_wp2_with fail
    refine HI.out.mono ?_
    rintro e w2 ⟨rfl, rfl⟩
    clear HN HI
    cases b
    · go_wp2_with fail
      refine (HCt 1).out.mono ?_
      rintro e w2 ⟨rfl, hb⟩
      have Y := HX.out.2.below hb HX.out.2.lt
      obtain ⟨c0, c1, c2, c3⟩ := TkB.cells Y
      have f0 := Y.frozen
      have HB := Lib.hid (HX.out.1.trans (hb.mono HX.out.1.size))
      obtain ⟨z0, z1, z2, z3⟩ := (TkB.st Y 1 (s.extract 0 n) 0 0).cells
      clear hb HCt HX HW Y
      go_wp2
      exact bodyPost_ret (v := aTk 1 (s.extract 0 n) 0) (by simp [results, Tryd.results25, go_sem, z0, z1, z2, z3]) rfl ⟨rfl, below_stK HB.out (Nat.le_refl _) _ _ _ _⟩
    · go_wp2_with fail
      refine (HCt 4).out.mono ?_
      rintro e w2 ⟨rfl, hb⟩
      have Y := HX.out.2.below hb HX.out.2.lt
      obtain ⟨c0, c1, c2, c3⟩ := TkB.cells Y
      have f0 := Y.frozen
      have HB := Lib.hid (HX.out.1.trans (hb.mono HX.out.1.size))
      obtain ⟨z0, z1, z2, z3⟩ := (TkB.st Y 4 (s.extract 0 n) 0 0).cells
      clear hb HCt HX HW Y
      go_wp2
      exact bodyPost_ret (v := aTk 4 (s.extract 0 n) 0) (by simp [results, Tryd.results25, go_sem, z0, z1, z2, z3]) rfl ⟨rfl, below_stK HB.out (Nat.le_refl _) _ _ _ _⟩
  · have lt1 : (16 : Int) < (n : Int) := by omega
    rw [if_neg h16]
    obtain ⟨c0, c1, c2, c3⟩ := TkB.cells HX.out.2
    have f0 := Blk.frozen HX.out.2
    obtain ⟨z0, z1, z2, z3⟩ := (TkB.st HX.out.2 0 ⟨#[]⟩ 0 0).cells
    clear h16 hnl hs
    go_enter Tryd.func25, Tryd.ntmps25
    go_wp2_with fail
    rw [HW.out]
    refine HN.out.mono ?_
    rintro e w2 ⟨rfl, rfl⟩
    clear HN
    go_wp2
    exact bodyPost_ret (v := noTk) (by simp [results, Tryd.results25, go_sem, z0, z1, z2, z3]) rfl ⟨rfl, below_stK HX.out.1 (Nat.le_refl _) _ _ _ _⟩
end Go.Proofs.YtkogbighpidfhaaDoor
