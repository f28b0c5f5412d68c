/- Contract of lex's frontNumber. -/
import Derived.Test.YtkogbighpidfhaaDoorSS9
namespace Go.Proofs.YtkogbighpidfhaaDoor
open Go.RowKit
open Lx

set_option maxHeartbeats 8000000 in
set_option maxRecDepth 100000 in
theorem frontNumber_any (s : ByteArray) (c n : Nat) (r : List Nat) (w : World) (hd : bts s = c :: r) (hn : run digit (bts s) = n) (hc : digit c = true) (hs : s.size ≤ 1000000) (hE : ErrR w) :
    Calls Tryd.prog 27 #[.string s] w fun e w' => e = .returned (if NumOk c n (bts s) then aTk 2 (s.extract 0 n) (val 0 ((bts s).take n)) else noTk) ∧ Below w.heap.size w w' := by
  have hsz : s.size = r.length + 1 := by rw [← bts_length, hd]; rfl
  have hnl := run_le digit (bts s)
  rw [hn, bts_length] at hnl
  have hn0 : 0 < n := by rw [← hn, hd]; exact run_pos hc
  obtain ⟨w1, hw1⟩ : ∃ x, w.alloc (.cells (tkC 0 ⟨#[]⟩ 0 0) 37) = x := ⟨_, rfl⟩
  have hb1 : Below w.heap.size w w1 := hw1 ▸ (Below.refl _ _).alloc (Nat.le_refl _) _
  have X : TkB w1 w.heap.size 0 ⟨#[]⟩ 0 0 := hw1 ▸ Blk.new w 37 (tkC 0 ⟨#[]⟩ 0 0)
  have hE1 : ErrR w1 := hE.below hb1 hE.lt
  have HX := Lib.hid (And.intro hb1 X)
  have HW := Lib.hid hw1
  have HC := Lib.hid (count_any _ _ clo_isDigit s w1 hs)
  rw [hn] at HC
  obtain ⟨c', hc2, hbb, hdd⟩ := at_byte s 0 (by omega)
  obtain rfl : c' = c := by
    rw [hd] at hdd
    simp at hdd
    exact hdd.symm
  have hix := run_ix s 0 c' (by omega) hbb
  rw [Int.natCast_zero] at hix
  have lz : (0 : Int) < (s.size : Int) := by omega
  obtain ⟨c0, c1, c2, c3⟩ := TkB.cells X
  have f0 := Blk.frozen X
  obtain ⟨z0, z1, z2, z3⟩ := (TkB.st X 0 ⟨#[]⟩ 0 0).cells
  have HM := Lib.hid (inName_any s w1 hs)
  obtain ⟨m, hm⟩ : ∃ m, run namec (bts s) = m := ⟨_, rfl⟩
  rw [hm] at HM
  have hbd := behind_digits (bts s)
  rw [hn, hm] at hbd
  have hml := run_le namec (bts s)
  rw [hm, bts_length] at hml
  clear hb1 X hw1 hbb hdd hc2 hE
  -- the walks that refuse
  by_cases h1 : 1 < n ∧ c' = 48
  · rw [if_neg (fun h : NumOk c' n (bts s) => by rcases h.2.1 with h | h <;> omega)]
    have l1 : (1 : Int) < (n : Int) := by omega
    obtain ⟨_, rfl⟩ := h1
    have b48 : (((48 : Nat) : Int) == 48) = true := rfl
    clear hnl hsz hn hn0 hbd hm hml hd hc hs HM hE1
    go_enter Tryd.func27, Tryd.ntmps27
    go_wp2_with fail
    rw [HW.out]
    refine HC.out.mono ?_
    rintro e w2 ⟨rfl, rfl⟩
    clear HC
    go_wp2
    exact bodyPost_ret (v := noTk) (by simp [results, Tryd.results27, go_sem, z0, z1, z2, z3]) rfl ⟨rfl, below_stK HX.out.1 (Nat.le_refl _) _ _ _ _⟩
  have H1 := Lib.hid (show n = 1 ∨ c' ≠ 48 by omega)
  have HLw := Lib.hid hbd
  have HPs := Lib.hid (parse_any (s.extract 0 n) w1 (by rw [ByteArray.size_extract]; omega) (by rw [bts_to, ← hn]; exact run_take digit (bts s)) (by rw [ByteArray.size_extract]; omega) hE1)
  rw [bts_to] at HPs
  have HNl := Lib.hid (And.intro hnl hs)
  have hT : ((1 : Int) < (n : Int) ∧ ((c' : Int) == 48) = false) ∨ ¬ (1 : Int) < (n : Int) := by
    rcases H1.out with h | h
    · exact .inr (by omega)
    · by_cases hl : (1 : Int) < (n : Int)
      · exact .inl ⟨hl, neI c' 48 (by omega)⟩
      · exact .inr hl
  have ln0 : (0 : Int) ≤ (n : Int) := by omega
  have ln1 : (n : Int) ≤ (s.size : Int) := by omega
  clear hnl hsz hn hn0 hbd hm hml hd hc hs h1 hE1
  by_cases h2 : n < m
  · rw [if_neg (fun h : NumOk c' n (bts s) => by have h3 := h.2.2; rw [HLw.out.1 h2] at h3; cases h3)]
    have lm : (n : Int) < (m : Int) := by omega
    clear h2
    rcases hT with ⟨l1, b48⟩ | l1
    all_goals
      go_enter Tryd.func27, Tryd.ntmps27
      go_wp2_with fail
      rw [HW.out]
      refine HC.out.mono ?_
      rintro e w2 ⟨rfl, rfl⟩
      go_wp2_with fail
      refine HM.out.mono ?_
      rintro e w2 ⟨rfl, rfl⟩
      go_wp2
      exact bodyPost_ret (v := noTk) (by simp [results, Tryd.results27, go_sem, z0, z1, z2, z3]) rfl ⟨rfl, below_stK HX.out.1 (Nat.le_refl _) _ _ _ _⟩
  have lm : ¬ (n : Int) < (m : Int) := by omega
  have HL2 := Lib.hid (show lowAt ((bts s).drop n) = false by
    rw [Bool.eq_false_iff]
    exact fun h => h2 (HLw.out.2 h))
  clear h2
  by_cases hv : val 0 ((bts s).take n) < 18446744073709551616
  · rw [if_pos (show NumOk c' n (bts s) from ⟨hv, H1.out, HL2.out⟩)]
    have HP := Lib.hid (HPs.out.1 hv)
    clear HPs
    obtain ⟨v, hve⟩ : ∃ v, val 0 ((bts s).take n) = v := ⟨_, rfl⟩
    rw [hve] at HP ⊢
    have HV := Lib.hid hve
    clear hv hve
    rcases hT with ⟨l1, b48⟩ | l1
    all_goals
      go_enter Tryd.func27, Tryd.ntmps27
      go_wp2_with fail
      rw [HW.out]
      refine HC.out.mono ?_
      rintro e w2 ⟨rfl, rfl⟩
      go_wp2_with fail
      refine HM.out.mono ?_
      rintro e w2 ⟨rfl, rfl⟩
      go_wp2_with fail
      refine HP.out.mono ?_
      rintro e w2 ⟨rfl, hb2⟩
      have HCt := Lib.hid (cut_any 2 s n w2 HNl.out.1 (by have := HNl.out.2; omega))
      have H2 := Lib.hid hb2
      clear hb2
      go_wp2_with fail
      refine HCt.out.mono ?_
      rintro e w3 ⟨rfl, hb3⟩
      have hb13 := H2.out.trans (hb3.mono H2.out.size)
      have H3 := Lib.hid (And.intro (HX.out.1.trans (hb13.mono HX.out.1.size)) (HX.out.2.below hb13 HX.out.2.lt))
      clear hb3 hb13 c0 c1 c2 c3 f0 z0 z1 z2 z3
      have Y : TkB (w3.alloc (.cells (tkC 2 (s.extract 0 n) (v : Int) 0) 37)) w.heap.size 0 ⟨#[]⟩ 0 0 := H3.out.2.alloc _
      obtain ⟨c0, c1, c2, c3⟩ := Y.cells
      have f0 := Blk.frozen Y
      obtain ⟨z0, z1, z2, z3⟩ := (TkB.st Y 2 (s.extract 0 n) (v : Int) 0).cells
      have HB := Lib.hid (H3.out.1.alloc H3.out.1.size (.cells (tkC 2 (s.extract 0 n) (v : Int) 0) 37))
      clear Y
      go_wp2
      exact bodyPost_ret (v := aTk 2 (s.extract 0 n) v) (by simp [results, Tryd.results27, go_sem, z0, z1, z2, z3]) rfl ⟨rfl, below_stK HB.out (Nat.le_refl _) _ _ _ _⟩
  · rw [if_neg (fun h : NumOk c' n (bts s) => hv h.1)]
    have HP := Lib.hid (HPs.out.2 hv)
    clear HPs hv
    rcases hT with ⟨l1, b48⟩ | l1
    all_goals
      go_enter Tryd.func27, Tryd.ntmps27
      go_wp2_with fail
      rw [HW.out]
      refine HC.out.mono ?_
      rintro e w2 ⟨rfl, rfl⟩
      go_wp2_with fail
      refine HM.out.mono ?_
      rintro e w2 ⟨rfl, rfl⟩
      go_wp2_with fail
      refine HP.out.mono ?_
      rintro e w2 ⟨⟨x, te, pe, rfl⟩, hb2⟩
      have Y := HX.out.2.below hb2 HX.out.2.lt
      clear c0 c1 c2 c3 f0 z0 z1 z2 z3
      obtain ⟨c0, c1, c2, c3⟩ := TkB.cells Y
      have f0 := Y.frozen
      obtain ⟨z0, z1, z2, z3⟩ := (TkB.st Y 0 ⟨#[]⟩ 0 0).cells
      have HB := Lib.hid (HX.out.1.trans (hb2.mono HX.out.1.size))
      clear hb2 Y
      go_wp2
      exact bodyPost_ret (v := noTk) (by simp [results, Tryd.results27, go_sem, z0, z1, z2, z3]) rfl ⟨rfl, below_stK HB.out (Nat.le_refl _) _ _ _ _⟩
end Go.Proofs.YtkogbighpidfhaaDoor
