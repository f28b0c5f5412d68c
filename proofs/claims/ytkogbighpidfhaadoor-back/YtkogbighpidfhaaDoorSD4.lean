/- The document's one: at a letter. -/
import Derived.Test.YtkogbighpidfhaaDoorSD3
import Derived.Test.YtkogbighpidfhaaDoorBQ4
namespace Go.Proofs.YtkogbighpidfhaaDoor
open Go.RowKit
open Lx

/-- As Ob, whatever the result's block holds. -/
structure Oc (w w' : World) (k : Int) (t : ByteArray) (v a : Int) : Prop where
  r : ∃ k0 t0 v0 a0, TkB w' w.heap.size k0 t0 v0 a0
  t : TkB w' (w.heap.size + 1) k t v a
theorem Oc.drew {w w' : World} {k v a : Int} {t : ByteArray} (h : Oc w w' k t v a) : Oc w w'.drew k t v a := ⟨h.r, h.t⟩
theorem Ob.oc {w w' : World} {k v a : Int} {t : ByteArray} (h : Ob w w' k t v a) : Oc w w' k t v a := ⟨⟨_, _, _, _, h.r⟩, h.t⟩
theorem Oc.put {w w' : World} {k v a : Int} {t : ByteArray} (h : Oc w w' k t v a) (k1 : Int) (t1 : ByteArray) (v1 a1 : Int) : Oc w (stK w' w.heap.size k1 t1 v1 a1) k t v a := by
  obtain ⟨_, _, _, _, hr⟩ := h.r
  refine ⟨⟨_, _, _, _, hr.st k1 t1 v1 a1⟩, ?_⟩
  have n (i : Nat) : w.heap.size + 1 ≠ (⟨w.heap.size, i, none⟩ : Addr).block := by show w.heap.size + 1 ≠ w.heap.size; omega
  exact (((Blk.far h.t (n 0) _).far (n 1) _).far (n 2) _).far (n 3) _
set_option maxHeartbeats 16000000 in
set_option maxRecDepth 100000 in
theorem rone_name (s : ByteArray) (a c n : Nat) (r : List Nat) (w : World) (ha : a < s.size) (hd : (bts s).drop a = c :: r) (hc : letter c = true) (hn : run namec ((bts s).drop a) = n) (hs : s.size ≤ 1000000) :
    Calls Tryd.prog 18 #[.string s, .int .i64 (a : Int)] w (OneAns s a w) := by
  obtain ⟨w1, hw1⟩ : ∃ x, (w.alloc (.cells (tkC 0 ⟨#[]⟩ 0 0) 37)).alloc (.cells (tkC 0 ⟨#[]⟩ 0 (a : Int)) 37) = x := ⟨_, rfl⟩
  have HO := Lib.hid (show Ob w w1 0 ⟨#[]⟩ 0 (a : Int) from hw1 ▸ Ob.new w (a : Int))
  have HW := Lib.hid hw1
  clear hw1
  have hg : digit c = false := by rw [Bool.eq_false_iff]; intro h; rw [digit_iff] at h; rw [letter_iff] at hc; omega
  have HD := Lib.hid (rDigit_any c w1)
  rw [hg] at HD
  have HL := Lib.hid (rLetter_any c w1)
  rw [hc] at HL
  obtain ⟨c', hc2, hbb, hdd⟩ := at_byte s a ha
  obtain rfl : c' = c := by
    rw [hd] at hdd
    injection hdd with h _
    exact h.symm
  have hix := run_ix s a c' ha hbb
  have hnl := run_le namec ((bts s).drop a)
  rw [hn, List.length_drop, bts_length] at hnl
  have hn0 : 0 < n := by rw [← hn, hd]; exact run_pos (namec_letter hc)
  have HA := Lib.hid (show a < s.size ∧ s.size ≤ 1000000 ∧ 0 < n ∧ a + n ≤ s.size from ⟨ha, hs, hn0, by omega⟩)
  have HN := Lib.hid hn
  have HDr := Lib.hid hd
  have HC := Lib.hid (And.intro hc hg)
  clear ha hd hc hn hs hc2 hbb hdd hnl hn0 hg
  go_enter Tryd.func18, Tryd.ntmps18
  go_wp2_with fail
  rw [HW.out]
  refine HD.out.mono ?_
  rintro e w2 ⟨rfl, rfl⟩
  clear HD
  go_wp2_with fail
  refine HL.out.mono ?_
  rintro e w2 ⟨rfl, rfl⟩
  clear HL
  go_wp2
  go_loop [8] (fun v => ∃ j : Nat, v = .int .i64 (j : Int) ∧ Hid (a ≤ j ∧ j ≤ a + n)) (fun v => s.size - (intOf v).toNat)
  case atStart => exact ⟨a, rfl, Nat.le_refl _, Nat.le_add_right _ _⟩
  case round =>
    clear hix
    obtain ⟨j, rfl, HJ⟩ := hrel
    have HRn := Lib.hid (run_drop_step namec ((bts s).drop a) (j - a) (by rw [HN.out]; have := HJ.out; omega))
    rw [HN.out, List.drop_drop, show a + (j - a) = j by have := HJ.out; omega] at HRn
    by_cases hj : j < s.size
    · obtain ⟨d, hd2, hbb, hdd⟩ := at_byte s j hj
      have lt1 : (j : Int) < (s.size : Int) := by omega
      have hix := run_ix s j d hj hbb
      have e1 : IntKind.i64.wrap ((j : Int) + 1) = (j : Int) + 1 := i64_nat _ (by omega) (by have := HA.out; omega)
      have HDd := Lib.hid (rDigit_any d w1)
      have HLd := Lib.hid (rLetter_any d w1)
      rw [hdd] at HRn
      have HLj := Lib.hid hj
      have hnm : namec d = (letter d || digit d || d == 95) := rfl
      have hgo : namec d = true → j + 1 ≤ a + n := fun hg => by
        have := HRn.out
        simp only [run] at this
        rw [if_pos hg] at this
        have := HJ.out
        omega
      have hno : namec d = false → j = a + n := fun hg => by
        have := HRn.out
        simp only [run] at this
        rw [if_neg (by rw [hg]; decide)] at this
        have := HJ.out
        omega
      cases hl : letter d
      · cases hg : digit d
        · by_cases h95 : d = 95
          · have b1 : ((d : Int) == 95) = true := eqI d 95 (by omega)
            have HG := Lib.hid (hgo (by rw [hnm, hl, hg, h95]; rfl))
            rw [hg] at HDd
            rw [hl] at HLd
            clear hj hd2 hbb hdd hg hl h95 HRn hgo hno hnm
            go_wp2_with fail
            refine HLd.out.mono ?_
            rintro e w2 ⟨rfl, rfl⟩
            go_wp2_with fail
            refine HDd.out.mono ?_
            rintro e w2 ⟨rfl, rfl⟩
            clear HDd HLd
            go_wp2
            go_round
            case rel => exact ⟨j + 1, by go_num, by have := HJ.out; omega, HG.out⟩
            case measure => simp [intOf]; have := HLj.out; omega
          · have b1 : ((d : Int) == 95) = false := neI d 95 (by omega)
            have HG := Lib.hid (hno (by rw [hnm, hl, hg]; simpa using h95))
            rw [hg] at HDd
            rw [hl] at HLd
            clear hj hd2 hbb hdd hg hl h95 HRn hgo hno hnm
            go_wp2_with fail
            refine HLd.out.mono ?_
            rintro e w2 ⟨rfl, rfl⟩
            go_wp2_with fail
            refine HDd.out.mono ?_
            rintro e w2 ⟨rfl, rfl⟩
            clear HDd HLd
            obtain ⟨txt, htx⟩ : ∃ t, s.extract a j = t := ⟨_, rfl⟩
            have hsl := run_sl s a j HJ.out.1 (by have := HJ.out; have := HA.out; have := HG.out; omega)
            rw [htx] at hsl
            have hbt : bts txt = ((bts s).drop a).take n := by rw [← htx, bts_extract, HG.out, Nat.add_sub_cancel_left]
            have htz : (txt.size : Int) = (n : Int) := by rw [← htx, ByteArray.size_extract]; have := HG.out; have := HA.out; omega
            have HTx := Lib.hid htx
            obtain ⟨w2, hw2⟩ : ∃ x, (w1.setCell ⟨w.heap.size + 1, 1, none⟩ (.string txt)).setCell ⟨w.heap.size + 1, 0, none⟩ (.int .i64 1) = x := ⟨_, rfl⟩
            have HO2 := Lib.hid (show Ob w w2 1 txt 0 (a : Int) from hw2 ▸ (HO.out.text txt).kind 1)
            have HW2 := Lib.hid hw2
            have HWd := Lib.hid (rWord_any txt w2)
            rw [hbt] at HWd
            obtain ⟨c0, c1, c2, c3⟩ := TkB.cells HO.out.t
            have f0 := Blk.frozen HO.out.t
            clear htx hbt hw2
            cases hwd : isWord (((bts s).drop a).take n)
            · rw [hwd] at HWd
              go_wp2_with fail
              rw [HW2.out]
              refine HWd.out.mono ?_
              rintro e w3 ⟨rfl, rfl⟩
              clear HWd c0 c1 c2 c3 f0
              go_wp2_with fail
              have HO5 := HO2
              by_cases h16 : n ≤ 16
              · have l16 : (n : Int) ≤ 16 := by omega
                have HT := Lib.hid (show Lx.tok ((bts s).drop a) = some (1, n, 0) by
                  have hn := HN.out
                  rw [HDr.out] at hn hwd ⊢
                  simp only [Lx.tok]
                  rw [if_neg (show ¬ digit c' = true by rw [HC.out.2]; decide), if_pos HC.out.1, hn, if_pos h16, hwd]
                  rfl)
                clear h16
                refine wp_region_held_drew (S := fun w' => Oc w w' 1 txt 0 (a : Int)) (by kernel_rfl) (Ob.oc HO5.out).drew (fun hS => ?_)
                try simp only [Act.put, List.setIfInBounds_toArray, List.set_cons_zero, List.set_cons_succ]
                refine htg (i := 0) rfl (tkV 1 txt 0 (a : Int)) (by kernel_rfl) (by kernel_rfl) (by kernel_rfl) (fun _ _ _ h => h) (by rfl) hS (fun w' hw' => by obtain ⟨t0, t1, t2, t3⟩ := TkB.cells hw'.t; go_simp) ?_
                try simp only [Act.put, List.setIfInBounds_toArray, List.set_cons_zero, List.set_cons_succ]
                refine htg (i := 1) rfl (.pointer (some ⟨w.heap.size + 1, 1, none⟩)) (by kernel_rfl) (by kernel_rfl) (by kernel_rfl) (fun _ _ _ h => h) (by rfl) hS (fun w' hw' => by go_simp) ?_
                try simp only [Act.put, List.setIfInBounds_toArray, List.set_cons_zero, List.set_cons_succ]
                refine htg (i := 2) rfl (.string txt) (by kernel_rfl) (by kernel_rfl) (by kernel_rfl) (fun _ _ _ h => h) (by rfl) hS (fun w' hw' => by obtain ⟨t0, t1, t2, t3⟩ := TkB.cells hw'.t; go_simp) ?_
                try simp only [Act.put, List.setIfInBounds_toArray, List.set_cons_zero, List.set_cons_succ]
                refine htg (i := 3) rfl (.int .i64 (n : Int)) (by kernel_rfl) (by kernel_rfl) (by kernel_rfl) (fun _ _ _ h => h) (by rfl) hS (fun w' hw' => by go_simp) ?_
                try simp only [Act.put, List.setIfInBounds_toArray, List.set_cons_zero, List.set_cons_succ]
                refine htg (i := 4) rfl (.bool true) (by kernel_rfl) (by kernel_rfl) (by kernel_rfl) (fun _ _ _ h => h) (by rfl) hS (fun w' hw' => by go_simp) ?_
                try simp only [Act.put, List.setIfInBounds_toArray, List.set_cons_zero, List.set_cons_succ]
                refine h1g (i := 5) (by kernel_rfl) rfl (by rfl) (fun K' hK => ?_)
                obtain ⟨c0, c1, c2, c3⟩ := TkB.cells HO5.out.r
                have f0 := Blk.frozen HO5.out.r
                obtain ⟨z0, z1, z2, z3⟩ := (TkB.st HO5.out.r 1 txt 0 (a : Int)).cells
                have HB6 := Lib.hid (Below.drew (below_stK HO5.out.b (Nat.le_refl _) 1 txt 0 (a : Int)))
                have HS := Lib.hid (Oc.put hS 1 txt 0 (a : Int))
                clear hS
                go_simp
                refine hK.out _ _ HS.out ?_
                clear hK K' c0 c1 c2 c3 f0
                try simp only [Act.put, List.setIfInBounds_toArray, List.set_cons_zero, List.set_cons_succ]
                refine htg (i := 6) rfl (.bool true) (by kernel_rfl) (by kernel_rfl) (by kernel_rfl) (fun _ _ _ h => h) (by rfl) HS.out (fun w' hw' => by go_simp) ?_
                try simp only [Act.put, List.setIfInBounds_toArray, List.set_cons_zero, List.set_cons_succ]
                refine wpAnyH_done (by kernel_rfl) ?_ _
                go_wp2
                refine bodyPost_ret (v := .tuple #[tkV 1 txt 0 (a : Int), .bool true]) (by simp [results, Tryd.results18, go_sem, z0, z1, z2, z3]) rfl ?_
                unfold OneAns
                rw [HT.out]
                refine ⟨?_, HB6.out⟩
                rw [← HG.out, HTx.out]
                rfl
              · have l16 : ¬ (n : Int) ≤ 16 := by omega
                have HT := Lib.hid (show Lx.tok ((bts s).drop a) = none by
                  have hn := HN.out
                  rw [HDr.out] at hn ⊢
                  simp only [Lx.tok]
                  rw [if_neg (show ¬ digit c' = true by rw [HC.out.2]; decide), if_pos HC.out.1, hn, if_neg h16])
                clear h16
                refine wp_region_held_drew (S := fun w' => Oc w w' 1 txt 0 (a : Int)) (by kernel_rfl) (Ob.oc HO5.out).drew (fun hS => ?_)
                try simp only [Act.put, List.setIfInBounds_toArray, List.set_cons_zero, List.set_cons_succ]
                refine htg (i := 0) rfl (tkV 1 txt 0 (a : Int)) (by kernel_rfl) (by kernel_rfl) (by kernel_rfl) (fun _ _ _ h => h) (by rfl) hS (fun w' hw' => by obtain ⟨t0, t1, t2, t3⟩ := TkB.cells hw'.t; go_simp) ?_
                try simp only [Act.put, List.setIfInBounds_toArray, List.set_cons_zero, List.set_cons_succ]
                refine htg (i := 1) rfl (.pointer (some ⟨w.heap.size + 1, 1, none⟩)) (by kernel_rfl) (by kernel_rfl) (by kernel_rfl) (fun _ _ _ h => h) (by rfl) hS (fun w' hw' => by go_simp) ?_
                try simp only [Act.put, List.setIfInBounds_toArray, List.set_cons_zero, List.set_cons_succ]
                refine htg (i := 2) rfl (.string txt) (by kernel_rfl) (by kernel_rfl) (by kernel_rfl) (fun _ _ _ h => h) (by rfl) hS (fun w' hw' => by obtain ⟨t0, t1, t2, t3⟩ := TkB.cells hw'.t; go_simp) ?_
                try simp only [Act.put, List.setIfInBounds_toArray, List.set_cons_zero, List.set_cons_succ]
                refine htg (i := 3) rfl (.int .i64 (n : Int)) (by kernel_rfl) (by kernel_rfl) (by kernel_rfl) (fun _ _ _ h => h) (by rfl) hS (fun w' hw' => by go_simp) ?_
                try simp only [Act.put, List.setIfInBounds_toArray, List.set_cons_zero, List.set_cons_succ]
                refine htg (i := 4) rfl (.bool false) (by kernel_rfl) (by kernel_rfl) (by kernel_rfl) (fun _ _ _ h => h) (by rfl) hS (fun w' hw' => by go_simp) ?_
                try simp only [Act.put, List.setIfInBounds_toArray, List.set_cons_zero, List.set_cons_succ]
                refine h1g (i := 5) (by kernel_rfl) rfl (by rfl) (fun K' hK => ?_)
                obtain ⟨c0, c1, c2, c3⟩ := TkB.cells HO5.out.r
                have f0 := Blk.frozen HO5.out.r
                obtain ⟨z0, z1, z2, z3⟩ := (TkB.st HO5.out.r 1 txt 0 (a : Int)).cells
                have HB6 := Lib.hid (Below.drew (below_stK HO5.out.b (Nat.le_refl _) 1 txt 0 (a : Int)))
                have HS := Lib.hid (Oc.put hS 1 txt 0 (a : Int))
                clear hS
                go_simp
                refine hK.out _ _ HS.out ?_
                clear hK K' c0 c1 c2 c3 f0
                try simp only [Act.put, List.setIfInBounds_toArray, List.set_cons_zero, List.set_cons_succ]
                refine htg (i := 6) rfl (.bool false) (by kernel_rfl) (by kernel_rfl) (by kernel_rfl) (fun _ _ _ h => h) (by rfl) HS.out (fun w' hw' => by go_simp) ?_
                try simp only [Act.put, List.setIfInBounds_toArray, List.set_cons_zero, List.set_cons_succ]
                refine wpAnyH_done (by kernel_rfl) ?_ _
                go_wp2
                refine bodyPost_ret (v := .tuple #[tkV 1 txt 0 (a : Int), .bool false]) (by simp [results, Tryd.results18, go_sem, z0, z1, z2, z3]) rfl ?_
                unfold OneAns
                rw [HT.out]
                exact ⟨⟨_, _, _, _, rfl⟩, HB6.out⟩
            · rw [hwd] at HWd
              go_wp2_with fail
              rw [HW2.out]
              refine HWd.out.mono ?_
              rintro e w3 ⟨rfl, rfl⟩
              clear HWd c0 c1 c2 c3 f0
              obtain ⟨c0, c1, c2, c3⟩ := TkB.cells HO2.out.t
              have f0 := Blk.frozen HO2.out.t
              go_wp2_with fail
              have HO5 := Lib.hid (HO2.out.kind 4)
              obtain ⟨w5, hw5⟩ : ∃ x, w2.setCell ⟨w.heap.size + 1, 0, none⟩ (.int .i64 4) = x := ⟨_, rfl⟩
              rw [hw5] at HO5 ⊢
              clear hw5 c0 c1 c2 c3 f0
              by_cases h16 : n ≤ 16
              · have l16 : (n : Int) ≤ 16 := by omega
                have HT := Lib.hid (show Lx.tok ((bts s).drop a) = some (4, n, 0) by
                  have hn := HN.out
                  rw [HDr.out] at hn hwd ⊢
                  simp only [Lx.tok]
                  rw [if_neg (show ¬ digit c' = true by rw [HC.out.2]; decide), if_pos HC.out.1, hn, if_pos h16, hwd]
                  rfl)
                clear h16
                refine wp_region_held_drew (S := fun w' => Oc w w' 4 txt 0 (a : Int)) (by kernel_rfl) (Ob.oc HO5.out).drew (fun hS => ?_)
                try simp only [Act.put, List.setIfInBounds_toArray, List.set_cons_zero, List.set_cons_succ]
                refine htg (i := 0) rfl (tkV 4 txt 0 (a : Int)) (by kernel_rfl) (by kernel_rfl) (by kernel_rfl) (fun _ _ _ h => h) (by rfl) hS (fun w' hw' => by obtain ⟨t0, t1, t2, t3⟩ := TkB.cells hw'.t; go_simp) ?_
                try simp only [Act.put, List.setIfInBounds_toArray, List.set_cons_zero, List.set_cons_succ]
                refine htg (i := 1) rfl (.pointer (some ⟨w.heap.size + 1, 1, none⟩)) (by kernel_rfl) (by kernel_rfl) (by kernel_rfl) (fun _ _ _ h => h) (by rfl) hS (fun w' hw' => by go_simp) ?_
                try simp only [Act.put, List.setIfInBounds_toArray, List.set_cons_zero, List.set_cons_succ]
                refine htg (i := 2) rfl (.string txt) (by kernel_rfl) (by kernel_rfl) (by kernel_rfl) (fun _ _ _ h => h) (by rfl) hS (fun w' hw' => by obtain ⟨t0, t1, t2, t3⟩ := TkB.cells hw'.t; go_simp) ?_
                try simp only [Act.put, List.setIfInBounds_toArray, List.set_cons_zero, List.set_cons_succ]
                refine htg (i := 3) rfl (.int .i64 (n : Int)) (by kernel_rfl) (by kernel_rfl) (by kernel_rfl) (fun _ _ _ h => h) (by rfl) hS (fun w' hw' => by go_simp) ?_
                try simp only [Act.put, List.setIfInBounds_toArray, List.set_cons_zero, List.set_cons_succ]
                refine htg (i := 4) rfl (.bool true) (by kernel_rfl) (by kernel_rfl) (by kernel_rfl) (fun _ _ _ h => h) (by rfl) hS (fun w' hw' => by go_simp) ?_
                try simp only [Act.put, List.setIfInBounds_toArray, List.set_cons_zero, List.set_cons_succ]
                refine h1g (i := 5) (by kernel_rfl) rfl (by rfl) (fun K' hK => ?_)
                obtain ⟨c0, c1, c2, c3⟩ := TkB.cells HO5.out.r
                have f0 := Blk.frozen HO5.out.r
                obtain ⟨z0, z1, z2, z3⟩ := (TkB.st HO5.out.r 4 txt 0 (a : Int)).cells
                have HB6 := Lib.hid (Below.drew (below_stK HO5.out.b (Nat.le_refl _) 4 txt 0 (a : Int)))
                have HS := Lib.hid (Oc.put hS 4 txt 0 (a : Int))
                clear hS
                go_simp
                refine hK.out _ _ HS.out ?_
                clear hK K' c0 c1 c2 c3 f0
                try simp only [Act.put, List.setIfInBounds_toArray, List.set_cons_zero, List.set_cons_succ]
                refine htg (i := 6) rfl (.bool true) (by kernel_rfl) (by kernel_rfl) (by kernel_rfl) (fun _ _ _ h => h) (by rfl) HS.out (fun w' hw' => by go_simp) ?_
                try simp only [Act.put, List.setIfInBounds_toArray, List.set_cons_zero, List.set_cons_succ]
                refine wpAnyH_done (by kernel_rfl) ?_ _
                go_wp2
                refine bodyPost_ret (v := .tuple #[tkV 4 txt 0 (a : Int), .bool true]) (by simp [results, Tryd.results18, go_sem, z0, z1, z2, z3]) rfl ?_
                unfold OneAns
                rw [HT.out]
                refine ⟨?_, HB6.out⟩
                rw [← HG.out, HTx.out]
                rfl
              · have l16 : ¬ (n : Int) ≤ 16 := by omega
                have HT := Lib.hid (show Lx.tok ((bts s).drop a) = none by
                  have hn := HN.out
                  rw [HDr.out] at hn ⊢
                  simp only [Lx.tok]
                  rw [if_neg (show ¬ digit c' = true by rw [HC.out.2]; decide), if_pos HC.out.1, hn, if_neg h16])
                clear h16
                refine wp_region_held_drew (S := fun w' => Oc w w' 4 txt 0 (a : Int)) (by kernel_rfl) (Ob.oc HO5.out).drew (fun hS => ?_)
                try simp only [Act.put, List.setIfInBounds_toArray, List.set_cons_zero, List.set_cons_succ]
                refine htg (i := 0) rfl (tkV 4 txt 0 (a : Int)) (by kernel_rfl) (by kernel_rfl) (by kernel_rfl) (fun _ _ _ h => h) (by rfl) hS (fun w' hw' => by obtain ⟨t0, t1, t2, t3⟩ := TkB.cells hw'.t; go_simp) ?_
                try simp only [Act.put, List.setIfInBounds_toArray, List.set_cons_zero, List.set_cons_succ]
                refine htg (i := 1) rfl (.pointer (some ⟨w.heap.size + 1, 1, none⟩)) (by kernel_rfl) (by kernel_rfl) (by kernel_rfl) (fun _ _ _ h => h) (by rfl) hS (fun w' hw' => by go_simp) ?_
                try simp only [Act.put, List.setIfInBounds_toArray, List.set_cons_zero, List.set_cons_succ]
                refine htg (i := 2) rfl (.string txt) (by kernel_rfl) (by kernel_rfl) (by kernel_rfl) (fun _ _ _ h => h) (by rfl) hS (fun w' hw' => by obtain ⟨t0, t1, t2, t3⟩ := TkB.cells hw'.t; go_simp) ?_
                try simp only [Act.put, List.setIfInBounds_toArray, List.set_cons_zero, List.set_cons_succ]
                refine htg (i := 3) rfl (.int .i64 (n : Int)) (by kernel_rfl) (by kernel_rfl) (by kernel_rfl) (fun _ _ _ h => h) (by rfl) hS (fun w' hw' => by go_simp) ?_
                try simp only [Act.put, List.setIfInBounds_toArray, List.set_cons_zero, List.set_cons_succ]
                refine htg (i := 4) rfl (.bool false) (by kernel_rfl) (by kernel_rfl) (by kernel_rfl) (fun _ _ _ h => h) (by rfl) hS (fun w' hw' => by go_simp) ?_
                try simp only [Act.put, List.setIfInBounds_toArray, List.set_cons_zero, List.set_cons_succ]
                refine h1g (i := 5) (by kernel_rfl) rfl (by rfl) (fun K' hK => ?_)
                obtain ⟨c0, c1, c2, c3⟩ := TkB.cells HO5.out.r
                have f0 := Blk.frozen HO5.out.r
                obtain ⟨z0, z1, z2, z3⟩ := (TkB.st HO5.out.r 4 txt 0 (a : Int)).cells
                have HB6 := Lib.hid (Below.drew (below_stK HO5.out.b (Nat.le_refl _) 4 txt 0 (a : Int)))
                have HS := Lib.hid (Oc.put hS 4 txt 0 (a : Int))
                clear hS
                go_simp
                refine hK.out _ _ HS.out ?_
                clear hK K' c0 c1 c2 c3 f0
                try simp only [Act.put, List.setIfInBounds_toArray, List.set_cons_zero, List.set_cons_succ]
                refine htg (i := 6) rfl (.bool false) (by kernel_rfl) (by kernel_rfl) (by kernel_rfl) (fun _ _ _ h => h) (by rfl) HS.out (fun w' hw' => by go_simp) ?_
                try simp only [Act.put, List.setIfInBounds_toArray, List.set_cons_zero, List.set_cons_succ]
                refine wpAnyH_done (by kernel_rfl) ?_ _
                go_wp2
                refine bodyPost_ret (v := .tuple #[tkV 4 txt 0 (a : Int), .bool false]) (by simp [results, Tryd.results18, go_sem, z0, z1, z2, z3]) rfl ?_
                unfold OneAns
                rw [HT.out]
                exact ⟨⟨_, _, _, _, rfl⟩, HB6.out⟩
        · have HG := Lib.hid (hgo (by rw [hnm, hl, hg]; rfl))
          rw [hg] at HDd
          rw [hl] at HLd
          clear hj hd2 hbb hdd hg hl HRn hgo hno hnm
          go_wp2_with fail
          refine HLd.out.mono ?_
          rintro e w2 ⟨rfl, rfl⟩
          go_wp2_with fail
          refine HDd.out.mono ?_
          rintro e w2 ⟨rfl, rfl⟩
          clear HDd HLd
          go_wp2
          go_round
          case rel => exact ⟨j + 1, by go_num, by have := HJ.out; omega, HG.out⟩
          case measure => simp [intOf]; have := HLj.out; omega
      · have HG := Lib.hid (hgo (by rw [hnm, hl]; rfl))
        rw [hl] at HLd
        clear hj hd2 hbb hdd hl HRn hgo hno hnm HDd
        go_wp2_with fail
        refine HLd.out.mono ?_
        rintro e w2 ⟨rfl, rfl⟩
        clear HLd
        go_wp2
        go_round
        case rel => exact ⟨j + 1, by go_num, by have := HJ.out; omega, HG.out⟩
        case measure => simp [intOf]; have := HLj.out; omega
    · have lt1 : ¬ (j : Int) < (s.size : Int) := by omega
      have HG := Lib.hid (show j = a + n by have := HJ.out; have := HA.out; omega)
      clear hj HRn
      obtain ⟨txt, htx⟩ : ∃ t, s.extract a j = t := ⟨_, rfl⟩
      have hsl := run_sl s a j HJ.out.1 (by have := HJ.out; have := HA.out; have := HG.out; omega)
      rw [htx] at hsl
      have hbt : bts txt = ((bts s).drop a).take n := by rw [← htx, bts_extract, HG.out, Nat.add_sub_cancel_left]
      have htz : (txt.size : Int) = (n : Int) := by rw [← htx, ByteArray.size_extract]; have := HG.out; have := HA.out; omega
      have HTx := Lib.hid htx
      obtain ⟨w2, hw2⟩ : ∃ x, (w1.setCell ⟨w.heap.size + 1, 1, none⟩ (.string txt)).setCell ⟨w.heap.size + 1, 0, none⟩ (.int .i64 1) = x := ⟨_, rfl⟩
      have HO2 := Lib.hid (show Ob w w2 1 txt 0 (a : Int) from hw2 ▸ (HO.out.text txt).kind 1)
      have HW2 := Lib.hid hw2
      have HWd := Lib.hid (rWord_any txt w2)
      rw [hbt] at HWd
      obtain ⟨c0, c1, c2, c3⟩ := TkB.cells HO.out.t
      have f0 := Blk.frozen HO.out.t
      clear htx hbt hw2
      cases hwd : isWord (((bts s).drop a).take n)
      · rw [hwd] at HWd
        go_wp2_with fail
        rw [HW2.out]
        refine HWd.out.mono ?_
        rintro e w3 ⟨rfl, rfl⟩
        clear HWd c0 c1 c2 c3 f0
        go_wp2_with fail
        have HO5 := HO2
        by_cases h16 : n ≤ 16
        · have l16 : (n : Int) ≤ 16 := by omega
          have HT := Lib.hid (show Lx.tok ((bts s).drop a) = some (1, n, 0) by
            have hn := HN.out
            rw [HDr.out] at hn hwd ⊢
            simp only [Lx.tok]
            rw [if_neg (show ¬ digit c' = true by rw [HC.out.2]; decide), if_pos HC.out.1, hn, if_pos h16, hwd]
            rfl)
          clear h16
          refine wp_region_held_drew (S := fun w' => Oc w w' 1 txt 0 (a : Int)) (by kernel_rfl) (Ob.oc HO5.out).drew (fun hS => ?_)
          try simp only [Act.put, List.setIfInBounds_toArray, List.set_cons_zero, List.set_cons_succ]
          refine htg (i := 0) rfl (tkV 1 txt 0 (a : Int)) (by kernel_rfl) (by kernel_rfl) (by kernel_rfl) (fun _ _ _ h => h) (by rfl) hS (fun w' hw' => by obtain ⟨t0, t1, t2, t3⟩ := TkB.cells hw'.t; go_simp) ?_
          try simp only [Act.put, List.setIfInBounds_toArray, List.set_cons_zero, List.set_cons_succ]
          refine htg (i := 1) rfl (.pointer (some ⟨w.heap.size + 1, 1, none⟩)) (by kernel_rfl) (by kernel_rfl) (by kernel_rfl) (fun _ _ _ h => h) (by rfl) hS (fun w' hw' => by go_simp) ?_
          try simp only [Act.put, List.setIfInBounds_toArray, List.set_cons_zero, List.set_cons_succ]
          refine htg (i := 2) rfl (.string txt) (by kernel_rfl) (by kernel_rfl) (by kernel_rfl) (fun _ _ _ h => h) (by rfl) hS (fun w' hw' => by obtain ⟨t0, t1, t2, t3⟩ := TkB.cells hw'.t; go_simp) ?_
          try simp only [Act.put, List.setIfInBounds_toArray, List.set_cons_zero, List.set_cons_succ]
          refine htg (i := 3) rfl (.int .i64 (n : Int)) (by kernel_rfl) (by kernel_rfl) (by kernel_rfl) (fun _ _ _ h => h) (by rfl) hS (fun w' hw' => by go_simp) ?_
          try simp only [Act.put, List.setIfInBounds_toArray, List.set_cons_zero, List.set_cons_succ]
          refine htg (i := 4) rfl (.bool true) (by kernel_rfl) (by kernel_rfl) (by kernel_rfl) (fun _ _ _ h => h) (by rfl) hS (fun w' hw' => by go_simp) ?_
          try simp only [Act.put, List.setIfInBounds_toArray, List.set_cons_zero, List.set_cons_succ]
          refine h1g (i := 5) (by kernel_rfl) rfl (by rfl) (fun K' hK => ?_)
          obtain ⟨c0, c1, c2, c3⟩ := TkB.cells HO5.out.r
          have f0 := Blk.frozen HO5.out.r
          obtain ⟨z0, z1, z2, z3⟩ := (TkB.st HO5.out.r 1 txt 0 (a : Int)).cells
          have HB6 := Lib.hid (Below.drew (below_stK HO5.out.b (Nat.le_refl _) 1 txt 0 (a : Int)))
          have HS := Lib.hid (Oc.put hS 1 txt 0 (a : Int))
          clear hS
          go_simp
          refine hK.out _ _ HS.out ?_
          clear hK K' c0 c1 c2 c3 f0
          try simp only [Act.put, List.setIfInBounds_toArray, List.set_cons_zero, List.set_cons_succ]
          refine htg (i := 6) rfl (.bool true) (by kernel_rfl) (by kernel_rfl) (by kernel_rfl) (fun _ _ _ h => h) (by rfl) HS.out (fun w' hw' => by go_simp) ?_
          try simp only [Act.put, List.setIfInBounds_toArray, List.set_cons_zero, List.set_cons_succ]
          refine wpAnyH_done (by kernel_rfl) ?_ _
          go_wp2
          refine bodyPost_ret (v := .tuple #[tkV 1 txt 0 (a : Int), .bool true]) (by simp [results, Tryd.results18, go_sem, z0, z1, z2, z3]) rfl ?_
          unfold OneAns
          rw [HT.out]
          refine ⟨?_, HB6.out⟩
          rw [← HG.out, HTx.out]
          rfl
        · have l16 : ¬ (n : Int) ≤ 16 := by omega
          have HT := Lib.hid (show Lx.tok ((bts s).drop a) = none by
            have hn := HN.out
            rw [HDr.out] at hn ⊢
            simp only [Lx.tok]
            rw [if_neg (show ¬ digit c' = true by rw [HC.out.2]; decide), if_pos HC.out.1, hn, if_neg h16])
          clear h16
          refine wp_region_held_drew (S := fun w' => Oc w w' 1 txt 0 (a : Int)) (by kernel_rfl) (Ob.oc HO5.out).drew (fun hS => ?_)
          try simp only [Act.put, List.setIfInBounds_toArray, List.set_cons_zero, List.set_cons_succ]
          refine htg (i := 0) rfl (tkV 1 txt 0 (a : Int)) (by kernel_rfl) (by kernel_rfl) (by kernel_rfl) (fun _ _ _ h => h) (by rfl) hS (fun w' hw' => by obtain ⟨t0, t1, t2, t3⟩ := TkB.cells hw'.t; go_simp) ?_
          try simp only [Act.put, List.setIfInBounds_toArray, List.set_cons_zero, List.set_cons_succ]
          refine htg (i := 1) rfl (.pointer (some ⟨w.heap.size + 1, 1, none⟩)) (by kernel_rfl) (by kernel_rfl) (by kernel_rfl) (fun _ _ _ h => h) (by rfl) hS (fun w' hw' => by go_simp) ?_
          try simp only [Act.put, List.setIfInBounds_toArray, List.set_cons_zero, List.set_cons_succ]
          refine htg (i := 2) rfl (.string txt) (by kernel_rfl) (by kernel_rfl) (by kernel_rfl) (fun _ _ _ h => h) (by rfl) hS (fun w' hw' => by obtain ⟨t0, t1, t2, t3⟩ := TkB.cells hw'.t; go_simp) ?_
          try simp only [Act.put, List.setIfInBounds_toArray, List.set_cons_zero, List.set_cons_succ]
          refine htg (i := 3) rfl (.int .i64 (n : Int)) (by kernel_rfl) (by kernel_rfl) (by kernel_rfl) (fun _ _ _ h => h) (by rfl) hS (fun w' hw' => by go_simp) ?_
          try simp only [Act.put, List.setIfInBounds_toArray, List.set_cons_zero, List.set_cons_succ]
          refine htg (i := 4) rfl (.bool false) (by kernel_rfl) (by kernel_rfl) (by kernel_rfl) (fun _ _ _ h => h) (by rfl) hS (fun w' hw' => by go_simp) ?_
          try simp only [Act.put, List.setIfInBounds_toArray, List.set_cons_zero, List.set_cons_succ]
          refine h1g (i := 5) (by kernel_rfl) rfl (by rfl) (fun K' hK => ?_)
          obtain ⟨c0, c1, c2, c3⟩ := TkB.cells HO5.out.r
          have f0 := Blk.frozen HO5.out.r
          obtain ⟨z0, z1, z2, z3⟩ := (TkB.st HO5.out.r 1 txt 0 (a : Int)).cells
          have HB6 := Lib.hid (Below.drew (below_stK HO5.out.b (Nat.le_refl _) 1 txt 0 (a : Int)))
          have HS := Lib.hid (Oc.put hS 1 txt 0 (a : Int))
          clear hS
          go_simp
          refine hK.out _ _ HS.out ?_
          clear hK K' c0 c1 c2 c3 f0
          try simp only [Act.put, List.setIfInBounds_toArray, List.set_cons_zero, List.set_cons_succ]
          refine htg (i := 6) rfl (.bool false) (by kernel_rfl) (by kernel_rfl) (by kernel_rfl) (fun _ _ _ h => h) (by rfl) HS.out (fun w' hw' => by go_simp) ?_
          try simp only [Act.put, List.setIfInBounds_toArray, List.set_cons_zero, List.set_cons_succ]
          refine wpAnyH_done (by kernel_rfl) ?_ _
          go_wp2
          refine bodyPost_ret (v := .tuple #[tkV 1 txt 0 (a : Int), .bool false]) (by simp [results, Tryd.results18, go_sem, z0, z1, z2, z3]) rfl ?_
          unfold OneAns
          rw [HT.out]
          exact ⟨⟨_, _, _, _, rfl⟩, HB6.out⟩
      · rw [hwd] at HWd
        go_wp2_with fail
        rw [HW2.out]
        refine HWd.out.mono ?_
        rintro e w3 ⟨rfl, rfl⟩
        clear HWd c0 c1 c2 c3 f0
        obtain ⟨c0, c1, c2, c3⟩ := TkB.cells HO2.out.t
        have f0 := Blk.frozen HO2.out.t
        go_wp2_with fail
        have HO5 := Lib.hid (HO2.out.kind 4)
        obtain ⟨w5, hw5⟩ : ∃ x, w2.setCell ⟨w.heap.size + 1, 0, none⟩ (.int .i64 4) = x := ⟨_, rfl⟩
        rw [hw5] at HO5 ⊢
        clear hw5 c0 c1 c2 c3 f0
        by_cases h16 : n ≤ 16
        · have l16 : (n : Int) ≤ 16 := by omega
          have HT := Lib.hid (show Lx.tok ((bts s).drop a) = some (4, n, 0) by
            have hn := HN.out
            rw [HDr.out] at hn hwd ⊢
            simp only [Lx.tok]
            rw [if_neg (show ¬ digit c' = true by rw [HC.out.2]; decide), if_pos HC.out.1, hn, if_pos h16, hwd]
            rfl)
          clear h16
          refine wp_region_held_drew (S := fun w' => Oc w w' 4 txt 0 (a : Int)) (by kernel_rfl) (Ob.oc HO5.out).drew (fun hS => ?_)
          try simp only [Act.put, List.setIfInBounds_toArray, List.set_cons_zero, List.set_cons_succ]
          refine htg (i := 0) rfl (tkV 4 txt 0 (a : Int)) (by kernel_rfl) (by kernel_rfl) (by kernel_rfl) (fun _ _ _ h => h) (by rfl) hS (fun w' hw' => by obtain ⟨t0, t1, t2, t3⟩ := TkB.cells hw'.t; go_simp) ?_
          try simp only [Act.put, List.setIfInBounds_toArray, List.set_cons_zero, List.set_cons_succ]
          refine htg (i := 1) rfl (.pointer (some ⟨w.heap.size + 1, 1, none⟩)) (by kernel_rfl) (by kernel_rfl) (by kernel_rfl) (fun _ _ _ h => h) (by rfl) hS (fun w' hw' => by go_simp) ?_
          try simp only [Act.put, List.setIfInBounds_toArray, List.set_cons_zero, List.set_cons_succ]
          refine htg (i := 2) rfl (.string txt) (by kernel_rfl) (by kernel_rfl) (by kernel_rfl) (fun _ _ _ h => h) (by rfl) hS (fun w' hw' => by obtain ⟨t0, t1, t2, t3⟩ := TkB.cells hw'.t; go_simp) ?_
          try simp only [Act.put, List.setIfInBounds_toArray, List.set_cons_zero, List.set_cons_succ]
          refine htg (i := 3) rfl (.int .i64 (n : Int)) (by kernel_rfl) (by kernel_rfl) (by kernel_rfl) (fun _ _ _ h => h) (by rfl) hS (fun w' hw' => by go_simp) ?_
          try simp only [Act.put, List.setIfInBounds_toArray, List.set_cons_zero, List.set_cons_succ]
          refine htg (i := 4) rfl (.bool true) (by kernel_rfl) (by kernel_rfl) (by kernel_rfl) (fun _ _ _ h => h) (by rfl) hS (fun w' hw' => by go_simp) ?_
          try simp only [Act.put, List.setIfInBounds_toArray, List.set_cons_zero, List.set_cons_succ]
          refine h1g (i := 5) (by kernel_rfl) rfl (by rfl) (fun K' hK => ?_)
          obtain ⟨c0, c1, c2, c3⟩ := TkB.cells HO5.out.r
          have f0 := Blk.frozen HO5.out.r
          obtain ⟨z0, z1, z2, z3⟩ := (TkB.st HO5.out.r 4 txt 0 (a : Int)).cells
          have HB6 := Lib.hid (Below.drew (below_stK HO5.out.b (Nat.le_refl _) 4 txt 0 (a : Int)))
          have HS := Lib.hid (Oc.put hS 4 txt 0 (a : Int))
          clear hS
          go_simp
          refine hK.out _ _ HS.out ?_
          clear hK K' c0 c1 c2 c3 f0
          try simp only [Act.put, List.setIfInBounds_toArray, List.set_cons_zero, List.set_cons_succ]
          refine htg (i := 6) rfl (.bool true) (by kernel_rfl) (by kernel_rfl) (by kernel_rfl) (fun _ _ _ h => h) (by rfl) HS.out (fun w' hw' => by go_simp) ?_
          try simp only [Act.put, List.setIfInBounds_toArray, List.set_cons_zero, List.set_cons_succ]
          refine wpAnyH_done (by kernel_rfl) ?_ _
          go_wp2
          refine bodyPost_ret (v := .tuple #[tkV 4 txt 0 (a : Int), .bool true]) (by simp [results, Tryd.results18, go_sem, z0, z1, z2, z3]) rfl ?_
          unfold OneAns
          rw [HT.out]
          refine ⟨?_, HB6.out⟩
          rw [← HG.out, HTx.out]
          rfl
        · have l16 : ¬ (n : Int) ≤ 16 := by omega
          have HT := Lib.hid (show Lx.tok ((bts s).drop a) = none by
            have hn := HN.out
            rw [HDr.out] at hn ⊢
            simp only [Lx.tok]
            rw [if_neg (show ¬ digit c' = true by rw [HC.out.2]; decide), if_pos HC.out.1, hn, if_neg h16])
          clear h16
          refine wp_region_held_drew (S := fun w' => Oc w w' 4 txt 0 (a : Int)) (by kernel_rfl) (Ob.oc HO5.out).drew (fun hS => ?_)
          try simp only [Act.put, List.setIfInBounds_toArray, List.set_cons_zero, List.set_cons_succ]
          refine htg (i := 0) rfl (tkV 4 txt 0 (a : Int)) (by kernel_rfl) (by kernel_rfl) (by kernel_rfl) (fun _ _ _ h => h) (by rfl) hS (fun w' hw' => by obtain ⟨t0, t1, t2, t3⟩ := TkB.cells hw'.t; go_simp) ?_
          try simp only [Act.put, List.setIfInBounds_toArray, List.set_cons_zero, List.set_cons_succ]
          refine htg (i := 1) rfl (.pointer (some ⟨w.heap.size + 1, 1, none⟩)) (by kernel_rfl) (by kernel_rfl) (by kernel_rfl) (fun _ _ _ h => h) (by rfl) hS (fun w' hw' => by go_simp) ?_
          try simp only [Act.put, List.setIfInBounds_toArray, List.set_cons_zero, List.set_cons_succ]
          refine htg (i := 2) rfl (.string txt) (by kernel_rfl) (by kernel_rfl) (by kernel_rfl) (fun _ _ _ h => h) (by rfl) hS (fun w' hw' => by obtain ⟨t0, t1, t2, t3⟩ := TkB.cells hw'.t; go_simp) ?_
          try simp only [Act.put, List.setIfInBounds_toArray, List.set_cons_zero, List.set_cons_succ]
          refine htg (i := 3) rfl (.int .i64 (n : Int)) (by kernel_rfl) (by kernel_rfl) (by kernel_rfl) (fun _ _ _ h => h) (by rfl) hS (fun w' hw' => by go_simp) ?_
          try simp only [Act.put, List.setIfInBounds_toArray, List.set_cons_zero, List.set_cons_succ]
          refine htg (i := 4) rfl (.bool false) (by kernel_rfl) (by kernel_rfl) (by kernel_rfl) (fun _ _ _ h => h) (by rfl) hS (fun w' hw' => by go_simp) ?_
          try simp only [Act.put, List.setIfInBounds_toArray, List.set_cons_zero, List.set_cons_succ]
          refine h1g (i := 5) (by kernel_rfl) rfl (by rfl) (fun K' hK => ?_)
          obtain ⟨c0, c1, c2, c3⟩ := TkB.cells HO5.out.r
          have f0 := Blk.frozen HO5.out.r
          obtain ⟨z0, z1, z2, z3⟩ := (TkB.st HO5.out.r 4 txt 0 (a : Int)).cells
          have HB6 := Lib.hid (Below.drew (below_stK HO5.out.b (Nat.le_refl _) 4 txt 0 (a : Int)))
          have HS := Lib.hid (Oc.put hS 4 txt 0 (a : Int))
          clear hS
          go_simp
          refine hK.out _ _ HS.out ?_
          clear hK K' c0 c1 c2 c3 f0
          try simp only [Act.put, List.setIfInBounds_toArray, List.set_cons_zero, List.set_cons_succ]
          refine htg (i := 6) rfl (.bool false) (by kernel_rfl) (by kernel_rfl) (by kernel_rfl) (fun _ _ _ h => h) (by rfl) HS.out (fun w' hw' => by go_simp) ?_
          try simp only [Act.put, List.setIfInBounds_toArray, List.set_cons_zero, List.set_cons_succ]
          refine wpAnyH_done (by kernel_rfl) ?_ _
          go_wp2
          refine bodyPost_ret (v := .tuple #[tkV 4 txt 0 (a : Int), .bool false]) (by simp [results, Tryd.results18, go_sem, z0, z1, z2, z3]) rfl ?_
          unfold OneAns
          rw [HT.out]
          exact ⟨⟨_, _, _, _, rfl⟩, HB6.out⟩
end Go.Proofs.YtkogbighpidfhaaDoor
