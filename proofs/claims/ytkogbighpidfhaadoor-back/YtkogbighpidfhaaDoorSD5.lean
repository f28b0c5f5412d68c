/- The document's one: at other bytes; one at any byte. -/
import Derived.Test.YtkogbighpidfhaaDoorSD4
namespace Go.Proofs.YtkogbighpidfhaaDoor
open Go.RowKit
open Lx

abbrev shB : ByteArray := ⟨#[62, 62]⟩
theorem bts_sign : bts signB = [43, 45, 42, 64, 60, 61, 40, 41, 91, 93, 44, 59] := by kernel_rfl
theorem sign_mem (c : Nat) : sign c = true ↔ c ∈ (bts signB).drop 0 := by
  rw [sign_iff, bts_sign]
  simp
set_option maxHeartbeats 16000000 in
set_option maxRecDepth 100000 in
theorem rone_sign (s : ByteArray) (a c : Nat) (r : List Nat) (w : World) (ha : a < s.size) (hd : (bts s).drop a = c :: r) (hg : digit c = false) (hl : letter c = false) (hs : s.size ≤ 1000000) :
    Calls Tryd.prog 18 #[.string s, .int .i64 (a : Int)] w (OneAns s a w) := by
  obtain ⟨w1, hw1⟩ : ∃ x, (w.alloc (.cells (tkC 0 ⟨#[]⟩ 0 0) 37)).alloc (.cells (tkC 0 ⟨#[]⟩ 0 (a : Int)) 37) = x := ⟨_, rfl⟩
  have HO := Lib.hid (show Ob w w1 0 ⟨#[]⟩ 0 (a : Int) from hw1 ▸ Ob.new w (a : Int))
  have HW := Lib.hid hw1
  clear hw1
  have HD := Lib.hid (rDigit_any c w1)
  rw [hg] at HD
  have HL := Lib.hid (rLetter_any c w1)
  rw [hl] at HL
  obtain ⟨c', hc2, hbb, hdd⟩ := at_byte s a ha
  obtain rfl : c' = c := by
    rw [hd] at hdd
    injection hdd with h _
    exact h.symm
  have hr : (bts s).drop (a + 1) = r := by
    rw [hd] at hdd
    injection hdd with _ h
    exact h.symm
  have hix := run_ix s a c' ha hbb
  have HA := Lib.hid (show a < s.size ∧ s.size ≤ 1000000 from ⟨ha, hs⟩)
  have ht : Lx.tok (c' :: r) = if c' = 62 then (if twice r then some (3, 2, 0) else none) else if sign c' then some (3, 1, 0) else none := by
    simp only [Lx.tok]
    rw [if_neg (show ¬ digit c' = true by rw [hg]; decide), if_neg (show ¬ letter c' = true by rw [hl]; decide)]
  rw [← hd] at ht
  have HT0 := Lib.hid ht
  have HR := Lib.hid hr
  have HS4 := Lib.hid hd
  have e1 : IntKind.i64.wrap ((a : Int) + 1) = (a : Int) + 1 := i64_nat _ (by omega) (by omega)
  have HO2 := Lib.hid (HO.out.kind 3)
  obtain ⟨w2, hw2⟩ : ∃ x, w1.setCell ⟨w.heap.size + 1, 0, none⟩ (.int .i64 3) = x := ⟨_, rfl⟩
  rw [hw2] at HO2
  have HW2 := Lib.hid hw2
  obtain ⟨c0, c1, c2, c3⟩ := TkB.cells HO.out.t
  have f0 := Blk.frozen HO.out.t
  clear ha hd hg hl hs hc2 hbb hdd ht hr hw2
  by_cases h62 : c' = 62
  · have b62 : ((c' : Int) == 62) = true := eqI c' 62 (by omega)
    have HT1 := Lib.hid (HT0.out.trans (if_pos h62))
    have HC62 := Lib.hid h62
    clear h62
    have HO5 := Lib.hid (HO2.out.text shB)
    obtain ⟨d1, d2, d3, d4⟩ := TkB.cells HO2.out.t
    have f1 := Blk.frozen HO2.out.t
    by_cases hj : a + 1 < s.size
    · obtain ⟨d, hd2, hbb, hdd⟩ := at_byte s (a + 1) hj
      have hjx := run_ix s (a + 1) d hj hbb
      rw [Int.natCast_add, Int.natCast_one] at hjx
      have lj : (a : Int) + 1 < (s.size : Int) := by omega
      rw [HR.out] at hdd
      by_cases h2 : d = 62
      · have b2 : ((d : Int) == 62) = true := eqI d 62 (by omega)
        have HT := Lib.hid (show Lx.tok ((bts s).drop a) = some (3, 2, 0) by rw [HT1.out, if_pos (by rw [hdd, h2]; rfl)])
        have HX := Lib.hid (show s.extract a (a + 2) = shB by
          apply bts_inj
          rw [bts_extract, Nat.add_sub_cancel_left]
          rw [HS4.out, HC62.out, hdd, h2]
          rfl)
        clear hj hd2 hbb hdd h2
        go_enter Tryd.func18, Tryd.ntmps18
        go_wp2_with fail
        rw [HW.out]
        refine HD.out.mono ?_
        rintro e w3 ⟨rfl, rfl⟩
        go_wp2_with fail
        refine HL.out.mono ?_
        rintro e w3 ⟨rfl, rfl⟩
        clear HD HL
        go_wp2
        rw [HW2.out]
        clear c0 c1 c2 c3 f0 d1 d2 d3 d4 f1
        obtain ⟨w5, hw5⟩ : ∃ x, w2.setCell ⟨w.heap.size + 1, 1, none⟩ (.string shB) = x := ⟨_, rfl⟩
        rw [hw5] at HO5 ⊢
        clear hw5
        refine region_y [13, 14] (fun w' => Below w5.heap.size w5 w') (by kernel_rfl) ?_
        have hS : Below w5.heap.size w5 w5.drew := drew_below w5
        try simp only [Act.put, List.setIfInBounds_toArray, List.set_cons_zero, List.set_cons_succ]
        refine ytg [13, 14] (i := 0) rfl (tkV 3 shB 0 (a : Int)) (by kernel_rfl) (by kernel_rfl) (by kernel_rfl) (by kernel_rfl) (fun _ _ _ h => h) (by rfl) hS (fun w' hw' => by have hX := (HO5.out.below hw').t; obtain ⟨t0, t1, t2, t3⟩ := TkB.cells hX; clear hX; go_simp) ?_
        try simp only [Act.put, List.setIfInBounds_toArray, List.set_cons_zero, List.set_cons_succ]
        refine yug (i := 1) rfl (.int .i64 (a : Int)) (by kernel_rfl) (by kernel_rfl) (by kernel_rfl) (fun _ _ _ h => h) (by rfl) (fun w' => by go_simp) ?_
        try simp only [Act.put, List.setIfInBounds_toArray, List.set_cons_zero, List.set_cons_succ]
        refine yug (i := 2) rfl (.int .i64 ((a : Int) + 1)) (by kernel_rfl) (by kernel_rfl) (by kernel_rfl) (fun _ _ _ h => h) (by rfl) (fun w' => by go_simp) ?_
        try simp only [Act.put, List.setIfInBounds_toArray, List.set_cons_zero, List.set_cons_succ]
        refine yug (i := 3) rfl (.string s) (by kernel_rfl) (by kernel_rfl) (by kernel_rfl) (fun _ _ _ h => h) (by rfl) (fun w' => by go_simp) ?_
        try simp only [Act.put, List.setIfInBounds_toArray, List.set_cons_zero, List.set_cons_succ]
        refine yug (i := 4) rfl (.int .i64 (s.size : Int)) (by kernel_rfl) (by kernel_rfl) (by kernel_rfl) (fun _ _ _ h => h) (by rfl) (fun w' => by go_simp) ?_
        try simp only [Act.put, List.setIfInBounds_toArray, List.set_cons_zero, List.set_cons_succ]
        refine yug (i := 5) rfl (.bool true) (by kernel_rfl) (by kernel_rfl) (by kernel_rfl) (fun _ _ _ h => h) (by rfl) (fun w' => by go_simp) ?_
        try simp only [Act.put, List.setIfInBounds_toArray, List.set_cons_zero, List.set_cons_succ]
        refine yug (i := 6) rfl (.bool true) (by kernel_rfl) (by kernel_rfl) (by kernel_rfl) (fun _ _ _ h => h) (by rfl) (fun w' => by go_simp) ?_
        try simp only [Act.put, List.setIfInBounds_toArray, List.set_cons_zero, List.set_cons_succ]
        refine yug (i := 7) rfl (.string s) (by kernel_rfl) (by kernel_rfl) (by kernel_rfl) (fun _ _ _ h => h) (by rfl) (fun w' => by go_simp) ?_
        try simp only [Act.put, List.setIfInBounds_toArray, List.set_cons_zero, List.set_cons_succ]
        refine yug (i := 8) rfl (.int .i64 (a : Int)) (by kernel_rfl) (by kernel_rfl) (by kernel_rfl) (fun _ _ _ h => h) (by rfl) (fun w' => by go_simp) ?_
        try simp only [Act.put, List.setIfInBounds_toArray, List.set_cons_zero, List.set_cons_succ]
        refine yug (i := 9) rfl (.int .i64 ((a : Int) + 1)) (by kernel_rfl) (by kernel_rfl) (by kernel_rfl) (fun _ _ _ h => h) (by rfl) (fun w' => by go_simp) ?_
        try simp only [Act.put, List.setIfInBounds_toArray, List.set_cons_zero, List.set_cons_succ]
        refine yug (i := 10) rfl (.int .u8 (d : Int)) (by kernel_rfl) (by kernel_rfl) (by kernel_rfl) (fun _ _ _ h => h) (by rfl) (fun w' => by go_simp) ?_
        try simp only [Act.put, List.setIfInBounds_toArray, List.set_cons_zero, List.set_cons_succ]
        refine yug (i := 11) rfl (.bool true) (by kernel_rfl) (by kernel_rfl) (by kernel_rfl) (fun _ _ _ h => h) (by rfl) (fun w' => by go_simp) ?_
        try simp only [Act.put, List.setIfInBounds_toArray, List.set_cons_zero, List.set_cons_succ]
        refine yug (i := 12) rfl (.bool true) (by kernel_rfl) (by kernel_rfl) (by kernel_rfl) (fun _ _ _ h => h) (by rfl) (fun w' => by go_simp) ?_
        try simp only [Act.put, List.setIfInBounds_toArray, List.set_cons_zero, List.set_cons_succ]
        refine y1g (i := 13) (by kernel_rfl) rfl (by rfl) (fun K' hK => ?_)
        obtain ⟨c0, c1, c2, c3⟩ := TkB.cells HO5.out.r
        have f0 := Blk.frozen HO5.out.r
        obtain ⟨z0, z1, z2, z3⟩ := (TkB.st HO5.out.r 3 shB 0 (a : Int)).cells
        have HB6 := Lib.hid (Below.drew (below_stK HO5.out.b (Nat.le_refl _) 3 shB 0 (a : Int)))
        go_simp
        refine hK.out _ _ (.inl (by decide)) ?_
        clear hK K' c0 c1 c2 c3 f0
        try simp only [Act.put, List.setIfInBounds_toArray, List.set_cons_zero, List.set_cons_succ]
        refine yug (i := 14) rfl (.bool true) (by kernel_rfl) (by kernel_rfl) (by kernel_rfl) (fun _ _ _ h => h) (by rfl) (fun w' => by go_simp) ?_
        try simp only [Act.put, List.setIfInBounds_toArray, List.set_cons_zero, List.set_cons_succ]
        refine wpAnyY_done (by kernel_rfl) ?_ _
        go_wp2
        refine bodyPost_ret (v := .tuple #[tkV 3 shB 0 (a : Int), .bool true]) (by simp [results, Tryd.results18, go_sem, z0, z1, z2, z3]) rfl ?_
        unfold OneAns
        rw [HT.out]
        refine ⟨?_, HB6.out⟩
        rw [HX.out]
        rfl
      · have b2 : ((d : Int) == 62) = false := neI d 62 (by omega)
        have HT := Lib.hid (show Lx.tok ((bts s).drop a) = none by rw [HT1.out, if_neg (by rw [hdd]; simpa [twice] using h2)])
        clear hj hd2 hbb hdd h2
        go_enter Tryd.func18, Tryd.ntmps18
        go_wp2_with fail
        rw [HW.out]
        refine HD.out.mono ?_
        rintro e w3 ⟨rfl, rfl⟩
        go_wp2_with fail
        refine HL.out.mono ?_
        rintro e w3 ⟨rfl, rfl⟩
        clear HD HL
        go_wp2
        rw [HW2.out]
        clear c0 c1 c2 c3 f0 d1 d2 d3 d4 f1
        obtain ⟨w5, hw5⟩ : ∃ x, w2.setCell ⟨w.heap.size + 1, 1, none⟩ (.string shB) = x := ⟨_, rfl⟩
        rw [hw5] at HO5 ⊢
        clear hw5
        refine region_y [13, 14] (fun w' => Below w5.heap.size w5 w') (by kernel_rfl) ?_
        have hS : Below w5.heap.size w5 w5.drew := drew_below w5
        try simp only [Act.put, List.setIfInBounds_toArray, List.set_cons_zero, List.set_cons_succ]
        refine ytg [13, 14] (i := 0) rfl (tkV 3 shB 0 (a : Int)) (by kernel_rfl) (by kernel_rfl) (by kernel_rfl) (by kernel_rfl) (fun _ _ _ h => h) (by rfl) hS (fun w' hw' => by have hX := (HO5.out.below hw').t; obtain ⟨t0, t1, t2, t3⟩ := TkB.cells hX; clear hX; go_simp) ?_
        try simp only [Act.put, List.setIfInBounds_toArray, List.set_cons_zero, List.set_cons_succ]
        refine yug (i := 1) rfl (.int .i64 (a : Int)) (by kernel_rfl) (by kernel_rfl) (by kernel_rfl) (fun _ _ _ h => h) (by rfl) (fun w' => by go_simp) ?_
        try simp only [Act.put, List.setIfInBounds_toArray, List.set_cons_zero, List.set_cons_succ]
        refine yug (i := 2) rfl (.int .i64 ((a : Int) + 1)) (by kernel_rfl) (by kernel_rfl) (by kernel_rfl) (fun _ _ _ h => h) (by rfl) (fun w' => by go_simp) ?_
        try simp only [Act.put, List.setIfInBounds_toArray, List.set_cons_zero, List.set_cons_succ]
        refine yug (i := 3) rfl (.string s) (by kernel_rfl) (by kernel_rfl) (by kernel_rfl) (fun _ _ _ h => h) (by rfl) (fun w' => by go_simp) ?_
        try simp only [Act.put, List.setIfInBounds_toArray, List.set_cons_zero, List.set_cons_succ]
        refine yug (i := 4) rfl (.int .i64 (s.size : Int)) (by kernel_rfl) (by kernel_rfl) (by kernel_rfl) (fun _ _ _ h => h) (by rfl) (fun w' => by go_simp) ?_
        try simp only [Act.put, List.setIfInBounds_toArray, List.set_cons_zero, List.set_cons_succ]
        refine yug (i := 5) rfl (.bool true) (by kernel_rfl) (by kernel_rfl) (by kernel_rfl) (fun _ _ _ h => h) (by rfl) (fun w' => by go_simp) ?_
        try simp only [Act.put, List.setIfInBounds_toArray, List.set_cons_zero, List.set_cons_succ]
        refine yug (i := 6) rfl (.bool true) (by kernel_rfl) (by kernel_rfl) (by kernel_rfl) (fun _ _ _ h => h) (by rfl) (fun w' => by go_simp) ?_
        try simp only [Act.put, List.setIfInBounds_toArray, List.set_cons_zero, List.set_cons_succ]
        refine yug (i := 7) rfl (.string s) (by kernel_rfl) (by kernel_rfl) (by kernel_rfl) (fun _ _ _ h => h) (by rfl) (fun w' => by go_simp) ?_
        try simp only [Act.put, List.setIfInBounds_toArray, List.set_cons_zero, List.set_cons_succ]
        refine yug (i := 8) rfl (.int .i64 (a : Int)) (by kernel_rfl) (by kernel_rfl) (by kernel_rfl) (fun _ _ _ h => h) (by rfl) (fun w' => by go_simp) ?_
        try simp only [Act.put, List.setIfInBounds_toArray, List.set_cons_zero, List.set_cons_succ]
        refine yug (i := 9) rfl (.int .i64 ((a : Int) + 1)) (by kernel_rfl) (by kernel_rfl) (by kernel_rfl) (fun _ _ _ h => h) (by rfl) (fun w' => by go_simp) ?_
        try simp only [Act.put, List.setIfInBounds_toArray, List.set_cons_zero, List.set_cons_succ]
        refine yug (i := 10) rfl (.int .u8 (d : Int)) (by kernel_rfl) (by kernel_rfl) (by kernel_rfl) (fun _ _ _ h => h) (by rfl) (fun w' => by go_simp) ?_
        try simp only [Act.put, List.setIfInBounds_toArray, List.set_cons_zero, List.set_cons_succ]
        refine yug (i := 11) rfl (.bool false) (by kernel_rfl) (by kernel_rfl) (by kernel_rfl) (fun _ _ _ h => h) (by rfl) (fun w' => by go_simp) ?_
        try simp only [Act.put, List.setIfInBounds_toArray, List.set_cons_zero, List.set_cons_succ]
        refine yug (i := 12) rfl (.bool false) (by kernel_rfl) (by kernel_rfl) (by kernel_rfl) (fun _ _ _ h => h) (by rfl) (fun w' => by go_simp) ?_
        try simp only [Act.put, List.setIfInBounds_toArray, List.set_cons_zero, List.set_cons_succ]
        refine y1g (i := 13) (by kernel_rfl) rfl (by rfl) (fun K' hK => ?_)
        obtain ⟨c0, c1, c2, c3⟩ := TkB.cells HO5.out.r
        have f0 := Blk.frozen HO5.out.r
        obtain ⟨z0, z1, z2, z3⟩ := (TkB.st HO5.out.r 3 shB 0 (a : Int)).cells
        have HB6 := Lib.hid (Below.drew (below_stK HO5.out.b (Nat.le_refl _) 3 shB 0 (a : Int)))
        go_simp
        refine hK.out _ _ (.inl (by decide)) ?_
        clear hK K' c0 c1 c2 c3 f0
        try simp only [Act.put, List.setIfInBounds_toArray, List.set_cons_zero, List.set_cons_succ]
        refine yug (i := 14) rfl (.bool false) (by kernel_rfl) (by kernel_rfl) (by kernel_rfl) (fun _ _ _ h => h) (by rfl) (fun w' => by go_simp) ?_
        try simp only [Act.put, List.setIfInBounds_toArray, List.set_cons_zero, List.set_cons_succ]
        refine wpAnyY_done (by kernel_rfl) ?_ _
        go_wp2
        refine bodyPost_ret (v := .tuple #[tkV 3 shB 0 (a : Int), .bool false]) (by simp [results, Tryd.results18, go_sem, z0, z1, z2, z3]) rfl ?_
        unfold OneAns
        rw [HT.out]
        exact ⟨⟨_, _, _, _, rfl⟩, HB6.out⟩
    · have lj : ¬ (a : Int) + 1 < (s.size : Int) := by omega
      have HT := Lib.hid (show Lx.tok ((bts s).drop a) = none by rw [HT1.out, if_neg (by rw [← HR.out, bts_end s _ (by omega)]; decide)])
      clear hj
      go_enter Tryd.func18, Tryd.ntmps18
      go_wp2_with fail
      rw [HW.out]
      refine HD.out.mono ?_
      rintro e w3 ⟨rfl, rfl⟩
      go_wp2_with fail
      refine HL.out.mono ?_
      rintro e w3 ⟨rfl, rfl⟩
      clear HD HL
      go_wp2
      rw [HW2.out]
      clear c0 c1 c2 c3 f0 d1 d2 d3 d4 f1
      obtain ⟨w5, hw5⟩ : ∃ x, w2.setCell ⟨w.heap.size + 1, 1, none⟩ (.string shB) = x := ⟨_, rfl⟩
      rw [hw5] at HO5 ⊢
      clear hw5
      refine region_y [13, 14] (fun w' => Below w5.heap.size w5 w') (by kernel_rfl) ?_
      have hS : Below w5.heap.size w5 w5.drew := drew_below w5
      try simp only [Act.put, List.setIfInBounds_toArray, List.set_cons_zero, List.set_cons_succ]
      refine ytg [13, 14] (i := 0) rfl (tkV 3 shB 0 (a : Int)) (by kernel_rfl) (by kernel_rfl) (by kernel_rfl) (by kernel_rfl) (fun _ _ _ h => h) (by rfl) hS (fun w' hw' => by have hX := (HO5.out.below hw').t; obtain ⟨t0, t1, t2, t3⟩ := TkB.cells hX; clear hX; go_simp) ?_
      try simp only [Act.put, List.setIfInBounds_toArray, List.set_cons_zero, List.set_cons_succ]
      refine yug (i := 1) rfl (.int .i64 (a : Int)) (by kernel_rfl) (by kernel_rfl) (by kernel_rfl) (fun _ _ _ h => h) (by rfl) (fun w' => by go_simp) ?_
      try simp only [Act.put, List.setIfInBounds_toArray, List.set_cons_zero, List.set_cons_succ]
      refine yug (i := 2) rfl (.int .i64 ((a : Int) + 1)) (by kernel_rfl) (by kernel_rfl) (by kernel_rfl) (fun _ _ _ h => h) (by rfl) (fun w' => by go_simp) ?_
      try simp only [Act.put, List.setIfInBounds_toArray, List.set_cons_zero, List.set_cons_succ]
      refine yug (i := 3) rfl (.string s) (by kernel_rfl) (by kernel_rfl) (by kernel_rfl) (fun _ _ _ h => h) (by rfl) (fun w' => by go_simp) ?_
      try simp only [Act.put, List.setIfInBounds_toArray, List.set_cons_zero, List.set_cons_succ]
      refine yug (i := 4) rfl (.int .i64 (s.size : Int)) (by kernel_rfl) (by kernel_rfl) (by kernel_rfl) (fun _ _ _ h => h) (by rfl) (fun w' => by go_simp) ?_
      try simp only [Act.put, List.setIfInBounds_toArray, List.set_cons_zero, List.set_cons_succ]
      refine yug (i := 5) rfl (.bool false) (by kernel_rfl) (by kernel_rfl) (by kernel_rfl) (fun _ _ _ h => h) (by rfl) (fun w' => by go_simp) ?_
      try simp only [Act.put, List.setIfInBounds_toArray, List.set_cons_zero, List.set_cons_succ]
      refine yug (i := 6) rfl (.bool false) (by kernel_rfl) (by kernel_rfl) (by kernel_rfl) (fun _ _ _ h => h) (by rfl) (fun w' => by go_simp) ?_
      try simp only [Act.put, List.setIfInBounds_toArray, List.set_cons_zero, List.set_cons_succ]
      refine yn (i := 7) rfl (by kernel_rfl) (by kernel_rfl) (by kernel_rfl) (fun _ _ _ h => h) (by rfl) ?_
      try simp only [Act.put, List.setIfInBounds_toArray, List.set_cons_zero, List.set_cons_succ]
      refine yn (i := 8) rfl (by kernel_rfl) (by kernel_rfl) (by kernel_rfl) (fun _ _ _ h => h) (by rfl) ?_
      try simp only [Act.put, List.setIfInBounds_toArray, List.set_cons_zero, List.set_cons_succ]
      refine yn (i := 9) rfl (by kernel_rfl) (by kernel_rfl) (by kernel_rfl) (fun _ _ _ h => h) (by rfl) ?_
      try simp only [Act.put, List.setIfInBounds_toArray, List.set_cons_zero, List.set_cons_succ]
      refine yn (i := 10) rfl (by kernel_rfl) (by kernel_rfl) (by kernel_rfl) (fun _ _ _ h => h) (by rfl) ?_
      try simp only [Act.put, List.setIfInBounds_toArray, List.set_cons_zero, List.set_cons_succ]
      refine yn (i := 11) rfl (by kernel_rfl) (by kernel_rfl) (by kernel_rfl) (fun _ _ _ h => h) (by rfl) ?_
      try simp only [Act.put, List.setIfInBounds_toArray, List.set_cons_zero, List.set_cons_succ]
      refine yug (i := 12) rfl (.bool false) (by kernel_rfl) (by kernel_rfl) (by kernel_rfl) (fun _ _ _ h => h) (by rfl) (fun w' => by go_simp) ?_
      try simp only [Act.put, List.setIfInBounds_toArray, List.set_cons_zero, List.set_cons_succ]
      refine y1g (i := 13) (by kernel_rfl) rfl (by rfl) (fun K' hK => ?_)
      obtain ⟨c0, c1, c2, c3⟩ := TkB.cells HO5.out.r
      have f0 := Blk.frozen HO5.out.r
      obtain ⟨z0, z1, z2, z3⟩ := (TkB.st HO5.out.r 3 shB 0 (a : Int)).cells
      have HB6 := Lib.hid (Below.drew (below_stK HO5.out.b (Nat.le_refl _) 3 shB 0 (a : Int)))
      go_simp
      refine hK.out _ _ (.inl (by decide)) ?_
      clear hK K' c0 c1 c2 c3 f0
      try simp only [Act.put, List.setIfInBounds_toArray, List.set_cons_zero, List.set_cons_succ]
      refine yug (i := 14) rfl (.bool false) (by kernel_rfl) (by kernel_rfl) (by kernel_rfl) (fun _ _ _ h => h) (by rfl) (fun w' => by go_simp) ?_
      try simp only [Act.put, List.setIfInBounds_toArray, List.set_cons_zero, List.set_cons_succ]
      refine wpAnyY_done (by kernel_rfl) ?_ _
      go_wp2
      refine bodyPost_ret (v := .tuple #[tkV 3 shB 0 (a : Int), .bool false]) (by simp [results, Tryd.results18, go_sem, z0, z1, z2, z3]) rfl ?_
      unfold OneAns
      rw [HT.out]
      exact ⟨⟨_, _, _, _, rfl⟩, HB6.out⟩
  · have b62 : ((c' : Int) == 62) = false := neI c' 62 (by omega)
    have HT1 := Lib.hid (HT0.out.trans (if_neg h62))
    clear h62
    obtain ⟨txt, htx⟩ : ∃ t, s.extract a (a + 1) = t := ⟨_, rfl⟩
    have hsl := run_sl s a (a + 1) (Nat.le_succ _) (by have := HA.out; omega)
    rw [htx, Int.natCast_add, Int.natCast_one] at hsl
    have HTx := Lib.hid htx
    have HO5 := Lib.hid (HO2.out.text txt)
    obtain ⟨d1, d2, d3, d4⟩ := TkB.cells HO2.out.t
    have f1 := Blk.frozen HO2.out.t
    obtain ⟨w5, hw5⟩ : ∃ x, w2.setCell ⟨w.heap.size + 1, 1, none⟩ (.string txt) = x := ⟨_, rfl⟩
    rw [hw5] at HO5
    have HW5 := Lib.hid hw5
    clear htx hw5
    go_enter Tryd.func18, Tryd.ntmps18
    go_wp2_with fail
    rw [HW.out]
    refine HD.out.mono ?_
    rintro e w3 ⟨rfl, rfl⟩
    go_wp2_with fail
    refine HL.out.mono ?_
    rintro e w3 ⟨rfl, rfl⟩
    clear HD HL
    go_wp2
    rw [HW2.out, HW5.out]
    clear hix hsl c0 c1 c2 c3 f0 d1 d2 d3 d4 f1 b62
    obtain ⟨c0, c1, c2, c3⟩ := TkB.cells HO5.out.r
    have f0 := Blk.frozen HO5.out.r
    obtain ⟨q0, q1, q2, q3⟩ := TkB.cells HO5.out.t
    obtain ⟨z0, z1, z2, z3⟩ := (TkB.st HO5.out.r 3 txt 0 (a : Int)).cells
    have HB6 := Lib.hid (below_stK HO5.out.b (Nat.le_refl _) 3 txt 0 (a : Int))
    go_loop [12] (fun v => ∃ k : Nat, v = .int .i64 (k : Int) ∧ Hid (k ≤ 12 ∧ (sign c' = true ↔ c' ∈ (bts signB).drop k))) (fun v => 12 - (intOf v).toNat)
    case atStart => exact ⟨0, rfl, by omega, sign_mem c'⟩
    case round =>
      obtain ⟨k, rfl, HK⟩ := hrel
      have hsz : signB.size = 12 := rfl
      by_cases hk : k < signB.size
      · obtain ⟨d, hd2, hbb, hdd⟩ := at_byte signB k hk
        have hix : ∀ w, (Instr.index 9 (.string ⟨#[43, 45, 42, 64, 60, 61, 40, 41, 91, 93, 44, 59]⟩) (.int .i64 (k : Int))).run Tryd.prog w = .ok (.int .u8 (d : Int)) w := run_ix signB k d hk hbb
        have lk : (k : Int) < 12 := by omega
        have e2 : IntKind.i64.wrap ((k : Int) + 1) = (k : Int) + 1 := i64_nat _ (by omega) (by omega)
        have HLk := Lib.hid (show k < 12 by omega)
        have HDd := Lib.hid hdd
        clear hk hsz hd2 hbb hdd
        by_cases hcd : d = c'
        · have bd : ((d : Int) == (c' : Int)) = true := eqI d _ (by omega)
          have HT := Lib.hid (show Lx.tok ((bts s).drop a) = some (3, 1, 0) by rw [HT1.out, if_pos (HK.out.2.2 (by rw [HDd.out, hcd]; simp))])
          clear hcd
          go_wp2
          refine bodyPost_ret (v := .tuple #[tkV 3 txt 0 (a : Int), .bool true]) (by simp [results, Tryd.results18, go_sem, z0, z1, z2, z3]) rfl ?_
          unfold OneAns
          rw [HT.out]
          refine ⟨?_, HB6.out⟩
          rw [HTx.out]
          rfl
        · have bd : ((d : Int) == (c' : Int)) = false := neI d _ (by omega)
          have HN := Lib.hid (show k + 1 ≤ 12 ∧ (sign c' = true ↔ c' ∈ (bts signB).drop (k + 1)) by
            refine ⟨by have := HLk.out; omega, HK.out.2.trans ?_⟩
            rw [HDd.out, List.mem_cons]
            exact ⟨fun h => h.resolve_left (fun e => hcd e.symm), .inr⟩)
          clear hcd
          go_wp2
          go_round
          case rel => exact ⟨k + 1, by go_num, HN.out⟩
          case measure => simp [intOf]; have := HLk.out; omega
      · have lk : ¬ (k : Int) < 12 := by omega
        have HT := Lib.hid (show Lx.tok ((bts s).drop a) = none by
          rw [HT1.out, if_neg]
          intro h
          have := HK.out.2.1 h
          rw [bts_end signB k (by omega)] at this
          cases this)
        clear hk hsz
        go_wp2
        refine bodyPost_ret (v := .tuple #[tkV 3 txt 0 (a : Int), .bool false]) (by simp [results, Tryd.results18, go_sem, z0, z1, z2, z3]) rfl ?_
        unfold OneAns
        rw [HT.out]
        exact ⟨⟨_, _, _, _, rfl⟩, HB6.out⟩
theorem rone_any (s : ByteArray) (a : Nat) (w : World) (ha : a < s.size) (hs : s.size ≤ 1000000) :
    Calls Tryd.prog 18 #[.string s, .int .i64 (a : Int)] w (OneAns s a w) := by
  obtain ⟨c, _, _, hd⟩ := at_byte s a ha
  cases hg : digit c
  · cases hl : letter c
    · exact rone_sign s a c _ w ha hd hg hl hs
    · exact rone_name s a c _ _ w ha hd hl rfl hs
  · exact rone_number s a c _ _ w ha hd hg rfl hs
end Go.Proofs.YtkogbighpidfhaaDoor
