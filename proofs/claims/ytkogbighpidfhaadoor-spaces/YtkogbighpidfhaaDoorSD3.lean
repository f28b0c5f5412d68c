/- The document's one: at a digit. -/
import Derived.Test.YtkogbighpidfhaaDoorSD2
import Derived.Test.YtkogbighpidfhaaDoorBQ6
namespace Go.Proofs.YtkogbighpidfhaaDoor
open Go.RowKit
open Lx

def OneNo (w : World) (e : Ending) (w' : World) : Prop := (∃ k t v x, e = .returned (.tuple #[tkV k t v x, .bool false])) ∧ Below w.heap.size w w'
def OneYes (k : Nat) (t : ByteArray) (v a : Nat) (w : World) (e : Ending) (w' : World) : Prop := e = .returned (.tuple #[tkV (k : Int) t (v : Int) (a : Int), .bool true]) ∧ Below w.heap.size w w'
/-- What one answers. -/
def OneAns (s : ByteArray) (a : Nat) (w : World) (e : Ending) (w' : World) : Prop := match Lx.tok ((bts s).drop a) with
  | some (k, l, n) => OneYes k (s.extract a (a + l)) n a w e w'
  | none => OneNo w e w'
/-- Two tokens' blocks: the result's, and that which is built. -/
structure Ob (w w' : World) (k : Int) (t : ByteArray) (v a : Int) : Prop where
  b : Below w.heap.size w w'
  r : TkB w' w.heap.size 0 ⟨#[]⟩ 0 0
  t : TkB w' (w.heap.size + 1) k t v a
theorem Ob.below {w w' w2 : World} {k v a : Int} {t : ByteArray} (h : Ob w w' k t v a) (hb : Below w'.heap.size w' w2) : Ob w w2 k t v a :=
  ⟨h.b.trans (hb.mono h.b.size), Blk.below h.r hb (Blk.lt h.r), Blk.below h.t hb (Blk.lt h.t)⟩
theorem Ob.new (w : World) (a : Int) : Ob w ((w.alloc (.cells (tkC 0 ⟨#[]⟩ 0 0) 37)).alloc (.cells (tkC 0 ⟨#[]⟩ 0 a) 37)) 0 ⟨#[]⟩ 0 a := by
  have h1 := (Below.refl w.heap.size w).alloc (Nat.le_refl _) (.cells (tkC 0 ⟨#[]⟩ 0 0) 37)
  refine ⟨h1.alloc h1.size _, (Blk.new w 37 (tkC 0 ⟨#[]⟩ 0 0)).alloc _, ?_⟩
  have := Blk.new (w.alloc (.cells (tkC 0 ⟨#[]⟩ 0 0) 37)) 37 (tkC 0 ⟨#[]⟩ 0 a)
  rw [World.size_alloc] at this
  exact this
theorem Ob.kind {w w' : World} {k v a : Int} {t : ByteArray} (h : Ob w w' k t v a) (k' : Int) : Ob w (w'.setCell ⟨w.heap.size + 1, 0, none⟩ (.int .i64 k')) k' t v a :=
  ⟨h.b.setCell (p := ⟨w.heap.size + 1, 0, none⟩) (Nat.le_succ _) _, Blk.far h.r (by show w.heap.size ≠ w.heap.size + 1; omega) _, Blk.set h.t 0 _⟩
theorem Ob.text {w w' : World} {k v a : Int} {t : ByteArray} (h : Ob w w' k t v a) (t' : ByteArray) : Ob w (w'.setCell ⟨w.heap.size + 1, 1, none⟩ (.string t')) k t' v a :=
  ⟨h.b.setCell (p := ⟨w.heap.size + 1, 1, none⟩) (Nat.le_succ _) _, Blk.far h.r (by show w.heap.size ≠ w.heap.size + 1; omega) _, Blk.set h.t 1 _⟩
theorem Ob.num {w w' : World} {k v a : Int} {t : ByteArray} (h : Ob w w' k t v a) (v' : Int) : Ob w (w'.setCell ⟨w.heap.size + 1, 2, none⟩ (.int .u64 v')) k t v' a :=
  ⟨h.b.setCell (p := ⟨w.heap.size + 1, 2, none⟩) (Nat.le_succ _) _, Blk.far h.r (by show w.heap.size ≠ w.heap.size + 1; omega) _, Blk.set h.t 2 _⟩
theorem drew_below (w : World) : Below w.heap.size w w.drew := ⟨rfl, rfl, rfl, Nat.le_refl _, fun _ _ => rfl⟩
/-- A slice of the text, as the walk asks for it. -/
theorem run_sl (s : ByteArray) (a b : Nat) (hab : a ≤ b) (hb : b ≤ s.size) (w : World) : (Instr.slice 9 (.string s) (some (.int .i64 (a : Int))) (some (.int .i64 (b : Int))) none).run Tryd.prog w = .ok (.string (s.extract a b)) w := by
  rw [run_slice_string_if w 9 s .i64 .i64 (a : Int) (b : Int) Tryd.underlying9, if_pos ⟨by omega, by omega⟩, if_pos ⟨by omega, by omega⟩, Int.toNat_natCast, Int.toNat_natCast]
set_option maxHeartbeats 16000000 in
set_option maxRecDepth 100000 in
theorem rone_number (s : ByteArray) (a c n : Nat) (r : List Nat) (w : World) (ha : a < s.size) (hd : (bts s).drop a = c :: r) (hc : digit c = true) (hn : run digit ((bts s).drop a) = n) (hs : s.size ≤ 1000000) :
    Calls Tryd.prog 18 #[.string s, .int .i64 (a : Int)] w (OneAns s a w) := by
  obtain ⟨w1, hw1⟩ : ∃ x, (w.alloc (.cells (tkC 0 ⟨#[]⟩ 0 0) 37)).alloc (.cells (tkC 0 ⟨#[]⟩ 0 (a : Int)) 37) = x := ⟨_, rfl⟩
  have HO := Lib.hid (show Ob w w1 0 ⟨#[]⟩ 0 (a : Int) from hw1 ▸ Ob.new w (a : Int))
  have HW := Lib.hid hw1
  clear hw1
  have HD := Lib.hid (rDigit_any c w1)
  rw [hc] at HD
  obtain ⟨c', hc2, hbb, hdd⟩ := at_byte s a ha
  obtain rfl : c' = c := by
    rw [hd] at hdd
    injection hdd with h _
    exact h.symm
  have hix := run_ix s a c' ha hbb
  have hnl := run_le digit ((bts s).drop a)
  rw [hn, List.length_drop, bts_length] at hnl
  have hn0 : 0 < n := by rw [← hn, hd]; exact run_pos hc
  have HA := Lib.hid (show a < s.size ∧ s.size ≤ 1000000 ∧ 0 < n ∧ a + n ≤ s.size from ⟨ha, hs, hn0, by omega⟩)
  have HN := Lib.hid hn
  have HDr := Lib.hid hd
  have HC := Lib.hid hc
  clear ha hd hc hn hs hc2 hbb hdd hnl hn0
  go_enter Tryd.func18, Tryd.ntmps18
  go_wp2_with fail
  rw [HW.out]
  refine HD.out.mono ?_
  rintro e w2 ⟨rfl, rfl⟩
  clear HD
  go_wp2
  go_loop [8] (fun v => ∃ j : Nat, v = .int .i64 (j : Int) ∧ Hid (a ≤ j ∧ j ≤ a + n)) (fun v => s.size - (intOf v).toNat)
  case atStart => exact ⟨a, rfl, Nat.le_refl _, Nat.le_add_right _ _⟩
  case round =>
    clear hix
    obtain ⟨j, rfl, HJ⟩ := hrel
    have HRn := Lib.hid (run_drop_step digit ((bts s).drop a) (j - a) (by rw [HN.out]; have := HJ.out; omega))
    rw [HN.out, List.drop_drop, show a + (j - a) = j by have := HJ.out; omega] at HRn
    by_cases hj : j < s.size
    · obtain ⟨d, hd2, hbb, hdd⟩ := at_byte s j hj
      have lt1 : (j : Int) < (s.size : Int) := by omega
      have hix := run_ix s j d hj hbb
      have e1 : IntKind.i64.wrap ((j : Int) + 1) = (j : Int) + 1 := i64_nat _ (by omega) (by have := HA.out; omega)
      have HDd := Lib.hid (rDigit_any d w1)
      rw [hdd] at HRn
      have HLj := Lib.hid hj
      cases hg : digit d
      · have hje : j = a + n := by
          have := HRn.out
          simp only [run] at this
          rw [if_neg (by rw [hg]; decide)] at this
          have := HJ.out
          omega
        rw [hg] at HDd
        have HG := Lib.hid (And.intro hje (And.intro hdd hg))
        clear hj hd2 hbb hdd hg hje HRn
        go_wp2_with fail
        refine HDd.out.mono ?_
        rintro e w2 ⟨rfl, rfl⟩
        clear HDd
        obtain ⟨txt, htx⟩ : ∃ t, s.extract a j = t := ⟨_, rfl⟩
        have hsl := run_sl s a j HJ.out.1 (by have := HJ.out; have := HA.out; omega)
        rw [htx] at hsl
        have hbt : bts txt = ((bts s).drop a).take n := by rw [← htx, bts_extract, HG.out.1, Nat.add_sub_cancel_left]
        have HNb := Lib.hid (number_any txt c' (r.take (n - 1)) w1 (by rw [hbt, HDr.out, show n = (n - 1) + 1 by have := HA.out; omega]; rfl) (by rw [hbt, ← HN.out]; exact run_take digit _) (by rw [← htx, ByteArray.size_extract]; have := HA.out; omega))
        have htz : txt.size = n := by rw [← htx, ByteArray.size_extract]; have := HG.out.1; have := HA.out; omega
        unfold numV at HNb
        rw [hbt, htz] at HNb
        have HTx := Lib.hid (And.intro htx hbt)
        clear htx hbt htz
        by_cases hv : val 0 (((bts s).drop a).take n) < 18446744073709551616
        · rw [if_pos hv] at HNb
          obtain ⟨v, hve⟩ : ∃ v, val 0 (((bts s).drop a).take n) = v := ⟨_, rfl⟩
          rw [hve] at HNb
          have HV := Lib.hid (And.intro hve hv)
          clear hve hv
          by_cases h48 : n = 1 ∨ c' ≠ 48
          · rw [decide_eq_true h48] at HNb
            have HK := Lib.hid h48
            clear h48
            have b0 : ((j : Int) == (s.size : Int)) = false := by rw [beq_eq_false_iff_ne]; have := HLj.out; omega
            have hla : lowAt (((bts s).drop a).drop n) = low d := by rw [List.drop_drop, ← HG.out.1, HG.out.2.1]; rfl
            have HLa := Lib.hid hla
            clear hla
            rcases Bool.eq_false_or_eq_true (letter d) with hl | hl
            · have HT := Lib.hid (show Lx.tok ((bts s).drop a) = none by
                have hn := HN.out
                have hla := HLa.out
                rw [HDr.out] at hn hla ⊢
                simp only [Lx.tok]
                rw [if_pos HC.out, hn, if_neg (fun h => by have h3 := h.2.2; rw [hla] at h3; unfold low at h3; rw [hl] at h3; cases h3)])
              go_wp2_with fail
              refine HNb.out.mono ?_
              rintro e w3 ⟨rfl, hb3⟩
              have HO3 := Lib.hid (HO.out.below hb3)
              clear hb3 HNb
              obtain ⟨c0, c1, c2, c3⟩ := TkB.cells HO3.out.t
              have f0 := Blk.frozen HO3.out.t
              go_wp2_with fail
              clear c0 c1 c2 c3 f0
              have HO5 := Lib.hid (((HO3.out.kind 2).text txt).num (v : Int))
              obtain ⟨w5, hw5⟩ : ∃ x, ((w3.setCell ⟨w.heap.size + 1, 0, none⟩ (.int .i64 2)).setCell ⟨w.heap.size + 1, 1, none⟩ (.string txt)).setCell ⟨w.heap.size + 1, 2, none⟩ (.int .u64 (v : Int)) = x := ⟨_, rfl⟩
              rw [hw5] at HO5 ⊢
              clear hw5 HO3
              refine region_y [21, 22] (fun w' => Below w5.heap.size w5 w') (by kernel_rfl) ?_
              have hS : Below w5.heap.size w5 w5.drew := drew_below w5
              try simp only [Act.put, List.setIfInBounds_toArray, List.set_cons_zero, List.set_cons_succ]
              refine ytg [21, 22] (i := 0) rfl (tkV 2 txt (v : Int) (a : Int)) (by kernel_rfl) (by kernel_rfl) (by kernel_rfl) (by kernel_rfl) (fun _ _ _ h => h) (by rfl) hS (fun w' hw' => by have hX := (HO5.out.below hw').t; obtain ⟨t0, t1, t2, t3⟩ := TkB.cells hX; clear hX; go_simp) ?_
              try simp only [Act.put, List.setIfInBounds_toArray, List.set_cons_zero, List.set_cons_succ]
              refine yug (i := 1) rfl (.bool true) (by kernel_rfl) (by kernel_rfl) (by kernel_rfl) (fun _ _ _ h => h) (by rfl) (fun w' => by go_simp) ?_
              try simp only [Act.put, List.setIfInBounds_toArray, List.set_cons_zero, List.set_cons_succ]
              refine yug (i := 2) rfl (.bool true) (by kernel_rfl) (by kernel_rfl) (by kernel_rfl) (fun _ _ _ h => h) (by rfl) (fun w' => by go_simp) ?_
              try simp only [Act.put, List.setIfInBounds_toArray, List.set_cons_zero, List.set_cons_succ]
              refine yug (i := 3) rfl (.int .i64 (j : Int)) (by kernel_rfl) (by kernel_rfl) (by kernel_rfl) (fun _ _ _ h => h) (by rfl) (fun w' => by go_simp) ?_
              try simp only [Act.put, List.setIfInBounds_toArray, List.set_cons_zero, List.set_cons_succ]
              refine yug (i := 4) rfl (.string s) (by kernel_rfl) (by kernel_rfl) (by kernel_rfl) (fun _ _ _ h => h) (by rfl) (fun w' => by go_simp) ?_
              try simp only [Act.put, List.setIfInBounds_toArray, List.set_cons_zero, List.set_cons_succ]
              refine yug (i := 5) rfl (.int .i64 (s.size : Int)) (by kernel_rfl) (by kernel_rfl) (by kernel_rfl) (fun _ _ _ h => h) (by rfl) (fun w' => by go_simp) ?_
              try simp only [Act.put, List.setIfInBounds_toArray, List.set_cons_zero, List.set_cons_succ]
              refine yug (i := 6) rfl (.bool false) (by kernel_rfl) (by kernel_rfl) (by kernel_rfl) (fun _ _ _ h => h) (by rfl) (fun w' => by go_simp) ?_
              try simp only [Act.put, List.setIfInBounds_toArray, List.set_cons_zero, List.set_cons_succ]
              refine yug (i := 7) rfl (.bool false) (by kernel_rfl) (by kernel_rfl) (by kernel_rfl) (fun _ _ _ h => h) (by rfl) (fun w' => by go_simp) ?_
              try simp only [Act.put, List.setIfInBounds_toArray, List.set_cons_zero, List.set_cons_succ]
              refine yug (i := 8) rfl (.string s) (by kernel_rfl) (by kernel_rfl) (by kernel_rfl) (fun _ _ _ h => h) (by rfl) (fun w' => by go_simp) ?_
              try simp only [Act.put, List.setIfInBounds_toArray, List.set_cons_zero, List.set_cons_succ]
              refine yug (i := 9) rfl (.int .i64 (j : Int)) (by kernel_rfl) (by kernel_rfl) (by kernel_rfl) (fun _ _ _ h => h) (by rfl) (fun w' => by go_simp) ?_
              try simp only [Act.put, List.setIfInBounds_toArray, List.set_cons_zero, List.set_cons_succ]
              refine yug (i := 10) rfl (.int .u8 (d : Int)) (by kernel_rfl) (by kernel_rfl) (by kernel_rfl) (fun _ _ _ h => h) (by rfl) (fun w' => by go_simp) ?_
              try simp only [Act.put, List.setIfInBounds_toArray, List.set_cons_zero, List.set_cons_succ]
              refine y1g (i := 11) (by kernel_rfl) rfl (by rfl) (fun K' hK => ?_)
              go_simp
              refine Calls.mono (hl ▸ rLetter_any d w5.drew) ?_
              rintro e w8 ⟨rfl, rfl⟩
              refine hK.out _ _ (.inr id) ?_
              clear hK K'
              try simp only [Act.put, List.setIfInBounds_toArray, List.set_cons_zero, List.set_cons_succ]
              refine yug (i := 12) rfl (.bool false) (by kernel_rfl) (by kernel_rfl) (by kernel_rfl) (fun _ _ _ h => h) (by rfl) (fun w' => by go_simp) ?_
              try simp only [Act.put, List.setIfInBounds_toArray, List.set_cons_zero, List.set_cons_succ]
              refine yug (i := 13) rfl (.bool false) (by kernel_rfl) (by kernel_rfl) (by kernel_rfl) (fun _ _ _ h => h) (by rfl) (fun w' => by go_simp) ?_
              try simp only [Act.put, List.setIfInBounds_toArray, List.set_cons_zero, List.set_cons_succ]
              refine yn (i := 14) rfl (by kernel_rfl) (by kernel_rfl) (by kernel_rfl) (fun _ _ _ h => h) (by rfl) ?_
              try simp only [Act.put, List.setIfInBounds_toArray, List.set_cons_zero, List.set_cons_succ]
              refine yn (i := 15) rfl (by kernel_rfl) (by kernel_rfl) (by kernel_rfl) (fun _ _ _ h => h) (by rfl) ?_
              try simp only [Act.put, List.setIfInBounds_toArray, List.set_cons_zero, List.set_cons_succ]
              refine yn (i := 16) rfl (by kernel_rfl) (by kernel_rfl) (by kernel_rfl) (fun _ _ _ h => h) (by rfl) ?_
              try simp only [Act.put, List.setIfInBounds_toArray, List.set_cons_zero, List.set_cons_succ]
              refine yn (i := 17) rfl (by kernel_rfl) (by kernel_rfl) (by kernel_rfl) (fun _ _ _ h => h) (by rfl) ?_
              try simp only [Act.put, List.setIfInBounds_toArray, List.set_cons_zero, List.set_cons_succ]
              refine yug (i := 18) rfl (.bool false) (by kernel_rfl) (by kernel_rfl) (by kernel_rfl) (fun _ _ _ h => h) (by rfl) (fun w' => by go_simp) ?_
              try simp only [Act.put, List.setIfInBounds_toArray, List.set_cons_zero, List.set_cons_succ]
              refine yug (i := 19) rfl (.bool false) (by kernel_rfl) (by kernel_rfl) (by kernel_rfl) (fun _ _ _ h => h) (by rfl) (fun w' => by go_simp) ?_
              try simp only [Act.put, List.setIfInBounds_toArray, List.set_cons_zero, List.set_cons_succ]
              refine yug (i := 20) rfl (.bool false) (by kernel_rfl) (by kernel_rfl) (by kernel_rfl) (fun _ _ _ h => h) (by rfl) (fun w' => by go_simp) ?_
              try simp only [Act.put, List.setIfInBounds_toArray, List.set_cons_zero, List.set_cons_succ]
              refine y1g (i := 21) (by kernel_rfl) rfl (by rfl) (fun K' hK => ?_)
              obtain ⟨c0, c1, c2, c3⟩ := TkB.cells HO5.out.r
              have f0 := Blk.frozen HO5.out.r
              obtain ⟨z0, z1, z2, z3⟩ := (TkB.st HO5.out.r 2 txt (v : Int) (a : Int)).cells
              have HB6 := Lib.hid (Below.drew (below_stK HO5.out.b (Nat.le_refl _) 2 txt (v : Int) (a : Int)))
              go_simp
              refine hK.out _ _ (.inl (by decide)) ?_
              clear hK K' c0 c1 c2 c3 f0
              try simp only [Act.put, List.setIfInBounds_toArray, List.set_cons_zero, List.set_cons_succ]
              refine yug (i := 22) rfl (.bool false) (by kernel_rfl) (by kernel_rfl) (by kernel_rfl) (fun _ _ _ h => h) (by rfl) (fun w' => by go_simp) ?_
              try simp only [Act.put, List.setIfInBounds_toArray, List.set_cons_zero, List.set_cons_succ]
              refine wpAnyY_done (by kernel_rfl) ?_ _
              go_wp2
              refine bodyPost_ret (v := .tuple #[tkV 2 txt (v : Int) (a : Int), .bool false]) (by simp [results, Tryd.results18, go_sem, z0, z1, z2, z3]) rfl ?_
              unfold OneAns
              rw [HT.out]
              exact ⟨⟨_, _, _, _, rfl⟩, HB6.out⟩
            · by_cases h95 : d = 95
              · have b1 : ((d : Int) != 95) = false := beqI d 95 (by omega)
                have HT := Lib.hid (show Lx.tok ((bts s).drop a) = none by
                  have hn := HN.out
                  have hla := HLa.out
                  rw [HDr.out] at hn hla ⊢
                  simp only [Lx.tok]
                  rw [if_pos HC.out, hn, if_neg (fun h => by have h3 := h.2.2; rw [hla] at h3; subst h95; cases h3)])
                clear h95
                go_wp2_with fail
                refine HNb.out.mono ?_
                rintro e w3 ⟨rfl, hb3⟩
                have HO3 := Lib.hid (HO.out.below hb3)
                clear hb3 HNb
                obtain ⟨c0, c1, c2, c3⟩ := TkB.cells HO3.out.t
                have f0 := Blk.frozen HO3.out.t
                go_wp2_with fail
                clear c0 c1 c2 c3 f0
                have HO5 := Lib.hid (((HO3.out.kind 2).text txt).num (v : Int))
                obtain ⟨w5, hw5⟩ : ∃ x, ((w3.setCell ⟨w.heap.size + 1, 0, none⟩ (.int .i64 2)).setCell ⟨w.heap.size + 1, 1, none⟩ (.string txt)).setCell ⟨w.heap.size + 1, 2, none⟩ (.int .u64 (v : Int)) = x := ⟨_, rfl⟩
                rw [hw5] at HO5 ⊢
                clear hw5 HO3
                refine region_y [21, 22] (fun w' => Below w5.heap.size w5 w') (by kernel_rfl) ?_
                have hS : Below w5.heap.size w5 w5.drew := drew_below w5
                try simp only [Act.put, List.setIfInBounds_toArray, List.set_cons_zero, List.set_cons_succ]
                refine ytg [21, 22] (i := 0) rfl (tkV 2 txt (v : Int) (a : Int)) (by kernel_rfl) (by kernel_rfl) (by kernel_rfl) (by kernel_rfl) (fun _ _ _ h => h) (by rfl) hS (fun w' hw' => by have hX := (HO5.out.below hw').t; obtain ⟨t0, t1, t2, t3⟩ := TkB.cells hX; clear hX; go_simp) ?_
                try simp only [Act.put, List.setIfInBounds_toArray, List.set_cons_zero, List.set_cons_succ]
                refine yug (i := 1) rfl (.bool true) (by kernel_rfl) (by kernel_rfl) (by kernel_rfl) (fun _ _ _ h => h) (by rfl) (fun w' => by go_simp) ?_
                try simp only [Act.put, List.setIfInBounds_toArray, List.set_cons_zero, List.set_cons_succ]
                refine yug (i := 2) rfl (.bool true) (by kernel_rfl) (by kernel_rfl) (by kernel_rfl) (fun _ _ _ h => h) (by rfl) (fun w' => by go_simp) ?_
                try simp only [Act.put, List.setIfInBounds_toArray, List.set_cons_zero, List.set_cons_succ]
                refine yug (i := 3) rfl (.int .i64 (j : Int)) (by kernel_rfl) (by kernel_rfl) (by kernel_rfl) (fun _ _ _ h => h) (by rfl) (fun w' => by go_simp) ?_
                try simp only [Act.put, List.setIfInBounds_toArray, List.set_cons_zero, List.set_cons_succ]
                refine yug (i := 4) rfl (.string s) (by kernel_rfl) (by kernel_rfl) (by kernel_rfl) (fun _ _ _ h => h) (by rfl) (fun w' => by go_simp) ?_
                try simp only [Act.put, List.setIfInBounds_toArray, List.set_cons_zero, List.set_cons_succ]
                refine yug (i := 5) rfl (.int .i64 (s.size : Int)) (by kernel_rfl) (by kernel_rfl) (by kernel_rfl) (fun _ _ _ h => h) (by rfl) (fun w' => by go_simp) ?_
                try simp only [Act.put, List.setIfInBounds_toArray, List.set_cons_zero, List.set_cons_succ]
                refine yug (i := 6) rfl (.bool false) (by kernel_rfl) (by kernel_rfl) (by kernel_rfl) (fun _ _ _ h => h) (by rfl) (fun w' => by go_simp) ?_
                try simp only [Act.put, List.setIfInBounds_toArray, List.set_cons_zero, List.set_cons_succ]
                refine yug (i := 7) rfl (.bool false) (by kernel_rfl) (by kernel_rfl) (by kernel_rfl) (fun _ _ _ h => h) (by rfl) (fun w' => by go_simp) ?_
                try simp only [Act.put, List.setIfInBounds_toArray, List.set_cons_zero, List.set_cons_succ]
                refine yug (i := 8) rfl (.string s) (by kernel_rfl) (by kernel_rfl) (by kernel_rfl) (fun _ _ _ h => h) (by rfl) (fun w' => by go_simp) ?_
                try simp only [Act.put, List.setIfInBounds_toArray, List.set_cons_zero, List.set_cons_succ]
                refine yug (i := 9) rfl (.int .i64 (j : Int)) (by kernel_rfl) (by kernel_rfl) (by kernel_rfl) (fun _ _ _ h => h) (by rfl) (fun w' => by go_simp) ?_
                try simp only [Act.put, List.setIfInBounds_toArray, List.set_cons_zero, List.set_cons_succ]
                refine yug (i := 10) rfl (.int .u8 (d : Int)) (by kernel_rfl) (by kernel_rfl) (by kernel_rfl) (fun _ _ _ h => h) (by rfl) (fun w' => by go_simp) ?_
                try simp only [Act.put, List.setIfInBounds_toArray, List.set_cons_zero, List.set_cons_succ]
                refine y1g (i := 11) (by kernel_rfl) rfl (by rfl) (fun K' hK => ?_)
                go_simp
                refine Calls.mono (hl ▸ rLetter_any d w5.drew) ?_
                rintro e w8 ⟨rfl, rfl⟩
                refine hK.out _ _ (.inr id) ?_
                clear hK K'
                try simp only [Act.put, List.setIfInBounds_toArray, List.set_cons_zero, List.set_cons_succ]
                refine yug (i := 12) rfl (.bool true) (by kernel_rfl) (by kernel_rfl) (by kernel_rfl) (fun _ _ _ h => h) (by rfl) (fun w' => by go_simp) ?_
                try simp only [Act.put, List.setIfInBounds_toArray, List.set_cons_zero, List.set_cons_succ]
                refine yug (i := 13) rfl (.bool true) (by kernel_rfl) (by kernel_rfl) (by kernel_rfl) (fun _ _ _ h => h) (by rfl) (fun w' => by go_simp) ?_
                try simp only [Act.put, List.setIfInBounds_toArray, List.set_cons_zero, List.set_cons_succ]
                refine yug (i := 14) rfl (.string s) (by kernel_rfl) (by kernel_rfl) (by kernel_rfl) (fun _ _ _ h => h) (by rfl) (fun w' => by go_simp) ?_
                try simp only [Act.put, List.setIfInBounds_toArray, List.set_cons_zero, List.set_cons_succ]
                refine yug (i := 15) rfl (.int .i64 (j : Int)) (by kernel_rfl) (by kernel_rfl) (by kernel_rfl) (fun _ _ _ h => h) (by rfl) (fun w' => by go_simp) ?_
                try simp only [Act.put, List.setIfInBounds_toArray, List.set_cons_zero, List.set_cons_succ]
                refine yug (i := 16) rfl (.int .u8 (d : Int)) (by kernel_rfl) (by kernel_rfl) (by kernel_rfl) (fun _ _ _ h => h) (by rfl) (fun w' => by go_simp) ?_
                try simp only [Act.put, List.setIfInBounds_toArray, List.set_cons_zero, List.set_cons_succ]
                refine yug (i := 17) rfl (.bool false) (by kernel_rfl) (by kernel_rfl) (by kernel_rfl) (fun _ _ _ h => h) (by rfl) (fun w' => by go_simp) ?_
                try simp only [Act.put, List.setIfInBounds_toArray, List.set_cons_zero, List.set_cons_succ]
                refine yug (i := 18) rfl (.bool false) (by kernel_rfl) (by kernel_rfl) (by kernel_rfl) (fun _ _ _ h => h) (by rfl) (fun w' => by go_simp) ?_
                try simp only [Act.put, List.setIfInBounds_toArray, List.set_cons_zero, List.set_cons_succ]
                refine yug (i := 19) rfl (.bool false) (by kernel_rfl) (by kernel_rfl) (by kernel_rfl) (fun _ _ _ h => h) (by rfl) (fun w' => by go_simp) ?_
                try simp only [Act.put, List.setIfInBounds_toArray, List.set_cons_zero, List.set_cons_succ]
                refine yug (i := 20) rfl (.bool false) (by kernel_rfl) (by kernel_rfl) (by kernel_rfl) (fun _ _ _ h => h) (by rfl) (fun w' => by go_simp) ?_
                try simp only [Act.put, List.setIfInBounds_toArray, List.set_cons_zero, List.set_cons_succ]
                refine y1g (i := 21) (by kernel_rfl) rfl (by rfl) (fun K' hK => ?_)
                obtain ⟨c0, c1, c2, c3⟩ := TkB.cells HO5.out.r
                have f0 := Blk.frozen HO5.out.r
                obtain ⟨z0, z1, z2, z3⟩ := (TkB.st HO5.out.r 2 txt (v : Int) (a : Int)).cells
                have HB6 := Lib.hid (Below.drew (below_stK HO5.out.b (Nat.le_refl _) 2 txt (v : Int) (a : Int)))
                go_simp
                refine hK.out _ _ (.inl (by decide)) ?_
                clear hK K' c0 c1 c2 c3 f0
                try simp only [Act.put, List.setIfInBounds_toArray, List.set_cons_zero, List.set_cons_succ]
                refine yug (i := 22) rfl (.bool false) (by kernel_rfl) (by kernel_rfl) (by kernel_rfl) (fun _ _ _ h => h) (by rfl) (fun w' => by go_simp) ?_
                try simp only [Act.put, List.setIfInBounds_toArray, List.set_cons_zero, List.set_cons_succ]
                refine wpAnyY_done (by kernel_rfl) ?_ _
                go_wp2
                refine bodyPost_ret (v := .tuple #[tkV 2 txt (v : Int) (a : Int), .bool false]) (by simp [results, Tryd.results18, go_sem, z0, z1, z2, z3]) rfl ?_
                unfold OneAns
                rw [HT.out]
                exact ⟨⟨_, _, _, _, rfl⟩, HB6.out⟩
              · have b1 : ((d : Int) != 95) = true := bneI d 95 (by omega)
                have HT := Lib.hid (show Lx.tok ((bts s).drop a) = some (2, n, v) by
                  have hn := HN.out
                  have hla := HLa.out
                  have hv := HV.out
                  rw [HDr.out] at hn hla hv ⊢
                  simp only [Lx.tok]
                  rw [if_pos HC.out, hn, if_pos ⟨hv.2, HK.out, by rw [hla]; unfold low; rw [hl]; simpa using h95⟩, hv.1])
                clear h95
                go_wp2_with fail
                refine HNb.out.mono ?_
                rintro e w3 ⟨rfl, hb3⟩
                have HO3 := Lib.hid (HO.out.below hb3)
                clear hb3 HNb
                obtain ⟨c0, c1, c2, c3⟩ := TkB.cells HO3.out.t
                have f0 := Blk.frozen HO3.out.t
                go_wp2_with fail
                clear c0 c1 c2 c3 f0
                have HO5 := Lib.hid (((HO3.out.kind 2).text txt).num (v : Int))
                obtain ⟨w5, hw5⟩ : ∃ x, ((w3.setCell ⟨w.heap.size + 1, 0, none⟩ (.int .i64 2)).setCell ⟨w.heap.size + 1, 1, none⟩ (.string txt)).setCell ⟨w.heap.size + 1, 2, none⟩ (.int .u64 (v : Int)) = x := ⟨_, rfl⟩
                rw [hw5] at HO5 ⊢
                clear hw5 HO3
                refine region_y [21, 22] (fun w' => Below w5.heap.size w5 w') (by kernel_rfl) ?_
                have hS : Below w5.heap.size w5 w5.drew := drew_below w5
                try simp only [Act.put, List.setIfInBounds_toArray, List.set_cons_zero, List.set_cons_succ]
                refine ytg [21, 22] (i := 0) rfl (tkV 2 txt (v : Int) (a : Int)) (by kernel_rfl) (by kernel_rfl) (by kernel_rfl) (by kernel_rfl) (fun _ _ _ h => h) (by rfl) hS (fun w' hw' => by have hX := (HO5.out.below hw').t; obtain ⟨t0, t1, t2, t3⟩ := TkB.cells hX; clear hX; go_simp) ?_
                try simp only [Act.put, List.setIfInBounds_toArray, List.set_cons_zero, List.set_cons_succ]
                refine yug (i := 1) rfl (.bool true) (by kernel_rfl) (by kernel_rfl) (by kernel_rfl) (fun _ _ _ h => h) (by rfl) (fun w' => by go_simp) ?_
                try simp only [Act.put, List.setIfInBounds_toArray, List.set_cons_zero, List.set_cons_succ]
                refine yug (i := 2) rfl (.bool true) (by kernel_rfl) (by kernel_rfl) (by kernel_rfl) (fun _ _ _ h => h) (by rfl) (fun w' => by go_simp) ?_
                try simp only [Act.put, List.setIfInBounds_toArray, List.set_cons_zero, List.set_cons_succ]
                refine yug (i := 3) rfl (.int .i64 (j : Int)) (by kernel_rfl) (by kernel_rfl) (by kernel_rfl) (fun _ _ _ h => h) (by rfl) (fun w' => by go_simp) ?_
                try simp only [Act.put, List.setIfInBounds_toArray, List.set_cons_zero, List.set_cons_succ]
                refine yug (i := 4) rfl (.string s) (by kernel_rfl) (by kernel_rfl) (by kernel_rfl) (fun _ _ _ h => h) (by rfl) (fun w' => by go_simp) ?_
                try simp only [Act.put, List.setIfInBounds_toArray, List.set_cons_zero, List.set_cons_succ]
                refine yug (i := 5) rfl (.int .i64 (s.size : Int)) (by kernel_rfl) (by kernel_rfl) (by kernel_rfl) (fun _ _ _ h => h) (by rfl) (fun w' => by go_simp) ?_
                try simp only [Act.put, List.setIfInBounds_toArray, List.set_cons_zero, List.set_cons_succ]
                refine yug (i := 6) rfl (.bool false) (by kernel_rfl) (by kernel_rfl) (by kernel_rfl) (fun _ _ _ h => h) (by rfl) (fun w' => by go_simp) ?_
                try simp only [Act.put, List.setIfInBounds_toArray, List.set_cons_zero, List.set_cons_succ]
                refine yug (i := 7) rfl (.bool false) (by kernel_rfl) (by kernel_rfl) (by kernel_rfl) (fun _ _ _ h => h) (by rfl) (fun w' => by go_simp) ?_
                try simp only [Act.put, List.setIfInBounds_toArray, List.set_cons_zero, List.set_cons_succ]
                refine yug (i := 8) rfl (.string s) (by kernel_rfl) (by kernel_rfl) (by kernel_rfl) (fun _ _ _ h => h) (by rfl) (fun w' => by go_simp) ?_
                try simp only [Act.put, List.setIfInBounds_toArray, List.set_cons_zero, List.set_cons_succ]
                refine yug (i := 9) rfl (.int .i64 (j : Int)) (by kernel_rfl) (by kernel_rfl) (by kernel_rfl) (fun _ _ _ h => h) (by rfl) (fun w' => by go_simp) ?_
                try simp only [Act.put, List.setIfInBounds_toArray, List.set_cons_zero, List.set_cons_succ]
                refine yug (i := 10) rfl (.int .u8 (d : Int)) (by kernel_rfl) (by kernel_rfl) (by kernel_rfl) (fun _ _ _ h => h) (by rfl) (fun w' => by go_simp) ?_
                try simp only [Act.put, List.setIfInBounds_toArray, List.set_cons_zero, List.set_cons_succ]
                refine y1g (i := 11) (by kernel_rfl) rfl (by rfl) (fun K' hK => ?_)
                go_simp
                refine Calls.mono (hl ▸ rLetter_any d w5.drew) ?_
                rintro e w8 ⟨rfl, rfl⟩
                refine hK.out _ _ (.inr id) ?_
                clear hK K'
                try simp only [Act.put, List.setIfInBounds_toArray, List.set_cons_zero, List.set_cons_succ]
                refine yug (i := 12) rfl (.bool true) (by kernel_rfl) (by kernel_rfl) (by kernel_rfl) (fun _ _ _ h => h) (by rfl) (fun w' => by go_simp) ?_
                try simp only [Act.put, List.setIfInBounds_toArray, List.set_cons_zero, List.set_cons_succ]
                refine yug (i := 13) rfl (.bool true) (by kernel_rfl) (by kernel_rfl) (by kernel_rfl) (fun _ _ _ h => h) (by rfl) (fun w' => by go_simp) ?_
                try simp only [Act.put, List.setIfInBounds_toArray, List.set_cons_zero, List.set_cons_succ]
                refine yug (i := 14) rfl (.string s) (by kernel_rfl) (by kernel_rfl) (by kernel_rfl) (fun _ _ _ h => h) (by rfl) (fun w' => by go_simp) ?_
                try simp only [Act.put, List.setIfInBounds_toArray, List.set_cons_zero, List.set_cons_succ]
                refine yug (i := 15) rfl (.int .i64 (j : Int)) (by kernel_rfl) (by kernel_rfl) (by kernel_rfl) (fun _ _ _ h => h) (by rfl) (fun w' => by go_simp) ?_
                try simp only [Act.put, List.setIfInBounds_toArray, List.set_cons_zero, List.set_cons_succ]
                refine yug (i := 16) rfl (.int .u8 (d : Int)) (by kernel_rfl) (by kernel_rfl) (by kernel_rfl) (fun _ _ _ h => h) (by rfl) (fun w' => by go_simp) ?_
                try simp only [Act.put, List.setIfInBounds_toArray, List.set_cons_zero, List.set_cons_succ]
                refine yug (i := 17) rfl (.bool true) (by kernel_rfl) (by kernel_rfl) (by kernel_rfl) (fun _ _ _ h => h) (by rfl) (fun w' => by go_simp) ?_
                try simp only [Act.put, List.setIfInBounds_toArray, List.set_cons_zero, List.set_cons_succ]
                refine yug (i := 18) rfl (.bool true) (by kernel_rfl) (by kernel_rfl) (by kernel_rfl) (fun _ _ _ h => h) (by rfl) (fun w' => by go_simp) ?_
                try simp only [Act.put, List.setIfInBounds_toArray, List.set_cons_zero, List.set_cons_succ]
                refine yug (i := 19) rfl (.bool true) (by kernel_rfl) (by kernel_rfl) (by kernel_rfl) (fun _ _ _ h => h) (by rfl) (fun w' => by go_simp) ?_
                try simp only [Act.put, List.setIfInBounds_toArray, List.set_cons_zero, List.set_cons_succ]
                refine yug (i := 20) rfl (.bool true) (by kernel_rfl) (by kernel_rfl) (by kernel_rfl) (fun _ _ _ h => h) (by rfl) (fun w' => by go_simp) ?_
                try simp only [Act.put, List.setIfInBounds_toArray, List.set_cons_zero, List.set_cons_succ]
                refine y1g (i := 21) (by kernel_rfl) rfl (by rfl) (fun K' hK => ?_)
                obtain ⟨c0, c1, c2, c3⟩ := TkB.cells HO5.out.r
                have f0 := Blk.frozen HO5.out.r
                obtain ⟨z0, z1, z2, z3⟩ := (TkB.st HO5.out.r 2 txt (v : Int) (a : Int)).cells
                have HB6 := Lib.hid (Below.drew (below_stK HO5.out.b (Nat.le_refl _) 2 txt (v : Int) (a : Int)))
                go_simp
                refine hK.out _ _ (.inl (by decide)) ?_
                clear hK K' c0 c1 c2 c3 f0
                try simp only [Act.put, List.setIfInBounds_toArray, List.set_cons_zero, List.set_cons_succ]
                refine yug (i := 22) rfl (.bool true) (by kernel_rfl) (by kernel_rfl) (by kernel_rfl) (fun _ _ _ h => h) (by rfl) (fun w' => by go_simp) ?_
                try simp only [Act.put, List.setIfInBounds_toArray, List.set_cons_zero, List.set_cons_succ]
                refine wpAnyY_done (by kernel_rfl) ?_ _
                go_wp2
                refine bodyPost_ret (v := .tuple #[tkV 2 txt (v : Int) (a : Int), .bool true]) (by simp [results, Tryd.results18, go_sem, z0, z1, z2, z3]) rfl ?_
                unfold OneAns
                rw [HT.out]
                refine ⟨?_, HB6.out⟩
                rw [← HG.out.1, HTx.out.1]
                rfl
          · rw [decide_eq_false h48] at HNb
            have HT := Lib.hid (show Lx.tok ((bts s).drop a) = none by
              rw [HDr.out] at HN ⊢
              simp only [Lx.tok]
              rw [if_pos HC.out, HN.out, if_neg (fun h => h48 h.2.1)])
            clear h48
            go_wp2_with fail
            refine HNb.out.mono ?_
            rintro e w3 ⟨rfl, hb3⟩
            have HO3 := Lib.hid (HO.out.below hb3)
            clear hb3 HNb
            obtain ⟨c0, c1, c2, c3⟩ := TkB.cells HO3.out.t
            have f0 := Blk.frozen HO3.out.t
            go_wp2_with fail
            clear c0 c1 c2 c3 f0
            have HO5 := Lib.hid (((HO3.out.kind 2).text txt).num (v : Int))
            obtain ⟨w5, hw5⟩ : ∃ x, ((w3.setCell ⟨w.heap.size + 1, 0, none⟩ (.int .i64 2)).setCell ⟨w.heap.size + 1, 1, none⟩ (.string txt)).setCell ⟨w.heap.size + 1, 2, none⟩ (.int .u64 (v : Int)) = x := ⟨_, rfl⟩
            rw [hw5] at HO5 ⊢
            clear hw5 HO3
            refine region_y [21, 22] (fun w' => Below w5.heap.size w5 w') (by kernel_rfl) ?_
            have hS : Below w5.heap.size w5 w5.drew := drew_below w5
            try simp only [Act.put, List.setIfInBounds_toArray, List.set_cons_zero, List.set_cons_succ]
            refine ytg [21, 22] (i := 0) rfl (tkV 2 txt (v : Int) (a : Int)) (by kernel_rfl) (by kernel_rfl) (by kernel_rfl) (by kernel_rfl) (fun _ _ _ h => h) (by rfl) hS (fun w' hw' => by have hX := (HO5.out.below hw').t; obtain ⟨t0, t1, t2, t3⟩ := TkB.cells hX; clear hX; go_simp) ?_
            try simp only [Act.put, List.setIfInBounds_toArray, List.set_cons_zero, List.set_cons_succ]
            refine yug (i := 1) rfl (.bool false) (by kernel_rfl) (by kernel_rfl) (by kernel_rfl) (fun _ _ _ h => h) (by rfl) (fun w' => by go_simp) ?_
            try simp only [Act.put, List.setIfInBounds_toArray, List.set_cons_zero, List.set_cons_succ]
            refine yug (i := 2) rfl (.bool false) (by kernel_rfl) (by kernel_rfl) (by kernel_rfl) (fun _ _ _ h => h) (by rfl) (fun w' => by go_simp) ?_
            try simp only [Act.put, List.setIfInBounds_toArray, List.set_cons_zero, List.set_cons_succ]
            refine yn (i := 3) rfl (by kernel_rfl) (by kernel_rfl) (by kernel_rfl) (fun _ _ _ h => h) (by rfl) ?_
            try simp only [Act.put, List.setIfInBounds_toArray, List.set_cons_zero, List.set_cons_succ]
            refine yn (i := 4) rfl (by kernel_rfl) (by kernel_rfl) (by kernel_rfl) (fun _ _ _ h => h) (by rfl) ?_
            try simp only [Act.put, List.setIfInBounds_toArray, List.set_cons_zero, List.set_cons_succ]
            refine yn (i := 5) rfl (by kernel_rfl) (by kernel_rfl) (by kernel_rfl) (fun _ _ _ h => h) (by rfl) ?_
            try simp only [Act.put, List.setIfInBounds_toArray, List.set_cons_zero, List.set_cons_succ]
            refine yn (i := 6) rfl (by kernel_rfl) (by kernel_rfl) (by kernel_rfl) (fun _ _ _ h => h) (by rfl) ?_
            try simp only [Act.put, List.setIfInBounds_toArray, List.set_cons_zero, List.set_cons_succ]
            refine yn (i := 7) rfl (by kernel_rfl) (by kernel_rfl) (by kernel_rfl) (fun _ _ _ h => h) (by rfl) ?_
            try simp only [Act.put, List.setIfInBounds_toArray, List.set_cons_zero, List.set_cons_succ]
            refine yn (i := 8) rfl (by kernel_rfl) (by kernel_rfl) (by kernel_rfl) (fun _ _ _ h => h) (by rfl) ?_
            try simp only [Act.put, List.setIfInBounds_toArray, List.set_cons_zero, List.set_cons_succ]
            refine yn (i := 9) rfl (by kernel_rfl) (by kernel_rfl) (by kernel_rfl) (fun _ _ _ h => h) (by rfl) ?_
            try simp only [Act.put, List.setIfInBounds_toArray, List.set_cons_zero, List.set_cons_succ]
            refine yn (i := 10) rfl (by kernel_rfl) (by kernel_rfl) (by kernel_rfl) (fun _ _ _ h => h) (by rfl) ?_
            try simp only [Act.put, List.setIfInBounds_toArray, List.set_cons_zero, List.set_cons_succ]
            refine yn (i := 11) rfl (by kernel_rfl) (by kernel_rfl) (by kernel_rfl) (fun _ _ _ h => h) (by rfl) ?_
            try simp only [Act.put, List.setIfInBounds_toArray, List.set_cons_zero, List.set_cons_succ]
            refine yn (i := 12) rfl (by kernel_rfl) (by kernel_rfl) (by kernel_rfl) (fun _ _ _ h => h) (by rfl) ?_
            try simp only [Act.put, List.setIfInBounds_toArray, List.set_cons_zero, List.set_cons_succ]
            refine yn (i := 13) rfl (by kernel_rfl) (by kernel_rfl) (by kernel_rfl) (fun _ _ _ h => h) (by rfl) ?_
            try simp only [Act.put, List.setIfInBounds_toArray, List.set_cons_zero, List.set_cons_succ]
            refine yn (i := 14) rfl (by kernel_rfl) (by kernel_rfl) (by kernel_rfl) (fun _ _ _ h => h) (by rfl) ?_
            try simp only [Act.put, List.setIfInBounds_toArray, List.set_cons_zero, List.set_cons_succ]
            refine yn (i := 15) rfl (by kernel_rfl) (by kernel_rfl) (by kernel_rfl) (fun _ _ _ h => h) (by rfl) ?_
            try simp only [Act.put, List.setIfInBounds_toArray, List.set_cons_zero, List.set_cons_succ]
            refine yn (i := 16) rfl (by kernel_rfl) (by kernel_rfl) (by kernel_rfl) (fun _ _ _ h => h) (by rfl) ?_
            try simp only [Act.put, List.setIfInBounds_toArray, List.set_cons_zero, List.set_cons_succ]
            refine yn (i := 17) rfl (by kernel_rfl) (by kernel_rfl) (by kernel_rfl) (fun _ _ _ h => h) (by rfl) ?_
            try simp only [Act.put, List.setIfInBounds_toArray, List.set_cons_zero, List.set_cons_succ]
            refine yn (i := 18) rfl (by kernel_rfl) (by kernel_rfl) (by kernel_rfl) (fun _ _ _ h => h) (by rfl) ?_
            try simp only [Act.put, List.setIfInBounds_toArray, List.set_cons_zero, List.set_cons_succ]
            refine yn (i := 19) rfl (by kernel_rfl) (by kernel_rfl) (by kernel_rfl) (fun _ _ _ h => h) (by rfl) ?_
            try simp only [Act.put, List.setIfInBounds_toArray, List.set_cons_zero, List.set_cons_succ]
            refine yug (i := 20) rfl (.bool false) (by kernel_rfl) (by kernel_rfl) (by kernel_rfl) (fun _ _ _ h => h) (by rfl) (fun w' => by go_simp) ?_
            try simp only [Act.put, List.setIfInBounds_toArray, List.set_cons_zero, List.set_cons_succ]
            refine y1g (i := 21) (by kernel_rfl) rfl (by rfl) (fun K' hK => ?_)
            obtain ⟨c0, c1, c2, c3⟩ := TkB.cells HO5.out.r
            have f0 := Blk.frozen HO5.out.r
            obtain ⟨z0, z1, z2, z3⟩ := (TkB.st HO5.out.r 2 txt (v : Int) (a : Int)).cells
            have HB6 := Lib.hid (Below.drew (below_stK HO5.out.b (Nat.le_refl _) 2 txt (v : Int) (a : Int)))
            go_simp
            refine hK.out _ _ (.inl (by decide)) ?_
            clear hK K' c0 c1 c2 c3 f0
            try simp only [Act.put, List.setIfInBounds_toArray, List.set_cons_zero, List.set_cons_succ]
            refine yug (i := 22) rfl (.bool false) (by kernel_rfl) (by kernel_rfl) (by kernel_rfl) (fun _ _ _ h => h) (by rfl) (fun w' => by go_simp) ?_
            try simp only [Act.put, List.setIfInBounds_toArray, List.set_cons_zero, List.set_cons_succ]
            refine wpAnyY_done (by kernel_rfl) ?_ _
            go_wp2
            refine bodyPost_ret (v := .tuple #[tkV 2 txt (v : Int) (a : Int), .bool false]) (by simp [results, Tryd.results18, go_sem, z0, z1, z2, z3]) rfl ?_
            unfold OneAns
            rw [HT.out]
            exact ⟨⟨_, _, _, _, rfl⟩, HB6.out⟩
        · rw [if_neg hv] at HNb
          have HT := Lib.hid (show Lx.tok ((bts s).drop a) = none by
            rw [HDr.out] at HN hv ⊢
            simp only [Lx.tok]
            rw [if_pos HC.out, HN.out, if_neg (fun h => hv h.1)])
          clear hv
          go_wp2_with fail
          refine HNb.out.mono ?_
          rintro e w3 ⟨rfl, hb3⟩
          have HO3 := Lib.hid (HO.out.below hb3)
          clear hb3 HNb
          obtain ⟨c0, c1, c2, c3⟩ := TkB.cells HO3.out.t
          have f0 := Blk.frozen HO3.out.t
          go_wp2_with fail
          clear c0 c1 c2 c3 f0
          have HO5 := Lib.hid (((HO3.out.kind 2).text txt).num 0)
          obtain ⟨w5, hw5⟩ : ∃ x, ((w3.setCell ⟨w.heap.size + 1, 0, none⟩ (.int .i64 2)).setCell ⟨w.heap.size + 1, 1, none⟩ (.string txt)).setCell ⟨w.heap.size + 1, 2, none⟩ (.int .u64 0) = x := ⟨_, rfl⟩
          rw [hw5] at HO5 ⊢
          clear hw5 HO3
          refine region_y [21, 22] (fun w' => Below w5.heap.size w5 w') (by kernel_rfl) ?_
          have hS : Below w5.heap.size w5 w5.drew := drew_below w5
          try simp only [Act.put, List.setIfInBounds_toArray, List.set_cons_zero, List.set_cons_succ]
          refine ytg [21, 22] (i := 0) rfl (tkV 2 txt 0 (a : Int)) (by kernel_rfl) (by kernel_rfl) (by kernel_rfl) (by kernel_rfl) (fun _ _ _ h => h) (by rfl) hS (fun w' hw' => by have hX := (HO5.out.below hw').t; obtain ⟨t0, t1, t2, t3⟩ := TkB.cells hX; clear hX; go_simp) ?_
          try simp only [Act.put, List.setIfInBounds_toArray, List.set_cons_zero, List.set_cons_succ]
          refine yug (i := 1) rfl (.bool false) (by kernel_rfl) (by kernel_rfl) (by kernel_rfl) (fun _ _ _ h => h) (by rfl) (fun w' => by go_simp) ?_
          try simp only [Act.put, List.setIfInBounds_toArray, List.set_cons_zero, List.set_cons_succ]
          refine yug (i := 2) rfl (.bool false) (by kernel_rfl) (by kernel_rfl) (by kernel_rfl) (fun _ _ _ h => h) (by rfl) (fun w' => by go_simp) ?_
          try simp only [Act.put, List.setIfInBounds_toArray, List.set_cons_zero, List.set_cons_succ]
          refine yn (i := 3) rfl (by kernel_rfl) (by kernel_rfl) (by kernel_rfl) (fun _ _ _ h => h) (by rfl) ?_
          try simp only [Act.put, List.setIfInBounds_toArray, List.set_cons_zero, List.set_cons_succ]
          refine yn (i := 4) rfl (by kernel_rfl) (by kernel_rfl) (by kernel_rfl) (fun _ _ _ h => h) (by rfl) ?_
          try simp only [Act.put, List.setIfInBounds_toArray, List.set_cons_zero, List.set_cons_succ]
          refine yn (i := 5) rfl (by kernel_rfl) (by kernel_rfl) (by kernel_rfl) (fun _ _ _ h => h) (by rfl) ?_
          try simp only [Act.put, List.setIfInBounds_toArray, List.set_cons_zero, List.set_cons_succ]
          refine yn (i := 6) rfl (by kernel_rfl) (by kernel_rfl) (by kernel_rfl) (fun _ _ _ h => h) (by rfl) ?_
          try simp only [Act.put, List.setIfInBounds_toArray, List.set_cons_zero, List.set_cons_succ]
          refine yn (i := 7) rfl (by kernel_rfl) (by kernel_rfl) (by kernel_rfl) (fun _ _ _ h => h) (by rfl) ?_
          try simp only [Act.put, List.setIfInBounds_toArray, List.set_cons_zero, List.set_cons_succ]
          refine yn (i := 8) rfl (by kernel_rfl) (by kernel_rfl) (by kernel_rfl) (fun _ _ _ h => h) (by rfl) ?_
          try simp only [Act.put, List.setIfInBounds_toArray, List.set_cons_zero, List.set_cons_succ]
          refine yn (i := 9) rfl (by kernel_rfl) (by kernel_rfl) (by kernel_rfl) (fun _ _ _ h => h) (by rfl) ?_
          try simp only [Act.put, List.setIfInBounds_toArray, List.set_cons_zero, List.set_cons_succ]
          refine yn (i := 10) rfl (by kernel_rfl) (by kernel_rfl) (by kernel_rfl) (fun _ _ _ h => h) (by rfl) ?_
          try simp only [Act.put, List.setIfInBounds_toArray, List.set_cons_zero, List.set_cons_succ]
          refine yn (i := 11) rfl (by kernel_rfl) (by kernel_rfl) (by kernel_rfl) (fun _ _ _ h => h) (by rfl) ?_
          try simp only [Act.put, List.setIfInBounds_toArray, List.set_cons_zero, List.set_cons_succ]
          refine yn (i := 12) rfl (by kernel_rfl) (by kernel_rfl) (by kernel_rfl) (fun _ _ _ h => h) (by rfl) ?_
          try simp only [Act.put, List.setIfInBounds_toArray, List.set_cons_zero, List.set_cons_succ]
          refine yn (i := 13) rfl (by kernel_rfl) (by kernel_rfl) (by kernel_rfl) (fun _ _ _ h => h) (by rfl) ?_
          try simp only [Act.put, List.setIfInBounds_toArray, List.set_cons_zero, List.set_cons_succ]
          refine yn (i := 14) rfl (by kernel_rfl) (by kernel_rfl) (by kernel_rfl) (fun _ _ _ h => h) (by rfl) ?_
          try simp only [Act.put, List.setIfInBounds_toArray, List.set_cons_zero, List.set_cons_succ]
          refine yn (i := 15) rfl (by kernel_rfl) (by kernel_rfl) (by kernel_rfl) (fun _ _ _ h => h) (by rfl) ?_
          try simp only [Act.put, List.setIfInBounds_toArray, List.set_cons_zero, List.set_cons_succ]
          refine yn (i := 16) rfl (by kernel_rfl) (by kernel_rfl) (by kernel_rfl) (fun _ _ _ h => h) (by rfl) ?_
          try simp only [Act.put, List.setIfInBounds_toArray, List.set_cons_zero, List.set_cons_succ]
          refine yn (i := 17) rfl (by kernel_rfl) (by kernel_rfl) (by kernel_rfl) (fun _ _ _ h => h) (by rfl) ?_
          try simp only [Act.put, List.setIfInBounds_toArray, List.set_cons_zero, List.set_cons_succ]
          refine yn (i := 18) rfl (by kernel_rfl) (by kernel_rfl) (by kernel_rfl) (fun _ _ _ h => h) (by rfl) ?_
          try simp only [Act.put, List.setIfInBounds_toArray, List.set_cons_zero, List.set_cons_succ]
          refine yn (i := 19) rfl (by kernel_rfl) (by kernel_rfl) (by kernel_rfl) (fun _ _ _ h => h) (by rfl) ?_
          try simp only [Act.put, List.setIfInBounds_toArray, List.set_cons_zero, List.set_cons_succ]
          refine yug (i := 20) rfl (.bool false) (by kernel_rfl) (by kernel_rfl) (by kernel_rfl) (fun _ _ _ h => h) (by rfl) (fun w' => by go_simp) ?_
          try simp only [Act.put, List.setIfInBounds_toArray, List.set_cons_zero, List.set_cons_succ]
          refine y1g (i := 21) (by kernel_rfl) rfl (by rfl) (fun K' hK => ?_)
          obtain ⟨c0, c1, c2, c3⟩ := TkB.cells HO5.out.r
          have f0 := Blk.frozen HO5.out.r
          obtain ⟨z0, z1, z2, z3⟩ := (TkB.st HO5.out.r 2 txt 0 (a : Int)).cells
          have HB6 := Lib.hid (Below.drew (below_stK HO5.out.b (Nat.le_refl _) 2 txt 0 (a : Int)))
          go_simp
          refine hK.out _ _ (.inl (by decide)) ?_
          clear hK K' c0 c1 c2 c3 f0
          try simp only [Act.put, List.setIfInBounds_toArray, List.set_cons_zero, List.set_cons_succ]
          refine yug (i := 22) rfl (.bool false) (by kernel_rfl) (by kernel_rfl) (by kernel_rfl) (fun _ _ _ h => h) (by rfl) (fun w' => by go_simp) ?_
          try simp only [Act.put, List.setIfInBounds_toArray, List.set_cons_zero, List.set_cons_succ]
          refine wpAnyY_done (by kernel_rfl) ?_ _
          go_wp2
          refine bodyPost_ret (v := .tuple #[tkV 2 txt 0 (a : Int), .bool false]) (by simp [results, Tryd.results18, go_sem, z0, z1, z2, z3]) rfl ?_
          unfold OneAns
          rw [HT.out]
          exact ⟨⟨_, _, _, _, rfl⟩, HB6.out⟩
      · have hje : j + 1 ≤ a + n := by
          have := HRn.out
          simp only [run] at this
          rw [if_pos hg] at this
          have := HJ.out
          omega
        rw [hg] at HDd
        have HG := Lib.hid hje
        clear hj hd2 hbb hdd hg hje HRn
        go_wp2_with fail
        refine HDd.out.mono ?_
        rintro e w2 ⟨rfl, rfl⟩
        clear HDd
        go_wp2
        go_round
        case rel => exact ⟨j + 1, by go_num, by have := HJ.out; omega, HG.out⟩
        case measure => simp [intOf]; have := HLj.out; omega
    · have lt1 : ¬ (j : Int) < (s.size : Int) := by omega
      have hje : j = a + n := by have := HJ.out; have := HA.out; omega
      have HG := Lib.hid (And.intro hje hj)
      clear hj hje HRn
      obtain ⟨txt, htx⟩ : ∃ t, s.extract a j = t := ⟨_, rfl⟩
      have hsl := run_sl s a j HJ.out.1 (by have := HJ.out; have := HA.out; omega)
      rw [htx] at hsl
      have hbt : bts txt = ((bts s).drop a).take n := by rw [← htx, bts_extract, HG.out.1, Nat.add_sub_cancel_left]
      have HNb := Lib.hid (number_any txt c' (r.take (n - 1)) w1 (by rw [hbt, HDr.out, show n = (n - 1) + 1 by have := HA.out; omega]; rfl) (by rw [hbt, ← HN.out]; exact run_take digit _) (by rw [← htx, ByteArray.size_extract]; have := HA.out; omega))
      have htz : txt.size = n := by rw [← htx, ByteArray.size_extract]; have := HG.out.1; have := HA.out; omega
      unfold numV at HNb
      rw [hbt, htz] at HNb
      have HTx := Lib.hid (And.intro htx hbt)
      clear htx hbt htz
      by_cases hv : val 0 (((bts s).drop a).take n) < 18446744073709551616
      · rw [if_pos hv] at HNb
        obtain ⟨v, hve⟩ : ∃ v, val 0 (((bts s).drop a).take n) = v := ⟨_, rfl⟩
        rw [hve] at HNb
        have HV := Lib.hid (And.intro hve hv)
        clear hve hv
        by_cases h48 : n = 1 ∨ c' ≠ 48
        · rw [decide_eq_true h48] at HNb
          have HK := Lib.hid h48
          clear h48
          have b0 : ((j : Int) == (s.size : Int)) = true := by rw [beq_iff_eq]; have := HJ.out; have := HG.out; have := HA.out; omega
          have HT := Lib.hid (show Lx.tok ((bts s).drop a) = some (2, n, v) by
            have hl : lowAt (((bts s).drop a).drop n) = false := by rw [List.drop_drop, bts_end s _ (by have := HG.out; omega)]; rfl
            have hv := HV.out
            have hn := HN.out
            rw [HDr.out] at hn hv hl ⊢
            simp only [Lx.tok]
            rw [if_pos HC.out, hn, if_pos ⟨hv.2, HK.out, hl⟩, hv.1])
          go_wp2_with fail
          refine HNb.out.mono ?_
          rintro e w3 ⟨rfl, hb3⟩
          have HO3 := Lib.hid (HO.out.below hb3)
          clear hb3 HNb
          obtain ⟨c0, c1, c2, c3⟩ := TkB.cells HO3.out.t
          have f0 := Blk.frozen HO3.out.t
          go_wp2_with fail
          clear c0 c1 c2 c3 f0
          have HO5 := Lib.hid (((HO3.out.kind 2).text txt).num (v : Int))
          obtain ⟨w5, hw5⟩ : ∃ x, ((w3.setCell ⟨w.heap.size + 1, 0, none⟩ (.int .i64 2)).setCell ⟨w.heap.size + 1, 1, none⟩ (.string txt)).setCell ⟨w.heap.size + 1, 2, none⟩ (.int .u64 (v : Int)) = x := ⟨_, rfl⟩
          rw [hw5] at HO5 ⊢
          clear hw5 HO3
          refine region_y [21, 22] (fun w' => Below w5.heap.size w5 w') (by kernel_rfl) ?_
          have hS : Below w5.heap.size w5 w5.drew := drew_below w5
          try simp only [Act.put, List.setIfInBounds_toArray, List.set_cons_zero, List.set_cons_succ]
          refine ytg [21, 22] (i := 0) rfl (tkV 2 txt (v : Int) (a : Int)) (by kernel_rfl) (by kernel_rfl) (by kernel_rfl) (by kernel_rfl) (fun _ _ _ h => h) (by rfl) hS (fun w' hw' => by have hX := (HO5.out.below hw').t; obtain ⟨t0, t1, t2, t3⟩ := TkB.cells hX; clear hX; go_simp) ?_
          try simp only [Act.put, List.setIfInBounds_toArray, List.set_cons_zero, List.set_cons_succ]
          refine yug (i := 1) rfl (.bool true) (by kernel_rfl) (by kernel_rfl) (by kernel_rfl) (fun _ _ _ h => h) (by rfl) (fun w' => by go_simp) ?_
          try simp only [Act.put, List.setIfInBounds_toArray, List.set_cons_zero, List.set_cons_succ]
          refine yug (i := 2) rfl (.bool true) (by kernel_rfl) (by kernel_rfl) (by kernel_rfl) (fun _ _ _ h => h) (by rfl) (fun w' => by go_simp) ?_
          try simp only [Act.put, List.setIfInBounds_toArray, List.set_cons_zero, List.set_cons_succ]
          refine yug (i := 3) rfl (.int .i64 (j : Int)) (by kernel_rfl) (by kernel_rfl) (by kernel_rfl) (fun _ _ _ h => h) (by rfl) (fun w' => by go_simp) ?_
          try simp only [Act.put, List.setIfInBounds_toArray, List.set_cons_zero, List.set_cons_succ]
          refine yug (i := 4) rfl (.string s) (by kernel_rfl) (by kernel_rfl) (by kernel_rfl) (fun _ _ _ h => h) (by rfl) (fun w' => by go_simp) ?_
          try simp only [Act.put, List.setIfInBounds_toArray, List.set_cons_zero, List.set_cons_succ]
          refine yug (i := 5) rfl (.int .i64 (s.size : Int)) (by kernel_rfl) (by kernel_rfl) (by kernel_rfl) (fun _ _ _ h => h) (by rfl) (fun w' => by go_simp) ?_
          try simp only [Act.put, List.setIfInBounds_toArray, List.set_cons_zero, List.set_cons_succ]
          refine yug (i := 6) rfl (.bool true) (by kernel_rfl) (by kernel_rfl) (by kernel_rfl) (fun _ _ _ h => h) (by rfl) (fun w' => by go_simp) ?_
          try simp only [Act.put, List.setIfInBounds_toArray, List.set_cons_zero, List.set_cons_succ]
          refine yug (i := 7) rfl (.bool true) (by kernel_rfl) (by kernel_rfl) (by kernel_rfl) (fun _ _ _ h => h) (by rfl) (fun w' => by go_simp) ?_
          try simp only [Act.put, List.setIfInBounds_toArray, List.set_cons_zero, List.set_cons_succ]
          refine yn (i := 8) rfl (by kernel_rfl) (by kernel_rfl) (by kernel_rfl) (fun _ _ _ h => h) (by rfl) ?_
          try simp only [Act.put, List.setIfInBounds_toArray, List.set_cons_zero, List.set_cons_succ]
          refine yn (i := 9) rfl (by kernel_rfl) (by kernel_rfl) (by kernel_rfl) (fun _ _ _ h => h) (by rfl) ?_
          try simp only [Act.put, List.setIfInBounds_toArray, List.set_cons_zero, List.set_cons_succ]
          refine yn (i := 10) rfl (by kernel_rfl) (by kernel_rfl) (by kernel_rfl) (fun _ _ _ h => h) (by rfl) ?_
          try simp only [Act.put, List.setIfInBounds_toArray, List.set_cons_zero, List.set_cons_succ]
          refine yn (i := 11) rfl (by kernel_rfl) (by kernel_rfl) (by kernel_rfl) (fun _ _ _ h => h) (by rfl) ?_
          try simp only [Act.put, List.setIfInBounds_toArray, List.set_cons_zero, List.set_cons_succ]
          refine yn (i := 12) rfl (by kernel_rfl) (by kernel_rfl) (by kernel_rfl) (fun _ _ _ h => h) (by rfl) ?_
          try simp only [Act.put, List.setIfInBounds_toArray, List.set_cons_zero, List.set_cons_succ]
          refine yn (i := 13) rfl (by kernel_rfl) (by kernel_rfl) (by kernel_rfl) (fun _ _ _ h => h) (by rfl) ?_
          try simp only [Act.put, List.setIfInBounds_toArray, List.set_cons_zero, List.set_cons_succ]
          refine yn (i := 14) rfl (by kernel_rfl) (by kernel_rfl) (by kernel_rfl) (fun _ _ _ h => h) (by rfl) ?_
          try simp only [Act.put, List.setIfInBounds_toArray, List.set_cons_zero, List.set_cons_succ]
          refine yn (i := 15) rfl (by kernel_rfl) (by kernel_rfl) (by kernel_rfl) (fun _ _ _ h => h) (by rfl) ?_
          try simp only [Act.put, List.setIfInBounds_toArray, List.set_cons_zero, List.set_cons_succ]
          refine yn (i := 16) rfl (by kernel_rfl) (by kernel_rfl) (by kernel_rfl) (fun _ _ _ h => h) (by rfl) ?_
          try simp only [Act.put, List.setIfInBounds_toArray, List.set_cons_zero, List.set_cons_succ]
          refine yn (i := 17) rfl (by kernel_rfl) (by kernel_rfl) (by kernel_rfl) (fun _ _ _ h => h) (by rfl) ?_
          try simp only [Act.put, List.setIfInBounds_toArray, List.set_cons_zero, List.set_cons_succ]
          refine yn (i := 18) rfl (by kernel_rfl) (by kernel_rfl) (by kernel_rfl) (fun _ _ _ h => h) (by rfl) ?_
          try simp only [Act.put, List.setIfInBounds_toArray, List.set_cons_zero, List.set_cons_succ]
          refine yug (i := 19) rfl (.bool true) (by kernel_rfl) (by kernel_rfl) (by kernel_rfl) (fun _ _ _ h => h) (by rfl) (fun w' => by go_simp) ?_
          try simp only [Act.put, List.setIfInBounds_toArray, List.set_cons_zero, List.set_cons_succ]
          refine yug (i := 20) rfl (.bool true) (by kernel_rfl) (by kernel_rfl) (by kernel_rfl) (fun _ _ _ h => h) (by rfl) (fun w' => by go_simp) ?_
          try simp only [Act.put, List.setIfInBounds_toArray, List.set_cons_zero, List.set_cons_succ]
          refine y1g (i := 21) (by kernel_rfl) rfl (by rfl) (fun K' hK => ?_)
          obtain ⟨c0, c1, c2, c3⟩ := TkB.cells HO5.out.r
          have f0 := Blk.frozen HO5.out.r
          obtain ⟨z0, z1, z2, z3⟩ := (TkB.st HO5.out.r 2 txt (v : Int) (a : Int)).cells
          have HB6 := Lib.hid (Below.drew (below_stK HO5.out.b (Nat.le_refl _) 2 txt (v : Int) (a : Int)))
          go_simp
          refine hK.out _ _ (.inl (by decide)) ?_
          clear hK K' c0 c1 c2 c3 f0
          try simp only [Act.put, List.setIfInBounds_toArray, List.set_cons_zero, List.set_cons_succ]
          refine yug (i := 22) rfl (.bool true) (by kernel_rfl) (by kernel_rfl) (by kernel_rfl) (fun _ _ _ h => h) (by rfl) (fun w' => by go_simp) ?_
          try simp only [Act.put, List.setIfInBounds_toArray, List.set_cons_zero, List.set_cons_succ]
          refine wpAnyY_done (by kernel_rfl) ?_ _
          go_wp2
          refine bodyPost_ret (v := .tuple #[tkV 2 txt (v : Int) (a : Int), .bool true]) (by simp [results, Tryd.results18, go_sem, z0, z1, z2, z3]) rfl ?_
          unfold OneAns
          rw [HT.out]
          refine ⟨?_, HB6.out⟩
          rw [← HG.out.1, HTx.out.1]
          rfl
        · rw [decide_eq_false h48] at HNb
          have HT := Lib.hid (show Lx.tok ((bts s).drop a) = none by
            rw [HDr.out] at HN ⊢
            simp only [Lx.tok]
            rw [if_pos HC.out, HN.out, if_neg (fun h => h48 h.2.1)])
          clear h48
          go_wp2_with fail
          refine HNb.out.mono ?_
          rintro e w3 ⟨rfl, hb3⟩
          have HO3 := Lib.hid (HO.out.below hb3)
          clear hb3 HNb
          obtain ⟨c0, c1, c2, c3⟩ := TkB.cells HO3.out.t
          have f0 := Blk.frozen HO3.out.t
          go_wp2_with fail
          clear c0 c1 c2 c3 f0
          have HO5 := Lib.hid (((HO3.out.kind 2).text txt).num (v : Int))
          obtain ⟨w5, hw5⟩ : ∃ x, ((w3.setCell ⟨w.heap.size + 1, 0, none⟩ (.int .i64 2)).setCell ⟨w.heap.size + 1, 1, none⟩ (.string txt)).setCell ⟨w.heap.size + 1, 2, none⟩ (.int .u64 (v : Int)) = x := ⟨_, rfl⟩
          rw [hw5] at HO5 ⊢
          clear hw5 HO3
          refine region_y [21, 22] (fun w' => Below w5.heap.size w5 w') (by kernel_rfl) ?_
          have hS : Below w5.heap.size w5 w5.drew := drew_below w5
          try simp only [Act.put, List.setIfInBounds_toArray, List.set_cons_zero, List.set_cons_succ]
          refine ytg [21, 22] (i := 0) rfl (tkV 2 txt (v : Int) (a : Int)) (by kernel_rfl) (by kernel_rfl) (by kernel_rfl) (by kernel_rfl) (fun _ _ _ h => h) (by rfl) hS (fun w' hw' => by have hX := (HO5.out.below hw').t; obtain ⟨t0, t1, t2, t3⟩ := TkB.cells hX; clear hX; go_simp) ?_
          try simp only [Act.put, List.setIfInBounds_toArray, List.set_cons_zero, List.set_cons_succ]
          refine yug (i := 1) rfl (.bool false) (by kernel_rfl) (by kernel_rfl) (by kernel_rfl) (fun _ _ _ h => h) (by rfl) (fun w' => by go_simp) ?_
          try simp only [Act.put, List.setIfInBounds_toArray, List.set_cons_zero, List.set_cons_succ]
          refine yug (i := 2) rfl (.bool false) (by kernel_rfl) (by kernel_rfl) (by kernel_rfl) (fun _ _ _ h => h) (by rfl) (fun w' => by go_simp) ?_
          try simp only [Act.put, List.setIfInBounds_toArray, List.set_cons_zero, List.set_cons_succ]
          refine yn (i := 3) rfl (by kernel_rfl) (by kernel_rfl) (by kernel_rfl) (fun _ _ _ h => h) (by rfl) ?_
          try simp only [Act.put, List.setIfInBounds_toArray, List.set_cons_zero, List.set_cons_succ]
          refine yn (i := 4) rfl (by kernel_rfl) (by kernel_rfl) (by kernel_rfl) (fun _ _ _ h => h) (by rfl) ?_
          try simp only [Act.put, List.setIfInBounds_toArray, List.set_cons_zero, List.set_cons_succ]
          refine yn (i := 5) rfl (by kernel_rfl) (by kernel_rfl) (by kernel_rfl) (fun _ _ _ h => h) (by rfl) ?_
          try simp only [Act.put, List.setIfInBounds_toArray, List.set_cons_zero, List.set_cons_succ]
          refine yn (i := 6) rfl (by kernel_rfl) (by kernel_rfl) (by kernel_rfl) (fun _ _ _ h => h) (by rfl) ?_
          try simp only [Act.put, List.setIfInBounds_toArray, List.set_cons_zero, List.set_cons_succ]
          refine yn (i := 7) rfl (by kernel_rfl) (by kernel_rfl) (by kernel_rfl) (fun _ _ _ h => h) (by rfl) ?_
          try simp only [Act.put, List.setIfInBounds_toArray, List.set_cons_zero, List.set_cons_succ]
          refine yn (i := 8) rfl (by kernel_rfl) (by kernel_rfl) (by kernel_rfl) (fun _ _ _ h => h) (by rfl) ?_
          try simp only [Act.put, List.setIfInBounds_toArray, List.set_cons_zero, List.set_cons_succ]
          refine yn (i := 9) rfl (by kernel_rfl) (by kernel_rfl) (by kernel_rfl) (fun _ _ _ h => h) (by rfl) ?_
          try simp only [Act.put, List.setIfInBounds_toArray, List.set_cons_zero, List.set_cons_succ]
          refine yn (i := 10) rfl (by kernel_rfl) (by kernel_rfl) (by kernel_rfl) (fun _ _ _ h => h) (by rfl) ?_
          try simp only [Act.put, List.setIfInBounds_toArray, List.set_cons_zero, List.set_cons_succ]
          refine yn (i := 11) rfl (by kernel_rfl) (by kernel_rfl) (by kernel_rfl) (fun _ _ _ h => h) (by rfl) ?_
          try simp only [Act.put, List.setIfInBounds_toArray, List.set_cons_zero, List.set_cons_succ]
          refine yn (i := 12) rfl (by kernel_rfl) (by kernel_rfl) (by kernel_rfl) (fun _ _ _ h => h) (by rfl) ?_
          try simp only [Act.put, List.setIfInBounds_toArray, List.set_cons_zero, List.set_cons_succ]
          refine yn (i := 13) rfl (by kernel_rfl) (by kernel_rfl) (by kernel_rfl) (fun _ _ _ h => h) (by rfl) ?_
          try simp only [Act.put, List.setIfInBounds_toArray, List.set_cons_zero, List.set_cons_succ]
          refine yn (i := 14) rfl (by kernel_rfl) (by kernel_rfl) (by kernel_rfl) (fun _ _ _ h => h) (by rfl) ?_
          try simp only [Act.put, List.setIfInBounds_toArray, List.set_cons_zero, List.set_cons_succ]
          refine yn (i := 15) rfl (by kernel_rfl) (by kernel_rfl) (by kernel_rfl) (fun _ _ _ h => h) (by rfl) ?_
          try simp only [Act.put, List.setIfInBounds_toArray, List.set_cons_zero, List.set_cons_succ]
          refine yn (i := 16) rfl (by kernel_rfl) (by kernel_rfl) (by kernel_rfl) (fun _ _ _ h => h) (by rfl) ?_
          try simp only [Act.put, List.setIfInBounds_toArray, List.set_cons_zero, List.set_cons_succ]
          refine yn (i := 17) rfl (by kernel_rfl) (by kernel_rfl) (by kernel_rfl) (fun _ _ _ h => h) (by rfl) ?_
          try simp only [Act.put, List.setIfInBounds_toArray, List.set_cons_zero, List.set_cons_succ]
          refine yn (i := 18) rfl (by kernel_rfl) (by kernel_rfl) (by kernel_rfl) (fun _ _ _ h => h) (by rfl) ?_
          try simp only [Act.put, List.setIfInBounds_toArray, List.set_cons_zero, List.set_cons_succ]
          refine yn (i := 19) rfl (by kernel_rfl) (by kernel_rfl) (by kernel_rfl) (fun _ _ _ h => h) (by rfl) ?_
          try simp only [Act.put, List.setIfInBounds_toArray, List.set_cons_zero, List.set_cons_succ]
          refine yug (i := 20) rfl (.bool false) (by kernel_rfl) (by kernel_rfl) (by kernel_rfl) (fun _ _ _ h => h) (by rfl) (fun w' => by go_simp) ?_
          try simp only [Act.put, List.setIfInBounds_toArray, List.set_cons_zero, List.set_cons_succ]
          refine y1g (i := 21) (by kernel_rfl) rfl (by rfl) (fun K' hK => ?_)
          obtain ⟨c0, c1, c2, c3⟩ := TkB.cells HO5.out.r
          have f0 := Blk.frozen HO5.out.r
          obtain ⟨z0, z1, z2, z3⟩ := (TkB.st HO5.out.r 2 txt (v : Int) (a : Int)).cells
          have HB6 := Lib.hid (Below.drew (below_stK HO5.out.b (Nat.le_refl _) 2 txt (v : Int) (a : Int)))
          go_simp
          refine hK.out _ _ (.inl (by decide)) ?_
          clear hK K' c0 c1 c2 c3 f0
          try simp only [Act.put, List.setIfInBounds_toArray, List.set_cons_zero, List.set_cons_succ]
          refine yug (i := 22) rfl (.bool false) (by kernel_rfl) (by kernel_rfl) (by kernel_rfl) (fun _ _ _ h => h) (by rfl) (fun w' => by go_simp) ?_
          try simp only [Act.put, List.setIfInBounds_toArray, List.set_cons_zero, List.set_cons_succ]
          refine wpAnyY_done (by kernel_rfl) ?_ _
          go_wp2
          refine bodyPost_ret (v := .tuple #[tkV 2 txt (v : Int) (a : Int), .bool false]) (by simp [results, Tryd.results18, go_sem, z0, z1, z2, z3]) rfl ?_
          unfold OneAns
          rw [HT.out]
          exact ⟨⟨_, _, _, _, rfl⟩, HB6.out⟩
      · rw [if_neg hv] at HNb
        have HT := Lib.hid (show Lx.tok ((bts s).drop a) = none by
          rw [HDr.out] at HN hv ⊢
          simp only [Lx.tok]
          rw [if_pos HC.out, HN.out, if_neg (fun h => hv h.1)])
        clear hv
        go_wp2_with fail
        refine HNb.out.mono ?_
        rintro e w3 ⟨rfl, hb3⟩
        have HO3 := Lib.hid (HO.out.below hb3)
        clear hb3 HNb
        obtain ⟨c0, c1, c2, c3⟩ := TkB.cells HO3.out.t
        have f0 := Blk.frozen HO3.out.t
        go_wp2_with fail
        clear c0 c1 c2 c3 f0
        have HO5 := Lib.hid (((HO3.out.kind 2).text txt).num 0)
        obtain ⟨w5, hw5⟩ : ∃ x, ((w3.setCell ⟨w.heap.size + 1, 0, none⟩ (.int .i64 2)).setCell ⟨w.heap.size + 1, 1, none⟩ (.string txt)).setCell ⟨w.heap.size + 1, 2, none⟩ (.int .u64 0) = x := ⟨_, rfl⟩
        rw [hw5] at HO5 ⊢
        clear hw5 HO3
        refine region_y [21, 22] (fun w' => Below w5.heap.size w5 w') (by kernel_rfl) ?_
        have hS : Below w5.heap.size w5 w5.drew := drew_below w5
        try simp only [Act.put, List.setIfInBounds_toArray, List.set_cons_zero, List.set_cons_succ]
        refine ytg [21, 22] (i := 0) rfl (tkV 2 txt 0 (a : Int)) (by kernel_rfl) (by kernel_rfl) (by kernel_rfl) (by kernel_rfl) (fun _ _ _ h => h) (by rfl) hS (fun w' hw' => by have hX := (HO5.out.below hw').t; obtain ⟨t0, t1, t2, t3⟩ := TkB.cells hX; clear hX; go_simp) ?_
        try simp only [Act.put, List.setIfInBounds_toArray, List.set_cons_zero, List.set_cons_succ]
        refine yug (i := 1) rfl (.bool false) (by kernel_rfl) (by kernel_rfl) (by kernel_rfl) (fun _ _ _ h => h) (by rfl) (fun w' => by go_simp) ?_
        try simp only [Act.put, List.setIfInBounds_toArray, List.set_cons_zero, List.set_cons_succ]
        refine yug (i := 2) rfl (.bool false) (by kernel_rfl) (by kernel_rfl) (by kernel_rfl) (fun _ _ _ h => h) (by rfl) (fun w' => by go_simp) ?_
        try simp only [Act.put, List.setIfInBounds_toArray, List.set_cons_zero, List.set_cons_succ]
        refine yn (i := 3) rfl (by kernel_rfl) (by kernel_rfl) (by kernel_rfl) (fun _ _ _ h => h) (by rfl) ?_
        try simp only [Act.put, List.setIfInBounds_toArray, List.set_cons_zero, List.set_cons_succ]
        refine yn (i := 4) rfl (by kernel_rfl) (by kernel_rfl) (by kernel_rfl) (fun _ _ _ h => h) (by rfl) ?_
        try simp only [Act.put, List.setIfInBounds_toArray, List.set_cons_zero, List.set_cons_succ]
        refine yn (i := 5) rfl (by kernel_rfl) (by kernel_rfl) (by kernel_rfl) (fun _ _ _ h => h) (by rfl) ?_
        try simp only [Act.put, List.setIfInBounds_toArray, List.set_cons_zero, List.set_cons_succ]
        refine yn (i := 6) rfl (by kernel_rfl) (by kernel_rfl) (by kernel_rfl) (fun _ _ _ h => h) (by rfl) ?_
        try simp only [Act.put, List.setIfInBounds_toArray, List.set_cons_zero, List.set_cons_succ]
        refine yn (i := 7) rfl (by kernel_rfl) (by kernel_rfl) (by kernel_rfl) (fun _ _ _ h => h) (by rfl) ?_
        try simp only [Act.put, List.setIfInBounds_toArray, List.set_cons_zero, List.set_cons_succ]
        refine yn (i := 8) rfl (by kernel_rfl) (by kernel_rfl) (by kernel_rfl) (fun _ _ _ h => h) (by rfl) ?_
        try simp only [Act.put, List.setIfInBounds_toArray, List.set_cons_zero, List.set_cons_succ]
        refine yn (i := 9) rfl (by kernel_rfl) (by kernel_rfl) (by kernel_rfl) (fun _ _ _ h => h) (by rfl) ?_
        try simp only [Act.put, List.setIfInBounds_toArray, List.set_cons_zero, List.set_cons_succ]
        refine yn (i := 10) rfl (by kernel_rfl) (by kernel_rfl) (by kernel_rfl) (fun _ _ _ h => h) (by rfl) ?_
        try simp only [Act.put, List.setIfInBounds_toArray, List.set_cons_zero, List.set_cons_succ]
        refine yn (i := 11) rfl (by kernel_rfl) (by kernel_rfl) (by kernel_rfl) (fun _ _ _ h => h) (by rfl) ?_
        try simp only [Act.put, List.setIfInBounds_toArray, List.set_cons_zero, List.set_cons_succ]
        refine yn (i := 12) rfl (by kernel_rfl) (by kernel_rfl) (by kernel_rfl) (fun _ _ _ h => h) (by rfl) ?_
        try simp only [Act.put, List.setIfInBounds_toArray, List.set_cons_zero, List.set_cons_succ]
        refine yn (i := 13) rfl (by kernel_rfl) (by kernel_rfl) (by kernel_rfl) (fun _ _ _ h => h) (by rfl) ?_
        try simp only [Act.put, List.setIfInBounds_toArray, List.set_cons_zero, List.set_cons_succ]
        refine yn (i := 14) rfl (by kernel_rfl) (by kernel_rfl) (by kernel_rfl) (fun _ _ _ h => h) (by rfl) ?_
        try simp only [Act.put, List.setIfInBounds_toArray, List.set_cons_zero, List.set_cons_succ]
        refine yn (i := 15) rfl (by kernel_rfl) (by kernel_rfl) (by kernel_rfl) (fun _ _ _ h => h) (by rfl) ?_
        try simp only [Act.put, List.setIfInBounds_toArray, List.set_cons_zero, List.set_cons_succ]
        refine yn (i := 16) rfl (by kernel_rfl) (by kernel_rfl) (by kernel_rfl) (fun _ _ _ h => h) (by rfl) ?_
        try simp only [Act.put, List.setIfInBounds_toArray, List.set_cons_zero, List.set_cons_succ]
        refine yn (i := 17) rfl (by kernel_rfl) (by kernel_rfl) (by kernel_rfl) (fun _ _ _ h => h) (by rfl) ?_
        try simp only [Act.put, List.setIfInBounds_toArray, List.set_cons_zero, List.set_cons_succ]
        refine yn (i := 18) rfl (by kernel_rfl) (by kernel_rfl) (by kernel_rfl) (fun _ _ _ h => h) (by rfl) ?_
        try simp only [Act.put, List.setIfInBounds_toArray, List.set_cons_zero, List.set_cons_succ]
        refine yn (i := 19) rfl (by kernel_rfl) (by kernel_rfl) (by kernel_rfl) (fun _ _ _ h => h) (by rfl) ?_
        try simp only [Act.put, List.setIfInBounds_toArray, List.set_cons_zero, List.set_cons_succ]
        refine yug (i := 20) rfl (.bool false) (by kernel_rfl) (by kernel_rfl) (by kernel_rfl) (fun _ _ _ h => h) (by rfl) (fun w' => by go_simp) ?_
        try simp only [Act.put, List.setIfInBounds_toArray, List.set_cons_zero, List.set_cons_succ]
        refine y1g (i := 21) (by kernel_rfl) rfl (by rfl) (fun K' hK => ?_)
        obtain ⟨c0, c1, c2, c3⟩ := TkB.cells HO5.out.r
        have f0 := Blk.frozen HO5.out.r
        obtain ⟨z0, z1, z2, z3⟩ := (TkB.st HO5.out.r 2 txt 0 (a : Int)).cells
        have HB6 := Lib.hid (Below.drew (below_stK HO5.out.b (Nat.le_refl _) 2 txt 0 (a : Int)))
        go_simp
        refine hK.out _ _ (.inl (by decide)) ?_
        clear hK K' c0 c1 c2 c3 f0
        try simp only [Act.put, List.setIfInBounds_toArray, List.set_cons_zero, List.set_cons_succ]
        refine yug (i := 22) rfl (.bool false) (by kernel_rfl) (by kernel_rfl) (by kernel_rfl) (fun _ _ _ h => h) (by rfl) (fun w' => by go_simp) ?_
        try simp only [Act.put, List.setIfInBounds_toArray, List.set_cons_zero, List.set_cons_succ]
        refine wpAnyY_done (by kernel_rfl) ?_ _
        go_wp2
        refine bodyPost_ret (v := .tuple #[tkV 2 txt 0 (a : Int), .bool false]) (by simp [results, Tryd.results18, go_sem, z0, z1, z2, z3]) rfl ?_
        unfold OneAns
        rw [HT.out]
        exact ⟨⟨_, _, _, _, rfl⟩, HB6.out⟩
end Go.Proofs.YtkogbighpidfhaaDoor
