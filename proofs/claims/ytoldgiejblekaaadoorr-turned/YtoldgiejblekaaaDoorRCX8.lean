/- CircTurned's walk, the circuits that go on. -/
import Derived.Test.YtoldgiejblekaaaDoorRCX7b
import Derived.Deep.CutBlock
import Derived.Deep.DeepCutAuto
import Derived.Deep.CutRange
namespace Go.Proofs.YtoldgiejblekaaaDoorR
open Go.RowKit

set_option maxHeartbeats 8000000 in
set_option maxRecDepth 100000 in
theorem turned_main (N : Nat) (Ag : Option Addr) (n cg : Nat) (y : Nat → Nat → Int) (Ao : Option Addr) (m co : Nat) (o : Nat → Int) (A : Option Addr) (K c : Nat) (f : Nat → Bool) (w : World) (hh : Handle w) (hg : AtV w Ag (n * 3) (gv y)) (ho : AtV w Ao m (iv o)) (hn : n ≤ cg) (hm : m ≤ co) (zg : Ag = none → n = 0 ∧ cg = 0) (zo : Ao = none → m = 0 ∧ co = 0) (hA : AtV w A K (bv f)) (hz : A = none → K = 0 ∧ c = 0) (hG : Circ.Good N (min n 4200) y (min m 80) o) (hsm : min n 4200 ≤ 3000) (hsn : N ≤ 3000) :
    Calls Tryd.prog 5 #[circV N Ag n cg Ao m co, .slice A K c] w fun e w' => e = .returned (.bool true) ∧ Below w.heap.size w w' := by
  have hh0 := hh
  have hA0 := hA
  have HW := Lib.hid (awake_any (w.alloc (.cells #[.int .i64 N, .slice Ag n cg, .slice Ao m co] 25)) (hh.below ((Below.refl _ w).alloc (Nat.le_refl _) _) hh.pos))
  have hb0 := (Below.refl w.heap.size w).alloc (Nat.le_refl _) (.cells #[.int .i64 N, .slice Ag n cg, .slice Ao m co] 25)
  have HX := Blk.new w 25 #[.int .i64 N, .slice Ag n cg, .slice Ao m co]
  have hlt := HX.lt
  have H0 := Lib.hid (And.intro hb0 (And.intro HX (And.intro (hh.below hb0 hh.pos) (And.intro (hg.below hb0) (And.intro (ho.below hb0) (And.intro hn (And.intro hm (And.intro zg zo))))))))
  clear hh hg ho hn hm zg zo hb0 HX
  go_enter Tryd.func5, Tryd.ntmps5
  go_wp2_with fail
  refine HW.out.mono ?_
  rintro e w1 ⟨rfl, hb1⟩
  have HX1 := H0.out.2.1.below hb1 hlt
  have hl1 := HX1.lt
  have c0 := HX1.cell 0 (v := .int .i64 N) rfl
  have c1 := HX1.cell 1 (v := .slice Ag n cg) rfl
  have c2 := HX1.cell 2 (v := .slice Ao m co) rfl
  have HO := Lib.hid (own_any w1 N Ag n cg y Ao m co o (H0.out.2.2.2.1.below hb1) (H0.out.2.2.2.2.1.below hb1) H0.out.2.2.2.2.2.1 H0.out.2.2.2.2.2.2.1 H0.out.2.2.2.2.2.2.2.1 H0.out.2.2.2.2.2.2.2.2)
  have H1 := Lib.hid (And.intro HX1 (And.intro (H0.out.1.trans (hb1.mono H0.out.1.size)) (H0.out.2.2.1.below hb1 H0.out.2.2.1.pos)))
  clear hb1 HX1 HW
  go_wp2_with fail
  refine HO.out.mono ?_
  rintro e w2 ⟨g1, k1, g2, k2, rfl, hg1, hg2, hR1, hR2, hb2⟩
  obtain ⟨M, hM⟩ : ∃ M, min n 4200 = M := ⟨_, rfl⟩
  obtain ⟨L, hL⟩ : ∃ L, min m 80 = L := ⟨_, rfl⟩
  rw [hM] at hR1 ⊢
  rw [hL] at hR2 ⊢
  have HX2 := H1.out.1.below hb2 hl1
  have x0 := HX2.cell 0 (v := .int .i64 N) rfl
  have x1 := HX2.cell 1 (v := .slice Ag n cg) rfl
  have x2 := HX2.cell 2 (v := .slice Ao m co) rfl
  have xf := HX2.frozen
  have hbw2 := H1.out.2.1.trans (hb2.mono H1.out.2.1.size)
  have hci : Ci w.heap.size N g1 M k1 g2 L k2 y o (((w2.setCell ⟨w.heap.size, 0, none⟩ (.int .i64 N)).setCell ⟨w.heap.size, 1, none⟩ (.slice (some ⟨g1, 0, none⟩) M k1)).setCell ⟨w.heap.size, 2, none⟩ (.slice (some ⟨g2, 0, none⟩) L k2)) := ci_store _ HX2 rfl (by omega) (by omega) hR1.atv (by have := hR2.atv; rwa [Nat.mul_one] at this)
  have hb3 := ((hbw2.setCell (p := ⟨w.heap.size, 0, none⟩) (Nat.le_refl _) (.int .i64 N)).setCell (p := ⟨w.heap.size, 1, none⟩) (Nat.le_refl _) (.slice (some ⟨g1, 0, none⟩) M k1)).setCell (p := ⟨w.heap.size, 2, none⟩) (Nat.le_refl _) (.slice (some ⟨g2, 0, none⟩) L k2)
  have hA1 := hA0.belowB hb3 (AtV.lt hA0)
  have H3 := Lib.hid (And.intro hci (And.intro hb3 (And.intro hA1 (hh0.below hb3 hh0.pos))))
  have HML := Lib.hid (And.intro hM (And.intro hL (And.intro hR1.le hR2.le)))
  clear HO hR1 hR2 hb2 hM hL HX2 hbw2 hci hb3 hA1 H1 hg1 hg2 c0 c1 c2
  go_wp2_with fail
  generalize (((w2.setCell ⟨w.heap.size, 0, none⟩ (.int .i64 N)).setCell ⟨w.heap.size, 1, none⟩ (.slice (some ⟨g1, 0, none⟩) M k1)).setCell ⟨w.heap.size, 2, none⟩ (.slice (some ⟨g2, 0, none⟩) L k2)) = w3 at *
  clear x0 x1 x2 xf
  have HKs := Lib.hid (show M ≤ 4200 ∧ L ≤ 80 by have := HML.out; omega)
  have HG := Lib.hid (show Circ.Good N M y L o by rw [← HML.out.1, ← HML.out.2.1]; exact hG)
  have HS := Lib.hid (show M ≤ 3000 ∧ N ≤ 3000 ∧ L ≤ 64 from ⟨by have := HML.out.1; omega, hsn, HG.out.u⟩)
  have lM : ¬ (3000 : Int) < (M : Int) := by have := HS.out.1; omega
  have lMd : decide ((3000 : Int) < (M : Int)) = false := decide_eq_false lM
  have lN : ¬ (3000 : Int) < (N : Int) := by omega
  have lNd : decide ((3000 : Int) < (N : Int)) = false := decide_eq_false lN
  have HZ := Lib.hid hz
  clear hG hsm hsn hz
  refine (check_ok (cg := k1) (co := k2) H3.out.2.2.2 H3.out.1.g H3.out.1.o (by have := HKs.out.1; unfold maxLen; omega) (by have := HKs.out.2; unfold maxLen; omega) HG.out).mono ?_
  rintro e w4 ⟨rfl, hb4⟩
  have hci4 := H3.out.1.below hb4
  obtain ⟨x0, x1, x2⟩ := hci4.cells
  have hbw4 := H3.out.2.1.trans (hb4.mono H3.out.2.1.size)
  have hmk := run_makeB w4 N N (Nat.le_refl _) (by have := HS.out.2.1; omega)
  have hR5 := made_row w4 N N (Nat.le_refl _) (by have := HS.out.2.1; unfold maxLen; omega)
  have hb5 : Below w4.heap.size w4 (w4.alloc (.cells (madeCells #[Value.bool false] N) 4)) := (Below.refl _ _).alloc (Nat.le_refl _) _
  obtain ⟨kc, w6, hcp, hR6, hc6⟩ := copy_bits _ w4.heap.size w4.heap.size N N _ A K c f hR5 ((H3.out.2.2.1.below hb4).below hb5) HZ.out
  have hb6 : Below w4.heap.size w4 w6 := hb5.trans (hc6.below (by simp) fun k e => by omega)
  have hci6 := hci4.below hb6
  obtain ⟨z0, z1, z2⟩ := hci6.cells
  have hbits : AtV w6 (some ⟨w4.heap.size, 0, none⟩) N (bv fun i => if i < K then f i else false) := (by have := hR6.atv; rw [Nat.mul_one] at this; exact this : AtV w6 (some ⟨w4.heap.size, 0, none⟩) N _).congr fun i _ => by
    dsimp only [bv]
    by_cases h : i < K
    · rw [if_pos h, if_pos h]
    · rw [if_neg h, if_neg h]
  have hh6 := (H3.out.2.2.2.belowS hb4).belowS hb6
  have HEv := Lib.hid (eval_ok w6 N (some ⟨g1, 0, none⟩) M k1 y (some ⟨g2, 0, none⟩) L k2 o (some ⟨w4.heap.size, 0, none⟩) N (fun i => if i < K then f i else false) hh6 hci6.g hci6.o hbits (fun h => by cases h) HG.out)
  have H6 := Lib.hid (And.intro hci6 (And.intro hbits (And.intro hh6 (hbw4.trans (hb6.mono hbw4.size)))))
  clear hci4 hbw4 hR5 hb5 hR6 hc6 hb6 hci6 hbits hh6 hb4 H3
  go_wp2_with fail
  refine HEv.out.mono ?_
  rintro e w7 ⟨gl, rfl, hgl, hR7, hb7⟩
  have H7 := Lib.hid (show Tu w N g1 M k1 g2 L k2 y o w4.heap.size N N (fun i => if i < K then f i else false) gl (fun i => Circ.vals N (fun i => if i < K then f i else false) y M (o i).toNat) w7 from ⟨H6.out.1.below hb7, H6.out.2.1.below hb7, H6.out.2.2.1.belowS hb7, H6.out.2.2.2.trans (hb7.mono H6.out.2.2.2.size), by have := hR7.atv; rwa [Nat.mul_one] at this⟩)
  clear hb7 hR7 HEv hgl hmk hcp x0 x1 x2 z0 z1 z2 lM lMd lN lNd
  obtain ⟨fb, hfb⟩ : ∃ x : Nat → Bool, (fun i => if i < K then f i else false) = x := ⟨_, rfl⟩
  rw [hfb] at H6 H7
  obtain ⟨gb, hgb⟩ : ∃ x, w4.heap.size = x := ⟨_, rfl⟩
  rw [hgb] at H6 H7 ⊢
  clear hfb hgb
  go_upto_region 11 with fail
  obtain ⟨BB, hBB⟩ : ∃ x, w7.heap.size = x := ⟨_, rfl⟩
  have HLT := Lib.hid (show Lt w g1 M g2 L gb N gl BB by rw [← hBB]; exact H7.out.lt)
  have HBB0 := Lib.hid hBB
  clear hBB
  go_cut [8, 9] from 49 to 52 (fun v8 v9 wc => Hid (∃ b8 b9 gd kd god kod gz kz goz koz, v8 = .pointer (some ⟨b8, 0, none⟩) ∧ v9 = .pointer (some ⟨b9, 0, none⟩) ∧ Tu w N g1 M k1 g2 L k2 y o gb N N fb gl (fun i => Circ.vals N fb y M (o i).toNat) wc ∧ Co b8 N gd M kd god L kod y o wc ∧ Co b9 N gz M kz goz L koz y o wc ∧ (gd ≠ gz ∧ god ≠ goz ∧ b8 ≠ b9) ∧ BB ≤ b8 ∧ BB ≤ b9 ∧ BB ≤ gd ∧ BB ≤ gz ∧ BB ≤ god ∧ BB ≤ goz))
  case first =>
    refine wp_region_held_drew (S := Ci w.heap.size N g1 M k1 g2 L k2 y o) (by kernel_rfl) (H7.out.c.below (drew_below _)) (fun hS => ?_)
    have HT := Lib.hid (H7.out.below (drew_below _))
    have HBB := Lib.hid (show BB ≤ w7.drew.heap.size by rw [← HBB0.out]; exact Nat.le_refl _)
    clear H7 H6 HBB0
    generalize w7.drew = w8 at *
    refine htg (i := 0) rfl (circV N (some ⟨g1, 0, none⟩) M k1 (some ⟨g2, 0, none⟩) L k2) (by kernel_rfl) (by kernel_rfl) (by kernel_rfl) (fun _ _ _ h => h) (by rfl) hS (fun w' hw' => by obtain ⟨t0, t1, t2⟩ := hw'.cells; go_simp) ?_
    try simp only [Act.put, List.setIfInBounds_toArray, List.set_cons_zero, List.set_cons_succ]
    refine htg (i := 2) rfl (circV N (some ⟨g1, 0, none⟩) M k1 (some ⟨g2, 0, none⟩) L k2) (by kernel_rfl) (by kernel_rfl) (by kernel_rfl) (fun _ _ _ h => h) (by rfl) hS (fun w' hw' => by obtain ⟨t0, t1, t2⟩ := hw'.cells; go_simp) ?_
    try simp only [Act.put, List.setIfInBounds_toArray, List.set_cons_zero, List.set_cons_succ]
    clear hS
    refine h3g (i := 1) (i' := 4) (i2 := 5) (by kernel_rfl) rfl rfl rfl (fun K' hK => ?_) (fun K' hK => ?_) (fun K' hK => ?_)
    · go_simp
      refine (HT.out.own HKs.out.1 HKs.out.2 HML.out.2.2.1 HML.out.2.2.2).mono ?_
      rintro e wt1 ⟨gd, kd, god, kod, rfl, hgd, hgod, hOd, hb⟩
      have hnd : BB ≤ gd ∧ BB ≤ god := by have := HBB.out; omega
      have HBB2 := Lib.hid (show BB ≤ wt1.heap.size from Nat.le_trans HBB.out hb.size)
      have HT2 := Lib.hid (HT.out.below hb)
      have HD := Lib.hid hOd
      have HND := Lib.hid hnd
      refine hK.out _ _ HT2.out.c ?_
      clear hK K' hb hgd hgod hOd hnd HT HBB
      have HT := HT2
      clear HT2
      have HBB := HBB2
      clear HBB2
      try simp only [Act.put, List.setIfInBounds_toArray, List.set_cons_zero, List.set_cons_succ]
      refine h3g (i := 3) (i' := 4) (i2 := 5) (by kernel_rfl) rfl rfl rfl (fun K' hK => ?_) (fun K' hK => ?_) (fun K' hK => ?_)
      · go_simp
        refine (HT.out.own HKs.out.1 HKs.out.2 HML.out.2.2.1 HML.out.2.2.2).mono ?_
        rintro e wt2 ⟨gz, kz, goz, koz, rfl, hgz, hgoz, hOz, hb⟩
        have hnz : BB ≤ gz ∧ BB ≤ goz := by have := HBB.out; omega
        have hne : gd ≠ gz ∧ god ≠ goz := by have := HD.out.lt; omega
        have HBB2 := Lib.hid (show BB ≤ wt2.heap.size from Nat.le_trans HBB.out hb.size)
        have HT2 := Lib.hid (HT.out.below hb)
        have HD2 := Lib.hid (HD.out.below hb)
        have HZ := Lib.hid hOz
        have HNZ := Lib.hid hnz
        have HNE := Lib.hid hne
        refine hK.out _ _ HT2.out.c ?_
        clear hK K' hb hgz hgoz hOz hnz hne HT HBB HD
        have HT := HT2
        clear HT2
        have HBB := HBB2
        clear HBB2
        have HD := HD2
        clear HD2
        try simp only [Act.put, List.setIfInBounds_toArray, List.set_cons_zero, List.set_cons_succ]
        refine h2g (i := 4) (i' := 5) (by kernel_rfl) rfl rfl (fun K' hK => ?_) (fun K' hK => ?_)
        · go_simp
          have hb := (Below.refl wt2.heap.size wt2).alloc (Nat.le_refl _) (.cells #[.int .i64 0, .slice none 0 0, .slice none 0 0] 25)
          have H8 := Lib.hid (Blk.new wt2 25 zeroC)
          have HN8 := Lib.hid HBB.out
          have HBB2 := Lib.hid (show BB ≤ (wt2.alloc (.cells #[.int .i64 0, .slice none 0 0, .slice none 0 0] 25)).heap.size from Nat.le_trans HBB.out hb.size)
          have HT2 := Lib.hid (HT.out.below hb)
          have HD2 := Lib.hid (HD.out.below hb)
          have HZ2 := Lib.hid (HZ.out.below hb)
          refine hK.out _ _ HT2.out.c ?_
          clear hK K' hb HT HBB HD HZ
          have HT := HT2
          clear HT2
          have HBB := HBB2
          clear HBB2
          have HD := HD2
          clear HD2
          have HZ := HZ2
          clear HZ2
          try simp only [Act.put, List.setIfInBounds_toArray, List.set_cons_zero, List.set_cons_succ]
          generalize (wt2.alloc (.cells #[.int .i64 0, .slice none 0 0, .slice none 0 0] 25)) = wt3 at *
          generalize wt2.heap.size = b8 at *
          refine h1g (i := 5) (by kernel_rfl) rfl (by rfl) (fun K' hK => ?_)
          go_simp
          have hb := (Below.refl wt3.heap.size wt3).alloc (Nat.le_refl _) (.cells #[.int .i64 0, .slice none 0 0, .slice none 0 0] 25)
          have H9 := Lib.hid (Blk.new wt3 25 zeroC)
          have HN9 := Lib.hid HBB.out
          have HBB2 := Lib.hid (show BB ≤ (wt3.alloc (.cells #[.int .i64 0, .slice none 0 0, .slice none 0 0] 25)).heap.size from Nat.le_trans HBB.out hb.size)
          have HT2 := Lib.hid (HT.out.below hb)
          have HD2 := Lib.hid (HD.out.below hb)
          have HZ2 := Lib.hid (HZ.out.below hb)
          have HN89 := Lib.hid (show b8 ≠ wt3.heap.size from by have := H8.out.lt; omega)
          have H82 := Lib.hid (H8.out.below hb H8.out.lt)
          refine hK.out _ _ HT2.out.c ?_
          clear hK K' hb HT HBB HD HZ H8
          have HT := HT2
          clear HT2
          have HBB := HBB2
          clear HBB2
          have HD := HD2
          clear HD2
          have HZ := HZ2
          clear HZ2
          have H8 := H82
          clear H82
          try simp only [Act.put, List.setIfInBounds_toArray, List.set_cons_zero, List.set_cons_succ]
          generalize (wt3.alloc (.cells #[.int .i64 0, .slice none 0 0, .slice none 0 0] 25)) = wt4 at *
          generalize wt3.heap.size = b9 at *
          have hne89 : b8 ≠ b9 := by have := HN89.out; omega
          obtain ⟨hCd, hc6⟩ := co_store (N := N) H8.out HD.out
          have hz6 := Ow.apart H8.out HZ.out
          have hT6 := HT.out.chg hc6 HLT.out (fun q e => by have := HN8.out; omega)
          have hZ6 := HZ.out.chg hc6 hz6.1 hz6.2
          have h96 := H9.out.chg hc6 (fun e => hne89 e.symm)
          have hd9 := Ow.apart H9.out HD.out
          obtain ⟨hCz, hc7⟩ := co_store (N := N) h96 hZ6
          have hT7 := hT6.chg hc7 HLT.out (fun q e => by have := HN9.out; omega)
          have hD7 := hCd.chg hc7 hne89 hd9.1 hd9.2
          have c80 := H8.out.cell 0 (v := .int .i64 0) rfl
          have c81 := H8.out.cell 1 (v := .slice none 0 0) rfl
          have c82 := H8.out.cell 2 (v := .slice none 0 0) rfl
          have c8f := H8.out.frozen
          have c90 := h96.cell 0 (v := .int .i64 0) rfl
          have c91 := h96.cell 1 (v := .slice none 0 0) rfl
          have c92 := h96.cell 2 (v := .slice none 0 0) rfl
          have c9f := h96.frozen
          have HS6 := Lib.hid hT6.c
          have HS7 := Lib.hid hT7.c
          have HFin := Lib.hid (show Tu w N g1 M k1 g2 L k2 y o gb N N fb gl (fun i => Circ.vals N fb y M (o i).toNat) _ ∧ Co b8 N gd M kd god L kod y o _ ∧ Co b9 N gz M kz goz L koz y o _ ∧ (gd ≠ gz ∧ god ≠ goz ∧ b8 ≠ b9) ∧ BB ≤ b8 ∧ BB ≤ b9 ∧ BB ≤ gd ∧ BB ≤ gz ∧ BB ≤ god ∧ BB ≤ goz from ⟨hT7, hD7, hCz, ⟨HNE.out.1, HNE.out.2, hne89⟩, HN8.out, HN9.out, HND.out.1, HNZ.out.1, HND.out.2, HNZ.out.2⟩)
          clear hne89 hCd hc6 hz6 hT6 hZ6 h96 hd9 hCz hc7 hT7 hD7
          refine h1g (i := 6) (by kernel_rfl) rfl (by rfl) (fun K' hK => ?_)
          go_simp
          refine hK.out _ _ HS6.out ?_
          clear hK K' c80 c81 c82 c8f
          try simp only [Act.put, List.setIfInBounds_toArray, List.set_cons_zero, List.set_cons_succ]
          refine h1g (i := 7) (by kernel_rfl) rfl (by rfl) (fun K' hK => ?_)
          go_simp
          refine hK.out _ _ HS7.out ?_
          clear hK K' c90 c91 c92 c9f
          try simp only [Act.put, List.setIfInBounds_toArray, List.set_cons_zero, List.set_cons_succ]
          refine wpAnyH_done (by kernel_rfl) ?_ _
          go_wp2
          go_meet
          exact ⟨b8, b9, gd, kd, god, kod, gz, kz, goz, koz, rfl, rfl, HFin.out⟩
        · go_simp
          have hb := (Below.refl wt2.heap.size wt2).alloc (Nat.le_refl _) (.cells #[.int .i64 0, .slice none 0 0, .slice none 0 0] 25)
          have H9 := Lib.hid (Blk.new wt2 25 zeroC)
          have HN9 := Lib.hid HBB.out
          have HBB2 := Lib.hid (show BB ≤ (wt2.alloc (.cells #[.int .i64 0, .slice none 0 0, .slice none 0 0] 25)).heap.size from Nat.le_trans HBB.out hb.size)
          have HT2 := Lib.hid (HT.out.below hb)
          have HD2 := Lib.hid (HD.out.below hb)
          have HZ2 := Lib.hid (HZ.out.below hb)
          refine hK.out _ _ HT2.out.c ?_
          clear hK K' hb HT HBB HD HZ
          have HT := HT2
          clear HT2
          have HBB := HBB2
          clear HBB2
          have HD := HD2
          clear HD2
          have HZ := HZ2
          clear HZ2
          try simp only [Act.put, List.setIfInBounds_toArray, List.set_cons_zero, List.set_cons_succ]
          generalize (wt2.alloc (.cells #[.int .i64 0, .slice none 0 0, .slice none 0 0] 25)) = wt5 at *
          generalize wt2.heap.size = b9 at *
          refine h1g (i := 4) (by kernel_rfl) rfl (by rfl) (fun K' hK => ?_)
          go_simp
          have hb := (Below.refl wt5.heap.size wt5).alloc (Nat.le_refl _) (.cells #[.int .i64 0, .slice none 0 0, .slice none 0 0] 25)
          have H8 := Lib.hid (Blk.new wt5 25 zeroC)
          have HN8 := Lib.hid HBB.out
          have HBB2 := Lib.hid (show BB ≤ (wt5.alloc (.cells #[.int .i64 0, .slice none 0 0, .slice none 0 0] 25)).heap.size from Nat.le_trans HBB.out hb.size)
          have HT2 := Lib.hid (HT.out.below hb)
          have HD2 := Lib.hid (HD.out.below hb)
          have HZ2 := Lib.hid (HZ.out.below hb)
          have HN89 := Lib.hid (show b9 ≠ wt5.heap.size from by have := H9.out.lt; omega)
          have H92 := Lib.hid (H9.out.below hb H9.out.lt)
          refine hK.out _ _ HT2.out.c ?_
          clear hK K' hb HT HBB HD HZ H9
          have HT := HT2
          clear HT2
          have HBB := HBB2
          clear HBB2
          have HD := HD2
          clear HD2
          have HZ := HZ2
          clear HZ2
          have H9 := H92
          clear H92
          try simp only [Act.put, List.setIfInBounds_toArray, List.set_cons_zero, List.set_cons_succ]
          generalize (wt5.alloc (.cells #[.int .i64 0, .slice none 0 0, .slice none 0 0] 25)) = wt6 at *
          generalize wt5.heap.size = b8 at *
          have hne89 : b8 ≠ b9 := by have := HN89.out; omega
          obtain ⟨hCd, hc6⟩ := co_store (N := N) H8.out HD.out
          have hz6 := Ow.apart H8.out HZ.out
          have hT6 := HT.out.chg hc6 HLT.out (fun q e => by have := HN8.out; omega)
          have hZ6 := HZ.out.chg hc6 hz6.1 hz6.2
          have h96 := H9.out.chg hc6 (fun e => hne89 e.symm)
          have hd9 := Ow.apart H9.out HD.out
          obtain ⟨hCz, hc7⟩ := co_store (N := N) h96 hZ6
          have hT7 := hT6.chg hc7 HLT.out (fun q e => by have := HN9.out; omega)
          have hD7 := hCd.chg hc7 hne89 hd9.1 hd9.2
          have c80 := H8.out.cell 0 (v := .int .i64 0) rfl
          have c81 := H8.out.cell 1 (v := .slice none 0 0) rfl
          have c82 := H8.out.cell 2 (v := .slice none 0 0) rfl
          have c8f := H8.out.frozen
          have c90 := h96.cell 0 (v := .int .i64 0) rfl
          have c91 := h96.cell 1 (v := .slice none 0 0) rfl
          have c92 := h96.cell 2 (v := .slice none 0 0) rfl
          have c9f := h96.frozen
          have HS6 := Lib.hid hT6.c
          have HS7 := Lib.hid hT7.c
          have HFin := Lib.hid (show Tu w N g1 M k1 g2 L k2 y o gb N N fb gl (fun i => Circ.vals N fb y M (o i).toNat) _ ∧ Co b8 N gd M kd god L kod y o _ ∧ Co b9 N gz M kz goz L koz y o _ ∧ (gd ≠ gz ∧ god ≠ goz ∧ b8 ≠ b9) ∧ BB ≤ b8 ∧ BB ≤ b9 ∧ BB ≤ gd ∧ BB ≤ gz ∧ BB ≤ god ∧ BB ≤ goz from ⟨hT7, hD7, hCz, ⟨HNE.out.1, HNE.out.2, hne89⟩, HN8.out, HN9.out, HND.out.1, HNZ.out.1, HND.out.2, HNZ.out.2⟩)
          clear hne89 hCd hc6 hz6 hT6 hZ6 h96 hd9 hCz hc7 hT7 hD7
          refine h1g (i := 6) (by kernel_rfl) rfl (by rfl) (fun K' hK => ?_)
          go_simp
          refine hK.out _ _ HS6.out ?_
          clear hK K' c80 c81 c82 c8f
          try simp only [Act.put, List.setIfInBounds_toArray, List.set_cons_zero, List.set_cons_succ]
          refine h1g (i := 7) (by kernel_rfl) rfl (by rfl) (fun K' hK => ?_)
          go_simp
          refine hK.out _ _ HS7.out ?_
          clear hK K' c90 c91 c92 c9f
          try simp only [Act.put, List.setIfInBounds_toArray, List.set_cons_zero, List.set_cons_succ]
          refine wpAnyH_done (by kernel_rfl) ?_ _
          go_wp2
          go_meet
          exact ⟨b8, b9, gd, kd, god, kod, gz, kz, goz, koz, rfl, rfl, HFin.out⟩
      · go_simp
        have hb := (Below.refl wt1.heap.size wt1).alloc (Nat.le_refl _) (.cells #[.int .i64 0, .slice none 0 0, .slice none 0 0] 25)
        have H8 := Lib.hid (Blk.new wt1 25 zeroC)
        have HN8 := Lib.hid HBB.out
        have HBB2 := Lib.hid (show BB ≤ (wt1.alloc (.cells #[.int .i64 0, .slice none 0 0, .slice none 0 0] 25)).heap.size from Nat.le_trans HBB.out hb.size)
        have HT2 := Lib.hid (HT.out.below hb)
        have HD2 := Lib.hid (HD.out.below hb)
        refine hK.out _ _ HT2.out.c ?_
        clear hK K' hb HT HBB HD
        have HT := HT2
        clear HT2
        have HBB := HBB2
        clear HBB2
        have HD := HD2
        clear HD2
        try simp only [Act.put, List.setIfInBounds_toArray, List.set_cons_zero, List.set_cons_succ]
        generalize (wt1.alloc (.cells #[.int .i64 0, .slice none 0 0, .slice none 0 0] 25)) = wt7 at *
        generalize wt1.heap.size = b8 at *
        refine h2g (i := 3) (i' := 5) (by kernel_rfl) rfl rfl (fun K' hK => ?_) (fun K' hK => ?_)
        · go_simp
          refine (HT.out.own HKs.out.1 HKs.out.2 HML.out.2.2.1 HML.out.2.2.2).mono ?_
          rintro e wt8 ⟨gz, kz, goz, koz, rfl, hgz, hgoz, hOz, hb⟩
          have hnz : BB ≤ gz ∧ BB ≤ goz := by have := HBB.out; omega
          have hne : gd ≠ gz ∧ god ≠ goz := by have := HD.out.lt; omega
          have HBB2 := Lib.hid (show BB ≤ wt8.heap.size from Nat.le_trans HBB.out hb.size)
          have HT2 := Lib.hid (HT.out.below hb)
          have HD2 := Lib.hid (HD.out.below hb)
          have H82 := Lib.hid (H8.out.below hb H8.out.lt)
          have HZ := Lib.hid hOz
          have HNZ := Lib.hid hnz
          have HNE := Lib.hid hne
          refine hK.out _ _ HT2.out.c ?_
          clear hK K' hb hgz hgoz hOz hnz hne HT HBB HD H8
          have HT := HT2
          clear HT2
          have HBB := HBB2
          clear HBB2
          have HD := HD2
          clear HD2
          have H8 := H82
          clear H82
          try simp only [Act.put, List.setIfInBounds_toArray, List.set_cons_zero, List.set_cons_succ]
          refine h1g (i := 5) (by kernel_rfl) rfl (by rfl) (fun K' hK => ?_)
          go_simp
          have hb := (Below.refl wt8.heap.size wt8).alloc (Nat.le_refl _) (.cells #[.int .i64 0, .slice none 0 0, .slice none 0 0] 25)
          have H9 := Lib.hid (Blk.new wt8 25 zeroC)
          have HN9 := Lib.hid HBB.out
          have HBB2 := Lib.hid (show BB ≤ (wt8.alloc (.cells #[.int .i64 0, .slice none 0 0, .slice none 0 0] 25)).heap.size from Nat.le_trans HBB.out hb.size)
          have HT2 := Lib.hid (HT.out.below hb)
          have HD2 := Lib.hid (HD.out.below hb)
          have HZ2 := Lib.hid (HZ.out.below hb)
          have HN89 := Lib.hid (show b8 ≠ wt8.heap.size from by have := H8.out.lt; omega)
          have H82 := Lib.hid (H8.out.below hb H8.out.lt)
          refine hK.out _ _ HT2.out.c ?_
          clear hK K' hb HT HBB HD HZ H8
          have HT := HT2
          clear HT2
          have HBB := HBB2
          clear HBB2
          have HD := HD2
          clear HD2
          have HZ := HZ2
          clear HZ2
          have H8 := H82
          clear H82
          try simp only [Act.put, List.setIfInBounds_toArray, List.set_cons_zero, List.set_cons_succ]
          generalize (wt8.alloc (.cells #[.int .i64 0, .slice none 0 0, .slice none 0 0] 25)) = wt9 at *
          generalize wt8.heap.size = b9 at *
          have hne89 : b8 ≠ b9 := by have := HN89.out; omega
          obtain ⟨hCd, hc6⟩ := co_store (N := N) H8.out HD.out
          have hz6 := Ow.apart H8.out HZ.out
          have hT6 := HT.out.chg hc6 HLT.out (fun q e => by have := HN8.out; omega)
          have hZ6 := HZ.out.chg hc6 hz6.1 hz6.2
          have h96 := H9.out.chg hc6 (fun e => hne89 e.symm)
          have hd9 := Ow.apart H9.out HD.out
          obtain ⟨hCz, hc7⟩ := co_store (N := N) h96 hZ6
          have hT7 := hT6.chg hc7 HLT.out (fun q e => by have := HN9.out; omega)
          have hD7 := hCd.chg hc7 hne89 hd9.1 hd9.2
          have c80 := H8.out.cell 0 (v := .int .i64 0) rfl
          have c81 := H8.out.cell 1 (v := .slice none 0 0) rfl
          have c82 := H8.out.cell 2 (v := .slice none 0 0) rfl
          have c8f := H8.out.frozen
          have c90 := h96.cell 0 (v := .int .i64 0) rfl
          have c91 := h96.cell 1 (v := .slice none 0 0) rfl
          have c92 := h96.cell 2 (v := .slice none 0 0) rfl
          have c9f := h96.frozen
          have HS6 := Lib.hid hT6.c
          have HS7 := Lib.hid hT7.c
          have HFin := Lib.hid (show Tu w N g1 M k1 g2 L k2 y o gb N N fb gl (fun i => Circ.vals N fb y M (o i).toNat) _ ∧ Co b8 N gd M kd god L kod y o _ ∧ Co b9 N gz M kz goz L koz y o _ ∧ (gd ≠ gz ∧ god ≠ goz ∧ b8 ≠ b9) ∧ BB ≤ b8 ∧ BB ≤ b9 ∧ BB ≤ gd ∧ BB ≤ gz ∧ BB ≤ god ∧ BB ≤ goz from ⟨hT7, hD7, hCz, ⟨HNE.out.1, HNE.out.2, hne89⟩, HN8.out, HN9.out, HND.out.1, HNZ.out.1, HND.out.2, HNZ.out.2⟩)
          clear hne89 hCd hc6 hz6 hT6 hZ6 h96 hd9 hCz hc7 hT7 hD7
          refine h1g (i := 6) (by kernel_rfl) rfl (by rfl) (fun K' hK => ?_)
          go_simp
          refine hK.out _ _ HS6.out ?_
          clear hK K' c80 c81 c82 c8f
          try simp only [Act.put, List.setIfInBounds_toArray, List.set_cons_zero, List.set_cons_succ]
          refine h1g (i := 7) (by kernel_rfl) rfl (by rfl) (fun K' hK => ?_)
          go_simp
          refine hK.out _ _ HS7.out ?_
          clear hK K' c90 c91 c92 c9f
          try simp only [Act.put, List.setIfInBounds_toArray, List.set_cons_zero, List.set_cons_succ]
          refine wpAnyH_done (by kernel_rfl) ?_ _
          go_wp2
          go_meet
          exact ⟨b8, b9, gd, kd, god, kod, gz, kz, goz, koz, rfl, rfl, HFin.out⟩
        · go_simp
          have hb := (Below.refl wt7.heap.size wt7).alloc (Nat.le_refl _) (.cells #[.int .i64 0, .slice none 0 0, .slice none 0 0] 25)
          have H9 := Lib.hid (Blk.new wt7 25 zeroC)
          have HN9 := Lib.hid HBB.out
          have HBB2 := Lib.hid (show BB ≤ (wt7.alloc (.cells #[.int .i64 0, .slice none 0 0, .slice none 0 0] 25)).heap.size from Nat.le_trans HBB.out hb.size)
          have HT2 := Lib.hid (HT.out.below hb)
          have HD2 := Lib.hid (HD.out.below hb)
          have HN89 := Lib.hid (show b8 ≠ wt7.heap.size from by have := H8.out.lt; omega)
          have H82 := Lib.hid (H8.out.below hb H8.out.lt)
          refine hK.out _ _ HT2.out.c ?_
          clear hK K' hb HT HBB HD H8
          have HT := HT2
          clear HT2
          have HBB := HBB2
          clear HBB2
          have HD := HD2
          clear HD2
          have H8 := H82
          clear H82
          try simp only [Act.put, List.setIfInBounds_toArray, List.set_cons_zero, List.set_cons_succ]
          generalize (wt7.alloc (.cells #[.int .i64 0, .slice none 0 0, .slice none 0 0] 25)) = wt10 at *
          generalize wt7.heap.size = b9 at *
          refine h1g (i := 3) (by kernel_rfl) rfl (by rfl) (fun K' hK => ?_)
          go_simp
          refine (HT.out.own HKs.out.1 HKs.out.2 HML.out.2.2.1 HML.out.2.2.2).mono ?_
          rintro e wt11 ⟨gz, kz, goz, koz, rfl, hgz, hgoz, hOz, hb⟩
          have hnz : BB ≤ gz ∧ BB ≤ goz := by have := HBB.out; omega
          have hne : gd ≠ gz ∧ god ≠ goz := by have := HD.out.lt; omega
          have HBB2 := Lib.hid (show BB ≤ wt11.heap.size from Nat.le_trans HBB.out hb.size)
          have HT2 := Lib.hid (HT.out.below hb)
          have HD2 := Lib.hid (HD.out.below hb)
          have H82 := Lib.hid (H8.out.below hb H8.out.lt)
          have H92 := Lib.hid (H9.out.below hb H9.out.lt)
          have HZ := Lib.hid hOz
          have HNZ := Lib.hid hnz
          have HNE := Lib.hid hne
          refine hK.out _ _ HT2.out.c ?_
          clear hK K' hb hgz hgoz hOz hnz hne HT HBB HD H8 H9
          have HT := HT2
          clear HT2
          have HBB := HBB2
          clear HBB2
          have HD := HD2
          clear HD2
          have H8 := H82
          clear H82
          have H9 := H92
          clear H92
          try simp only [Act.put, List.setIfInBounds_toArray, List.set_cons_zero, List.set_cons_succ]
          have hne89 : b8 ≠ b9 := by have := HN89.out; omega
          obtain ⟨hCd, hc6⟩ := co_store (N := N) H8.out HD.out
          have hz6 := Ow.apart H8.out HZ.out
          have hT6 := HT.out.chg hc6 HLT.out (fun q e => by have := HN8.out; omega)
          have hZ6 := HZ.out.chg hc6 hz6.1 hz6.2
          have h96 := H9.out.chg hc6 (fun e => hne89 e.symm)
          have hd9 := Ow.apart H9.out HD.out
          obtain ⟨hCz, hc7⟩ := co_store (N := N) h96 hZ6
          have hT7 := hT6.chg hc7 HLT.out (fun q e => by have := HN9.out; omega)
          have hD7 := hCd.chg hc7 hne89 hd9.1 hd9.2
          have c80 := H8.out.cell 0 (v := .int .i64 0) rfl
          have c81 := H8.out.cell 1 (v := .slice none 0 0) rfl
          have c82 := H8.out.cell 2 (v := .slice none 0 0) rfl
          have c8f := H8.out.frozen
          have c90 := h96.cell 0 (v := .int .i64 0) rfl
          have c91 := h96.cell 1 (v := .slice none 0 0) rfl
          have c92 := h96.cell 2 (v := .slice none 0 0) rfl
          have c9f := h96.frozen
          have HS6 := Lib.hid hT6.c
          have HS7 := Lib.hid hT7.c
          have HFin := Lib.hid (show Tu w N g1 M k1 g2 L k2 y o gb N N fb gl (fun i => Circ.vals N fb y M (o i).toNat) _ ∧ Co b8 N gd M kd god L kod y o _ ∧ Co b9 N gz M kz goz L koz y o _ ∧ (gd ≠ gz ∧ god ≠ goz ∧ b8 ≠ b9) ∧ BB ≤ b8 ∧ BB ≤ b9 ∧ BB ≤ gd ∧ BB ≤ gz ∧ BB ≤ god ∧ BB ≤ goz from ⟨hT7, hD7, hCz, ⟨HNE.out.1, HNE.out.2, hne89⟩, HN8.out, HN9.out, HND.out.1, HNZ.out.1, HND.out.2, HNZ.out.2⟩)
          clear hne89 hCd hc6 hz6 hT6 hZ6 h96 hd9 hCz hc7 hT7 hD7
          refine h1g (i := 6) (by kernel_rfl) rfl (by rfl) (fun K' hK => ?_)
          go_simp
          refine hK.out _ _ HS6.out ?_
          clear hK K' c80 c81 c82 c8f
          try simp only [Act.put, List.setIfInBounds_toArray, List.set_cons_zero, List.set_cons_succ]
          refine h1g (i := 7) (by kernel_rfl) rfl (by rfl) (fun K' hK => ?_)
          go_simp
          refine hK.out _ _ HS7.out ?_
          clear hK K' c90 c91 c92 c9f
          try simp only [Act.put, List.setIfInBounds_toArray, List.set_cons_zero, List.set_cons_succ]
          refine wpAnyH_done (by kernel_rfl) ?_ _
          go_wp2
          go_meet
          exact ⟨b8, b9, gd, kd, god, kod, gz, kz, goz, koz, rfl, rfl, HFin.out⟩
      · go_simp
        have hb := (Below.refl wt1.heap.size wt1).alloc (Nat.le_refl _) (.cells #[.int .i64 0, .slice none 0 0, .slice none 0 0] 25)
        have H9 := Lib.hid (Blk.new wt1 25 zeroC)
        have HN9 := Lib.hid HBB.out
        have HBB2 := Lib.hid (show BB ≤ (wt1.alloc (.cells #[.int .i64 0, .slice none 0 0, .slice none 0 0] 25)).heap.size from Nat.le_trans HBB.out hb.size)
        have HT2 := Lib.hid (HT.out.below hb)
        have HD2 := Lib.hid (HD.out.below hb)
        refine hK.out _ _ HT2.out.c ?_
        clear hK K' hb HT HBB HD
        have HT := HT2
        clear HT2
        have HBB := HBB2
        clear HBB2
        have HD := HD2
        clear HD2
        try simp only [Act.put, List.setIfInBounds_toArray, List.set_cons_zero, List.set_cons_succ]
        generalize (wt1.alloc (.cells #[.int .i64 0, .slice none 0 0, .slice none 0 0] 25)) = wt12 at *
        generalize wt1.heap.size = b9 at *
        refine h2g (i := 3) (i' := 4) (by kernel_rfl) rfl rfl (fun K' hK => ?_) (fun K' hK => ?_)
        · go_simp
          refine (HT.out.own HKs.out.1 HKs.out.2 HML.out.2.2.1 HML.out.2.2.2).mono ?_
          rintro e wt13 ⟨gz, kz, goz, koz, rfl, hgz, hgoz, hOz, hb⟩
          have hnz : BB ≤ gz ∧ BB ≤ goz := by have := HBB.out; omega
          have hne : gd ≠ gz ∧ god ≠ goz := by have := HD.out.lt; omega
          have HBB2 := Lib.hid (show BB ≤ wt13.heap.size from Nat.le_trans HBB.out hb.size)
          have HT2 := Lib.hid (HT.out.below hb)
          have HD2 := Lib.hid (HD.out.below hb)
          have H92 := Lib.hid (H9.out.below hb H9.out.lt)
          have HZ := Lib.hid hOz
          have HNZ := Lib.hid hnz
          have HNE := Lib.hid hne
          refine hK.out _ _ HT2.out.c ?_
          clear hK K' hb hgz hgoz hOz hnz hne HT HBB HD H9
          have HT := HT2
          clear HT2
          have HBB := HBB2
          clear HBB2
          have HD := HD2
          clear HD2
          have H9 := H92
          clear H92
          try simp only [Act.put, List.setIfInBounds_toArray, List.set_cons_zero, List.set_cons_succ]
          refine h1g (i := 4) (by kernel_rfl) rfl (by rfl) (fun K' hK => ?_)
          go_simp
          have hb := (Below.refl wt13.heap.size wt13).alloc (Nat.le_refl _) (.cells #[.int .i64 0, .slice none 0 0, .slice none 0 0] 25)
          have H8 := Lib.hid (Blk.new wt13 25 zeroC)
          have HN8 := Lib.hid HBB.out
          have HBB2 := Lib.hid (show BB ≤ (wt13.alloc (.cells #[.int .i64 0, .slice none 0 0, .slice none 0 0] 25)).heap.size from Nat.le_trans HBB.out hb.size)
          have HT2 := Lib.hid (HT.out.below hb)
          have HD2 := Lib.hid (HD.out.below hb)
          have HZ2 := Lib.hid (HZ.out.below hb)
          have HN89 := Lib.hid (show b9 ≠ wt13.heap.size from by have := H9.out.lt; omega)
          have H92 := Lib.hid (H9.out.below hb H9.out.lt)
          refine hK.out _ _ HT2.out.c ?_
          clear hK K' hb HT HBB HD HZ H9
          have HT := HT2
          clear HT2
          have HBB := HBB2
          clear HBB2
          have HD := HD2
          clear HD2
          have HZ := HZ2
          clear HZ2
          have H9 := H92
          clear H92
          try simp only [Act.put, List.setIfInBounds_toArray, List.set_cons_zero, List.set_cons_succ]
          generalize (wt13.alloc (.cells #[.int .i64 0, .slice none 0 0, .slice none 0 0] 25)) = wt14 at *
          generalize wt13.heap.size = b8 at *
          have hne89 : b8 ≠ b9 := by have := HN89.out; omega
          obtain ⟨hCd, hc6⟩ := co_store (N := N) H8.out HD.out
          have hz6 := Ow.apart H8.out HZ.out
          have hT6 := HT.out.chg hc6 HLT.out (fun q e => by have := HN8.out; omega)
          have hZ6 := HZ.out.chg hc6 hz6.1 hz6.2
          have h96 := H9.out.chg hc6 (fun e => hne89 e.symm)
          have hd9 := Ow.apart H9.out HD.out
          obtain ⟨hCz, hc7⟩ := co_store (N := N) h96 hZ6
          have hT7 := hT6.chg hc7 HLT.out (fun q e => by have := HN9.out; omega)
          have hD7 := hCd.chg hc7 hne89 hd9.1 hd9.2
          have c80 := H8.out.cell 0 (v := .int .i64 0) rfl
          have c81 := H8.out.cell 1 (v := .slice none 0 0) rfl
          have c82 := H8.out.cell 2 (v := .slice none 0 0) rfl
          have c8f := H8.out.frozen
          have c90 := h96.cell 0 (v := .int .i64 0) rfl
          have c91 := h96.cell 1 (v := .slice none 0 0) rfl
          have c92 := h96.cell 2 (v := .slice none 0 0) rfl
          have c9f := h96.frozen
          have HS6 := Lib.hid hT6.c
          have HS7 := Lib.hid hT7.c
          have HFin := Lib.hid (show Tu w N g1 M k1 g2 L k2 y o gb N N fb gl (fun i => Circ.vals N fb y M (o i).toNat) _ ∧ Co b8 N gd M kd god L kod y o _ ∧ Co b9 N gz M kz goz L koz y o _ ∧ (gd ≠ gz ∧ god ≠ goz ∧ b8 ≠ b9) ∧ BB ≤ b8 ∧ BB ≤ b9 ∧ BB ≤ gd ∧ BB ≤ gz ∧ BB ≤ god ∧ BB ≤ goz from ⟨hT7, hD7, hCz, ⟨HNE.out.1, HNE.out.2, hne89⟩, HN8.out, HN9.out, HND.out.1, HNZ.out.1, HND.out.2, HNZ.out.2⟩)
          clear hne89 hCd hc6 hz6 hT6 hZ6 h96 hd9 hCz hc7 hT7 hD7
          refine h1g (i := 6) (by kernel_rfl) rfl (by rfl) (fun K' hK => ?_)
          go_simp
          refine hK.out _ _ HS6.out ?_
          clear hK K' c80 c81 c82 c8f
          try simp only [Act.put, List.setIfInBounds_toArray, List.set_cons_zero, List.set_cons_succ]
          refine h1g (i := 7) (by kernel_rfl) rfl (by rfl) (fun K' hK => ?_)
          go_simp
          refine hK.out _ _ HS7.out ?_
          clear hK K' c90 c91 c92 c9f
          try simp only [Act.put, List.setIfInBounds_toArray, List.set_cons_zero, List.set_cons_succ]
          refine wpAnyH_done (by kernel_rfl) ?_ _
          go_wp2
          go_meet
          exact ⟨b8, b9, gd, kd, god, kod, gz, kz, goz, koz, rfl, rfl, HFin.out⟩
        · go_simp
          have hb := (Below.refl wt12.heap.size wt12).alloc (Nat.le_refl _) (.cells #[.int .i64 0, .slice none 0 0, .slice none 0 0] 25)
          have H8 := Lib.hid (Blk.new wt12 25 zeroC)
          have HN8 := Lib.hid HBB.out
          have HBB2 := Lib.hid (show BB ≤ (wt12.alloc (.cells #[.int .i64 0, .slice none 0 0, .slice none 0 0] 25)).heap.size from Nat.le_trans HBB.out hb.size)
          have HT2 := Lib.hid (HT.out.below hb)
          have HD2 := Lib.hid (HD.out.below hb)
          have HN89 := Lib.hid (show b9 ≠ wt12.heap.size from by have := H9.out.lt; omega)
          have H92 := Lib.hid (H9.out.below hb H9.out.lt)
          refine hK.out _ _ HT2.out.c ?_
          clear hK K' hb HT HBB HD H9
          have HT := HT2
          clear HT2
          have HBB := HBB2
          clear HBB2
          have HD := HD2
          clear HD2
          have H9 := H92
          clear H92
          try simp only [Act.put, List.setIfInBounds_toArray, List.set_cons_zero, List.set_cons_succ]
          generalize (wt12.alloc (.cells #[.int .i64 0, .slice none 0 0, .slice none 0 0] 25)) = wt15 at *
          generalize wt12.heap.size = b8 at *
          refine h1g (i := 3) (by kernel_rfl) rfl (by rfl) (fun K' hK => ?_)
          go_simp
          refine (HT.out.own HKs.out.1 HKs.out.2 HML.out.2.2.1 HML.out.2.2.2).mono ?_
          rintro e wt16 ⟨gz, kz, goz, koz, rfl, hgz, hgoz, hOz, hb⟩
          have hnz : BB ≤ gz ∧ BB ≤ goz := by have := HBB.out; omega
          have hne : gd ≠ gz ∧ god ≠ goz := by have := HD.out.lt; omega
          have HBB2 := Lib.hid (show BB ≤ wt16.heap.size from Nat.le_trans HBB.out hb.size)
          have HT2 := Lib.hid (HT.out.below hb)
          have HD2 := Lib.hid (HD.out.below hb)
          have H82 := Lib.hid (H8.out.below hb H8.out.lt)
          have H92 := Lib.hid (H9.out.below hb H9.out.lt)
          have HZ := Lib.hid hOz
          have HNZ := Lib.hid hnz
          have HNE := Lib.hid hne
          refine hK.out _ _ HT2.out.c ?_
          clear hK K' hb hgz hgoz hOz hnz hne HT HBB HD H8 H9
          have HT := HT2
          clear HT2
          have HBB := HBB2
          clear HBB2
          have HD := HD2
          clear HD2
          have H8 := H82
          clear H82
          have H9 := H92
          clear H92
          try simp only [Act.put, List.setIfInBounds_toArray, List.set_cons_zero, List.set_cons_succ]
          have hne89 : b8 ≠ b9 := by have := HN89.out; omega
          obtain ⟨hCd, hc6⟩ := co_store (N := N) H8.out HD.out
          have hz6 := Ow.apart H8.out HZ.out
          have hT6 := HT.out.chg hc6 HLT.out (fun q e => by have := HN8.out; omega)
          have hZ6 := HZ.out.chg hc6 hz6.1 hz6.2
          have h96 := H9.out.chg hc6 (fun e => hne89 e.symm)
          have hd9 := Ow.apart H9.out HD.out
          obtain ⟨hCz, hc7⟩ := co_store (N := N) h96 hZ6
          have hT7 := hT6.chg hc7 HLT.out (fun q e => by have := HN9.out; omega)
          have hD7 := hCd.chg hc7 hne89 hd9.1 hd9.2
          have c80 := H8.out.cell 0 (v := .int .i64 0) rfl
          have c81 := H8.out.cell 1 (v := .slice none 0 0) rfl
          have c82 := H8.out.cell 2 (v := .slice none 0 0) rfl
          have c8f := H8.out.frozen
          have c90 := h96.cell 0 (v := .int .i64 0) rfl
          have c91 := h96.cell 1 (v := .slice none 0 0) rfl
          have c92 := h96.cell 2 (v := .slice none 0 0) rfl
          have c9f := h96.frozen
          have HS6 := Lib.hid hT6.c
          have HS7 := Lib.hid hT7.c
          have HFin := Lib.hid (show Tu w N g1 M k1 g2 L k2 y o gb N N fb gl (fun i => Circ.vals N fb y M (o i).toNat) _ ∧ Co b8 N gd M kd god L kod y o _ ∧ Co b9 N gz M kz goz L koz y o _ ∧ (gd ≠ gz ∧ god ≠ goz ∧ b8 ≠ b9) ∧ BB ≤ b8 ∧ BB ≤ b9 ∧ BB ≤ gd ∧ BB ≤ gz ∧ BB ≤ god ∧ BB ≤ goz from ⟨hT7, hD7, hCz, ⟨HNE.out.1, HNE.out.2, hne89⟩, HN8.out, HN9.out, HND.out.1, HNZ.out.1, HND.out.2, HNZ.out.2⟩)
          clear hne89 hCd hc6 hz6 hT6 hZ6 h96 hd9 hCz hc7 hT7 hD7
          refine h1g (i := 6) (by kernel_rfl) rfl (by rfl) (fun K' hK => ?_)
          go_simp
          refine hK.out _ _ HS6.out ?_
          clear hK K' c80 c81 c82 c8f
          try simp only [Act.put, List.setIfInBounds_toArray, List.set_cons_zero, List.set_cons_succ]
          refine h1g (i := 7) (by kernel_rfl) rfl (by rfl) (fun K' hK => ?_)
          go_simp
          refine hK.out _ _ HS7.out ?_
          clear hK K' c90 c91 c92 c9f
          try simp only [Act.put, List.setIfInBounds_toArray, List.set_cons_zero, List.set_cons_succ]
          refine wpAnyH_done (by kernel_rfl) ?_ _
          go_wp2
          go_meet
          exact ⟨b8, b9, gd, kd, god, kod, gz, kz, goz, koz, rfl, rfl, HFin.out⟩
    · go_simp
      have hb := (Below.refl w8.heap.size w8).alloc (Nat.le_refl _) (.cells #[.int .i64 0, .slice none 0 0, .slice none 0 0] 25)
      have H8 := Lib.hid (Blk.new w8 25 zeroC)
      have HN8 := Lib.hid HBB.out
      have HBB2 := Lib.hid (show BB ≤ (w8.alloc (.cells #[.int .i64 0, .slice none 0 0, .slice none 0 0] 25)).heap.size from Nat.le_trans HBB.out hb.size)
      have HT2 := Lib.hid (HT.out.below hb)
      refine hK.out _ _ HT2.out.c ?_
      clear hK K' hb HT HBB
      have HT := HT2
      clear HT2
      have HBB := HBB2
      clear HBB2
      try simp only [Act.put, List.setIfInBounds_toArray, List.set_cons_zero, List.set_cons_succ]
      generalize (w8.alloc (.cells #[.int .i64 0, .slice none 0 0, .slice none 0 0] 25)) = wt17 at *
      generalize w8.heap.size = b8 at *
      refine h2g (i := 1) (i' := 5) (by kernel_rfl) rfl rfl (fun K' hK => ?_) (fun K' hK => ?_)
      · go_simp
        refine (HT.out.own HKs.out.1 HKs.out.2 HML.out.2.2.1 HML.out.2.2.2).mono ?_
        rintro e wt18 ⟨gd, kd, god, kod, rfl, hgd, hgod, hOd, hb⟩
        have hnd : BB ≤ gd ∧ BB ≤ god := by have := HBB.out; omega
        have HBB2 := Lib.hid (show BB ≤ wt18.heap.size from Nat.le_trans HBB.out hb.size)
        have HT2 := Lib.hid (HT.out.below hb)
        have H82 := Lib.hid (H8.out.below hb H8.out.lt)
        have HD := Lib.hid hOd
        have HND := Lib.hid hnd
        refine hK.out _ _ HT2.out.c ?_
        clear hK K' hb hgd hgod hOd hnd HT HBB H8
        have HT := HT2
        clear HT2
        have HBB := HBB2
        clear HBB2
        have H8 := H82
        clear H82
        try simp only [Act.put, List.setIfInBounds_toArray, List.set_cons_zero, List.set_cons_succ]
        refine h2g (i := 3) (i' := 5) (by kernel_rfl) rfl rfl (fun K' hK => ?_) (fun K' hK => ?_)
        · go_simp
          refine (HT.out.own HKs.out.1 HKs.out.2 HML.out.2.2.1 HML.out.2.2.2).mono ?_
          rintro e wt19 ⟨gz, kz, goz, koz, rfl, hgz, hgoz, hOz, hb⟩
          have hnz : BB ≤ gz ∧ BB ≤ goz := by have := HBB.out; omega
          have hne : gd ≠ gz ∧ god ≠ goz := by have := HD.out.lt; omega
          have HBB2 := Lib.hid (show BB ≤ wt19.heap.size from Nat.le_trans HBB.out hb.size)
          have HT2 := Lib.hid (HT.out.below hb)
          have HD2 := Lib.hid (HD.out.below hb)
          have H82 := Lib.hid (H8.out.below hb H8.out.lt)
          have HZ := Lib.hid hOz
          have HNZ := Lib.hid hnz
          have HNE := Lib.hid hne
          refine hK.out _ _ HT2.out.c ?_
          clear hK K' hb hgz hgoz hOz hnz hne HT HBB HD H8
          have HT := HT2
          clear HT2
          have HBB := HBB2
          clear HBB2
          have HD := HD2
          clear HD2
          have H8 := H82
          clear H82
          try simp only [Act.put, List.setIfInBounds_toArray, List.set_cons_zero, List.set_cons_succ]
          refine h1g (i := 5) (by kernel_rfl) rfl (by rfl) (fun K' hK => ?_)
          go_simp
          have hb := (Below.refl wt19.heap.size wt19).alloc (Nat.le_refl _) (.cells #[.int .i64 0, .slice none 0 0, .slice none 0 0] 25)
          have H9 := Lib.hid (Blk.new wt19 25 zeroC)
          have HN9 := Lib.hid HBB.out
          have HBB2 := Lib.hid (show BB ≤ (wt19.alloc (.cells #[.int .i64 0, .slice none 0 0, .slice none 0 0] 25)).heap.size from Nat.le_trans HBB.out hb.size)
          have HT2 := Lib.hid (HT.out.below hb)
          have HD2 := Lib.hid (HD.out.below hb)
          have HZ2 := Lib.hid (HZ.out.below hb)
          have HN89 := Lib.hid (show b8 ≠ wt19.heap.size from by have := H8.out.lt; omega)
          have H82 := Lib.hid (H8.out.below hb H8.out.lt)
          refine hK.out _ _ HT2.out.c ?_
          clear hK K' hb HT HBB HD HZ H8
          have HT := HT2
          clear HT2
          have HBB := HBB2
          clear HBB2
          have HD := HD2
          clear HD2
          have HZ := HZ2
          clear HZ2
          have H8 := H82
          clear H82
          try simp only [Act.put, List.setIfInBounds_toArray, List.set_cons_zero, List.set_cons_succ]
          generalize (wt19.alloc (.cells #[.int .i64 0, .slice none 0 0, .slice none 0 0] 25)) = wt20 at *
          generalize wt19.heap.size = b9 at *
          have hne89 : b8 ≠ b9 := by have := HN89.out; omega
          obtain ⟨hCd, hc6⟩ := co_store (N := N) H8.out HD.out
          have hz6 := Ow.apart H8.out HZ.out
          have hT6 := HT.out.chg hc6 HLT.out (fun q e => by have := HN8.out; omega)
          have hZ6 := HZ.out.chg hc6 hz6.1 hz6.2
          have h96 := H9.out.chg hc6 (fun e => hne89 e.symm)
          have hd9 := Ow.apart H9.out HD.out
          obtain ⟨hCz, hc7⟩ := co_store (N := N) h96 hZ6
          have hT7 := hT6.chg hc7 HLT.out (fun q e => by have := HN9.out; omega)
          have hD7 := hCd.chg hc7 hne89 hd9.1 hd9.2
          have c80 := H8.out.cell 0 (v := .int .i64 0) rfl
          have c81 := H8.out.cell 1 (v := .slice none 0 0) rfl
          have c82 := H8.out.cell 2 (v := .slice none 0 0) rfl
          have c8f := H8.out.frozen
          have c90 := h96.cell 0 (v := .int .i64 0) rfl
          have c91 := h96.cell 1 (v := .slice none 0 0) rfl
          have c92 := h96.cell 2 (v := .slice none 0 0) rfl
          have c9f := h96.frozen
          have HS6 := Lib.hid hT6.c
          have HS7 := Lib.hid hT7.c
          have HFin := Lib.hid (show Tu w N g1 M k1 g2 L k2 y o gb N N fb gl (fun i => Circ.vals N fb y M (o i).toNat) _ ∧ Co b8 N gd M kd god L kod y o _ ∧ Co b9 N gz M kz goz L koz y o _ ∧ (gd ≠ gz ∧ god ≠ goz ∧ b8 ≠ b9) ∧ BB ≤ b8 ∧ BB ≤ b9 ∧ BB ≤ gd ∧ BB ≤ gz ∧ BB ≤ god ∧ BB ≤ goz from ⟨hT7, hD7, hCz, ⟨HNE.out.1, HNE.out.2, hne89⟩, HN8.out, HN9.out, HND.out.1, HNZ.out.1, HND.out.2, HNZ.out.2⟩)
          clear hne89 hCd hc6 hz6 hT6 hZ6 h96 hd9 hCz hc7 hT7 hD7
          refine h1g (i := 6) (by kernel_rfl) rfl (by rfl) (fun K' hK => ?_)
          go_simp
          refine hK.out _ _ HS6.out ?_
          clear hK K' c80 c81 c82 c8f
          try simp only [Act.put, List.setIfInBounds_toArray, List.set_cons_zero, List.set_cons_succ]
          refine h1g (i := 7) (by kernel_rfl) rfl (by rfl) (fun K' hK => ?_)
          go_simp
          refine hK.out _ _ HS7.out ?_
          clear hK K' c90 c91 c92 c9f
          try simp only [Act.put, List.setIfInBounds_toArray, List.set_cons_zero, List.set_cons_succ]
          refine wpAnyH_done (by kernel_rfl) ?_ _
          go_wp2
          go_meet
          exact ⟨b8, b9, gd, kd, god, kod, gz, kz, goz, koz, rfl, rfl, HFin.out⟩
        · go_simp
          have hb := (Below.refl wt18.heap.size wt18).alloc (Nat.le_refl _) (.cells #[.int .i64 0, .slice none 0 0, .slice none 0 0] 25)
          have H9 := Lib.hid (Blk.new wt18 25 zeroC)
          have HN9 := Lib.hid HBB.out
          have HBB2 := Lib.hid (show BB ≤ (wt18.alloc (.cells #[.int .i64 0, .slice none 0 0, .slice none 0 0] 25)).heap.size from Nat.le_trans HBB.out hb.size)
          have HT2 := Lib.hid (HT.out.below hb)
          have HD2 := Lib.hid (HD.out.below hb)
          have HN89 := Lib.hid (show b8 ≠ wt18.heap.size from by have := H8.out.lt; omega)
          have H82 := Lib.hid (H8.out.below hb H8.out.lt)
          refine hK.out _ _ HT2.out.c ?_
          clear hK K' hb HT HBB HD H8
          have HT := HT2
          clear HT2
          have HBB := HBB2
          clear HBB2
          have HD := HD2
          clear HD2
          have H8 := H82
          clear H82
          try simp only [Act.put, List.setIfInBounds_toArray, List.set_cons_zero, List.set_cons_succ]
          generalize (wt18.alloc (.cells #[.int .i64 0, .slice none 0 0, .slice none 0 0] 25)) = wt21 at *
          generalize wt18.heap.size = b9 at *
          refine h1g (i := 3) (by kernel_rfl) rfl (by rfl) (fun K' hK => ?_)
          go_simp
          refine (HT.out.own HKs.out.1 HKs.out.2 HML.out.2.2.1 HML.out.2.2.2).mono ?_
          rintro e wt22 ⟨gz, kz, goz, koz, rfl, hgz, hgoz, hOz, hb⟩
          have hnz : BB ≤ gz ∧ BB ≤ goz := by have := HBB.out; omega
          have hne : gd ≠ gz ∧ god ≠ goz := by have := HD.out.lt; omega
          have HBB2 := Lib.hid (show BB ≤ wt22.heap.size from Nat.le_trans HBB.out hb.size)
          have HT2 := Lib.hid (HT.out.below hb)
          have HD2 := Lib.hid (HD.out.below hb)
          have H82 := Lib.hid (H8.out.below hb H8.out.lt)
          have H92 := Lib.hid (H9.out.below hb H9.out.lt)
          have HZ := Lib.hid hOz
          have HNZ := Lib.hid hnz
          have HNE := Lib.hid hne
          refine hK.out _ _ HT2.out.c ?_
          clear hK K' hb hgz hgoz hOz hnz hne HT HBB HD H8 H9
          have HT := HT2
          clear HT2
          have HBB := HBB2
          clear HBB2
          have HD := HD2
          clear HD2
          have H8 := H82
          clear H82
          have H9 := H92
          clear H92
          try simp only [Act.put, List.setIfInBounds_toArray, List.set_cons_zero, List.set_cons_succ]
          have hne89 : b8 ≠ b9 := by have := HN89.out; omega
          obtain ⟨hCd, hc6⟩ := co_store (N := N) H8.out HD.out
          have hz6 := Ow.apart H8.out HZ.out
          have hT6 := HT.out.chg hc6 HLT.out (fun q e => by have := HN8.out; omega)
          have hZ6 := HZ.out.chg hc6 hz6.1 hz6.2
          have h96 := H9.out.chg hc6 (fun e => hne89 e.symm)
          have hd9 := Ow.apart H9.out HD.out
          obtain ⟨hCz, hc7⟩ := co_store (N := N) h96 hZ6
          have hT7 := hT6.chg hc7 HLT.out (fun q e => by have := HN9.out; omega)
          have hD7 := hCd.chg hc7 hne89 hd9.1 hd9.2
          have c80 := H8.out.cell 0 (v := .int .i64 0) rfl
          have c81 := H8.out.cell 1 (v := .slice none 0 0) rfl
          have c82 := H8.out.cell 2 (v := .slice none 0 0) rfl
          have c8f := H8.out.frozen
          have c90 := h96.cell 0 (v := .int .i64 0) rfl
          have c91 := h96.cell 1 (v := .slice none 0 0) rfl
          have c92 := h96.cell 2 (v := .slice none 0 0) rfl
          have c9f := h96.frozen
          have HS6 := Lib.hid hT6.c
          have HS7 := Lib.hid hT7.c
          have HFin := Lib.hid (show Tu w N g1 M k1 g2 L k2 y o gb N N fb gl (fun i => Circ.vals N fb y M (o i).toNat) _ ∧ Co b8 N gd M kd god L kod y o _ ∧ Co b9 N gz M kz goz L koz y o _ ∧ (gd ≠ gz ∧ god ≠ goz ∧ b8 ≠ b9) ∧ BB ≤ b8 ∧ BB ≤ b9 ∧ BB ≤ gd ∧ BB ≤ gz ∧ BB ≤ god ∧ BB ≤ goz from ⟨hT7, hD7, hCz, ⟨HNE.out.1, HNE.out.2, hne89⟩, HN8.out, HN9.out, HND.out.1, HNZ.out.1, HND.out.2, HNZ.out.2⟩)
          clear hne89 hCd hc6 hz6 hT6 hZ6 h96 hd9 hCz hc7 hT7 hD7
          refine h1g (i := 6) (by kernel_rfl) rfl (by rfl) (fun K' hK => ?_)
          go_simp
          refine hK.out _ _ HS6.out ?_
          clear hK K' c80 c81 c82 c8f
          try simp only [Act.put, List.setIfInBounds_toArray, List.set_cons_zero, List.set_cons_succ]
          refine h1g (i := 7) (by kernel_rfl) rfl (by rfl) (fun K' hK => ?_)
          go_simp
          refine hK.out _ _ HS7.out ?_
          clear hK K' c90 c91 c92 c9f
          try simp only [Act.put, List.setIfInBounds_toArray, List.set_cons_zero, List.set_cons_succ]
          refine wpAnyH_done (by kernel_rfl) ?_ _
          go_wp2
          go_meet
          exact ⟨b8, b9, gd, kd, god, kod, gz, kz, goz, koz, rfl, rfl, HFin.out⟩
      · go_simp
        have hb := (Below.refl wt17.heap.size wt17).alloc (Nat.le_refl _) (.cells #[.int .i64 0, .slice none 0 0, .slice none 0 0] 25)
        have H9 := Lib.hid (Blk.new wt17 25 zeroC)
        have HN9 := Lib.hid HBB.out
        have HBB2 := Lib.hid (show BB ≤ (wt17.alloc (.cells #[.int .i64 0, .slice none 0 0, .slice none 0 0] 25)).heap.size from Nat.le_trans HBB.out hb.size)
        have HT2 := Lib.hid (HT.out.below hb)
        have HN89 := Lib.hid (show b8 ≠ wt17.heap.size from by have := H8.out.lt; omega)
        have H82 := Lib.hid (H8.out.below hb H8.out.lt)
        refine hK.out _ _ HT2.out.c ?_
        clear hK K' hb HT HBB H8
        have HT := HT2
        clear HT2
        have HBB := HBB2
        clear HBB2
        have H8 := H82
        clear H82
        try simp only [Act.put, List.setIfInBounds_toArray, List.set_cons_zero, List.set_cons_succ]
        generalize (wt17.alloc (.cells #[.int .i64 0, .slice none 0 0, .slice none 0 0] 25)) = wt23 at *
        generalize wt17.heap.size = b9 at *
        refine h1g (i := 1) (by kernel_rfl) rfl (by rfl) (fun K' hK => ?_)
        go_simp
        refine (HT.out.own HKs.out.1 HKs.out.2 HML.out.2.2.1 HML.out.2.2.2).mono ?_
        rintro e wt24 ⟨gd, kd, god, kod, rfl, hgd, hgod, hOd, hb⟩
        have hnd : BB ≤ gd ∧ BB ≤ god := by have := HBB.out; omega
        have HBB2 := Lib.hid (show BB ≤ wt24.heap.size from Nat.le_trans HBB.out hb.size)
        have HT2 := Lib.hid (HT.out.below hb)
        have H82 := Lib.hid (H8.out.below hb H8.out.lt)
        have H92 := Lib.hid (H9.out.below hb H9.out.lt)
        have HD := Lib.hid hOd
        have HND := Lib.hid hnd
        refine hK.out _ _ HT2.out.c ?_
        clear hK K' hb hgd hgod hOd hnd HT HBB H8 H9
        have HT := HT2
        clear HT2
        have HBB := HBB2
        clear HBB2
        have H8 := H82
        clear H82
        have H9 := H92
        clear H92
        try simp only [Act.put, List.setIfInBounds_toArray, List.set_cons_zero, List.set_cons_succ]
        refine h1g (i := 3) (by kernel_rfl) rfl (by rfl) (fun K' hK => ?_)
        go_simp
        refine (HT.out.own HKs.out.1 HKs.out.2 HML.out.2.2.1 HML.out.2.2.2).mono ?_
        rintro e wt25 ⟨gz, kz, goz, koz, rfl, hgz, hgoz, hOz, hb⟩
        have hnz : BB ≤ gz ∧ BB ≤ goz := by have := HBB.out; omega
        have hne : gd ≠ gz ∧ god ≠ goz := by have := HD.out.lt; omega
        have HBB2 := Lib.hid (show BB ≤ wt25.heap.size from Nat.le_trans HBB.out hb.size)
        have HT2 := Lib.hid (HT.out.below hb)
        have HD2 := Lib.hid (HD.out.below hb)
        have H82 := Lib.hid (H8.out.below hb H8.out.lt)
        have H92 := Lib.hid (H9.out.below hb H9.out.lt)
        have HZ := Lib.hid hOz
        have HNZ := Lib.hid hnz
        have HNE := Lib.hid hne
        refine hK.out _ _ HT2.out.c ?_
        clear hK K' hb hgz hgoz hOz hnz hne HT HBB HD H8 H9
        have HT := HT2
        clear HT2
        have HBB := HBB2
        clear HBB2
        have HD := HD2
        clear HD2
        have H8 := H82
        clear H82
        have H9 := H92
        clear H92
        try simp only [Act.put, List.setIfInBounds_toArray, List.set_cons_zero, List.set_cons_succ]
        have hne89 : b8 ≠ b9 := by have := HN89.out; omega
        obtain ⟨hCd, hc6⟩ := co_store (N := N) H8.out HD.out
        have hz6 := Ow.apart H8.out HZ.out
        have hT6 := HT.out.chg hc6 HLT.out (fun q e => by have := HN8.out; omega)
        have hZ6 := HZ.out.chg hc6 hz6.1 hz6.2
        have h96 := H9.out.chg hc6 (fun e => hne89 e.symm)
        have hd9 := Ow.apart H9.out HD.out
        obtain ⟨hCz, hc7⟩ := co_store (N := N) h96 hZ6
        have hT7 := hT6.chg hc7 HLT.out (fun q e => by have := HN9.out; omega)
        have hD7 := hCd.chg hc7 hne89 hd9.1 hd9.2
        have c80 := H8.out.cell 0 (v := .int .i64 0) rfl
        have c81 := H8.out.cell 1 (v := .slice none 0 0) rfl
        have c82 := H8.out.cell 2 (v := .slice none 0 0) rfl
        have c8f := H8.out.frozen
        have c90 := h96.cell 0 (v := .int .i64 0) rfl
        have c91 := h96.cell 1 (v := .slice none 0 0) rfl
        have c92 := h96.cell 2 (v := .slice none 0 0) rfl
        have c9f := h96.frozen
        have HS6 := Lib.hid hT6.c
        have HS7 := Lib.hid hT7.c
        have HFin := Lib.hid (show Tu w N g1 M k1 g2 L k2 y o gb N N fb gl (fun i => Circ.vals N fb y M (o i).toNat) _ ∧ Co b8 N gd M kd god L kod y o _ ∧ Co b9 N gz M kz goz L koz y o _ ∧ (gd ≠ gz ∧ god ≠ goz ∧ b8 ≠ b9) ∧ BB ≤ b8 ∧ BB ≤ b9 ∧ BB ≤ gd ∧ BB ≤ gz ∧ BB ≤ god ∧ BB ≤ goz from ⟨hT7, hD7, hCz, ⟨HNE.out.1, HNE.out.2, hne89⟩, HN8.out, HN9.out, HND.out.1, HNZ.out.1, HND.out.2, HNZ.out.2⟩)
        clear hne89 hCd hc6 hz6 hT6 hZ6 h96 hd9 hCz hc7 hT7 hD7
        refine h1g (i := 6) (by kernel_rfl) rfl (by rfl) (fun K' hK => ?_)
        go_simp
        refine hK.out _ _ HS6.out ?_
        clear hK K' c80 c81 c82 c8f
        try simp only [Act.put, List.setIfInBounds_toArray, List.set_cons_zero, List.set_cons_succ]
        refine h1g (i := 7) (by kernel_rfl) rfl (by rfl) (fun K' hK => ?_)
        go_simp
        refine hK.out _ _ HS7.out ?_
        clear hK K' c90 c91 c92 c9f
        try simp only [Act.put, List.setIfInBounds_toArray, List.set_cons_zero, List.set_cons_succ]
        refine wpAnyH_done (by kernel_rfl) ?_ _
        go_wp2
        go_meet
        exact ⟨b8, b9, gd, kd, god, kod, gz, kz, goz, koz, rfl, rfl, HFin.out⟩
    · go_simp
      have hb := (Below.refl w8.heap.size w8).alloc (Nat.le_refl _) (.cells #[.int .i64 0, .slice none 0 0, .slice none 0 0] 25)
      have H9 := Lib.hid (Blk.new w8 25 zeroC)
      have HN9 := Lib.hid HBB.out
      have HBB2 := Lib.hid (show BB ≤ (w8.alloc (.cells #[.int .i64 0, .slice none 0 0, .slice none 0 0] 25)).heap.size from Nat.le_trans HBB.out hb.size)
      have HT2 := Lib.hid (HT.out.below hb)
      refine hK.out _ _ HT2.out.c ?_
      clear hK K' hb HT HBB
      have HT := HT2
      clear HT2
      have HBB := HBB2
      clear HBB2
      try simp only [Act.put, List.setIfInBounds_toArray, List.set_cons_zero, List.set_cons_succ]
      generalize (w8.alloc (.cells #[.int .i64 0, .slice none 0 0, .slice none 0 0] 25)) = wt26 at *
      generalize w8.heap.size = b9 at *
      refine h2g (i := 1) (i' := 4) (by kernel_rfl) rfl rfl (fun K' hK => ?_) (fun K' hK => ?_)
      · go_simp
        refine (HT.out.own HKs.out.1 HKs.out.2 HML.out.2.2.1 HML.out.2.2.2).mono ?_
        rintro e wt27 ⟨gd, kd, god, kod, rfl, hgd, hgod, hOd, hb⟩
        have hnd : BB ≤ gd ∧ BB ≤ god := by have := HBB.out; omega
        have HBB2 := Lib.hid (show BB ≤ wt27.heap.size from Nat.le_trans HBB.out hb.size)
        have HT2 := Lib.hid (HT.out.below hb)
        have H92 := Lib.hid (H9.out.below hb H9.out.lt)
        have HD := Lib.hid hOd
        have HND := Lib.hid hnd
        refine hK.out _ _ HT2.out.c ?_
        clear hK K' hb hgd hgod hOd hnd HT HBB H9
        have HT := HT2
        clear HT2
        have HBB := HBB2
        clear HBB2
        have H9 := H92
        clear H92
        try simp only [Act.put, List.setIfInBounds_toArray, List.set_cons_zero, List.set_cons_succ]
        refine h2g (i := 3) (i' := 4) (by kernel_rfl) rfl rfl (fun K' hK => ?_) (fun K' hK => ?_)
        · go_simp
          refine (HT.out.own HKs.out.1 HKs.out.2 HML.out.2.2.1 HML.out.2.2.2).mono ?_
          rintro e wt28 ⟨gz, kz, goz, koz, rfl, hgz, hgoz, hOz, hb⟩
          have hnz : BB ≤ gz ∧ BB ≤ goz := by have := HBB.out; omega
          have hne : gd ≠ gz ∧ god ≠ goz := by have := HD.out.lt; omega
          have HBB2 := Lib.hid (show BB ≤ wt28.heap.size from Nat.le_trans HBB.out hb.size)
          have HT2 := Lib.hid (HT.out.below hb)
          have HD2 := Lib.hid (HD.out.below hb)
          have H92 := Lib.hid (H9.out.below hb H9.out.lt)
          have HZ := Lib.hid hOz
          have HNZ := Lib.hid hnz
          have HNE := Lib.hid hne
          refine hK.out _ _ HT2.out.c ?_
          clear hK K' hb hgz hgoz hOz hnz hne HT HBB HD H9
          have HT := HT2
          clear HT2
          have HBB := HBB2
          clear HBB2
          have HD := HD2
          clear HD2
          have H9 := H92
          clear H92
          try simp only [Act.put, List.setIfInBounds_toArray, List.set_cons_zero, List.set_cons_succ]
          refine h1g (i := 4) (by kernel_rfl) rfl (by rfl) (fun K' hK => ?_)
          go_simp
          have hb := (Below.refl wt28.heap.size wt28).alloc (Nat.le_refl _) (.cells #[.int .i64 0, .slice none 0 0, .slice none 0 0] 25)
          have H8 := Lib.hid (Blk.new wt28 25 zeroC)
          have HN8 := Lib.hid HBB.out
          have HBB2 := Lib.hid (show BB ≤ (wt28.alloc (.cells #[.int .i64 0, .slice none 0 0, .slice none 0 0] 25)).heap.size from Nat.le_trans HBB.out hb.size)
          have HT2 := Lib.hid (HT.out.below hb)
          have HD2 := Lib.hid (HD.out.below hb)
          have HZ2 := Lib.hid (HZ.out.below hb)
          have HN89 := Lib.hid (show b9 ≠ wt28.heap.size from by have := H9.out.lt; omega)
          have H92 := Lib.hid (H9.out.below hb H9.out.lt)
          refine hK.out _ _ HT2.out.c ?_
          clear hK K' hb HT HBB HD HZ H9
          have HT := HT2
          clear HT2
          have HBB := HBB2
          clear HBB2
          have HD := HD2
          clear HD2
          have HZ := HZ2
          clear HZ2
          have H9 := H92
          clear H92
          try simp only [Act.put, List.setIfInBounds_toArray, List.set_cons_zero, List.set_cons_succ]
          generalize (wt28.alloc (.cells #[.int .i64 0, .slice none 0 0, .slice none 0 0] 25)) = wt29 at *
          generalize wt28.heap.size = b8 at *
          have hne89 : b8 ≠ b9 := by have := HN89.out; omega
          obtain ⟨hCd, hc6⟩ := co_store (N := N) H8.out HD.out
          have hz6 := Ow.apart H8.out HZ.out
          have hT6 := HT.out.chg hc6 HLT.out (fun q e => by have := HN8.out; omega)
          have hZ6 := HZ.out.chg hc6 hz6.1 hz6.2
          have h96 := H9.out.chg hc6 (fun e => hne89 e.symm)
          have hd9 := Ow.apart H9.out HD.out
          obtain ⟨hCz, hc7⟩ := co_store (N := N) h96 hZ6
          have hT7 := hT6.chg hc7 HLT.out (fun q e => by have := HN9.out; omega)
          have hD7 := hCd.chg hc7 hne89 hd9.1 hd9.2
          have c80 := H8.out.cell 0 (v := .int .i64 0) rfl
          have c81 := H8.out.cell 1 (v := .slice none 0 0) rfl
          have c82 := H8.out.cell 2 (v := .slice none 0 0) rfl
          have c8f := H8.out.frozen
          have c90 := h96.cell 0 (v := .int .i64 0) rfl
          have c91 := h96.cell 1 (v := .slice none 0 0) rfl
          have c92 := h96.cell 2 (v := .slice none 0 0) rfl
          have c9f := h96.frozen
          have HS6 := Lib.hid hT6.c
          have HS7 := Lib.hid hT7.c
          have HFin := Lib.hid (show Tu w N g1 M k1 g2 L k2 y o gb N N fb gl (fun i => Circ.vals N fb y M (o i).toNat) _ ∧ Co b8 N gd M kd god L kod y o _ ∧ Co b9 N gz M kz goz L koz y o _ ∧ (gd ≠ gz ∧ god ≠ goz ∧ b8 ≠ b9) ∧ BB ≤ b8 ∧ BB ≤ b9 ∧ BB ≤ gd ∧ BB ≤ gz ∧ BB ≤ god ∧ BB ≤ goz from ⟨hT7, hD7, hCz, ⟨HNE.out.1, HNE.out.2, hne89⟩, HN8.out, HN9.out, HND.out.1, HNZ.out.1, HND.out.2, HNZ.out.2⟩)
          clear hne89 hCd hc6 hz6 hT6 hZ6 h96 hd9 hCz hc7 hT7 hD7
          refine h1g (i := 6) (by kernel_rfl) rfl (by rfl) (fun K' hK => ?_)
          go_simp
          refine hK.out _ _ HS6.out ?_
          clear hK K' c80 c81 c82 c8f
          try simp only [Act.put, List.setIfInBounds_toArray, List.set_cons_zero, List.set_cons_succ]
          refine h1g (i := 7) (by kernel_rfl) rfl (by rfl) (fun K' hK => ?_)
          go_simp
          refine hK.out _ _ HS7.out ?_
          clear hK K' c90 c91 c92 c9f
          try simp only [Act.put, List.setIfInBounds_toArray, List.set_cons_zero, List.set_cons_succ]
          refine wpAnyH_done (by kernel_rfl) ?_ _
          go_wp2
          go_meet
          exact ⟨b8, b9, gd, kd, god, kod, gz, kz, goz, koz, rfl, rfl, HFin.out⟩
        · go_simp
          have hb := (Below.refl wt27.heap.size wt27).alloc (Nat.le_refl _) (.cells #[.int .i64 0, .slice none 0 0, .slice none 0 0] 25)
          have H8 := Lib.hid (Blk.new wt27 25 zeroC)
          have HN8 := Lib.hid HBB.out
          have HBB2 := Lib.hid (show BB ≤ (wt27.alloc (.cells #[.int .i64 0, .slice none 0 0, .slice none 0 0] 25)).heap.size from Nat.le_trans HBB.out hb.size)
          have HT2 := Lib.hid (HT.out.below hb)
          have HD2 := Lib.hid (HD.out.below hb)
          have HN89 := Lib.hid (show b9 ≠ wt27.heap.size from by have := H9.out.lt; omega)
          have H92 := Lib.hid (H9.out.below hb H9.out.lt)
          refine hK.out _ _ HT2.out.c ?_
          clear hK K' hb HT HBB HD H9
          have HT := HT2
          clear HT2
          have HBB := HBB2
          clear HBB2
          have HD := HD2
          clear HD2
          have H9 := H92
          clear H92
          try simp only [Act.put, List.setIfInBounds_toArray, List.set_cons_zero, List.set_cons_succ]
          generalize (wt27.alloc (.cells #[.int .i64 0, .slice none 0 0, .slice none 0 0] 25)) = wt30 at *
          generalize wt27.heap.size = b8 at *
          refine h1g (i := 3) (by kernel_rfl) rfl (by rfl) (fun K' hK => ?_)
          go_simp
          refine (HT.out.own HKs.out.1 HKs.out.2 HML.out.2.2.1 HML.out.2.2.2).mono ?_
          rintro e wt31 ⟨gz, kz, goz, koz, rfl, hgz, hgoz, hOz, hb⟩
          have hnz : BB ≤ gz ∧ BB ≤ goz := by have := HBB.out; omega
          have hne : gd ≠ gz ∧ god ≠ goz := by have := HD.out.lt; omega
          have HBB2 := Lib.hid (show BB ≤ wt31.heap.size from Nat.le_trans HBB.out hb.size)
          have HT2 := Lib.hid (HT.out.below hb)
          have HD2 := Lib.hid (HD.out.below hb)
          have H82 := Lib.hid (H8.out.below hb H8.out.lt)
          have H92 := Lib.hid (H9.out.below hb H9.out.lt)
          have HZ := Lib.hid hOz
          have HNZ := Lib.hid hnz
          have HNE := Lib.hid hne
          refine hK.out _ _ HT2.out.c ?_
          clear hK K' hb hgz hgoz hOz hnz hne HT HBB HD H8 H9
          have HT := HT2
          clear HT2
          have HBB := HBB2
          clear HBB2
          have HD := HD2
          clear HD2
          have H8 := H82
          clear H82
          have H9 := H92
          clear H92
          try simp only [Act.put, List.setIfInBounds_toArray, List.set_cons_zero, List.set_cons_succ]
          have hne89 : b8 ≠ b9 := by have := HN89.out; omega
          obtain ⟨hCd, hc6⟩ := co_store (N := N) H8.out HD.out
          have hz6 := Ow.apart H8.out HZ.out
          have hT6 := HT.out.chg hc6 HLT.out (fun q e => by have := HN8.out; omega)
          have hZ6 := HZ.out.chg hc6 hz6.1 hz6.2
          have h96 := H9.out.chg hc6 (fun e => hne89 e.symm)
          have hd9 := Ow.apart H9.out HD.out
          obtain ⟨hCz, hc7⟩ := co_store (N := N) h96 hZ6
          have hT7 := hT6.chg hc7 HLT.out (fun q e => by have := HN9.out; omega)
          have hD7 := hCd.chg hc7 hne89 hd9.1 hd9.2
          have c80 := H8.out.cell 0 (v := .int .i64 0) rfl
          have c81 := H8.out.cell 1 (v := .slice none 0 0) rfl
          have c82 := H8.out.cell 2 (v := .slice none 0 0) rfl
          have c8f := H8.out.frozen
          have c90 := h96.cell 0 (v := .int .i64 0) rfl
          have c91 := h96.cell 1 (v := .slice none 0 0) rfl
          have c92 := h96.cell 2 (v := .slice none 0 0) rfl
          have c9f := h96.frozen
          have HS6 := Lib.hid hT6.c
          have HS7 := Lib.hid hT7.c
          have HFin := Lib.hid (show Tu w N g1 M k1 g2 L k2 y o gb N N fb gl (fun i => Circ.vals N fb y M (o i).toNat) _ ∧ Co b8 N gd M kd god L kod y o _ ∧ Co b9 N gz M kz goz L koz y o _ ∧ (gd ≠ gz ∧ god ≠ goz ∧ b8 ≠ b9) ∧ BB ≤ b8 ∧ BB ≤ b9 ∧ BB ≤ gd ∧ BB ≤ gz ∧ BB ≤ god ∧ BB ≤ goz from ⟨hT7, hD7, hCz, ⟨HNE.out.1, HNE.out.2, hne89⟩, HN8.out, HN9.out, HND.out.1, HNZ.out.1, HND.out.2, HNZ.out.2⟩)
          clear hne89 hCd hc6 hz6 hT6 hZ6 h96 hd9 hCz hc7 hT7 hD7
          refine h1g (i := 6) (by kernel_rfl) rfl (by rfl) (fun K' hK => ?_)
          go_simp
          refine hK.out _ _ HS6.out ?_
          clear hK K' c80 c81 c82 c8f
          try simp only [Act.put, List.setIfInBounds_toArray, List.set_cons_zero, List.set_cons_succ]
          refine h1g (i := 7) (by kernel_rfl) rfl (by rfl) (fun K' hK => ?_)
          go_simp
          refine hK.out _ _ HS7.out ?_
          clear hK K' c90 c91 c92 c9f
          try simp only [Act.put, List.setIfInBounds_toArray, List.set_cons_zero, List.set_cons_succ]
          refine wpAnyH_done (by kernel_rfl) ?_ _
          go_wp2
          go_meet
          exact ⟨b8, b9, gd, kd, god, kod, gz, kz, goz, koz, rfl, rfl, HFin.out⟩
      · go_simp
        have hb := (Below.refl wt26.heap.size wt26).alloc (Nat.le_refl _) (.cells #[.int .i64 0, .slice none 0 0, .slice none 0 0] 25)
        have H8 := Lib.hid (Blk.new wt26 25 zeroC)
        have HN8 := Lib.hid HBB.out
        have HBB2 := Lib.hid (show BB ≤ (wt26.alloc (.cells #[.int .i64 0, .slice none 0 0, .slice none 0 0] 25)).heap.size from Nat.le_trans HBB.out hb.size)
        have HT2 := Lib.hid (HT.out.below hb)
        have HN89 := Lib.hid (show b9 ≠ wt26.heap.size from by have := H9.out.lt; omega)
        have H92 := Lib.hid (H9.out.below hb H9.out.lt)
        refine hK.out _ _ HT2.out.c ?_
        clear hK K' hb HT HBB H9
        have HT := HT2
        clear HT2
        have HBB := HBB2
        clear HBB2
        have H9 := H92
        clear H92
        try simp only [Act.put, List.setIfInBounds_toArray, List.set_cons_zero, List.set_cons_succ]
        generalize (wt26.alloc (.cells #[.int .i64 0, .slice none 0 0, .slice none 0 0] 25)) = wt32 at *
        generalize wt26.heap.size = b8 at *
        refine h1g (i := 1) (by kernel_rfl) rfl (by rfl) (fun K' hK => ?_)
        go_simp
        refine (HT.out.own HKs.out.1 HKs.out.2 HML.out.2.2.1 HML.out.2.2.2).mono ?_
        rintro e wt33 ⟨gd, kd, god, kod, rfl, hgd, hgod, hOd, hb⟩
        have hnd : BB ≤ gd ∧ BB ≤ god := by have := HBB.out; omega
        have HBB2 := Lib.hid (show BB ≤ wt33.heap.size from Nat.le_trans HBB.out hb.size)
        have HT2 := Lib.hid (HT.out.below hb)
        have H82 := Lib.hid (H8.out.below hb H8.out.lt)
        have H92 := Lib.hid (H9.out.below hb H9.out.lt)
        have HD := Lib.hid hOd
        have HND := Lib.hid hnd
        refine hK.out _ _ HT2.out.c ?_
        clear hK K' hb hgd hgod hOd hnd HT HBB H8 H9
        have HT := HT2
        clear HT2
        have HBB := HBB2
        clear HBB2
        have H8 := H82
        clear H82
        have H9 := H92
        clear H92
        try simp only [Act.put, List.setIfInBounds_toArray, List.set_cons_zero, List.set_cons_succ]
        refine h1g (i := 3) (by kernel_rfl) rfl (by rfl) (fun K' hK => ?_)
        go_simp
        refine (HT.out.own HKs.out.1 HKs.out.2 HML.out.2.2.1 HML.out.2.2.2).mono ?_
        rintro e wt34 ⟨gz, kz, goz, koz, rfl, hgz, hgoz, hOz, hb⟩
        have hnz : BB ≤ gz ∧ BB ≤ goz := by have := HBB.out; omega
        have hne : gd ≠ gz ∧ god ≠ goz := by have := HD.out.lt; omega
        have HBB2 := Lib.hid (show BB ≤ wt34.heap.size from Nat.le_trans HBB.out hb.size)
        have HT2 := Lib.hid (HT.out.below hb)
        have HD2 := Lib.hid (HD.out.below hb)
        have H82 := Lib.hid (H8.out.below hb H8.out.lt)
        have H92 := Lib.hid (H9.out.below hb H9.out.lt)
        have HZ := Lib.hid hOz
        have HNZ := Lib.hid hnz
        have HNE := Lib.hid hne
        refine hK.out _ _ HT2.out.c ?_
        clear hK K' hb hgz hgoz hOz hnz hne HT HBB HD H8 H9
        have HT := HT2
        clear HT2
        have HBB := HBB2
        clear HBB2
        have HD := HD2
        clear HD2
        have H8 := H82
        clear H82
        have H9 := H92
        clear H92
        try simp only [Act.put, List.setIfInBounds_toArray, List.set_cons_zero, List.set_cons_succ]
        have hne89 : b8 ≠ b9 := by have := HN89.out; omega
        obtain ⟨hCd, hc6⟩ := co_store (N := N) H8.out HD.out
        have hz6 := Ow.apart H8.out HZ.out
        have hT6 := HT.out.chg hc6 HLT.out (fun q e => by have := HN8.out; omega)
        have hZ6 := HZ.out.chg hc6 hz6.1 hz6.2
        have h96 := H9.out.chg hc6 (fun e => hne89 e.symm)
        have hd9 := Ow.apart H9.out HD.out
        obtain ⟨hCz, hc7⟩ := co_store (N := N) h96 hZ6
        have hT7 := hT6.chg hc7 HLT.out (fun q e => by have := HN9.out; omega)
        have hD7 := hCd.chg hc7 hne89 hd9.1 hd9.2
        have c80 := H8.out.cell 0 (v := .int .i64 0) rfl
        have c81 := H8.out.cell 1 (v := .slice none 0 0) rfl
        have c82 := H8.out.cell 2 (v := .slice none 0 0) rfl
        have c8f := H8.out.frozen
        have c90 := h96.cell 0 (v := .int .i64 0) rfl
        have c91 := h96.cell 1 (v := .slice none 0 0) rfl
        have c92 := h96.cell 2 (v := .slice none 0 0) rfl
        have c9f := h96.frozen
        have HS6 := Lib.hid hT6.c
        have HS7 := Lib.hid hT7.c
        have HFin := Lib.hid (show Tu w N g1 M k1 g2 L k2 y o gb N N fb gl (fun i => Circ.vals N fb y M (o i).toNat) _ ∧ Co b8 N gd M kd god L kod y o _ ∧ Co b9 N gz M kz goz L koz y o _ ∧ (gd ≠ gz ∧ god ≠ goz ∧ b8 ≠ b9) ∧ BB ≤ b8 ∧ BB ≤ b9 ∧ BB ≤ gd ∧ BB ≤ gz ∧ BB ≤ god ∧ BB ≤ goz from ⟨hT7, hD7, hCz, ⟨HNE.out.1, HNE.out.2, hne89⟩, HN8.out, HN9.out, HND.out.1, HNZ.out.1, HND.out.2, HNZ.out.2⟩)
        clear hne89 hCd hc6 hz6 hT6 hZ6 h96 hd9 hCz hc7 hT7 hD7
        refine h1g (i := 6) (by kernel_rfl) rfl (by rfl) (fun K' hK => ?_)
        go_simp
        refine hK.out _ _ HS6.out ?_
        clear hK K' c80 c81 c82 c8f
        try simp only [Act.put, List.setIfInBounds_toArray, List.set_cons_zero, List.set_cons_succ]
        refine h1g (i := 7) (by kernel_rfl) rfl (by rfl) (fun K' hK => ?_)
        go_simp
        refine hK.out _ _ HS7.out ?_
        clear hK K' c90 c91 c92 c9f
        try simp only [Act.put, List.setIfInBounds_toArray, List.set_cons_zero, List.set_cons_succ]
        refine wpAnyH_done (by kernel_rfl) ?_ _
        go_wp2
        go_meet
        exact ⟨b8, b9, gd, kd, god, kod, gz, kz, goz, koz, rfl, rfl, HFin.out⟩
  case rest =>
    obtain ⟨b8, b9, gd, kd, god, kod, gz, kz, goz, koz, rfl, rfl, hT, hD, hZ, hne, q8, q9, qgd, qgz, qod, qoz⟩ := hcut.out
    clear hcut H7 H6 HBB0
    have HB := Lib.hid (And.intro hne (And.intro q8 (And.intro q9 (And.intro qod qoz))))
    have HT := Lib.hid hT
    have HDZ := Lib.hid (show Co b8 N gd (M + 0) kd god L kod (Circ.more y M o 3 false) (Circ.outs' N M o 0) wc ∧ Co b9 N gz (M + 0) kz goz L koz (Circ.more y M o 1 true) (Circ.outs' N M o 0) wc from ⟨hD.congr (fun i j hi => (Circ.more_old hi).symm) (fun i _ => by unfold Circ.outs'; rw [if_neg (by omega)]), hZ.congr (fun i j hi => (Circ.more_old hi).symm) (fun i _ => by unfold Circ.outs'; rw [if_neg (by omega)])⟩)
    have HQ := Lib.hid (And.intro hne.1 (And.intro qgd qgz))
    clear hT hD hZ hne q8 q9 qgd qgz qod qoz
    obtain ⟨x0, x1, x2⟩ := HT.out.c.cells
    go_wp2
    clear x0 x1 x2
    go_loopw [56] (fun i wr => ∃ t : Nat, t ≤ L ∧ i = .int .i64 t ∧ Hid (∃ gd kd gz kz, Tu w N g1 M k1 g2 L k2 y o gb N N fb gl (fun i => Circ.vals N fb y M (o i).toNat) wr ∧ Co b8 N gd (M + t) kd god L kod (Circ.more y M o 3 false) (Circ.outs' N M o t) wr ∧ Co b9 N gz (M + t) kz goz L koz (Circ.more y M o 1 true) (Circ.outs' N M o t) wr ∧ gd ≠ gz ∧ BB ≤ gd ∧ BB ≤ gz)) (fun i _ => L - (intOf i).toNat)
    case atStart => exact ⟨0, Nat.zero_le _, rfl, gd, kd, gz, kz, HT.out, HDZ.out.1, HDZ.out.2, HQ.out⟩
    case round =>
      clear HT HDZ HQ
      obtain ⟨t, ht, rfl, HI⟩ := hrel
      obtain ⟨gd, kd, gz, kz, hT, hD, hZ, hgg, qgd, qgz⟩ := HI.out
      clear HI
      by_cases hlt2 : t < L
      · as_aux_lemma =>
          obtain ⟨hne, q8, q9, qod, qoz⟩ := HB.out
          have hs := HS.out
          have hBw : BB ≤ wr.heap.size := by have := hD.c.lt; omega
          obtain ⟨ad, ead, co1⟩ := hT.c.o t hlt2
          cases ead
          rw [Addr.add_mid, Nat.zero_add] at co1
          unfold iv at co1
          -- the turned circuit's gate and out
          obtain ⟨d1, d2, d3⟩ := hD.ci.cells
          have sd := hD.self
          have apz := hD.apart hZ hne.2.2 hgg hne.2.1
          obtain ⟨gd', kd', w1, hr1, hD2, hc2, hor1, hB1⟩ := hD.grow 3 (o t) 0 (by omega)
          have hT2 := hT.chg hc2 HLT.out (fun q e => by rcases e with rfl | rfl <;> omega)
          have hZ2 := hZ.chg hc2 (fun e => by rcases e with e | e; exact apz.1.1 e; exact apz.1.2.1 e) (fun e => by rcases e with e | e; exact apz.2.1.1 e; exact apz.2.1.2.1 e) (fun e => by rcases e with e | e; exact apz.2.2.1 e; exact apz.2.2.2.1 e)
          have f10 := hB1.cell 1 (v := .slice (some ⟨gd, 0, none⟩) (M + t) kd) rfl
          have f1f := hB1.frozen
          obtain ⟨d4, d5, d6⟩ := hD2.ci.cells
          have co2 := hD2.r.o.cellAt t (by omega)
          have co2f := hD2.r.o.frozen
          obtain ⟨hD3, hc3⟩ := hD2.setOut t hlt2 ((N : Int) + M + t)
          have sd2 := hD2.self
          have hgd' : gd' ≠ gz := by
            rcases hor1 with rfl | h
            · exact hgg
            · have := (hZ.r.lt).1; omega
          have apz2 := hD2.apart hZ2 hne.2.2 hgd' hne.2.1
          have hT3 := hT2.chg hc3 HLT.out (fun q e => by omega)
          have hZ3 := hZ2.chg hc3 (fun e => apz2.1.2.2 e) (fun e => apz2.2.1.2.2 e) (fun e => apz2.2.2.2.2 e)
          have qgd' : BB ≤ gd' := by rcases hor1 with rfl | h <;> omega
          -- the joined one's
          obtain ⟨z1, z2, z3⟩ := hZ3.ci.cells
          have hsz3 := hZ3.c.lt
          have apd3 := hZ3.apart hD3 (fun e => hne.2.2 e.symm) (fun e => hgd' e.symm) (fun e => hne.2.1 e.symm)
          obtain ⟨gz', kz', w4, hr4, hZ5, hc5, hor4, hB4⟩ := hZ3.grow 1 (o t) (o t) (by omega)
          have hT5 := hT3.chg hc5 HLT.out (fun q e => by rcases e with rfl | rfl <;> omega)
          have hD5 := hD3.chg hc5 (fun e => by rcases e with e | e; exact apd3.1.1 e; exact apd3.1.2.1 e) (fun e => by rcases e with e | e; exact apd3.2.1.1 e; exact apd3.2.1.2.1 e) (fun e => by rcases e with e | e; exact apd3.2.2.1 e; exact apd3.2.2.2.1 e)
          have f40 := hB4.cell 1 (v := .slice (some ⟨gz, 0, none⟩) (M + t) kz) rfl
          have f4f := hB4.frozen
          obtain ⟨z4, z5, z6⟩ := hZ5.ci.cells
          have co5 := hZ5.r.o.cellAt t (by omega)
          have co5f := hZ5.r.o.frozen
          obtain ⟨hZ6, hc6⟩ := hZ5.setOut t hlt2 ((N : Int) + M + t)
          have hgz' : gd' ≠ gz' := by
            rcases hor4 with rfl | h
            · exact hgd'
            · have := (hD3.r.lt).1; omega
          have apd5 := hZ5.apart hD5 (fun e => hne.2.2 e.symm) (fun e => hgz' e.symm) (fun e => hne.2.1 e.symm)
          have hT6 := hT5.chg hc6 HLT.out (fun q e => by omega)
          have hD6 := hD5.chg hc6 (fun e => apd5.1.2.2 e) (fun e => apd5.2.1.2.2 e) (fun e => apd5.2.2.2.2 e)
          have qgz' : BB ≤ gz' := by rcases hor4 with rfl | h <;> omega
          have HFin := Lib.hid (show Tu w N g1 M k1 g2 L k2 y o gb N N fb gl (fun i => Circ.vals N fb y M (o i).toNat) _ ∧ Co b8 N gd' (M + (t + 1)) kd' god L kod (Circ.more y M o 3 false) (Circ.outs' N M o (t + 1)) _ ∧ Co b9 N gz' (M + (t + 1)) kz' goz L koz (Circ.more y M o 1 true) (Circ.outs' N M o (t + 1)) _ ∧ gd' ≠ gz' ∧ BB ≤ gd' ∧ BB ≤ gz' from ⟨hT6, hD6.congr (fun i j hi => more_step3 y M t o i j (by omega)) (fun q _ => outs_step N M t o q), hZ6.congr (fun i j hi => more_step1 y M t o i j (by omega)) (fun q _ => outs_step N M t o q), hgz', qgd', qgz'⟩)
          have hs3w : ((w1.setCell ⟨b8, 1, none⟩ (.slice (some ⟨gd', 0, none⟩) (M + t + 1) kd')).setCell ⟨god, t, none⟩ (.int .i64 ((N : Int) + M + t))).heap.size = w1.heap.size := by simp [World.setCell]
          rw [hs3w] at hr4
          have HR1 := Lib.hid hr1
          have HR4 := Lib.hid hr4
          have lt1 : (t : Int) < (L : Int) := by omega
          have lt0 : (0 : Int) ≤ (t : Int) := by omega
          have e1 : IntKind.i64.wrap ((t : Int) + 1) = (t : Int) + 1 := i64_nat _ (by omega) (by omega)
          obtain ⟨Q, hQ⟩ : ∃ Q : Int, (N : Int) + ((M : Int) + (t : Int) + 1) = Q := ⟨_, rfl⟩
          have e2 : IntKind.i64.wrap ((N : Int) + ((M : Int) + (t : Int) + 1)) = Q := by rw [i64_nat _ (by omega) (by omega)]; exact hQ
          have e3 : IntKind.i64.wrap (Q - 1) = (N : Int) + M + t := by rw [i64_nat _ (by omega) (by omega)]; omega
          have HLt := Lib.hid hlt2
          have hm1 : M + t + 1 ≤ kd' ∧ M + t + 1 ≤ kz' := ⟨hD2.r.g.le, hZ5.r.g.le⟩
          clear hne q8 q9 qod qoz hs sd apz hD2 hc2 hor1 hB1 hT2 hZ2 hD3 hc3 sd2 hgd' apz2 hT3 hZ3 qgd' apd3 hZ5 hc5 hor4 hB4 hT5 hD5 hZ6 hc6 hgz' apd5 hT6 hD6 qgz' hr1 hr4 hQ hlt2 hT hD hZ hgg qgd qgz hBw hm1 hs3w
          go_wp2_with (first
            | (at_builtin; refine wpList_append_run rfl _ _ 22 rfl (.slice (some ⟨gd, 0, none⟩) (M + t) kd) (.slice (some ⟨wr.heap.size, 0, none⟩) 1 1) (.slice (some ⟨gd', 0, none⟩) (M + t + 1) kd') w1 rfl rfl (HR1.out _) ?_)
            | (at_builtin; refine wpList_append_run rfl _ _ 22 rfl (.slice (some ⟨gz, 0, none⟩) (M + t) kz) (.slice (some ⟨w1.heap.size, 0, none⟩) 1 1) (.slice (some ⟨gz', 0, none⟩) (M + t + 1) kz') w4 rfl rfl (HR4.out _) ?_))
          go_roundw
          case rel => exact ⟨t + 1, by have := HLt.out; omega, by go_num, gd', kd', gz', kz', HFin.out⟩
          case measure => simp [intOf]; have := HLt.out; omega
      · obtain rfl : L = t := by omega
        have lt1 : ¬ (L : Int) < (L : Int) := by omega
        clear hlt2 ht
        have hGd := Circ.more_good (k := 3) (q := false) HG.out HS.out.1 (.inl ⟨rfl, rfl⟩)
        have hGz := Circ.more_good (k := 1) (q := true) HG.out HS.out.1 (.inr ⟨rfl, rfl⟩)
        have hcd := hD.ci
        have hcz := hZ.ci
        have HEd := Lib.hid (eval_ok wr N (some ⟨gd, 0, none⟩) (M + L) kd (Circ.more y M o 3 false) (some ⟨god, 0, none⟩) L kod (Circ.outs' N M o L) (some ⟨gb, 0, none⟩) N fb hT.h hcd.g hcd.o hT.i (fun h => by cases h) hGd)
        obtain ⟨d1, d2, d3⟩ := hcd.cells
        have H20 := Lib.hid (And.intro hT (And.intro hcd (And.intro hcz hGz)))
        clear hGd hGz hcd hcz hT hD hZ hgg qgd qgz HB
        go_wp2_with fail
        refine HEd.out.mono ?_
        rintro e w21 ⟨gm, rfl, _, hR21, hb21⟩
        have hcz := H20.out.2.2.1.below hb21
        have hT := H20.out.1.below hb21
        have hm : AtV w21 (some ⟨gm, 0, none⟩) L (bv fun i => !Circ.vals N fb y M (o i).toNat) := (by have := hR21.atv; rw [Nat.mul_one] at this; exact this : AtV w21 (some ⟨gm, 0, none⟩) L _).congr fun i hi => by
          dsimp only [bv]
          rw [Circ.more_not fb HG.out i hi]
        have HEz := Lib.hid (eval_ok w21 N (some ⟨gz, 0, none⟩) (M + L) kz (Circ.more y M o 1 true) (some ⟨goz, 0, none⟩) L koz (Circ.outs' N M o L) (some ⟨gb, 0, none⟩) N fb hT.h hcz.g hcz.o hT.i (fun h => by cases h) H20.out.2.2.2)
        obtain ⟨z1, z2, z3⟩ := hcz.cells
        have H21 := Lib.hid (And.intro hT (And.intro (H20.out.2.1.below hb21) hm))
        clear hcz hT hm hR21 hb21 HEd d1 d2 d3 H20
        go_wp2_with fail
        refine HEz.out.mono ?_
        rintro e w22 ⟨gn, rfl, _, hR22, hb22⟩
        have hn : AtV w22 (some ⟨gn, 0, none⟩) L (bv fun _ => false) := (by have := hR22.atv; rw [Nat.mul_one] at this; exact this : AtV w22 (some ⟨gn, 0, none⟩) L _).congr fun i hi => by
          dsimp only [bv]
          rw [Circ.more_xor fb HG.out i hi]
        have H22 := Lib.hid (And.intro (H21.out.1.below hb22) (And.intro (H21.out.2.1.below hb22) (And.intro (H21.out.2.2.below hb22) hn)))
        clear hn hR22 hb22 HEz z1 z2 z3 H21
        go_wp2
        refine wp_region_held_drew (S := fun w' => Ci w.heap.size N g1 M k1 g2 L k2 y o w' ∧ Ci b8 N gd (M + L) kd god L kod (Circ.more y M o 3 false) (Circ.outs' N M o L) w') (by kernel_rfl) ⟨H22.out.1.c.below (drew_below _), H22.out.2.1.below (drew_below _)⟩ (fun hS => ?_)
        have H23 := Lib.hid (And.intro (H22.out.1.below (drew_below _)) (And.intro (H22.out.2.1.below (drew_below _)) (And.intro (H22.out.2.2.1.below (drew_below _)) (H22.out.2.2.2.below (drew_below _)))))
        clear H22
        generalize w22.drew = w23 at *
        refine htg (i := 0) rfl (.nilIface) (by kernel_rfl) (by kernel_rfl) (by kernel_rfl) (fun _ _ _ h => h) (by rfl) hS (fun w' hw' => by obtain ⟨⟨t0, t1, t2⟩, x0, x1, x2⟩ := And.intro hw'.1.cells hw'.2.cells; go_simp) ?_
        try simp only [Act.put, List.setIfInBounds_toArray, List.set_cons_zero, List.set_cons_succ]
        refine htg (i := 1) rfl (.bool false) (by kernel_rfl) (by kernel_rfl) (by kernel_rfl) (fun _ _ _ h => h) (by rfl) hS (fun w' hw' => by obtain ⟨⟨t0, t1, t2⟩, x0, x1, x2⟩ := And.intro hw'.1.cells hw'.2.cells; go_simp) ?_
        try simp only [Act.put, List.setIfInBounds_toArray, List.set_cons_zero, List.set_cons_succ]
        refine htg (i := 2) rfl (.bool false) (by kernel_rfl) (by kernel_rfl) (by kernel_rfl) (fun _ _ _ h => h) (by rfl) hS (fun w' hw' => by obtain ⟨⟨t0, t1, t2⟩, x0, x1, x2⟩ := And.intro hw'.1.cells hw'.2.cells; go_simp) ?_
        try simp only [Act.put, List.setIfInBounds_toArray, List.set_cons_zero, List.set_cons_succ]
        refine htg (i := 3) rfl (.nilIface) (by kernel_rfl) (by kernel_rfl) (by kernel_rfl) (fun _ _ _ h => h) (by rfl) hS (fun w' hw' => by obtain ⟨⟨t0, t1, t2⟩, x0, x1, x2⟩ := And.intro hw'.1.cells hw'.2.cells; go_simp) ?_
        try simp only [Act.put, List.setIfInBounds_toArray, List.set_cons_zero, List.set_cons_succ]
        refine htg (i := 4) rfl (.bool false) (by kernel_rfl) (by kernel_rfl) (by kernel_rfl) (fun _ _ _ h => h) (by rfl) hS (fun w' hw' => by obtain ⟨⟨t0, t1, t2⟩, x0, x1, x2⟩ := And.intro hw'.1.cells hw'.2.cells; go_simp) ?_
        try simp only [Act.put, List.setIfInBounds_toArray, List.set_cons_zero, List.set_cons_succ]
        refine htg (i := 5) rfl (.bool false) (by kernel_rfl) (by kernel_rfl) (by kernel_rfl) (fun _ _ _ h => h) (by rfl) hS (fun w' hw' => by obtain ⟨⟨t0, t1, t2⟩, x0, x1, x2⟩ := And.intro hw'.1.cells hw'.2.cells; go_simp) ?_
        try simp only [Act.put, List.setIfInBounds_toArray, List.set_cons_zero, List.set_cons_succ]
        refine htg (i := 6) rfl (.bool false) (by kernel_rfl) (by kernel_rfl) (by kernel_rfl) (fun _ _ _ h => h) (by rfl) hS (fun w' hw' => by obtain ⟨⟨t0, t1, t2⟩, x0, x1, x2⟩ := And.intro hw'.1.cells hw'.2.cells; go_simp) ?_
        try simp only [Act.put, List.setIfInBounds_toArray, List.set_cons_zero, List.set_cons_succ]
        refine htg (i := 7) rfl (.slice (some ⟨gm, 0, none⟩) L L) (by kernel_rfl) (by kernel_rfl) (by kernel_rfl) (fun _ _ _ h => h) (by rfl) hS (fun w' hw' => by obtain ⟨⟨t0, t1, t2⟩, x0, x1, x2⟩ := And.intro hw'.1.cells hw'.2.cells; go_simp) ?_
        try simp only [Act.put, List.setIfInBounds_toArray, List.set_cons_zero, List.set_cons_succ]
        refine htg (i := 8) rfl (.int .i64 (L : Int)) (by kernel_rfl) (by kernel_rfl) (by kernel_rfl) (fun _ _ _ h => h) (by rfl) hS (fun w' hw' => by obtain ⟨⟨t0, t1, t2⟩, x0, x1, x2⟩ := And.intro hw'.1.cells hw'.2.cells; go_simp) ?_
        try simp only [Act.put, List.setIfInBounds_toArray, List.set_cons_zero, List.set_cons_succ]
        refine htg (i := 9) rfl (.slice (some ⟨gl, 0, none⟩) L L) (by kernel_rfl) (by kernel_rfl) (by kernel_rfl) (fun _ _ _ h => h) (by rfl) hS (fun w' hw' => by obtain ⟨⟨t0, t1, t2⟩, x0, x1, x2⟩ := And.intro hw'.1.cells hw'.2.cells; go_simp) ?_
        try simp only [Act.put, List.setIfInBounds_toArray, List.set_cons_zero, List.set_cons_succ]
        refine htg (i := 10) rfl (.int .i64 (L : Int)) (by kernel_rfl) (by kernel_rfl) (by kernel_rfl) (fun _ _ _ h => h) (by rfl) hS (fun w' hw' => by obtain ⟨⟨t0, t1, t2⟩, x0, x1, x2⟩ := And.intro hw'.1.cells hw'.2.cells; go_simp) ?_
        try simp only [Act.put, List.setIfInBounds_toArray, List.set_cons_zero, List.set_cons_succ]
        refine htg (i := 11) rfl (.bool false) (by kernel_rfl) (by kernel_rfl) (by kernel_rfl) (fun _ _ _ h => h) (by rfl) hS (fun w' hw' => by obtain ⟨⟨t0, t1, t2⟩, x0, x1, x2⟩ := And.intro hw'.1.cells hw'.2.cells; go_simp) ?_
        try simp only [Act.put, List.setIfInBounds_toArray, List.set_cons_zero, List.set_cons_succ]
        refine htg (i := 12) rfl (.bool false) (by kernel_rfl) (by kernel_rfl) (by kernel_rfl) (fun _ _ _ h => h) (by rfl) hS (fun w' hw' => by obtain ⟨⟨t0, t1, t2⟩, x0, x1, x2⟩ := And.intro hw'.1.cells hw'.2.cells; go_simp) ?_
        try simp only [Act.put, List.setIfInBounds_toArray, List.set_cons_zero, List.set_cons_succ]
        refine htg (i := 13) rfl (.bool false) (by kernel_rfl) (by kernel_rfl) (by kernel_rfl) (fun _ _ _ h => h) (by rfl) hS (fun w' hw' => by obtain ⟨⟨t0, t1, t2⟩, x0, x1, x2⟩ := And.intro hw'.1.cells hw'.2.cells; go_simp) ?_
        try simp only [Act.put, List.setIfInBounds_toArray, List.set_cons_zero, List.set_cons_succ]
        refine htg (i := 14) rfl (.slice (some ⟨gn, 0, none⟩) L L) (by kernel_rfl) (by kernel_rfl) (by kernel_rfl) (fun _ _ _ h => h) (by rfl) hS (fun w' hw' => by obtain ⟨⟨t0, t1, t2⟩, x0, x1, x2⟩ := And.intro hw'.1.cells hw'.2.cells; go_simp) ?_
        try simp only [Act.put, List.setIfInBounds_toArray, List.set_cons_zero, List.set_cons_succ]
        refine htg (i := 15) rfl (.int .i64 (L : Int)) (by kernel_rfl) (by kernel_rfl) (by kernel_rfl) (fun _ _ _ h => h) (by rfl) hS (fun w' hw' => by obtain ⟨⟨t0, t1, t2⟩, x0, x1, x2⟩ := And.intro hw'.1.cells hw'.2.cells; go_simp) ?_
        try simp only [Act.put, List.setIfInBounds_toArray, List.set_cons_zero, List.set_cons_succ]
        refine htg (i := 16) rfl (.slice (some ⟨gl, 0, none⟩) L L) (by kernel_rfl) (by kernel_rfl) (by kernel_rfl) (fun _ _ _ h => h) (by rfl) hS (fun w' hw' => by obtain ⟨⟨t0, t1, t2⟩, x0, x1, x2⟩ := And.intro hw'.1.cells hw'.2.cells; go_simp) ?_
        try simp only [Act.put, List.setIfInBounds_toArray, List.set_cons_zero, List.set_cons_succ]
        refine htg (i := 17) rfl (.int .i64 (L : Int)) (by kernel_rfl) (by kernel_rfl) (by kernel_rfl) (fun _ _ _ h => h) (by rfl) hS (fun w' hw' => by obtain ⟨⟨t0, t1, t2⟩, x0, x1, x2⟩ := And.intro hw'.1.cells hw'.2.cells; go_simp) ?_
        try simp only [Act.put, List.setIfInBounds_toArray, List.set_cons_zero, List.set_cons_succ]
        refine htg (i := 18) rfl (.bool false) (by kernel_rfl) (by kernel_rfl) (by kernel_rfl) (fun _ _ _ h => h) (by rfl) hS (fun w' hw' => by obtain ⟨⟨t0, t1, t2⟩, x0, x1, x2⟩ := And.intro hw'.1.cells hw'.2.cells; go_simp) ?_
        try simp only [Act.put, List.setIfInBounds_toArray, List.set_cons_zero, List.set_cons_succ]
        refine htg (i := 19) rfl (.bool false) (by kernel_rfl) (by kernel_rfl) (by kernel_rfl) (fun _ _ _ h => h) (by rfl) hS (fun w' hw' => by obtain ⟨⟨t0, t1, t2⟩, x0, x1, x2⟩ := And.intro hw'.1.cells hw'.2.cells; go_simp) ?_
        try simp only [Act.put, List.setIfInBounds_toArray, List.set_cons_zero, List.set_cons_succ]
        refine htg (i := 20) rfl (.bool false) (by kernel_rfl) (by kernel_rfl) (by kernel_rfl) (fun _ _ _ h => h) (by rfl) hS (fun w' hw' => by obtain ⟨⟨t0, t1, t2⟩, x0, x1, x2⟩ := And.intro hw'.1.cells hw'.2.cells; go_simp) ?_
        try simp only [Act.put, List.setIfInBounds_toArray, List.set_cons_zero, List.set_cons_succ]
        refine htg (i := 21) rfl (circV N (some ⟨gd, 0, none⟩) (M + L) kd (some ⟨god, 0, none⟩) L kod) (by kernel_rfl) (by kernel_rfl) (by kernel_rfl) (fun _ _ _ h => h) (by rfl) hS (fun w' hw' => by obtain ⟨⟨t0, t1, t2⟩, x0, x1, x2⟩ := And.intro hw'.1.cells hw'.2.cells; go_simp) ?_
        try simp only [Act.put, List.setIfInBounds_toArray, List.set_cons_zero, List.set_cons_succ]
        refine htg (i := 23) rfl (circV N (some ⟨g1, 0, none⟩) M k1 (some ⟨g2, 0, none⟩) L k2) (by kernel_rfl) (by kernel_rfl) (by kernel_rfl) (fun _ _ _ h => h) (by rfl) hS (fun w' hw' => by obtain ⟨⟨t0, t1, t2⟩, x0, x1, x2⟩ := And.intro hw'.1.cells hw'.2.cells; go_simp) ?_
        try simp only [Act.put, List.setIfInBounds_toArray, List.set_cons_zero, List.set_cons_succ]
        have HAd := Lib.hid (ands_any w23 N (some ⟨gd, 0, none⟩) (M + L) kd (Circ.more y M o 3 false) (some ⟨god, 0, none⟩) L kod H23.out.2.1.g (by have := HS.out; unfold maxLen; omega))
        rw [Circ.more_ands (by decide)] at HAd
        refine h1g (i := 22) (by kernel_rfl) rfl (by rfl) (fun K' hK => ?_)
        go_simp
        refine HAd.out.mono ?_
        rintro e w24 ⟨rfl, hb24⟩
        have H24 := Lib.hid (And.intro (H23.out.1.below hb24) (And.intro (H23.out.2.1.below hb24) (And.intro (H23.out.2.2.1.below hb24) (H23.out.2.2.2.below hb24))))
        refine hK.out _ _ ⟨H24.out.1.c, H24.out.2.1⟩ ?_
        clear hK K' hb24 HAd H23 hS
        try simp only [Act.put, List.setIfInBounds_toArray, List.set_cons_zero, List.set_cons_succ]
        have HAc := Lib.hid (ands_any w24 N (some ⟨g1, 0, none⟩) M k1 y (some ⟨g2, 0, none⟩) L k2 H24.out.1.c.g (by have := HS.out; unfold maxLen; omega))
        refine h1g (i := 24) (by kernel_rfl) rfl (by rfl) (fun K' hK => ?_)
        go_simp
        refine HAc.out.mono ?_
        rintro e w25 ⟨rfl, hb25⟩
        have H25 := Lib.hid (And.intro (H24.out.1.below hb25) (And.intro (H24.out.2.1.below hb25) (And.intro (H24.out.2.2.1.below hb25) (H24.out.2.2.2.below hb25))))
        have hS : (fun w' => Ci w.heap.size N g1 M k1 g2 L k2 y o w' ∧ Ci b8 N gd (M + L) kd god L kod (Circ.more y M o 3 false) (Circ.outs' N M o L) w') w25 := ⟨H25.out.1.c, H25.out.2.1⟩
        refine hK.out _ _ hS ?_
        clear hK K' hb25 HAc H24
        try simp only [Act.put, List.setIfInBounds_toArray, List.set_cons_zero, List.set_cons_succ]
        refine htg (i := 25) rfl (.bool false) (by kernel_rfl) (by kernel_rfl) (by kernel_rfl) (fun _ _ _ h => h) (by rfl) hS (fun w' hw' => by obtain ⟨⟨t0, t1, t2⟩, x0, x1, x2⟩ := And.intro hw'.1.cells hw'.2.cells; go_simp) ?_
        try simp only [Act.put, List.setIfInBounds_toArray, List.set_cons_zero, List.set_cons_succ]
        refine htg (i := 26) rfl (.bool false) (by kernel_rfl) (by kernel_rfl) (by kernel_rfl) (fun _ _ _ h => h) (by rfl) hS (fun w' hw' => by obtain ⟨⟨t0, t1, t2⟩, x0, x1, x2⟩ := And.intro hw'.1.cells hw'.2.cells; go_simp) ?_
        try simp only [Act.put, List.setIfInBounds_toArray, List.set_cons_zero, List.set_cons_succ]
        refine wpAnyH_done (by kernel_rfl) ?_ _
        clear hS
        go_wp2
        go_loopw [140] (fun i wr => ∃ t : Nat, t ≤ L ∧ i = .int .i64 t ∧ Hid (Below w25.heap.size w25 wr)) (fun i _ => L - (intOf i).toNat)
        case atStart => exact ⟨0, Nat.zero_le _, rfl, Below.refl _ _⟩
        case round =>
          obtain ⟨t, ht, rfl, HI2⟩ := hrel
          by_cases hlt2 : t < L
          · have lt2 : (t : Int) < (L : Int) := by omega
            have lt0 : (0 : Int) ≤ (t : Int) := by omega
            have e1 : IntKind.i64.wrap ((t : Int) + 1) = (t : Int) + 1 := i64_nat _ (by omega) (by have := HS.out; omega)
            have key : ∀ (g : Nat) (F : Nat → Value), AtV w25 (some ⟨g, 0, none⟩) L F → wr.cell? ⟨g, t, none⟩ = some (F t) := fun g F hF => by
              obtain ⟨ad, e2, hc⟩ := (hF.below HI2.out) t hlt2
              cases e2
              rwa [Addr.add_mid, Nat.zero_add] at hc
            have cl : wr.cell? ⟨gl, t, none⟩ = some (.bool (Circ.vals N fb y M (o t).toNat)) := key _ _ H25.out.1.l
            have cm : wr.cell? ⟨gm, t, none⟩ = some (.bool (!Circ.vals N fb y M (o t).toNat)) := key _ _ H25.out.2.2.1
            have cn : wr.cell? ⟨gn, t, none⟩ = some (.bool false) := key _ _ H25.out.2.2.2
            have HLt := Lib.hid hlt2
            clear hlt2 key
            cases hbt : Circ.vals N fb y M (o t).toNat with
            | false =>
              rw [hbt] at cl cm
              simp only [Bool.not_false] at cm
              clear hbt
              go_wp2
              go_quiet (fail)
              go_wp2
              go_roundw
              case rel => exact ⟨t + 1, by have := HLt.out; omega, by go_num, HI2.out.trans (drewN_below _ _ _)⟩
              case measure => simp [intOf]; have := HLt.out; omega
            | true =>
              rw [hbt] at cl cm
              simp only [Bool.not_true] at cm
              clear hbt
              go_wp2
              go_quiet (fail)
              go_wp2
              go_roundw
              case rel => exact ⟨t + 1, by have := HLt.out; omega, by go_num, HI2.out.trans (drewN_below _ _ _)⟩
              case measure => simp [intOf]; have := HLt.out; omega
          · obtain rfl : L = t := by omega
            have lt2 : ¬ (L : Int) < (L : Int) := by omega
            clear hlt2 ht
            go_wp2
            go_ret
            exact ⟨rfl, H25.out.1.b.trans (HI2.out.mono H25.out.1.b.size)⟩
end Go.Proofs.YtoldgiejblekaaaDoorR
