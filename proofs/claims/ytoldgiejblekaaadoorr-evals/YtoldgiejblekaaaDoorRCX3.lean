/- CircEvals' walk, what is no circuit. -/
import Derived.Test.YtoldgiejblekaaaDoorRCX2
namespace Go.Proofs.YtoldgiejblekaaaDoorR
open Go.RowKit

set_option maxHeartbeats 8000000 in
set_option maxRecDepth 100000 in
theorem evals_bad (N : Int) (Ag : Option Addr) (n cg : Nat) (y : Nat → Nat → Int) (Ao : Option Addr) (m co : Nat) (o : Nat → Int) (A : Option Addr) (K c : Nat) (f : Nat → Bool) (w : World) (hh : Handle w) (hg : AtV w Ag (n * 3) (gv y)) (ho : AtV w Ao m (iv o)) (hn : n ≤ cg) (hm : m ≤ co) (zg : Ag = none → n = 0 ∧ cg = 0) (zo : Ao = none → m = 0 ∧ co = 0) (hA : AtV w A K (bv f)) (hz : A = none → K = 0 ∧ c = 0) (hK : K ≤ 5000) (hG : ¬ Circ.Good N (min n 4200) y (min m 80) o) :
    Calls Tryd.prog 3 #[circV N Ag n cg Ao m co, .slice A K c] w fun e w' => e = .returned (.bool true) ∧ Below w.heap.size w w' := by
  have bK : ¬ (5000 : Int) < (K : Int) := by omega
  have bKd : decide ((5000 : Int) < (K : Int)) = false := decide_eq_false bK
  have hh0 := hh
  have hA0 := hA
  have hz0 := hz
  have HW := Lib.hid (awake_any (w.alloc (.cells #[.int .i64 N, .slice Ag n cg, .slice Ao m co] 25)) (hh.below ((Below.refl _ w).alloc (Nat.le_refl _) _) hh.pos))
  have hb0 := (Below.refl w.heap.size w).alloc (Nat.le_refl _) (.cells #[.int .i64 N, .slice Ag n cg, .slice Ao m co] 25)
  have HX := Blk.new w 25 #[.int .i64 N, .slice Ag n cg, .slice Ao m co]
  have hlt := HX.lt
  have H0 := Lib.hid (And.intro hb0 (And.intro HX (And.intro (hh.below hb0 hh.pos) (And.intro (hg.below hb0) (And.intro (ho.below hb0) (And.intro hn (And.intro hm (And.intro zg zo))))))))
  have HI := Lib.hid (And.intro (hA.below hb0) hz)
  clear hh hg ho hn hm zg zo hA hz hb0 HX
  go_enter Tryd.func3, Tryd.ntmps3
  go_wp2_with fail
  refine HW.out.mono ?_
  rintro e w1 ⟨rfl, hb1⟩
  have HX1 := H0.out.2.1.below hb1 hlt
  have hl1 := HX1.lt
  have c0 := HX1.cell 0 (v := .int .i64 N) rfl
  have c1 := HX1.cell 1 (v := .slice Ag n cg) rfl
  have c2 := HX1.cell 2 (v := .slice Ao m co) rfl
  have HO := Lib.hid (own_any w1 N Ag n cg y Ao m co o (H0.out.2.2.2.1.below hb1) (H0.out.2.2.2.2.1.below hb1) H0.out.2.2.2.2.2.1 H0.out.2.2.2.2.2.2.1 H0.out.2.2.2.2.2.2.2.1 H0.out.2.2.2.2.2.2.2.2)
  have H1 := Lib.hid (And.intro HX1 (And.intro (H0.out.1.trans (hb1.mono H0.out.1.size)) (And.intro (H0.out.2.2.1.below hb1 H0.out.2.2.1.pos) (HI.out.1.below hb1))))
  clear hb1 HX1 HW
  go_wp2_with fail
  refine HO.out.mono ?_
  rintro e w2 ⟨g1, k1, g2, k2, rfl, hg1, hg2, hR1, hR2, hb2⟩
  obtain ⟨M, hM⟩ : ∃ M, min n 4200 = M := ⟨_, rfl⟩
  obtain ⟨L, hL⟩ : ∃ L, min m 80 = L := ⟨_, rfl⟩
  rw [hM] at hR1 ⊢
  rw [hL] at hR2 ⊢
  have HX2 := H1.out.1.below hb2 hl1
  have x0 := HX2.cell 0 (v := .int .i64 N) rfl
  have x1 := HX2.cell 1 (v := .slice Ag n cg) rfl
  have x2 := HX2.cell 2 (v := .slice Ao m co) rfl
  have xf := HX2.frozen
  have hbw2 := H1.out.2.1.trans (hb2.mono H1.out.2.1.size)
  have hci : Ci w.heap.size N g1 M k1 g2 L k2 y o (((w2.setCell ⟨w.heap.size, 0, none⟩ (.int .i64 N)).setCell ⟨w.heap.size, 1, none⟩ (.slice (some ⟨g1, 0, none⟩) M k1)).setCell ⟨w.heap.size, 2, none⟩ (.slice (some ⟨g2, 0, none⟩) L k2)) := ci_store _ HX2 rfl (by omega) (by omega) hR1.atv (by have := hR2.atv; rwa [Nat.mul_one] at this)
  have hb3 := ((hbw2.setCell (p := ⟨w.heap.size, 0, none⟩) (Nat.le_refl _) (.int .i64 N)).setCell (p := ⟨w.heap.size, 1, none⟩) (Nat.le_refl _) (.slice (some ⟨g1, 0, none⟩) M k1)).setCell (p := ⟨w.heap.size, 2, none⟩) (Nat.le_refl _) (.slice (some ⟨g2, 0, none⟩) L k2)
  have hin : AtV (((w2.setCell ⟨w.heap.size, 0, none⟩ (.int .i64 N)).setCell ⟨w.heap.size, 1, none⟩ (.slice (some ⟨g1, 0, none⟩) M k1)).setCell ⟨w.heap.size, 2, none⟩ (.slice (some ⟨g2, 0, none⟩) L k2)) A K (bv f) := hA0.belowB hb3 (AtV.lt hA0)
  have H3 := Lib.hid (And.intro hci (And.intro hb3 (And.intro hin (hh0.below hb3 hh0.pos))))
  have HML := Lib.hid (And.intro hM (And.intro hL (And.intro hR1.le hR2.le)))
  clear HO hR1 hR2 hb2 hM hL HX2 hbw2 hci hb3 hin H1 hg1 hg2 c0 c1 c2 HI
  go_wp2_with fail
  generalize (((w2.setCell ⟨w.heap.size, 0, none⟩ (.int .i64 N)).setCell ⟨w.heap.size, 1, none⟩ (.slice (some ⟨g1, 0, none⟩) M k1)).setCell ⟨w.heap.size, 2, none⟩ (.slice (some ⟨g2, 0, none⟩) L k2)) = w3 at *
  clear x0 x1 x2 xf
  have hml : M ≤ 4200 ∧ L ≤ 80 := by have := HML.out; omega
  have HO := own_any w3 N (some ⟨g1, 0, none⟩) M k1 y (some ⟨g2, 0, none⟩) L k2 o H3.out.1.g H3.out.1.o HML.out.2.2.1 HML.out.2.2.2 (fun h => by cases h) (fun h => by cases h)
  rw [show min M 4200 = M by omega, show min L 80 = L by omega] at HO
  refine HO.mono ?_
  clear HO
  rintro e w4 ⟨g3, k3, g4, k4, rfl, hg3, hg4, hR3, hR4, hb4⟩
  have hci4 := H3.out.1.below hb4
  have hb04 := H3.out.2.1.trans (hb4.mono H3.out.2.1.size)
  have hb45 := (Below.refl w4.heap.size w4).alloc (Nat.le_refl _) (.cells #[.int .i64 N, .slice (some ⟨g3, 0, none⟩) M k3, .slice (some ⟨g4, 0, none⟩) L k4] 25)
  have hcx : Ci w4.heap.size N g3 M k3 g4 L k4 y o (w4.alloc (.cells #[.int .i64 N, .slice (some ⟨g3, 0, none⟩) M k3, .slice (some ⟨g4, 0, none⟩) L k4] 25)) := ⟨Blk.new w4 _ _, hR3.atv.below hb45, (by have := hR4.atv; rw [Nat.mul_one] at this; exact this : AtV w4 (some ⟨g4, 0, none⟩) L (iv o)).below hb45⟩
  have hs5 : (w4.alloc (.cells #[.int .i64 N, .slice (some ⟨g3, 0, none⟩) M k3, .slice (some ⟨g4, 0, none⟩) L k4] 25)).heap.size = w4.heap.size + 1 := by simp
  have hin5 := (H3.out.2.2.1.below hb4).below hb45
  obtain ⟨gb, kb, w6, hr, hgb, _, hkb, hRb, hb6⟩ := append_empty eltB (w4.alloc (.cells #[.int .i64 N, .slice (some ⟨g3, 0, none⟩) M k3, .slice (some ⟨g4, 0, none⟩) L k4] 25)) A K c (bv f) (by rw [Nat.mul_one]; exact hin5) hz0 (bv_one f) (by unfold maxLen; omega) (by omega)
  have hb46 := hb45.trans (hb6.mono (by rw [hs5]; omega))
  rw [hs5] at hr
  have hcx6 := hcx.below hb6
  have x0 := hcx6.c.cell 0 (v := .int .i64 N) rfl
  have x1 := hcx6.c.cell 1 (v := .slice (some ⟨g3, 0, none⟩) M k3) rfl
  have x2 := hcx6.c.cell 2 (v := .slice (some ⟨g4, 0, none⟩) L k4) rfl
  have hbits : AtV w6 (some ⟨gb, 0, none⟩) K (bv f) := by have := hRb.atv; rwa [Nat.mul_one] at this
  have HR := Lib.hid hr
  have H6 := Lib.hid (And.intro (show Es w N g1 M k1 g2 L k2 w4.heap.size g3 k3 g4 k4 y o A K f 0 0 (fun _ => false) w6 from ⟨hci4.below hb46, hcx6, (H3.out.2.2.1.below hb4).below hb46, (H3.out.2.2.2.belowS hb4).belowS hb46, hb04.trans (hb46.mono hb04.size), AtV.zero⟩) hbits)
  have HKs := Lib.hid (show M ≤ 4200 ∧ L ≤ 80 ∧ M ≤ k3 ∧ L ≤ k4 ∧ K ≤ kb from ⟨hml.1, hml.2, hR3.le, hR4.le, hkb⟩)
  clear hml hg3 hg4 hR3 hR4 hb4 hci4 hb04 hb45 hcx hs5 hin5 hr hgb hkb hRb hb6 hb46 hcx6 hbits H3
  go_wp2_with (first
    | (at_builtin; refine wpList_append_run rfl _ _ 26 rfl (.slice (some ⟨w4.heap.size + 1, 0, none⟩) 0 0) (.slice A K c) (.slice (some ⟨gb, 0, none⟩) K kb) w6 rfl rfl (HR.out _) ?_)
    | fail)
  clear HR x0 x1 x2
  have HG := Lib.hid (show ¬ Circ.Good N M y L o by rw [← HML.out.1, ← HML.out.2.1]; exact hG)
  clear hG
  refine (eval_bad w6 N (some ⟨g3, 0, none⟩) M k3 y (some ⟨g4, 0, none⟩) L k4 o (.slice (some ⟨gb, 0, none⟩) K kb) H6.out.1.h H6.out.1.x.g H6.out.1.x.o (by have := HKs.out.1; unfold maxLen; omega) (by have := HKs.out.2.1; unfold maxLen; omega) HG.out).mono ?_
  rintro e w7 ⟨⟨p, a, rfl⟩, hb7⟩
  have H7 := Lib.hid (H6.out.1.below hb7)
  clear hb7 H6
  obtain ⟨T, z, hT⟩ := chain_iface [(p, a)] 90
  have HCd := Lib.hid (fun wx hx => code_chain [(p, a)] 90 wx hx)
  rw [hT] at HCd ⊢
  clear hT
  go_wp2
  refine wp_region_held_drew (S := Ci w.heap.size N g1 M k1 g2 L k2 y o) (by kernel_rfl) (H7.out.c.below (drew_below _)) (fun hS => ?_)
  have H7d := Lib.hid (H7.out.below (drew_below _))
  generalize w7.drew = w8 at *
  refine htg (i := 0) rfl (.pointer (some ⟨w.heap.size, 0, none⟩)) (by kernel_rfl) (by kernel_rfl) (by kernel_rfl) (fun _ _ _ h => h) (by rfl) hS (fun w' hw' => by obtain ⟨t0, t1, t2⟩ := hw'.cells; go_simp) ?_
  try simp only [Act.put, List.setIfInBounds_toArray, List.set_cons_zero, List.set_cons_succ]
  refine htg (i := 1) rfl (.int .i64 N) (by kernel_rfl) (by kernel_rfl) (by kernel_rfl) (fun _ _ _ h => h) (by rfl) hS (fun w' hw' => by obtain ⟨t0, t1, t2⟩ := hw'.cells; go_simp) ?_
  try simp only [Act.put, List.setIfInBounds_toArray, List.set_cons_zero, List.set_cons_succ]
  refine htg (i := 2) rfl (circV N (some ⟨g1, 0, none⟩) M k1 (some ⟨g2, 0, none⟩) L k2) (by kernel_rfl) (by kernel_rfl) (by kernel_rfl) (fun _ _ _ h => h) (by rfl) hS (fun w' hw' => by obtain ⟨t0, t1, t2⟩ := hw'.cells; go_simp) ?_
  try simp only [Act.put, List.setIfInBounds_toArray, List.set_cons_zero, List.set_cons_succ]
  refine htg (i := 4) rfl (.pointer (some ⟨w.heap.size, 2, none⟩)) (by kernel_rfl) (by kernel_rfl) (by kernel_rfl) (fun _ _ _ h => h) (by rfl) hS (fun w' hw' => by obtain ⟨t0, t1, t2⟩ := hw'.cells; go_simp) ?_
  try simp only [Act.put, List.setIfInBounds_toArray, List.set_cons_zero, List.set_cons_succ]
  refine htg (i := 5) rfl (.slice (some ⟨g2, 0, none⟩) L k2) (by kernel_rfl) (by kernel_rfl) (by kernel_rfl) (fun _ _ _ h => h) (by rfl) hS (fun w' hw' => by obtain ⟨t0, t1, t2⟩ := hw'.cells; go_simp) ?_
  try simp only [Act.put, List.setIfInBounds_toArray, List.set_cons_zero, List.set_cons_succ]
  refine h1g (i := 3) (by kernel_rfl) rfl (by rfl) (fun K' hK => ?_)
  go_simp
  refine (gates_any w8 N (some ⟨g1, 0, none⟩) M k1 y (some ⟨g2, 0, none⟩) L k2 H7d.out.c.g (by have := HKs.out.1; omega)).mono ?_
  rintro e w9 ⟨v9, rfl, hR9, hb9⟩
  obtain ⟨A9, c9, rfl, _, _, _, hA9, _, _⟩ := hR9.read
  refine hK.out _ _ (hS.below hb9) ?_
  have H9 := Lib.hid (H7d.out.below hb9)
  have hS := H9.out.c
  clear hK K' hR9 hb9
  try simp only [Act.put, List.setIfInBounds_toArray, List.set_cons_zero, List.set_cons_succ]
  have HGd := Lib.hid (rgood_any w9 N A9 M c9 y (some ⟨g2, 0, none⟩) L k2 o hA9 H9.out.c.o (by have := HKs.out.1; omega) (by have := HKs.out.2.1; omega))
  clear hA9
  refine h1g (i := 6) (by kernel_rfl) rfl (by rfl) (fun K' hK => ?_)
  go_simp
  refine HGd.out.mono ?_
  rintro e w10 ⟨h10, hb10⟩
  obtain rfl : e = .returned (.bool false) := by
    rcases h10 with h | h
    · exact absurd h.1 HG.out
    · exact h.2
  refine hK.out _ _ (hS.below hb10) ?_
  have H10 := Lib.hid (H9.out.below hb10)
  have hS := H10.out.c
  clear hK K' h10 hb10 HGd
  try simp only [Act.put, List.setIfInBounds_toArray, List.set_cons_zero, List.set_cons_succ]
  refine h1g (i := 7) (by kernel_rfl) rfl (by rfl) (fun K' hK => ?_)
  go_simp
  refine hK.out _ _ hS ?_
  clear hK K' hS
  try simp only [Act.put, List.setIfInBounds_toArray, List.set_cons_zero, List.set_cons_succ]
  refine wpAnyH_done (by kernel_rfl) ?_ _
  obtain ⟨y0, y1, y2⟩ := H10.out.c.cells
  have HO := own_any w10 N (some ⟨g1, 0, none⟩) M k1 y (some ⟨g2, 0, none⟩) L k2 o H10.out.c.g H10.out.c.o HML.out.2.2.1 HML.out.2.2.2 (fun h => by cases h) (fun h => by cases h)
  rw [show min M 4200 = M by have := HKs.out.1; omega, show min L 80 = L by have := HKs.out.2.1; omega] at HO
  have HOh := Lib.hid HO
  clear HO
  go_wp2_with fail
  refine HOh.out.mono ?_
  rintro e w11 ⟨g5, k5, g6, k6, rfl, _, _, hR5, hR6, hb11⟩
  clear HOh y0 y1 y2
  have H11 := Lib.hid (H10.out.below hb11)
  have hR6' : AtV w11 (some ⟨g6, 0, none⟩) L (iv o) := by have := hR6.atv; rwa [Nat.mul_one] at this

  have HCk := Lib.hid (check_bad (cg := k5) (co := k6) H11.out.h hR5.atv hR6' (by have := HKs.out.1; unfold maxLen; omega) (by have := HKs.out.2.1; unfold maxLen; omega) HG.out)
  clear hR5 hR6 hR6' hb11
  go_wp2_with fail
  refine HCk.out.mono ?_
  rintro e w12 ⟨⟨p2, a2, rfl⟩, hb12⟩
  have H12 := Lib.hid (H11.out.below hb12)
  clear hb12 HCk
  obtain ⟨T2, z2, hT2⟩ := chain_iface [(p2, a2)] 90
  rw [hT2]
  clear hT2
  have HCc := Lib.hid (HCd.out w12 H12.out.h)
  clear HCd
  go_wp2_with fail
  refine HCc.out.mono ?_
  rintro e w13 ⟨rfl, hb13⟩
  have H13 := Lib.hid (H12.out.below hb13)
  clear hb13
  go_wp2
  go_ret
  exact ⟨rfl, H13.out.b⟩
end Go.Proofs.YtoldgiejblekaaaDoorR
