/- CircTurned's walk, what is looked at no further. -/
import Derived.Test.YtoldgiejblekaaaDoorRCX7a
import Derived.Deep.CutBlock
import Derived.Deep.DeepCutAuto
import Derived.Deep.CutRange
namespace Go.Proofs.YtoldgiejblekaaaDoorR
open Go.RowKit

set_option maxHeartbeats 8000000 in
set_option maxRecDepth 100000 in
theorem turned_bad (N : Int) (Ag : Option Addr) (n cg : Nat) (y : Nat → Nat → Int) (Ao : Option Addr) (m co : Nat) (o : Nat → Int) (A : Option Addr) (K c : Nat) (w : World) (hh : Handle w) (hg : AtV w Ag (n * 3) (gv y)) (ho : AtV w Ao m (iv o)) (hn : n ≤ cg) (hm : m ≤ co) (zg : Ag = none → n = 0 ∧ cg = 0) (zo : Ao = none → m = 0 ∧ co = 0) (hG : ¬ Circ.Good N (min n 4200) y (min m 80) o) :
    Calls Tryd.prog 5 #[circV N Ag n cg Ao m co, .slice A K c] w fun e w' => e = .returned (.bool true) ∧ Below w.heap.size w w' := by
  have hh0 := hh
  have HW := Lib.hid (awake_any (w.alloc (.cells #[.int .i64 N, .slice Ag n cg, .slice Ao m co] 25)) (hh.below ((Below.refl _ w).alloc (Nat.le_refl _) _) hh.pos))
  have hb0 := (Below.refl w.heap.size w).alloc (Nat.le_refl _) (.cells #[.int .i64 N, .slice Ag n cg, .slice Ao m co] 25)
  have HX := Blk.new w 25 #[.int .i64 N, .slice Ag n cg, .slice Ao m co]
  have hlt := HX.lt
  have H0 := Lib.hid (And.intro hb0 (And.intro HX (And.intro (hh.below hb0 hh.pos) (And.intro (hg.below hb0) (And.intro (ho.below hb0) (And.intro hn (And.intro hm (And.intro zg zo))))))))
  clear hh hg ho hn hm zg zo hb0 HX
  go_enter Tryd.func5, Tryd.ntmps5
  go_wp2_with fail
  refine HW.out.mono ?_
  rintro e w1 ⟨rfl, hb1⟩
  have HX1 := H0.out.2.1.below hb1 hlt
  have hl1 := HX1.lt
  have c0 := HX1.cell 0 (v := .int .i64 N) rfl
  have c1 := HX1.cell 1 (v := .slice Ag n cg) rfl
  have c2 := HX1.cell 2 (v := .slice Ao m co) rfl
  have HO := Lib.hid (own_any w1 N Ag n cg y Ao m co o (H0.out.2.2.2.1.below hb1) (H0.out.2.2.2.2.1.below hb1) H0.out.2.2.2.2.2.1 H0.out.2.2.2.2.2.2.1 H0.out.2.2.2.2.2.2.2.1 H0.out.2.2.2.2.2.2.2.2)
  have H1 := Lib.hid (And.intro HX1 (And.intro (H0.out.1.trans (hb1.mono H0.out.1.size)) (H0.out.2.2.1.below hb1 H0.out.2.2.1.pos)))
  clear hb1 HX1 HW
  go_wp2_with fail
  refine HO.out.mono ?_
  rintro e w2 ⟨g1, k1, g2, k2, rfl, hg1, hg2, hR1, hR2, hb2⟩
  obtain ⟨M, hM⟩ : ∃ M, min n 4200 = M := ⟨_, rfl⟩
  obtain ⟨L, hL⟩ : ∃ L, min m 80 = L := ⟨_, rfl⟩
  rw [hM] at hR1 ⊢
  rw [hL] at hR2 ⊢
  have HX2 := H1.out.1.below hb2 hl1
  have x0 := HX2.cell 0 (v := .int .i64 N) rfl
  have x1 := HX2.cell 1 (v := .slice Ag n cg) rfl
  have x2 := HX2.cell 2 (v := .slice Ao m co) rfl
  have xf := HX2.frozen
  have hbw2 := H1.out.2.1.trans (hb2.mono H1.out.2.1.size)
  have hci : Ci w.heap.size N g1 M k1 g2 L k2 y o (((w2.setCell ⟨w.heap.size, 0, none⟩ (.int .i64 N)).setCell ⟨w.heap.size, 1, none⟩ (.slice (some ⟨g1, 0, none⟩) M k1)).setCell ⟨w.heap.size, 2, none⟩ (.slice (some ⟨g2, 0, none⟩) L k2)) := ci_store _ HX2 rfl (by omega) (by omega) hR1.atv (by have := hR2.atv; rwa [Nat.mul_one] at this)
  have hb3 := ((hbw2.setCell (p := ⟨w.heap.size, 0, none⟩) (Nat.le_refl _) (.int .i64 N)).setCell (p := ⟨w.heap.size, 1, none⟩) (Nat.le_refl _) (.slice (some ⟨g1, 0, none⟩) M k1)).setCell (p := ⟨w.heap.size, 2, none⟩) (Nat.le_refl _) (.slice (some ⟨g2, 0, none⟩) L k2)
  have H3 := Lib.hid (And.intro hci (And.intro hb3 (hh0.below hb3 hh0.pos)))
  have HML := Lib.hid (And.intro hM (And.intro hL (And.intro hR1.le hR2.le)))
  clear HO hR1 hR2 hb2 hM hL HX2 hbw2 hci hb3 H1 hg1 hg2 c0 c1 c2
  go_wp2_with fail
  generalize (((w2.setCell ⟨w.heap.size, 0, none⟩ (.int .i64 N)).setCell ⟨w.heap.size, 1, none⟩ (.slice (some ⟨g1, 0, none⟩) M k1)).setCell ⟨w.heap.size, 2, none⟩ (.slice (some ⟨g2, 0, none⟩) L k2)) = w3 at *
  clear x0 x1 x2 xf
  have HKs := Lib.hid (show M ≤ 4200 ∧ L ≤ 80 by have := HML.out; omega)
  have HG := Lib.hid (show ¬ Circ.Good N M y L o by rw [← HML.out.1, ← HML.out.2.1]; exact hG)
  clear hG
  refine (check_bad (cg := k1) (co := k2) H3.out.2.2 H3.out.1.g H3.out.1.o (by have := HKs.out.1; unfold maxLen; omega) (by have := HKs.out.2; unfold maxLen; omega) HG.out).mono ?_
  rintro e w4 ⟨⟨p, a, rfl⟩, hb4⟩
  have HF := Lib.hid (H3.out.2.1.trans (hb4.mono H3.out.2.1.size))
  clear hb4
  obtain ⟨T, z, hT⟩ := chain_iface [(p, a)] 90
  rw [hT]
  clear hT
  go_wp2
  go_ret
  exact ⟨rfl, HF.out⟩
set_option maxHeartbeats 8000000 in
set_option maxRecDepth 100000 in
theorem turned_gates (N : Int) (Ag : Option Addr) (n cg : Nat) (y : Nat → Nat → Int) (Ao : Option Addr) (m co : Nat) (o : Nat → Int) (A : Option Addr) (K c : Nat) (w : World) (hh : Handle w) (hg : AtV w Ag (n * 3) (gv y)) (ho : AtV w Ao m (iv o)) (hn : n ≤ cg) (hm : m ≤ co) (zg : Ag = none → n = 0 ∧ cg = 0) (zo : Ao = none → m = 0 ∧ co = 0) (hG : Circ.Good N (min n 4200) y (min m 80) o) (hbig : 3000 < min n 4200) :
    Calls Tryd.prog 5 #[circV N Ag n cg Ao m co, .slice A K c] w fun e w' => e = .returned (.bool true) ∧ Below w.heap.size w w' := by
  have hh0 := hh
  have HW := Lib.hid (awake_any (w.alloc (.cells #[.int .i64 N, .slice Ag n cg, .slice Ao m co] 25)) (hh.below ((Below.refl _ w).alloc (Nat.le_refl _) _) hh.pos))
  have hb0 := (Below.refl w.heap.size w).alloc (Nat.le_refl _) (.cells #[.int .i64 N, .slice Ag n cg, .slice Ao m co] 25)
  have HX := Blk.new w 25 #[.int .i64 N, .slice Ag n cg, .slice Ao m co]
  have hlt := HX.lt
  have H0 := Lib.hid (And.intro hb0 (And.intro HX (And.intro (hh.below hb0 hh.pos) (And.intro (hg.below hb0) (And.intro (ho.below hb0) (And.intro hn (And.intro hm (And.intro zg zo))))))))
  clear hh hg ho hn hm zg zo hb0 HX
  go_enter Tryd.func5, Tryd.ntmps5
  go_wp2_with fail
  refine HW.out.mono ?_
  rintro e w1 ⟨rfl, hb1⟩
  have HX1 := H0.out.2.1.below hb1 hlt
  have hl1 := HX1.lt
  have c0 := HX1.cell 0 (v := .int .i64 N) rfl
  have c1 := HX1.cell 1 (v := .slice Ag n cg) rfl
  have c2 := HX1.cell 2 (v := .slice Ao m co) rfl
  have HO := Lib.hid (own_any w1 N Ag n cg y Ao m co o (H0.out.2.2.2.1.below hb1) (H0.out.2.2.2.2.1.below hb1) H0.out.2.2.2.2.2.1 H0.out.2.2.2.2.2.2.1 H0.out.2.2.2.2.2.2.2.1 H0.out.2.2.2.2.2.2.2.2)
  have H1 := Lib.hid (And.intro HX1 (And.intro (H0.out.1.trans (hb1.mono H0.out.1.size)) (H0.out.2.2.1.below hb1 H0.out.2.2.1.pos)))
  clear hb1 HX1 HW
  go_wp2_with fail
  refine HO.out.mono ?_
  rintro e w2 ⟨g1, k1, g2, k2, rfl, hg1, hg2, hR1, hR2, hb2⟩
  obtain ⟨M, hM⟩ : ∃ M, min n 4200 = M := ⟨_, rfl⟩
  obtain ⟨L, hL⟩ : ∃ L, min m 80 = L := ⟨_, rfl⟩
  rw [hM] at hR1 ⊢
  rw [hL] at hR2 ⊢
  have HX2 := H1.out.1.below hb2 hl1
  have x0 := HX2.cell 0 (v := .int .i64 N) rfl
  have x1 := HX2.cell 1 (v := .slice Ag n cg) rfl
  have x2 := HX2.cell 2 (v := .slice Ao m co) rfl
  have xf := HX2.frozen
  have hbw2 := H1.out.2.1.trans (hb2.mono H1.out.2.1.size)
  have hci : Ci w.heap.size N g1 M k1 g2 L k2 y o (((w2.setCell ⟨w.heap.size, 0, none⟩ (.int .i64 N)).setCell ⟨w.heap.size, 1, none⟩ (.slice (some ⟨g1, 0, none⟩) M k1)).setCell ⟨w.heap.size, 2, none⟩ (.slice (some ⟨g2, 0, none⟩) L k2)) := ci_store _ HX2 rfl (by omega) (by omega) hR1.atv (by have := hR2.atv; rwa [Nat.mul_one] at this)
  have hb3 := ((hbw2.setCell (p := ⟨w.heap.size, 0, none⟩) (Nat.le_refl _) (.int .i64 N)).setCell (p := ⟨w.heap.size, 1, none⟩) (Nat.le_refl _) (.slice (some ⟨g1, 0, none⟩) M k1)).setCell (p := ⟨w.heap.size, 2, none⟩) (Nat.le_refl _) (.slice (some ⟨g2, 0, none⟩) L k2)
  have H3 := Lib.hid (And.intro hci (And.intro hb3 (hh0.below hb3 hh0.pos)))
  have HML := Lib.hid (And.intro hM (And.intro hL (And.intro hR1.le hR2.le)))
  clear HO hR1 hR2 hb2 hM hL HX2 hbw2 hci hb3 H1 hg1 hg2 c0 c1 c2
  go_wp2_with fail
  generalize (((w2.setCell ⟨w.heap.size, 0, none⟩ (.int .i64 N)).setCell ⟨w.heap.size, 1, none⟩ (.slice (some ⟨g1, 0, none⟩) M k1)).setCell ⟨w.heap.size, 2, none⟩ (.slice (some ⟨g2, 0, none⟩) L k2)) = w3 at *
  clear x0 x1 x2 xf
  have HKs := Lib.hid (show M ≤ 4200 ∧ L ≤ 80 by have := HML.out; omega)
  have HG := Lib.hid (show Circ.Good N M y L o by rw [← HML.out.1, ← HML.out.2.1]; exact hG)
  have lM : (3000 : Int) < (M : Int) := by have := HML.out.1; omega
  clear hbig
  clear hG
  refine (check_ok (cg := k1) (co := k2) H3.out.2.2 H3.out.1.g H3.out.1.o (by have := HKs.out.1; unfold maxLen; omega) (by have := HKs.out.2; unfold maxLen; omega) HG.out).mono ?_
  rintro e w4 ⟨rfl, hb4⟩
  obtain ⟨x0, x1, x2⟩ := (H3.out.1.below hb4).cells
  have HF := Lib.hid (H3.out.2.1.trans (hb4.mono H3.out.2.1.size))
  clear hb4
  go_wp2
  go_ret
  exact ⟨rfl, HF.out⟩
set_option maxHeartbeats 8000000 in
set_option maxRecDepth 100000 in
theorem turned_inputs (N : Int) (Ag : Option Addr) (n cg : Nat) (y : Nat → Nat → Int) (Ao : Option Addr) (m co : Nat) (o : Nat → Int) (A : Option Addr) (K c : Nat) (w : World) (hh : Handle w) (hg : AtV w Ag (n * 3) (gv y)) (ho : AtV w Ao m (iv o)) (hn : n ≤ cg) (hm : m ≤ co) (zg : Ag = none → n = 0 ∧ cg = 0) (zo : Ao = none → m = 0 ∧ co = 0) (hG : Circ.Good N (min n 4200) y (min m 80) o) (hbig : 3000 < N) (hsm : min n 4200 ≤ 3000) :
    Calls Tryd.prog 5 #[circV N Ag n cg Ao m co, .slice A K c] w fun e w' => e = .returned (.bool true) ∧ Below w.heap.size w w' := by
  have hh0 := hh
  have HW := Lib.hid (awake_any (w.alloc (.cells #[.int .i64 N, .slice Ag n cg, .slice Ao m co] 25)) (hh.below ((Below.refl _ w).alloc (Nat.le_refl _) _) hh.pos))
  have hb0 := (Below.refl w.heap.size w).alloc (Nat.le_refl _) (.cells #[.int .i64 N, .slice Ag n cg, .slice Ao m co] 25)
  have HX := Blk.new w 25 #[.int .i64 N, .slice Ag n cg, .slice Ao m co]
  have hlt := HX.lt
  have H0 := Lib.hid (And.intro hb0 (And.intro HX (And.intro (hh.below hb0 hh.pos) (And.intro (hg.below hb0) (And.intro (ho.below hb0) (And.intro hn (And.intro hm (And.intro zg zo))))))))
  clear hh hg ho hn hm zg zo hb0 HX
  go_enter Tryd.func5, Tryd.ntmps5
  go_wp2_with fail
  refine HW.out.mono ?_
  rintro e w1 ⟨rfl, hb1⟩
  have HX1 := H0.out.2.1.below hb1 hlt
  have hl1 := HX1.lt
  have c0 := HX1.cell 0 (v := .int .i64 N) rfl
  have c1 := HX1.cell 1 (v := .slice Ag n cg) rfl
  have c2 := HX1.cell 2 (v := .slice Ao m co) rfl
  have HO := Lib.hid (own_any w1 N Ag n cg y Ao m co o (H0.out.2.2.2.1.below hb1) (H0.out.2.2.2.2.1.below hb1) H0.out.2.2.2.2.2.1 H0.out.2.2.2.2.2.2.1 H0.out.2.2.2.2.2.2.2.1 H0.out.2.2.2.2.2.2.2.2)
  have H1 := Lib.hid (And.intro HX1 (And.intro (H0.out.1.trans (hb1.mono H0.out.1.size)) (H0.out.2.2.1.below hb1 H0.out.2.2.1.pos)))
  clear hb1 HX1 HW
  go_wp2_with fail
  refine HO.out.mono ?_
  rintro e w2 ⟨g1, k1, g2, k2, rfl, hg1, hg2, hR1, hR2, hb2⟩
  obtain ⟨M, hM⟩ : ∃ M, min n 4200 = M := ⟨_, rfl⟩
  obtain ⟨L, hL⟩ : ∃ L, min m 80 = L := ⟨_, rfl⟩
  rw [hM] at hR1 ⊢
  rw [hL] at hR2 ⊢
  have HX2 := H1.out.1.below hb2 hl1
  have x0 := HX2.cell 0 (v := .int .i64 N) rfl
  have x1 := HX2.cell 1 (v := .slice Ag n cg) rfl
  have x2 := HX2.cell 2 (v := .slice Ao m co) rfl
  have xf := HX2.frozen
  have hbw2 := H1.out.2.1.trans (hb2.mono H1.out.2.1.size)
  have hci : Ci w.heap.size N g1 M k1 g2 L k2 y o (((w2.setCell ⟨w.heap.size, 0, none⟩ (.int .i64 N)).setCell ⟨w.heap.size, 1, none⟩ (.slice (some ⟨g1, 0, none⟩) M k1)).setCell ⟨w.heap.size, 2, none⟩ (.slice (some ⟨g2, 0, none⟩) L k2)) := ci_store _ HX2 rfl (by omega) (by omega) hR1.atv (by have := hR2.atv; rwa [Nat.mul_one] at this)
  have hb3 := ((hbw2.setCell (p := ⟨w.heap.size, 0, none⟩) (Nat.le_refl _) (.int .i64 N)).setCell (p := ⟨w.heap.size, 1, none⟩) (Nat.le_refl _) (.slice (some ⟨g1, 0, none⟩) M k1)).setCell (p := ⟨w.heap.size, 2, none⟩) (Nat.le_refl _) (.slice (some ⟨g2, 0, none⟩) L k2)
  have H3 := Lib.hid (And.intro hci (And.intro hb3 (hh0.below hb3 hh0.pos)))
  have HML := Lib.hid (And.intro hM (And.intro hL (And.intro hR1.le hR2.le)))
  clear HO hR1 hR2 hb2 hM hL HX2 hbw2 hci hb3 H1 hg1 hg2 c0 c1 c2
  go_wp2_with fail
  generalize (((w2.setCell ⟨w.heap.size, 0, none⟩ (.int .i64 N)).setCell ⟨w.heap.size, 1, none⟩ (.slice (some ⟨g1, 0, none⟩) M k1)).setCell ⟨w.heap.size, 2, none⟩ (.slice (some ⟨g2, 0, none⟩) L k2)) = w3 at *
  clear x0 x1 x2 xf
  have HKs := Lib.hid (show M ≤ 4200 ∧ L ≤ 80 by have := HML.out; omega)
  have HG := Lib.hid (show Circ.Good N M y L o by rw [← HML.out.1, ← HML.out.2.1]; exact hG)
  have lM : ¬ (3000 : Int) < (M : Int) := by have := HML.out.1; omega
  have lMd : decide ((3000 : Int) < (M : Int)) = false := decide_eq_false lM
  clear hsm
  clear hG
  refine (check_ok (cg := k1) (co := k2) H3.out.2.2 H3.out.1.g H3.out.1.o (by have := HKs.out.1; unfold maxLen; omega) (by have := HKs.out.2; unfold maxLen; omega) HG.out).mono ?_
  rintro e w4 ⟨rfl, hb4⟩
  obtain ⟨x0, x1, x2⟩ := (H3.out.1.below hb4).cells
  have HF := Lib.hid (H3.out.2.1.trans (hb4.mono H3.out.2.1.size))
  clear hb4
  go_wp2
  go_ret
  exact ⟨rfl, HF.out⟩
end Go.Proofs.YtoldgiejblekaaaDoorR
