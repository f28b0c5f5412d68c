/- Contracts of the law's Own and Gates. -/
import Derived.Test.YtoldgiejblekaaaDoorRCC4
import Derived.Test.YtoldgiejblekaaaDoorRCV2
namespace Go.Proofs.YtoldgiejblekaaaDoorR
open Go.RowKit

set_option maxHeartbeats 4000000 in
set_option maxRecDepth 100000 in
theorem own_any (w : World) (N : Int) (Ag : Option Addr) (n cg : Nat) (y : Nat → Nat → Int) (Ao : Option Addr) (m co : Nat) (o : Nat → Int) (hg : AtV w Ag (n * 3) (gv y)) (ho : AtV w Ao m (iv o)) (hn : n ≤ cg) (hm : m ≤ co) (zg : Ag = none → n = 0 ∧ cg = 0) (zo : Ao = none → m = 0 ∧ co = 0) :
    Calls Tryd.prog 7 #[circV N Ag n cg Ao m co] w fun e w' => ∃ g1 k1 g2 k2, e = .returned (circV N (some ⟨g1, 0, none⟩) (min n 4200) k1 (some ⟨g2, 0, none⟩) (min m 80) k2) ∧ w.heap.size ≤ g1 ∧ w.heap.size ≤ g2 ∧ Row w' w.heap.size 41 3 (.slice (some ⟨g1, 0, none⟩) (min n 4200) k1) (min n 4200) (gv y) ∧ Row w' w.heap.size 3 1 (.slice (some ⟨g2, 0, none⟩) (min m 80) k2) (min m 80) (iv o) ∧ Below w.heap.size w w' := by
  obtain ⟨M, hM⟩ : ∃ M, min n 4200 = M := ⟨_, rfl⟩
  obtain ⟨L, hL⟩ : ∃ L, min m 80 = L := ⟨_, rfl⟩
  have m1 : (if (4200 : Int) < (n : Int) then (4200 : Int) else (n : Int)) = (M : Int) := by split <;> omega
  have m2 : (if 4200 < n then (4200 : Int) else (n : Int)) = (M : Int) := by split <;> omega
  have l1 : (if (80 : Int) < (m : Int) then (80 : Int) else (m : Int)) = (L : Int) := by split <;> omega
  have l2 : (if 80 < m then (80 : Int) else (m : Int)) = (L : Int) := by split <;> omega
  have HM := Lib.hid (show M ≤ n ∧ M ≤ 4200 ∧ L ≤ m ∧ L ≤ 80 by omega)
  have s1 := fun wx => run_head_row eltG wx Ag n cg M (by have := HM.out; omega)
  have s2 := fun wx => run_head_row eltI wx Ao m co L (by have := HM.out; omega)
  rw [hM, hL]
  clear hM hL
  have b2 : Below w.heap.size w ((w.alloc (.cells #[.int .i64 N, .slice Ag n cg, .slice Ao m co] 25)).alloc (.cells #[.int .i64 0, .slice none 0 0, .slice none 0 0] 25)) := ((Below.refl _ w).alloc (Nat.le_refl _) _).alloc (by simp) _
  have X2 : circB ((w.alloc (.cells #[.int .i64 N, .slice Ag n cg, .slice Ao m co] 25)).alloc (.cells #[.int .i64 0, .slice none 0 0, .slice none 0 0] 25)) w.heap.size N Ag n cg Ao m co := (Blk.new w _ _).alloc _
  have Z2 : circB ((w.alloc (.cells #[.int .i64 N, .slice Ag n cg, .slice Ao m co] 25)).alloc (.cells #[.int .i64 0, .slice none 0 0, .slice none 0 0] 25)) (w.heap.size + 1) 0 none 0 0 none 0 0 := by
    have := Blk.new (w.alloc (.cells #[.int .i64 N, .slice Ag n cg, .slice Ao m co] 25)) 25 #[.int .i64 0, .slice none 0 0, .slice none 0 0]
    rwa [World.size_alloc] at this
  have hs2 : ((w.alloc (.cells #[.int .i64 N, .slice Ag n cg, .slice Ao m co] 25)).alloc (.cells #[.int .i64 0, .slice none 0 0, .slice none 0 0] 25)).heap.size = w.heap.size + 1 + 1 := by simp
  have hgo := AtV.lt hg
  obtain ⟨g1, k1, w4, r1, hg1, hl1, hk1, hR1, hb4⟩ := append_empty eltG _ Ag M cg (gv y) ((hg.below b2).less (Nat.mul_le_mul_right 3 HM.out.1)) (fun h => by have := zg h; exact ⟨by have := HM.out; omega, this.2⟩) (gv_one y) (by have := HM.out; unfold maxLen; omega) (by have := HM.out; omega)
  rw [hs2] at r1 hg1 hR1 hb4
  have X4 := X2.below hb4 (by omega)
  have Z4 := Z2.below hb4 (by omega)
  have b4 : Below w.heap.size w w4 := b2.trans (hb4.mono (by omega))
  have X5 := X4.set 1 (.slice (some ⟨g1, 0, none⟩) M k1)
  have Z5 := Z4.far (p := ⟨w.heap.size, 1, none⟩) (by show w.heap.size + 1 ≠ w.heap.size; omega) (.slice (some ⟨g1, 0, none⟩) M k1)
  have b5 := b4.setCell (p := ⟨w.heap.size, 1, none⟩) (Nat.le_refl _) (.slice (some ⟨g1, 0, none⟩) M k1)
  have R5 : Row (w4.setCell ⟨w.heap.size, 1, none⟩ (.slice (some ⟨g1, 0, none⟩) M k1)) (w.heap.size + 1 + 1) 41 3 (.slice (some ⟨g1, 0, none⟩) M k1) M (gv y) := hR1.chg ((Chg.refl (fun q => q = w.heap.size) w4).set (p := ⟨w.heap.size, 1, none⟩) (.inr rfl) _) (fun g h => by
    have : some g1 = some g := h
    injection this with this
    omega)
  have hs5 : (w4.setCell ⟨w.heap.size, 1, none⟩ (.slice (some ⟨g1, 0, none⟩) M k1)).heap.size = w4.heap.size := by simp [World.setCell]
  obtain ⟨g2, k2, w6, r2, hg2, hl2, hk2, hR2, hb6⟩ := append_empty eltI (w4.setCell ⟨w.heap.size, 1, none⟩ (.slice (some ⟨g1, 0, none⟩) M k1)) Ao L co (iv o) (by rw [Nat.mul_one]; exact (ho.belowB b5 (AtV.lt ho)).less HM.out.2.2.1) (fun h => by have := zo h; exact ⟨by have := HM.out; omega, this.2⟩) (iv_one o) (by have := HM.out; unfold maxLen; omega) (by have := HM.out; omega)
  rw [hs5] at r2 hg2 hR2 hb6
  have hw4 : w.heap.size + 1 + 1 ≤ w4.heap.size := by omega
  have X6 := X5.below hb6 (by omega)
  have Z6 := Z5.below hb6 (by omega)
  have R6 : Row w6 (w.heap.size + 1 + 1) 41 3 (.slice (some ⟨g1, 0, none⟩) M k1) M (gv y) := R5.below (by rw [hs5]; exact hb6)
  have b6 := b5.trans (hb6.mono (by omega))
  have x40 := X4.cell 0 rfl
  have x41 := X4.cell 1 rfl
  have x42 := X4.cell 2 rfl
  have x4f := X4.frozen
  have x6f := X6.frozen
  have x62 := X6.cell 2 (v := .slice Ao m co) rfl
  have x51 := X5.cell 2 rfl
  have x5a := (X5.alloc (.cells #[] 3)).cell 2 rfl
  have c1 := X2.cell 1 rfl
  have HR1 := Lib.hid r1
  have HR2 := Lib.hid r2
  have X7 := X6.set 2 (.slice (some ⟨g2, 0, none⟩) L k2)
  have Z7 := Z6.far (p := ⟨w.heap.size, 2, none⟩) (by show w.heap.size + 1 ≠ w.heap.size; omega) (.slice (some ⟨g2, 0, none⟩) L k2)
  have b7 := b6.setCell (p := ⟨w.heap.size, 2, none⟩) (Nat.le_refl _) (.slice (some ⟨g2, 0, none⟩) L k2)
  have c7 := ((Chg.refl (fun q => q = w.heap.size ∨ q = w.heap.size + 1) w6).set (p := ⟨w.heap.size, 2, none⟩) (.inr (.inl rfl)) (.slice (some ⟨g2, 0, none⟩) L k2))
  have x70 := X7.cell 0 (v := .int .i64 N) rfl
  have x71 := X7.cell 1 (v := .slice (some ⟨g1, 0, none⟩) M k1) rfl
  have x72 := X7.cell 2 (v := .slice (some ⟨g2, 0, none⟩) L k2) rfl
  have z7f := Z7.frozen
  have z70 := Z7.cell 0 (v := .int .i64 0) rfl
  have z71 := Z7.cell 1 (v := .slice none 0 0) rfl
  have z72 := Z7.cell 2 (v := .slice none 0 0) rfl
  have HF := Lib.hid (And.intro Z7 (And.intro R6 (And.intro hR2 (And.intro b7 c7))))
  have HG := Lib.hid (And.intro hg1 (And.intro hg2 hw4))
  clear X7 Z7 b7 c7 b2 X2 Z2 hs2 hgo r1 hR1 hb4 hk1 hl1 X4 Z4 b4 X5 Z5 b5 R5 hs5 r2 hg2 hl2 hk2 hR2 hb6 X6 Z6 R6 b6 hg ho hn hm zg zo hg1 hw4
  go_enter Tryd.func7, Tryd.ntmps7
  go_wp2_with (first
    | (at_builtin; refine wpList_append_run rfl _ _ 22 rfl (.slice (some ⟨w.heap.size + 1 + 1, 0, none⟩) 0 0) (.slice Ag M cg) (.slice (some ⟨g1, 0, none⟩) M k1) w4 rfl rfl (HR1.out _) ?_)
    | (at_builtin; refine wpList_append_run rfl _ _ 23 rfl (.slice (some ⟨w4.heap.size, 0, none⟩) 0 0) (.slice Ao L co) (.slice (some ⟨g2, 0, none⟩) L k2) w6 rfl rfl (HR2.out _) ?_))
  have Z8 := ((HF.out.1.set 0 (.int .i64 N)).set 1 (.slice (some ⟨g1, 0, none⟩) M k1)).set 2 (.slice (some ⟨g2, 0, none⟩) L k2)
  have p0 := Z8.cell 0 rfl
  have p1 := Z8.cell 1 rfl
  have p2 := Z8.cell 2 rfl
  have c8 := ((HF.out.2.2.2.2.set (p := ⟨w.heap.size + 1, 0, none⟩) (.inr (.inr rfl)) (.int .i64 N)).set (p := ⟨w.heap.size + 1, 1, none⟩) (.inr (.inr rfl)) (.slice (some ⟨g1, 0, none⟩) M k1)).set (p := ⟨w.heap.size + 1, 2, none⟩) (.inr (.inr rfl)) (.slice (some ⟨g2, 0, none⟩) L k2)
  have b8 := ((HF.out.2.2.2.1.setCell (p := ⟨w.heap.size + 1, 0, none⟩) (by show w.heap.size ≤ w.heap.size + 1; omega) (.int .i64 N)).setCell (p := ⟨w.heap.size + 1, 1, none⟩) (by show w.heap.size ≤ w.heap.size + 1; omega) (.slice (some ⟨g1, 0, none⟩) M k1)).setCell (p := ⟨w.heap.size + 1, 2, none⟩) (by show w.heap.size ≤ w.heap.size + 1; omega) (.slice (some ⟨g2, 0, none⟩) L k2)
  have hg := HG.out
  refine bodyPost_ret (v := circV N (some ⟨g1, 0, none⟩) M k1 (some ⟨g2, 0, none⟩) L k2) (by simp [results, Tryd.results7, go_sem, p0, p1, p2]) rfl ⟨g1, k1, g2, k2, rfl, by omega, by omega, (HF.out.2.1.mono (base' := w.heap.size) ?_).chg c8 ?_, (HF.out.2.2.1.mono (base' := w.heap.size) ?_).chg c8 ?_, b8⟩
  · intro g h
    obtain rfl : g1 = g := Option.some.inj h
    omega
  · intro g h e
    obtain rfl : g1 = g := Option.some.inj h
    omega
  · intro g h
    obtain rfl : g2 = g := Option.some.inj h
    omega
  · intro g h e
    obtain rfl : g2 = g := Option.some.inj h
    omega
end Go.Proofs.YtoldgiejblekaaaDoorR
