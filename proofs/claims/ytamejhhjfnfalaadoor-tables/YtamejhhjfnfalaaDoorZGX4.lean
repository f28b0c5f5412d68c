/- GarbleTables' walk. -/
import Derived.Test.YtamejhhjfnfalaaDoorZGX0
import Derived.Test.YtamejhhjfnfalaaDoorZGA12
namespace Go.Proofs.YtamejhhjfnfalaaDoor
open Go.RowKit

/-- The list that the law passes. -/
def inM (nz : Nat) (zin : Nat → Lab) (i : Nat) : Lab := if i < nz then zin i else (7, 7)

set_option maxHeartbeats 16000000 in
set_option maxRecDepth 100000 in
theorem tables_big (N : Int) (Ag : Option Addr) (n cg : Nat) (y : Nat → Nat → Int) (Ao : Option Addr) (m co : Nat) (o : Nat → Int) (dl : Lab) (Az : Option Addr) (nz cz first : Nat) (zin : Nat → Lab) (w : World) (hh : Handle w) (hg : AtV w Ag (n * 3) (gv y)) (ho : AtV w Ao m (iv o)) (hn : n ≤ cg) (hm : m ≤ co) (zg : Ag = none → n = 0 ∧ cg = 0) (zo : Ao = none → m = 0 ∧ co = 0) (hdl : Garb.Wd dl) (hfi : first < 18446744073709551616) (hz : AtV w Az (nz * 2) (lv zin)) (hzw : ∀ i, Garb.Wd (zin i)) (hz0 : Az = none → nz = 0 ∧ cz = 0) (hnz : nz ≤ cz) (_ : (nz + 1) * 16 ≤ 140737488355328) (hsm : (decide (n ≤ 60) && decide (N ≤ 200)) = false) :
    Calls Tryd.prog 3 #[circV N Ag n cg Ao m co, keysV dl Az nz cz first] w fun e w' => e = .returned (.bool true) ∧ Below w.heap.size w w' := by
  have X0 := Blk.new w 25 #[.int .i64 N, .slice Ag n cg, .slice Ao m co]
  have b0 := (Below.refl w.heap.size w).alloc (Nat.le_refl _) (.cells #[.int .i64 N, .slice Ag n cg, .slice Ao m co] 25)
  have X1 := Blk.new (w.alloc (.cells #[.int .i64 N, .slice Ag n cg, .slice Ao m co] 25)) 31 #[.int .u64 (dl.1 : Int), .int .u64 (dl.2 : Int), .slice Az nz cz, .int .u64 (first : Int)]
  have b1 := b0.alloc b0.size (.cells #[.int .u64 (dl.1 : Int), .int .u64 (dl.2 : Int), .slice Az nz cz, .int .u64 (first : Int)] 31)
  have Y0 := X0.alloc (.cells #[.int .u64 (dl.1 : Int), .int .u64 (dl.2 : Int), .slice Az nz cz, .int .u64 (first : Int)] 31)
  simp only [World.size_alloc] at X1
  have HAw := Lib.hid (awake_any ((w.alloc (.cells #[.int .i64 N, .slice Ag n cg, .slice Ao m co] 25)).alloc (.cells #[.int .u64 (dl.1 : Int), .int .u64 (dl.2 : Int), .slice Az nz cz, .int .u64 (first : Int)] 31)) (hh.belowS b1))
  have H1 := Lib.hid (show Below w.heap.size w ((w.alloc (.cells #[.int .i64 N, .slice Ag n cg, .slice Ao m co] 25)).alloc (.cells #[.int .u64 (dl.1 : Int), .int .u64 (dl.2 : Int), .slice Az nz cz, .int .u64 (first : Int)] 31)) ∧ circB ((w.alloc (.cells #[.int .i64 N, .slice Ag n cg, .slice Ao m co] 25)).alloc (.cells #[.int .u64 (dl.1 : Int), .int .u64 (dl.2 : Int), .slice Az nz cz, .int .u64 (first : Int)] 31)) w.heap.size N Ag n cg Ao m co ∧ KyB ((w.alloc (.cells #[.int .i64 N, .slice Ag n cg, .slice Ao m co] 25)).alloc (.cells #[.int .u64 (dl.1 : Int), .int .u64 (dl.2 : Int), .slice Az nz cz, .int .u64 (first : Int)] 31)) (w.heap.size + 1) dl Az nz cz first ∧ Handle ((w.alloc (.cells #[.int .i64 N, .slice Ag n cg, .slice Ao m co] 25)).alloc (.cells #[.int .u64 (dl.1 : Int), .int .u64 (dl.2 : Int), .slice Az nz cz, .int .u64 (first : Int)] 31)) from ⟨b1, Y0, X1, hh.belowS b1⟩)
  have HA := Lib.hid (And.intro hg (And.intro ho (And.intro hn (And.intro hm (And.intro zg (And.intro zo (And.intro hz (And.intro hz0 hnz))))))))
  have HH0 := Lib.hid hh
  have HD := Lib.hid (And.intro hdl (And.intro hfi hzw))
  clear X0 X1 b0 b1 Y0 hh hg ho hn hm zg zo hz hz0 hnz hdl hfi hzw
  go_enter Tryd.func3, Tryd.ntmps3
  go_wp2_with fail
  refine HAw.out.mono ?_
  rintro e w2 ⟨rfl, hb2⟩
  have h0 := H1.out
  have H2 := Lib.hid (show Below w.heap.size w w2 ∧ circB w2 w.heap.size N Ag n cg Ao m co ∧ KyB w2 (w.heap.size + 1) dl Az nz cz first ∧ Handle w2 from ⟨h0.1.trans (hb2.mono h0.1.size), h0.2.1.below hb2 h0.2.1.lt, h0.2.2.1.below hb2 h0.2.2.1.lt, h0.2.2.2.belowS hb2⟩)
  clear H1 h0 hb2 HAw
  have c0 := H2.out.2.1.cell 0 (v := .int .i64 N) rfl
  have c1 := H2.out.2.1.cell 1 (v := .slice Ag n cg) rfl
  have c2 := H2.out.2.1.cell 2 (v := .slice Ao m co) rfl
  have HSm := Lib.hid (small_any w2 N Ag n cg Ao m co)

  rw [hsm] at HSm
  go_wp2_with fail
  refine HSm.out.mono ?_
  rintro e w3 ⟨rfl, hb3⟩
  have h0 := H2.out
  have HAw := Lib.hid (awake_any w3 (h0.2.2.2.belowS hb3))
  have HB := Lib.hid (h0.1.trans (hb3.mono h0.1.size))
  clear h0 hb3 H2 c0 c1 c2 hsm
  go_wp2_with fail
  refine HAw.out.mono ?_
  rintro e w4 ⟨rfl, hb4⟩
  have HF := Lib.hid (HB.out.trans (hb4.mono HB.out.size))
  clear hb4
  go_wp2
  go_ret
  exact ⟨rfl, HF.out⟩

set_option maxHeartbeats 16000000 in
set_option maxRecDepth 100000 in
theorem tables_bad (N : Int) (Ag : Option Addr) (n cg : Nat) (y : Nat → Nat → Int) (Ao : Option Addr) (m co : Nat) (o : Nat → Int) (dl : Lab) (Az : Option Addr) (nz cz first : Nat) (zin : Nat → Lab) (w : World) (hh : Handle w) (hg : AtV w Ag (n * 3) (gv y)) (ho : AtV w Ao m (iv o)) (hn : n ≤ cg) (hm : m ≤ co) (zg : Ag = none → n = 0 ∧ cg = 0) (zo : Ao = none → m = 0 ∧ co = 0) (hdl : Garb.Wd dl) (hfi : first < 18446744073709551616) (hz : AtV w Az (nz * 2) (lv zin)) (hzw : ∀ i, Garb.Wd (zin i)) (hz0 : Az = none → nz = 0 ∧ cz = 0) (hnz : nz ≤ cz) (hfit : (nz + 1) * 16 ≤ 140737488355328) (hsm : (decide (n ≤ 60) && decide (N ≤ 200)) = true) (hG : ¬ Circ.Good N n y (min m 80) o) :
    Calls Tryd.prog 3 #[circV N Ag n cg Ao m co, keysV dl Az nz cz first] w fun e w' => e = .returned (.bool true) ∧ Below w.heap.size w w' := by
  have X0 := Blk.new w 25 #[.int .i64 N, .slice Ag n cg, .slice Ao m co]
  have b0 := (Below.refl w.heap.size w).alloc (Nat.le_refl _) (.cells #[.int .i64 N, .slice Ag n cg, .slice Ao m co] 25)
  have X1 := Blk.new (w.alloc (.cells #[.int .i64 N, .slice Ag n cg, .slice Ao m co] 25)) 31 #[.int .u64 (dl.1 : Int), .int .u64 (dl.2 : Int), .slice Az nz cz, .int .u64 (first : Int)]
  have b1 := b0.alloc b0.size (.cells #[.int .u64 (dl.1 : Int), .int .u64 (dl.2 : Int), .slice Az nz cz, .int .u64 (first : Int)] 31)
  have Y0 := X0.alloc (.cells #[.int .u64 (dl.1 : Int), .int .u64 (dl.2 : Int), .slice Az nz cz, .int .u64 (first : Int)] 31)
  simp only [World.size_alloc] at X1
  have HAw := Lib.hid (awake_any ((w.alloc (.cells #[.int .i64 N, .slice Ag n cg, .slice Ao m co] 25)).alloc (.cells #[.int .u64 (dl.1 : Int), .int .u64 (dl.2 : Int), .slice Az nz cz, .int .u64 (first : Int)] 31)) (hh.belowS b1))
  have H1 := Lib.hid (show Below w.heap.size w ((w.alloc (.cells #[.int .i64 N, .slice Ag n cg, .slice Ao m co] 25)).alloc (.cells #[.int .u64 (dl.1 : Int), .int .u64 (dl.2 : Int), .slice Az nz cz, .int .u64 (first : Int)] 31)) ∧ circB ((w.alloc (.cells #[.int .i64 N, .slice Ag n cg, .slice Ao m co] 25)).alloc (.cells #[.int .u64 (dl.1 : Int), .int .u64 (dl.2 : Int), .slice Az nz cz, .int .u64 (first : Int)] 31)) w.heap.size N Ag n cg Ao m co ∧ KyB ((w.alloc (.cells #[.int .i64 N, .slice Ag n cg, .slice Ao m co] 25)).alloc (.cells #[.int .u64 (dl.1 : Int), .int .u64 (dl.2 : Int), .slice Az nz cz, .int .u64 (first : Int)] 31)) (w.heap.size + 1) dl Az nz cz first ∧ Handle ((w.alloc (.cells #[.int .i64 N, .slice Ag n cg, .slice Ao m co] 25)).alloc (.cells #[.int .u64 (dl.1 : Int), .int .u64 (dl.2 : Int), .slice Az nz cz, .int .u64 (first : Int)] 31)) from ⟨b1, Y0, X1, hh.belowS b1⟩)
  have HA := Lib.hid (And.intro hg (And.intro ho (And.intro hn (And.intro hm (And.intro zg (And.intro zo (And.intro hz (And.intro hz0 hnz))))))))
  have HH0 := Lib.hid hh
  have HD := Lib.hid (And.intro hdl (And.intro hfi hzw))
  have HFt := Lib.hid hfit
  clear X0 X1 b0 b1 Y0 hh hg ho hn hm zg zo hz hz0 hnz hdl hfi hzw hfit
  go_enter Tryd.func3, Tryd.ntmps3
  go_wp2_with fail
  refine HAw.out.mono ?_
  rintro e w2 ⟨rfl, hb2⟩
  have h0 := H1.out
  have H2 := Lib.hid (show Below w.heap.size w w2 ∧ circB w2 w.heap.size N Ag n cg Ao m co ∧ KyB w2 (w.heap.size + 1) dl Az nz cz first ∧ Handle w2 from ⟨h0.1.trans (hb2.mono h0.1.size), h0.2.1.below hb2 h0.2.1.lt, h0.2.2.1.below hb2 h0.2.2.1.lt, h0.2.2.2.belowS hb2⟩)
  clear H1 h0 hb2 HAw
  have c0 := H2.out.2.1.cell 0 (v := .int .i64 N) rfl
  have c1 := H2.out.2.1.cell 1 (v := .slice Ag n cg) rfl
  have c2 := H2.out.2.1.cell 2 (v := .slice Ao m co) rfl
  have HSm := Lib.hid (small_any w2 N Ag n cg Ao m co)
  have hnn : n ≤ 60 ∧ N ≤ 200 := by simpa using hsm
  rw [hsm] at HSm
  have HM0 := Lib.hid hnn
  clear hsm hnn
  go_wp2_with fail
  refine HSm.out.mono ?_
  rintro e w3 ⟨rfl, hb3⟩
  have h0 := H2.out
  have H3 := Lib.hid (show Below w.heap.size w w3 ∧ circB w3 w.heap.size N Ag n cg Ao m co ∧ KyB w3 (w.heap.size + 1) dl Az nz cz first ∧ Handle w3 from ⟨h0.1.trans (hb3.mono h0.1.size), h0.2.1.below hb3 h0.2.1.lt, h0.2.2.1.below hb3 h0.2.2.1.lt, h0.2.2.2.belowS hb3⟩)
  clear H2 h0 hb3 HSm c0 c1 c2
  have c0 := H3.out.2.1.cell 0 (v := .int .i64 N) rfl
  have c1 := H3.out.2.1.cell 1 (v := .slice Ag n cg) rfl
  have c2 := H3.out.2.1.cell 2 (v := .slice Ao m co) rfl
  have HO := Lib.hid (own_any w3 N Ag n cg y Ao m co o (HA.out.1.below H3.out.1) (HA.out.2.1.below H3.out.1) HA.out.2.2.1 HA.out.2.2.2.1 HA.out.2.2.2.2.1 HA.out.2.2.2.2.2.1)
  go_wp2_with fail
  refine HO.out.mono ?_
  rintro e w4 ⟨g1, k1, g2, k2, rfl, hg1, hg2, hR1, hR2, hb4⟩
  obtain ⟨L, hL⟩ : ∃ L, min m 80 = L := ⟨_, rfl⟩
  rw [show min n 4200 = n by have := HM0.out; omega] at hR1 ⊢
  rw [hL] at hR2 ⊢
  clear c0 c1 c2 HO
  have h0 := H3.out
  have hsz3 := h0.2.2.1.lt
  have X4 := h0.2.1.below hb4 h0.2.1.lt
  have x0 := X4.cell 0 (v := .int .i64 N) rfl
  have x1 := X4.cell 1 (v := .slice Ag n cg) rfl
  have x2 := X4.cell 2 (v := .slice Ao m co) rfl
  have xf := X4.frozen
  have hci : Ci w.heap.size N g1 n k1 g2 L k2 y o (((w4.setCell ⟨w.heap.size, 0, none⟩ (.int .i64 N)).setCell ⟨w.heap.size, 1, none⟩ (.slice (some ⟨g1, 0, none⟩) n k1)).setCell ⟨w.heap.size, 2, none⟩ (.slice (some ⟨g2, 0, none⟩) L k2)) := ci_store _ X4 rfl (by omega) (by omega) hR1.atv (by have := hR2.atv; rwa [Nat.mul_one] at this)
  have hcs := (((Chg.refl (fun q => q = w.heap.size) w4).set (p := ⟨w.heap.size, 0, none⟩) (.inr rfl) (.int .i64 N)).set (p := ⟨w.heap.size, 1, none⟩) (.inr rfl) (.slice (some ⟨g1, 0, none⟩) n k1)).set (p := ⟨w.heap.size, 2, none⟩) (.inr rfl) (.slice (some ⟨g2, 0, none⟩) L k2)
  have hbw := (h0.1.trans (hb4.mono h0.1.size)).trans (hcs.below (by have := h0.1.size; have := hb4.size; omega) (fun q e => by omega))
  have hk5 := (h0.2.2.1.below hb4 h0.2.2.1.lt).chg hcs (by omega)
  have hR5 := hR1.chg hcs (fun q hq e => by
    obtain rfl : g1 = q := Option.some.inj hq
    omega)
  have H5 := Lib.hid (show Lw w N g1 n k1 g2 L k2 y o dl Az nz cz first _ from ⟨hci, hk5, hR5.mono (fun q hq => by
    obtain rfl : g1 = q := Option.some.inj hq
    have := h0.1.size
    omega), (hR2.chg hcs (fun q hq e => by
    obtain rfl : g2 = q := Option.some.inj hq
    omega)).mono (fun q hq => by
    obtain rfl : g2 = q := Option.some.inj hq
    have := h0.1.size
    omega), HH0.out.belowS hbw, hbw⟩)
  have HG := Lib.hid (show ¬ Circ.Good N n y L o by rw [← hL]; exact hG)
  clear hG
  have HM := Lib.hid (show n ≤ 60 ∧ N ≤ 200 ∧ L ≤ 80 ∧ n ≤ k1 ∧ L ≤ k2 ∧ w.heap.size + 1 < g1 from ⟨HM0.out.1, HM0.out.2, by omega, hR1.le, hR2.le, by omega⟩)
  clear hg1 hg2 hR1 hR2 hb4 hL h0 hsz3 X4 hci hcs hbw hk5 hR5 H3 HM0
  go_upto_region 4 with fail
  clear x0 x1 x2 xf
  generalize (((w4.setCell ⟨w.heap.size, 0, none⟩ (.int .i64 N)).setCell ⟨w.heap.size, 1, none⟩ (.slice (some ⟨g1, 0, none⟩) n k1)).setCell ⟨w.heap.size, 2, none⟩ (.slice (some ⟨g2, 0, none⟩) L k2)) = w5 at *
  have r2 := (H5.out.k.below ((Below.refl w5.heap.size w5).alloc (Nat.le_refl _) (.cells #[] 28)) H5.out.k.lt).cell 2 (v := .slice Az nz cz) rfl
  obtain ⟨gj, kj, w6, hr1, hgj, hgj6, hkj, hR6, hb6⟩ := append_empty eltL w5 Az nz cz (lv zin) (HA.out.2.2.2.2.2.2.1.below H5.out.b) HA.out.2.2.2.2.2.2.2.1 (lv_one zin) (by have := HFt.out; unfold maxLen; omega) (by have := HFt.out; omega)
  obtain ⟨gi, ki, w7, hr2, hgi, hR7, hgr, hor⟩ := append_one eltL w6 w5.heap.size _ nz (lv zin) (lv fun _ => (7, 7)) #[.int .u64 7, .int .u64 7] hR6 (fun j hj => by
    rcases (show j = 0 ∨ j = 1 by omega) with rfl | rfl <;> rfl) (lv_one _) (by have := HFt.out; omega) (by have := HFt.out; unfold maxLen; omega) hb6.size
  have hown := hR6.own
  have hb7 : Below w5.heap.size w5 w7 := (hb6.alloc hb6.size (.cells #[.int .u64 7, .int .u64 7] 28)).grown hgr (by simp; omega) (fun q hq => (hown q hq).1)
  have hRm := hR7.congr (G := lv (inM nz zin)) (lv_next (M := inM nz zin) (fun i hi => by unfold inM; rw [if_pos hi]) (by unfold inM; rw [if_neg (by omega)]))
  have hki := hRm.le
  have hRa := hRm.atv
  have hIn : AtV w7 (some ⟨gi, 0, none⟩) (nz * 2) (lv zin) := fun i hi => by
    obtain ⟨ad, e, hc⟩ := hRa i (by omega)
    refine ⟨ad, e, ?_⟩
    rw [hc, lv_congr (L := inM nz zin) (M := zin) (n := nz) (fun i hi => by unfold inM; rw [if_pos hi]) i hi]
  obtain ⟨_, e9, ae, hae, s0, s1, -⟩ := hRa.lab nz (by omega)
  cases e9
  rw [Addr.add_mid, Nat.zero_add] at hae
  subst hae
  unfold inM at s0 s1
  rw [if_neg (by omega)] at s0 s1
  have H7 := Lib.hid (show Lw w N g1 n k1 g2 L k2 y o dl Az nz cz first w7 ∧ AtV w7 (some ⟨gi, 0, none⟩) (nz * 2) (lv zin) ∧ AtV w7 Az (nz * 2) (lv zin) ∧ w7.cell? ⟨gi, nz * 2, none⟩ = some (.int .u64 7) ∧ w7.cell? ⟨gi, nz * 2 + 1, none⟩ = some (.int .u64 7) ∧ nz + 1 ≤ ki from ⟨H5.out.below hb7, hIn, HA.out.2.2.2.2.2.2.1.below (H5.out.b.trans (hb7.mono H5.out.b.size)), s0, s1, hki⟩)
  have HR1 := Lib.hid hr1
  have HR2 := Lib.hid hr2
  clear hr1 hgj hgj6 hkj hR6 hb6 hr2 hgi hR7 hgr hor hown hb7 hRm hki hRa hIn s0 s1 H5
  go_wp2_with (at_builtin; first | refine wpList_append_run rfl _ _ 29 rfl (.slice (some ⟨w5.heap.size, 0, none⟩) 0 0) (.slice Az nz cz) (.slice (some ⟨gj, 0, none⟩) nz kj) w6 rfl rfl (HR1.out _) ?_ | refine wpList_append_run rfl _ _ 29 rfl (.slice (some ⟨gj, 0, none⟩) nz kj) (.slice (some ⟨w6.heap.size, 0, none⟩) 1 1) (.slice (some ⟨gi, 0, none⟩) (nz + 1) ki) w7 rfl rfl (HR2.out _) ?_)
  clear HR1 HR2 r2

  refine wp_region_held_drew (S := fun w' => Below w7.heap.size w7 w') (by kernel_rfl) (drew_below w7) (fun hS => ?_)
  refine htg (i := 0) rfl (circV N (some ⟨g1, 0, none⟩) n k1 (some ⟨g2, 0, none⟩) L k2) (by kernel_rfl) (by kernel_rfl) (by kernel_rfl) (fun _ _ _ h => h) (by rfl) hS (fun w' hw' => by have hc := (H7.out.1.below hw').c.c; have q0 := hc.cell 0 (v := .int .i64 N) rfl; have q1 := hc.cell 1 (v := .slice (some ⟨g1, 0, none⟩) n k1) rfl; have q2 := hc.cell 2 (v := .slice (some ⟨g2, 0, none⟩) L k2) rfl; clear hc; go_simp) ?_
  try simp only [Act.put, List.setIfInBounds_toArray, List.set_cons_zero, List.set_cons_succ]
  refine htg (i := 1) rfl (.pointer (some ⟨w.heap.size + 1, 0, none⟩)) (by kernel_rfl) (by kernel_rfl) (by kernel_rfl) (fun _ _ _ h => h) (by rfl) hS (fun w' hw' => by go_simp) ?_
  try simp only [Act.put, List.setIfInBounds_toArray, List.set_cons_zero, List.set_cons_succ]
  refine htg (i := 2) rfl (labL dl) (by kernel_rfl) (by kernel_rfl) (by kernel_rfl) (fun _ _ _ h => h) (by rfl) hS (fun w' hw' => by have hk := (H7.out.1.below hw').k; have q0 := hk.cell 0 (v := .int .u64 (dl.1 : Int)) rfl; have q1 := hk.cell 1 (v := .int .u64 (dl.2 : Int)) rfl; clear hk; go_simp) ?_
  try simp only [Act.put, List.setIfInBounds_toArray, List.set_cons_zero, List.set_cons_succ]
  refine htg (i := 3) rfl (.slice (some ⟨gi, 0, none⟩) (nz + 1) ki) (by kernel_rfl) (by kernel_rfl) (by kernel_rfl) (fun _ _ _ h => h) (by rfl) hS (fun w' hw' => by go_simp) ?_
  try simp only [Act.put, List.setIfInBounds_toArray, List.set_cons_zero, List.set_cons_succ]
  refine htg (i := 4) rfl (.pointer (some ⟨w.heap.size + 1, 2, none⟩)) (by kernel_rfl) (by kernel_rfl) (by kernel_rfl) (fun _ _ _ h => h) (by rfl) hS (fun w' hw' => by go_simp) ?_
  try simp only [Act.put, List.setIfInBounds_toArray, List.set_cons_zero, List.set_cons_succ]
  refine htg (i := 5) rfl (.slice Az nz cz) (by kernel_rfl) (by kernel_rfl) (by kernel_rfl) (fun _ _ _ h => h) (by rfl) hS (fun w' hw' => by have hk := (H7.out.1.below hw').k; have q0 := hk.cell 2 (v := .slice Az nz cz) rfl; clear hk; go_simp) ?_
  try simp only [Act.put, List.setIfInBounds_toArray, List.set_cons_zero, List.set_cons_succ]
  refine htg (i := 6) rfl (.int .i64 (nz : Int)) (by kernel_rfl) (by kernel_rfl) (by kernel_rfl) (fun _ _ _ h => h) (by rfl) hS (fun w' hw' => by go_simp) ?_
  try simp only [Act.put, List.setIfInBounds_toArray, List.set_cons_zero, List.set_cons_succ]
  refine htg (i := 7) rfl (.slice (some ⟨gi, 0, none⟩) nz ki) (by kernel_rfl) (by kernel_rfl) (by kernel_rfl) (fun _ _ _ h => h) (by rfl) hS (fun w' hw' => by have z0 : (0 : Int) ≤ (nz : Int) := (by omega); have z1 : (nz : Int) ≤ (ki : Int) := (by have := H7.out.2.2.2.2.2; omega); have z2 : (nz : Int) ≤ (nz : Int) + 1 := (by omega); go_simp) ?_
  try simp only [Act.put, List.setIfInBounds_toArray, List.set_cons_zero, List.set_cons_succ]
  refine htg (i := 8) rfl (.pointer (some ⟨w.heap.size + 1, 3, none⟩)) (by kernel_rfl) (by kernel_rfl) (by kernel_rfl) (fun _ _ _ h => h) (by rfl) hS (fun w' hw' => by go_simp) ?_
  try simp only [Act.put, List.setIfInBounds_toArray, List.set_cons_zero, List.set_cons_succ]
  refine htg (i := 9) rfl (.int .u64 (first : Int)) (by kernel_rfl) (by kernel_rfl) (by kernel_rfl) (fun _ _ _ h => h) (by rfl) hS (fun w' hw' => by have hk := (H7.out.1.below hw').k; have q0 := hk.cell 3 (v := .int .u64 (first : Int)) rfl; clear hk; go_simp) ?_
  try simp only [Act.put, List.setIfInBounds_toArray, List.set_cons_zero, List.set_cons_succ]
  refine h1g (i := 10) (by kernel_rfl) rfl (by rfl) (fun K' hK => ?_)
  go_simp
  have hx7 := H7.out.1.below hS
  have hin7 := H7.out.2.1.below hS
  refine (garble_fit 90 w7.drew N (some ⟨g1, 0, none⟩) n k1 (some ⟨g2, 0, none⟩) L k2 dl (some ⟨gi, 0, none⟩) nz ki first (fun wz hb => by
    have hy := hx7.below hb
    exact gfits_bad (cg := k1) (co := k2) hy.h hy.c.g hy.c.o (by have := HM.out; unfold maxLen; omega) (by have := HM.out; unfold maxLen; omega) HG.out)).mono ?_
  rintro e w8 ⟨⟨p, a, rfl⟩, hb8⟩
  obtain ⟨T, x, hT⟩ := chain_iface [(p, a)] 90
  have HCd := Lib.hid (fun wx hx => code_chain [(p, a)] 90 wx hx)
  rw [hT] at HCd ⊢
  clear hT
  have hS := hS.trans (hb8.mono hS.size)
  refine hK.out _ _ hS ?_
  clear hK K' hx7 hin7
  try simp only [Act.put, List.setIfInBounds_toArray, List.set_cons_zero, List.set_cons_succ]
  refine htg (i := 11) rfl (.tuple #[.slice none 0 0, .slice none 0 0, .iface T x]) (by kernel_rfl) (by kernel_rfl) (by kernel_rfl) (fun _ _ _ h => h) (by rfl) hS (fun w' hw' => by go_simp) ?_
  try simp only [Act.put, List.setIfInBounds_toArray, List.set_cons_zero, List.set_cons_succ]
  refine htg (i := 12) rfl (.slice none 0 0) (by kernel_rfl) (by kernel_rfl) (by kernel_rfl) (fun _ _ _ h => h) (by rfl) hS (fun w' hw' => by go_simp) ?_
  try simp only [Act.put, List.setIfInBounds_toArray, List.set_cons_zero, List.set_cons_succ]
  refine htg (i := 13) rfl (.slice none 0 0) (by kernel_rfl) (by kernel_rfl) (by kernel_rfl) (fun _ _ _ h => h) (by rfl) hS (fun w' hw' => by go_simp) ?_
  try simp only [Act.put, List.setIfInBounds_toArray, List.set_cons_zero, List.set_cons_succ]
  refine htg (i := 14) rfl (.iface T x) (by kernel_rfl) (by kernel_rfl) (by kernel_rfl) (fun _ _ _ h => h) (by rfl) hS (fun w' hw' => by go_simp) ?_
  try simp only [Act.put, List.setIfInBounds_toArray, List.set_cons_zero, List.set_cons_succ]
  refine htg (i := 15) rfl (.slice none 0 0) (by kernel_rfl) (by kernel_rfl) (by kernel_rfl) (fun _ _ _ h => h) (by rfl) hS (fun w' hw' => by go_simp) ?_
  try simp only [Act.put, List.setIfInBounds_toArray, List.set_cons_zero, List.set_cons_succ]
  refine htg (i := 16) rfl (.slice none 0 0) (by kernel_rfl) (by kernel_rfl) (by kernel_rfl) (fun _ _ _ h => h) (by rfl) hS (fun w' hw' => by go_simp) ?_
  try simp only [Act.put, List.setIfInBounds_toArray, List.set_cons_zero, List.set_cons_succ]
  refine htg (i := 17) rfl (.iface T x) (by kernel_rfl) (by kernel_rfl) (by kernel_rfl) (fun _ _ _ h => h) (by rfl) hS (fun w' hw' => by go_simp) ?_
  try simp only [Act.put, List.setIfInBounds_toArray, List.set_cons_zero, List.set_cons_succ]
  have h0 := H7.out
  have H8 := Lib.hid (show Lw w N g1 n k1 g2 L k2 y o dl Az nz cz first w8 ∧ AtV w8 (some ⟨gi, 0, none⟩) (nz * 2) (lv zin) ∧ AtV w8 Az (nz * 2) (lv zin) ∧ w8.cell? ⟨gi, nz * 2, none⟩ = some (.int .u64 7) ∧ w8.cell? ⟨gi, nz * 2 + 1, none⟩ = some (.int .u64 7) ∧ nz + 1 ≤ ki from ⟨h0.1.below hS, h0.2.1.below hS, h0.2.2.1.below hS, (hS.cell (World.block_lt_of_cell? _ _ h0.2.2.2.1)).trans h0.2.2.2.1, (hS.cell (World.block_lt_of_cell? _ _ h0.2.2.2.2.1)).trans h0.2.2.2.2.1, h0.2.2.2.2.2⟩)
  refine wpAnyH_done (by kernel_rfl) ?_ _
  clear hS h0 H7 hb8
  go_wp2
  refine wp_region_held_drew (S := fun w' => Below w8.heap.size w8 w') (by kernel_rfl) (drew_below w8) (fun hS => ?_)
  refine htg (i := 0) rfl (.slice (some ⟨gi, 0, none⟩) (nz + 1) ki) (by kernel_rfl) (by kernel_rfl) (by kernel_rfl) (fun _ _ _ h => h) (by rfl) hS (fun w' hw' => by go_simp) ?_
  try simp only [Act.put, List.setIfInBounds_toArray, List.set_cons_zero, List.set_cons_succ]
  refine htg (i := 1) rfl (.pointer (some ⟨w.heap.size + 1, 2, none⟩)) (by kernel_rfl) (by kernel_rfl) (by kernel_rfl) (fun _ _ _ h => h) (by rfl) hS (fun w' hw' => by go_simp) ?_
  try simp only [Act.put, List.setIfInBounds_toArray, List.set_cons_zero, List.set_cons_succ]
  refine htg (i := 2) rfl (.slice Az nz cz) (by kernel_rfl) (by kernel_rfl) (by kernel_rfl) (fun _ _ _ h => h) (by rfl) hS (fun w' hw' => by have hk := (H8.out.1.below hw').k; have q0 := hk.cell 2 (v := .slice Az nz cz) rfl; clear hk; go_simp) ?_
  try simp only [Act.put, List.setIfInBounds_toArray, List.set_cons_zero, List.set_cons_succ]
  refine htg (i := 3) rfl (.int .i64 (nz : Int)) (by kernel_rfl) (by kernel_rfl) (by kernel_rfl) (fun _ _ _ h => h) (by rfl) hS (fun w' hw' => by go_simp) ?_
  try simp only [Act.put, List.setIfInBounds_toArray, List.set_cons_zero, List.set_cons_succ]
  refine htg (i := 4) rfl (.pointer (some ⟨gi, nz * 2, none⟩)) (by kernel_rfl) (by kernel_rfl) (by kernel_rfl) (fun _ _ _ h => h) (by rfl) hS (fun w' hw' => by have z0 : (0 : Int) ≤ (nz : Int) := (by omega); have z1 : (nz : Int) < (nz : Int) + 1 := (by omega); go_simp) ?_
  try simp only [Act.put, List.setIfInBounds_toArray, List.set_cons_zero, List.set_cons_succ]
  refine htg (i := 5) rfl (.agg #[.int .u64 7, .int .u64 7]) (by kernel_rfl) (by kernel_rfl) (by kernel_rfl) (fun _ _ _ h => h) (by rfl) hS (fun w' hw' => by have h0 := H8.out; have q0 := (hw'.cell (World.block_lt_of_cell? _ _ h0.2.2.2.1)).trans h0.2.2.2.1; have q1 := (hw'.cell (World.block_lt_of_cell? _ _ h0.2.2.2.2.1)).trans h0.2.2.2.2.1; clear h0; go_simp) ?_
  try simp only [Act.put, List.setIfInBounds_toArray, List.set_cons_zero, List.set_cons_succ]
  refine htg (i := 6) rfl (.agg #[.int .u64 7, .int .u64 7]) (by kernel_rfl) (by kernel_rfl) (by kernel_rfl) (fun _ _ _ h => h) (by rfl) hS (fun w' hw' => by go_simp) ?_
  try simp only [Act.put, List.setIfInBounds_toArray, List.set_cons_zero, List.set_cons_succ]
  refine htg (i := 7) rfl (.bool false) (by kernel_rfl) (by kernel_rfl) (by kernel_rfl) (fun _ _ _ h => h) (by rfl) hS (fun w' hw' => by have hq := Ae.run_eql_lab; go_simp) ?_
  try simp only [Act.put, List.setIfInBounds_toArray, List.set_cons_zero, List.set_cons_succ]
  refine htg (i := 8) rfl (.bool false) (by kernel_rfl) (by kernel_rfl) (by kernel_rfl) (fun _ _ _ h => h) (by rfl) hS (fun w' hw' => by go_simp) ?_
  try simp only [Act.put, List.setIfInBounds_toArray, List.set_cons_zero, List.set_cons_succ]
  refine htg (i := 9) rfl (.slice (some ⟨gi, 0, none⟩) (nz + 1) ki) (by kernel_rfl) (by kernel_rfl) (by kernel_rfl) (fun _ _ _ h => h) (by rfl) hS (fun w' hw' => by go_simp) ?_
  try simp only [Act.put, List.setIfInBounds_toArray, List.set_cons_zero, List.set_cons_succ]
  refine htg (i := 10) rfl (.pointer (some ⟨w.heap.size + 1, 2, none⟩)) (by kernel_rfl) (by kernel_rfl) (by kernel_rfl) (fun _ _ _ h => h) (by rfl) hS (fun w' hw' => by go_simp) ?_
  try simp only [Act.put, List.setIfInBounds_toArray, List.set_cons_zero, List.set_cons_succ]
  refine htg (i := 11) rfl (.slice Az nz cz) (by kernel_rfl) (by kernel_rfl) (by kernel_rfl) (fun _ _ _ h => h) (by rfl) hS (fun w' hw' => by have hk := (H8.out.1.below hw').k; have q0 := hk.cell 2 (v := .slice Az nz cz) rfl; clear hk; go_simp) ?_
  try simp only [Act.put, List.setIfInBounds_toArray, List.set_cons_zero, List.set_cons_succ]
  refine htg (i := 12) rfl (.int .i64 (nz : Int)) (by kernel_rfl) (by kernel_rfl) (by kernel_rfl) (fun _ _ _ h => h) (by rfl) hS (fun w' hw' => by go_simp) ?_
  try simp only [Act.put, List.setIfInBounds_toArray, List.set_cons_zero, List.set_cons_succ]
  refine htg (i := 13) rfl (.slice (some ⟨gi, 0, none⟩) nz ki) (by kernel_rfl) (by kernel_rfl) (by kernel_rfl) (fun _ _ _ h => h) (by rfl) hS (fun w' hw' => by have z0 : (0 : Int) ≤ (nz : Int) := (by omega); have z1 : (nz : Int) ≤ (ki : Int) := (by have := H8.out.2.2.2.2.2; omega); have z2 : (nz : Int) ≤ (nz : Int) + 1 := (by omega); go_simp) ?_
  try simp only [Act.put, List.setIfInBounds_toArray, List.set_cons_zero, List.set_cons_succ]
  refine htg (i := 14) rfl (.pointer (some ⟨w.heap.size + 1, 2, none⟩)) (by kernel_rfl) (by kernel_rfl) (by kernel_rfl) (fun _ _ _ h => h) (by rfl) hS (fun w' hw' => by go_simp) ?_
  try simp only [Act.put, List.setIfInBounds_toArray, List.set_cons_zero, List.set_cons_succ]
  refine htg (i := 15) rfl (.slice Az nz cz) (by kernel_rfl) (by kernel_rfl) (by kernel_rfl) (fun _ _ _ h => h) (by rfl) hS (fun w' hw' => by have hk := (H8.out.1.below hw').k; have q0 := hk.cell 2 (v := .slice Az nz cz) rfl; clear hk; go_simp) ?_
  try simp only [Act.put, List.setIfInBounds_toArray, List.set_cons_zero, List.set_cons_succ]
  refine h1g (i := 16) (by kernel_rfl) rfl (by rfl) (fun K' hK => ?_)
  go_simp
  refine (same_yes w8.drew (some ⟨gi, 0, none⟩) nz ki zin Az cz (H8.out.2.1.below hS) (H8.out.2.2.1.below hS) (by have := HFt.out; unfold maxLen; omega)).mono ?_
  rintro e w9 ⟨rfl, hb9⟩
  have hS := hS.trans (hb9.mono hS.size)
  refine hK.out _ _ hS ?_
  clear hK K'
  try simp only [Act.put, List.setIfInBounds_toArray, List.set_cons_zero, List.set_cons_succ]
  refine htg (i := 17) rfl (.bool false) (by kernel_rfl) (by kernel_rfl) (by kernel_rfl) (fun _ _ _ h => h) (by rfl) hS (fun w' hw' => by go_simp) ?_
  try simp only [Act.put, List.setIfInBounds_toArray, List.set_cons_zero, List.set_cons_succ]
  refine htg (i := 18) rfl (.bool false) (by kernel_rfl) (by kernel_rfl) (by kernel_rfl) (fun _ _ _ h => h) (by rfl) hS (fun w' hw' => by go_simp) ?_
  try simp only [Act.put, List.setIfInBounds_toArray, List.set_cons_zero, List.set_cons_succ]
  refine wpAnyH_done (by kernel_rfl) ?_ _
  have H9 := Lib.hid (show Lw w N g1 n k1 g2 L k2 y o dl Az nz cz first w9 ∧ AtV w9 Az (nz * 2) (lv zin) from ⟨H8.out.1.below hS, H8.out.2.2.1.below hS⟩)
  clear hS hb9 H8
  have q0 := H9.out.1.c.c.cell 0 (v := .int .i64 N) rfl
  have q1 := H9.out.1.c.c.cell 1 (v := .slice (some ⟨g1, 0, none⟩) n k1) rfl
  have q2 := H9.out.1.c.c.cell 2 (v := .slice (some ⟨g2, 0, none⟩) L k2) rfl
  have r0 := H9.out.1.k.cell 0 (v := .int .u64 (dl.1 : Int)) rfl
  have r1 := H9.out.1.k.cell 1 (v := .int .u64 (dl.2 : Int)) rfl
  have r2 := H9.out.1.k.cell 2 (v := .slice Az nz cz) rfl
  have r3 := H9.out.1.k.cell 3 (v := .int .u64 (first : Int)) rfl
  have HGa := Lib.hid (gates_any w9 N (some ⟨g1, 0, none⟩) n k1 y (some ⟨g2, 0, none⟩) L k2 H9.out.1.c.g (by have := HM.out.1; omega))
  go_wp2_with fail
  refine HGa.out.mono ?_
  rintro e w10 ⟨v10, rfl, hR10, hb10⟩
  obtain ⟨A10, c10, rfl, _, _, _, hA10, _, hal10⟩ := hR10.read
  have H10 := Lib.hid (show Lw w N g1 n k1 g2 L k2 y o dl Az nz cz first w10 ∧ AtV w10 Az (nz * 2) (lv zin) ∧ AtV w10 A10 (n * 3) (gv y) ∧ (∀ ad, A10 = some ad → ad = ⟨ad.block, 0, none⟩) from ⟨H9.out.1.below hb10, H9.out.2.below hb10, hA10, fun ad h => (hal10 ad h).choose_spec.2⟩)
  clear q0 q1 q2 r0 r1 r2 r3 HGa H9 hb10 hR10 hA10 hal10
  have q0 := H10.out.1.c.c.cell 0 (v := .int .i64 N) rfl
  have q1 := H10.out.1.c.c.cell 1 (v := .slice (some ⟨g1, 0, none⟩) n k1) rfl
  have q2 := H10.out.1.c.c.cell 2 (v := .slice (some ⟨g2, 0, none⟩) L k2) rfl
  have r0 := H10.out.1.k.cell 0 (v := .int .u64 (dl.1 : Int)) rfl
  have r1 := H10.out.1.k.cell 1 (v := .int .u64 (dl.2 : Int)) rfl
  have r2 := H10.out.1.k.cell 2 (v := .slice Az nz cz) rfl
  have r3 := H10.out.1.k.cell 3 (v := .int .u64 (first : Int)) rfl
  have HGo := Lib.hid (rgood_any w10 N A10 n c10 y (some ⟨g2, 0, none⟩) L k2 o H10.out.2.2.1 H10.out.1.c.o (by have := HM.out; omega) (by have := HM.out; omega))
  go_wp2_with fail
  refine HGo.out.mono ?_
  rintro e w11 ⟨hor, hb11⟩
  obtain rfl : e = .returned (.bool false) := by
    rcases hor with h | h
    · exact absurd h.1 HG.out
    · exact h.2
  have H11 := Lib.hid (show Lw w N g1 n k1 g2 L k2 y o dl Az nz cz first w11 ∧ AtV w11 Az (nz * 2) (lv zin) ∧ AtV w11 A10 (n * 3) (gv y) ∧ (∀ ad, A10 = some ad → ad = ⟨ad.block, 0, none⟩) from ⟨H10.out.1.below hb11, H10.out.2.1.below hb11, H10.out.2.2.1.below hb11, H10.out.2.2.2⟩)
  clear q0 q1 q2 r0 r1 r2 r3 HGo H10 hor hb11
  have q0 := H11.out.1.c.c.cell 0 (v := .int .i64 N) rfl
  have q1 := H11.out.1.c.c.cell 1 (v := .slice (some ⟨g1, 0, none⟩) n k1) rfl
  have q2 := H11.out.1.c.c.cell 2 (v := .slice (some ⟨g2, 0, none⟩) L k2) rfl
  have r0 := H11.out.1.k.cell 0 (v := .int .u64 (dl.1 : Int)) rfl
  have r1 := H11.out.1.k.cell 1 (v := .int .u64 (dl.2 : Int)) rfl
  have r2 := H11.out.1.k.cell 2 (v := .slice Az nz cz) rfl
  have r3 := H11.out.1.k.cell 3 (v := .int .u64 (first : Int)) rfl
  go_wp2_with fail
  refine (HCd.out w11 H11.out.1.h).mono ?_
  rintro e w12 ⟨rfl, hb12⟩
  have HF := Lib.hid (H11.out.1.b.trans (hb12.mono H11.out.1.b.size))
  clear hb12
  go_wp2
  go_ret
  exact ⟨rfl, HF.out⟩

set_option maxHeartbeats 16000000 in
set_option maxRecDepth 100000 in
theorem tables_len (N : Int) (Ag : Option Addr) (n cg : Nat) (y : Nat → Nat → Int) (Ao : Option Addr) (m co : Nat) (o : Nat → Int) (dl : Lab) (Az : Option Addr) (nz cz first : Nat) (zin : Nat → Lab) (w : World) (hh : Handle w) (hg : AtV w Ag (n * 3) (gv y)) (ho : AtV w Ao m (iv o)) (hn : n ≤ cg) (hm : m ≤ co) (zg : Ag = none → n = 0 ∧ cg = 0) (zo : Ao = none → m = 0 ∧ co = 0) (hdl : Garb.Wd dl) (hfi : first < 18446744073709551616) (hz : AtV w Az (nz * 2) (lv zin)) (hzw : ∀ i, Garb.Wd (zin i)) (hz0 : Az = none → nz = 0 ∧ cz = 0) (hnz : nz ≤ cz) (hfit : (nz + 1) * 16 ≤ 140737488355328) (hsm : (decide (n ≤ 60) && decide (N ≤ 200)) = true) (hG : Circ.Good N n y (min m 80) o) (hK : (nz : Int) ≠ N) :
    Calls Tryd.prog 3 #[circV N Ag n cg Ao m co, keysV dl Az nz cz first] w fun e w' => e = .returned (.bool true) ∧ Below w.heap.size w w' := by
  have HK := Lib.hid hK
  clear hK
  have X0 := Blk.new w 25 #[.int .i64 N, .slice Ag n cg, .slice Ao m co]
  have b0 := (Below.refl w.heap.size w).alloc (Nat.le_refl _) (.cells #[.int .i64 N, .slice Ag n cg, .slice Ao m co] 25)
  have X1 := Blk.new (w.alloc (.cells #[.int .i64 N, .slice Ag n cg, .slice Ao m co] 25)) 31 #[.int .u64 (dl.1 : Int), .int .u64 (dl.2 : Int), .slice Az nz cz, .int .u64 (first : Int)]
  have b1 := b0.alloc b0.size (.cells #[.int .u64 (dl.1 : Int), .int .u64 (dl.2 : Int), .slice Az nz cz, .int .u64 (first : Int)] 31)
  have Y0 := X0.alloc (.cells #[.int .u64 (dl.1 : Int), .int .u64 (dl.2 : Int), .slice Az nz cz, .int .u64 (first : Int)] 31)
  simp only [World.size_alloc] at X1
  have HAw := Lib.hid (awake_any ((w.alloc (.cells #[.int .i64 N, .slice Ag n cg, .slice Ao m co] 25)).alloc (.cells #[.int .u64 (dl.1 : Int), .int .u64 (dl.2 : Int), .slice Az nz cz, .int .u64 (first : Int)] 31)) (hh.belowS b1))
  have H1 := Lib.hid (show Below w.heap.size w ((w.alloc (.cells #[.int .i64 N, .slice Ag n cg, .slice Ao m co] 25)).alloc (.cells #[.int .u64 (dl.1 : Int), .int .u64 (dl.2 : Int), .slice Az nz cz, .int .u64 (first : Int)] 31)) ∧ circB ((w.alloc (.cells #[.int .i64 N, .slice Ag n cg, .slice Ao m co] 25)).alloc (.cells #[.int .u64 (dl.1 : Int), .int .u64 (dl.2 : Int), .slice Az nz cz, .int .u64 (first : Int)] 31)) w.heap.size N Ag n cg Ao m co ∧ KyB ((w.alloc (.cells #[.int .i64 N, .slice Ag n cg, .slice Ao m co] 25)).alloc (.cells #[.int .u64 (dl.1 : Int), .int .u64 (dl.2 : Int), .slice Az nz cz, .int .u64 (first : Int)] 31)) (w.heap.size + 1) dl Az nz cz first ∧ Handle ((w.alloc (.cells #[.int .i64 N, .slice Ag n cg, .slice Ao m co] 25)).alloc (.cells #[.int .u64 (dl.1 : Int), .int .u64 (dl.2 : Int), .slice Az nz cz, .int .u64 (first : Int)] 31)) from ⟨b1, Y0, X1, hh.belowS b1⟩)
  have HA := Lib.hid (And.intro hg (And.intro ho (And.intro hn (And.intro hm (And.intro zg (And.intro zo (And.intro hz (And.intro hz0 hnz))))))))
  have HH0 := Lib.hid hh
  have HD := Lib.hid (And.intro hdl (And.intro hfi hzw))
  have HFt := Lib.hid hfit
  clear X0 X1 b0 b1 Y0 hh hg ho hn hm zg zo hz hz0 hnz hdl hfi hzw hfit
  go_enter Tryd.func3, Tryd.ntmps3
  go_wp2_with fail
  refine HAw.out.mono ?_
  rintro e w2 ⟨rfl, hb2⟩
  have h0 := H1.out
  have H2 := Lib.hid (show Below w.heap.size w w2 ∧ circB w2 w.heap.size N Ag n cg Ao m co ∧ KyB w2 (w.heap.size + 1) dl Az nz cz first ∧ Handle w2 from ⟨h0.1.trans (hb2.mono h0.1.size), h0.2.1.below hb2 h0.2.1.lt, h0.2.2.1.below hb2 h0.2.2.1.lt, h0.2.2.2.belowS hb2⟩)
  clear H1 h0 hb2 HAw
  have c0 := H2.out.2.1.cell 0 (v := .int .i64 N) rfl
  have c1 := H2.out.2.1.cell 1 (v := .slice Ag n cg) rfl
  have c2 := H2.out.2.1.cell 2 (v := .slice Ao m co) rfl
  have HSm := Lib.hid (small_any w2 N Ag n cg Ao m co)
  have hnn : n ≤ 60 ∧ N ≤ 200 := by simpa using hsm
  rw [hsm] at HSm
  have HM0 := Lib.hid hnn
  clear hsm hnn
  go_wp2_with fail
  refine HSm.out.mono ?_
  rintro e w3 ⟨rfl, hb3⟩
  have h0 := H2.out
  have H3 := Lib.hid (show Below w.heap.size w w3 ∧ circB w3 w.heap.size N Ag n cg Ao m co ∧ KyB w3 (w.heap.size + 1) dl Az nz cz first ∧ Handle w3 from ⟨h0.1.trans (hb3.mono h0.1.size), h0.2.1.below hb3 h0.2.1.lt, h0.2.2.1.below hb3 h0.2.2.1.lt, h0.2.2.2.belowS hb3⟩)
  clear H2 h0 hb3 HSm c0 c1 c2
  have c0 := H3.out.2.1.cell 0 (v := .int .i64 N) rfl
  have c1 := H3.out.2.1.cell 1 (v := .slice Ag n cg) rfl
  have c2 := H3.out.2.1.cell 2 (v := .slice Ao m co) rfl
  have HO := Lib.hid (own_any w3 N Ag n cg y Ao m co o (HA.out.1.below H3.out.1) (HA.out.2.1.below H3.out.1) HA.out.2.2.1 HA.out.2.2.2.1 HA.out.2.2.2.2.1 HA.out.2.2.2.2.2.1)
  go_wp2_with fail
  refine HO.out.mono ?_
  rintro e w4 ⟨g1, k1, g2, k2, rfl, hg1, hg2, hR1, hR2, hb4⟩
  obtain ⟨L, hL⟩ : ∃ L, min m 80 = L := ⟨_, rfl⟩
  rw [show min n 4200 = n by have := HM0.out; omega] at hR1 ⊢
  rw [hL] at hR2 ⊢
  clear c0 c1 c2 HO
  have h0 := H3.out
  have hsz3 := h0.2.2.1.lt
  have X4 := h0.2.1.below hb4 h0.2.1.lt
  have x0 := X4.cell 0 (v := .int .i64 N) rfl
  have x1 := X4.cell 1 (v := .slice Ag n cg) rfl
  have x2 := X4.cell 2 (v := .slice Ao m co) rfl
  have xf := X4.frozen
  have hci : Ci w.heap.size N g1 n k1 g2 L k2 y o (((w4.setCell ⟨w.heap.size, 0, none⟩ (.int .i64 N)).setCell ⟨w.heap.size, 1, none⟩ (.slice (some ⟨g1, 0, none⟩) n k1)).setCell ⟨w.heap.size, 2, none⟩ (.slice (some ⟨g2, 0, none⟩) L k2)) := ci_store _ X4 rfl (by omega) (by omega) hR1.atv (by have := hR2.atv; rwa [Nat.mul_one] at this)
  have hcs := (((Chg.refl (fun q => q = w.heap.size) w4).set (p := ⟨w.heap.size, 0, none⟩) (.inr rfl) (.int .i64 N)).set (p := ⟨w.heap.size, 1, none⟩) (.inr rfl) (.slice (some ⟨g1, 0, none⟩) n k1)).set (p := ⟨w.heap.size, 2, none⟩) (.inr rfl) (.slice (some ⟨g2, 0, none⟩) L k2)
  have hbw := (h0.1.trans (hb4.mono h0.1.size)).trans (hcs.below (by have := h0.1.size; have := hb4.size; omega) (fun q e => by omega))
  have hk5 := (h0.2.2.1.below hb4 h0.2.2.1.lt).chg hcs (by omega)
  have hR5 := hR1.chg hcs (fun q hq e => by
    obtain rfl : g1 = q := Option.some.inj hq
    omega)
  have H5 := Lib.hid (show Lw w N g1 n k1 g2 L k2 y o dl Az nz cz first _ from ⟨hci, hk5, hR5.mono (fun q hq => by
    obtain rfl : g1 = q := Option.some.inj hq
    have := h0.1.size
    omega), (hR2.chg hcs (fun q hq e => by
    obtain rfl : g2 = q := Option.some.inj hq
    omega)).mono (fun q hq => by
    obtain rfl : g2 = q := Option.some.inj hq
    have := h0.1.size
    omega), HH0.out.belowS hbw, hbw⟩)
  have HG := Lib.hid (show Circ.Good N n y L o by rw [← hL]; exact hG)
  clear hG
  have HM := Lib.hid (show n ≤ 60 ∧ N ≤ 200 ∧ L ≤ 80 ∧ n ≤ k1 ∧ L ≤ k2 ∧ w.heap.size + 1 < g1 from ⟨HM0.out.1, HM0.out.2, by omega, hR1.le, hR2.le, by omega⟩)
  clear hg1 hg2 hR1 hR2 hb4 hL h0 hsz3 X4 hci hcs hbw hk5 hR5 H3 HM0
  go_upto_region 4 with fail
  clear x0 x1 x2 xf
  generalize (((w4.setCell ⟨w.heap.size, 0, none⟩ (.int .i64 N)).setCell ⟨w.heap.size, 1, none⟩ (.slice (some ⟨g1, 0, none⟩) n k1)).setCell ⟨w.heap.size, 2, none⟩ (.slice (some ⟨g2, 0, none⟩) L k2)) = w5 at *
  have r2 := (H5.out.k.below ((Below.refl w5.heap.size w5).alloc (Nat.le_refl _) (.cells #[] 28)) H5.out.k.lt).cell 2 (v := .slice Az nz cz) rfl
  obtain ⟨gj, kj, w6, hr1, hgj, hgj6, hkj, hR6, hb6⟩ := append_empty eltL w5 Az nz cz (lv zin) (HA.out.2.2.2.2.2.2.1.below H5.out.b) HA.out.2.2.2.2.2.2.2.1 (lv_one zin) (by have := HFt.out; unfold maxLen; omega) (by have := HFt.out; omega)
  obtain ⟨gi, ki, w7, hr2, hgi, hR7, hgr, hor⟩ := append_one eltL w6 w5.heap.size _ nz (lv zin) (lv fun _ => (7, 7)) #[.int .u64 7, .int .u64 7] hR6 (fun j hj => by
    rcases (show j = 0 ∨ j = 1 by omega) with rfl | rfl <;> rfl) (lv_one _) (by have := HFt.out; omega) (by have := HFt.out; unfold maxLen; omega) hb6.size
  have hown := hR6.own
  have hb7 : Below w5.heap.size w5 w7 := (hb6.alloc hb6.size (.cells #[.int .u64 7, .int .u64 7] 28)).grown hgr (by simp; omega) (fun q hq => (hown q hq).1)
  have hRm := hR7.congr (G := lv (inM nz zin)) (lv_next (M := inM nz zin) (fun i hi => by unfold inM; rw [if_pos hi]) (by unfold inM; rw [if_neg (by omega)]))
  have hki := hRm.le
  have hRa := hRm.atv
  have hIn : AtV w7 (some ⟨gi, 0, none⟩) (nz * 2) (lv zin) := fun i hi => by
    obtain ⟨ad, e, hc⟩ := hRa i (by omega)
    refine ⟨ad, e, ?_⟩
    rw [hc, lv_congr (L := inM nz zin) (M := zin) (n := nz) (fun i hi => by unfold inM; rw [if_pos hi]) i hi]
  obtain ⟨_, e9, ae, hae, s0, s1, -⟩ := hRa.lab nz (by omega)
  cases e9
  rw [Addr.add_mid, Nat.zero_add] at hae
  subst hae
  unfold inM at s0 s1
  rw [if_neg (by omega)] at s0 s1
  have H7 := Lib.hid (show Lw w N g1 n k1 g2 L k2 y o dl Az nz cz first w7 ∧ AtV w7 (some ⟨gi, 0, none⟩) (nz * 2) (lv zin) ∧ AtV w7 Az (nz * 2) (lv zin) ∧ w7.cell? ⟨gi, nz * 2, none⟩ = some (.int .u64 7) ∧ w7.cell? ⟨gi, nz * 2 + 1, none⟩ = some (.int .u64 7) ∧ nz + 1 ≤ ki from ⟨H5.out.below hb7, hIn, HA.out.2.2.2.2.2.2.1.below (H5.out.b.trans (hb7.mono H5.out.b.size)), s0, s1, hki⟩)
  have HR1 := Lib.hid hr1
  have HR2 := Lib.hid hr2
  clear hr1 hgj hgj6 hkj hR6 hb6 hr2 hgi hR7 hgr hor hown hb7 hRm hki hRa hIn s0 s1 H5
  go_wp2_with (at_builtin; first | refine wpList_append_run rfl _ _ 29 rfl (.slice (some ⟨w5.heap.size, 0, none⟩) 0 0) (.slice Az nz cz) (.slice (some ⟨gj, 0, none⟩) nz kj) w6 rfl rfl (HR1.out _) ?_ | refine wpList_append_run rfl _ _ 29 rfl (.slice (some ⟨gj, 0, none⟩) nz kj) (.slice (some ⟨w6.heap.size, 0, none⟩) 1 1) (.slice (some ⟨gi, 0, none⟩) (nz + 1) ki) w7 rfl rfl (HR2.out _) ?_)
  clear HR1 HR2 r2

  refine wp_region_held_drew (S := fun w' => Below w7.heap.size w7 w') (by kernel_rfl) (drew_below w7) (fun hS => ?_)
  refine htg (i := 0) rfl (circV N (some ⟨g1, 0, none⟩) n k1 (some ⟨g2, 0, none⟩) L k2) (by kernel_rfl) (by kernel_rfl) (by kernel_rfl) (fun _ _ _ h => h) (by rfl) hS (fun w' hw' => by have hc := (H7.out.1.below hw').c.c; have q0 := hc.cell 0 (v := .int .i64 N) rfl; have q1 := hc.cell 1 (v := .slice (some ⟨g1, 0, none⟩) n k1) rfl; have q2 := hc.cell 2 (v := .slice (some ⟨g2, 0, none⟩) L k2) rfl; clear hc; go_simp) ?_
  try simp only [Act.put, List.setIfInBounds_toArray, List.set_cons_zero, List.set_cons_succ]
  refine htg (i := 1) rfl (.pointer (some ⟨w.heap.size + 1, 0, none⟩)) (by kernel_rfl) (by kernel_rfl) (by kernel_rfl) (fun _ _ _ h => h) (by rfl) hS (fun w' hw' => by go_simp) ?_
  try simp only [Act.put, List.setIfInBounds_toArray, List.set_cons_zero, List.set_cons_succ]
  refine htg (i := 2) rfl (labL dl) (by kernel_rfl) (by kernel_rfl) (by kernel_rfl) (fun _ _ _ h => h) (by rfl) hS (fun w' hw' => by have hk := (H7.out.1.below hw').k; have q0 := hk.cell 0 (v := .int .u64 (dl.1 : Int)) rfl; have q1 := hk.cell 1 (v := .int .u64 (dl.2 : Int)) rfl; clear hk; go_simp) ?_
  try simp only [Act.put, List.setIfInBounds_toArray, List.set_cons_zero, List.set_cons_succ]
  refine htg (i := 3) rfl (.slice (some ⟨gi, 0, none⟩) (nz + 1) ki) (by kernel_rfl) (by kernel_rfl) (by kernel_rfl) (fun _ _ _ h => h) (by rfl) hS (fun w' hw' => by go_simp) ?_
  try simp only [Act.put, List.setIfInBounds_toArray, List.set_cons_zero, List.set_cons_succ]
  refine htg (i := 4) rfl (.pointer (some ⟨w.heap.size + 1, 2, none⟩)) (by kernel_rfl) (by kernel_rfl) (by kernel_rfl) (fun _ _ _ h => h) (by rfl) hS (fun w' hw' => by go_simp) ?_
  try simp only [Act.put, List.setIfInBounds_toArray, List.set_cons_zero, List.set_cons_succ]
  refine htg (i := 5) rfl (.slice Az nz cz) (by kernel_rfl) (by kernel_rfl) (by kernel_rfl) (fun _ _ _ h => h) (by rfl) hS (fun w' hw' => by have hk := (H7.out.1.below hw').k; have q0 := hk.cell 2 (v := .slice Az nz cz) rfl; clear hk; go_simp) ?_
  try simp only [Act.put, List.setIfInBounds_toArray, List.set_cons_zero, List.set_cons_succ]
  refine htg (i := 6) rfl (.int .i64 (nz : Int)) (by kernel_rfl) (by kernel_rfl) (by kernel_rfl) (fun _ _ _ h => h) (by rfl) hS (fun w' hw' => by go_simp) ?_
  try simp only [Act.put, List.setIfInBounds_toArray, List.set_cons_zero, List.set_cons_succ]
  refine htg (i := 7) rfl (.slice (some ⟨gi, 0, none⟩) nz ki) (by kernel_rfl) (by kernel_rfl) (by kernel_rfl) (fun _ _ _ h => h) (by rfl) hS (fun w' hw' => by have z0 : (0 : Int) ≤ (nz : Int) := (by omega); have z1 : (nz : Int) ≤ (ki : Int) := (by have := H7.out.2.2.2.2.2; omega); have z2 : (nz : Int) ≤ (nz : Int) + 1 := (by omega); go_simp) ?_
  try simp only [Act.put, List.setIfInBounds_toArray, List.set_cons_zero, List.set_cons_succ]
  refine htg (i := 8) rfl (.pointer (some ⟨w.heap.size + 1, 3, none⟩)) (by kernel_rfl) (by kernel_rfl) (by kernel_rfl) (fun _ _ _ h => h) (by rfl) hS (fun w' hw' => by go_simp) ?_
  try simp only [Act.put, List.setIfInBounds_toArray, List.set_cons_zero, List.set_cons_succ]
  refine htg (i := 9) rfl (.int .u64 (first : Int)) (by kernel_rfl) (by kernel_rfl) (by kernel_rfl) (fun _ _ _ h => h) (by rfl) hS (fun w' hw' => by have hk := (H7.out.1.below hw').k; have q0 := hk.cell 3 (v := .int .u64 (first : Int)) rfl; clear hk; go_simp) ?_
  try simp only [Act.put, List.setIfInBounds_toArray, List.set_cons_zero, List.set_cons_succ]
  refine h1g (i := 10) (by kernel_rfl) rfl (by rfl) (fun K' hK => ?_)
  go_simp
  have hx7 := H7.out.1.below hS
  have hin7 := H7.out.2.1.below hS
  refine (garble_fit 1 w7.drew N (some ⟨g1, 0, none⟩) n k1 (some ⟨g2, 0, none⟩) L k2 dl (some ⟨gi, 0, none⟩) nz ki first (fun wz hb => by
    have hy := hx7.below hb
    exact gfits_len (cg := k1) (co := k2) hy.h hy.c.g hy.c.o (by have := HM.out; unfold maxLen; omega) (by have := HM.out; unfold maxLen; omega) HG.out HK.out)).mono ?_
  rintro e w8 ⟨⟨p, a, rfl⟩, hb8⟩
  obtain ⟨T, x, hT⟩ := chain_iface [(p, a)] 1
  have HCd := Lib.hid (fun wx hx => code_chain [(p, a)] 1 wx hx)
  rw [hT] at HCd ⊢
  clear hT
  have hS := hS.trans (hb8.mono hS.size)
  refine hK.out _ _ hS ?_
  clear hK K' hx7 hin7
  try simp only [Act.put, List.setIfInBounds_toArray, List.set_cons_zero, List.set_cons_succ]
  refine htg (i := 11) rfl (.tuple #[.slice none 0 0, .slice none 0 0, .iface T x]) (by kernel_rfl) (by kernel_rfl) (by kernel_rfl) (fun _ _ _ h => h) (by rfl) hS (fun w' hw' => by go_simp) ?_
  try simp only [Act.put, List.setIfInBounds_toArray, List.set_cons_zero, List.set_cons_succ]
  refine htg (i := 12) rfl (.slice none 0 0) (by kernel_rfl) (by kernel_rfl) (by kernel_rfl) (fun _ _ _ h => h) (by rfl) hS (fun w' hw' => by go_simp) ?_
  try simp only [Act.put, List.setIfInBounds_toArray, List.set_cons_zero, List.set_cons_succ]
  refine htg (i := 13) rfl (.slice none 0 0) (by kernel_rfl) (by kernel_rfl) (by kernel_rfl) (fun _ _ _ h => h) (by rfl) hS (fun w' hw' => by go_simp) ?_
  try simp only [Act.put, List.setIfInBounds_toArray, List.set_cons_zero, List.set_cons_succ]
  refine htg (i := 14) rfl (.iface T x) (by kernel_rfl) (by kernel_rfl) (by kernel_rfl) (fun _ _ _ h => h) (by rfl) hS (fun w' hw' => by go_simp) ?_
  try simp only [Act.put, List.setIfInBounds_toArray, List.set_cons_zero, List.set_cons_succ]
  refine htg (i := 15) rfl (.slice none 0 0) (by kernel_rfl) (by kernel_rfl) (by kernel_rfl) (fun _ _ _ h => h) (by rfl) hS (fun w' hw' => by go_simp) ?_
  try simp only [Act.put, List.setIfInBounds_toArray, List.set_cons_zero, List.set_cons_succ]
  refine htg (i := 16) rfl (.slice none 0 0) (by kernel_rfl) (by kernel_rfl) (by kernel_rfl) (fun _ _ _ h => h) (by rfl) hS (fun w' hw' => by go_simp) ?_
  try simp only [Act.put, List.setIfInBounds_toArray, List.set_cons_zero, List.set_cons_succ]
  refine htg (i := 17) rfl (.iface T x) (by kernel_rfl) (by kernel_rfl) (by kernel_rfl) (fun _ _ _ h => h) (by rfl) hS (fun w' hw' => by go_simp) ?_
  try simp only [Act.put, List.setIfInBounds_toArray, List.set_cons_zero, List.set_cons_succ]
  have h0 := H7.out
  have H8 := Lib.hid (show Lw w N g1 n k1 g2 L k2 y o dl Az nz cz first w8 ∧ AtV w8 (some ⟨gi, 0, none⟩) (nz * 2) (lv zin) ∧ AtV w8 Az (nz * 2) (lv zin) ∧ w8.cell? ⟨gi, nz * 2, none⟩ = some (.int .u64 7) ∧ w8.cell? ⟨gi, nz * 2 + 1, none⟩ = some (.int .u64 7) ∧ nz + 1 ≤ ki from ⟨h0.1.below hS, h0.2.1.below hS, h0.2.2.1.below hS, (hS.cell (World.block_lt_of_cell? _ _ h0.2.2.2.1)).trans h0.2.2.2.1, (hS.cell (World.block_lt_of_cell? _ _ h0.2.2.2.2.1)).trans h0.2.2.2.2.1, h0.2.2.2.2.2⟩)
  refine wpAnyH_done (by kernel_rfl) ?_ _
  clear hS h0 H7 hb8
  go_wp2
  refine wp_region_held_drew (S := fun w' => Below w8.heap.size w8 w') (by kernel_rfl) (drew_below w8) (fun hS => ?_)
  refine htg (i := 0) rfl (.slice (some ⟨gi, 0, none⟩) (nz + 1) ki) (by kernel_rfl) (by kernel_rfl) (by kernel_rfl) (fun _ _ _ h => h) (by rfl) hS (fun w' hw' => by go_simp) ?_
  try simp only [Act.put, List.setIfInBounds_toArray, List.set_cons_zero, List.set_cons_succ]
  refine htg (i := 1) rfl (.pointer (some ⟨w.heap.size + 1, 2, none⟩)) (by kernel_rfl) (by kernel_rfl) (by kernel_rfl) (fun _ _ _ h => h) (by rfl) hS (fun w' hw' => by go_simp) ?_
  try simp only [Act.put, List.setIfInBounds_toArray, List.set_cons_zero, List.set_cons_succ]
  refine htg (i := 2) rfl (.slice Az nz cz) (by kernel_rfl) (by kernel_rfl) (by kernel_rfl) (fun _ _ _ h => h) (by rfl) hS (fun w' hw' => by have hk := (H8.out.1.below hw').k; have q0 := hk.cell 2 (v := .slice Az nz cz) rfl; clear hk; go_simp) ?_
  try simp only [Act.put, List.setIfInBounds_toArray, List.set_cons_zero, List.set_cons_succ]
  refine htg (i := 3) rfl (.int .i64 (nz : Int)) (by kernel_rfl) (by kernel_rfl) (by kernel_rfl) (fun _ _ _ h => h) (by rfl) hS (fun w' hw' => by go_simp) ?_
  try simp only [Act.put, List.setIfInBounds_toArray, List.set_cons_zero, List.set_cons_succ]
  refine htg (i := 4) rfl (.pointer (some ⟨gi, nz * 2, none⟩)) (by kernel_rfl) (by kernel_rfl) (by kernel_rfl) (fun _ _ _ h => h) (by rfl) hS (fun w' hw' => by have z0 : (0 : Int) ≤ (nz : Int) := (by omega); have z1 : (nz : Int) < (nz : Int) + 1 := (by omega); go_simp) ?_
  try simp only [Act.put, List.setIfInBounds_toArray, List.set_cons_zero, List.set_cons_succ]
  refine htg (i := 5) rfl (.agg #[.int .u64 7, .int .u64 7]) (by kernel_rfl) (by kernel_rfl) (by kernel_rfl) (fun _ _ _ h => h) (by rfl) hS (fun w' hw' => by have h0 := H8.out; have q0 := (hw'.cell (World.block_lt_of_cell? _ _ h0.2.2.2.1)).trans h0.2.2.2.1; have q1 := (hw'.cell (World.block_lt_of_cell? _ _ h0.2.2.2.2.1)).trans h0.2.2.2.2.1; clear h0; go_simp) ?_
  try simp only [Act.put, List.setIfInBounds_toArray, List.set_cons_zero, List.set_cons_succ]
  refine htg (i := 6) rfl (.agg #[.int .u64 7, .int .u64 7]) (by kernel_rfl) (by kernel_rfl) (by kernel_rfl) (fun _ _ _ h => h) (by rfl) hS (fun w' hw' => by go_simp) ?_
  try simp only [Act.put, List.setIfInBounds_toArray, List.set_cons_zero, List.set_cons_succ]
  refine htg (i := 7) rfl (.bool false) (by kernel_rfl) (by kernel_rfl) (by kernel_rfl) (fun _ _ _ h => h) (by rfl) hS (fun w' hw' => by have hq := Ae.run_eql_lab; go_simp) ?_
  try simp only [Act.put, List.setIfInBounds_toArray, List.set_cons_zero, List.set_cons_succ]
  refine htg (i := 8) rfl (.bool false) (by kernel_rfl) (by kernel_rfl) (by kernel_rfl) (fun _ _ _ h => h) (by rfl) hS (fun w' hw' => by go_simp) ?_
  try simp only [Act.put, List.setIfInBounds_toArray, List.set_cons_zero, List.set_cons_succ]
  refine htg (i := 9) rfl (.slice (some ⟨gi, 0, none⟩) (nz + 1) ki) (by kernel_rfl) (by kernel_rfl) (by kernel_rfl) (fun _ _ _ h => h) (by rfl) hS (fun w' hw' => by go_simp) ?_
  try simp only [Act.put, List.setIfInBounds_toArray, List.set_cons_zero, List.set_cons_succ]
  refine htg (i := 10) rfl (.pointer (some ⟨w.heap.size + 1, 2, none⟩)) (by kernel_rfl) (by kernel_rfl) (by kernel_rfl) (fun _ _ _ h => h) (by rfl) hS (fun w' hw' => by go_simp) ?_
  try simp only [Act.put, List.setIfInBounds_toArray, List.set_cons_zero, List.set_cons_succ]
  refine htg (i := 11) rfl (.slice Az nz cz) (by kernel_rfl) (by kernel_rfl) (by kernel_rfl) (fun _ _ _ h => h) (by rfl) hS (fun w' hw' => by have hk := (H8.out.1.below hw').k; have q0 := hk.cell 2 (v := .slice Az nz cz) rfl; clear hk; go_simp) ?_
  try simp only [Act.put, List.setIfInBounds_toArray, List.set_cons_zero, List.set_cons_succ]
  refine htg (i := 12) rfl (.int .i64 (nz : Int)) (by kernel_rfl) (by kernel_rfl) (by kernel_rfl) (fun _ _ _ h => h) (by rfl) hS (fun w' hw' => by go_simp) ?_
  try simp only [Act.put, List.setIfInBounds_toArray, List.set_cons_zero, List.set_cons_succ]
  refine htg (i := 13) rfl (.slice (some ⟨gi, 0, none⟩) nz ki) (by kernel_rfl) (by kernel_rfl) (by kernel_rfl) (fun _ _ _ h => h) (by rfl) hS (fun w' hw' => by have z0 : (0 : Int) ≤ (nz : Int) := (by omega); have z1 : (nz : Int) ≤ (ki : Int) := (by have := H8.out.2.2.2.2.2; omega); have z2 : (nz : Int) ≤ (nz : Int) + 1 := (by omega); go_simp) ?_
  try simp only [Act.put, List.setIfInBounds_toArray, List.set_cons_zero, List.set_cons_succ]
  refine htg (i := 14) rfl (.pointer (some ⟨w.heap.size + 1, 2, none⟩)) (by kernel_rfl) (by kernel_rfl) (by kernel_rfl) (fun _ _ _ h => h) (by rfl) hS (fun w' hw' => by go_simp) ?_
  try simp only [Act.put, List.setIfInBounds_toArray, List.set_cons_zero, List.set_cons_succ]
  refine htg (i := 15) rfl (.slice Az nz cz) (by kernel_rfl) (by kernel_rfl) (by kernel_rfl) (fun _ _ _ h => h) (by rfl) hS (fun w' hw' => by have hk := (H8.out.1.below hw').k; have q0 := hk.cell 2 (v := .slice Az nz cz) rfl; clear hk; go_simp) ?_
  try simp only [Act.put, List.setIfInBounds_toArray, List.set_cons_zero, List.set_cons_succ]
  refine h1g (i := 16) (by kernel_rfl) rfl (by rfl) (fun K' hK => ?_)
  go_simp
  refine (same_yes w8.drew (some ⟨gi, 0, none⟩) nz ki zin Az cz (H8.out.2.1.below hS) (H8.out.2.2.1.below hS) (by have := HFt.out; unfold maxLen; omega)).mono ?_
  rintro e w9 ⟨rfl, hb9⟩
  have hS := hS.trans (hb9.mono hS.size)
  refine hK.out _ _ hS ?_
  clear hK K'
  try simp only [Act.put, List.setIfInBounds_toArray, List.set_cons_zero, List.set_cons_succ]
  refine htg (i := 17) rfl (.bool false) (by kernel_rfl) (by kernel_rfl) (by kernel_rfl) (fun _ _ _ h => h) (by rfl) hS (fun w' hw' => by go_simp) ?_
  try simp only [Act.put, List.setIfInBounds_toArray, List.set_cons_zero, List.set_cons_succ]
  refine htg (i := 18) rfl (.bool false) (by kernel_rfl) (by kernel_rfl) (by kernel_rfl) (fun _ _ _ h => h) (by rfl) hS (fun w' hw' => by go_simp) ?_
  try simp only [Act.put, List.setIfInBounds_toArray, List.set_cons_zero, List.set_cons_succ]
  refine wpAnyH_done (by kernel_rfl) ?_ _
  have H9 := Lib.hid (show Lw w N g1 n k1 g2 L k2 y o dl Az nz cz first w9 ∧ AtV w9 Az (nz * 2) (lv zin) from ⟨H8.out.1.below hS, H8.out.2.2.1.below hS⟩)
  clear hS hb9 H8
  have q0 := H9.out.1.c.c.cell 0 (v := .int .i64 N) rfl
  have q1 := H9.out.1.c.c.cell 1 (v := .slice (some ⟨g1, 0, none⟩) n k1) rfl
  have q2 := H9.out.1.c.c.cell 2 (v := .slice (some ⟨g2, 0, none⟩) L k2) rfl
  have r0 := H9.out.1.k.cell 0 (v := .int .u64 (dl.1 : Int)) rfl
  have r1 := H9.out.1.k.cell 1 (v := .int .u64 (dl.2 : Int)) rfl
  have r2 := H9.out.1.k.cell 2 (v := .slice Az nz cz) rfl
  have r3 := H9.out.1.k.cell 3 (v := .int .u64 (first : Int)) rfl
  have HGa := Lib.hid (gates_any w9 N (some ⟨g1, 0, none⟩) n k1 y (some ⟨g2, 0, none⟩) L k2 H9.out.1.c.g (by have := HM.out.1; omega))
  go_wp2_with fail
  refine HGa.out.mono ?_
  rintro e w10 ⟨v10, rfl, hR10, hb10⟩
  obtain ⟨A10, c10, rfl, _, _, _, hA10, _, hal10⟩ := hR10.read
  have H10 := Lib.hid (show Lw w N g1 n k1 g2 L k2 y o dl Az nz cz first w10 ∧ AtV w10 Az (nz * 2) (lv zin) ∧ AtV w10 A10 (n * 3) (gv y) ∧ (∀ ad, A10 = some ad → ad = ⟨ad.block, 0, none⟩) from ⟨H9.out.1.below hb10, H9.out.2.below hb10, hA10, fun ad h => (hal10 ad h).choose_spec.2⟩)
  clear q0 q1 q2 r0 r1 r2 r3 HGa H9 hb10 hR10 hA10 hal10
  have q0 := H10.out.1.c.c.cell 0 (v := .int .i64 N) rfl
  have q1 := H10.out.1.c.c.cell 1 (v := .slice (some ⟨g1, 0, none⟩) n k1) rfl
  have q2 := H10.out.1.c.c.cell 2 (v := .slice (some ⟨g2, 0, none⟩) L k2) rfl
  have r0 := H10.out.1.k.cell 0 (v := .int .u64 (dl.1 : Int)) rfl
  have r1 := H10.out.1.k.cell 1 (v := .int .u64 (dl.2 : Int)) rfl
  have r2 := H10.out.1.k.cell 2 (v := .slice Az nz cz) rfl
  have r3 := H10.out.1.k.cell 3 (v := .int .u64 (first : Int)) rfl
  have HGo := Lib.hid (rgood_any w10 N A10 n c10 y (some ⟨g2, 0, none⟩) L k2 o H10.out.2.2.1 H10.out.1.c.o (by have := HM.out; omega) (by have := HM.out; omega))
  go_wp2_with fail
  refine HGo.out.mono ?_
  rintro e w11 ⟨hor, hb11⟩
  obtain rfl : e = .returned (.bool true) := by
    rcases hor with h | h
    · exact h.2
    · exact absurd HG.out h.1
  have H11 := Lib.hid (show Lw w N g1 n k1 g2 L k2 y o dl Az nz cz first w11 ∧ AtV w11 Az (nz * 2) (lv zin) ∧ AtV w11 A10 (n * 3) (gv y) ∧ (∀ ad, A10 = some ad → ad = ⟨ad.block, 0, none⟩) from ⟨H10.out.1.below hb11, H10.out.2.1.below hb11, H10.out.2.2.1.below hb11, H10.out.2.2.2⟩)
  clear q0 q1 q2 r0 r1 r2 r3 HGo H10 hor hb11
  have q0 := H11.out.1.c.c.cell 0 (v := .int .i64 N) rfl
  have q1 := H11.out.1.c.c.cell 1 (v := .slice (some ⟨g1, 0, none⟩) n k1) rfl
  have q2 := H11.out.1.c.c.cell 2 (v := .slice (some ⟨g2, 0, none⟩) L k2) rfl
  have r0 := H11.out.1.k.cell 0 (v := .int .u64 (dl.1 : Int)) rfl
  have r1 := H11.out.1.k.cell 1 (v := .int .u64 (dl.2 : Int)) rfl
  have r2 := H11.out.1.k.cell 2 (v := .slice Az nz cz) rfl
  have r3 := H11.out.1.k.cell 3 (v := .int .u64 (first : Int)) rfl
  have kk : ((nz : Int) != N) = true := by rw [bne_iff_ne]; exact HK.out
  go_wp2_with fail
  refine (HCd.out w11 H11.out.1.h).mono ?_
  rintro e w12 ⟨rfl, hb12⟩
  have HF := Lib.hid (H11.out.1.b.trans (hb12.mono H11.out.1.b.size))
  clear hb12
  go_wp2
  go_ret
  exact ⟨rfl, HF.out⟩

set_option maxHeartbeats 16000000 in
set_option maxRecDepth 100000 in
theorem tables_col (N : Int) (Ag : Option Addr) (n cg : Nat) (y : Nat → Nat → Int) (Ao : Option Addr) (m co : Nat) (o : Nat → Int) (dl : Lab) (Az : Option Addr) (nz cz first : Nat) (zin : Nat → Lab) (w : World) (hh : Handle w) (hg : AtV w Ag (n * 3) (gv y)) (ho : AtV w Ao m (iv o)) (hn : n ≤ cg) (hm : m ≤ co) (zg : Ag = none → n = 0 ∧ cg = 0) (zo : Ao = none → m = 0 ∧ co = 0) (hdl : Garb.Wd dl) (hfi : first < 18446744073709551616) (hz : AtV w Az (nz * 2) (lv zin)) (hzw : ∀ i, Garb.Wd (zin i)) (hz0 : Az = none → nz = 0 ∧ cz = 0) (hnz : nz ≤ cz) (hfit : (nz + 1) * 16 ≤ 140737488355328) (hsm : (decide (n ≤ 60) && decide (N ≤ 200)) = true) (hG : Circ.Good N n y (min m 80) o) (hK : (nz : Int) = N) (hC : Garb.ncol dl = false) :
    Calls Tryd.prog 3 #[circV N Ag n cg Ao m co, keysV dl Az nz cz first] w fun e w' => e = .returned (.bool true) ∧ Below w.heap.size w w' := by
  have HK := Lib.hid (And.intro hK hC)
  clear hK hC
  have X0 := Blk.new w 25 #[.int .i64 N, .slice Ag n cg, .slice Ao m co]
  have b0 := (Below.refl w.heap.size w).alloc (Nat.le_refl _) (.cells #[.int .i64 N, .slice Ag n cg, .slice Ao m co] 25)
  have X1 := Blk.new (w.alloc (.cells #[.int .i64 N, .slice Ag n cg, .slice Ao m co] 25)) 31 #[.int .u64 (dl.1 : Int), .int .u64 (dl.2 : Int), .slice Az nz cz, .int .u64 (first : Int)]
  have b1 := b0.alloc b0.size (.cells #[.int .u64 (dl.1 : Int), .int .u64 (dl.2 : Int), .slice Az nz cz, .int .u64 (first : Int)] 31)
  have Y0 := X0.alloc (.cells #[.int .u64 (dl.1 : Int), .int .u64 (dl.2 : Int), .slice Az nz cz, .int .u64 (first : Int)] 31)
  simp only [World.size_alloc] at X1
  have HAw := Lib.hid (awake_any ((w.alloc (.cells #[.int .i64 N, .slice Ag n cg, .slice Ao m co] 25)).alloc (.cells #[.int .u64 (dl.1 : Int), .int .u64 (dl.2 : Int), .slice Az nz cz, .int .u64 (first : Int)] 31)) (hh.belowS b1))
  have H1 := Lib.hid (show Below w.heap.size w ((w.alloc (.cells #[.int .i64 N, .slice Ag n cg, .slice Ao m co] 25)).alloc (.cells #[.int .u64 (dl.1 : Int), .int .u64 (dl.2 : Int), .slice Az nz cz, .int .u64 (first : Int)] 31)) ∧ circB ((w.alloc (.cells #[.int .i64 N, .slice Ag n cg, .slice Ao m co] 25)).alloc (.cells #[.int .u64 (dl.1 : Int), .int .u64 (dl.2 : Int), .slice Az nz cz, .int .u64 (first : Int)] 31)) w.heap.size N Ag n cg Ao m co ∧ KyB ((w.alloc (.cells #[.int .i64 N, .slice Ag n cg, .slice Ao m co] 25)).alloc (.cells #[.int .u64 (dl.1 : Int), .int .u64 (dl.2 : Int), .slice Az nz cz, .int .u64 (first : Int)] 31)) (w.heap.size + 1) dl Az nz cz first ∧ Handle ((w.alloc (.cells #[.int .i64 N, .slice Ag n cg, .slice Ao m co] 25)).alloc (.cells #[.int .u64 (dl.1 : Int), .int .u64 (dl.2 : Int), .slice Az nz cz, .int .u64 (first : Int)] 31)) from ⟨b1, Y0, X1, hh.belowS b1⟩)
  have HA := Lib.hid (And.intro hg (And.intro ho (And.intro hn (And.intro hm (And.intro zg (And.intro zo (And.intro hz (And.intro hz0 hnz))))))))
  have HH0 := Lib.hid hh
  have HD := Lib.hid (And.intro hdl (And.intro hfi hzw))
  have HFt := Lib.hid hfit
  clear X0 X1 b0 b1 Y0 hh hg ho hn hm zg zo hz hz0 hnz hdl hfi hzw hfit
  go_enter Tryd.func3, Tryd.ntmps3
  go_wp2_with fail
  refine HAw.out.mono ?_
  rintro e w2 ⟨rfl, hb2⟩
  have h0 := H1.out
  have H2 := Lib.hid (show Below w.heap.size w w2 ∧ circB w2 w.heap.size N Ag n cg Ao m co ∧ KyB w2 (w.heap.size + 1) dl Az nz cz first ∧ Handle w2 from ⟨h0.1.trans (hb2.mono h0.1.size), h0.2.1.below hb2 h0.2.1.lt, h0.2.2.1.below hb2 h0.2.2.1.lt, h0.2.2.2.belowS hb2⟩)
  clear H1 h0 hb2 HAw
  have c0 := H2.out.2.1.cell 0 (v := .int .i64 N) rfl
  have c1 := H2.out.2.1.cell 1 (v := .slice Ag n cg) rfl
  have c2 := H2.out.2.1.cell 2 (v := .slice Ao m co) rfl
  have HSm := Lib.hid (small_any w2 N Ag n cg Ao m co)
  have hnn : n ≤ 60 ∧ N ≤ 200 := by simpa using hsm
  rw [hsm] at HSm
  have HM0 := Lib.hid hnn
  clear hsm hnn
  go_wp2_with fail
  refine HSm.out.mono ?_
  rintro e w3 ⟨rfl, hb3⟩
  have h0 := H2.out
  have H3 := Lib.hid (show Below w.heap.size w w3 ∧ circB w3 w.heap.size N Ag n cg Ao m co ∧ KyB w3 (w.heap.size + 1) dl Az nz cz first ∧ Handle w3 from ⟨h0.1.trans (hb3.mono h0.1.size), h0.2.1.below hb3 h0.2.1.lt, h0.2.2.1.below hb3 h0.2.2.1.lt, h0.2.2.2.belowS hb3⟩)
  clear H2 h0 hb3 HSm c0 c1 c2
  have c0 := H3.out.2.1.cell 0 (v := .int .i64 N) rfl
  have c1 := H3.out.2.1.cell 1 (v := .slice Ag n cg) rfl
  have c2 := H3.out.2.1.cell 2 (v := .slice Ao m co) rfl
  have HO := Lib.hid (own_any w3 N Ag n cg y Ao m co o (HA.out.1.below H3.out.1) (HA.out.2.1.below H3.out.1) HA.out.2.2.1 HA.out.2.2.2.1 HA.out.2.2.2.2.1 HA.out.2.2.2.2.2.1)
  go_wp2_with fail
  refine HO.out.mono ?_
  rintro e w4 ⟨g1, k1, g2, k2, rfl, hg1, hg2, hR1, hR2, hb4⟩
  obtain ⟨L, hL⟩ : ∃ L, min m 80 = L := ⟨_, rfl⟩
  rw [show min n 4200 = n by have := HM0.out; omega] at hR1 ⊢
  rw [hL] at hR2 ⊢
  clear c0 c1 c2 HO
  have h0 := H3.out
  have hsz3 := h0.2.2.1.lt
  have X4 := h0.2.1.below hb4 h0.2.1.lt
  have x0 := X4.cell 0 (v := .int .i64 N) rfl
  have x1 := X4.cell 1 (v := .slice Ag n cg) rfl
  have x2 := X4.cell 2 (v := .slice Ao m co) rfl
  have xf := X4.frozen
  have hci : Ci w.heap.size N g1 n k1 g2 L k2 y o (((w4.setCell ⟨w.heap.size, 0, none⟩ (.int .i64 N)).setCell ⟨w.heap.size, 1, none⟩ (.slice (some ⟨g1, 0, none⟩) n k1)).setCell ⟨w.heap.size, 2, none⟩ (.slice (some ⟨g2, 0, none⟩) L k2)) := ci_store _ X4 rfl (by omega) (by omega) hR1.atv (by have := hR2.atv; rwa [Nat.mul_one] at this)
  have hcs := (((Chg.refl (fun q => q = w.heap.size) w4).set (p := ⟨w.heap.size, 0, none⟩) (.inr rfl) (.int .i64 N)).set (p := ⟨w.heap.size, 1, none⟩) (.inr rfl) (.slice (some ⟨g1, 0, none⟩) n k1)).set (p := ⟨w.heap.size, 2, none⟩) (.inr rfl) (.slice (some ⟨g2, 0, none⟩) L k2)
  have hbw := (h0.1.trans (hb4.mono h0.1.size)).trans (hcs.below (by have := h0.1.size; have := hb4.size; omega) (fun q e => by omega))
  have hk5 := (h0.2.2.1.below hb4 h0.2.2.1.lt).chg hcs (by omega)
  have hR5 := hR1.chg hcs (fun q hq e => by
    obtain rfl : g1 = q := Option.some.inj hq
    omega)
  have H5 := Lib.hid (show Lw w N g1 n k1 g2 L k2 y o dl Az nz cz first _ from ⟨hci, hk5, hR5.mono (fun q hq => by
    obtain rfl : g1 = q := Option.some.inj hq
    have := h0.1.size
    omega), (hR2.chg hcs (fun q hq e => by
    obtain rfl : g2 = q := Option.some.inj hq
    omega)).mono (fun q hq => by
    obtain rfl : g2 = q := Option.some.inj hq
    have := h0.1.size
    omega), HH0.out.belowS hbw, hbw⟩)
  have HG := Lib.hid (show Circ.Good N n y L o by rw [← hL]; exact hG)
  clear hG
  have HM := Lib.hid (show n ≤ 60 ∧ N ≤ 200 ∧ L ≤ 80 ∧ n ≤ k1 ∧ L ≤ k2 ∧ w.heap.size + 1 < g1 from ⟨HM0.out.1, HM0.out.2, by omega, hR1.le, hR2.le, by omega⟩)
  clear hg1 hg2 hR1 hR2 hb4 hL h0 hsz3 X4 hci hcs hbw hk5 hR5 H3 HM0
  go_upto_region 4 with fail
  clear x0 x1 x2 xf
  generalize (((w4.setCell ⟨w.heap.size, 0, none⟩ (.int .i64 N)).setCell ⟨w.heap.size, 1, none⟩ (.slice (some ⟨g1, 0, none⟩) n k1)).setCell ⟨w.heap.size, 2, none⟩ (.slice (some ⟨g2, 0, none⟩) L k2)) = w5 at *
  have r2 := (H5.out.k.below ((Below.refl w5.heap.size w5).alloc (Nat.le_refl _) (.cells #[] 28)) H5.out.k.lt).cell 2 (v := .slice Az nz cz) rfl
  obtain ⟨gj, kj, w6, hr1, hgj, hgj6, hkj, hR6, hb6⟩ := append_empty eltL w5 Az nz cz (lv zin) (HA.out.2.2.2.2.2.2.1.below H5.out.b) HA.out.2.2.2.2.2.2.2.1 (lv_one zin) (by have := HFt.out; unfold maxLen; omega) (by have := HFt.out; omega)
  obtain ⟨gi, ki, w7, hr2, hgi, hR7, hgr, hor⟩ := append_one eltL w6 w5.heap.size _ nz (lv zin) (lv fun _ => (7, 7)) #[.int .u64 7, .int .u64 7] hR6 (fun j hj => by
    rcases (show j = 0 ∨ j = 1 by omega) with rfl | rfl <;> rfl) (lv_one _) (by have := HFt.out; omega) (by have := HFt.out; unfold maxLen; omega) hb6.size
  have hown := hR6.own
  have hb7 : Below w5.heap.size w5 w7 := (hb6.alloc hb6.size (.cells #[.int .u64 7, .int .u64 7] 28)).grown hgr (by simp; omega) (fun q hq => (hown q hq).1)
  have hRm := hR7.congr (G := lv (inM nz zin)) (lv_next (M := inM nz zin) (fun i hi => by unfold inM; rw [if_pos hi]) (by unfold inM; rw [if_neg (by omega)]))
  have hki := hRm.le
  have hRa := hRm.atv
  have hIn : AtV w7 (some ⟨gi, 0, none⟩) (nz * 2) (lv zin) := fun i hi => by
    obtain ⟨ad, e, hc⟩ := hRa i (by omega)
    refine ⟨ad, e, ?_⟩
    rw [hc, lv_congr (L := inM nz zin) (M := zin) (n := nz) (fun i hi => by unfold inM; rw [if_pos hi]) i hi]
  obtain ⟨_, e9, ae, hae, s0, s1, -⟩ := hRa.lab nz (by omega)
  cases e9
  rw [Addr.add_mid, Nat.zero_add] at hae
  subst hae
  unfold inM at s0 s1
  rw [if_neg (by omega)] at s0 s1
  have H7 := Lib.hid (show Lw w N g1 n k1 g2 L k2 y o dl Az nz cz first w7 ∧ AtV w7 (some ⟨gi, 0, none⟩) (nz * 2) (lv zin) ∧ AtV w7 Az (nz * 2) (lv zin) ∧ w7.cell? ⟨gi, nz * 2, none⟩ = some (.int .u64 7) ∧ w7.cell? ⟨gi, nz * 2 + 1, none⟩ = some (.int .u64 7) ∧ nz + 1 ≤ ki from ⟨H5.out.below hb7, hIn, HA.out.2.2.2.2.2.2.1.below (H5.out.b.trans (hb7.mono H5.out.b.size)), s0, s1, hki⟩)
  have HR1 := Lib.hid hr1
  have HR2 := Lib.hid hr2
  clear hr1 hgj hgj6 hkj hR6 hb6 hr2 hgi hR7 hgr hor hown hb7 hRm hki hRa hIn s0 s1 H5
  go_wp2_with (at_builtin; first | refine wpList_append_run rfl _ _ 29 rfl (.slice (some ⟨w5.heap.size, 0, none⟩) 0 0) (.slice Az nz cz) (.slice (some ⟨gj, 0, none⟩) nz kj) w6 rfl rfl (HR1.out _) ?_ | refine wpList_append_run rfl _ _ 29 rfl (.slice (some ⟨gj, 0, none⟩) nz kj) (.slice (some ⟨w6.heap.size, 0, none⟩) 1 1) (.slice (some ⟨gi, 0, none⟩) (nz + 1) ki) w7 rfl rfl (HR2.out _) ?_)
  clear HR1 HR2 r2

  refine wp_region_held_drew (S := fun w' => Below w7.heap.size w7 w') (by kernel_rfl) (drew_below w7) (fun hS => ?_)
  refine htg (i := 0) rfl (circV N (some ⟨g1, 0, none⟩) n k1 (some ⟨g2, 0, none⟩) L k2) (by kernel_rfl) (by kernel_rfl) (by kernel_rfl) (fun _ _ _ h => h) (by rfl) hS (fun w' hw' => by have hc := (H7.out.1.below hw').c.c; have q0 := hc.cell 0 (v := .int .i64 N) rfl; have q1 := hc.cell 1 (v := .slice (some ⟨g1, 0, none⟩) n k1) rfl; have q2 := hc.cell 2 (v := .slice (some ⟨g2, 0, none⟩) L k2) rfl; clear hc; go_simp) ?_
  try simp only [Act.put, List.setIfInBounds_toArray, List.set_cons_zero, List.set_cons_succ]
  refine htg (i := 1) rfl (.pointer (some ⟨w.heap.size + 1, 0, none⟩)) (by kernel_rfl) (by kernel_rfl) (by kernel_rfl) (fun _ _ _ h => h) (by rfl) hS (fun w' hw' => by go_simp) ?_
  try simp only [Act.put, List.setIfInBounds_toArray, List.set_cons_zero, List.set_cons_succ]
  refine htg (i := 2) rfl (labL dl) (by kernel_rfl) (by kernel_rfl) (by kernel_rfl) (fun _ _ _ h => h) (by rfl) hS (fun w' hw' => by have hk := (H7.out.1.below hw').k; have q0 := hk.cell 0 (v := .int .u64 (dl.1 : Int)) rfl; have q1 := hk.cell 1 (v := .int .u64 (dl.2 : Int)) rfl; clear hk; go_simp) ?_
  try simp only [Act.put, List.setIfInBounds_toArray, List.set_cons_zero, List.set_cons_succ]
  refine htg (i := 3) rfl (.slice (some ⟨gi, 0, none⟩) (nz + 1) ki) (by kernel_rfl) (by kernel_rfl) (by kernel_rfl) (fun _ _ _ h => h) (by rfl) hS (fun w' hw' => by go_simp) ?_
  try simp only [Act.put, List.setIfInBounds_toArray, List.set_cons_zero, List.set_cons_succ]
  refine htg (i := 4) rfl (.pointer (some ⟨w.heap.size + 1, 2, none⟩)) (by kernel_rfl) (by kernel_rfl) (by kernel_rfl) (fun _ _ _ h => h) (by rfl) hS (fun w' hw' => by go_simp) ?_
  try simp only [Act.put, List.setIfInBounds_toArray, List.set_cons_zero, List.set_cons_succ]
  refine htg (i := 5) rfl (.slice Az nz cz) (by kernel_rfl) (by kernel_rfl) (by kernel_rfl) (fun _ _ _ h => h) (by rfl) hS (fun w' hw' => by have hk := (H7.out.1.below hw').k; have q0 := hk.cell 2 (v := .slice Az nz cz) rfl; clear hk; go_simp) ?_
  try simp only [Act.put, List.setIfInBounds_toArray, List.set_cons_zero, List.set_cons_succ]
  refine htg (i := 6) rfl (.int .i64 (nz : Int)) (by kernel_rfl) (by kernel_rfl) (by kernel_rfl) (fun _ _ _ h => h) (by rfl) hS (fun w' hw' => by go_simp) ?_
  try simp only [Act.put, List.setIfInBounds_toArray, List.set_cons_zero, List.set_cons_succ]
  refine htg (i := 7) rfl (.slice (some ⟨gi, 0, none⟩) nz ki) (by kernel_rfl) (by kernel_rfl) (by kernel_rfl) (fun _ _ _ h => h) (by rfl) hS (fun w' hw' => by have z0 : (0 : Int) ≤ (nz : Int) := (by omega); have z1 : (nz : Int) ≤ (ki : Int) := (by have := H7.out.2.2.2.2.2; omega); have z2 : (nz : Int) ≤ (nz : Int) + 1 := (by omega); go_simp) ?_
  try simp only [Act.put, List.setIfInBounds_toArray, List.set_cons_zero, List.set_cons_succ]
  refine htg (i := 8) rfl (.pointer (some ⟨w.heap.size + 1, 3, none⟩)) (by kernel_rfl) (by kernel_rfl) (by kernel_rfl) (fun _ _ _ h => h) (by rfl) hS (fun w' hw' => by go_simp) ?_
  try simp only [Act.put, List.setIfInBounds_toArray, List.set_cons_zero, List.set_cons_succ]
  refine htg (i := 9) rfl (.int .u64 (first : Int)) (by kernel_rfl) (by kernel_rfl) (by kernel_rfl) (fun _ _ _ h => h) (by rfl) hS (fun w' hw' => by have hk := (H7.out.1.below hw').k; have q0 := hk.cell 3 (v := .int .u64 (first : Int)) rfl; clear hk; go_simp) ?_
  try simp only [Act.put, List.setIfInBounds_toArray, List.set_cons_zero, List.set_cons_succ]
  refine h1g (i := 10) (by kernel_rfl) rfl (by rfl) (fun K' hK => ?_)
  go_simp
  have hx7 := H7.out.1.below hS
  have hin7 := H7.out.2.1.below hS
  refine (garble_col w7.drew N (some ⟨g1, 0, none⟩) n k1 y (some ⟨g2, 0, none⟩) L k2 o dl (some ⟨gi, 0, none⟩) nz ki first hx7.h hx7.c.g hx7.c.o (by have := HM.out; unfold maxLen; omega) (by have := HM.out; unfold maxLen; omega) HG.out HK.out.1 HK.out.2).mono ?_
  rintro e w8 ⟨⟨p, a, rfl⟩, hb8⟩
  obtain ⟨T, x, hT⟩ := chain_iface [(p, a)] 100
  have HCd := Lib.hid (fun wx hx => code_chain [(p, a)] 100 wx hx)
  rw [hT] at HCd ⊢
  clear hT
  have hS := hS.trans (hb8.mono hS.size)
  refine hK.out _ _ hS ?_
  clear hK K' hx7 hin7
  try simp only [Act.put, List.setIfInBounds_toArray, List.set_cons_zero, List.set_cons_succ]
  refine htg (i := 11) rfl (.tuple #[.slice none 0 0, .slice none 0 0, .iface T x]) (by kernel_rfl) (by kernel_rfl) (by kernel_rfl) (fun _ _ _ h => h) (by rfl) hS (fun w' hw' => by go_simp) ?_
  try simp only [Act.put, List.setIfInBounds_toArray, List.set_cons_zero, List.set_cons_succ]
  refine htg (i := 12) rfl (.slice none 0 0) (by kernel_rfl) (by kernel_rfl) (by kernel_rfl) (fun _ _ _ h => h) (by rfl) hS (fun w' hw' => by go_simp) ?_
  try simp only [Act.put, List.setIfInBounds_toArray, List.set_cons_zero, List.set_cons_succ]
  refine htg (i := 13) rfl (.slice none 0 0) (by kernel_rfl) (by kernel_rfl) (by kernel_rfl) (fun _ _ _ h => h) (by rfl) hS (fun w' hw' => by go_simp) ?_
  try simp only [Act.put, List.setIfInBounds_toArray, List.set_cons_zero, List.set_cons_succ]
  refine htg (i := 14) rfl (.iface T x) (by kernel_rfl) (by kernel_rfl) (by kernel_rfl) (fun _ _ _ h => h) (by rfl) hS (fun w' hw' => by go_simp) ?_
  try simp only [Act.put, List.setIfInBounds_toArray, List.set_cons_zero, List.set_cons_succ]
  refine htg (i := 15) rfl (.slice none 0 0) (by kernel_rfl) (by kernel_rfl) (by kernel_rfl) (fun _ _ _ h => h) (by rfl) hS (fun w' hw' => by go_simp) ?_
  try simp only [Act.put, List.setIfInBounds_toArray, List.set_cons_zero, List.set_cons_succ]
  refine htg (i := 16) rfl (.slice none 0 0) (by kernel_rfl) (by kernel_rfl) (by kernel_rfl) (fun _ _ _ h => h) (by rfl) hS (fun w' hw' => by go_simp) ?_
  try simp only [Act.put, List.setIfInBounds_toArray, List.set_cons_zero, List.set_cons_succ]
  refine htg (i := 17) rfl (.iface T x) (by kernel_rfl) (by kernel_rfl) (by kernel_rfl) (fun _ _ _ h => h) (by rfl) hS (fun w' hw' => by go_simp) ?_
  try simp only [Act.put, List.setIfInBounds_toArray, List.set_cons_zero, List.set_cons_succ]
  have h0 := H7.out
  have H8 := Lib.hid (show Lw w N g1 n k1 g2 L k2 y o dl Az nz cz first w8 ∧ AtV w8 (some ⟨gi, 0, none⟩) (nz * 2) (lv zin) ∧ AtV w8 Az (nz * 2) (lv zin) ∧ w8.cell? ⟨gi, nz * 2, none⟩ = some (.int .u64 7) ∧ w8.cell? ⟨gi, nz * 2 + 1, none⟩ = some (.int .u64 7) ∧ nz + 1 ≤ ki from ⟨h0.1.below hS, h0.2.1.below hS, h0.2.2.1.below hS, (hS.cell (World.block_lt_of_cell? _ _ h0.2.2.2.1)).trans h0.2.2.2.1, (hS.cell (World.block_lt_of_cell? _ _ h0.2.2.2.2.1)).trans h0.2.2.2.2.1, h0.2.2.2.2.2⟩)
  refine wpAnyH_done (by kernel_rfl) ?_ _
  clear hS h0 H7 hb8
  go_wp2
  refine wp_region_held_drew (S := fun w' => Below w8.heap.size w8 w') (by kernel_rfl) (drew_below w8) (fun hS => ?_)
  refine htg (i := 0) rfl (.slice (some ⟨gi, 0, none⟩) (nz + 1) ki) (by kernel_rfl) (by kernel_rfl) (by kernel_rfl) (fun _ _ _ h => h) (by rfl) hS (fun w' hw' => by go_simp) ?_
  try simp only [Act.put, List.setIfInBounds_toArray, List.set_cons_zero, List.set_cons_succ]
  refine htg (i := 1) rfl (.pointer (some ⟨w.heap.size + 1, 2, none⟩)) (by kernel_rfl) (by kernel_rfl) (by kernel_rfl) (fun _ _ _ h => h) (by rfl) hS (fun w' hw' => by go_simp) ?_
  try simp only [Act.put, List.setIfInBounds_toArray, List.set_cons_zero, List.set_cons_succ]
  refine htg (i := 2) rfl (.slice Az nz cz) (by kernel_rfl) (by kernel_rfl) (by kernel_rfl) (fun _ _ _ h => h) (by rfl) hS (fun w' hw' => by have hk := (H8.out.1.below hw').k; have q0 := hk.cell 2 (v := .slice Az nz cz) rfl; clear hk; go_simp) ?_
  try simp only [Act.put, List.setIfInBounds_toArray, List.set_cons_zero, List.set_cons_succ]
  refine htg (i := 3) rfl (.int .i64 (nz : Int)) (by kernel_rfl) (by kernel_rfl) (by kernel_rfl) (fun _ _ _ h => h) (by rfl) hS (fun w' hw' => by go_simp) ?_
  try simp only [Act.put, List.setIfInBounds_toArray, List.set_cons_zero, List.set_cons_succ]
  refine htg (i := 4) rfl (.pointer (some ⟨gi, nz * 2, none⟩)) (by kernel_rfl) (by kernel_rfl) (by kernel_rfl) (fun _ _ _ h => h) (by rfl) hS (fun w' hw' => by have z0 : (0 : Int) ≤ (nz : Int) := (by omega); have z1 : (nz : Int) < (nz : Int) + 1 := (by omega); go_simp) ?_
  try simp only [Act.put, List.setIfInBounds_toArray, List.set_cons_zero, List.set_cons_succ]
  refine htg (i := 5) rfl (.agg #[.int .u64 7, .int .u64 7]) (by kernel_rfl) (by kernel_rfl) (by kernel_rfl) (fun _ _ _ h => h) (by rfl) hS (fun w' hw' => by have h0 := H8.out; have q0 := (hw'.cell (World.block_lt_of_cell? _ _ h0.2.2.2.1)).trans h0.2.2.2.1; have q1 := (hw'.cell (World.block_lt_of_cell? _ _ h0.2.2.2.2.1)).trans h0.2.2.2.2.1; clear h0; go_simp) ?_
  try simp only [Act.put, List.setIfInBounds_toArray, List.set_cons_zero, List.set_cons_succ]
  refine htg (i := 6) rfl (.agg #[.int .u64 7, .int .u64 7]) (by kernel_rfl) (by kernel_rfl) (by kernel_rfl) (fun _ _ _ h => h) (by rfl) hS (fun w' hw' => by go_simp) ?_
  try simp only [Act.put, List.setIfInBounds_toArray, List.set_cons_zero, List.set_cons_succ]
  refine htg (i := 7) rfl (.bool false) (by kernel_rfl) (by kernel_rfl) (by kernel_rfl) (fun _ _ _ h => h) (by rfl) hS (fun w' hw' => by have hq := Ae.run_eql_lab; go_simp) ?_
  try simp only [Act.put, List.setIfInBounds_toArray, List.set_cons_zero, List.set_cons_succ]
  refine htg (i := 8) rfl (.bool false) (by kernel_rfl) (by kernel_rfl) (by kernel_rfl) (fun _ _ _ h => h) (by rfl) hS (fun w' hw' => by go_simp) ?_
  try simp only [Act.put, List.setIfInBounds_toArray, List.set_cons_zero, List.set_cons_succ]
  refine htg (i := 9) rfl (.slice (some ⟨gi, 0, none⟩) (nz + 1) ki) (by kernel_rfl) (by kernel_rfl) (by kernel_rfl) (fun _ _ _ h => h) (by rfl) hS (fun w' hw' => by go_simp) ?_
  try simp only [Act.put, List.setIfInBounds_toArray, List.set_cons_zero, List.set_cons_succ]
  refine htg (i := 10) rfl (.pointer (some ⟨w.heap.size + 1, 2, none⟩)) (by kernel_rfl) (by kernel_rfl) (by kernel_rfl) (fun _ _ _ h => h) (by rfl) hS (fun w' hw' => by go_simp) ?_
  try simp only [Act.put, List.setIfInBounds_toArray, List.set_cons_zero, List.set_cons_succ]
  refine htg (i := 11) rfl (.slice Az nz cz) (by kernel_rfl) (by kernel_rfl) (by kernel_rfl) (fun _ _ _ h => h) (by rfl) hS (fun w' hw' => by have hk := (H8.out.1.below hw').k; have q0 := hk.cell 2 (v := .slice Az nz cz) rfl; clear hk; go_simp) ?_
  try simp only [Act.put, List.setIfInBounds_toArray, List.set_cons_zero, List.set_cons_succ]
  refine htg (i := 12) rfl (.int .i64 (nz : Int)) (by kernel_rfl) (by kernel_rfl) (by kernel_rfl) (fun _ _ _ h => h) (by rfl) hS (fun w' hw' => by go_simp) ?_
  try simp only [Act.put, List.setIfInBounds_toArray, List.set_cons_zero, List.set_cons_succ]
  refine htg (i := 13) rfl (.slice (some ⟨gi, 0, none⟩) nz ki) (by kernel_rfl) (by kernel_rfl) (by kernel_rfl) (fun _ _ _ h => h) (by rfl) hS (fun w' hw' => by have z0 : (0 : Int) ≤ (nz : Int) := (by omega); have z1 : (nz : Int) ≤ (ki : Int) := (by have := H8.out.2.2.2.2.2; omega); have z2 : (nz : Int) ≤ (nz : Int) + 1 := (by omega); go_simp) ?_
  try simp only [Act.put, List.setIfInBounds_toArray, List.set_cons_zero, List.set_cons_succ]
  refine htg (i := 14) rfl (.pointer (some ⟨w.heap.size + 1, 2, none⟩)) (by kernel_rfl) (by kernel_rfl) (by kernel_rfl) (fun _ _ _ h => h) (by rfl) hS (fun w' hw' => by go_simp) ?_
  try simp only [Act.put, List.setIfInBounds_toArray, List.set_cons_zero, List.set_cons_succ]
  refine htg (i := 15) rfl (.slice Az nz cz) (by kernel_rfl) (by kernel_rfl) (by kernel_rfl) (fun _ _ _ h => h) (by rfl) hS (fun w' hw' => by have hk := (H8.out.1.below hw').k; have q0 := hk.cell 2 (v := .slice Az nz cz) rfl; clear hk; go_simp) ?_
  try simp only [Act.put, List.setIfInBounds_toArray, List.set_cons_zero, List.set_cons_succ]
  refine h1g (i := 16) (by kernel_rfl) rfl (by rfl) (fun K' hK => ?_)
  go_simp
  refine (same_yes w8.drew (some ⟨gi, 0, none⟩) nz ki zin Az cz (H8.out.2.1.below hS) (H8.out.2.2.1.below hS) (by have := HFt.out; unfold maxLen; omega)).mono ?_
  rintro e w9 ⟨rfl, hb9⟩
  have hS := hS.trans (hb9.mono hS.size)
  refine hK.out _ _ hS ?_
  clear hK K'
  try simp only [Act.put, List.setIfInBounds_toArray, List.set_cons_zero, List.set_cons_succ]
  refine htg (i := 17) rfl (.bool false) (by kernel_rfl) (by kernel_rfl) (by kernel_rfl) (fun _ _ _ h => h) (by rfl) hS (fun w' hw' => by go_simp) ?_
  try simp only [Act.put, List.setIfInBounds_toArray, List.set_cons_zero, List.set_cons_succ]
  refine htg (i := 18) rfl (.bool false) (by kernel_rfl) (by kernel_rfl) (by kernel_rfl) (fun _ _ _ h => h) (by rfl) hS (fun w' hw' => by go_simp) ?_
  try simp only [Act.put, List.setIfInBounds_toArray, List.set_cons_zero, List.set_cons_succ]
  refine wpAnyH_done (by kernel_rfl) ?_ _
  have H9 := Lib.hid (show Lw w N g1 n k1 g2 L k2 y o dl Az nz cz first w9 ∧ AtV w9 Az (nz * 2) (lv zin) from ⟨H8.out.1.below hS, H8.out.2.2.1.below hS⟩)
  clear hS hb9 H8
  have q0 := H9.out.1.c.c.cell 0 (v := .int .i64 N) rfl
  have q1 := H9.out.1.c.c.cell 1 (v := .slice (some ⟨g1, 0, none⟩) n k1) rfl
  have q2 := H9.out.1.c.c.cell 2 (v := .slice (some ⟨g2, 0, none⟩) L k2) rfl
  have r0 := H9.out.1.k.cell 0 (v := .int .u64 (dl.1 : Int)) rfl
  have r1 := H9.out.1.k.cell 1 (v := .int .u64 (dl.2 : Int)) rfl
  have r2 := H9.out.1.k.cell 2 (v := .slice Az nz cz) rfl
  have r3 := H9.out.1.k.cell 3 (v := .int .u64 (first : Int)) rfl
  have HGa := Lib.hid (gates_any w9 N (some ⟨g1, 0, none⟩) n k1 y (some ⟨g2, 0, none⟩) L k2 H9.out.1.c.g (by have := HM.out.1; omega))
  go_wp2_with fail
  refine HGa.out.mono ?_
  rintro e w10 ⟨v10, rfl, hR10, hb10⟩
  obtain ⟨A10, c10, rfl, _, _, _, hA10, _, hal10⟩ := hR10.read
  have H10 := Lib.hid (show Lw w N g1 n k1 g2 L k2 y o dl Az nz cz first w10 ∧ AtV w10 Az (nz * 2) (lv zin) ∧ AtV w10 A10 (n * 3) (gv y) ∧ (∀ ad, A10 = some ad → ad = ⟨ad.block, 0, none⟩) from ⟨H9.out.1.below hb10, H9.out.2.below hb10, hA10, fun ad h => (hal10 ad h).choose_spec.2⟩)
  clear q0 q1 q2 r0 r1 r2 r3 HGa H9 hb10 hR10 hA10 hal10
  have q0 := H10.out.1.c.c.cell 0 (v := .int .i64 N) rfl
  have q1 := H10.out.1.c.c.cell 1 (v := .slice (some ⟨g1, 0, none⟩) n k1) rfl
  have q2 := H10.out.1.c.c.cell 2 (v := .slice (some ⟨g2, 0, none⟩) L k2) rfl
  have r0 := H10.out.1.k.cell 0 (v := .int .u64 (dl.1 : Int)) rfl
  have r1 := H10.out.1.k.cell 1 (v := .int .u64 (dl.2 : Int)) rfl
  have r2 := H10.out.1.k.cell 2 (v := .slice Az nz cz) rfl
  have r3 := H10.out.1.k.cell 3 (v := .int .u64 (first : Int)) rfl
  have HGo := Lib.hid (rgood_any w10 N A10 n c10 y (some ⟨g2, 0, none⟩) L k2 o H10.out.2.2.1 H10.out.1.c.o (by have := HM.out; omega) (by have := HM.out; omega))
  go_wp2_with fail
  refine HGo.out.mono ?_
  rintro e w11 ⟨hor, hb11⟩
  obtain rfl : e = .returned (.bool true) := by
    rcases hor with h | h
    · exact h.2
    · exact absurd HG.out h.1
  have H11 := Lib.hid (show Lw w N g1 n k1 g2 L k2 y o dl Az nz cz first w11 ∧ AtV w11 Az (nz * 2) (lv zin) ∧ AtV w11 A10 (n * 3) (gv y) ∧ (∀ ad, A10 = some ad → ad = ⟨ad.block, 0, none⟩) from ⟨H10.out.1.below hb11, H10.out.2.1.below hb11, H10.out.2.2.1.below hb11, H10.out.2.2.2⟩)
  clear q0 q1 q2 r0 r1 r2 r3 HGo H10 hor hb11
  have q0 := H11.out.1.c.c.cell 0 (v := .int .i64 N) rfl
  have q1 := H11.out.1.c.c.cell 1 (v := .slice (some ⟨g1, 0, none⟩) n k1) rfl
  have q2 := H11.out.1.c.c.cell 2 (v := .slice (some ⟨g2, 0, none⟩) L k2) rfl
  have r0 := H11.out.1.k.cell 0 (v := .int .u64 (dl.1 : Int)) rfl
  have r1 := H11.out.1.k.cell 1 (v := .int .u64 (dl.2 : Int)) rfl
  have r2 := H11.out.1.k.cell 2 (v := .slice Az nz cz) rfl
  have r3 := H11.out.1.k.cell 3 (v := .int .u64 (first : Int)) rfl
  have kk : ((nz : Int) != N) = false := by rw [HK.out.1]; simp
  have e1 : Int.tmod (dl.1 : Int) 2 = 0 := by
    have h := HK.out.2
    rw [Garb.ncol_mod] at h
    have h2 : dl.1 % 2 = 0 := by
      rcases (show dl.1 % 2 = 0 ∨ dl.1 % 2 = 1 by omega) with e | e
      · rw [e] at h; exact e
      · rw [e] at h; exact absurd h (by decide)
    rw [Int.tmod_eq_emod_of_nonneg (by omega)]; omega
  have e2 : IntKind.u64.wrap 0 = 0 := rfl
  go_wp2_with fail
  refine (HCd.out w11 H11.out.1.h).mono ?_
  rintro e w12 ⟨rfl, hb12⟩
  have HF := Lib.hid (H11.out.1.b.trans (hb12.mono H11.out.1.b.size))
  clear hb12
  go_wp2
  go_ret
  exact ⟨rfl, HF.out⟩

set_option maxHeartbeats 16000000 in
set_option maxRecDepth 100000 in
theorem tables_ok (N : Int) (Ag : Option Addr) (n cg : Nat) (y : Nat → Nat → Int) (Ao : Option Addr) (m co : Nat) (o : Nat → Int) (dl : Lab) (Az : Option Addr) (nz cz first : Nat) (zin : Nat → Lab) (w : World) (hh : Handle w) (hg : AtV w Ag (n * 3) (gv y)) (ho : AtV w Ao m (iv o)) (hn : n ≤ cg) (hm : m ≤ co) (zg : Ag = none → n = 0 ∧ cg = 0) (zo : Ao = none → m = 0 ∧ co = 0) (hdl : Garb.Wd dl) (hfi : first < 18446744073709551616) (hz : AtV w Az (nz * 2) (lv zin)) (hzw : ∀ i, Garb.Wd (zin i)) (hz0 : Az = none → nz = 0 ∧ cz = 0) (hnz : nz ≤ cz) (hfit : (nz + 1) * 16 ≤ 140737488355328) (hsm : (decide (n ≤ 60) && decide (N ≤ 200)) = true) (hG : Circ.Good N n y (min m 80) o) (hK : (nz : Int) = N) (hC : Garb.ncol dl = true) :
    Calls Tryd.prog 3 #[circV N Ag n cg Ao m co, keysV dl Az nz cz first] w fun e w' => e = .returned (.bool true) ∧ Below w.heap.size w w' := by
  have HK := Lib.hid (And.intro hK hC)
  clear hK hC
  obtain ⟨H, hH⟩ := hs_ex
  have HHs := Lib.hid hH
  clear hH
  have X0 := Blk.new w 25 #[.int .i64 N, .slice Ag n cg, .slice Ao m co]
  have b0 := (Below.refl w.heap.size w).alloc (Nat.le_refl _) (.cells #[.int .i64 N, .slice Ag n cg, .slice Ao m co] 25)
  have X1 := Blk.new (w.alloc (.cells #[.int .i64 N, .slice Ag n cg, .slice Ao m co] 25)) 31 #[.int .u64 (dl.1 : Int), .int .u64 (dl.2 : Int), .slice Az nz cz, .int .u64 (first : Int)]
  have b1 := b0.alloc b0.size (.cells #[.int .u64 (dl.1 : Int), .int .u64 (dl.2 : Int), .slice Az nz cz, .int .u64 (first : Int)] 31)
  have Y0 := X0.alloc (.cells #[.int .u64 (dl.1 : Int), .int .u64 (dl.2 : Int), .slice Az nz cz, .int .u64 (first : Int)] 31)
  simp only [World.size_alloc] at X1
  have HAw := Lib.hid (awake_any ((w.alloc (.cells #[.int .i64 N, .slice Ag n cg, .slice Ao m co] 25)).alloc (.cells #[.int .u64 (dl.1 : Int), .int .u64 (dl.2 : Int), .slice Az nz cz, .int .u64 (first : Int)] 31)) (hh.belowS b1))
  have H1 := Lib.hid (show Below w.heap.size w ((w.alloc (.cells #[.int .i64 N, .slice Ag n cg, .slice Ao m co] 25)).alloc (.cells #[.int .u64 (dl.1 : Int), .int .u64 (dl.2 : Int), .slice Az nz cz, .int .u64 (first : Int)] 31)) ∧ circB ((w.alloc (.cells #[.int .i64 N, .slice Ag n cg, .slice Ao m co] 25)).alloc (.cells #[.int .u64 (dl.1 : Int), .int .u64 (dl.2 : Int), .slice Az nz cz, .int .u64 (first : Int)] 31)) w.heap.size N Ag n cg Ao m co ∧ KyB ((w.alloc (.cells #[.int .i64 N, .slice Ag n cg, .slice Ao m co] 25)).alloc (.cells #[.int .u64 (dl.1 : Int), .int .u64 (dl.2 : Int), .slice Az nz cz, .int .u64 (first : Int)] 31)) (w.heap.size + 1) dl Az nz cz first ∧ Handle ((w.alloc (.cells #[.int .i64 N, .slice Ag n cg, .slice Ao m co] 25)).alloc (.cells #[.int .u64 (dl.1 : Int), .int .u64 (dl.2 : Int), .slice Az nz cz, .int .u64 (first : Int)] 31)) from ⟨b1, Y0, X1, hh.belowS b1⟩)
  have HA := Lib.hid (And.intro hg (And.intro ho (And.intro hn (And.intro hm (And.intro zg (And.intro zo (And.intro hz (And.intro hz0 hnz))))))))
  have HH0 := Lib.hid hh
  have HD := Lib.hid (And.intro hdl (And.intro hfi hzw))
  have HFt := Lib.hid hfit
  clear X0 X1 b0 b1 Y0 hh hg ho hn hm zg zo hz hz0 hnz hdl hfi hzw hfit
  go_enter Tryd.func3, Tryd.ntmps3
  go_wp2_with fail
  refine HAw.out.mono ?_
  rintro e w2 ⟨rfl, hb2⟩
  have h0 := H1.out
  have H2 := Lib.hid (show Below w.heap.size w w2 ∧ circB w2 w.heap.size N Ag n cg Ao m co ∧ KyB w2 (w.heap.size + 1) dl Az nz cz first ∧ Handle w2 from ⟨h0.1.trans (hb2.mono h0.1.size), h0.2.1.below hb2 h0.2.1.lt, h0.2.2.1.below hb2 h0.2.2.1.lt, h0.2.2.2.belowS hb2⟩)
  clear H1 h0 hb2 HAw
  have c0 := H2.out.2.1.cell 0 (v := .int .i64 N) rfl
  have c1 := H2.out.2.1.cell 1 (v := .slice Ag n cg) rfl
  have c2 := H2.out.2.1.cell 2 (v := .slice Ao m co) rfl
  have HSm := Lib.hid (small_any w2 N Ag n cg Ao m co)
  have hnn : n ≤ 60 ∧ N ≤ 200 := by simpa using hsm
  rw [hsm] at HSm
  have HM0 := Lib.hid hnn
  clear hsm hnn
  go_wp2_with fail
  refine HSm.out.mono ?_
  rintro e w3 ⟨rfl, hb3⟩
  have h0 := H2.out
  have H3 := Lib.hid (show Below w.heap.size w w3 ∧ circB w3 w.heap.size N Ag n cg Ao m co ∧ KyB w3 (w.heap.size + 1) dl Az nz cz first ∧ Handle w3 from ⟨h0.1.trans (hb3.mono h0.1.size), h0.2.1.below hb3 h0.2.1.lt, h0.2.2.1.below hb3 h0.2.2.1.lt, h0.2.2.2.belowS hb3⟩)
  clear H2 h0 hb3 HSm c0 c1 c2
  have c0 := H3.out.2.1.cell 0 (v := .int .i64 N) rfl
  have c1 := H3.out.2.1.cell 1 (v := .slice Ag n cg) rfl
  have c2 := H3.out.2.1.cell 2 (v := .slice Ao m co) rfl
  have HO := Lib.hid (own_any w3 N Ag n cg y Ao m co o (HA.out.1.below H3.out.1) (HA.out.2.1.below H3.out.1) HA.out.2.2.1 HA.out.2.2.2.1 HA.out.2.2.2.2.1 HA.out.2.2.2.2.2.1)
  go_wp2_with fail
  refine HO.out.mono ?_
  rintro e w4 ⟨g1, k1, g2, k2, rfl, hg1, hg2, hR1, hR2, hb4⟩
  obtain ⟨L, hL⟩ : ∃ L, min m 80 = L := ⟨_, rfl⟩
  rw [show min n 4200 = n by have := HM0.out; omega] at hR1 ⊢
  rw [hL] at hR2 ⊢
  clear c0 c1 c2 HO
  have h0 := H3.out
  have hsz3 := h0.2.2.1.lt
  have X4 := h0.2.1.below hb4 h0.2.1.lt
  have x0 := X4.cell 0 (v := .int .i64 N) rfl
  have x1 := X4.cell 1 (v := .slice Ag n cg) rfl
  have x2 := X4.cell 2 (v := .slice Ao m co) rfl
  have xf := X4.frozen
  have hci : Ci w.heap.size N g1 n k1 g2 L k2 y o (((w4.setCell ⟨w.heap.size, 0, none⟩ (.int .i64 N)).setCell ⟨w.heap.size, 1, none⟩ (.slice (some ⟨g1, 0, none⟩) n k1)).setCell ⟨w.heap.size, 2, none⟩ (.slice (some ⟨g2, 0, none⟩) L k2)) := ci_store _ X4 rfl (by omega) (by omega) hR1.atv (by have := hR2.atv; rwa [Nat.mul_one] at this)
  have hcs := (((Chg.refl (fun q => q = w.heap.size) w4).set (p := ⟨w.heap.size, 0, none⟩) (.inr rfl) (.int .i64 N)).set (p := ⟨w.heap.size, 1, none⟩) (.inr rfl) (.slice (some ⟨g1, 0, none⟩) n k1)).set (p := ⟨w.heap.size, 2, none⟩) (.inr rfl) (.slice (some ⟨g2, 0, none⟩) L k2)
  have hbw := (h0.1.trans (hb4.mono h0.1.size)).trans (hcs.below (by have := h0.1.size; have := hb4.size; omega) (fun q e => by omega))
  have hk5 := (h0.2.2.1.below hb4 h0.2.2.1.lt).chg hcs (by omega)
  have hR5 := hR1.chg hcs (fun q hq e => by
    obtain rfl : g1 = q := Option.some.inj hq
    omega)
  have H5 := Lib.hid (show Lw w N g1 n k1 g2 L k2 y o dl Az nz cz first _ from ⟨hci, hk5, hR5.mono (fun q hq => by
    obtain rfl : g1 = q := Option.some.inj hq
    have := h0.1.size
    omega), (hR2.chg hcs (fun q hq e => by
    obtain rfl : g2 = q := Option.some.inj hq
    omega)).mono (fun q hq => by
    obtain rfl : g2 = q := Option.some.inj hq
    have := h0.1.size
    omega), HH0.out.belowS hbw, hbw⟩)
  have HG := Lib.hid (show Circ.Good N n y L o by rw [← hL]; exact hG)
  clear hG
  have HM := Lib.hid (show n ≤ 60 ∧ N ≤ 200 ∧ L ≤ 80 ∧ n ≤ k1 ∧ L ≤ k2 ∧ w.heap.size + 1 < g1 from ⟨HM0.out.1, HM0.out.2, by omega, hR1.le, hR2.le, by omega⟩)
  clear hg1 hg2 hR1 hR2 hb4 hL h0 hsz3 X4 hci hcs hbw hk5 hR5 H3 HM0
  go_upto_region 4 with fail
  clear x0 x1 x2 xf
  generalize (((w4.setCell ⟨w.heap.size, 0, none⟩ (.int .i64 N)).setCell ⟨w.heap.size, 1, none⟩ (.slice (some ⟨g1, 0, none⟩) n k1)).setCell ⟨w.heap.size, 2, none⟩ (.slice (some ⟨g2, 0, none⟩) L k2)) = w5 at *
  have r2 := (H5.out.k.below ((Below.refl w5.heap.size w5).alloc (Nat.le_refl _) (.cells #[] 28)) H5.out.k.lt).cell 2 (v := .slice Az nz cz) rfl
  obtain ⟨gj, kj, w6, hr1, hgj, hgj6, hkj, hR6, hb6⟩ := append_empty eltL w5 Az nz cz (lv zin) (HA.out.2.2.2.2.2.2.1.below H5.out.b) HA.out.2.2.2.2.2.2.2.1 (lv_one zin) (by have := HFt.out; unfold maxLen; omega) (by have := HFt.out; omega)
  obtain ⟨gi, ki, w7, hr2, hgi, hR7, hgr, hor⟩ := append_one eltL w6 w5.heap.size _ nz (lv zin) (lv fun _ => (7, 7)) #[.int .u64 7, .int .u64 7] hR6 (fun j hj => by
    rcases (show j = 0 ∨ j = 1 by omega) with rfl | rfl <;> rfl) (lv_one _) (by have := HFt.out; omega) (by have := HFt.out; unfold maxLen; omega) hb6.size
  have hown := hR6.own
  have hb7 : Below w5.heap.size w5 w7 := (hb6.alloc hb6.size (.cells #[.int .u64 7, .int .u64 7] 28)).grown hgr (by simp; omega) (fun q hq => (hown q hq).1)
  have hRm := hR7.congr (G := lv (inM nz zin)) (lv_next (M := inM nz zin) (fun i hi => by unfold inM; rw [if_pos hi]) (by unfold inM; rw [if_neg (by omega)]))
  have hki := hRm.le
  have hRa := hRm.atv
  have hIn : AtV w7 (some ⟨gi, 0, none⟩) (nz * 2) (lv zin) := fun i hi => by
    obtain ⟨ad, e, hc⟩ := hRa i (by omega)
    refine ⟨ad, e, ?_⟩
    rw [hc, lv_congr (L := inM nz zin) (M := zin) (n := nz) (fun i hi => by unfold inM; rw [if_pos hi]) i hi]
  obtain ⟨_, e9, ae, hae, s0, s1, -⟩ := hRa.lab nz (by omega)
  cases e9
  rw [Addr.add_mid, Nat.zero_add] at hae
  subst hae
  unfold inM at s0 s1
  rw [if_neg (by omega)] at s0 s1
  have H7 := Lib.hid (show Lw w N g1 n k1 g2 L k2 y o dl Az nz cz first w7 ∧ AtV w7 (some ⟨gi, 0, none⟩) (nz * 2) (lv zin) ∧ AtV w7 Az (nz * 2) (lv zin) ∧ w7.cell? ⟨gi, nz * 2, none⟩ = some (.int .u64 7) ∧ w7.cell? ⟨gi, nz * 2 + 1, none⟩ = some (.int .u64 7) ∧ nz + 1 ≤ ki from ⟨H5.out.below hb7, hIn, HA.out.2.2.2.2.2.2.1.below (H5.out.b.trans (hb7.mono H5.out.b.size)), s0, s1, hki⟩)
  have HR1 := Lib.hid hr1
  have HR2 := Lib.hid hr2
  clear hr1 hgj hgj6 hkj hR6 hb6 hr2 hgi hR7 hgr hor hown hb7 hRm hki hRa hIn s0 s1 H5
  go_wp2_with (at_builtin; first | refine wpList_append_run rfl _ _ 29 rfl (.slice (some ⟨w5.heap.size, 0, none⟩) 0 0) (.slice Az nz cz) (.slice (some ⟨gj, 0, none⟩) nz kj) w6 rfl rfl (HR1.out _) ?_ | refine wpList_append_run rfl _ _ 29 rfl (.slice (some ⟨gj, 0, none⟩) nz kj) (.slice (some ⟨w6.heap.size, 0, none⟩) 1 1) (.slice (some ⟨gi, 0, none⟩) (nz + 1) ki) w7 rfl rfl (HR2.out _) ?_)
  clear HR1 HR2 r2

  refine wp_region_held_drew (S := fun w' => Below w7.heap.size w7 w') (by kernel_rfl) (drew_below w7) (fun hS => ?_)
  refine htg (i := 0) rfl (circV N (some ⟨g1, 0, none⟩) n k1 (some ⟨g2, 0, none⟩) L k2) (by kernel_rfl) (by kernel_rfl) (by kernel_rfl) (fun _ _ _ h => h) (by rfl) hS (fun w' hw' => by have hc := (H7.out.1.below hw').c.c; have q0 := hc.cell 0 (v := .int .i64 N) rfl; have q1 := hc.cell 1 (v := .slice (some ⟨g1, 0, none⟩) n k1) rfl; have q2 := hc.cell 2 (v := .slice (some ⟨g2, 0, none⟩) L k2) rfl; clear hc; go_simp) ?_
  try simp only [Act.put, List.setIfInBounds_toArray, List.set_cons_zero, List.set_cons_succ]
  refine htg (i := 1) rfl (.pointer (some ⟨w.heap.size + 1, 0, none⟩)) (by kernel_rfl) (by kernel_rfl) (by kernel_rfl) (fun _ _ _ h => h) (by rfl) hS (fun w' hw' => by go_simp) ?_
  try simp only [Act.put, List.setIfInBounds_toArray, List.set_cons_zero, List.set_cons_succ]
  refine htg (i := 2) rfl (labL dl) (by kernel_rfl) (by kernel_rfl) (by kernel_rfl) (fun _ _ _ h => h) (by rfl) hS (fun w' hw' => by have hk := (H7.out.1.below hw').k; have q0 := hk.cell 0 (v := .int .u64 (dl.1 : Int)) rfl; have q1 := hk.cell 1 (v := .int .u64 (dl.2 : Int)) rfl; clear hk; go_simp) ?_
  try simp only [Act.put, List.setIfInBounds_toArray, List.set_cons_zero, List.set_cons_succ]
  refine htg (i := 3) rfl (.slice (some ⟨gi, 0, none⟩) (nz + 1) ki) (by kernel_rfl) (by kernel_rfl) (by kernel_rfl) (fun _ _ _ h => h) (by rfl) hS (fun w' hw' => by go_simp) ?_
  try simp only [Act.put, List.setIfInBounds_toArray, List.set_cons_zero, List.set_cons_succ]
  refine htg (i := 4) rfl (.pointer (some ⟨w.heap.size + 1, 2, none⟩)) (by kernel_rfl) (by kernel_rfl) (by kernel_rfl) (fun _ _ _ h => h) (by rfl) hS (fun w' hw' => by go_simp) ?_
  try simp only [Act.put, List.setIfInBounds_toArray, List.set_cons_zero, List.set_cons_succ]
  refine htg (i := 5) rfl (.slice Az nz cz) (by kernel_rfl) (by kernel_rfl) (by kernel_rfl) (fun _ _ _ h => h) (by rfl) hS (fun w' hw' => by have hk := (H7.out.1.below hw').k; have q0 := hk.cell 2 (v := .slice Az nz cz) rfl; clear hk; go_simp) ?_
  try simp only [Act.put, List.setIfInBounds_toArray, List.set_cons_zero, List.set_cons_succ]
  refine htg (i := 6) rfl (.int .i64 (nz : Int)) (by kernel_rfl) (by kernel_rfl) (by kernel_rfl) (fun _ _ _ h => h) (by rfl) hS (fun w' hw' => by go_simp) ?_
  try simp only [Act.put, List.setIfInBounds_toArray, List.set_cons_zero, List.set_cons_succ]
  refine htg (i := 7) rfl (.slice (some ⟨gi, 0, none⟩) nz ki) (by kernel_rfl) (by kernel_rfl) (by kernel_rfl) (fun _ _ _ h => h) (by rfl) hS (fun w' hw' => by have z0 : (0 : Int) ≤ (nz : Int) := (by omega); have z1 : (nz : Int) ≤ (ki : Int) := (by have := H7.out.2.2.2.2.2; omega); have z2 : (nz : Int) ≤ (nz : Int) + 1 := (by omega); go_simp) ?_
  try simp only [Act.put, List.setIfInBounds_toArray, List.set_cons_zero, List.set_cons_succ]
  refine htg (i := 8) rfl (.pointer (some ⟨w.heap.size + 1, 3, none⟩)) (by kernel_rfl) (by kernel_rfl) (by kernel_rfl) (fun _ _ _ h => h) (by rfl) hS (fun w' hw' => by go_simp) ?_
  try simp only [Act.put, List.setIfInBounds_toArray, List.set_cons_zero, List.set_cons_succ]
  refine htg (i := 9) rfl (.int .u64 (first : Int)) (by kernel_rfl) (by kernel_rfl) (by kernel_rfl) (fun _ _ _ h => h) (by rfl) hS (fun w' hw' => by have hk := (H7.out.1.below hw').k; have q0 := hk.cell 3 (v := .int .u64 (first : Int)) rfl; clear hk; go_simp) ?_
  try simp only [Act.put, List.setIfInBounds_toArray, List.set_cons_zero, List.set_cons_succ]
  refine h1g (i := 10) (by kernel_rfl) rfl (by rfl) (fun K' hK => ?_)
  go_simp
  have hx7 := H7.out.1.below hS
  have hin7 := H7.out.2.1.below hS
  have hgv : Circ.Good (nz : Int) n y L o := by rw [HK.out.1]; exact HG.out
  have hgo := garble_ok H HHs.out w7.drew nz (some ⟨g1, 0, none⟩) n k1 y (some ⟨g2, 0, none⟩) L k2 o dl (some ⟨gi, 0, none⟩) ki first zin hx7.h hx7.c.g hx7.c.o hin7 (fun h => by cases h) hgv HD.out.1 HK.out.2 HD.out.2.2
  rw [HK.out.1] at hgo
  refine hgo.mono ?_
  rintro e w8 ⟨gt, kt, go, rfl, hRt, hRo, hb8⟩
  clear hgv hgo
  have HT8 := Lib.hid (And.intro hRt.atv hRo.atv)
  clear hRt hRo
  obtain ⟨E, hE⟩ : ∃ E, 2 * Circ.ands y n = E := ⟨_, rfl⟩
  rw [hE] at HT8 ⊢
  have HE := Lib.hid hE
  clear hE
  have hS := hS.trans (hb8.mono hS.size)
  refine hK.out _ _ hS ?_
  clear hK K' hx7 hin7
  try simp only [Act.put, List.setIfInBounds_toArray, List.set_cons_zero, List.set_cons_succ]
  refine htg (i := 11) rfl (.tuple #[.slice (some ⟨gt, 0, none⟩) E kt, .slice (some ⟨go, 0, none⟩) L L, .nilIface]) (by kernel_rfl) (by kernel_rfl) (by kernel_rfl) (fun _ _ _ h => h) (by rfl) hS (fun w' hw' => by go_simp) ?_
  try simp only [Act.put, List.setIfInBounds_toArray, List.set_cons_zero, List.set_cons_succ]
  refine htg (i := 12) rfl (.slice (some ⟨gt, 0, none⟩) E kt) (by kernel_rfl) (by kernel_rfl) (by kernel_rfl) (fun _ _ _ h => h) (by rfl) hS (fun w' hw' => by go_simp) ?_
  try simp only [Act.put, List.setIfInBounds_toArray, List.set_cons_zero, List.set_cons_succ]
  refine htg (i := 13) rfl (.slice (some ⟨go, 0, none⟩) L L) (by kernel_rfl) (by kernel_rfl) (by kernel_rfl) (fun _ _ _ h => h) (by rfl) hS (fun w' hw' => by go_simp) ?_
  try simp only [Act.put, List.setIfInBounds_toArray, List.set_cons_zero, List.set_cons_succ]
  refine htg (i := 14) rfl (.nilIface) (by kernel_rfl) (by kernel_rfl) (by kernel_rfl) (fun _ _ _ h => h) (by rfl) hS (fun w' hw' => by go_simp) ?_
  try simp only [Act.put, List.setIfInBounds_toArray, List.set_cons_zero, List.set_cons_succ]
  refine htg (i := 15) rfl (.slice (some ⟨gt, 0, none⟩) E kt) (by kernel_rfl) (by kernel_rfl) (by kernel_rfl) (fun _ _ _ h => h) (by rfl) hS (fun w' hw' => by go_simp) ?_
  try simp only [Act.put, List.setIfInBounds_toArray, List.set_cons_zero, List.set_cons_succ]
  refine htg (i := 16) rfl (.slice (some ⟨go, 0, none⟩) L L) (by kernel_rfl) (by kernel_rfl) (by kernel_rfl) (fun _ _ _ h => h) (by rfl) hS (fun w' hw' => by go_simp) ?_
  try simp only [Act.put, List.setIfInBounds_toArray, List.set_cons_zero, List.set_cons_succ]
  refine htg (i := 17) rfl (.nilIface) (by kernel_rfl) (by kernel_rfl) (by kernel_rfl) (fun _ _ _ h => h) (by rfl) hS (fun w' hw' => by go_simp) ?_
  try simp only [Act.put, List.setIfInBounds_toArray, List.set_cons_zero, List.set_cons_succ]
  have h0 := H7.out
  have H8 := Lib.hid (show Lw w N g1 n k1 g2 L k2 y o dl Az nz cz first w8 ∧ AtV w8 (some ⟨gi, 0, none⟩) (nz * 2) (lv zin) ∧ AtV w8 Az (nz * 2) (lv zin) ∧ w8.cell? ⟨gi, nz * 2, none⟩ = some (.int .u64 7) ∧ w8.cell? ⟨gi, nz * 2 + 1, none⟩ = some (.int .u64 7) ∧ nz + 1 ≤ ki from ⟨h0.1.below hS, h0.2.1.below hS, h0.2.2.1.below hS, (hS.cell (World.block_lt_of_cell? _ _ h0.2.2.2.1)).trans h0.2.2.2.1, (hS.cell (World.block_lt_of_cell? _ _ h0.2.2.2.2.1)).trans h0.2.2.2.2.1, h0.2.2.2.2.2⟩)
  refine wpAnyH_done (by kernel_rfl) ?_ _
  clear hS h0 H7 hb8
  go_wp2
  refine wp_region_held_drew (S := fun w' => Below w8.heap.size w8 w') (by kernel_rfl) (drew_below w8) (fun hS => ?_)
  refine htg (i := 0) rfl (.slice (some ⟨gi, 0, none⟩) (nz + 1) ki) (by kernel_rfl) (by kernel_rfl) (by kernel_rfl) (fun _ _ _ h => h) (by rfl) hS (fun w' hw' => by go_simp) ?_
  try simp only [Act.put, List.setIfInBounds_toArray, List.set_cons_zero, List.set_cons_succ]
  refine htg (i := 1) rfl (.pointer (some ⟨w.heap.size + 1, 2, none⟩)) (by kernel_rfl) (by kernel_rfl) (by kernel_rfl) (fun _ _ _ h => h) (by rfl) hS (fun w' hw' => by go_simp) ?_
  try simp only [Act.put, List.setIfInBounds_toArray, List.set_cons_zero, List.set_cons_succ]
  refine htg (i := 2) rfl (.slice Az nz cz) (by kernel_rfl) (by kernel_rfl) (by kernel_rfl) (fun _ _ _ h => h) (by rfl) hS (fun w' hw' => by have hk := (H8.out.1.below hw').k; have q0 := hk.cell 2 (v := .slice Az nz cz) rfl; clear hk; go_simp) ?_
  try simp only [Act.put, List.setIfInBounds_toArray, List.set_cons_zero, List.set_cons_succ]
  refine htg (i := 3) rfl (.int .i64 (nz : Int)) (by kernel_rfl) (by kernel_rfl) (by kernel_rfl) (fun _ _ _ h => h) (by rfl) hS (fun w' hw' => by go_simp) ?_
  try simp only [Act.put, List.setIfInBounds_toArray, List.set_cons_zero, List.set_cons_succ]
  refine htg (i := 4) rfl (.pointer (some ⟨gi, nz * 2, none⟩)) (by kernel_rfl) (by kernel_rfl) (by kernel_rfl) (fun _ _ _ h => h) (by rfl) hS (fun w' hw' => by have z0 : (0 : Int) ≤ (nz : Int) := (by omega); have z1 : (nz : Int) < (nz : Int) + 1 := (by omega); go_simp) ?_
  try simp only [Act.put, List.setIfInBounds_toArray, List.set_cons_zero, List.set_cons_succ]
  refine htg (i := 5) rfl (.agg #[.int .u64 7, .int .u64 7]) (by kernel_rfl) (by kernel_rfl) (by kernel_rfl) (fun _ _ _ h => h) (by rfl) hS (fun w' hw' => by have h0 := H8.out; have q0 := (hw'.cell (World.block_lt_of_cell? _ _ h0.2.2.2.1)).trans h0.2.2.2.1; have q1 := (hw'.cell (World.block_lt_of_cell? _ _ h0.2.2.2.2.1)).trans h0.2.2.2.2.1; clear h0; go_simp) ?_
  try simp only [Act.put, List.setIfInBounds_toArray, List.set_cons_zero, List.set_cons_succ]
  refine htg (i := 6) rfl (.agg #[.int .u64 7, .int .u64 7]) (by kernel_rfl) (by kernel_rfl) (by kernel_rfl) (fun _ _ _ h => h) (by rfl) hS (fun w' hw' => by go_simp) ?_
  try simp only [Act.put, List.setIfInBounds_toArray, List.set_cons_zero, List.set_cons_succ]
  refine htg (i := 7) rfl (.bool false) (by kernel_rfl) (by kernel_rfl) (by kernel_rfl) (fun _ _ _ h => h) (by rfl) hS (fun w' hw' => by have hq := Ae.run_eql_lab; go_simp) ?_
  try simp only [Act.put, List.setIfInBounds_toArray, List.set_cons_zero, List.set_cons_succ]
  refine htg (i := 8) rfl (.bool false) (by kernel_rfl) (by kernel_rfl) (by kernel_rfl) (fun _ _ _ h => h) (by rfl) hS (fun w' hw' => by go_simp) ?_
  try simp only [Act.put, List.setIfInBounds_toArray, List.set_cons_zero, List.set_cons_succ]
  refine htg (i := 9) rfl (.slice (some ⟨gi, 0, none⟩) (nz + 1) ki) (by kernel_rfl) (by kernel_rfl) (by kernel_rfl) (fun _ _ _ h => h) (by rfl) hS (fun w' hw' => by go_simp) ?_
  try simp only [Act.put, List.setIfInBounds_toArray, List.set_cons_zero, List.set_cons_succ]
  refine htg (i := 10) rfl (.pointer (some ⟨w.heap.size + 1, 2, none⟩)) (by kernel_rfl) (by kernel_rfl) (by kernel_rfl) (fun _ _ _ h => h) (by rfl) hS (fun w' hw' => by go_simp) ?_
  try simp only [Act.put, List.setIfInBounds_toArray, List.set_cons_zero, List.set_cons_succ]
  refine htg (i := 11) rfl (.slice Az nz cz) (by kernel_rfl) (by kernel_rfl) (by kernel_rfl) (fun _ _ _ h => h) (by rfl) hS (fun w' hw' => by have hk := (H8.out.1.below hw').k; have q0 := hk.cell 2 (v := .slice Az nz cz) rfl; clear hk; go_simp) ?_
  try simp only [Act.put, List.setIfInBounds_toArray, List.set_cons_zero, List.set_cons_succ]
  refine htg (i := 12) rfl (.int .i64 (nz : Int)) (by kernel_rfl) (by kernel_rfl) (by kernel_rfl) (fun _ _ _ h => h) (by rfl) hS (fun w' hw' => by go_simp) ?_
  try simp only [Act.put, List.setIfInBounds_toArray, List.set_cons_zero, List.set_cons_succ]
  refine htg (i := 13) rfl (.slice (some ⟨gi, 0, none⟩) nz ki) (by kernel_rfl) (by kernel_rfl) (by kernel_rfl) (fun _ _ _ h => h) (by rfl) hS (fun w' hw' => by have z0 : (0 : Int) ≤ (nz : Int) := (by omega); have z1 : (nz : Int) ≤ (ki : Int) := (by have := H8.out.2.2.2.2.2; omega); have z2 : (nz : Int) ≤ (nz : Int) + 1 := (by omega); go_simp) ?_
  try simp only [Act.put, List.setIfInBounds_toArray, List.set_cons_zero, List.set_cons_succ]
  refine htg (i := 14) rfl (.pointer (some ⟨w.heap.size + 1, 2, none⟩)) (by kernel_rfl) (by kernel_rfl) (by kernel_rfl) (fun _ _ _ h => h) (by rfl) hS (fun w' hw' => by go_simp) ?_
  try simp only [Act.put, List.setIfInBounds_toArray, List.set_cons_zero, List.set_cons_succ]
  refine htg (i := 15) rfl (.slice Az nz cz) (by kernel_rfl) (by kernel_rfl) (by kernel_rfl) (fun _ _ _ h => h) (by rfl) hS (fun w' hw' => by have hk := (H8.out.1.below hw').k; have q0 := hk.cell 2 (v := .slice Az nz cz) rfl; clear hk; go_simp) ?_
  try simp only [Act.put, List.setIfInBounds_toArray, List.set_cons_zero, List.set_cons_succ]
  refine h1g (i := 16) (by kernel_rfl) rfl (by rfl) (fun K' hK => ?_)
  go_simp
  refine (same_yes w8.drew (some ⟨gi, 0, none⟩) nz ki zin Az cz (H8.out.2.1.below hS) (H8.out.2.2.1.below hS) (by have := HFt.out; unfold maxLen; omega)).mono ?_
  rintro e w9 ⟨rfl, hb9⟩
  have hS := hS.trans (hb9.mono hS.size)
  refine hK.out _ _ hS ?_
  clear hK K'
  try simp only [Act.put, List.setIfInBounds_toArray, List.set_cons_zero, List.set_cons_succ]
  refine htg (i := 17) rfl (.bool false) (by kernel_rfl) (by kernel_rfl) (by kernel_rfl) (fun _ _ _ h => h) (by rfl) hS (fun w' hw' => by go_simp) ?_
  try simp only [Act.put, List.setIfInBounds_toArray, List.set_cons_zero, List.set_cons_succ]
  refine htg (i := 18) rfl (.bool false) (by kernel_rfl) (by kernel_rfl) (by kernel_rfl) (fun _ _ _ h => h) (by rfl) hS (fun w' hw' => by go_simp) ?_
  try simp only [Act.put, List.setIfInBounds_toArray, List.set_cons_zero, List.set_cons_succ]
  refine wpAnyH_done (by kernel_rfl) ?_ _
  have H9 := Lib.hid (show Lw w N g1 n k1 g2 L k2 y o dl Az nz cz first w9 ∧ AtV w9 Az (nz * 2) (lv zin) from ⟨H8.out.1.below hS, H8.out.2.2.1.below hS⟩)
  have HT9 := Lib.hid (show AtV w9 (some ⟨gt, 0, none⟩) (E * 2) (lv (tabH H dl first nz zin y n)) ∧ AtV w9 (some ⟨go, 0, none⟩) (L * 2) (lv fun i => zerH H dl first nz zin y n (o i).toNat) from ⟨HT8.out.1.below hS, HT8.out.2.below hS⟩)
  clear hS hb9 H8 HT8
  have q0 := H9.out.1.c.c.cell 0 (v := .int .i64 N) rfl
  have q1 := H9.out.1.c.c.cell 1 (v := .slice (some ⟨g1, 0, none⟩) n k1) rfl
  have q2 := H9.out.1.c.c.cell 2 (v := .slice (some ⟨g2, 0, none⟩) L k2) rfl
  have r0 := H9.out.1.k.cell 0 (v := .int .u64 (dl.1 : Int)) rfl
  have r1 := H9.out.1.k.cell 1 (v := .int .u64 (dl.2 : Int)) rfl
  have r2 := H9.out.1.k.cell 2 (v := .slice Az nz cz) rfl
  have r3 := H9.out.1.k.cell 3 (v := .int .u64 (first : Int)) rfl
  have HGa := Lib.hid (gates_any w9 N (some ⟨g1, 0, none⟩) n k1 y (some ⟨g2, 0, none⟩) L k2 H9.out.1.c.g (by have := HM.out.1; omega))
  go_wp2_with fail
  refine HGa.out.mono ?_
  rintro e w10 ⟨v10, rfl, hR10, hb10⟩
  obtain ⟨A10, c10, rfl, _, _, _, hA10, _, hal10⟩ := hR10.read
  have H10 := Lib.hid (show Lw w N g1 n k1 g2 L k2 y o dl Az nz cz first w10 ∧ AtV w10 Az (nz * 2) (lv zin) ∧ AtV w10 A10 (n * 3) (gv y) ∧ (∀ ad, A10 = some ad → ad = ⟨ad.block, 0, none⟩) from ⟨H9.out.1.below hb10, H9.out.2.below hb10, hA10, fun ad h => (hal10 ad h).choose_spec.2⟩)
  have HT10 := Lib.hid (show AtV w10 (some ⟨gt, 0, none⟩) (E * 2) (lv (tabH H dl first nz zin y n)) ∧ AtV w10 (some ⟨go, 0, none⟩) (L * 2) (lv fun i => zerH H dl first nz zin y n (o i).toNat) from ⟨HT9.out.1.below hb10, HT9.out.2.below hb10⟩)
  clear q0 q1 q2 r0 r1 r2 r3 HGa H9 hb10 hR10 hA10 hal10 HT9
  have q0 := H10.out.1.c.c.cell 0 (v := .int .i64 N) rfl
  have q1 := H10.out.1.c.c.cell 1 (v := .slice (some ⟨g1, 0, none⟩) n k1) rfl
  have q2 := H10.out.1.c.c.cell 2 (v := .slice (some ⟨g2, 0, none⟩) L k2) rfl
  have r0 := H10.out.1.k.cell 0 (v := .int .u64 (dl.1 : Int)) rfl
  have r1 := H10.out.1.k.cell 1 (v := .int .u64 (dl.2 : Int)) rfl
  have r2 := H10.out.1.k.cell 2 (v := .slice Az nz cz) rfl
  have r3 := H10.out.1.k.cell 3 (v := .int .u64 (first : Int)) rfl
  have HGo := Lib.hid (rgood_any w10 N A10 n c10 y (some ⟨g2, 0, none⟩) L k2 o H10.out.2.2.1 H10.out.1.c.o (by have := HM.out; omega) (by have := HM.out; omega))
  go_wp2_with fail
  refine HGo.out.mono ?_
  rintro e w11 ⟨hor, hb11⟩
  obtain rfl : e = .returned (.bool true) := by
    rcases hor with h | h
    · exact h.2
    · exact absurd HG.out h.1
  have H11 := Lib.hid (show Lw w N g1 n k1 g2 L k2 y o dl Az nz cz first w11 ∧ AtV w11 Az (nz * 2) (lv zin) ∧ AtV w11 A10 (n * 3) (gv y) ∧ (∀ ad, A10 = some ad → ad = ⟨ad.block, 0, none⟩) from ⟨H10.out.1.below hb11, H10.out.2.1.below hb11, H10.out.2.2.1.below hb11, H10.out.2.2.2⟩)
  have HT11 := Lib.hid (show AtV w11 (some ⟨gt, 0, none⟩) (E * 2) (lv (tabH H dl first nz zin y n)) ∧ AtV w11 (some ⟨go, 0, none⟩) (L * 2) (lv fun i => zerH H dl first nz zin y n (o i).toNat) from ⟨HT10.out.1.below hb11, HT10.out.2.below hb11⟩)
  clear q0 q1 q2 r0 r1 r2 r3 HGo H10 hor hb11 HT10
  have q0 := H11.out.1.c.c.cell 0 (v := .int .i64 N) rfl
  have q1 := H11.out.1.c.c.cell 1 (v := .slice (some ⟨g1, 0, none⟩) n k1) rfl
  have q2 := H11.out.1.c.c.cell 2 (v := .slice (some ⟨g2, 0, none⟩) L k2) rfl
  have r0 := H11.out.1.k.cell 0 (v := .int .u64 (dl.1 : Int)) rfl
  have r1 := H11.out.1.k.cell 1 (v := .int .u64 (dl.2 : Int)) rfl
  have r2 := H11.out.1.k.cell 2 (v := .slice Az nz cz) rfl
  have r3 := H11.out.1.k.cell 3 (v := .int .u64 (first : Int)) rfl
  have kk : ((nz : Int) != N) = false := by rw [HK.out.1]; simp
  have e1 : Int.tmod (dl.1 : Int) 2 = 1 := by
    have h := HK.out.2
    rw [Garb.ncol_mod] at h
    have h2 : dl.1 % 2 = 1 := by
      rcases (show dl.1 % 2 = 0 ∨ dl.1 % 2 = 1 by omega) with e | e
      · rw [e] at h; exact absurd h (by decide)
      · rw [e] at h; exact e
    rw [Int.tmod_eq_emod_of_nonneg (by omega)]; omega
  have e2 : IntKind.u64.wrap 1 = 1 := rfl
  have hgv : Circ.Good (nz : Int) n y L o := by rw [HK.out.1]; exact HG.out
  have hmE : E ≤ 120 := by
    have h1 := Circ.ands_le y n
    have h2 := HM.out.1
    have h3 := HE.out
    omega
  have HmE := Lib.hid hmE
  have HRg := Lib.hid (rgarble_any H HHs.out w11 A10 n c10 y nz L o dl Az cz first zin H11.out.2.2.1 H11.out.2.2.2 H11.out.2.1 HA.out.2.2.2.2.2.2.2.1 hgv HD.out.1 HD.out.2.2)
  clear hgv hmE
  go_wp2_with fail
  refine HRg.out.mono ?_
  rintro e w12 ⟨vt, vw, rfl, hRt, hRw, hb12⟩
  rw [HE.out] at hRt
  obtain ⟨A12, c12, rfl, _, _, _, hA12, _, _⟩ := hRt.read
  obtain ⟨A13, c13, rfl, _, _, _, hA13, _, _⟩ := hRw.read
  have H12 := Lib.hid (H11.out.1.below hb12)
  have HT12 := Lib.hid (show AtV w12 (some ⟨gt, 0, none⟩) (E * 2) (lv (tabH H dl first nz zin y n)) ∧ AtV w12 (some ⟨go, 0, none⟩) (L * 2) (lv fun i => zerH H dl first nz zin y n (o i).toNat) from ⟨HT11.out.1.below hb12, HT11.out.2.below hb12⟩)
  have HW12 := Lib.hid (And.intro hA12 hA13)
  clear q0 q1 q2 r0 r1 r2 r3 kk e1 e2 HRg H11 HT11 hb12 hRt hRw hA12 hA13
  have HS1 := Lib.hid (same_yes w12 (some ⟨gt, 0, none⟩) E kt (tabH H dl first nz zin y n) A12 c12 HT12.out.1 HW12.out.1 (by have := HmE.out; unfold maxLen; omega))
  go_wp2_with fail
  refine HS1.out.mono ?_
  rintro e w13 ⟨rfl, hb13⟩
  have H13 := Lib.hid (H12.out.below hb13)
  have HT13 := Lib.hid (show AtV w13 (some ⟨gt, 0, none⟩) (E * 2) (lv (tabH H dl first nz zin y n)) ∧ AtV w13 (some ⟨go, 0, none⟩) (L * 2) (lv fun i => zerH H dl first nz zin y n (o i).toNat) from ⟨HT12.out.1.below hb13, HT12.out.2.below hb13⟩)
  have HW13 := Lib.hid (HW12.out.2.below hb13)
  clear HS1 H12 HT12 HW12 hb13
  have q2 := H13.out.c.c.cell 2 (v := .slice (some ⟨g2, 0, none⟩) L k2) rfl
  have HOu := Lib.hid (outs_any w13 (some ⟨g2, 0, none⟩) L k2 o A13 (nz + n) c13 (zerH H dl first nz zin y n) H13.out.c.o HW13.out (by have := HM.out; omega) (fun i hi => by have h1 := HG.out.out i hi; have h2 := HK.out.1; omega))
  go_wp2_with fail
  refine HOu.out.mono ?_
  rintro e w14 ⟨v14, rfl, hR14, hb14⟩
  obtain ⟨A14, c14, rfl, _, _, _, hA14, _, _⟩ := hR14.read
  have HB14 := Lib.hid (H13.out.b.trans (hb14.mono H13.out.b.size))
  have HS2 := Lib.hid (same_yes w14 (some ⟨go, 0, none⟩) L L (fun i => zerH H dl first nz zin y n (o i).toNat) A14 c14 (HT13.out.2.below hb14) hA14 (by have := HM.out; unfold maxLen; omega))
  clear q2 HOu H13 HT13 HW13 hR14 hA14 hb14
  go_wp2_with fail
  refine HS2.out.mono ?_
  rintro e w15 ⟨rfl, hb15⟩
  have HF := Lib.hid (HB14.out.trans (hb15.mono HB14.out.size))
  clear hb15 HS2 HB14
  go_wp2
  go_ret
  exact ⟨rfl, HF.out⟩

/-- GarbleTables answers true. -/
theorem tables_walk (N : Int) (Ag : Option Addr) (n cg : Nat) (y : Nat → Nat → Int) (Ao : Option Addr) (m co : Nat) (o : Nat → Int) (dl : Lab) (Az : Option Addr) (nz cz first : Nat) (zin : Nat → Lab) (w : World) (hh : Handle w) (hg : AtV w Ag (n * 3) (gv y)) (ho : AtV w Ao m (iv o)) (hn : n ≤ cg) (hm : m ≤ co) (zg : Ag = none → n = 0 ∧ cg = 0) (zo : Ao = none → m = 0 ∧ co = 0) (hdl : Garb.Wd dl) (hfi : first < 18446744073709551616) (hz : AtV w Az (nz * 2) (lv zin)) (hzw : ∀ i, Garb.Wd (zin i)) (hz0 : Az = none → nz = 0 ∧ cz = 0) (hnz : nz ≤ cz) (hfit : (nz + 1) * 16 ≤ 140737488355328) :
    Calls Tryd.prog 3 #[circV N Ag n cg Ao m co, keysV dl Az nz cz first] w fun e w' => e = .returned (.bool true) ∧ Below w.heap.size w w' := by
  cases hsm : (decide (n ≤ 60) && decide (N ≤ 200)) with
  | false => exact tables_big N Ag n cg y Ao m co o dl Az nz cz first zin w hh hg ho hn hm zg zo hdl hfi hz hzw hz0 hnz hfit hsm
  | true =>
    by_cases hG : Circ.Good N n y (min m 80) o
    · by_cases hK : (nz : Int) = N
      · cases hC : Garb.ncol dl with
        | false => exact tables_col N Ag n cg y Ao m co o dl Az nz cz first zin w hh hg ho hn hm zg zo hdl hfi hz hzw hz0 hnz hfit hsm hG hK hC
        | true => exact tables_ok N Ag n cg y Ao m co o dl Az nz cz first zin w hh hg ho hn hm zg zo hdl hfi hz hzw hz0 hnz hfit hsm hG hK hC
      · exact tables_len N Ag n cg y Ao m co o dl Az nz cz first zin w hh hg ho hn hm zg zo hdl hfi hz hzw hz0 hnz hfit hsm hG hK
    · exact tables_bad N Ag n cg y Ao m co o dl Az nz cz first zin w hh hg ho hn hm zg zo hdl hfi hz hzw hz0 hnz hfit hsm hG
end Go.Proofs.YtamejhhjfnfalaaDoor
