/- GarbleRight's walk. -/
import Derived.Test.YtamejhhjfnfalaaDoorZGX0
namespace Go.Proofs.YtamejhhjfnfalaaDoor
open Go.RowKit
open Rely (upd)

set_option maxHeartbeats 16000000 in
set_option maxRecDepth 100000 in
theorem right_big (N : Int) (Ag : Option Addr) (n cg : Nat) (y : Nat → Nat → Int) (Ao : Option Addr) (m co : Nat) (o : Nat → Int) (dl : Lab) (Az : Option Addr) (nz cz first : Nat) (zin : Nat → Lab) (Ab : Option Addr) (K cb : Nat) (f : Nat → Bool) (w : World) (hh : Handle w) (hg : AtV w Ag (n * 3) (gv y)) (ho : AtV w Ao m (iv o)) (hn : n ≤ cg) (hm : m ≤ co) (zg : Ag = none → n = 0 ∧ cg = 0) (zo : Ao = none → m = 0 ∧ co = 0) (hdl : Garb.Wd dl) (hfi : first < 18446744073709551616) (hz : AtV w Az (nz * 2) (lv zin)) (hzw : ∀ i, Garb.Wd (zin i)) (hz0 : Az = none → nz = 0 ∧ cz = 0) (hnz : nz ≤ cz) (_ : AtV w Ab K (bv f)) (_ : Ab = none → K = 0 ∧ cb = 0) (hsm : (decide (n ≤ 60) && decide (N ≤ 200)) = false) :
    Calls Tryd.prog 4 #[circV N Ag n cg Ao m co, keysV dl Az nz cz first, .slice Ab K cb] w fun e w' => e = .returned (.bool true) ∧ Below w.heap.size w w' := by
  have X0 := Blk.new w 25 #[.int .i64 N, .slice Ag n cg, .slice Ao m co]
  have b0 := (Below.refl w.heap.size w).alloc (Nat.le_refl _) (.cells #[.int .i64 N, .slice Ag n cg, .slice Ao m co] 25)
  have X1 := Blk.new (w.alloc (.cells #[.int .i64 N, .slice Ag n cg, .slice Ao m co] 25)) 31 #[.int .u64 (dl.1 : Int), .int .u64 (dl.2 : Int), .slice Az nz cz, .int .u64 (first : Int)]
  have b1 := b0.alloc b0.size (.cells #[.int .u64 (dl.1 : Int), .int .u64 (dl.2 : Int), .slice Az nz cz, .int .u64 (first : Int)] 31)
  have Y0 := X0.alloc (.cells #[.int .u64 (dl.1 : Int), .int .u64 (dl.2 : Int), .slice Az nz cz, .int .u64 (first : Int)] 31)
  simp only [World.size_alloc] at X1
  have HAw := Lib.hid (awake_any ((w.alloc (.cells #[.int .i64 N, .slice Ag n cg, .slice Ao m co] 25)).alloc (.cells #[.int .u64 (dl.1 : Int), .int .u64 (dl.2 : Int), .slice Az nz cz, .int .u64 (first : Int)] 31)) (hh.belowS b1))
  have H1 := Lib.hid (show Below w.heap.size w ((w.alloc (.cells #[.int .i64 N, .slice Ag n cg, .slice Ao m co] 25)).alloc (.cells #[.int .u64 (dl.1 : Int), .int .u64 (dl.2 : Int), .slice Az nz cz, .int .u64 (first : Int)] 31)) ∧ circB ((w.alloc (.cells #[.int .i64 N, .slice Ag n cg, .slice Ao m co] 25)).alloc (.cells #[.int .u64 (dl.1 : Int), .int .u64 (dl.2 : Int), .slice Az nz cz, .int .u64 (first : Int)] 31)) w.heap.size N Ag n cg Ao m co ∧ KyB ((w.alloc (.cells #[.int .i64 N, .slice Ag n cg, .slice Ao m co] 25)).alloc (.cells #[.int .u64 (dl.1 : Int), .int .u64 (dl.2 : Int), .slice Az nz cz, .int .u64 (first : Int)] 31)) (w.heap.size + 1) dl Az nz cz first ∧ Handle ((w.alloc (.cells #[.int .i64 N, .slice Ag n cg, .slice Ao m co] 25)).alloc (.cells #[.int .u64 (dl.1 : Int), .int .u64 (dl.2 : Int), .slice Az nz cz, .int .u64 (first : Int)] 31)) from ⟨b1, Y0, X1, hh.belowS b1⟩)
  have HA := Lib.hid (And.intro hg (And.intro ho (And.intro hn (And.intro hm (And.intro zg (And.intro zo (And.intro hz (And.intro hz0 hnz))))))))
  have HH0 := Lib.hid hh
  have HD := Lib.hid (And.intro hdl (And.intro hfi hzw))
  clear X0 X1 b0 b1 Y0 hh hg ho hn hm zg zo hz hz0 hnz hdl hfi hzw
  go_enter Tryd.func4, Tryd.ntmps4
  go_wp2_with fail
  refine HAw.out.mono ?_
  rintro e w2 ⟨rfl, hb2⟩
  have h0 := H1.out
  have H2 := Lib.hid (show Below w.heap.size w w2 ∧ circB w2 w.heap.size N Ag n cg Ao m co ∧ KyB w2 (w.heap.size + 1) dl Az nz cz first ∧ Handle w2 from ⟨h0.1.trans (hb2.mono h0.1.size), h0.2.1.below hb2 h0.2.1.lt, h0.2.2.1.below hb2 h0.2.2.1.lt, h0.2.2.2.belowS hb2⟩)
  clear H1 h0 hb2 HAw
  have c0 := H2.out.2.1.cell 0 (v := .int .i64 N) rfl
  have c1 := H2.out.2.1.cell 1 (v := .slice Ag n cg) rfl
  have c2 := H2.out.2.1.cell 2 (v := .slice Ao m co) rfl
  have HSm := Lib.hid (small_any w2 N Ag n cg Ao m co)

  rw [hsm] at HSm
  go_wp2_with fail
  refine HSm.out.mono ?_
  rintro e w3 ⟨rfl, hb3⟩
  have h0 := H2.out
  have HAw := Lib.hid (awake_any w3 (h0.2.2.2.belowS hb3))
  have HB := Lib.hid (h0.1.trans (hb3.mono h0.1.size))
  clear h0 hb3 H2 c0 c1 c2 hsm
  go_wp2_with fail
  refine HAw.out.mono ?_
  rintro e w4 ⟨rfl, hb4⟩
  have HF := Lib.hid (HB.out.trans (hb4.mono HB.out.size))
  clear hb4
  go_wp2
  go_ret
  exact ⟨rfl, HF.out⟩

set_option maxHeartbeats 16000000 in
set_option maxRecDepth 100000 in
theorem right_bad (N : Int) (Ag : Option Addr) (n cg : Nat) (y : Nat → Nat → Int) (Ao : Option Addr) (m co : Nat) (o : Nat → Int) (dl : Lab) (Az : Option Addr) (nz cz first : Nat) (zin : Nat → Lab) (Ab : Option Addr) (K cb : Nat) (f : Nat → Bool) (w : World) (hh : Handle w) (hg : AtV w Ag (n * 3) (gv y)) (ho : AtV w Ao m (iv o)) (hn : n ≤ cg) (hm : m ≤ co) (zg : Ag = none → n = 0 ∧ cg = 0) (zo : Ao = none → m = 0 ∧ co = 0) (hdl : Garb.Wd dl) (hfi : first < 18446744073709551616) (hz : AtV w Az (nz * 2) (lv zin)) (hzw : ∀ i, Garb.Wd (zin i)) (hz0 : Az = none → nz = 0 ∧ cz = 0) (hnz : nz ≤ cz) (_ : AtV w Ab K (bv f)) (_ : Ab = none → K = 0 ∧ cb = 0) (hsm : (decide (n ≤ 60) && decide (N ≤ 200)) = true) (hG : ¬ Circ.Good N n y (min m 80) o) :
    Calls Tryd.prog 4 #[circV N Ag n cg Ao m co, keysV dl Az nz cz first, .slice Ab K cb] w fun e w' => e = .returned (.bool true) ∧ Below w.heap.size w w' := by
  have X0 := Blk.new w 25 #[.int .i64 N, .slice Ag n cg, .slice Ao m co]
  have b0 := (Below.refl w.heap.size w).alloc (Nat.le_refl _) (.cells #[.int .i64 N, .slice Ag n cg, .slice Ao m co] 25)
  have X1 := Blk.new (w.alloc (.cells #[.int .i64 N, .slice Ag n cg, .slice Ao m co] 25)) 31 #[.int .u64 (dl.1 : Int), .int .u64 (dl.2 : Int), .slice Az nz cz, .int .u64 (first : Int)]
  have b1 := b0.alloc b0.size (.cells #[.int .u64 (dl.1 : Int), .int .u64 (dl.2 : Int), .slice Az nz cz, .int .u64 (first : Int)] 31)
  have Y0 := X0.alloc (.cells #[.int .u64 (dl.1 : Int), .int .u64 (dl.2 : Int), .slice Az nz cz, .int .u64 (first : Int)] 31)
  simp only [World.size_alloc] at X1
  have HAw := Lib.hid (awake_any ((w.alloc (.cells #[.int .i64 N, .slice Ag n cg, .slice Ao m co] 25)).alloc (.cells #[.int .u64 (dl.1 : Int), .int .u64 (dl.2 : Int), .slice Az nz cz, .int .u64 (first : Int)] 31)) (hh.belowS b1))
  have H1 := Lib.hid (show Below w.heap.size w ((w.alloc (.cells #[.int .i64 N, .slice Ag n cg, .slice Ao m co] 25)).alloc (.cells #[.int .u64 (dl.1 : Int), .int .u64 (dl.2 : Int), .slice Az nz cz, .int .u64 (first : Int)] 31)) ∧ circB ((w.alloc (.cells #[.int .i64 N, .slice Ag n cg, .slice Ao m co] 25)).alloc (.cells #[.int .u64 (dl.1 : Int), .int .u64 (dl.2 : Int), .slice Az nz cz, .int .u64 (first : Int)] 31)) w.heap.size N Ag n cg Ao m co ∧ KyB ((w.alloc (.cells #[.int .i64 N, .slice Ag n cg, .slice Ao m co] 25)).alloc (.cells #[.int .u64 (dl.1 : Int), .int .u64 (dl.2 : Int), .slice Az nz cz, .int .u64 (first : Int)] 31)) (w.heap.size + 1) dl Az nz cz first ∧ Handle ((w.alloc (.cells #[.int .i64 N, .slice Ag n cg, .slice Ao m co] 25)).alloc (.cells #[.int .u64 (dl.1 : Int), .int .u64 (dl.2 : Int), .slice Az nz cz, .int .u64 (first : Int)] 31)) from ⟨b1, Y0, X1, hh.belowS b1⟩)
  have HA := Lib.hid (And.intro hg (And.intro ho (And.intro hn (And.intro hm (And.intro zg (And.intro zo (And.intro hz (And.intro hz0 hnz))))))))
  have HH0 := Lib.hid hh
  have HD := Lib.hid (And.intro hdl (And.intro hfi hzw))
  clear X0 X1 b0 b1 Y0 hh hg ho hn hm zg zo hz hz0 hnz hdl hfi hzw
  go_enter Tryd.func4, Tryd.ntmps4
  go_wp2_with fail
  refine HAw.out.mono ?_
  rintro e w2 ⟨rfl, hb2⟩
  have h0 := H1.out
  have H2 := Lib.hid (show Below w.heap.size w w2 ∧ circB w2 w.heap.size N Ag n cg Ao m co ∧ KyB w2 (w.heap.size + 1) dl Az nz cz first ∧ Handle w2 from ⟨h0.1.trans (hb2.mono h0.1.size), h0.2.1.below hb2 h0.2.1.lt, h0.2.2.1.below hb2 h0.2.2.1.lt, h0.2.2.2.belowS hb2⟩)
  clear H1 h0 hb2 HAw
  have c0 := H2.out.2.1.cell 0 (v := .int .i64 N) rfl
  have c1 := H2.out.2.1.cell 1 (v := .slice Ag n cg) rfl
  have c2 := H2.out.2.1.cell 2 (v := .slice Ao m co) rfl
  have HSm := Lib.hid (small_any w2 N Ag n cg Ao m co)

  have hnn : n ≤ 60 ∧ N ≤ 200 := by simpa using hsm
  rw [hsm] at HSm
  have HM0 := Lib.hid hnn
  clear hsm hnn
  go_wp2_with fail
  refine HSm.out.mono ?_
  rintro e w3 ⟨rfl, hb3⟩
  have h0 := H2.out
  have H3 := Lib.hid (show Below w.heap.size w w3 ∧ circB w3 w.heap.size N Ag n cg Ao m co ∧ KyB w3 (w.heap.size + 1) dl Az nz cz first ∧ Handle w3 from ⟨h0.1.trans (hb3.mono h0.1.size), h0.2.1.below hb3 h0.2.1.lt, h0.2.2.1.below hb3 h0.2.2.1.lt, h0.2.2.2.belowS hb3⟩)
  clear H2 h0 hb3 HSm c0 c1 c2
  have c0 := H3.out.2.1.cell 0 (v := .int .i64 N) rfl
  have c1 := H3.out.2.1.cell 1 (v := .slice Ag n cg) rfl
  have c2 := H3.out.2.1.cell 2 (v := .slice Ao m co) rfl
  have HO := Lib.hid (own_any w3 N Ag n cg y Ao m co o (HA.out.1.below H3.out.1) (HA.out.2.1.below H3.out.1) HA.out.2.2.1 HA.out.2.2.2.1 HA.out.2.2.2.2.1 HA.out.2.2.2.2.2.1)
  go_wp2_with fail
  refine HO.out.mono ?_
  rintro e w4 ⟨g1, k1, g2, k2, rfl, hg1, hg2, hR1, hR2, hb4⟩
  obtain ⟨L, hL⟩ : ∃ L, min m 80 = L := ⟨_, rfl⟩
  rw [show min n 4200 = n by have := HM0.out; omega] at hR1 ⊢
  rw [hL] at hR2 ⊢
  clear c0 c1 c2 HO
  have h0 := H3.out
  have hsz3 := h0.2.2.1.lt
  have X4 := h0.2.1.below hb4 h0.2.1.lt
  have x0 := X4.cell 0 (v := .int .i64 N) rfl
  have x1 := X4.cell 1 (v := .slice Ag n cg) rfl
  have x2 := X4.cell 2 (v := .slice Ao m co) rfl
  have xf := X4.frozen
  have hci : Ci w.heap.size N g1 n k1 g2 L k2 y o (((w4.setCell ⟨w.heap.size, 0, none⟩ (.int .i64 N)).setCell ⟨w.heap.size, 1, none⟩ (.slice (some ⟨g1, 0, none⟩) n k1)).setCell ⟨w.heap.size, 2, none⟩ (.slice (some ⟨g2, 0, none⟩) L k2)) := ci_store _ X4 rfl (by omega) (by omega) hR1.atv (by have := hR2.atv; rwa [Nat.mul_one] at this)
  have hcs := (((Chg.refl (fun q => q = w.heap.size) w4).set (p := ⟨w.heap.size, 0, none⟩) (.inr rfl) (.int .i64 N)).set (p := ⟨w.heap.size, 1, none⟩) (.inr rfl) (.slice (some ⟨g1, 0, none⟩) n k1)).set (p := ⟨w.heap.size, 2, none⟩) (.inr rfl) (.slice (some ⟨g2, 0, none⟩) L k2)
  have hbw := (h0.1.trans (hb4.mono h0.1.size)).trans (hcs.below (by have := h0.1.size; have := hb4.size; omega) (fun q e => by omega))
  have hk5 := (h0.2.2.1.below hb4 h0.2.2.1.lt).chg hcs (by omega)
  have hR5 := hR1.chg hcs (fun q hq e => by
    obtain rfl : g1 = q := Option.some.inj hq
    omega)
  have H5 := Lib.hid (show Lw w N g1 n k1 g2 L k2 y o dl Az nz cz first _ from ⟨hci, hk5, hR5.mono (fun q hq => by
    obtain rfl : g1 = q := Option.some.inj hq
    have := h0.1.size
    omega), (hR2.chg hcs (fun q hq e => by
    obtain rfl : g2 = q := Option.some.inj hq
    omega)).mono (fun q hq => by
    obtain rfl : g2 = q := Option.some.inj hq
    have := h0.1.size
    omega), HH0.out.belowS hbw, hbw⟩)
  have HG := Lib.hid (show ¬ Circ.Good N n y L o by rw [← hL]; exact hG)
  clear hG
  have HM := Lib.hid (show n ≤ 60 ∧ N ≤ 200 ∧ L ≤ 80 ∧ n ≤ k1 ∧ L ≤ k2 ∧ w.heap.size + 1 < g1 from ⟨HM0.out.1, HM0.out.2, by omega, hR1.le, hR2.le, by omega⟩)
  clear hg1 hg2 hR1 hR2 hb4 hL h0 hsz3 X4 hci hcs hbw hk5 hR5 H3 HM0
  go_upto_region 4 with fail
  clear x0 x1 x2 xf
  generalize (((w4.setCell ⟨w.heap.size, 0, none⟩ (.int .i64 N)).setCell ⟨w.heap.size, 1, none⟩ (.slice (some ⟨g1, 0, none⟩) n k1)).setCell ⟨w.heap.size, 2, none⟩ (.slice (some ⟨g2, 0, none⟩) L k2)) = w5 at *

  have q0 := H5.out.c.c.cell 0 (v := .int .i64 N) rfl
  have k0 := H5.out.k.cell 0 (v := .int .u64 (dl.1 : Int)) rfl
  have k1c := H5.out.k.cell 1 (v := .int .u64 (dl.2 : Int)) rfl
  have k2c := H5.out.k.cell 2 (v := .slice Az nz cz) rfl
  have k3c := H5.out.k.cell 3 (v := .int .u64 (first : Int)) rfl
  have kf := H5.out.k.frozen
  have eo := dl1_int HD.out.1
  have h7 := H5.out.key HH0.out (dl1 dl).1
  obtain ⟨d, hdd⟩ : ∃ d, dl1 dl = d := ⟨_, rfl⟩
  have hd1 : ((dl1 dl).1, dl.2) = d := hdd
  rw [hd1] at h7
  rw [hdd] at eo h7
  have HDd := Lib.hid (show Garb.Wd d ∧ Garb.ncol d = true from ⟨hdd ▸ dl1_wd HD.out.1, hdd ▸ dl1_col dl⟩)
  have hd2 : dl.2 = d.2 := by rw [← hdd]; rfl
  rw [hd2] at k1c
  have q7 := h7.c.c.cell 0 (v := .int .i64 N) rfl
  have r0 := h7.k.cell 0 (v := .int .u64 (d.1 : Int)) rfl
  have r1 := h7.k.cell 1 (v := .int .u64 (d.2 : Int)) rfl
  have r2 := h7.k.cell 2 (v := .slice Az nz cz) rfl
  have r3 := h7.k.cell 3 (v := .int .u64 (first : Int)) rfl
  have HZr := Lib.hid (zeros_any (w5.setCell ⟨w.heap.size + 1, 0, none⟩ (.int .u64 (d.1 : Int))) d Az nz cz first zin N (HA.out.2.2.2.2.2.2.1.below h7.b) HA.out.2.2.2.2.2.2.2.2 HA.out.2.2.2.2.2.2.2.1 (by have := HM.out.2.1; omega))
  have H7 := Lib.hid h7
  clear H5 hdd hd1 hd2 h7
  go_wp2_with fail
  refine HZr.out.mono ?_
  rintro e w8 ⟨gz, kz, rfl, hgz, hRz, hb8⟩
  obtain ⟨C, hC⟩ : ∃ C, N.toNat = C := ⟨_, rfl⟩
  rw [hC] at hRz ⊢
  have H8 := Lib.hid (H7.out.below hb8)
  have HZa := Lib.hid (show AtV w8 (some ⟨gz, 0, none⟩) (C * 2) (lv (zkc nz zin)) from hRz.atv.congr (lv_congr fun i hi => zkc_eq (by have := HM.out.2.1; omega)))
  have HC := Lib.hid hC
  clear H7 hb8 hRz hgz hC q0 k0 k1c k2c k3c kf eo q7 r0 r1 r2 r3 HZr
  have q0 := H8.out.c.c.cell 0 (v := .int .i64 N) rfl
  have q1 := H8.out.c.c.cell 1 (v := .slice (some ⟨g1, 0, none⟩) n k1) rfl
  have q2 := H8.out.c.c.cell 2 (v := .slice (some ⟨g2, 0, none⟩) L k2) rfl
  have r0 := H8.out.k.cell 0 (v := .int .u64 (d.1 : Int)) rfl
  have r1 := H8.out.k.cell 1 (v := .int .u64 (d.2 : Int)) rfl
  have r3 := H8.out.k.cell 3 (v := .int .u64 (first : Int)) rfl
  have HG1 := Lib.hid (garble_fit 90 w8 N (some ⟨g1, 0, none⟩) n k1 (some ⟨g2, 0, none⟩) L k2 d (some ⟨gz, 0, none⟩) C kz first (fun w1 hb => by
    have hx := H8.out.below hb
    exact gfits_bad (cg := k1) (co := k2) hx.h hx.c.g hx.c.o (by have := HM.out; unfold maxLen; omega) (by have := HM.out; unfold maxLen; omega) HG.out))
  go_wp2_with fail
  refine HG1.out.mono ?_
  rintro e w9 ⟨⟨p, a, rfl⟩, hb9⟩
  have H9 := Lib.hid (H8.out.below hb9)
  clear q0 q1 q2 r0 r1 r3 HG1 H8 hb9
  obtain ⟨T, x, hT⟩ := chain_iface [(p, a)] 90
  rw [hT]
  clear hT
  have q0 := H9.out.c.c.cell 0 (v := .int .i64 N) rfl
  have q1 := H9.out.c.c.cell 1 (v := .slice (some ⟨g1, 0, none⟩) n k1) rfl
  have q2 := H9.out.c.c.cell 2 (v := .slice (some ⟨g2, 0, none⟩) L k2) rfl
  have r0 := H9.out.k.cell 0 (v := .int .u64 (d.1 : Int)) rfl
  have r1 := H9.out.k.cell 1 (v := .int .u64 (d.2 : Int)) rfl
  have r3 := H9.out.k.cell 3 (v := .int .u64 (first : Int)) rfl
  have HCk := Lib.hid (check_bad (cg := k1) (co := k2) H9.out.h H9.out.c.g H9.out.c.o (by have := HM.out; unfold maxLen; omega) (by have := HM.out; unfold maxLen; omega) HG.out)
  go_wp2_with fail
  refine HCk.out.mono ?_
  rintro e w11 ⟨⟨p3, a3, rfl⟩, hb11⟩
  have HF := Lib.hid (H9.out.b.trans (hb11.mono H9.out.b.size))
  clear q0 q1 q2 r0 r1 r3 HCk H9 hb11
  obtain ⟨T3, x3, hT⟩ := chain_iface [(p3, a3)] 90
  rw [hT]
  clear hT
  go_wp2
  go_ret
  exact ⟨rfl, HF.out⟩
set_option maxHeartbeats 16000000 in
set_option maxRecDepth 100000 in
theorem right_ok (N : Int) (Ag : Option Addr) (n cg : Nat) (y : Nat → Nat → Int) (Ao : Option Addr) (m co : Nat) (o : Nat → Int) (dl : Lab) (Az : Option Addr) (nz cz first : Nat) (zin : Nat → Lab) (Ab : Option Addr) (K cb : Nat) (f : Nat → Bool) (w : World) (hh : Handle w) (hg : AtV w Ag (n * 3) (gv y)) (ho : AtV w Ao m (iv o)) (hn : n ≤ cg) (hm : m ≤ co) (zg : Ag = none → n = 0 ∧ cg = 0) (zo : Ao = none → m = 0 ∧ co = 0) (hdl : Garb.Wd dl) (hfi : first < 18446744073709551616) (hz : AtV w Az (nz * 2) (lv zin)) (hzw : ∀ i, Garb.Wd (zin i)) (hz0 : Az = none → nz = 0 ∧ cz = 0) (hnz : nz ≤ cz) (hbt : AtV w Ab K (bv f)) (hb0 : Ab = none → K = 0 ∧ cb = 0) (hsm : (decide (n ≤ 60) && decide (N ≤ 200)) = true) (hG : Circ.Good N n y (min m 80) o) :
    Calls Tryd.prog 4 #[circV N Ag n cg Ao m co, keysV dl Az nz cz first, .slice Ab K cb] w fun e w' => e = .returned (.bool true) ∧ Below w.heap.size w w' := by
  have X0 := Blk.new w 25 #[.int .i64 N, .slice Ag n cg, .slice Ao m co]
  have b0 := (Below.refl w.heap.size w).alloc (Nat.le_refl _) (.cells #[.int .i64 N, .slice Ag n cg, .slice Ao m co] 25)
  have X1 := Blk.new (w.alloc (.cells #[.int .i64 N, .slice Ag n cg, .slice Ao m co] 25)) 31 #[.int .u64 (dl.1 : Int), .int .u64 (dl.2 : Int), .slice Az nz cz, .int .u64 (first : Int)]
  have b1 := b0.alloc b0.size (.cells #[.int .u64 (dl.1 : Int), .int .u64 (dl.2 : Int), .slice Az nz cz, .int .u64 (first : Int)] 31)
  have Y0 := X0.alloc (.cells #[.int .u64 (dl.1 : Int), .int .u64 (dl.2 : Int), .slice Az nz cz, .int .u64 (first : Int)] 31)
  simp only [World.size_alloc] at X1
  have HAw := Lib.hid (awake_any ((w.alloc (.cells #[.int .i64 N, .slice Ag n cg, .slice Ao m co] 25)).alloc (.cells #[.int .u64 (dl.1 : Int), .int .u64 (dl.2 : Int), .slice Az nz cz, .int .u64 (first : Int)] 31)) (hh.belowS b1))
  have H1 := Lib.hid (show Below w.heap.size w ((w.alloc (.cells #[.int .i64 N, .slice Ag n cg, .slice Ao m co] 25)).alloc (.cells #[.int .u64 (dl.1 : Int), .int .u64 (dl.2 : Int), .slice Az nz cz, .int .u64 (first : Int)] 31)) ∧ circB ((w.alloc (.cells #[.int .i64 N, .slice Ag n cg, .slice Ao m co] 25)).alloc (.cells #[.int .u64 (dl.1 : Int), .int .u64 (dl.2 : Int), .slice Az nz cz, .int .u64 (first : Int)] 31)) w.heap.size N Ag n cg Ao m co ∧ KyB ((w.alloc (.cells #[.int .i64 N, .slice Ag n cg, .slice Ao m co] 25)).alloc (.cells #[.int .u64 (dl.1 : Int), .int .u64 (dl.2 : Int), .slice Az nz cz, .int .u64 (first : Int)] 31)) (w.heap.size + 1) dl Az nz cz first ∧ Handle ((w.alloc (.cells #[.int .i64 N, .slice Ag n cg, .slice Ao m co] 25)).alloc (.cells #[.int .u64 (dl.1 : Int), .int .u64 (dl.2 : Int), .slice Az nz cz, .int .u64 (first : Int)] 31)) from ⟨b1, Y0, X1, hh.belowS b1⟩)
  have HA := Lib.hid (And.intro hg (And.intro ho (And.intro hn (And.intro hm (And.intro zg (And.intro zo (And.intro hz (And.intro hz0 hnz))))))))
  have HH0 := Lib.hid hh
  have HD := Lib.hid (And.intro hdl (And.intro hfi hzw))
  have HBt := Lib.hid (And.intro hbt hb0)
  clear X0 X1 b0 b1 Y0 hh hg ho hn hm zg zo hz hz0 hnz hdl hfi hzw hbt hb0
  go_enter Tryd.func4, Tryd.ntmps4
  go_wp2_with fail
  refine HAw.out.mono ?_
  rintro e w2 ⟨rfl, hb2⟩
  have h0 := H1.out
  have H2 := Lib.hid (show Below w.heap.size w w2 ∧ circB w2 w.heap.size N Ag n cg Ao m co ∧ KyB w2 (w.heap.size + 1) dl Az nz cz first ∧ Handle w2 from ⟨h0.1.trans (hb2.mono h0.1.size), h0.2.1.below hb2 h0.2.1.lt, h0.2.2.1.below hb2 h0.2.2.1.lt, h0.2.2.2.belowS hb2⟩)
  clear H1 h0 hb2 HAw
  have c0 := H2.out.2.1.cell 0 (v := .int .i64 N) rfl
  have c1 := H2.out.2.1.cell 1 (v := .slice Ag n cg) rfl
  have c2 := H2.out.2.1.cell 2 (v := .slice Ao m co) rfl
  have HSm := Lib.hid (small_any w2 N Ag n cg Ao m co)

  have hnn : n ≤ 60 ∧ N ≤ 200 := by simpa using hsm
  rw [hsm] at HSm
  have HM0 := Lib.hid hnn
  clear hsm hnn
  go_wp2_with fail
  refine HSm.out.mono ?_
  rintro e w3 ⟨rfl, hb3⟩
  have h0 := H2.out
  have H3 := Lib.hid (show Below w.heap.size w w3 ∧ circB w3 w.heap.size N Ag n cg Ao m co ∧ KyB w3 (w.heap.size + 1) dl Az nz cz first ∧ Handle w3 from ⟨h0.1.trans (hb3.mono h0.1.size), h0.2.1.below hb3 h0.2.1.lt, h0.2.2.1.below hb3 h0.2.2.1.lt, h0.2.2.2.belowS hb3⟩)
  clear H2 h0 hb3 HSm c0 c1 c2
  have c0 := H3.out.2.1.cell 0 (v := .int .i64 N) rfl
  have c1 := H3.out.2.1.cell 1 (v := .slice Ag n cg) rfl
  have c2 := H3.out.2.1.cell 2 (v := .slice Ao m co) rfl
  have HO := Lib.hid (own_any w3 N Ag n cg y Ao m co o (HA.out.1.below H3.out.1) (HA.out.2.1.below H3.out.1) HA.out.2.2.1 HA.out.2.2.2.1 HA.out.2.2.2.2.1 HA.out.2.2.2.2.2.1)
  go_wp2_with fail
  refine HO.out.mono ?_
  rintro e w4 ⟨g1, k1, g2, k2, rfl, hg1, hg2, hR1, hR2, hb4⟩
  obtain ⟨L, hL⟩ : ∃ L, min m 80 = L := ⟨_, rfl⟩
  rw [show min n 4200 = n by have := HM0.out; omega] at hR1 ⊢
  rw [hL] at hR2 ⊢
  clear c0 c1 c2 HO
  have h0 := H3.out
  have hsz3 := h0.2.2.1.lt
  have X4 := h0.2.1.below hb4 h0.2.1.lt
  have x0 := X4.cell 0 (v := .int .i64 N) rfl
  have x1 := X4.cell 1 (v := .slice Ag n cg) rfl
  have x2 := X4.cell 2 (v := .slice Ao m co) rfl
  have xf := X4.frozen
  have hci : Ci w.heap.size N g1 n k1 g2 L k2 y o (((w4.setCell ⟨w.heap.size, 0, none⟩ (.int .i64 N)).setCell ⟨w.heap.size, 1, none⟩ (.slice (some ⟨g1, 0, none⟩) n k1)).setCell ⟨w.heap.size, 2, none⟩ (.slice (some ⟨g2, 0, none⟩) L k2)) := ci_store _ X4 rfl (by omega) (by omega) hR1.atv (by have := hR2.atv; rwa [Nat.mul_one] at this)
  have hcs := (((Chg.refl (fun q => q = w.heap.size) w4).set (p := ⟨w.heap.size, 0, none⟩) (.inr rfl) (.int .i64 N)).set (p := ⟨w.heap.size, 1, none⟩) (.inr rfl) (.slice (some ⟨g1, 0, none⟩) n k1)).set (p := ⟨w.heap.size, 2, none⟩) (.inr rfl) (.slice (some ⟨g2, 0, none⟩) L k2)
  have hbw := (h0.1.trans (hb4.mono h0.1.size)).trans (hcs.below (by have := h0.1.size; have := hb4.size; omega) (fun q e => by omega))
  have hk5 := (h0.2.2.1.below hb4 h0.2.2.1.lt).chg hcs (by omega)
  have hR5 := hR1.chg hcs (fun q hq e => by
    obtain rfl : g1 = q := Option.some.inj hq
    omega)
  have H5 := Lib.hid (show Lw w N g1 n k1 g2 L k2 y o dl Az nz cz first _ from ⟨hci, hk5, hR5.mono (fun q hq => by
    obtain rfl : g1 = q := Option.some.inj hq
    have := h0.1.size
    omega), (hR2.chg hcs (fun q hq e => by
    obtain rfl : g2 = q := Option.some.inj hq
    omega)).mono (fun q hq => by
    obtain rfl : g2 = q := Option.some.inj hq
    have := h0.1.size
    omega), HH0.out.belowS hbw, hbw⟩)
  have HG := Lib.hid (show Circ.Good N n y L o by rw [← hL]; exact hG)
  clear hG
  have HM := Lib.hid (show n ≤ 60 ∧ N ≤ 200 ∧ L ≤ 80 ∧ n ≤ k1 ∧ L ≤ k2 ∧ w.heap.size + 1 < g1 from ⟨HM0.out.1, HM0.out.2, by omega, hR1.le, hR2.le, by omega⟩)
  clear hg1 hg2 hR1 hR2 hb4 hL h0 hsz3 X4 hci hcs hbw hk5 hR5 H3 HM0
  go_upto_region 4 with fail
  clear x0 x1 x2 xf
  generalize (((w4.setCell ⟨w.heap.size, 0, none⟩ (.int .i64 N)).setCell ⟨w.heap.size, 1, none⟩ (.slice (some ⟨g1, 0, none⟩) n k1)).setCell ⟨w.heap.size, 2, none⟩ (.slice (some ⟨g2, 0, none⟩) L k2)) = w5 at *

  have q0 := H5.out.c.c.cell 0 (v := .int .i64 N) rfl
  have k0 := H5.out.k.cell 0 (v := .int .u64 (dl.1 : Int)) rfl
  have k1c := H5.out.k.cell 1 (v := .int .u64 (dl.2 : Int)) rfl
  have k2c := H5.out.k.cell 2 (v := .slice Az nz cz) rfl
  have k3c := H5.out.k.cell 3 (v := .int .u64 (first : Int)) rfl
  have kf := H5.out.k.frozen
  have eo := dl1_int HD.out.1
  have h7 := H5.out.key HH0.out (dl1 dl).1
  obtain ⟨d, hdd⟩ : ∃ d, dl1 dl = d := ⟨_, rfl⟩
  have hd1 : ((dl1 dl).1, dl.2) = d := hdd
  rw [hd1] at h7
  rw [hdd] at eo h7
  have HDd := Lib.hid (show Garb.Wd d ∧ Garb.ncol d = true from ⟨hdd ▸ dl1_wd HD.out.1, hdd ▸ dl1_col dl⟩)
  have hd2 : dl.2 = d.2 := by rw [← hdd]; rfl
  rw [hd2] at k1c
  have q7 := h7.c.c.cell 0 (v := .int .i64 N) rfl
  have r0 := h7.k.cell 0 (v := .int .u64 (d.1 : Int)) rfl
  have r1 := h7.k.cell 1 (v := .int .u64 (d.2 : Int)) rfl
  have r2 := h7.k.cell 2 (v := .slice Az nz cz) rfl
  have r3 := h7.k.cell 3 (v := .int .u64 (first : Int)) rfl
  have HZr := Lib.hid (zeros_any (w5.setCell ⟨w.heap.size + 1, 0, none⟩ (.int .u64 (d.1 : Int))) d Az nz cz first zin N (HA.out.2.2.2.2.2.2.1.below h7.b) HA.out.2.2.2.2.2.2.2.2 HA.out.2.2.2.2.2.2.2.1 (by have := HM.out.2.1; omega))
  have H7 := Lib.hid h7
  clear H5 hdd hd1 hd2 h7
  go_wp2_with fail
  refine HZr.out.mono ?_
  rintro e w8 ⟨gz, kz, rfl, hgz, hRz, hb8⟩
  obtain ⟨C, hC⟩ : ∃ C, N.toNat = C := ⟨_, rfl⟩
  rw [hC] at hRz ⊢
  have H8 := Lib.hid (H7.out.below hb8)
  have HZa := Lib.hid (show AtV w8 (some ⟨gz, 0, none⟩) (C * 2) (lv (zkc nz zin)) from hRz.atv.congr (lv_congr fun i hi => zkc_eq (by have := HM.out.2.1; omega)))
  have HC := Lib.hid hC
  clear H7 hb8 hRz hgz hC q0 k0 k1c k2c k3c kf eo q7 r0 r1 r2 r3 HZr
  have q0 := H8.out.c.c.cell 0 (v := .int .i64 N) rfl
  have q1 := H8.out.c.c.cell 1 (v := .slice (some ⟨g1, 0, none⟩) n k1) rfl
  have q2 := H8.out.c.c.cell 2 (v := .slice (some ⟨g2, 0, none⟩) L k2) rfl
  have r0 := H8.out.k.cell 0 (v := .int .u64 (d.1 : Int)) rfl
  have r1 := H8.out.k.cell 1 (v := .int .u64 (d.2 : Int)) rfl
  have r3 := H8.out.k.cell 3 (v := .int .u64 (first : Int)) rfl
  obtain ⟨H, hH⟩ := hs_ex
  have hCN : (C : Int) = N := by have := HC.out; have := HG.out.n0; omega
  have hG' : Circ.Good (C : Int) n y L o := by rw [hCN]; exact HG.out
  have HGC := Lib.hid (And.intro hG' hCN)
  have HH := Lib.hid hH
  have HGr := Lib.hid (show Calls Tryd.prog 11 #[circV N (some ⟨g1, 0, none⟩) n k1 (some ⟨g2, 0, none⟩) L k2, labL d, .slice (some ⟨gz, 0, none⟩) C kz, .int .u64 (first : Int)] w8 (GrAns H d first C n (zkc nz zin) y L o w8) by
    rw [← hCN]
    exact garble_ok H hH w8 C (some ⟨g1, 0, none⟩) n k1 y (some ⟨g2, 0, none⟩) L k2 o d (some ⟨gz, 0, none⟩) kz first (zkc nz zin) H8.out.h H8.out.c.g H8.out.c.o HZa.out (fun h => by cases h) hG' HDd.out.1 HDd.out.2 (zkc_wd HD.out.2.2))
  clear hH hG' hCN
  go_wp2_with fail
  refine HGr.out.mono ?_
  rintro e w9 ⟨gt, kt, go, rfl, hRt, hRo, hb9⟩
  have H9 := Lib.hid (show Lw w N g1 n k1 g2 L k2 y o d Az nz cz first w9 ∧ AtV w9 (some ⟨gz, 0, none⟩) (C * 2) (lv (zkc nz zin)) ∧ AtV w9 (some ⟨gt, 0, none⟩) ((2 * Circ.ands y n) * 2) (lv (tabH H d first C (zkc nz zin) y n)) ∧ AtV w9 (some ⟨go, 0, none⟩) (L * 2) (lv fun i => zerH H d first C (zkc nz zin) y n (o i).toNat) from ⟨H8.out.below hb9, HZa.out.below hb9, hRt.atv, hRo.atv⟩)
  clear q0 q1 q2 r0 r1 r3 H8 hb9 hRt hRo HZa HGr
  obtain ⟨E, hE⟩ : ∃ E, 2 * Circ.ands y n = E := ⟨_, rfl⟩
  rw [hE] at H9 ⊢
  have HE := Lib.hid hE
  clear hE
  have hci := HGC.out.1.n1
  have hmk := run_makeB w9 C C (Nat.le_refl _) (by omega)
  rw [show ((C : Nat) : Int) = N from HGC.out.2] at hmk
  have hR2 := made_row w9 C C (Nat.le_refl _) (by unfold maxLen; omega)
  have hb10 : Below w9.heap.size w9 (w9.alloc (.cells (madeCells #[Value.bool false] C) 4)) := (Below.refl _ _).alloc (Nat.le_refl _) _
  obtain ⟨kc, w11, hcp, hR3, hc3⟩ := copy_bits _ w9.heap.size w9.heap.size C C _ Ab K cb f hR2 ((HBt.out.1.below H9.out.1.b).below hb10) HBt.out.2
  have hb11 : Below w9.heap.size w9 w11 := hb10.trans (hc3.below (by simp) fun k e => by omega)
  obtain ⟨fb, hfb⟩ : ∃ fb : Nat → Bool, (fun i => if i < K then f i else false) = fb := ⟨_, rfl⟩
  have hR3' : Row w11 w9.heap.size 4 1 (.slice (some ⟨w9.heap.size, 0, none⟩) C C) C (bv fb) := hR3.congr fun i hi => by
    rw [← hfb]
    unfold bv
    by_cases h : i < K
    · simp only [if_pos h]
    · simp only [if_neg h]
  obtain ⟨gi, hgi⟩ : ∃ x, w9.heap.size = x := ⟨_, rfl⟩
  have H11 := Lib.hid (show Lw w N g1 n k1 g2 L k2 y o d Az nz cz first w11 ∧ AtV w11 (some ⟨gz, 0, none⟩) (C * 2) (lv (zkc nz zin)) ∧ AtV w11 (some ⟨gt, 0, none⟩) (E * 2) (lv (tabH H d first C (zkc nz zin) y n)) ∧ AtV w11 (some ⟨go, 0, none⟩) (L * 2) (lv fun i => zerH H d first C (zkc nz zin) y n (o i).toNat) ∧ AtV w11 (some ⟨gi, 0, none⟩) C (bv fb) from ⟨H9.out.1.below hb11, H9.out.2.1.below hb11, H9.out.2.2.1.below hb11, H9.out.2.2.2.below hb11, by have := hR3'.atv; rw [Nat.mul_one, hgi] at this; exact this⟩)
  have q0 := H9.out.1.c.c.cell 0 (v := .int .i64 N) rfl
  have q1 := H9.out.1.c.c.cell 1 (v := .slice (some ⟨g1, 0, none⟩) n k1) rfl
  have q2 := H9.out.1.c.c.cell 2 (v := .slice (some ⟨g2, 0, none⟩) L k2) rfl
  have r0 := H9.out.1.k.cell 0 (v := .int .u64 (d.1 : Int)) rfl
  have r1 := H9.out.1.k.cell 1 (v := .int .u64 (d.2 : Int)) rfl
  have r3 := H9.out.1.k.cell 3 (v := .int .u64 (first : Int)) rfl
  clear hR2 hb10 hR3 hc3 hb11 hR3' hfb H9 hci
  rw [hgi] at hmk hcp
  go_wp2
  clear q0 q1 q2 r0 r1 r3 hmk hcp hgi
  obtain ⟨lin, hlin⟩ : ∃ lin : Nat → Lab, (fun q => Garb.lab Garb.nadd (zkc nz zin q) d (fb q)) = lin := ⟨_, rfl⟩
  have hlw : ∀ q, Garb.Wd (lin q) := fun q => by rw [← hlin]; exact (zkc_wd HD.out.2.2 q).lab HDd.out.1 _
  have HLn := Lib.hid (show (∀ q, Garb.lab Garb.nadd (zkc nz zin q) d (fb q) = lin q) ∧ ∀ q, Garb.Wd (lin q) from ⟨fun q => by rw [← hlin], hlw⟩)
  clear hlin hlw
  have hcc := HGC.out.1.n1
  have HCm := Lib.hid hcc
  clear hcc
  go_loopw [12, 63] (fun v' i wr => ∃ t : Nat, ∃ v, t ≤ C ∧ v = v' ∧ i = .int .i64 t ∧ Hid (Row wr w11.heap.size 28 2 v t (lv lin) ∧ Below w11.heap.size w11 wr)) (fun _ i _ => C - (intOf i).toNat)
  case atStart => exact ⟨0, _, Nat.zero_le _, rfl, rfl, Row.nil _ _ _ _ _, Below.refl _ _⟩
  case round =>
    obtain ⟨t, v, ht, rfl, rfl, HI⟩ := hrel
    by_cases hlt2 : t < C
    · have lt1 : (t : Int) < (C : Int) := by omega
      have lt0 : (0 : Int) ≤ (t : Int) := by omega
      have e1 : IntKind.i64.wrap ((t : Int) + 1) = (t : Int) + 1 := i64_nat _ (by omega) (by have := HCm.out; omega)
      obtain ⟨_, e9, ae, hae, z0, z1, -⟩ := H11.out.2.1.lab t hlt2
      cases e9
      obtain ⟨_, e9, b0c⟩ := H11.out.2.2.2.2 t hlt2
      cases e9
      have hae' : (⟨gz, 0, none⟩ : Addr).add (t * 2) = ⟨gz, t * 2, none⟩ := by rw [Addr.add_mid, Nat.zero_add]
      rw [hae'] at hae
      subst hae
      rw [Addr.add_mid, Nat.zero_add] at b0c
      unfold bv at b0c
      have HX := Lib.hid (And.intro z0 (And.intro z1 b0c))
      have HLt := Lib.hid hlt2
      clear hlt2 z0 z1 b0c hae'
      go_wp2
      refine wp_region_held_drew (S := fun w' => Below w11.heap.size w11 w') (by kernel_rfl) (HI.out.2.trans (drewN_below _ _ 1)) (fun hS => ?_)
      have HR0 := Lib.hid (HI.out.1.below (drew_below wr))
      have HS0 := Lib.hid (show w11.heap.size ≤ wr.drew.heap.size from HI.out.2.size)
      clear HI
      generalize wr.drew = wr at *

      refine htg (i := 0) rfl (v) (by kernel_rfl) (by kernel_rfl) (by kernel_rfl) (fun _ _ _ h => h) (by rfl) hS (fun w' hw' => by go_simp) ?_
      try simp only [Act.put, List.setIfInBounds_toArray, List.set_cons_zero, List.set_cons_succ]
      refine htg (i := 1) rfl (.slice (some ⟨gz, 0, none⟩) C kz) (by kernel_rfl) (by kernel_rfl) (by kernel_rfl) (fun _ _ _ h => h) (by rfl) hS (fun w' hw' => by go_simp) ?_
      try simp only [Act.put, List.setIfInBounds_toArray, List.set_cons_zero, List.set_cons_succ]
      refine htg (i := 2) rfl (.int .i64 (t : Int)) (by kernel_rfl) (by kernel_rfl) (by kernel_rfl) (fun _ _ _ h => h) (by rfl) hS (fun w' hw' => by go_simp) ?_
      try simp only [Act.put, List.setIfInBounds_toArray, List.set_cons_zero, List.set_cons_succ]
      refine htg (i := 3) rfl (.pointer (some ⟨gz, t * 2, none⟩)) (by kernel_rfl) (by kernel_rfl) (by kernel_rfl) (fun _ _ _ h => h) (by rfl) hS (fun w' hw' => by go_simp) ?_
      try simp only [Act.put, List.setIfInBounds_toArray, List.set_cons_zero, List.set_cons_succ]
      refine htg (i := 4) rfl (labL (zkc nz zin t)) (by kernel_rfl) (by kernel_rfl) (by kernel_rfl) (fun _ _ _ h => h) (by rfl) hS (fun w' hw' => by have h0 := HX.out; have q0 := (hw'.cell (World.block_lt_of_cell? _ _ h0.1)).trans h0.1; have q1 := (hw'.cell (World.block_lt_of_cell? _ _ h0.2.1)).trans h0.2.1; clear h0; go_simp) ?_
      try simp only [Act.put, List.setIfInBounds_toArray, List.set_cons_zero, List.set_cons_succ]
      refine htg (i := 5) rfl (.pointer (some ⟨w.heap.size + 1, 0, none⟩)) (by kernel_rfl) (by kernel_rfl) (by kernel_rfl) (fun _ _ _ h => h) (by rfl) hS (fun w' hw' => by go_simp) ?_
      try simp only [Act.put, List.setIfInBounds_toArray, List.set_cons_zero, List.set_cons_succ]
      refine htg (i := 6) rfl (labL d) (by kernel_rfl) (by kernel_rfl) (by kernel_rfl) (fun _ _ _ h => h) (by rfl) hS (fun w' hw' => by have hk := (H11.out.1.below hw').k; have q0 := hk.cell 0 (v := .int .u64 (d.1 : Int)) rfl; have q1 := hk.cell 1 (v := .int .u64 (d.2 : Int)) rfl; clear hk; go_simp) ?_
      try simp only [Act.put, List.setIfInBounds_toArray, List.set_cons_zero, List.set_cons_succ]
      refine htg (i := 7) rfl (.slice (some ⟨gi, 0, none⟩) C C) (by kernel_rfl) (by kernel_rfl) (by kernel_rfl) (fun _ _ _ h => h) (by rfl) hS (fun w' hw' => by go_simp) ?_
      try simp only [Act.put, List.setIfInBounds_toArray, List.set_cons_zero, List.set_cons_succ]
      refine htg (i := 8) rfl (.int .i64 (t : Int)) (by kernel_rfl) (by kernel_rfl) (by kernel_rfl) (fun _ _ _ h => h) (by rfl) hS (fun w' hw' => by go_simp) ?_
      try simp only [Act.put, List.setIfInBounds_toArray, List.set_cons_zero, List.set_cons_succ]
      refine htg (i := 9) rfl (.pointer (some ⟨gi, t, none⟩)) (by kernel_rfl) (by kernel_rfl) (by kernel_rfl) (fun _ _ _ h => h) (by rfl) hS (fun w' hw' => by go_simp) ?_
      try simp only [Act.put, List.setIfInBounds_toArray, List.set_cons_zero, List.set_cons_succ]
      refine htg (i := 10) rfl (.bool (fb t)) (by kernel_rfl) (by kernel_rfl) (by kernel_rfl) (fun _ _ _ h => h) (by rfl) hS (fun w' hw' => by have h0 := HX.out; have q0 := (hw'.cell (World.block_lt_of_cell? _ _ h0.2.2)).trans h0.2.2; clear h0; go_simp) ?_
      try simp only [Act.put, List.setIfInBounds_toArray, List.set_cons_zero, List.set_cons_succ]
      refine h1g (i := 11) (by kernel_rfl) rfl (by rfl) (fun K' hK => ?_)
      go_simp
      refine (label_any (zkc nz zin t) d (fb t) wr (zkc_wd HD.out.2.2 t) HDd.out.1).mono ?_
      rw [HLn.out.1 t]
      rintro e w2 ⟨rfl, hb2⟩
      have hS := hS.trans (hb2.mono HS0.out)
      refine hK.out _ _ hS ?_
      have hR2 := HR0.out.below hb2
      have hs2 : w11.heap.size ≤ w2.heap.size := Nat.le_trans HS0.out hb2.size
      clear hK K' HR0 hb2
      try simp only [Act.put, List.setIfInBounds_toArray, List.set_cons_zero, List.set_cons_succ]
      obtain ⟨gn, kk, w5, hr, hgB, hR5, hgr, _⟩ := append_one eltL w2 w11.heap.size v t (lv lin) (lv fun _ => lin t) #[.int .u64 ((lin t).1 : Int), .int .u64 ((lin t).2 : Int)] hR2 (fun j hj => by
        rcases (show j = 0 ∨ j = 1 by omega) with rfl | rfl <;> rfl) (lv_one _) (by have := HLt.out; have := HCm.out; omega) (by have := HLt.out; have := HCm.out; unfold maxLen; omega) hs2
      have hown := hR2.own
      have hb5 : Below w11.heap.size w11 w5 := (hS.alloc hs2 (.cells #[.int .u64 ((lin t).1 : Int), .int .u64 ((lin t).2 : Int)] 28)).grown hgr (by simp; omega) (fun q hq => (hown q hq).1)
      have HR := Lib.hid hr
      have HF := Lib.hid (And.intro (hR5.congr (G := lv lin) (lv_next (fun i _ => rfl) rfl)) hb5)
      have hS3 := hS.alloc hs2 (.cells #[.int .u64 ((lin t).1 : Int), .int .u64 ((lin t).2 : Int)] 28)
      clear hr hgB hR5 hgr hown hb5 hR2 hs2
      refine h1g (i := 12) (by kernel_rfl) rfl (by rfl) (fun K' hK => ?_)
      go_simp
      refine hK.out _ _ hS3 ?_
      clear hK K' hS
      try simp only [Act.put, List.setIfInBounds_toArray, List.set_cons_zero, List.set_cons_succ]
      refine h1g (i := 13) (by kernel_rfl) rfl (by rfl) (fun K' hK => ?_)
      refine wp_append_run _ _ 29 rfl v (.slice (some ⟨w2.heap.size, 0, none⟩) 1 1) (.slice (some ⟨gn, 0, none⟩) (t + 1) kk) w5 rfl rfl (HR.out _) ?_
      refine hK.out _ _ HF.out.2 ?_
      have hS := HF.out.2
      clear hK K' hS3 HR
      try simp only [Act.put, List.setIfInBounds_toArray, List.set_cons_zero, List.set_cons_succ]
      refine htg (i := 14) rfl (.slice (some ⟨gn, 0, none⟩) (t + 1) kk) (by kernel_rfl) (by kernel_rfl) (by kernel_rfl) (fun _ _ _ h => h) (by rfl) hS (fun w' hw' => by go_simp) ?_
      try simp only [Act.put, List.setIfInBounds_toArray, List.set_cons_zero, List.set_cons_succ]
      refine wpAnyH_done (by kernel_rfl) ?_ _
      clear hS
      go_wp2
      go_roundw
      case rel => exact ⟨t + 1, _, by have := HLt.out; omega, rfl, by go_num, HF.out.1, HF.out.2⟩
      case measure => simp [intOf]; have := HLt.out; omega
    · obtain rfl : t = C := by omega
      have lt1 : ¬ (t : Int) < (t : Int) := by omega
      obtain ⟨w12, hw12⟩ : ∃ x, x = wr := ⟨_, rfl⟩
      subst hw12
      obtain ⟨Al, cl, rfl, _, _, hnil, hAl, _, _⟩ := HI.out.1.read
      have hb := HI.out.2
      have h0 := H11.out
      have H12 := Lib.hid (show Lw w N g1 n k1 g2 L k2 y o d Az nz cz first w12 ∧ AtV w12 (some ⟨gt, 0, none⟩) (E * 2) (lv (tabH H d first t (zkc nz zin) y n)) ∧ AtV w12 (some ⟨go, 0, none⟩) (L * 2) (lv fun i => zerH H d first t (zkc nz zin) y n (o i).toNat) ∧ AtV w12 (some ⟨gi, 0, none⟩) t (bv fb) from ⟨h0.1.below hb, h0.2.2.1.below hb, h0.2.2.2.1.below hb, h0.2.2.2.2.below hb⟩)
      have HEv := Lib.hid (show Calls Tryd.prog 21 #[circV N (some ⟨g1, 0, none⟩) n k1 (some ⟨g2, 0, none⟩) L k2, .slice Al t cl, .slice (some ⟨gt, 0, none⟩) E kt, .int .u64 (first : Int)] w12 (GeAns H first t n lin (tabH H d first t (zkc nz zin) y n) y L o w12) by
        rw [← HGC.out.2]
        exact geval_ok H HH.out w12 t (some ⟨g1, 0, none⟩) n k1 y (some ⟨g2, 0, none⟩) L k2 o Al cl (some ⟨gt, 0, none⟩) E kt first lin (tabH H d first t (zkc nz zin) y n) H12.out.1.h H12.out.1.c.g H12.out.1.c.o hAl hnil H12.out.2.1 HGC.out.1 HE.out.symm HLn.out.2 (Garb.tabs_wd HH.out.wd HDd.out.1 (Garb.tw_lt first) (Garb.tw1_lt first) (zkc_wd HD.out.2.2) n))
      clear hlt2 ht hb h0 hnil hAl HI H11
      have q0 := H12.out.1.c.c.cell 0 (v := .int .i64 N) rfl
      have q1 := H12.out.1.c.c.cell 1 (v := .slice (some ⟨g1, 0, none⟩) n k1) rfl
      have q2 := H12.out.1.c.c.cell 2 (v := .slice (some ⟨g2, 0, none⟩) L k2) rfl
      have r0 := H12.out.1.k.cell 0 (v := .int .u64 (d.1 : Int)) rfl
      have r1 := H12.out.1.k.cell 1 (v := .int .u64 (d.2 : Int)) rfl
      have r3 := H12.out.1.k.cell 3 (v := .int .u64 (first : Int)) rfl
      go_wp2_with fail
      refine HEv.out.mono ?_
      rintro e w13 ⟨gl, rfl, hRl, hb13⟩
      have H13 := Lib.hid (show Lw w N g1 n k1 g2 L k2 y o d Az nz cz first w13 ∧ AtV w13 (some ⟨gl, 0, none⟩) (L * 2) (lv fun i => evlH H first t lin (tabH H d first t (zkc nz zin) y n) y n (o i).toNat) ∧ AtV w13 (some ⟨go, 0, none⟩) (L * 2) (lv fun i => zerH H d first t (zkc nz zin) y n (o i).toNat) ∧ AtV w13 (some ⟨gi, 0, none⟩) t (bv fb) from ⟨H12.out.1.below hb13, hRl.atv, H12.out.2.2.1.below hb13, H12.out.2.2.2.below hb13⟩)
      clear q0 q1 q2 r0 r1 r3 HEv H12 hRl hb13
      go_wp2
      refine wp_region_held_drew (S := fun w' => Below w13.heap.size w13 w') (by kernel_rfl) (drew_below w13) (fun hS => ?_)
      refine htg (i := 0) rfl (circV N (some ⟨g1, 0, none⟩) n k1 (some ⟨g2, 0, none⟩) L k2) (by kernel_rfl) (by kernel_rfl) (by kernel_rfl) (fun _ _ _ h => h) (by rfl) hS (fun w' hw' => by have hc := (H13.out.1.below hw').c.c; have q0 := hc.cell 0 (v := .int .i64 N) rfl; have q1 := hc.cell 1 (v := .slice (some ⟨g1, 0, none⟩) n k1) rfl; have q2 := hc.cell 2 (v := .slice (some ⟨g2, 0, none⟩) L k2) rfl; clear hc; go_simp) ?_
      try simp only [Act.put, List.setIfInBounds_toArray, List.set_cons_zero, List.set_cons_succ]
      refine htg (i := 2) rfl (.pointer (some ⟨w.heap.size, 2, none⟩)) (by kernel_rfl) (by kernel_rfl) (by kernel_rfl) (fun _ _ _ h => h) (by rfl) hS (fun w' hw' => by go_simp) ?_
      try simp only [Act.put, List.setIfInBounds_toArray, List.set_cons_zero, List.set_cons_succ]
      refine htg (i := 3) rfl (.slice (some ⟨g2, 0, none⟩) L k2) (by kernel_rfl) (by kernel_rfl) (by kernel_rfl) (fun _ _ _ h => h) (by rfl) hS (fun w' hw' => by have hc := (H13.out.1.below hw').c.c; have q0 := hc.cell 0 (v := .int .i64 N) rfl; have q1 := hc.cell 1 (v := .slice (some ⟨g1, 0, none⟩) n k1) rfl; have q2 := hc.cell 2 (v := .slice (some ⟨g2, 0, none⟩) L k2) rfl; clear hc; go_simp) ?_
      try simp only [Act.put, List.setIfInBounds_toArray, List.set_cons_zero, List.set_cons_succ]
      refine htg (i := 4) rfl (.slice (some ⟨gi, 0, none⟩) t t) (by kernel_rfl) (by kernel_rfl) (by kernel_rfl) (fun _ _ _ h => h) (by rfl) hS (fun w' hw' => by go_simp) ?_
      try simp only [Act.put, List.setIfInBounds_toArray, List.set_cons_zero, List.set_cons_succ]
      refine h1g (i := 1) (by kernel_rfl) rfl (by rfl) (fun K' hK => ?_)
      go_simp
      have HS13 := Lib.hid hS
      refine (gates_any w13.drew N (some ⟨g1, 0, none⟩) n k1 y (some ⟨g2, 0, none⟩) L k2 (H13.out.1.below hS).c.g (by have := HM.out.1; omega)).mono ?_
      rintro e w14 ⟨v14, rfl, hR14, hb14⟩
      obtain ⟨A14, c14, rfl, _, _, _, hA14, _, _⟩ := hR14.read
      have hS := hS.trans (hb14.mono hS.size)
      refine hK.out _ _ hS ?_
      have HGt := Lib.hid hA14
      clear hK K' hR14 hb14 hA14 HS13
      try simp only [Act.put, List.setIfInBounds_toArray, List.set_cons_zero, List.set_cons_succ]
      refine h1g (i := 5) (by kernel_rfl) rfl (by rfl) (fun K' hK => ?_)
      go_simp
      have hx := H13.out.1.below hS
      refine (reval_any w14 t A14 n c14 y (some ⟨g2, 0, none⟩) L k2 o (some ⟨gi, 0, none⟩) t fb HGt.out hx.c.o (H13.out.2.2.2.below hS) (fun h => by cases h) HGC.out.1).mono ?_
      rintro e w15 ⟨v15, rfl, hR15, hb15⟩
      obtain ⟨A15, c15, rfl, _, _, _, hA15, _, _⟩ := hR15.read
      rw [Nat.mul_one] at hA15
      have hS := hS.trans (hb15.mono hS.size)
      refine hK.out _ _ hS ?_
      have HWt := Lib.hid hA15
      clear hK K' hR15 hb15 hA15 hx HGt
      try simp only [Act.put, List.setIfInBounds_toArray, List.set_cons_zero, List.set_cons_succ]
      refine htg (i := 6) rfl (.slice A15 L c15) (by kernel_rfl) (by kernel_rfl) (by kernel_rfl) (fun _ _ _ h => h) (by rfl) hS (fun w' hw' => by go_simp) ?_
      try simp only [Act.put, List.setIfInBounds_toArray, List.set_cons_zero, List.set_cons_succ]
      refine wpAnyH_done (by kernel_rfl) ?_ _
      have h0 := H13.out
      have H15 := Lib.hid (show Lw w N g1 n k1 g2 L k2 y o d Az nz cz first w15 ∧ AtV w15 (some ⟨gl, 0, none⟩) (L * 2) (lv fun i => evlH H first t lin (tabH H d first t (zkc nz zin) y n) y n (o i).toNat) ∧ AtV w15 (some ⟨go, 0, none⟩) (L * 2) (lv fun i => zerH H d first t (zkc nz zin) y n (o i).toNat) from ⟨h0.1.below hS, h0.2.1.below hS, h0.2.2.1.below hS⟩)
      have kk : ((L : Int) != (L : Int)) = false := by simp
      clear h0 hS H13
      go_wp2
      clear kk
      go_loopw [114] (fun i wr => ∃ s : Nat, s ≤ L ∧ i = .int .i64 s ∧ Hid (Below w15.heap.size w15 wr)) (fun i _ => L - (intOf i).toNat)
      case atStart => exact ⟨0, Nat.zero_le _, rfl, Below.refl _ _⟩
      case round =>
        obtain ⟨s, hs, rfl, HI⟩ := hrel
        by_cases hlt2 : s < L
        · have hol := HGC.out.1.out s hlt2
          obtain ⟨X, hX⟩ : ∃ X, evlH H first t lin (tabH H d first t (zkc nz zin) y n) y n (o s).toNat = X := ⟨_, rfl⟩
          obtain ⟨Z, hZ⟩ : ∃ Z, zerH H d first t (zkc nz zin) y n (o s).toNat = Z := ⟨_, rfl⟩
          obtain ⟨b, hb⟩ : ∃ b, Circ.vals t fb y n (o s).toNat = b := ⟨_, rfl⟩
          have hre := right_eq H d HDd.out.2 first t n (zkc nz zin) lin y L o fb HGC.out.1 (fun q _ => (HLn.out.1 q).symm) (o s).toNat (by omega)
          rw [hX, hZ, hb] at hre
          have hZw : Garb.Wd Z := hZ ▸ Garb.zer_wd HH.out.wd HDd.out.1 (Garb.tw_lt first) (Garb.tw1_lt first) t (zkc nz zin) y (zkc_wd HD.out.2.2) n _
          obtain ⟨_, e9, ae, hae, x0, x1, -⟩ := (H15.out.2.1.below HI.out).lab s hlt2
          cases e9
          obtain ⟨_, e9, ae2, hae2, z0, z1, -⟩ := (H15.out.2.2.below HI.out).lab s hlt2
          cases e9
          rw [Addr.add_mid, Nat.zero_add] at hae hae2
          subst hae hae2
          obtain ⟨aw, rfl, w0c⟩ := (HWt.out.below HI.out) s hlt2
          unfold bv at w0c
          rw [hX] at x0 x1
          rw [hZ] at z0 z1
          have w0c : wr.cell? (aw.add s) = some (.bool (Circ.vals t fb y n (o s).toNat)) := w0c
          rw [hb] at w0c
          have hkey := (H15.out.1.below HI.out).k
          have lt1 : (s : Int) < (L : Int) := by omega
          have lt0 : (0 : Int) ≤ (s : Int) := by omega
          have e1 : IntKind.i64.wrap ((s : Int) + 1) = (s : Int) + 1 := i64_nat _ (by omega) (by have := HM.out.2.2.1; omega)
          have XB := Blk.new wr 28 #[.int .u64 (Z.1 : Int), .int .u64 (Z.2 : Int)]
          have hb2 := (Below.refl wr.heap.size wr).alloc (Nat.le_refl _) (.cells #[.int .u64 (Z.1 : Int), .int .u64 (Z.2 : Int)] 28)
          have c0 := (hb2.cell (World.block_lt_of_cell? _ _ w0c)).trans w0c
          have hk2 := hkey.below hb2 hkey.lt
          have r0 := hk2.cell 0 (v := .int .u64 (d.1 : Int)) rfl
          have r1 := hk2.cell 1 (v := .int .u64 (d.2 : Int)) rfl
          have xb0 := XB.cell 0 (v := .int .u64 (Z.1 : Int)) rfl
          have xb1 := XB.cell 1 (v := .int .u64 (Z.2 : Int)) rfl
          have HXc := Lib.hid (show (w15.heap.size ≤ wr.heap.size) ∧ (wr.cell? ⟨gl, s * 2, none⟩ = some (.int .u64 (X.1 : Int)) ∧ wr.cell? ⟨gl, s * 2 + 1, none⟩ = some (.int .u64 (X.2 : Int))) ∧ (wr.cell? ⟨go, s * 2, none⟩ = some (.int .u64 (Z.1 : Int)) ∧ wr.cell? ⟨go, s * 2 + 1, none⟩ = some (.int .u64 (Z.2 : Int))) ∧ wr.cell? (aw.add s) = some (.bool b) ∧ KyB wr (w.heap.size + 1) d Az nz cz first from ⟨HI.out.size, ⟨x0, x1⟩, ⟨z0, z1⟩, w0c, hkey⟩)
          have HRe := Lib.hid (And.intro hre hZw)
          have HBx := Lib.hid (show Below w15.heap.size w15 (wr.alloc (.cells #[.int .u64 (Z.1 : Int), .int .u64 (Z.2 : Int)] 28)) ∧ Below wr.heap.size wr (wr.alloc (.cells #[.int .u64 (Z.1 : Int), .int .u64 (Z.2 : Int)] 28)) from ⟨HI.out.trans (hb2.mono HI.out.size), hb2⟩)
          have HXB := Lib.hid XB
          have HLt := Lib.hid hlt2
          clear hlt2 hol hX hZ hb hre hZw x1 w0c hkey XB hb2 hk2 HI x0
          cases hbv : b with
          | false =>
            rw [hbv] at c0 HRe
            have hXZ : X = Z := HRe.out.1
            have HW3 := Lib.hid (show Below wr.heap.size wr (wr.alloc (.cells #[.int .u64 (Z.1 : Int), .int .u64 (Z.2 : Int)] 28)) ∧ LbB (wr.alloc (.cells #[.int .u64 (Z.1 : Int), .int .u64 (Z.2 : Int)] 28)) wr.heap.size X from ⟨HBx.out.2, by rw [hXZ]; exact HXB.out⟩)
            have HB3 := Lib.hid HBx.out.1
            rw [hbv] at HXc
            clear hXZ HBx HXB hbv
            go_wp2
            clear c0 r0 r1 xb0 xb1 z0 z1
            generalize (wr.alloc (.cells #[.int .u64 (Z.1 : Int), .int .u64 (Z.2 : Int)] 28)) = w3 at *
            refine Rely.region (G := Nat) (vs := [fun _ => .slice (some ⟨gl, 0, none⟩) L L, fun _ => .int .i64 (s : Int), fun _ => .pointer (some ⟨gl, s * 2, none⟩), fun _ => labL X, fun _ => labL X, fun _ => .bool false, fun _ => .bool false, fun _ => .slice (some ⟨go, 0, none⟩) L L, fun _ => .int .i64 (s : Int), fun _ => .pointer (some ⟨go, s * 2, none⟩), fun _ => labL Z, fun _ => .pointer (some ⟨w.heap.size + 1, 0, none⟩), fun _ => labL d, fun _ => .slice (some aw) L c15, fun _ => .int .i64 (s : Int), fun _ => .pointer (some (aw.add s)), fun _ => .bool false, fun _ => labL X, fun _ => labL X, fun _ => .bool false, fun _ => .bool false]) (F := fun _ _ w' => Below w3.heap.size w3 w') (by kernel_rfl) (by kernel_rfl) rfl (fun _ => 0) (drew_below w3) ?hsteps ?hend
            case hsteps =>
              refine Rely.Steps.cons (fun Lf γ ev wv hL hE hF hC hCf hO hV => ?_) ?_
              · clear hL
                have v14 : ev (.tmp 14) = .slice (some ⟨gl, 0, none⟩) L L := (hO 14 (by kernel_rfl)).trans rfl
                clear hE hO hV
                exact Rely.Good.value 0 (u := .slice (some ⟨gl, 0, none⟩) L L) (by go_simp) (fun _ _ => rfl) hF
              refine Rely.Steps.cons (fun Lf γ ev wv hL hE hF hC hCf hO hV => ?_) ?_
              · clear hL
                have v17 : ev (.tmp 17) = .int .i64 (s : Int) := (hO 17 (by kernel_rfl)).trans rfl
                clear hE hO hV
                exact Rely.Good.value 0 (u := .int .i64 (s : Int)) (by go_simp) (fun _ _ => rfl) hF
              refine Rely.Steps.cons (fun Lf γ ev wv hL hE hF hC hCf hO hV => ?_) ?_
              · clear hL
                have hL0 : Lf 0 = true := hE _ (Array.mem_of_getElem? (i := 0) rfl) rfl
                have v129 : ev (.tmp 129) = .slice (some ⟨gl, 0, none⟩) L L := hV 0 129 hL0 rfl
                have hL1 : Lf 1 = true := hE _ (Array.mem_of_getElem? (i := 1) rfl) rfl
                have v130 : ev (.tmp 130) = .int .i64 (s : Int) := hV 1 130 hL1 rfl
                clear hE hO hV
                exact Rely.Good.value 0 (u := .pointer (some ⟨gl, s * 2, none⟩)) (by go_simp) (fun _ _ => rfl) hF
              refine Rely.Steps.cons (fun Lf γ ev wv hL hE hF hC hCf hO hV => ?_) ?_
              · clear hL
                have hL2 : Lf 2 = true := hE _ (Array.mem_of_getElem? (i := 0) rfl) rfl
                have v131 : ev (.tmp 131) = .pointer (some ⟨gl, s * 2, none⟩) := hV 2 131 hL2 rfl
                clear hE hO hV
                have hw := HW3.out.1.trans (hF.mono HW3.out.1.size)
                have q0 := (hw.cell (World.block_lt_of_cell? _ _ HXc.out.2.1.1)).trans HXc.out.2.1.1
                have q1 := (hw.cell (World.block_lt_of_cell? _ _ HXc.out.2.1.2)).trans HXc.out.2.1.2
                have HF := Lib.hid hF
                clear hF hw
                exact Rely.Good.value 0 (u := labL X) (by go_simp) (fun _ _ => rfl) HF.out
              refine Rely.Steps.cons (fun Lf γ ev wv hL hE hF hC hCf hO hV => ?_) ?_
              · clear hL
                have v18 : ev (.tmp 18) = .pointer (some ⟨wr.heap.size, 0, none⟩) := (hO 18 (by kernel_rfl)).trans rfl
                clear hE hO hV
                have hx := Blk.below HW3.out.2 hF (Blk.lt HW3.out.2)
                have q0 := Blk.cell hx 0 rfl
                have q1 := Blk.cell hx 1 rfl
                have HF := Lib.hid hF
                clear hF hx
                exact Rely.Good.value 0 (u := labL X) (by go_simp) (fun _ _ => rfl) HF.out
              refine Rely.Steps.cons (fun Lf γ ev wv hL hE hF hC hCf hO hV => ?_) ?_
              · clear hL
                have hL3 : Lf 3 = true := hE _ (Array.mem_of_getElem? (i := 0) rfl) rfl
                have v132 : ev (.tmp 132) = labL X := hV 3 132 hL3 rfl
                have hL4 : Lf 4 = true := hE _ (Array.mem_of_getElem? (i := 1) rfl) rfl
                have v133 : ev (.tmp 133) = labL X := hV 4 133 hL4 rfl
                clear hE hO hV
                have hq := Ae.run_eql_lab
                exact Rely.Good.value 0 (u := .bool false) (by go_simp) (fun _ _ => rfl) hF
              refine Rely.Steps.cons (fun Lf γ ev wv hL hE hF hC hCf hO hV => ?_) ?_
              · clear hL
                have hL5 : Lf 5 = true := hE _ (Array.mem_of_getElem? (i := 0) rfl) rfl
                have v134 : ev (.tmp 134) = .bool false := hV 5 134 hL5 rfl
                clear hE hO hV
                exact Rely.Good.value 0 (u := .bool false) (by go_simp) (fun _ _ => rfl) hF
              refine Rely.Steps.yes 6 false (fun _ => rfl) (fun Lf γ ev wv hL hE hF hC hCf hO hV => ?_) ?_
              · clear hL
                have v9 : ev (.tmp 9) = .slice (some ⟨go, 0, none⟩) L L := (hO 9 (by kernel_rfl)).trans rfl
                clear hE hO hV
                exact Rely.Good.value 0 (u := .slice (some ⟨go, 0, none⟩) L L) (by go_simp) (fun _ _ => rfl) hF
              refine Rely.Steps.yes 6 false (fun _ => rfl) (fun Lf γ ev wv hL hE hF hC hCf hO hV => ?_) ?_
              · clear hL
                have v17 : ev (.tmp 17) = .int .i64 (s : Int) := (hO 17 (by kernel_rfl)).trans rfl
                clear hE hO hV
                exact Rely.Good.value 0 (u := .int .i64 (s : Int)) (by go_simp) (fun _ _ => rfl) hF
              refine Rely.Steps.yes 6 false (fun _ => rfl) (fun Lf γ ev wv hL hE hF hC hCf hO hV => ?_) ?_
              · clear hL
                have hL7 : Lf 7 = true := hE _ (Array.mem_of_getElem? (i := 0) rfl) rfl
                have v136 : ev (.tmp 136) = .slice (some ⟨go, 0, none⟩) L L := hV 7 136 hL7 rfl
                have hL8 : Lf 8 = true := hE _ (Array.mem_of_getElem? (i := 1) rfl) rfl
                have v137 : ev (.tmp 137) = .int .i64 (s : Int) := hV 8 137 hL8 rfl
                clear hE hO hV
                exact Rely.Good.value 0 (u := .pointer (some ⟨go, s * 2, none⟩)) (by go_simp) (fun _ _ => rfl) hF
              refine Rely.Steps.yes 6 false (fun _ => rfl) (fun Lf γ ev wv hL hE hF hC hCf hO hV => ?_) ?_
              · clear hL
                have hL9 : Lf 9 = true := hE _ (Array.mem_of_getElem? (i := 0) rfl) rfl
                have v138 : ev (.tmp 138) = .pointer (some ⟨go, s * 2, none⟩) := hV 9 138 hL9 rfl
                clear hE hO hV
                have hw := HW3.out.1.trans (hF.mono HW3.out.1.size)
                have q0 := (hw.cell (World.block_lt_of_cell? _ _ HXc.out.2.2.1.1)).trans HXc.out.2.2.1.1
                have q1 := (hw.cell (World.block_lt_of_cell? _ _ HXc.out.2.2.1.2)).trans HXc.out.2.2.1.2
                have HF := Lib.hid hF
                clear hF hw
                exact Rely.Good.value 0 (u := labL Z) (by go_simp) (fun _ _ => rfl) HF.out
              refine Rely.Steps.yes 6 false (fun _ => rfl) (fun Lf γ ev wv hL hE hF hC hCf hO hV => ?_) ?_
              · clear hL
                have v4 : ev (.tmp 4) = .pointer (some ⟨w.heap.size + 1, 0, none⟩) := (hO 4 (by kernel_rfl)).trans rfl
                clear hE hO hV
                exact Rely.Good.value 0 (u := .pointer (some ⟨w.heap.size + 1, 0, none⟩)) (by go_simp) (fun _ _ => rfl) hF
              refine Rely.Steps.yes 6 false (fun _ => rfl) (fun Lf γ ev wv hL hE hF hC hCf hO hV => ?_) ?_
              · clear hL
                have hL11 : Lf 11 = true := hE _ (Array.mem_of_getElem? (i := 0) rfl) rfl
                have v140 : ev (.tmp 140) = .pointer (some ⟨w.heap.size + 1, 0, none⟩) := hV 11 140 hL11 rfl
                clear hE hO hV
                have hw := HW3.out.1.trans (hF.mono HW3.out.1.size)
                have hk := Blk.below HXc.out.2.2.2.2 hw (Blk.lt HXc.out.2.2.2.2)
                have q0 := Blk.cell hk 0 (v := .int .u64 (d.1 : Int)) rfl
                have q1 := Blk.cell hk 1 (v := .int .u64 (d.2 : Int)) rfl
                have HF := Lib.hid hF
                clear hF hw hk
                exact Rely.Good.value 0 (u := labL d) (by go_simp) (fun _ _ => rfl) HF.out
              refine Rely.Steps.yes 6 false (fun _ => rfl) (fun Lf γ ev wv hL hE hF hC hCf hO hV => ?_) ?_
              · clear hL
                have v16 : ev (.tmp 16) = .slice (some aw) L c15 := (hO 16 (by kernel_rfl)).trans rfl
                clear hE hO hV
                exact Rely.Good.value 0 (u := .slice (some aw) L c15) (by go_simp) (fun _ _ => rfl) hF
              refine Rely.Steps.yes 6 false (fun _ => rfl) (fun Lf γ ev wv hL hE hF hC hCf hO hV => ?_) ?_
              · clear hL
                have v17 : ev (.tmp 17) = .int .i64 (s : Int) := (hO 17 (by kernel_rfl)).trans rfl
                clear hE hO hV
                exact Rely.Good.value 0 (u := .int .i64 (s : Int)) (by go_simp) (fun _ _ => rfl) hF
              refine Rely.Steps.yes 6 false (fun _ => rfl) (fun Lf γ ev wv hL hE hF hC hCf hO hV => ?_) ?_
              · clear hL
                have hL13 : Lf 13 = true := hE _ (Array.mem_of_getElem? (i := 0) rfl) rfl
                have v142 : ev (.tmp 142) = .slice (some aw) L c15 := hV 13 142 hL13 rfl
                have hL14 : Lf 14 = true := hE _ (Array.mem_of_getElem? (i := 1) rfl) rfl
                have v143 : ev (.tmp 143) = .int .i64 (s : Int) := hV 14 143 hL14 rfl
                clear hE hO hV
                exact Rely.Good.value 0 (u := .pointer (some (aw.add s))) (by go_simp) (fun _ _ => rfl) hF
              refine Rely.Steps.yes 6 false (fun _ => rfl) (fun Lf γ ev wv hL hE hF hC hCf hO hV => ?_) ?_
              · clear hL
                have hL15 : Lf 15 = true := hE _ (Array.mem_of_getElem? (i := 0) rfl) rfl
                have v144 : ev (.tmp 144) = .pointer (some (aw.add s)) := hV 15 144 hL15 rfl
                clear hE hO hV
                have hw := HW3.out.1.trans (hF.mono HW3.out.1.size)
                have q0 := (hw.cell (World.block_lt_of_cell? _ _ HXc.out.2.2.2.1)).trans HXc.out.2.2.2.1
                have HF := Lib.hid hF
                clear hF hw
                exact Rely.Good.value 0 (u := .bool false) (by go_simp) (fun _ _ => rfl) HF.out
              refine Rely.Steps.yes 6 false (fun _ => rfl) (fun Lf γ ev wv hL hE hF hC hCf hO hV => ?_) ?_
              · clear hL
                have hL10 : Lf 10 = true := hE _ (Array.mem_of_getElem? (i := 0) rfl) rfl
                have v139 : ev (.tmp 139) = labL Z := hV 10 139 hL10 rfl
                have hL12 : Lf 12 = true := hE _ (Array.mem_of_getElem? (i := 1) rfl) rfl
                have v141 : ev (.tmp 141) = labL d := hV 12 141 hL12 rfl
                have hL16 : Lf 16 = true := hE _ (Array.mem_of_getElem? (i := 2) rfl) rfl
                have v145 : ev (.tmp 145) = .bool false := hV 16 145 hL16 rfl
                clear hE hO hV
                have HF := Lib.hid hF
                clear hF
                exact Rely.Good.enter (f := 20) (args := #[labL Z, labL d, .bool false]) (by go_simp) ((label_any Z d false wv HRe.out.2 HDd.out.1).mono fun e w2 hc => ⟨0, _, hc.1, fun _ _ => by rw [← HRe.out.1]; rfl, HF.out.trans (hc.2.mono HF.out.size)⟩)
              refine Rely.Steps.yes 6 false (fun _ => rfl) (fun Lf γ ev wv hL hE hF hC hCf hO hV => ?_) ?_
              · clear hL
                have v18 : ev (.tmp 18) = .pointer (some ⟨wr.heap.size, 0, none⟩) := (hO 18 (by kernel_rfl)).trans rfl
                clear hE hO hV
                have hx := Blk.below HW3.out.2 hF (Blk.lt HW3.out.2)
                have q0 := Blk.cell hx 0 rfl
                have q1 := Blk.cell hx 1 rfl
                have HF := Lib.hid hF
                clear hF hx
                exact Rely.Good.value 0 (u := labL X) (by go_simp) (fun _ _ => rfl) HF.out
              refine Rely.Steps.yes 6 false (fun _ => rfl) (fun Lf γ ev wv hL hE hF hC hCf hO hV => ?_) ?_
              · clear hL
                have hL17 : Lf 17 = true := hE _ (Array.mem_of_getElem? (i := 0) rfl) rfl
                have v146 : ev (.tmp 146) = labL X := hV 17 146 hL17 rfl
                have hL18 : Lf 18 = true := hE _ (Array.mem_of_getElem? (i := 1) rfl) rfl
                have v147 : ev (.tmp 147) = labL X := hV 18 147 hL18 rfl
                clear hE hO hV
                have hq := Ae.run_eql_lab
                exact Rely.Good.value 0 (u := .bool false) (by go_simp) (fun _ _ => rfl) hF
              refine Rely.Steps.cons (fun Lf γ ev wv hL hE hF hC hCf hO hV => ?_) ?_
              · clear hL
                have hL6 : Lf 6 = true := hE _ (Array.mem_of_getElem? (i := 0) rfl) rfl
                have v135 : ev (.tmp 135) = .bool false := hV 6 135 hL6 rfl
                have hL19 : Lf 19 = true := hE _ (Array.mem_of_getElem? (i := 1) rfl) rfl
                have v148 : ev (.tmp 148) = .bool false := hV 19 148 hL19 rfl
                clear hE hO hV
                exact Rely.Good.value 0 (u := .bool false) (by go_simp) (fun _ _ => rfl) hF
              exact Rely.Steps.nil
            case hend =>
              intro γ w7 hF
              have HN := Lib.hid (HB3.out.trans (hF.mono HB3.out.size))
              clear hF HXc HW3 HB3
              simp only [Rely.fin, Act.put, List.setIfInBounds_toArray, List.set_cons_zero, List.set_cons_succ]
              go_wp2
              go_roundw
              case rel => exact ⟨s + 1, by have := HLt.out; omega, by go_num, HN.out⟩
              case measure => simp [intOf]; have := HLt.out; omega
          | true =>
            rw [hbv] at c0 HRe HXc
            have HXr := Lib.hid (rxor_lab Z d (wr.alloc (.cells #[.int .u64 (Z.1 : Int), .int .u64 (Z.2 : Int)] 28)) HRe.out.2 HDd.out.1)
            clear hbv
            go_wp2_with fail
            refine HXr.out.mono ?_
            rw [show Garb.nadd Z d = X from HRe.out.1.symm]
            rintro e w4 ⟨rfl, hb4⟩
            have hx4 : LbB w4 wr.heap.size Z := Blk.below HXB.out hb4 (Blk.lt HXB.out)
            have x0 := Blk.cell hx4 0 rfl
            have x1 := Blk.cell hx4 1 rfl
            have xf := Blk.frozen hx4
            have HW3 := Lib.hid (show Below wr.heap.size wr ((w4.setCell ⟨wr.heap.size, 0, none⟩ (.int .u64 (X.1 : Int))).setCell ⟨wr.heap.size, 1, none⟩ (.int .u64 (X.2 : Int))) ∧ LbB ((w4.setCell ⟨wr.heap.size, 0, none⟩ (.int .u64 (X.1 : Int))).setCell ⟨wr.heap.size, 1, none⟩ (.int .u64 (X.2 : Int))) wr.heap.size X from ⟨stL_below (HBx.out.2.trans (hb4.mono HBx.out.2.size)) (Nat.le_refl _) X, LbB.st hx4 X⟩)
            have HB3 := Lib.hid (show Below w15.heap.size w15 ((w4.setCell ⟨wr.heap.size, 0, none⟩ (.int .u64 (X.1 : Int))).setCell ⟨wr.heap.size, 1, none⟩ (.int .u64 (X.2 : Int))) from stL_below (HBx.out.1.trans (hb4.mono HBx.out.1.size)) HXc.out.1 X)
            clear hx4 hb4 HXr HBx HXB c0 r0 r1 xb0 xb1 z0 z1
            go_wp2
            clear x0 x1 xf
            generalize ((w4.setCell ⟨wr.heap.size, 0, none⟩ (.int .u64 (X.1 : Int))).setCell ⟨wr.heap.size, 1, none⟩ (.int .u64 (X.2 : Int))) = w3 at *
            refine Rely.region (G := Nat) (vs := [fun _ => .slice (some ⟨gl, 0, none⟩) L L, fun _ => .int .i64 (s : Int), fun _ => .pointer (some ⟨gl, s * 2, none⟩), fun _ => labL X, fun _ => labL X, fun _ => .bool false, fun _ => .bool false, fun _ => .slice (some ⟨go, 0, none⟩) L L, fun _ => .int .i64 (s : Int), fun _ => .pointer (some ⟨go, s * 2, none⟩), fun _ => labL Z, fun _ => .pointer (some ⟨w.heap.size + 1, 0, none⟩), fun _ => labL d, fun _ => .slice (some aw) L c15, fun _ => .int .i64 (s : Int), fun _ => .pointer (some (aw.add s)), fun _ => .bool true, fun _ => labL X, fun _ => labL X, fun _ => .bool false, fun _ => .bool false]) (F := fun _ _ w' => Below w3.heap.size w3 w') (by kernel_rfl) (by kernel_rfl) rfl (fun _ => 0) (drew_below w3) ?hsteps ?hend
            case hsteps =>
              refine Rely.Steps.cons (fun Lf γ ev wv hL hE hF hC hCf hO hV => ?_) ?_
              · clear hL
                have v14 : ev (.tmp 14) = .slice (some ⟨gl, 0, none⟩) L L := (hO 14 (by kernel_rfl)).trans rfl
                clear hE hO hV
                exact Rely.Good.value 0 (u := .slice (some ⟨gl, 0, none⟩) L L) (by go_simp) (fun _ _ => rfl) hF
              refine Rely.Steps.cons (fun Lf γ ev wv hL hE hF hC hCf hO hV => ?_) ?_
              · clear hL
                have v17 : ev (.tmp 17) = .int .i64 (s : Int) := (hO 17 (by kernel_rfl)).trans rfl
                clear hE hO hV
                exact Rely.Good.value 0 (u := .int .i64 (s : Int)) (by go_simp) (fun _ _ => rfl) hF
              refine Rely.Steps.cons (fun Lf γ ev wv hL hE hF hC hCf hO hV => ?_) ?_
              · clear hL
                have hL0 : Lf 0 = true := hE _ (Array.mem_of_getElem? (i := 0) rfl) rfl
                have v129 : ev (.tmp 129) = .slice (some ⟨gl, 0, none⟩) L L := hV 0 129 hL0 rfl
                have hL1 : Lf 1 = true := hE _ (Array.mem_of_getElem? (i := 1) rfl) rfl
                have v130 : ev (.tmp 130) = .int .i64 (s : Int) := hV 1 130 hL1 rfl
                clear hE hO hV
                exact Rely.Good.value 0 (u := .pointer (some ⟨gl, s * 2, none⟩)) (by go_simp) (fun _ _ => rfl) hF
              refine Rely.Steps.cons (fun Lf γ ev wv hL hE hF hC hCf hO hV => ?_) ?_
              · clear hL
                have hL2 : Lf 2 = true := hE _ (Array.mem_of_getElem? (i := 0) rfl) rfl
                have v131 : ev (.tmp 131) = .pointer (some ⟨gl, s * 2, none⟩) := hV 2 131 hL2 rfl
                clear hE hO hV
                have hw := HW3.out.1.trans (hF.mono HW3.out.1.size)
                have q0 := (hw.cell (World.block_lt_of_cell? _ _ HXc.out.2.1.1)).trans HXc.out.2.1.1
                have q1 := (hw.cell (World.block_lt_of_cell? _ _ HXc.out.2.1.2)).trans HXc.out.2.1.2
                have HF := Lib.hid hF
                clear hF hw
                exact Rely.Good.value 0 (u := labL X) (by go_simp) (fun _ _ => rfl) HF.out
              refine Rely.Steps.cons (fun Lf γ ev wv hL hE hF hC hCf hO hV => ?_) ?_
              · clear hL
                have v18 : ev (.tmp 18) = .pointer (some ⟨wr.heap.size, 0, none⟩) := (hO 18 (by kernel_rfl)).trans rfl
                clear hE hO hV
                have hx := Blk.below HW3.out.2 hF (Blk.lt HW3.out.2)
                have q0 := Blk.cell hx 0 rfl
                have q1 := Blk.cell hx 1 rfl
                have HF := Lib.hid hF
                clear hF hx
                exact Rely.Good.value 0 (u := labL X) (by go_simp) (fun _ _ => rfl) HF.out
              refine Rely.Steps.cons (fun Lf γ ev wv hL hE hF hC hCf hO hV => ?_) ?_
              · clear hL
                have hL3 : Lf 3 = true := hE _ (Array.mem_of_getElem? (i := 0) rfl) rfl
                have v132 : ev (.tmp 132) = labL X := hV 3 132 hL3 rfl
                have hL4 : Lf 4 = true := hE _ (Array.mem_of_getElem? (i := 1) rfl) rfl
                have v133 : ev (.tmp 133) = labL X := hV 4 133 hL4 rfl
                clear hE hO hV
                have hq := Ae.run_eql_lab
                exact Rely.Good.value 0 (u := .bool false) (by go_simp) (fun _ _ => rfl) hF
              refine Rely.Steps.cons (fun Lf γ ev wv hL hE hF hC hCf hO hV => ?_) ?_
              · clear hL
                have hL5 : Lf 5 = true := hE _ (Array.mem_of_getElem? (i := 0) rfl) rfl
                have v134 : ev (.tmp 134) = .bool false := hV 5 134 hL5 rfl
                clear hE hO hV
                exact Rely.Good.value 0 (u := .bool false) (by go_simp) (fun _ _ => rfl) hF
              refine Rely.Steps.yes 6 false (fun _ => rfl) (fun Lf γ ev wv hL hE hF hC hCf hO hV => ?_) ?_
              · clear hL
                have v9 : ev (.tmp 9) = .slice (some ⟨go, 0, none⟩) L L := (hO 9 (by kernel_rfl)).trans rfl
                clear hE hO hV
                exact Rely.Good.value 0 (u := .slice (some ⟨go, 0, none⟩) L L) (by go_simp) (fun _ _ => rfl) hF
              refine Rely.Steps.yes 6 false (fun _ => rfl) (fun Lf γ ev wv hL hE hF hC hCf hO hV => ?_) ?_
              · clear hL
                have v17 : ev (.tmp 17) = .int .i64 (s : Int) := (hO 17 (by kernel_rfl)).trans rfl
                clear hE hO hV
                exact Rely.Good.value 0 (u := .int .i64 (s : Int)) (by go_simp) (fun _ _ => rfl) hF
              refine Rely.Steps.yes 6 false (fun _ => rfl) (fun Lf γ ev wv hL hE hF hC hCf hO hV => ?_) ?_
              · clear hL
                have hL7 : Lf 7 = true := hE _ (Array.mem_of_getElem? (i := 0) rfl) rfl
                have v136 : ev (.tmp 136) = .slice (some ⟨go, 0, none⟩) L L := hV 7 136 hL7 rfl
                have hL8 : Lf 8 = true := hE _ (Array.mem_of_getElem? (i := 1) rfl) rfl
                have v137 : ev (.tmp 137) = .int .i64 (s : Int) := hV 8 137 hL8 rfl
                clear hE hO hV
                exact Rely.Good.value 0 (u := .pointer (some ⟨go, s * 2, none⟩)) (by go_simp) (fun _ _ => rfl) hF
              refine Rely.Steps.yes 6 false (fun _ => rfl) (fun Lf γ ev wv hL hE hF hC hCf hO hV => ?_) ?_
              · clear hL
                have hL9 : Lf 9 = true := hE _ (Array.mem_of_getElem? (i := 0) rfl) rfl
                have v138 : ev (.tmp 138) = .pointer (some ⟨go, s * 2, none⟩) := hV 9 138 hL9 rfl
                clear hE hO hV
                have hw := HW3.out.1.trans (hF.mono HW3.out.1.size)
                have q0 := (hw.cell (World.block_lt_of_cell? _ _ HXc.out.2.2.1.1)).trans HXc.out.2.2.1.1
                have q1 := (hw.cell (World.block_lt_of_cell? _ _ HXc.out.2.2.1.2)).trans HXc.out.2.2.1.2
                have HF := Lib.hid hF
                clear hF hw
                exact Rely.Good.value 0 (u := labL Z) (by go_simp) (fun _ _ => rfl) HF.out
              refine Rely.Steps.yes 6 false (fun _ => rfl) (fun Lf γ ev wv hL hE hF hC hCf hO hV => ?_) ?_
              · clear hL
                have v4 : ev (.tmp 4) = .pointer (some ⟨w.heap.size + 1, 0, none⟩) := (hO 4 (by kernel_rfl)).trans rfl
                clear hE hO hV
                exact Rely.Good.value 0 (u := .pointer (some ⟨w.heap.size + 1, 0, none⟩)) (by go_simp) (fun _ _ => rfl) hF
              refine Rely.Steps.yes 6 false (fun _ => rfl) (fun Lf γ ev wv hL hE hF hC hCf hO hV => ?_) ?_
              · clear hL
                have hL11 : Lf 11 = true := hE _ (Array.mem_of_getElem? (i := 0) rfl) rfl
                have v140 : ev (.tmp 140) = .pointer (some ⟨w.heap.size + 1, 0, none⟩) := hV 11 140 hL11 rfl
                clear hE hO hV
                have hw := HW3.out.1.trans (hF.mono HW3.out.1.size)
                have hk := Blk.below HXc.out.2.2.2.2 hw (Blk.lt HXc.out.2.2.2.2)
                have q0 := Blk.cell hk 0 (v := .int .u64 (d.1 : Int)) rfl
                have q1 := Blk.cell hk 1 (v := .int .u64 (d.2 : Int)) rfl
                have HF := Lib.hid hF
                clear hF hw hk
                exact Rely.Good.value 0 (u := labL d) (by go_simp) (fun _ _ => rfl) HF.out
              refine Rely.Steps.yes 6 false (fun _ => rfl) (fun Lf γ ev wv hL hE hF hC hCf hO hV => ?_) ?_
              · clear hL
                have v16 : ev (.tmp 16) = .slice (some aw) L c15 := (hO 16 (by kernel_rfl)).trans rfl
                clear hE hO hV
                exact Rely.Good.value 0 (u := .slice (some aw) L c15) (by go_simp) (fun _ _ => rfl) hF
              refine Rely.Steps.yes 6 false (fun _ => rfl) (fun Lf γ ev wv hL hE hF hC hCf hO hV => ?_) ?_
              · clear hL
                have v17 : ev (.tmp 17) = .int .i64 (s : Int) := (hO 17 (by kernel_rfl)).trans rfl
                clear hE hO hV
                exact Rely.Good.value 0 (u := .int .i64 (s : Int)) (by go_simp) (fun _ _ => rfl) hF
              refine Rely.Steps.yes 6 false (fun _ => rfl) (fun Lf γ ev wv hL hE hF hC hCf hO hV => ?_) ?_
              · clear hL
                have hL13 : Lf 13 = true := hE _ (Array.mem_of_getElem? (i := 0) rfl) rfl
                have v142 : ev (.tmp 142) = .slice (some aw) L c15 := hV 13 142 hL13 rfl
                have hL14 : Lf 14 = true := hE _ (Array.mem_of_getElem? (i := 1) rfl) rfl
                have v143 : ev (.tmp 143) = .int .i64 (s : Int) := hV 14 143 hL14 rfl
                clear hE hO hV
                exact Rely.Good.value 0 (u := .pointer (some (aw.add s))) (by go_simp) (fun _ _ => rfl) hF
              refine Rely.Steps.yes 6 false (fun _ => rfl) (fun Lf γ ev wv hL hE hF hC hCf hO hV => ?_) ?_
              · clear hL
                have hL15 : Lf 15 = true := hE _ (Array.mem_of_getElem? (i := 0) rfl) rfl
                have v144 : ev (.tmp 144) = .pointer (some (aw.add s)) := hV 15 144 hL15 rfl
                clear hE hO hV
                have hw := HW3.out.1.trans (hF.mono HW3.out.1.size)
                have q0 := (hw.cell (World.block_lt_of_cell? _ _ HXc.out.2.2.2.1)).trans HXc.out.2.2.2.1
                have HF := Lib.hid hF
                clear hF hw
                exact Rely.Good.value 0 (u := .bool true) (by go_simp) (fun _ _ => rfl) HF.out
              refine Rely.Steps.yes 6 false (fun _ => rfl) (fun Lf γ ev wv hL hE hF hC hCf hO hV => ?_) ?_
              · clear hL
                have hL10 : Lf 10 = true := hE _ (Array.mem_of_getElem? (i := 0) rfl) rfl
                have v139 : ev (.tmp 139) = labL Z := hV 10 139 hL10 rfl
                have hL12 : Lf 12 = true := hE _ (Array.mem_of_getElem? (i := 1) rfl) rfl
                have v141 : ev (.tmp 141) = labL d := hV 12 141 hL12 rfl
                have hL16 : Lf 16 = true := hE _ (Array.mem_of_getElem? (i := 2) rfl) rfl
                have v145 : ev (.tmp 145) = .bool true := hV 16 145 hL16 rfl
                clear hE hO hV
                have HF := Lib.hid hF
                clear hF
                exact Rely.Good.enter (f := 20) (args := #[labL Z, labL d, .bool true]) (by go_simp) ((label_any Z d true wv HRe.out.2 HDd.out.1).mono fun e w2 hc => ⟨0, _, hc.1, fun _ _ => by rw [← HRe.out.1]; rfl, HF.out.trans (hc.2.mono HF.out.size)⟩)
              refine Rely.Steps.yes 6 false (fun _ => rfl) (fun Lf γ ev wv hL hE hF hC hCf hO hV => ?_) ?_
              · clear hL
                have v18 : ev (.tmp 18) = .pointer (some ⟨wr.heap.size, 0, none⟩) := (hO 18 (by kernel_rfl)).trans rfl
                clear hE hO hV
                have hx := Blk.below HW3.out.2 hF (Blk.lt HW3.out.2)
                have q0 := Blk.cell hx 0 rfl
                have q1 := Blk.cell hx 1 rfl
                have HF := Lib.hid hF
                clear hF hx
                exact Rely.Good.value 0 (u := labL X) (by go_simp) (fun _ _ => rfl) HF.out
              refine Rely.Steps.yes 6 false (fun _ => rfl) (fun Lf γ ev wv hL hE hF hC hCf hO hV => ?_) ?_
              · clear hL
                have hL17 : Lf 17 = true := hE _ (Array.mem_of_getElem? (i := 0) rfl) rfl
                have v146 : ev (.tmp 146) = labL X := hV 17 146 hL17 rfl
                have hL18 : Lf 18 = true := hE _ (Array.mem_of_getElem? (i := 1) rfl) rfl
                have v147 : ev (.tmp 147) = labL X := hV 18 147 hL18 rfl
                clear hE hO hV
                have hq := Ae.run_eql_lab
                exact Rely.Good.value 0 (u := .bool false) (by go_simp) (fun _ _ => rfl) hF
              refine Rely.Steps.cons (fun Lf γ ev wv hL hE hF hC hCf hO hV => ?_) ?_
              · clear hL
                have hL6 : Lf 6 = true := hE _ (Array.mem_of_getElem? (i := 0) rfl) rfl
                have v135 : ev (.tmp 135) = .bool false := hV 6 135 hL6 rfl
                have hL19 : Lf 19 = true := hE _ (Array.mem_of_getElem? (i := 1) rfl) rfl
                have v148 : ev (.tmp 148) = .bool false := hV 19 148 hL19 rfl
                clear hE hO hV
                exact Rely.Good.value 0 (u := .bool false) (by go_simp) (fun _ _ => rfl) hF
              exact Rely.Steps.nil
            case hend =>
              intro γ w7 hF
              have HN := Lib.hid (HB3.out.trans (hF.mono HB3.out.size))
              clear hF HXc HW3 HB3
              simp only [Rely.fin, Act.put, List.setIfInBounds_toArray, List.set_cons_zero, List.set_cons_succ]
              go_wp2
              go_roundw
              case rel => exact ⟨s + 1, by have := HLt.out; omega, by go_num, HN.out⟩
              case measure => simp [intOf]; have := HLt.out; omega
        · obtain rfl : s = L := by omega
          have lt1 : ¬ (s : Int) < (s : Int) := by omega
          have HC1 := Lib.hid (colours_any wr (some ⟨gl, 0, none⟩) s s (fun i => evlH H first t lin (tabH H d first t (zkc nz zin) y n) y n (o i).toNat) (H15.out.2.1.below HI.out))
          have HC2 := Lib.hid (rcolours_any wr (some ⟨gl, 0, none⟩) s s (fun i => evlH H first t lin (tabH H d first t (zkc nz zin) y n) y n (o i).toNat) (H15.out.2.1.below HI.out) (by have := HM.out.2.2.1; unfold maxLen; omega))
          have HB := Lib.hid (H15.out.1.b.trans (HI.out.mono H15.out.1.b.size))
          obtain ⟨q, hq⟩ : ∃ q, wordN (fun i => Garb.ncol (evlH H first t lin (tabH H d first t (zkc nz zin) y n) y n (o i).toNat)) (min s 64) = q := ⟨_, rfl⟩
          rw [hq] at HC1 HC2
          clear hlt2 hs HI H15 hq
          go_wp2_with fail
          refine HC1.out.mono ?_
          rintro e w16 ⟨rfl, rfl⟩
          go_wp2_with fail
          refine HC2.out.mono ?_
          rintro e w17 ⟨rfl, hb17⟩
          have HF := Lib.hid (HB.out.trans (hb17.mono HB.out.size))
          have kq : ((q : Int) == (q : Int)) = true := by simp
          clear hb17 HC1 HC2 HB
          go_wp2
          go_ret
          exact ⟨rfl, HF.out⟩

/-- GarbleRight answers true. -/
theorem right_walk (N : Int) (Ag : Option Addr) (n cg : Nat) (y : Nat → Nat → Int) (Ao : Option Addr) (m co : Nat) (o : Nat → Int) (dl : Lab) (Az : Option Addr) (nz cz first : Nat) (zin : Nat → Lab) (Ab : Option Addr) (K cb : Nat) (f : Nat → Bool) (w : World) (hh : Handle w) (hg : AtV w Ag (n * 3) (gv y)) (ho : AtV w Ao m (iv o)) (hn : n ≤ cg) (hm : m ≤ co) (zg : Ag = none → n = 0 ∧ cg = 0) (zo : Ao = none → m = 0 ∧ co = 0) (hdl : Garb.Wd dl) (hfi : first < 18446744073709551616) (hz : AtV w Az (nz * 2) (lv zin)) (hzw : ∀ i, Garb.Wd (zin i)) (hz0 : Az = none → nz = 0 ∧ cz = 0) (hnz : nz ≤ cz) (hbt : AtV w Ab K (bv f)) (hb0 : Ab = none → K = 0 ∧ cb = 0) :
    Calls Tryd.prog 4 #[circV N Ag n cg Ao m co, keysV dl Az nz cz first, .slice Ab K cb] w fun e w' => e = .returned (.bool true) ∧ Below w.heap.size w w' := by
  cases hsm : (decide (n ≤ 60) && decide (N ≤ 200)) with
  | false => exact right_big N Ag n cg y Ao m co o dl Az nz cz first zin Ab K cb f w hh hg ho hn hm zg zo hdl hfi hz hzw hz0 hnz hbt hb0 hsm
  | true =>
    by_cases hG : Circ.Good N n y (min m 80) o
    · exact right_ok N Ag n cg y Ao m co o dl Az nz cz first zin Ab K cb f w hh hg ho hn hm zg zo hdl hfi hz hzw hz0 hnz hbt hb0 hsm hG
    · exact right_bad N Ag n cg y Ao m co o dl Az nz cz first zin Ab K cb f w hh hg ho hn hm zg zo hdl hfi hz hzw hz0 hnz hbt hb0 hsm hG
end Go.Proofs.YtamejhhjfnfalaaDoor
