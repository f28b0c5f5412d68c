/- GarbleFree's walk. -/
import Derived.Test.YtamejhhjfnfalaaDoorZGX0
namespace Go.Proofs.YtamejhhjfnfalaaDoor
open Go.RowKit

set_option maxHeartbeats 16000000 in
set_option maxRecDepth 100000 in
theorem free_big (N : Int) (Ag : Option Addr) (n cg : Nat) (y : Nat → Nat → Int) (Ao : Option Addr) (m co : Nat) (o : Nat → Int) (dl : Lab) (Az : Option Addr) (nz cz first : Nat) (zin : Nat → Lab) (w : World) (hh : Handle w) (hg : AtV w Ag (n * 3) (gv y)) (ho : AtV w Ao m (iv o)) (hn : n ≤ cg) (hm : m ≤ co) (zg : Ag = none → n = 0 ∧ cg = 0) (zo : Ao = none → m = 0 ∧ co = 0) (hdl : Garb.Wd dl) (hfi : first < 18446744073709551616) (hz : AtV w Az (nz * 2) (lv zin)) (hzw : ∀ i, Garb.Wd (zin i)) (hz0 : Az = none → nz = 0 ∧ cz = 0) (hnz : nz ≤ cz) (hsm : (decide (n ≤ 60) && decide (N ≤ 200)) = false) :
    Calls Tryd.prog 7 #[circV N Ag n cg Ao m co, keysV dl Az nz cz first] w fun e w' => e = .returned (.bool true) ∧ Below w.heap.size w w' := by
  have X0 := Blk.new w 25 #[.int .i64 N, .slice Ag n cg, .slice Ao m co]
  have b0 := (Below.refl w.heap.size w).alloc (Nat.le_refl _) (.cells #[.int .i64 N, .slice Ag n cg, .slice Ao m co] 25)
  have X1 := Blk.new (w.alloc (.cells #[.int .i64 N, .slice Ag n cg, .slice Ao m co] 25)) 31 #[.int .u64 (dl.1 : Int), .int .u64 (dl.2 : Int), .slice Az nz cz, .int .u64 (first : Int)]
  have b1 := b0.alloc b0.size (.cells #[.int .u64 (dl.1 : Int), .int .u64 (dl.2 : Int), .slice Az nz cz, .int .u64 (first : Int)] 31)
  have Y0 := X0.alloc (.cells #[.int .u64 (dl.1 : Int), .int .u64 (dl.2 : Int), .slice Az nz cz, .int .u64 (first : Int)] 31)
  simp only [World.size_alloc] at X1
  have HAw := Lib.hid (awake_any ((w.alloc (.cells #[.int .i64 N, .slice Ag n cg, .slice Ao m co] 25)).alloc (.cells #[.int .u64 (dl.1 : Int), .int .u64 (dl.2 : Int), .slice Az nz cz, .int .u64 (first : Int)] 31)) (hh.belowS b1))
  have H1 := Lib.hid (show Below w.heap.size w ((w.alloc (.cells #[.int .i64 N, .slice Ag n cg, .slice Ao m co] 25)).alloc (.cells #[.int .u64 (dl.1 : Int), .int .u64 (dl.2 : Int), .slice Az nz cz, .int .u64 (first : Int)] 31)) ∧ circB ((w.alloc (.cells #[.int .i64 N, .slice Ag n cg, .slice Ao m co] 25)).alloc (.cells #[.int .u64 (dl.1 : Int), .int .u64 (dl.2 : Int), .slice Az nz cz, .int .u64 (first : Int)] 31)) w.heap.size N Ag n cg Ao m co ∧ KyB ((w.alloc (.cells #[.int .i64 N, .slice Ag n cg, .slice Ao m co] 25)).alloc (.cells #[.int .u64 (dl.1 : Int), .int .u64 (dl.2 : Int), .slice Az nz cz, .int .u64 (first : Int)] 31)) (w.heap.size + 1) dl Az nz cz first ∧ Handle ((w.alloc (.cells #[.int .i64 N, .slice Ag n cg, .slice Ao m co] 25)).alloc (.cells #[.int .u64 (dl.1 : Int), .int .u64 (dl.2 : Int), .slice Az nz cz, .int .u64 (first : Int)] 31)) from ⟨b1, Y0, X1, hh.belowS b1⟩)
  have HA := Lib.hid (And.intro hg (And.intro ho (And.intro hn (And.intro hm (And.intro zg (And.intro zo (And.intro hz (And.intro hz0 hnz))))))))
  have HH0 := Lib.hid hh
  have HD := Lib.hid (And.intro hdl (And.intro hfi hzw))
  clear X0 X1 b0 b1 Y0 hh hg ho hn hm zg zo hz hz0 hnz hdl hfi hzw
  go_enter Tryd.func7, Tryd.ntmps7
  go_wp2_with fail
  refine HAw.out.mono ?_
  rintro e w2 ⟨rfl, hb2⟩
  have h0 := H1.out
  have H2 := Lib.hid (show Below w.heap.size w w2 ∧ circB w2 w.heap.size N Ag n cg Ao m co ∧ KyB w2 (w.heap.size + 1) dl Az nz cz first ∧ Handle w2 from ⟨h0.1.trans (hb2.mono h0.1.size), h0.2.1.below hb2 h0.2.1.lt, h0.2.2.1.below hb2 h0.2.2.1.lt, h0.2.2.2.belowS hb2⟩)
  clear H1 h0 hb2 HAw
  have c0 := H2.out.2.1.cell 0 (v := .int .i64 N) rfl
  have c1 := H2.out.2.1.cell 1 (v := .slice Ag n cg) rfl
  have c2 := H2.out.2.1.cell 2 (v := .slice Ao m co) rfl
  have HSm := Lib.hid (small_any w2 N Ag n cg Ao m co)

  rw [hsm] at HSm
  go_wp2_with fail
  refine HSm.out.mono ?_
  rintro e w3 ⟨rfl, hb3⟩
  have h0 := H2.out
  have HAw := Lib.hid (awake_any w3 (h0.2.2.2.belowS hb3))
  have HB := Lib.hid (h0.1.trans (hb3.mono h0.1.size))
  clear h0 hb3 H2 c0 c1 c2 hsm
  go_wp2_with fail
  refine HAw.out.mono ?_
  rintro e w4 ⟨rfl, hb4⟩
  have HF := Lib.hid (HB.out.trans (hb4.mono HB.out.size))
  clear hb4
  go_wp2
  go_ret
  exact ⟨rfl, HF.out⟩

set_option maxHeartbeats 16000000 in
set_option maxRecDepth 100000 in
theorem free_bad (N : Int) (Ag : Option Addr) (n cg : Nat) (y : Nat → Nat → Int) (Ao : Option Addr) (m co : Nat) (o : Nat → Int) (dl : Lab) (Az : Option Addr) (nz cz first : Nat) (zin : Nat → Lab) (w : World) (hh : Handle w) (hg : AtV w Ag (n * 3) (gv y)) (ho : AtV w Ao m (iv o)) (hn : n ≤ cg) (hm : m ≤ co) (zg : Ag = none → n = 0 ∧ cg = 0) (zo : Ao = none → m = 0 ∧ co = 0) (hdl : Garb.Wd dl) (hfi : first < 18446744073709551616) (hz : AtV w Az (nz * 2) (lv zin)) (hzw : ∀ i, Garb.Wd (zin i)) (hz0 : Az = none → nz = 0 ∧ cz = 0) (hnz : nz ≤ cz) (hsm : (decide (n ≤ 60) && decide (N ≤ 200)) = true) (hG : ¬ Circ.Good N n (yF y n) (min m 80) o) :
    Calls Tryd.prog 7 #[circV N Ag n cg Ao m co, keysV dl Az nz cz first] w fun e w' => e = .returned (.bool true) ∧ Below w.heap.size w w' := by
  have X0 := Blk.new w 25 #[.int .i64 N, .slice Ag n cg, .slice Ao m co]
  have b0 := (Below.refl w.heap.size w).alloc (Nat.le_refl _) (.cells #[.int .i64 N, .slice Ag n cg, .slice Ao m co] 25)
  have X1 := Blk.new (w.alloc (.cells #[.int .i64 N, .slice Ag n cg, .slice Ao m co] 25)) 31 #[.int .u64 (dl.1 : Int), .int .u64 (dl.2 : Int), .slice Az nz cz, .int .u64 (first : Int)]
  have b1 := b0.alloc b0.size (.cells #[.int .u64 (dl.1 : Int), .int .u64 (dl.2 : Int), .slice Az nz cz, .int .u64 (first : Int)] 31)
  have Y0 := X0.alloc (.cells #[.int .u64 (dl.1 : Int), .int .u64 (dl.2 : Int), .slice Az nz cz, .int .u64 (first : Int)] 31)
  simp only [World.size_alloc] at X1
  have HAw := Lib.hid (awake_any ((w.alloc (.cells #[.int .i64 N, .slice Ag n cg, .slice Ao m co] 25)).alloc (.cells #[.int .u64 (dl.1 : Int), .int .u64 (dl.2 : Int), .slice Az nz cz, .int .u64 (first : Int)] 31)) (hh.belowS b1))
  have H1 := Lib.hid (show Below w.heap.size w ((w.alloc (.cells #[.int .i64 N, .slice Ag n cg, .slice Ao m co] 25)).alloc (.cells #[.int .u64 (dl.1 : Int), .int .u64 (dl.2 : Int), .slice Az nz cz, .int .u64 (first : Int)] 31)) ∧ circB ((w.alloc (.cells #[.int .i64 N, .slice Ag n cg, .slice Ao m co] 25)).alloc (.cells #[.int .u64 (dl.1 : Int), .int .u64 (dl.2 : Int), .slice Az nz cz, .int .u64 (first : Int)] 31)) w.heap.size N Ag n cg Ao m co ∧ KyB ((w.alloc (.cells #[.int .i64 N, .slice Ag n cg, .slice Ao m co] 25)).alloc (.cells #[.int .u64 (dl.1 : Int), .int .u64 (dl.2 : Int), .slice Az nz cz, .int .u64 (first : Int)] 31)) (w.heap.size + 1) dl Az nz cz first ∧ Handle ((w.alloc (.cells #[.int .i64 N, .slice Ag n cg, .slice Ao m co] 25)).alloc (.cells #[.int .u64 (dl.1 : Int), .int .u64 (dl.2 : Int), .slice Az nz cz, .int .u64 (first : Int)] 31)) from ⟨b1, Y0, X1, hh.belowS b1⟩)
  have HA := Lib.hid (And.intro hg (And.intro ho (And.intro hn (And.intro hm (And.intro zg (And.intro zo (And.intro hz (And.intro hz0 hnz))))))))
  have HH0 := Lib.hid hh
  have HD := Lib.hid (And.intro hdl (And.intro hfi hzw))
  clear X0 X1 b0 b1 Y0 hh hg ho hn hm zg zo hz hz0 hnz hdl hfi hzw
  go_enter Tryd.func7, Tryd.ntmps7
  go_wp2_with fail
  refine HAw.out.mono ?_
  rintro e w2 ⟨rfl, hb2⟩
  have h0 := H1.out
  have H2 := Lib.hid (show Below w.heap.size w w2 ∧ circB w2 w.heap.size N Ag n cg Ao m co ∧ KyB w2 (w.heap.size + 1) dl Az nz cz first ∧ Handle w2 from ⟨h0.1.trans (hb2.mono h0.1.size), h0.2.1.below hb2 h0.2.1.lt, h0.2.2.1.below hb2 h0.2.2.1.lt, h0.2.2.2.belowS hb2⟩)
  clear H1 h0 hb2 HAw
  have c0 := H2.out.2.1.cell 0 (v := .int .i64 N) rfl
  have c1 := H2.out.2.1.cell 1 (v := .slice Ag n cg) rfl
  have c2 := H2.out.2.1.cell 2 (v := .slice Ao m co) rfl
  have HSm := Lib.hid (small_any w2 N Ag n cg Ao m co)

  have hnn : n ≤ 60 ∧ N ≤ 200 := by simpa using hsm
  rw [hsm] at HSm
  have HM0 := Lib.hid hnn
  clear hsm hnn
  go_wp2_with fail
  refine HSm.out.mono ?_
  rintro e w3 ⟨rfl, hb3⟩
  have h0 := H2.out
  have H3 := Lib.hid (show Below w.heap.size w w3 ∧ circB w3 w.heap.size N Ag n cg Ao m co ∧ KyB w3 (w.heap.size + 1) dl Az nz cz first ∧ Handle w3 from ⟨h0.1.trans (hb3.mono h0.1.size), h0.2.1.below hb3 h0.2.1.lt, h0.2.2.1.below hb3 h0.2.2.1.lt, h0.2.2.2.belowS hb3⟩)
  clear H2 h0 hb3 HSm c0 c1 c2
  have c0 := H3.out.2.1.cell 0 (v := .int .i64 N) rfl
  have c1 := H3.out.2.1.cell 1 (v := .slice Ag n cg) rfl
  have c2 := H3.out.2.1.cell 2 (v := .slice Ao m co) rfl
  have HO := Lib.hid (own_any w3 N Ag n cg y Ao m co o (HA.out.1.below H3.out.1) (HA.out.2.1.below H3.out.1) HA.out.2.2.1 HA.out.2.2.2.1 HA.out.2.2.2.2.1 HA.out.2.2.2.2.2.1)
  go_wp2_with fail
  refine HO.out.mono ?_
  rintro e w4 ⟨g1, k1, g2, k2, rfl, hg1, hg2, hR1, hR2, hb4⟩
  obtain ⟨L, hL⟩ : ∃ L, min m 80 = L := ⟨_, rfl⟩
  rw [show min n 4200 = n by have := HM0.out; omega] at hR1 ⊢
  rw [hL] at hR2 ⊢
  clear c0 c1 c2 HO
  have h0 := H3.out
  have hsz3 := h0.2.2.1.lt
  have X4 := h0.2.1.below hb4 h0.2.1.lt
  have x0 := X4.cell 0 (v := .int .i64 N) rfl
  have x1 := X4.cell 1 (v := .slice Ag n cg) rfl
  have x2 := X4.cell 2 (v := .slice Ao m co) rfl
  have xf := X4.frozen
  have hci : Ci w.heap.size N g1 n k1 g2 L k2 y o (((w4.setCell ⟨w.heap.size, 0, none⟩ (.int .i64 N)).setCell ⟨w.heap.size, 1, none⟩ (.slice (some ⟨g1, 0, none⟩) n k1)).setCell ⟨w.heap.size, 2, none⟩ (.slice (some ⟨g2, 0, none⟩) L k2)) := ci_store _ X4 rfl (by omega) (by omega) hR1.atv (by have := hR2.atv; rwa [Nat.mul_one] at this)
  have hcs := (((Chg.refl (fun q => q = w.heap.size) w4).set (p := ⟨w.heap.size, 0, none⟩) (.inr rfl) (.int .i64 N)).set (p := ⟨w.heap.size, 1, none⟩) (.inr rfl) (.slice (some ⟨g1, 0, none⟩) n k1)).set (p := ⟨w.heap.size, 2, none⟩) (.inr rfl) (.slice (some ⟨g2, 0, none⟩) L k2)
  have hbw := (h0.1.trans (hb4.mono h0.1.size)).trans (hcs.below (by have := h0.1.size; have := hb4.size; omega) (fun q e => by omega))
  have hk5 := (h0.2.2.1.below hb4 h0.2.2.1.lt).chg hcs (by omega)
  have hR5 := hR1.chg hcs (fun q hq e => by
    obtain rfl : g1 = q := Option.some.inj hq
    omega)
  have H5 := Lib.hid (show Lw w N g1 n k1 g2 L k2 y o dl Az nz cz first _ from ⟨hci, hk5, hR5.mono (fun q hq => by
    obtain rfl : g1 = q := Option.some.inj hq
    have := h0.1.size
    omega), (hR2.chg hcs (fun q hq e => by
    obtain rfl : g2 = q := Option.some.inj hq
    omega)).mono (fun q hq => by
    obtain rfl : g2 = q := Option.some.inj hq
    have := h0.1.size
    omega), HH0.out.belowS hbw, hbw⟩)
  have HG := Lib.hid (show ¬ Circ.Good N n (yF y n) L o by rw [← hL]; exact hG)
  clear hG
  have HM := Lib.hid (show n ≤ 60 ∧ N ≤ 200 ∧ L ≤ 80 ∧ n ≤ k1 ∧ L ≤ k2 ∧ w.heap.size + 1 < g1 from ⟨HM0.out.1, HM0.out.2, by omega, hR1.le, hR2.le, by omega⟩)
  clear hg1 hg2 hR1 hR2 hb4 hL h0 hsz3 X4 hci hcs hbw hk5 hR5 H3 HM0
  go_upto_region 4 with fail
  clear x0 x1 x2 xf
  generalize (((w4.setCell ⟨w.heap.size, 0, none⟩ (.int .i64 N)).setCell ⟨w.heap.size, 1, none⟩ (.slice (some ⟨g1, 0, none⟩) n k1)).setCell ⟨w.heap.size, 2, none⟩ (.slice (some ⟨g2, 0, none⟩) L k2)) = w5 at *

  have HLp := Lib.hid (show Lw w N g1 n k1 g2 L k2 (yF y 0) o dl Az nz cz first w5 by rw [yF_zero]; exact H5.out)
  have q0 := H5.out.c.c.cell 1 (v := .slice (some ⟨g1, 0, none⟩) n k1) rfl
  clear H5
  go_wp2
  clear q0
  go_loopw [28] (fun i wr => ∃ k : Nat, k ≤ n ∧ i = .int .i64 k ∧ Hid (Lw w N g1 n k1 g2 L k2 (yF y k) o dl Az nz cz first wr)) (fun i _ => n - (intOf i).toNat)
  case atStart => exact ⟨0, Nat.zero_le _, rfl, HLp.out⟩
  case round =>
    clear HLp
    obtain ⟨k, hk, rfl, HI⟩ := hrel
    by_cases hlt2 : k < n
    · have q1 := HI.out.c.c.cell 1 (v := .slice (some ⟨g1, 0, none⟩) n k1) rfl
      obtain ⟨p0, p1, p2⟩ := gate_cells HI.out.c.g k hlt2
      rw [yF_at] at p0
      have pf := HI.out.r.frozen (k * 3)
      have lt1 : (k : Int) < (n : Int) := by omega
      have lt0 : (0 : Int) ≤ (k : Int) := by omega
      have e1 : IntKind.i64.wrap ((k : Int) + 1) = (k : Int) + 1 := i64_nat _ (by omega) (by have := HM.out; omega)
      have HLt := Lib.hid hlt2
      clear hlt2 p1 p2
      by_cases h2 : y k 0 = 2
      · have n2 : (y k 0 == 2) = true := by rw [h2]; rfl
        rw [h2] at p0
        have HN := Lib.hid (HI.out.gate HLt.out h2 HH0.out HM.out.2.2.2.2.2)
        clear h2 n2
        go_wp2
        go_roundw
        case rel => exact ⟨k + 1, by have := HLt.out; omega, by go_num, HN.out⟩
        case measure => simp [intOf]; have := HLt.out; omega
      · have n2 : (y k 0 == 2) = false := by simpa using h2
        have HN := Lib.hid (show Lw w N g1 n k1 g2 L k2 (yF y (k + 1)) o dl Az nz cz first wr by rw [yF_no y k h2]; exact HI.out)
        clear h2
        go_wp2
        go_roundw
        case rel => exact ⟨k + 1, by have := HLt.out; omega, by go_num, HN.out⟩
        case measure => simp [intOf]; have := HLt.out; omega
    · obtain rfl : k = n := by omega
      have lt1 : ¬ (k : Int) < (k : Int) := by omega
      obtain ⟨w6, hw6⟩ : ∃ x, x = wr := ⟨_, rfl⟩
      subst hw6
      obtain ⟨z, hzy⟩ : ∃ z, yF y k = z := ⟨_, rfl⟩
      have hz2 : ∀ i, i < k → z i 0 ≠ 2 := fun i hi => by rw [← hzy]; exact yF_ne y k i hi
      rw [hzy] at HI HG
      have HZ2 := Lib.hid hz2
      have q0 := HI.out.c.c.cell 0 (v := .int .i64 N) rfl
      have k0 := HI.out.k.cell 0 (v := .int .u64 (dl.1 : Int)) rfl
      have k1c := HI.out.k.cell 1 (v := .int .u64 (dl.2 : Int)) rfl
      have k2c := HI.out.k.cell 2 (v := .slice Az nz cz) rfl
      have k3c := HI.out.k.cell 3 (v := .int .u64 (first : Int)) rfl
      have kf := HI.out.k.frozen
      have eo := dl1_int HD.out.1
      have h7 := HI.out.key HH0.out (dl1 dl).1
      obtain ⟨d, hdd⟩ : ∃ d, dl1 dl = d := ⟨_, rfl⟩
      have hd1 : ((dl1 dl).1, dl.2) = d := hdd
      rw [hd1] at h7
      rw [hdd] at eo h7
      have HDd := Lib.hid (show Garb.Wd d ∧ Garb.ncol d = true from ⟨hdd ▸ dl1_wd HD.out.1, hdd ▸ dl1_col dl⟩)
      have hd2 : dl.2 = d.2 := by rw [← hdd]; rfl
      rw [hd2] at k1c
      have q7 := h7.c.c.cell 0 (v := .int .i64 N) rfl
      have r0 := h7.k.cell 0 (v := .int .u64 (d.1 : Int)) rfl
      have r1 := h7.k.cell 1 (v := .int .u64 (d.2 : Int)) rfl
      have r2 := h7.k.cell 2 (v := .slice Az nz cz) rfl
      have r3 := h7.k.cell 3 (v := .int .u64 (first : Int)) rfl
      have HZr := Lib.hid (zeros_any (w6.setCell ⟨w.heap.size + 1, 0, none⟩ (.int .u64 (d.1 : Int))) d Az nz cz first zin N (HA.out.2.2.2.2.2.2.1.below h7.b) HA.out.2.2.2.2.2.2.2.2 HA.out.2.2.2.2.2.2.2.1 (by have := HM.out.2.1; omega))
      have H7 := Lib.hid h7
      clear hlt2 hk hz2 hzy HI hdd hd1 hd2 h7
      go_wp2_with fail
      refine HZr.out.mono ?_
      rintro e w8 ⟨gz, kz, rfl, hgz, hRz, hb8⟩
      obtain ⟨C, hC⟩ : ∃ C, N.toNat = C := ⟨_, rfl⟩
      rw [hC] at hRz ⊢
      have H8 := Lib.hid (H7.out.below hb8)
      have HZa := Lib.hid (show AtV w8 (some ⟨gz, 0, none⟩) (C * 2) (lv (zkc nz zin)) from hRz.atv.congr (lv_congr fun i hi => zkc_eq (by have := HM.out.2.1; omega)))
      have HC := Lib.hid hC
      clear H7 hb8 hRz hgz hC q0 k0 k1c k2c k3c kf eo q7 r0 r1 r2 r3 HZr
      have q0 := H8.out.c.c.cell 0 (v := .int .i64 N) rfl
      have q1 := H8.out.c.c.cell 1 (v := .slice (some ⟨g1, 0, none⟩) k k1) rfl
      have q2 := H8.out.c.c.cell 2 (v := .slice (some ⟨g2, 0, none⟩) L k2) rfl
      have r0 := H8.out.k.cell 0 (v := .int .u64 (d.1 : Int)) rfl
      have r1 := H8.out.k.cell 1 (v := .int .u64 (d.2 : Int)) rfl
      have r3 := H8.out.k.cell 3 (v := .int .u64 (first : Int)) rfl
      have BD := fun wx (hx : Lw w N g1 k k1 g2 L k2 z o d Az nz cz first wx) (s : ByteArray) => gfits_bad (s := s) (cg := k1) (co := k2) (A := some ⟨gz, 0, none⟩) (K := C) (c := kz) hx.h hx.c.g hx.c.o (by have := HM.out; unfold maxLen; omega) (by have := HM.out; unfold maxLen; omega) HG.out
      have HBD := Lib.hid BD
      have HG1 := Lib.hid (garble_fit 90 w8 N (some ⟨g1, 0, none⟩) k k1 (some ⟨g2, 0, none⟩) L k2 d (some ⟨gz, 0, none⟩) C kz first (fun w1 hb => BD w1 (H8.out.below hb) _))
      clear BD
      go_wp2_with fail
      refine HG1.out.mono ?_
      rintro e w9 ⟨⟨p, a, rfl⟩, hb9⟩
      have H9 := Lib.hid (H8.out.below hb9)
      clear q0 q1 q2 r0 r1 r3 HG1 H8 hb9
      obtain ⟨T, x, hT⟩ := chain_iface [(p, a)] 90
      rw [hT]
      clear hT
      have e3 : IntKind.u64.wrap ((first : Int) + 1) = (((first + 1) % 18446744073709551616 : Nat) : Int) := by rw [u64w]; omega
      obtain ⟨f2, hf2⟩ : ∃ f2, (first + 1) % 18446744073709551616 = f2 := ⟨_, rfl⟩
      rw [hf2] at e3
      have q0 := H9.out.c.c.cell 0 (v := .int .i64 N) rfl
      have q1 := H9.out.c.c.cell 1 (v := .slice (some ⟨g1, 0, none⟩) k k1) rfl
      have q2 := H9.out.c.c.cell 2 (v := .slice (some ⟨g2, 0, none⟩) L k2) rfl
      have r0 := H9.out.k.cell 0 (v := .int .u64 (d.1 : Int)) rfl
      have r1 := H9.out.k.cell 1 (v := .int .u64 (d.2 : Int)) rfl
      have r3 := H9.out.k.cell 3 (v := .int .u64 (first : Int)) rfl
      have HG2 := Lib.hid (garble_fit 90 w9 N (some ⟨g1, 0, none⟩) k k1 (some ⟨g2, 0, none⟩) L k2 d (some ⟨gz, 0, none⟩) C kz f2 (fun w1 hb => HBD.out w1 (H9.out.below hb) _))
      clear hf2
      go_wp2_with fail
      refine HG2.out.mono ?_
      rintro e w10 ⟨⟨p2, a2, rfl⟩, hb10⟩
      have H10 := Lib.hid (H9.out.below hb10)
      clear q0 q1 q2 r0 r1 r3 HG2 H9 hb10 e3
      obtain ⟨T2, x2, hT⟩ := chain_iface [(p2, a2)] 90
      rw [hT]
      clear hT
      have q0 := H10.out.c.c.cell 0 (v := .int .i64 N) rfl
      have q1 := H10.out.c.c.cell 1 (v := .slice (some ⟨g1, 0, none⟩) k k1) rfl
      have q2 := H10.out.c.c.cell 2 (v := .slice (some ⟨g2, 0, none⟩) L k2) rfl
      have r0 := H10.out.k.cell 0 (v := .int .u64 (d.1 : Int)) rfl
      have r1 := H10.out.k.cell 1 (v := .int .u64 (d.2 : Int)) rfl
      have r3 := H10.out.k.cell 3 (v := .int .u64 (first : Int)) rfl
      have HCk := Lib.hid (check_bad (cg := k1) (co := k2) H10.out.h H10.out.c.g H10.out.c.o (by have := HM.out; unfold maxLen; omega) (by have := HM.out; unfold maxLen; omega) HG.out)
      go_wp2_with fail
      refine HCk.out.mono ?_
      rintro e w11 ⟨⟨p3, a3, rfl⟩, hb11⟩
      have HF := Lib.hid (H10.out.b.trans (hb11.mono H10.out.b.size))
      clear q0 q1 q2 r0 r1 r3 HCk H10 hb11
      obtain ⟨T3, x3, hT⟩ := chain_iface [(p3, a3)] 90
      rw [hT]
      clear hT
      go_wp2
      go_ret
      exact ⟨rfl, HF.out⟩
set_option maxHeartbeats 16000000 in
set_option maxRecDepth 100000 in
theorem free_ok (N : Int) (Ag : Option Addr) (n cg : Nat) (y : Nat → Nat → Int) (Ao : Option Addr) (m co : Nat) (o : Nat → Int) (dl : Lab) (Az : Option Addr) (nz cz first : Nat) (zin : Nat → Lab) (w : World) (hh : Handle w) (hg : AtV w Ag (n * 3) (gv y)) (ho : AtV w Ao m (iv o)) (hn : n ≤ cg) (hm : m ≤ co) (zg : Ag = none → n = 0 ∧ cg = 0) (zo : Ao = none → m = 0 ∧ co = 0) (hdl : Garb.Wd dl) (hfi : first < 18446744073709551616) (hz : AtV w Az (nz * 2) (lv zin)) (hzw : ∀ i, Garb.Wd (zin i)) (hz0 : Az = none → nz = 0 ∧ cz = 0) (hnz : nz ≤ cz) (hsm : (decide (n ≤ 60) && decide (N ≤ 200)) = true) (hG : Circ.Good N n (yF y n) (min m 80) o) :
    Calls Tryd.prog 7 #[circV N Ag n cg Ao m co, keysV dl Az nz cz first] w fun e w' => e = .returned (.bool true) ∧ Below w.heap.size w w' := by
  have X0 := Blk.new w 25 #[.int .i64 N, .slice Ag n cg, .slice Ao m co]
  have b0 := (Below.refl w.heap.size w).alloc (Nat.le_refl _) (.cells #[.int .i64 N, .slice Ag n cg, .slice Ao m co] 25)
  have X1 := Blk.new (w.alloc (.cells #[.int .i64 N, .slice Ag n cg, .slice Ao m co] 25)) 31 #[.int .u64 (dl.1 : Int), .int .u64 (dl.2 : Int), .slice Az nz cz, .int .u64 (first : Int)]
  have b1 := b0.alloc b0.size (.cells #[.int .u64 (dl.1 : Int), .int .u64 (dl.2 : Int), .slice Az nz cz, .int .u64 (first : Int)] 31)
  have Y0 := X0.alloc (.cells #[.int .u64 (dl.1 : Int), .int .u64 (dl.2 : Int), .slice Az nz cz, .int .u64 (first : Int)] 31)
  simp only [World.size_alloc] at X1
  have HAw := Lib.hid (awake_any ((w.alloc (.cells #[.int .i64 N, .slice Ag n cg, .slice Ao m co] 25)).alloc (.cells #[.int .u64 (dl.1 : Int), .int .u64 (dl.2 : Int), .slice Az nz cz, .int .u64 (first : Int)] 31)) (hh.belowS b1))
  have H1 := Lib.hid (show Below w.heap.size w ((w.alloc (.cells #[.int .i64 N, .slice Ag n cg, .slice Ao m co] 25)).alloc (.cells #[.int .u64 (dl.1 : Int), .int .u64 (dl.2 : Int), .slice Az nz cz, .int .u64 (first : Int)] 31)) ∧ circB ((w.alloc (.cells #[.int .i64 N, .slice Ag n cg, .slice Ao m co] 25)).alloc (.cells #[.int .u64 (dl.1 : Int), .int .u64 (dl.2 : Int), .slice Az nz cz, .int .u64 (first : Int)] 31)) w.heap.size N Ag n cg Ao m co ∧ KyB ((w.alloc (.cells #[.int .i64 N, .slice Ag n cg, .slice Ao m co] 25)).alloc (.cells #[.int .u64 (dl.1 : Int), .int .u64 (dl.2 : Int), .slice Az nz cz, .int .u64 (first : Int)] 31)) (w.heap.size + 1) dl Az nz cz first ∧ Handle ((w.alloc (.cells #[.int .i64 N, .slice Ag n cg, .slice Ao m co] 25)).alloc (.cells #[.int .u64 (dl.1 : Int), .int .u64 (dl.2 : Int), .slice Az nz cz, .int .u64 (first : Int)] 31)) from ⟨b1, Y0, X1, hh.belowS b1⟩)
  have HA := Lib.hid (And.intro hg (And.intro ho (And.intro hn (And.intro hm (And.intro zg (And.intro zo (And.intro hz (And.intro hz0 hnz))))))))
  have HH0 := Lib.hid hh
  have HD := Lib.hid (And.intro hdl (And.intro hfi hzw))
  clear X0 X1 b0 b1 Y0 hh hg ho hn hm zg zo hz hz0 hnz hdl hfi hzw
  go_enter Tryd.func7, Tryd.ntmps7
  go_wp2_with fail
  refine HAw.out.mono ?_
  rintro e w2 ⟨rfl, hb2⟩
  have h0 := H1.out
  have H2 := Lib.hid (show Below w.heap.size w w2 ∧ circB w2 w.heap.size N Ag n cg Ao m co ∧ KyB w2 (w.heap.size + 1) dl Az nz cz first ∧ Handle w2 from ⟨h0.1.trans (hb2.mono h0.1.size), h0.2.1.below hb2 h0.2.1.lt, h0.2.2.1.below hb2 h0.2.2.1.lt, h0.2.2.2.belowS hb2⟩)
  clear H1 h0 hb2 HAw
  have c0 := H2.out.2.1.cell 0 (v := .int .i64 N) rfl
  have c1 := H2.out.2.1.cell 1 (v := .slice Ag n cg) rfl
  have c2 := H2.out.2.1.cell 2 (v := .slice Ao m co) rfl
  have HSm := Lib.hid (small_any w2 N Ag n cg Ao m co)

  have hnn : n ≤ 60 ∧ N ≤ 200 := by simpa using hsm
  rw [hsm] at HSm
  have HM0 := Lib.hid hnn
  clear hsm hnn
  go_wp2_with fail
  refine HSm.out.mono ?_
  rintro e w3 ⟨rfl, hb3⟩
  have h0 := H2.out
  have H3 := Lib.hid (show Below w.heap.size w w3 ∧ circB w3 w.heap.size N Ag n cg Ao m co ∧ KyB w3 (w.heap.size + 1) dl Az nz cz first ∧ Handle w3 from ⟨h0.1.trans (hb3.mono h0.1.size), h0.2.1.below hb3 h0.2.1.lt, h0.2.2.1.below hb3 h0.2.2.1.lt, h0.2.2.2.belowS hb3⟩)
  clear H2 h0 hb3 HSm c0 c1 c2
  have c0 := H3.out.2.1.cell 0 (v := .int .i64 N) rfl
  have c1 := H3.out.2.1.cell 1 (v := .slice Ag n cg) rfl
  have c2 := H3.out.2.1.cell 2 (v := .slice Ao m co) rfl
  have HO := Lib.hid (own_any w3 N Ag n cg y Ao m co o (HA.out.1.below H3.out.1) (HA.out.2.1.below H3.out.1) HA.out.2.2.1 HA.out.2.2.2.1 HA.out.2.2.2.2.1 HA.out.2.2.2.2.2.1)
  go_wp2_with fail
  refine HO.out.mono ?_
  rintro e w4 ⟨g1, k1, g2, k2, rfl, hg1, hg2, hR1, hR2, hb4⟩
  obtain ⟨L, hL⟩ : ∃ L, min m 80 = L := ⟨_, rfl⟩
  rw [show min n 4200 = n by have := HM0.out; omega] at hR1 ⊢
  rw [hL] at hR2 ⊢
  clear c0 c1 c2 HO
  have h0 := H3.out
  have hsz3 := h0.2.2.1.lt
  have X4 := h0.2.1.below hb4 h0.2.1.lt
  have x0 := X4.cell 0 (v := .int .i64 N) rfl
  have x1 := X4.cell 1 (v := .slice Ag n cg) rfl
  have x2 := X4.cell 2 (v := .slice Ao m co) rfl
  have xf := X4.frozen
  have hci : Ci w.heap.size N g1 n k1 g2 L k2 y o (((w4.setCell ⟨w.heap.size, 0, none⟩ (.int .i64 N)).setCell ⟨w.heap.size, 1, none⟩ (.slice (some ⟨g1, 0, none⟩) n k1)).setCell ⟨w.heap.size, 2, none⟩ (.slice (some ⟨g2, 0, none⟩) L k2)) := ci_store _ X4 rfl (by omega) (by omega) hR1.atv (by have := hR2.atv; rwa [Nat.mul_one] at this)
  have hcs := (((Chg.refl (fun q => q = w.heap.size) w4).set (p := ⟨w.heap.size, 0, none⟩) (.inr rfl) (.int .i64 N)).set (p := ⟨w.heap.size, 1, none⟩) (.inr rfl) (.slice (some ⟨g1, 0, none⟩) n k1)).set (p := ⟨w.heap.size, 2, none⟩) (.inr rfl) (.slice (some ⟨g2, 0, none⟩) L k2)
  have hbw := (h0.1.trans (hb4.mono h0.1.size)).trans (hcs.below (by have := h0.1.size; have := hb4.size; omega) (fun q e => by omega))
  have hk5 := (h0.2.2.1.below hb4 h0.2.2.1.lt).chg hcs (by omega)
  have hR5 := hR1.chg hcs (fun q hq e => by
    obtain rfl : g1 = q := Option.some.inj hq
    omega)
  have H5 := Lib.hid (show Lw w N g1 n k1 g2 L k2 y o dl Az nz cz first _ from ⟨hci, hk5, hR5.mono (fun q hq => by
    obtain rfl : g1 = q := Option.some.inj hq
    have := h0.1.size
    omega), (hR2.chg hcs (fun q hq e => by
    obtain rfl : g2 = q := Option.some.inj hq
    omega)).mono (fun q hq => by
    obtain rfl : g2 = q := Option.some.inj hq
    have := h0.1.size
    omega), HH0.out.belowS hbw, hbw⟩)
  have HG := Lib.hid (show Circ.Good N n (yF y n) L o by rw [← hL]; exact hG)
  clear hG
  have HM := Lib.hid (show n ≤ 60 ∧ N ≤ 200 ∧ L ≤ 80 ∧ n ≤ k1 ∧ L ≤ k2 ∧ w.heap.size + 1 < g1 from ⟨HM0.out.1, HM0.out.2, by omega, hR1.le, hR2.le, by omega⟩)
  clear hg1 hg2 hR1 hR2 hb4 hL h0 hsz3 X4 hci hcs hbw hk5 hR5 H3 HM0
  go_upto_region 4 with fail
  clear x0 x1 x2 xf
  generalize (((w4.setCell ⟨w.heap.size, 0, none⟩ (.int .i64 N)).setCell ⟨w.heap.size, 1, none⟩ (.slice (some ⟨g1, 0, none⟩) n k1)).setCell ⟨w.heap.size, 2, none⟩ (.slice (some ⟨g2, 0, none⟩) L k2)) = w5 at *

  have HLp := Lib.hid (show Lw w N g1 n k1 g2 L k2 (yF y 0) o dl Az nz cz first w5 by rw [yF_zero]; exact H5.out)
  have q0 := H5.out.c.c.cell 1 (v := .slice (some ⟨g1, 0, none⟩) n k1) rfl
  clear H5
  go_wp2
  clear q0
  go_loopw [28] (fun i wr => ∃ k : Nat, k ≤ n ∧ i = .int .i64 k ∧ Hid (Lw w N g1 n k1 g2 L k2 (yF y k) o dl Az nz cz first wr)) (fun i _ => n - (intOf i).toNat)
  case atStart => exact ⟨0, Nat.zero_le _, rfl, HLp.out⟩
  case round =>
    clear HLp
    obtain ⟨k, hk, rfl, HI⟩ := hrel
    by_cases hlt2 : k < n
    · have q1 := HI.out.c.c.cell 1 (v := .slice (some ⟨g1, 0, none⟩) n k1) rfl
      obtain ⟨p0, p1, p2⟩ := gate_cells HI.out.c.g k hlt2
      rw [yF_at] at p0
      have pf := HI.out.r.frozen (k * 3)
      have lt1 : (k : Int) < (n : Int) := by omega
      have lt0 : (0 : Int) ≤ (k : Int) := by omega
      have e1 : IntKind.i64.wrap ((k : Int) + 1) = (k : Int) + 1 := i64_nat _ (by omega) (by have := HM.out; omega)
      have HLt := Lib.hid hlt2
      clear hlt2 p1 p2
      by_cases h2 : y k 0 = 2
      · have n2 : (y k 0 == 2) = true := by rw [h2]; rfl
        rw [h2] at p0
        have HN := Lib.hid (HI.out.gate HLt.out h2 HH0.out HM.out.2.2.2.2.2)
        clear h2 n2
        go_wp2
        go_roundw
        case rel => exact ⟨k + 1, by have := HLt.out; omega, by go_num, HN.out⟩
        case measure => simp [intOf]; have := HLt.out; omega
      · have n2 : (y k 0 == 2) = false := by simpa using h2
        have HN := Lib.hid (show Lw w N g1 n k1 g2 L k2 (yF y (k + 1)) o dl Az nz cz first wr by rw [yF_no y k h2]; exact HI.out)
        clear h2
        go_wp2
        go_roundw
        case rel => exact ⟨k + 1, by have := HLt.out; omega, by go_num, HN.out⟩
        case measure => simp [intOf]; have := HLt.out; omega
    · obtain rfl : k = n := by omega
      have lt1 : ¬ (k : Int) < (k : Int) := by omega
      obtain ⟨w6, hw6⟩ : ∃ x, x = wr := ⟨_, rfl⟩
      subst hw6
      obtain ⟨z, hzy⟩ : ∃ z, yF y k = z := ⟨_, rfl⟩
      have hz2 : ∀ i, i < k → z i 0 ≠ 2 := fun i hi => by rw [← hzy]; exact yF_ne y k i hi
      rw [hzy] at HI HG
      have HZ2 := Lib.hid hz2
      have q0 := HI.out.c.c.cell 0 (v := .int .i64 N) rfl
      have k0 := HI.out.k.cell 0 (v := .int .u64 (dl.1 : Int)) rfl
      have k1c := HI.out.k.cell 1 (v := .int .u64 (dl.2 : Int)) rfl
      have k2c := HI.out.k.cell 2 (v := .slice Az nz cz) rfl
      have k3c := HI.out.k.cell 3 (v := .int .u64 (first : Int)) rfl
      have kf := HI.out.k.frozen
      have eo := dl1_int HD.out.1
      have h7 := HI.out.key HH0.out (dl1 dl).1
      obtain ⟨d, hdd⟩ : ∃ d, dl1 dl = d := ⟨_, rfl⟩
      have hd1 : ((dl1 dl).1, dl.2) = d := hdd
      rw [hd1] at h7
      rw [hdd] at eo h7
      have HDd := Lib.hid (show Garb.Wd d ∧ Garb.ncol d = true from ⟨hdd ▸ dl1_wd HD.out.1, hdd ▸ dl1_col dl⟩)
      have hd2 : dl.2 = d.2 := by rw [← hdd]; rfl
      rw [hd2] at k1c
      have q7 := h7.c.c.cell 0 (v := .int .i64 N) rfl
      have r0 := h7.k.cell 0 (v := .int .u64 (d.1 : Int)) rfl
      have r1 := h7.k.cell 1 (v := .int .u64 (d.2 : Int)) rfl
      have r2 := h7.k.cell 2 (v := .slice Az nz cz) rfl
      have r3 := h7.k.cell 3 (v := .int .u64 (first : Int)) rfl
      have HZr := Lib.hid (zeros_any (w6.setCell ⟨w.heap.size + 1, 0, none⟩ (.int .u64 (d.1 : Int))) d Az nz cz first zin N (HA.out.2.2.2.2.2.2.1.below h7.b) HA.out.2.2.2.2.2.2.2.2 HA.out.2.2.2.2.2.2.2.1 (by have := HM.out.2.1; omega))
      have H7 := Lib.hid h7
      clear hlt2 hk hz2 hzy HI hdd hd1 hd2 h7
      go_wp2_with fail
      refine HZr.out.mono ?_
      rintro e w8 ⟨gz, kz, rfl, hgz, hRz, hb8⟩
      obtain ⟨C, hC⟩ : ∃ C, N.toNat = C := ⟨_, rfl⟩
      rw [hC] at hRz ⊢
      have H8 := Lib.hid (H7.out.below hb8)
      have HZa := Lib.hid (show AtV w8 (some ⟨gz, 0, none⟩) (C * 2) (lv (zkc nz zin)) from hRz.atv.congr (lv_congr fun i hi => zkc_eq (by have := HM.out.2.1; omega)))
      have HC := Lib.hid hC
      clear H7 hb8 hRz hgz hC q0 k0 k1c k2c k3c kf eo q7 r0 r1 r2 r3 HZr
      have q0 := H8.out.c.c.cell 0 (v := .int .i64 N) rfl
      have q1 := H8.out.c.c.cell 1 (v := .slice (some ⟨g1, 0, none⟩) k k1) rfl
      have q2 := H8.out.c.c.cell 2 (v := .slice (some ⟨g2, 0, none⟩) L k2) rfl
      have r0 := H8.out.k.cell 0 (v := .int .u64 (d.1 : Int)) rfl
      have r1 := H8.out.k.cell 1 (v := .int .u64 (d.2 : Int)) rfl
      have r3 := H8.out.k.cell 3 (v := .int .u64 (first : Int)) rfl
      obtain ⟨H, hH⟩ := hs_ex
      have hCN : (C : Int) = N := by have := HC.out; have := HG.out.n0; omega
      have hG' : Circ.Good (C : Int) k z L o := by rw [hCN]; exact HG.out
      have HGC := Lib.hid (And.intro hG' hCN)
      have HH := Lib.hid hH
      have HHr := Lib.hid (show ∀ (fx : Nat) (wx : World), Lw w N g1 k k1 g2 L k2 z o d Az nz cz first wx → AtV wx (some ⟨gz, 0, none⟩) (C * 2) (lv (zkc nz zin)) → Calls Tryd.prog 11 #[circV N (some ⟨g1, 0, none⟩) k k1 (some ⟨g2, 0, none⟩) L k2, labL d, .slice (some ⟨gz, 0, none⟩) C kz, .int .u64 (fx : Int)] wx (GrAns H d fx C k (zkc nz zin) z L o wx) from fun fx wx hx hzx => by
        rw [← hCN]
        exact garble_ok H hH wx C (some ⟨g1, 0, none⟩) k k1 z (some ⟨g2, 0, none⟩) L k2 o d (some ⟨gz, 0, none⟩) kz fx (zkc nz zin) hx.h hx.c.g hx.c.o hzx (fun h => by cases h) hG' HDd.out.1 HDd.out.2 (zkc_wd HD.out.2.2))
      have ha0 := Garb.ands_free z k HZ2.out
      have HAn := Lib.hid ha0
      clear hH hG' hCN ha0
      go_wp2_with fail
      refine (HHr.out first w8 H8.out HZa.out).mono ?_
      rintro e w9 ⟨gt, kt, go, rfl, hRt, hRo, hb9⟩
      rw [HAn.out] at hRt ⊢
      have H9 := Lib.hid (And.intro (H8.out.below hb9) (And.intro (HZa.out.below hb9) hRo.atv))
      clear q0 q1 q2 r0 r1 r3 H8 hb9 hRt hRo HZa
      have e3 : IntKind.u64.wrap ((first : Int) + 1) = (((first + 1) % 18446744073709551616 : Nat) : Int) := by rw [u64w]; omega
      obtain ⟨f2, hf2⟩ : ∃ f2, (first + 1) % 18446744073709551616 = f2 := ⟨_, rfl⟩
      rw [hf2] at e3
      have H8 := Lib.hid H9.out.1
      have q0 := H8.out.c.c.cell 0 (v := .int .i64 N) rfl
      have q1 := H8.out.c.c.cell 1 (v := .slice (some ⟨g1, 0, none⟩) k k1) rfl
      have q2 := H8.out.c.c.cell 2 (v := .slice (some ⟨g2, 0, none⟩) L k2) rfl
      have r0 := H8.out.k.cell 0 (v := .int .u64 (d.1 : Int)) rfl
      have r1 := H8.out.k.cell 1 (v := .int .u64 (d.2 : Int)) rfl
      have r3 := H8.out.k.cell 3 (v := .int .u64 (first : Int)) rfl
      clear hf2
      go_wp2_with fail
      refine (HHr.out f2 w9 H9.out.1 H9.out.2.1).mono ?_
      rintro e w10 ⟨gt2, kt2, go2, rfl, hRt, hRo, hb10⟩
      rw [HAn.out] at hRt ⊢
      have H10 := Lib.hid (And.intro (H9.out.1.below hb10) (And.intro (H9.out.2.1.below hb10) (And.intro (H9.out.2.2.below hb10) (hRo.atv.congr (lv_congr (M := fun i => zerH H d first C (zkc nz zin) z k (o i).toNat) fun i _ => (Garb.zer_free H H _ _ k HZ2.out _))))))
      clear q0 q1 q2 r0 r1 r3 H9 H8 hb10 hRt hRo e3
      have H8 := Lib.hid H10.out.1
      have q0 := H8.out.c.c.cell 0 (v := .int .i64 N) rfl
      have q1 := H8.out.c.c.cell 1 (v := .slice (some ⟨g1, 0, none⟩) k k1) rfl
      have q2 := H8.out.c.c.cell 2 (v := .slice (some ⟨g2, 0, none⟩) L k2) rfl
      have r0 := H8.out.k.cell 0 (v := .int .u64 (d.1 : Int)) rfl
      have r1 := H8.out.k.cell 1 (v := .int .u64 (d.2 : Int)) rfl
      have r3 := H8.out.k.cell 3 (v := .int .u64 (first : Int)) rfl
      have HCk := Lib.hid (check_ok (cg := k1) (co := k2) H10.out.1.h H10.out.1.c.g H10.out.1.c.o (by have := HM.out; unfold maxLen; omega) (by have := HM.out; unfold maxLen; omega) HG.out)
      go_wp2_with fail
      refine HCk.out.mono ?_
      rintro e w11 ⟨rfl, hb11⟩
      have H11 := Lib.hid (And.intro (H10.out.1.below hb11) (And.intro (H10.out.2.1.below hb11) (And.intro (H10.out.2.2.1.below hb11) (H10.out.2.2.2.below hb11))))
      clear q0 q1 q2 r0 r1 r3 H8 H10 HCk hb11
      have H8 := Lib.hid H11.out.1
      have HEv := Lib.hid (show Calls Tryd.prog 21 #[circV N (some ⟨g1, 0, none⟩) k k1 (some ⟨g2, 0, none⟩) L k2, .slice (some ⟨gz, 0, none⟩) C kz, .slice none 0 0, .int .u64 ((0 : Nat) : Int)] w11 (GeAns H 0 C k (zkc nz zin) (fun _ => (0, 0)) z L o w11) by
        rw [← HGC.out.2]
        exact geval_ok H HH.out w11 C (some ⟨g1, 0, none⟩) k k1 z (some ⟨g2, 0, none⟩) L k2 o (some ⟨gz, 0, none⟩) kz none 0 0 0 (zkc nz zin) (fun _ => (0, 0)) H11.out.1.h H11.out.1.c.g H11.out.1.c.o H11.out.2.1 (fun h => by cases h) AtV.zero HGC.out.1 (by rw [HAn.out]) (zkc_wd HD.out.2.2) (fun _ => Garb.Wd.zero))
      have q0 := H8.out.c.c.cell 0 (v := .int .i64 N) rfl
      have q1 := H8.out.c.c.cell 1 (v := .slice (some ⟨g1, 0, none⟩) k k1) rfl
      have q2 := H8.out.c.c.cell 2 (v := .slice (some ⟨g2, 0, none⟩) L k2) rfl
      have r0 := H8.out.k.cell 0 (v := .int .u64 (d.1 : Int)) rfl
      have r1 := H8.out.k.cell 1 (v := .int .u64 (d.2 : Int)) rfl
      have r3 := H8.out.k.cell 3 (v := .int .u64 (first : Int)) rfl
      go_wp2_with fail
      refine HEv.out.mono ?_
      rintro e w12 ⟨gl, rfl, hRl, hb12⟩
      have H12 := Lib.hid (And.intro (H11.out.1.b.trans (hb12.mono H11.out.1.b.size)) (And.intro (H11.out.2.2.1.below hb12) (H11.out.2.2.2.below hb12)))
      clear q0 q1 q2 r0 r1 r3 H8 H11 HEv hb12 hRl
      have HSm2 := Lib.hid (same_yes w12 (some ⟨go, 0, none⟩) L L (fun i => zerH H d first C (zkc nz zin) z k (o i).toNat) (some ⟨go2, 0, none⟩) L H12.out.2.1 H12.out.2.2 (by have := HM.out; unfold maxLen; omega))
      go_wp2_with fail
      refine HSm2.out.mono ?_
      rintro e w13 ⟨rfl, hb13⟩
      have HF := Lib.hid (H12.out.1.trans (hb13.mono H12.out.1.size))
      clear H12 HSm2 hb13
      have kk : ((L : Int) == (L : Int)) = true := by simp
      go_wp2
      go_ret
      exact ⟨rfl, HF.out⟩
/-- GarbleFree answers true. -/
theorem free_walk (N : Int) (Ag : Option Addr) (n cg : Nat) (y : Nat → Nat → Int) (Ao : Option Addr) (m co : Nat) (o : Nat → Int) (dl : Lab) (Az : Option Addr) (nz cz first : Nat) (zin : Nat → Lab) (w : World) (hh : Handle w) (hg : AtV w Ag (n * 3) (gv y)) (ho : AtV w Ao m (iv o)) (hn : n ≤ cg) (hm : m ≤ co) (zg : Ag = none → n = 0 ∧ cg = 0) (zo : Ao = none → m = 0 ∧ co = 0) (hdl : Garb.Wd dl) (hfi : first < 18446744073709551616) (hz : AtV w Az (nz * 2) (lv zin)) (hzw : ∀ i, Garb.Wd (zin i)) (hz0 : Az = none → nz = 0 ∧ cz = 0) (hnz : nz ≤ cz) :
    Calls Tryd.prog 7 #[circV N Ag n cg Ao m co, keysV dl Az nz cz first] w fun e w' => e = .returned (.bool true) ∧ Below w.heap.size w w' := by
  cases hsm : (decide (n ≤ 60) && decide (N ≤ 200)) with
  | false => exact free_big N Ag n cg y Ao m co o dl Az nz cz first zin w hh hg ho hn hm zg zo hdl hfi hz hzw hz0 hnz hsm
  | true =>
    by_cases hG : Circ.Good N n (yF y n) (min m 80) o
    · exact free_ok N Ag n cg y Ao m co o dl Az nz cz first zin w hh hg ho hn hm zg zo hdl hfi hz hzw hz0 hnz hsm hG
    · exact free_bad N Ag n cg y Ao m co o dl Az nz cz first zin w hh hg ho hn hm zg zo hdl hfi hz hzw hz0 hnz hsm hG
end Go.Proofs.YtamejhhjfnfalaaDoor
