/- Contract of Garble: a circuit garbled. -/
import Derived.Test.YtamejhhjfnfalaaDoorZGA7
namespace Go.Proofs.YtamejhhjfnfalaaDoor
open Go.RowKit

/-- What Garble answers of a circuit. -/
def GrAns (H : Lab → Nat → Lab) (d : Lab) (first N n : Nat) (zin : Nat → Lab) (y : Nat → Nat → Int) (m : Nat) (o : Nat → Int) (w : World) (e : Ending) (w' : World) : Prop :=
  ∃ gt kt go, e = .returned (.tuple #[.slice (some ⟨gt, 0, none⟩) (2 * Circ.ands y n) kt, .slice (some ⟨go, 0, none⟩) m m, .nilIface]) ∧ Row w' w.heap.size 28 2 (.slice (some ⟨gt, 0, none⟩) (2 * Circ.ands y n) kt) (2 * Circ.ands y n) (lv (tabH H d first N zin y n)) ∧ Row w' w.heap.size 28 2 (.slice (some ⟨go, 0, none⟩) m m) m (lv fun i => zerH H d first N zin y n (o i).toNat) ∧ Below w.heap.size w w'
set_option maxHeartbeats 8000000 in
set_option maxRecDepth 100000 in
theorem garble_ok (H : Lab → Nat → Lab) (hH : Hs H) (w : World) (N : Nat) (Ag : Option Addr) (n cg : Nat) (y : Nat → Nat → Int) (Ao : Option Addr) (m co : Nat) (o : Nat → Int) (d : Lab) (A : Option Addr) (c first : Nat) (zin : Nat → Lab) (hh : Handle w) (hg : AtV w Ag (n * 3) (gv y)) (ho : AtV w Ao m (iv o)) (hz : AtV w A (N * 2) (lv zin)) (hz0 : A = none → N = 0 ∧ c = 0) (hG : Circ.Good N n y m o) (hd : Garb.Wd d) (hc : Garb.ncol d = true) (hzw : ∀ q, Garb.Wd (zin q)) :
    Calls Tryd.prog 11 #[circV N Ag n cg Ao m co, labL d, .slice A N c, .int .u64 (first : Int)] w (GrAns H d first N n zin y m o w) := by
  obtain ⟨w1, hw1⟩ : ∃ x, ((w.alloc (.cells #[.int .i64 (N : Int), .slice Ag n cg, .slice Ao m co] 25)).alloc (.cells #[.int .u64 (d.1 : Int), .int .u64 (d.2 : Int)] 28)).alloc (.cells #[.int .u64 (first : Int)] 26) = x := ⟨_, rfl⟩
  obtain ⟨b1, X0, X1, X2, hs⟩ := gar_boxes w N Ag n cg Ao m co d first w1 hw1
  have hh1 := hh.below b1 hh.pos
  have hn := hG.g
  have hm := hG.u
  have HC := Lib.hid (gfits_ok (cg := cg) (co := co) (s := ⟨#[122, 101, 114, 111, 115]⟩) (A := A) (c := c) hh1 (hg.below b1) (ho.below b1) (by unfold maxLen; omega) (by unfold maxLen; omega) hG rfl)
  have c0 := X0.cell 0 (v := .int .i64 (N : Int)) rfl
  have c1 := X0.cell 1 (v := .slice Ag n cg) rfl
  have c2 := X0.cell 2 (v := .slice Ao m co) rfl
  have H1 := Lib.hid (And.intro b1 (And.intro X0 (And.intro X1 (And.intro X2 hs))))
  have HA := Lib.hid (And.intro hg (And.intro ho (And.intro hz hz0)))
  have HG := Lib.hid (And.intro hG (And.intro hn hm))
  have HD := Lib.hid (And.intro hH (And.intro hd (And.intro hc hzw)))
  have HAn := Lib.hid (Circ.ands_le y n)
  clear hh hg ho hz hz0 hH hd hc hzw hG hn hm b1 X0 X1 X2 hs hh1
  rw [← hw1] at HC H1 c0 c1 c2
  clear hw1
  go_enter Tryd.func11, Tryd.ntmps11
  go_wp2_with fail
  refine HC.out.mono ?_
  rintro e w2 ⟨rfl, hb2⟩
  clear c0 c1 c2
  have h0 := H1.out
  have X0 := h0.2.1.below hb2 h0.2.1.lt
  have X1 := Blk.below h0.2.2.1 hb2 (Blk.lt h0.2.2.1)
  have X2 := h0.2.2.2.1.below hb2 h0.2.2.2.1.lt
  have q0 := Blk.cell X1 0 rfl
  have q1 := Blk.cell X1 1 rfl
  have H2 := Lib.hid (show Below w.heap.size w w2 ∧ circB w2 w.heap.size N Ag n cg Ao m co ∧ LbB w2 (w.heap.size + 1) d ∧ Blk w2 (w.heap.size + 1 + 1) 26 #[.int .u64 (first : Int)] from ⟨h0.1.trans (hb2.mono h0.1.size), X0, X1, X2⟩)
  have HK := Lib.hid (coloured_any d w2)
  rw [HD.out.2.2.1] at HK
  clear HC H1 h0 X0 X1 X2 hb2
  go_wp2_with fail
  refine HK.out.mono ?_
  rintro e w3 ⟨rfl, hb3⟩
  clear q0 q1
  have h0 := H2.out
  have H3 := Lib.hid (show Below w.heap.size w w3 ∧ circB w3 w.heap.size N Ag n cg Ao m co ∧ LbB w3 (w.heap.size + 1) d ∧ Blk w3 (w.heap.size + 1 + 1) 26 #[.int .u64 (first : Int)] from ⟨h0.1.trans (hb3.mono h0.1.size), h0.2.1.below hb3 h0.2.1.lt, Blk.below h0.2.2.1 hb3 (Blk.lt h0.2.2.1), h0.2.2.2.below hb3 h0.2.2.2.lt⟩)
  clear H2 HK hb3 h0
  go_wp2_with fail
  refine (fixed_fx w3).mono ?_
  rintro e w4 ⟨gx, rfl, hgx, hx, hb4⟩
  have h0 := H3.out
  have hba := (Below.refl w4.heap.size w4).alloc (Nat.le_refl _) (.cells #[.pointer (some ⟨gx, 0, none⟩)] 88)
  have hb5 := hb4.trans (hba.mono hb4.size)
  have X0 := h0.2.1.below hb5 h0.2.1.lt
  have X1 := Blk.below h0.2.2.1 hb5 (Blk.lt h0.2.2.1)
  have X2 := h0.2.2.2.below hb5 h0.2.2.2.lt
  have XC := Blk.new w4 88 #[.pointer (some ⟨gx, 0, none⟩)]
  have hbw := h0.1.trans (hb5.mono h0.1.size)
  have c0 := X0.cell 0 (v := .int .i64 (N : Int)) rfl
  have c1 := X0.cell 1 (v := .slice Ag n cg) rfl
  have c2 := X0.cell 2 (v := .slice Ao m co) rfl
  have HAnds := Lib.hid (ands_any (w4.alloc (.cells #[.pointer (some ⟨gx, 0, none⟩)] 88)) N Ag n cg y Ao m co (HA.out.1.below hbw) (by have := HG.out; unfold maxLen; omega))
  have H5 := Lib.hid (And.intro hbw (And.intro X0 (And.intro X1 (And.intro X2 (And.intro XC (hx.below hba))))))
  have hx4 : gx < w4.heap.size := hx.lt
  have HS4 := Lib.hid (show w.heap.size + 1 + 1 < w4.heap.size ∧ gx < w4.heap.size by have := h0.2.2.2.lt; have := hb4.size; omega)
  clear H3 h0 hgx hx hb4 hba hb5 X0 X1 X2 XC hbw hx4
  go_wp2_with fail
  refine HAnds.out.mono ?_
  rintro e w6 ⟨rfl, hb6⟩
  obtain ⟨E, hE⟩ : ∃ E, 2 * Circ.ands y n = E := ⟨_, rfl⟩
  have e0 : IntKind.i64.wrap (2 * ((Circ.ands y n : Nat) : Int)) = (E : Int) := by rw [i64_nat _ (by omega) (by have := HAn.out; have := HG.out; omega)]; omega
  have hmk := run_makeL w6 0 E (by omega) (by have := HAn.out; have := HG.out; omega)
  have hmk : (Instr.makeSlice 29 (.int .i64 0) (.int .i64 (E : Int))).run Tryd.prog w6 = _ := hmk
  have hR7 := made_labs w6 0 E (by omega) (by have := HAn.out; have := HG.out; unfold maxLen; omega)
  have h0 := H5.out
  have hb7 : Below w6.heap.size w6 (w6.alloc (.cells (madeCells #[Value.int .u64 0, Value.int .u64 0] (E * 2)) 28)) := (Below.refl _ _).alloc (Nat.le_refl _) _
  have hb8 := hb7.alloc hb7.size (.cells #[.slice (some ⟨w6.heap.size, 0, none⟩) 0 E] 29)
  have hs7 : (w6.alloc (.cells (madeCells #[Value.int .u64 0, Value.int .u64 0] (E * 2)) 28)).heap.size = w6.heap.size + 1 := by simp
  have XT := Blk.new (w6.alloc (.cells (madeCells #[Value.int .u64 0, Value.int .u64 0] (E * 2)) 28)) 29 #[.slice (some ⟨w6.heap.size, 0, none⟩) 0 E]
  rw [hs7] at XT
  have hbb := hb6.trans (hb8.mono hb6.size)
  have hsw6 := hb6.size
  simp only [World.size_alloc] at hsw6
  have X0 := h0.2.1.below hbb h0.2.1.lt
  have X1 := Blk.below h0.2.2.1 hbb (Blk.lt h0.2.2.1)
  have X2 := h0.2.2.2.1.below hbb h0.2.2.2.1.lt
  have XC := h0.2.2.2.2.1.below hbb h0.2.2.2.2.1.lt
  have XX := h0.2.2.2.2.2.below hbb
  have hbw := h0.1.trans (hbb.mono h0.1.size)
  have HR8 := hR7.alloc (.cells #[.slice (some ⟨w6.heap.size, 0, none⟩) 0 E] 29)
  obtain ⟨B, hB⟩ : ∃ B, w6.heap.size = B := ⟨_, rfl⟩
  have hlt8 := XT.lt
  have k0 := X0.cell 0 (v := .int .i64 (N : Int)) rfl
  have k1 := X0.cell 1 (v := .slice Ag n cg) rfl
  have k2 := X0.cell 2 (v := .slice Ao m co) rfl
  have k3 := Blk.cell X1 0 rfl
  have k4 := Blk.cell X1 1 rfl
  clear c0 c1 c2 HAnds
  have H8 := Lib.hid (And.intro hbw (And.intro X0 (And.intro X1 (And.intro X2 (And.intro XC (And.intro XX (And.intro XT (And.intro HR8 hlt8))))))))
  have HS8 := Lib.hid (show w.heap.size + 1 + 1 < w4.heap.size ∧ w4.heap.size < w6.heap.size by have := HS4.out; omega)
  have HB := Lib.hid hB
  have HE := Lib.hid hE
  clear h0 hR7 hb7 hb8 hs7 XT hbb hsw6 X0 X1 X2 XC XX hbw HR8 hlt8 hB H5 hb6 hE
  go_wp2_with fail
  clear hmk e0 k0 k1 k2 k3 k4
  generalize ((w6.alloc (.cells (madeCells #[Value.int .u64 0, Value.int .u64 0] (E * 2)) 28)).alloc (.cells #[.slice (some ⟨w6.heap.size, 0, none⟩) 0 E] 29)) = w8 at *
  obtain ⟨hbw, X0, X1, X2, XC, XX, XT, HR8, hlt8⟩ := H8.out
  have hcl := gclo_clo H HD.out.1 d HD.out.2.1 first N n zin y HD.out.2.2.2 HG.out.2.1 (w.heap.size + 1 + 1) (w6.heap.size + 1) w4.heap.size (w.heap.size + 1) gx w6.heap.size w8.heap.size hlt8
  have hI : GInv H d first N zin y (w.heap.size + 1 + 1) (w6.heap.size + 1) w4.heap.size (w.heap.size + 1) gx w6.heap.size w8.heap.size w8 0 w6.heap.size := ⟨E, ⟨X2, XT, XC, X1, XX⟩, HR8.congr fun i hi => by
    have : (2 * Circ.ands y 0) * 2 = 0 := rfl
    omega, by have := HS8.out; have := HS4.out; omega⟩
  have HT := Lib.hid (through_any w8 N Ag n cg y Ao m co o A c zin d 41 _ _ _ _ _ w6.heap.size (HA.out.1.below hbw) (HA.out.2.1.below hbw) (HA.out.2.2.1.below hbw) HA.out.2.2.2 HG.out.1 hcl hI (fun q _ => rfl) (fun k _ q => rfl) (Garb.zer_wd HD.out.1.wd HD.out.2.1 (Garb.tw_lt first) (Garb.tw1_lt first) N zin y HD.out.2.2.2) HD.out.2.1 (fun ad e hn => by have := AtV.lt HA.out.1 ad e hn; have := HS8.out; omega) (fun ad e hn => by have := AtV.lt HA.out.2.1 ad e hn; have := HS8.out; omega))
  have HW := Lib.hid hbw
  clear hbw X0 X1 X2 XC XX XT HR8 hlt8 hcl hI H8
  refine HT.out.mono ?_
  rintro e w9 ⟨go, g', rfl, hgo, hRo, ⟨kt, hGc, hRt, hl⟩, hg', hc9⟩
  have ct := hGc.t.cell 0 (v := .slice (some ⟨g', 0, none⟩) (2 * Circ.ands y n) kt) rfl
  have hsw := HW.out.size
  have HF := Lib.hid (show Row w9 w.heap.size 28 2 (.slice (some ⟨g', 0, none⟩) (2 * Circ.ands y n) kt) (2 * Circ.ands y n) (lv (tabH H d first N zin y n)) ∧ Row w9 w.heap.size 28 2 (.slice (some ⟨go, 0, none⟩) m m) m (lv fun i => zerH H d first N zin y n (o i).toNat) ∧ Below w.heap.size w w9 from ⟨hRt.mono fun q hq => by
    obtain rfl : g' = q := Option.some.inj hq
    have := HS8.out; omega, hRo.mono fun q hq => by
    obtain rfl : go = q := Option.some.inj hq
    omega, HW.out.trans (hc9.below hsw fun q hq => by have := HS8.out; omega)⟩)
  clear hgo hRo hGc hRt hl hg' hc9 hsw HT
  go_wp2
  exact bodyPost_ret (v := .tuple #[.slice (some ⟨g', 0, none⟩) (2 * Circ.ands y n) kt, .slice (some ⟨go, 0, none⟩) m m, .nilIface]) (by simp [results, Tryd.results11, go_sem]) rfl ⟨g', kt, go, rfl, HF.out.1, HF.out.2.1, HF.out.2.2⟩
end Go.Proofs.YtamejhhjfnfalaaDoor
