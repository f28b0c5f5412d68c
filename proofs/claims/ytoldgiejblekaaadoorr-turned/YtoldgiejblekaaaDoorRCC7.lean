/- Contracts of circ's Eval. -/
import Derived.Test.YtoldgiejblekaaaDoorRCC6
namespace Go.Proofs.YtoldgiejblekaaaDoorR
open Go.RowKit

set_option maxHeartbeats 1000000 in
set_option maxRecDepth 100000 in
theorem eval_bad (w : World) (N : Int) (Ag : Option Addr) (n cg : Nat) (y : Nat → Nat → Int) (Ao : Option Addr) (m co : Nat) (o : Nat → Int) (v : Value) (hh : Handle w) (hg : AtV w Ag (n * 3) (gv y)) (ho : AtV w Ao m (iv o)) (hn : n ≤ maxLen) (hm : m ≤ maxLen) (hG : ¬ Circ.Good N n y m o) :
    Calls Tryd.prog 8 #[circV N Ag n cg Ao m co, v] w fun e w' => (∃ p a, e = .returned (.tuple #[.slice none 0 0, chain [(p, a)] 90])) ∧ Below w.heap.size w w' := by
  have hb0 := (Below.refl w.heap.size w).alloc (Nat.le_refl _) (.cells #[.int .i64 N, .slice Ag n cg, .slice Ao m co] 25)
  have HC := Lib.hid (check_bad (cg := cg) (co := co) (hh.below hb0 hh.pos) (hg.below hb0) (ho.below hb0) hn hm hG)
  have H0 := Lib.hid hb0
  clear hh hg ho hn hm hG hb0
  go_enter Tryd.func8, Tryd.ntmps8
  go_wp2_with fail
  refine HC.out.mono ?_
  rintro e w1 ⟨⟨p, a, rfl⟩, hb1⟩
  have HB := Lib.hid (H0.out.trans (hb1.mono H0.out.size))
  clear hb1
  obtain ⟨T, x, hT⟩ := chain_iface [(p, a)] 90
  have HT := Lib.hid hT
  rw [hT]
  clear hT
  go_wp2
  go_ret2
  exact ⟨⟨p, a, by rw [HT.out]; rfl⟩, HB.out⟩
set_option maxHeartbeats 1000000 in
set_option maxRecDepth 100000 in
theorem eval_len (w : World) (N : Int) (Ag : Option Addr) (n cg : Nat) (y : Nat → Nat → Int) (Ao : Option Addr) (m co : Nat) (o : Nat → Int) (A : Option Addr) (K c : Nat) (hh : Handle w) (hg : AtV w Ag (n * 3) (gv y)) (ho : AtV w Ao m (iv o)) (hn : n ≤ maxLen) (hm : m ≤ maxLen) (hG : Circ.Good N n y m o) (hK : (K : Int) ≠ N) :
    Calls Tryd.prog 8 #[circV N Ag n cg Ao m co, .slice A K c] w fun e w' => (∃ p a, e = .returned (.tuple #[.slice none 0 0, chain [(p, a)] 1])) ∧ Below w.heap.size w w' := by
  have hb0 := (Below.refl w.heap.size w).alloc (Nat.le_refl _) (.cells #[.int .i64 N, .slice Ag n cg, .slice Ao m co] 25)
  have HX := Blk.new w 25 #[.int .i64 N, .slice Ag n cg, .slice Ao m co]
  have HC := Lib.hid (check_ok (cg := cg) (co := co) (hh.below hb0 hh.pos) (hg.below hb0) (ho.below hb0) hn hm hG)
  have H0 := Lib.hid (And.intro hb0 (And.intro HX (hh.below hb0 hh.pos)))
  have hlt := HX.lt
  have k1 : ¬ (K : Int) = N := hK
  have k2 : ((K : Int) == N) = false := by simpa using hK
  have k3 : ((K : Int) != N) = true := by simpa using hK
  clear hh hg ho hn hm hG hb0 HX
  go_enter Tryd.func8, Tryd.ntmps8
  go_wp2_with fail
  refine HC.out.mono ?_
  rintro e w1 ⟨rfl, hb1⟩
  have HX1 := H0.out.2.1.below hb1 hlt
  have c0 := HX1.cell 0 (v := .int .i64 N) rfl
  have HB1 := Lib.hid (H0.out.1.trans (hb1.mono H0.out.1.size))
  have HW := Lib.hid (wrap_bare 1 (K : Int) ⟨#[98, 105, 116, 115]⟩ w1 (H0.out.2.2.below hb1 H0.out.2.2.pos))
  clear hb1 HX1
  go_wp2_with fail
  refine HW.out.mono ?_
  rintro e w2 ⟨rfl, hb2⟩
  have HB := Lib.hid (HB1.out.trans (hb2.mono HB1.out.size))
  clear hb2
  obtain ⟨T, x, hT⟩ := chain_iface [(⟨#[98, 105, 116, 115]⟩, (K : Int))] 1
  have HT := Lib.hid hT
  rw [hT]
  clear hT
  go_wp2
  go_ret2
  exact ⟨⟨_, _, by rw [HT.out]; rfl⟩, HB.out⟩
/-- What Eval answers of a circuit. -/
def EvAns (m : Nat) (f : Nat → Bool) (w : World) (e : Ending) (w' : World) : Prop := ∃ g, e = .returned (.tuple #[.slice (some ⟨g, 0, none⟩) m m, .nilIface]) ∧ w.heap.size ≤ g ∧ Row w' w.heap.size 4 1 (.slice (some ⟨g, 0, none⟩) m m) m (bv f) ∧ Below w.heap.size w w'
set_option maxHeartbeats 8000000 in
set_option maxRecDepth 100000 in
theorem eval_ok (w : World) (N : Nat) (Ag : Option Addr) (n cg : Nat) (y : Nat → Nat → Int) (Ao : Option Addr) (m co : Nat) (o : Nat → Int) (A : Option Addr) (c : Nat) (f : Nat → Bool) (hh : Handle w) (hg : AtV w Ag (n * 3) (gv y)) (ho : AtV w Ao m (iv o)) (hA : AtV w A N (bv f)) (hz : A = none → N = 0 ∧ c = 0) (hG : Circ.Good N n y m o) :
    Calls Tryd.prog 8 #[circV N Ag n cg Ao m co, .slice A N c] w (EvAns m (fun i => Circ.vals N f y n (o i).toNat) w) := by
  have hN := hG.n1
  have hn := hG.g
  have hm := hG.u
  have hb0 := (Below.refl w.heap.size w).alloc (Nat.le_refl _) (.cells #[.int .i64 (N : Int), .slice Ag n cg, .slice Ao m co] 25)
  have HX := Blk.new w 25 #[.int .i64 (N : Int), .slice Ag n cg, .slice Ao m co]
  have HC := Lib.hid (check_ok (cg := cg) (co := co) (hh.below hb0 hh.pos) (hg.below hb0) (ho.below hb0) (by unfold maxLen; omega) (by unfold maxLen; omega) hG)
  have hlt := HX.lt
  have H0 := Lib.hid (And.intro hb0 (And.intro HX (And.intro hg (And.intro ho (And.intro hA hz)))))
  have HG := Lib.hid hG
  have HN := Lib.hid (show N ≤ 4096 ∧ n ≤ 4096 ∧ m ≤ 64 by omega)
  obtain ⟨C, hC⟩ : ∃ C, N + n = C := ⟨_, rfl⟩
  have e0 : IntKind.i64.wrap ((N : Int) + (n : Int)) = (C : Int) := by rw [i64_nat _ (by omega) (by omega)]; omega
  have HCn := Lib.hid hC
  clear hh hg ho hA hz hG hb0 HX hN hn hm hC
  go_enter Tryd.func8, Tryd.ntmps8
  go_wp2_with fail
  refine HC.out.mono ?_
  rintro e w1 ⟨rfl, hb1⟩
  have HX1 := H0.out.2.1.below hb1 hlt
  have hb01 := H0.out.1.trans (hb1.mono H0.out.1.size)
  have hl1 := HX1.lt
  have c0 := HX1.cell 0 (v := .int .i64 (N : Int)) rfl
  have c1 := HX1.cell 1 (v := .slice Ag n cg) rfl
  have hmk := run_makeB w1 N C (by have := HCn.out; omega) (by have := HCn.out; have := HN.out; omega)
  have hR2 := made_row w1 N C (by have := HCn.out; omega) (by have := HCn.out; have := HN.out; unfold maxLen; omega)
  have hb2 : Below w1.heap.size w1 (w1.alloc (.cells (madeCells #[Value.bool false] C) 4)) := (Below.refl _ _).alloc (Nat.le_refl _) _
  obtain ⟨kc, w3, hcp, hR3, hc3⟩ := copy_bits _ w1.heap.size w1.heap.size N C _ A N c f hR2 ((H0.out.2.2.2.2.1.below hb01).below hb2) H0.out.2.2.2.2.2
  have hb3 : Below w1.heap.size w1 w3 := hb2.trans (hc3.below (by simp) fun k e => by omega)
  have hcp2 := hcp
  have d1 := (HX1.below hb3 hl1).cell 1 (v := .slice Ag n cg) rfl
  have H1 := Lib.hid (And.intro hb01 (And.intro HX1 (And.intro (hR3.congr (G := bv f) fun i hi => by rw [if_pos (by omega)]) hb3)))
  clear hb1 HX1 hR2 hb2 hR3 hc3 hb3 hb01 hcp2
  go_wp2
  clear c0 c1 d1 hmk hcp e0
  obtain ⟨ws, hws⟩ : ∃ x, w1.heap.size = x := ⟨_, rfl⟩
  rw [hws] at H1 ⊢
  have HWS := Lib.hid hws
  clear hws
  go_loopw [7, 42] (fun v' i wr => ∃ k : Nat, ∃ v, k ≤ n ∧ v = v' ∧ i = .int .i64 k ∧ Hid (Row wr ws 4 1 v (N + k) (bv (Circ.vals N f y k)) ∧ Below ws w1 wr)) (fun _ i _ => n - (intOf i).toNat)
  case atStart => exact ⟨0, _, Nat.zero_le _, rfl, rfl, H1.out.2.2.1, H1.out.2.2.2⟩
  case round =>
    obtain ⟨k, v, hk, rfl, rfl, HI⟩ := hrel
    have hlw := HI.out.2.size
    have hws := HWS.out
    by_cases hlt2 : k < n
    · have hb0r : Below w.heap.size w wr := H1.out.1.trans (HI.out.2.mono (by have := H1.out.1.size; omega))
      obtain ⟨ad, rfl, ae, hae, g0, g1, g2, hbk⟩ := (H0.out.2.2.1.below hb0r).gate k hlt2
      obtain ⟨a, ha, b, hb, hab⟩ : ∃ a : Nat, y k 1 = (a : Int) ∧ ∃ b : Nat, y k 2 = (b : Int) ∧ a < N + k ∧ (y k 0 = 1 ∨ y k 0 = 2 → b < N + k) := by
        rcases HG.out.fit k hlt2 with ⟨h0, h⟩ | ⟨h0, h⟩
        · exact ⟨(y k 1).toNat, by omega, (y k 2).toNat, by omega, by omega, by omega⟩
        · exact ⟨(y k 1).toNat, by omega, (y k 2).toNat, by omega, by omega, by omega⟩
      rw [ha] at g1
      rw [hb] at g2
      have lt1 : (k : Int) < (n : Int) := by omega
      have lt0 : (0 : Int) ≤ (k : Int) := by omega
      have e1 : IntKind.i64.wrap ((k : Int) + 1) = (k : Int) + 1 := i64_nat _ (by omega) (by have := HN.out; omega)
      have HGn := Blk.new wr 41 #[.int .i64 (y k 0), .int .i64 (a : Int), .int .i64 (b : Int)]
      have q0 := HGn.cell 0 (v := .int .i64 (y k 0)) rfl
      have q1 := HGn.cell 1 (v := .int .i64 (a : Int)) rfl
      have q2 := HGn.cell 2 (v := .int .i64 (b : Int)) rfl
      have hb2 : Below ws w1 (wr.alloc (.cells #[.int .i64 (y k 0), .int .i64 (a : Int), .int .i64 (b : Int)] 41)) := HI.out.2.trans (((Below.refl wr.heap.size wr).alloc (Nat.le_refl _) _).mono (by omega))
      have hR2 := HI.out.1.alloc (.cells #[.int .i64 (y k 0), .int .i64 (a : Int), .int .i64 (b : Int)] 41)
      obtain ⟨Aw, cw, rfl, hnc, hcm, hnil, hAt, hbl, _⟩ := hR2.read
      rw [Nat.mul_one] at hAt
      have HBt := Lib.hid (bitOf_any _ Aw (N + k) cw (Circ.vals N f y k) (y k 0) a b hAt hab.1 hab.2)
      have H2 := Lib.hid (And.intro hR2 hb2)
      have HLt := Lib.hid hlt2
      have HV := Lib.hid (show Circ.vals N f y (k + 1) = fun i => if i = N + k then Circ.gate (y k 0) (Circ.vals N f y k a) (Circ.vals N f y k b) else Circ.vals N f y k i by
        show (fun i => if i = N + k then Circ.gate (y k 0) (Circ.vals N f y k (y k 1).toNat) (Circ.vals N f y k (y k 2).toNat) else Circ.vals N f y k i) = _
        rw [ha, hb, Int.toNat_natCast, Int.toNat_natCast])
      clear HGn hlt2 hbk hb2 hR2 hnc hcm hnil hAt hbl ha hb hab hb0r hws
      go_wp2_with fail
      refine HBt.out.mono ?_
      rintro e w4 ⟨rfl, hb4⟩
      obtain ⟨bit, hbit⟩ : ∃ x, Circ.gate (y k 0) (Circ.vals N f y k a) (Circ.vals N f y k b) = x := ⟨_, rfl⟩
      rw [hbit] at HV ⊢
      clear hbit
      have hR4 := H2.out.1.below hb4
      have hb14 : Below ws w1 w4 := H2.out.2.trans (hb4.mono (by have := H2.out.2.size; have := HWS.out; omega))
      have hs4 := hb14.size
      obtain ⟨g, kk, w5, hr, hgB, hR, hgr, _⟩ := append_one eltB w4 ws (.slice Aw (N + k) cw) (N + k) (bv (Circ.vals N f y k)) (bv fun _ => bit) #[.bool bit] hR4 (fun j hj => by
        obtain rfl : j = 0 := by omega
        rfl) (bv_one _) (by have := HN.out; have := HLt.out; omega) (by have := HN.out; have := HLt.out; unfold maxLen; omega) (by have := HWS.out; omega)
      have hown := hR4.own
      have hb5 : Below ws w1 w5 := (hb14.alloc (by have := HWS.out; omega) (.cells #[.bool bit] 4)).grown hgr (by have := HWS.out; simp; omega) (fun q hq => (hown q hq).1)
      have HR := Lib.hid hr
      have HF := Lib.hid (And.intro (hR.congr (G := bv (Circ.vals N f y (k + 1))) (fun i hi => by
        unfold bv
        rw [HV.out]
        by_cases h : i = N + k
        · subst h; rw [if_neg (by omega)]; simp
        · rw [if_pos (by omega)]; simp [h])) hb5)
      clear hb4 hR4 hb14 hs4 hr hgB hR hgr hown hb5 H2
      go_wp2_with (at_builtin; refine wpList_append_run rfl _ _ 26 rfl (.slice Aw (N + k) cw) (.slice (some ⟨w4.heap.size, 0, none⟩) 1 1) (.slice (some ⟨g, 0, none⟩) (N + k + 1) kk) w5 rfl rfl (HR.out _) ?_)
      go_roundw
      case rel => exact ⟨k + 1, _, by have := HLt.out; omega, rfl, by go_num, HF.out.1, HF.out.2⟩
      case measure => simp [intOf]; have := HLt.out; omega
    · obtain rfl : k = n := by omega
      have lt1 : ¬ (k : Int) < (k : Int) := by omega
      obtain ⟨wB, hwB⟩ : ∃ x, x = wr := ⟨_, rfl⟩
      subst hwB
      have hb0r : Below w.heap.size w wB := H1.out.1.trans (HI.out.2.mono (by have := H1.out.1.size; omega))
      have HXr := H1.out.2.1.below HI.out.2 (by omega)
      have hlB := HXr.lt
      have d2 := HXr.cell 2 (v := .slice Ao m co) rfl
      have hmk := run_makeB wB m m (Nat.le_refl _) (by have := HN.out; omega)
      have hR2 := made_row wB m m (Nat.le_refl _) (by have := HN.out; unfold maxLen; omega)
      have hb2 : Below wB.heap.size wB (wB.alloc (.cells (madeCells #[Value.bool false] m) 4)) := (Below.refl _ _).alloc (Nat.le_refl _) _
      have d3 := (HXr.alloc (.cells (madeCells #[Value.bool false] m) 4)).cell 2 (v := .slice Ao m co) rfl
      obtain ⟨Aw, cw, rfl, hnc, hcm, hnil, hAt, hbl, _⟩ := HI.out.1.read
      rw [Nat.mul_one] at hAt
      have HB := Lib.hid (And.intro hb0r (And.intro hAt (And.intro hR2 hb2)))
      clear HXr hR2 hb2 hnc hcm hnil hAt hbl hlt2 hk hb0r HI H1
      go_wp2
      clear d2 d3 hmk
      generalize (wB.alloc (.cells (madeCells #[Value.bool false] m) 4)) = wC at *
      go_loopw [60] (fun i wr => ∃ t : Nat, t ≤ m ∧ i = .int .i64 t ∧ Hid (Row wr wB.heap.size 4 1 (.slice (some ⟨wB.heap.size, 0, none⟩) m m) m (bv fun q => if q < t then Circ.vals N f y k (o q).toNat else false) ∧ Below wB.heap.size wB wr)) (fun i _ => m - (intOf i).toNat)
      case atStart => exact ⟨0, Nat.zero_le _, rfl, HB.out.2.2.1.congr (fun i _ => by dsimp only [bv]; rw [if_neg (by omega)]), HB.out.2.2.2⟩
      case round =>
        obtain ⟨t, ht, rfl, HI⟩ := hrel
        by_cases hlt2 : t < m
        · have hb0r : Below w.heap.size w wr := HB.out.1.trans (HI.out.2.mono HB.out.1.size)
          obtain ⟨ad, rfl, co1⟩ := (H0.out.2.2.2.1.below hb0r) t hlt2
          unfold iv at co1
          obtain ⟨a, ha, hal⟩ : ∃ a : Nat, o t = (a : Int) ∧ a < N + k := by
            have := HG.out.out t hlt2
            exact ⟨(o t).toNat, by omega, by omega⟩
          obtain ⟨ad2, rfl, cw1⟩ := (HB.out.2.1.below HI.out.2) a hal
          unfold bv at cw1
          rw [ha] at co1
          have lt2 : (t : Int) < (m : Int) := by omega
          have lt0 : (0 : Int) ≤ (t : Int) := by omega
          have la1 : (a : Int) < (N : Int) + (k : Int) := by omega
          have la0 : (0 : Int) ≤ (a : Int) := by omega
          have e1 : IntKind.i64.wrap ((t : Int) + 1) = (t : Int) + 1 := i64_nat _ (by omega) (by have := HN.out; omega)
          have zf := HI.out.1.frozen t
          have ca := HI.out.1.cellAt t (by omega)
          have HLt := Lib.hid hlt2
          have HV := Lib.hid (show Circ.vals N f y k a = Circ.vals N f y k (o t).toNat by rw [ha, Int.toNat_natCast])
          clear hlt2 hal ha hb0r
          go_wp2
          go_roundw
          case rel => exact ⟨t + 1, by have := HLt.out; omega, by go_num, (HI.out.1.set t HLt.out (.bool (Circ.vals N f y k a))).congr (fun i _ => by
            dsimp only [bv]
            by_cases h : i = t
            · subst h; rw [if_pos rfl, if_pos (by omega), HV.out]
            · rw [if_neg h]
              by_cases h2 : i < t
              · rw [if_pos h2, if_pos (by omega)]
              · rw [if_neg h2, if_neg (by omega)]), HI.out.2.setCell (p := ⟨wB.heap.size, t, none⟩) (Nat.le_refl _) _⟩
          case measure => simp [intOf]; have := HLt.out; omega
        · obtain rfl : t = m := by omega
          have lt2 : ¬ (t : Int) < (t : Int) := by omega
          have hbB := HB.out.1.size
          clear hlt2 ht
          go_wp2
          go_ret2
          exact ⟨wB.heap.size, rfl, hbB, (HI.out.1.mono (base' := w.heap.size) (fun g h => by
            obtain rfl : wB.heap.size = g := Option.some.inj h
            exact hbB)).congr (fun i hi => by dsimp only [bv]; rw [if_pos (by omega)]), HB.out.1.trans (HI.out.2.mono hbB)⟩
end Go.Proofs.YtoldgiejblekaaaDoorR
