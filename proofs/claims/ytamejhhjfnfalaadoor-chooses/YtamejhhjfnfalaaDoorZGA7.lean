/- Contracts of Garble: a delta of the wrong colour; a circuit garbled. -/
import Derived.Test.YtamejhhjfnfalaaDoorZGA3
import Derived.Test.YtamejhhjfnfalaaDoorZGA5
import Derived.Test.YtamejhhjfnfalaaDoorMH
namespace Go.Proofs.YtamejhhjfnfalaaDoor
open Go.RowKit

set_option maxHeartbeats 4000000 in
set_option maxRecDepth 100000 in
theorem garble_col (w : World) (N : Int) (Ag : Option Addr) (n cg : Nat) (y : Nat → Nat → Int) (Ao : Option Addr) (m co : Nat) (o : Nat → Int) (d : Lab) (A : Option Addr) (K c first : Nat) (hh : Handle w) (hg : AtV w Ag (n * 3) (gv y)) (ho : AtV w Ao m (iv o)) (hn : n ≤ maxLen) (hm : m ≤ maxLen) (hG : Circ.Good N n y m o) (hK : (K : Int) = N) (hd : Garb.ncol d = false) :
    Calls Tryd.prog 11 #[circV N Ag n cg Ao m co, labL d, .slice A K c, .int .u64 (first : Int)] w (GrBad 100 w) := by
  obtain ⟨w1, hw1⟩ : ∃ x, ((w.alloc (.cells #[.int .i64 N, .slice Ag n cg, .slice Ao m co] 25)).alloc (.cells #[.int .u64 (d.1 : Int), .int .u64 (d.2 : Int)] 28)).alloc (.cells #[.int .u64 (first : Int)] 26) = x := ⟨_, rfl⟩
  obtain ⟨b1, X0, X1, X2, hs⟩ := gar_boxes w N Ag n cg Ao m co d first w1 hw1
  have hh1 := hh.below b1 hh.pos
  have HC := Lib.hid (gfits_ok (cg := cg) (co := co) (s := ⟨#[122, 101, 114, 111, 115]⟩) (A := A) (c := c) hh1 (hg.below b1) (ho.below b1) hn hm hG hK)
  have H1 := Lib.hid (And.intro b1 (And.intro X1 hh1))
  rw [← hw1] at HC H1
  clear hh hg ho hn hm hG hK b1 X0 X1 X2 hs hh1
  clear hw1
  unfold GrBad
  go_enter Tryd.func11, Tryd.ntmps11
  go_wp2_with fail
  refine HC.out.mono ?_
  rintro e w2 ⟨rfl, hb2⟩
  have HX := Blk.below H1.out.2.1 hb2 (Blk.lt H1.out.2.1)
  have q0 := Blk.cell HX 0 rfl
  have q1 := Blk.cell HX 1 rfl
  have H2 := Lib.hid (And.intro (H1.out.1.trans (hb2.mono H1.out.1.size)) (H1.out.2.2.belowS hb2))
  have HK := Lib.hid (coloured_any d w2)
  rw [hd] at HK
  clear HX hb2 H1 hd
  go_wp2_with fail
  refine HK.out.mono ?_
  rintro e w3 ⟨rfl, hb3⟩
  have H3 := Lib.hid (And.intro (H2.out.1.trans (hb3.mono H2.out.1.size)) (H2.out.2.belowS hb3))
  have HW := Lib.hid (wrap_bare 100 0 ⟨#[100, 101, 108, 116, 97]⟩ w3 H3.out.2)
  clear hb3 H2
  go_wp2_with fail
  refine HW.out.mono ?_
  rintro e w4 ⟨rfl, hb4⟩
  have HB := Lib.hid (H3.out.1.trans (hb4.mono H3.out.1.size))
  clear hb4
  obtain ⟨T, x, hT⟩ := chain_iface [(⟨#[100, 101, 108, 116, 97]⟩, 0)] 100
  have HT := Lib.hid hT
  rw [hT]
  clear hT
  go_wp2
  exact bodyPost_ret (v := .tuple #[.slice none 0 0, .slice none 0 0, .iface T x]) (by simp [results, Tryd.results11, go_sem]) rfl ⟨⟨_, _, by rw [HT.out]⟩, HB.out⟩
/-- The wires' zero labels, the tables, of a circuit. -/
abbrev zerH (H : Lab → Nat → Lab) (d : Lab) (first N : Nat) (zin : Nat → Lab) (y : Nat → Nat → Int) : Nat → Nat → Lab := Garb.zer Garb.nadd Garb.ncol H d (Garb.tw first) (Garb.tw1 first) N zin y
abbrev tabH (H : Lab → Nat → Lab) (d : Lab) (first N : Nat) (zin : Nat → Lab) (y : Nat → Nat → Int) : Nat → Nat → Lab := Garb.tabs H d (Garb.tw first) (Garb.tw1 first) N zin y
/-- What the closure keeps: what it captured, and the tables of the Ands so far. -/
def GInv (H : Lab → Nat → Lab) (d : Lab) (first N : Nat) (zin : Nat → Lab) (y : Nat → Nat → Int) (bf bt bc bd gx B B0 : Nat) (w : World) (k g : Nat) : Prop :=
  ∃ kt, Gc w bf bt bc bd gx first (.slice (some ⟨g, 0, none⟩) (2 * Circ.ands y k) kt) d ∧ Row w B 28 2 (.slice (some ⟨g, 0, none⟩) (2 * Circ.ands y k) kt) (2 * Circ.ands y k) (lv (tabH H d first N zin y k)) ∧ (bf < B0 ∧ bt < B0 ∧ bc < B0 ∧ bd < B ∧ B ≤ B0 ∧ gx < B0)
set_option maxRecDepth 100000 in
theorem gclo_clo (H : Lab → Nat → Lab) (hH : Hs H) (d : Lab) (hd : Garb.Wd d) (first N n : Nat) (zin : Nat → Lab) (y : Nat → Nat → Int) (hz : ∀ q, Garb.Wd (zin q)) (hn : n ≤ 4096) (bf bt bc bd gx B B0 : Nat) (hbt : bt < B0) :
    Clo 41 #[.pointer (some ⟨bf, 0, none⟩), .pointer (some ⟨bt, 0, none⟩), .pointer (some ⟨bc, 0, none⟩), .pointer (some ⟨bd, 0, none⟩)] n y (zerH H d first N zin y) (fun k => Garb.andZ Garb.nadd Garb.ncol H d (zerH H d first N zin y k (y k 1).toNat) (zerH H d first N zin y k (y k 2).toNat) (Garb.tw first (Circ.ands y k)) (Garb.tw1 first (Circ.ands y k))) B0 (fun q => q = bt) (GInv H d first N zin y bf bt bc bd gx B B0) where
  call k w g a b hk h2 ha hb hB h := by
    obtain ⟨kt, hG, hR, hl⟩ := h
    have hw := Garb.zer_wd hH.wd hd (Garb.tw_lt first) (Garb.tw1_lt first) N zin y hz k
    have hak := Circ.ands_le y k
    have hs : Circ.ands y (k + 1) = Circ.ands y k + 1 := by rw [Garb.ands_succ, if_pos h2]
    refine (gclo_any H hH w bf bt bc bd gx first (Circ.ands y k) B _ d (zerH H d first N zin y k a) (zerH H d first N zin y k b) (tabH H d first N zin y k) (tabH H d first N zin y (k + 1)) hG hR hd (hw a) (hw b) (by omega) hl.2.2.2.1 (by omega) (fun i hi => (Garb.tabs_old k 1 i hi).symm) ?_ ?_).mono ?_
    · show (if y k 0 = 2 then (if 2 * Circ.ands y k = 2 * Circ.ands y k then _ else _) else _) = _
      rw [if_pos h2, if_pos rfl, ha, hb, Int.toNat_natCast, Int.toNat_natCast]
    · show (if y k 0 = 2 then (if 2 * Circ.ands y k + 1 = 2 * Circ.ands y k then _ else if 2 * Circ.ands y k + 1 = 2 * Circ.ands y k + 1 then _ else _) else _) = _
      rw [if_pos h2, if_neg (by omega), if_pos rfl, ha, hb, Int.toNat_natCast, Int.toNat_natCast]
    · rintro e w' ⟨rfl, gt, kt', hG', hR', hor, hc⟩
      refine ⟨gt, ?_, ⟨kt', ?_, ?_, hl⟩, ?_, hc.mono fun q _ hq => ?_⟩
      · rw [ha, hb, Int.toNat_natCast, Int.toNat_natCast]
      · rw [hs, Nat.mul_add, Nat.mul_one]; exact hG'
      · rw [hs, Nat.mul_add, Nat.mul_one]; exact hR'
      · rcases hor with h | h
        · exact .inl (Option.some.inj h).symm
        · exact .inr h
      · rcases hq with h | h
        · exact .inr h
        · exact .inl (Option.some.inj h).symm
  enter args w := by go_simp
  skip k w g hk h2 h := by
    obtain ⟨kt, hG, hR, hl⟩ := h
    have hs : Circ.ands y (k + 1) = Circ.ands y k := by rw [Garb.ands_succ, if_neg h2]
    refine ⟨kt, by rw [hs]; exact hG, ?_, hl⟩
    rw [hs]
    exact hR.congr (lv_congr fun i _ => by
      show _ = (if y k 0 = 2 then _ else _)
      rw [if_neg h2])
  keep k w w' g S h hc hS := by
    obtain ⟨kt, hG, hR, hl⟩ := h
    refine ⟨kt, hG.chg hc (hG.t.chg hc fun h => ?_) (fun h => ?_) (fun h => ?_) (fun h => ?_) (fun h => ?_), hR.chg hc (fun q hq h => ?_), hl⟩
    · have := (hS _ h).1; omega
    · have := (hS _ h).1; omega
    · have := (hS _ h).1; omega
    · have := (hS _ h).1; omega
    · have := (hS _ h).1; omega
    · exact (hS _ h).2 (Option.some.inj hq).symm
  low q h := by
    subst h; exact hbt
  lt k w g h := by
    obtain ⟨kt, hG, hR, hl⟩ := h
    exact (hR.own g rfl).2.1
end Go.Proofs.YtamejhhjfnfalaaDoor
