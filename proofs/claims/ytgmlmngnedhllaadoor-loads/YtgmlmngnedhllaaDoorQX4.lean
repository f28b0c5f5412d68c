/- CorrLoads' walk. -/
import Derived.Test.YtgmlmngnedhllaaDoorQX4a
namespace Go.Proofs.YtgmlmngnedhllaaDoor
open Go.RowKit

set_option maxHeartbeats 8000000 in
set_option maxRecDepth 100000 in
theorem loads_walk (A1 A2 A3 : Option Addr) (n1 n2 n3 p1 p2 p3 : Nat) (y1 y2 y3 : Nat → Nat → Int) (c3 : Nat → Bool) (w : World) (hh : Handle w) (a1 : AtT w A1 n1 y1) (a2 : AtT w A2 n2 y2) (a3 : AtO3 w A3 n3 y3 c3) (z1 : A1 = none → n1 = 0 ∧ p1 = 0) (z2 : A2 = none → n2 = 0 ∧ p2 = 0) (z3 : A3 = none → n3 = 0 ∧ p3 = 0) (h1 : n1 ≤ 1000000000000000) (h2 : n2 ≤ 1000000000000000) (h3 : n3 ≤ 1000000000000000) :
    Calls Tryd.prog 5 #[.slice A1 n1 p1, .slice A2 n2 p2, .slice A3 n3 p3] w fun e w' => e = .returned (.bool true) ∧ Below w.heap.size w w' := by
  have e0 : IntKind.i64.wrap ((n1 : Int) + (n2 : Int)) = (n1 : Int) + (n2 : Int) := i64_nat _ (by omega) (by omega)
  have e00 : IntKind.i64.wrap ((n1 : Int) + (n2 : Int) + (n3 : Int)) = (n1 : Int) + (n2 : Int) + (n3 : Int) := i64_nat _ (by omega) (by omega)
  have H0 := Lib.hid (And.intro hh (And.intro a1 (And.intro a2 (And.intro a3 (And.intro z1 (And.intro z2 z3))))))
  clear hh a1 a2 a3 z1 z2 z3
  by_cases hbig : 300 < n1 + n2 + n3
  · have b1 : (300 : Int) < (n1 : Int) + (n2 : Int) + (n3 : Int) := by omega
    clear hbig h1 h2 h3
    go_enter Tryd.func5, Tryd.ntmps5
    go_wp2_with fail
    refine (awake_any _ H0.out.1).mono ?_
    rintro e w1 ⟨rfl, hb1⟩
    have H1 := Lib.hid hb1
    clear hb1
    go_wp2_with fail
    refine (awake_any _ (H0.out.1.below H1.out H0.out.1.pos)).mono ?_
    rintro e w2 ⟨rfl, hb2⟩
    have H2 := Lib.hid (H1.out.trans (hb2.mono H1.out.size))
    clear hb2
    go_wp2
    go_ret
    exact ⟨rfl, H2.out⟩
  have b1 : ¬ (300 : Int) < (n1 : Int) + (n2 : Int) + (n3 : Int) := by omega
  have b2 : decide ((300 : Int) < (n1 : Int) + (n2 : Int) + (n3 : Int)) = false := decide_eq_false b1
  have HN := Lib.hid (show n1 + n2 + n3 ≤ 300 by omega)
  clear hbig h1 h2 h3
  go_enter Tryd.func5, Tryd.ntmps5
  go_wp2_with fail
  refine (awake_any _ H0.out.1).mono ?_
  rintro e w1 ⟨rfl, hb1⟩
  obtain ⟨g1, k1, cur1, w2, hr1, hg1, hB1, hs1, hn1, hA1, hb2⟩ := append_listT w1 A1 n1 p1 y1 (H0.out.2.1.below hb1) H0.out.2.2.2.2.1 (by have := HN.out; omega)
  have hb02 := hb1.trans (hb2.mono hb1.size)
  obtain ⟨g2, k2, cur2, w3, hr2, hg2, hB2, hs2, hn2, hA2, hb3⟩ := append_listT w2 A2 n2 p2 y2 (H0.out.2.2.1.below hb02) H0.out.2.2.2.2.2.1 (by have := HN.out; omega)
  have hb03 := hb02.trans (hb3.mono hb02.size)
  obtain ⟨g3, k3, cur3, w4, hr3, hg3, hB3, hs3, hn3, hA3, hb4⟩ := append_listO w3 A3 n3 p3 y3 c3 (H0.out.2.2.2.1.below hb03) H0.out.2.2.2.2.2.2 (by have := HN.out; omega)
  have hb04 := hb03.trans (hb4.mono hb03.size)
  have HR1 := Lib.hid hr1
  have HR2 := Lib.hid hr2
  have HR3 := Lib.hid hr3
  have l1 := hB1.lt
  have l2 := hB2.lt
  have l3 := hB3.lt
  have HL := Lib.hid (cload_any w4 (some ⟨g1, 0, none⟩) (some ⟨g2, 0, none⟩) (some ⟨g3, 0, none⟩) n1 n2 n3 k1 k2 k3 y1 y2 y3 c3 ((hA1.below hb3).below hb4) (hA2.below hb4) hA3 (fun h => by cases h) (fun h => by cases h) (fun h => by cases h) (by have := HN.out; omega) (by have := HN.out; omega) (by have := HN.out; omega))
  have HS := Lib.hid (And.intro (show Sz w4 g1 48 (n1 * 3) from ⟨cur1, (hB1.below hb3).below hb4, by omega⟩) (And.intro (show Sz w4 g2 48 (n2 * 3) from ⟨cur2, hB2.below hb4, by omega⟩) (And.intro (show Sz w4 g3 55 (n3 * 5) from ⟨cur3, hB3, by omega⟩) (And.intro hb04 (show w.heap.size ≤ g1 ∧ g1 < g2 ∧ g2 < g3 from ⟨by have := hb1.size; omega, by omega, by omega⟩)))))
  clear hb1 hr1 hr2 hr3 hg1 hg2 hg3 hB1 hB2 hB3 hs1 hs2 hs3 hn1 hn2 hn3 hA1 hA2 hA3 hb2 hb3 hb4 hb02 hb03 hb04 l1 l2 l3
  go_wp2_with (first
    | (at_builtin; refine wpList_append_run rfl _ _ 34 rfl (.slice (some ⟨w1.heap.size, 0, none⟩) 0 0) (.slice A1 n1 p1) (.slice (some ⟨g1, 0, none⟩) n1 k1) w2 rfl rfl HR1.out ?_)
    | (at_builtin; refine wpList_append_run rfl _ _ 34 rfl (.slice (some ⟨w2.heap.size, 0, none⟩) 0 0) (.slice A2 n2 p2) (.slice (some ⟨g2, 0, none⟩) n2 k2) w3 rfl rfl HR2.out ?_)
    | (at_builtin; refine wpList_append_run rfl _ _ 35 rfl (.slice (some ⟨w3.heap.size, 0, none⟩) 0 0) (.slice A3 n3 p3) (.slice (some ⟨g3, 0, none⟩) n3 k3) w4 rfl rfl HR3.out ?_))
  refine HL.out.mono ?_
  rintro e w5 ⟨s, rfl, hs, ho, hS, hb5⟩
  have l3 := HS.out.2.2.1.lt
  have HSt := Lib.hid (And.intro hs (And.intro hS (And.intro (fun q hq => ho q hq) (HS.out.2.2.2.1.trans (hb5.mono HS.out.2.2.2.1.size)))))
  have HG := Lib.hid HS.out.2.2.2.2
  have HZ0 := Lib.hid (HS.out.1.below hb5)
  have HZ1' := Lib.hid (HS.out.2.1.below hb5)
  have HZ2' := Lib.hid (HS.out.2.2.1.below hb5)
  have HO := Lib.hid (fun q (hq : s.own q) => (show g3 < q from Nat.lt_of_lt_of_le l3 (ho q hq)))
  clear hs ho hS hb5 HL HR1 HR2 HR3 HS l3 e0 e00 b1 b2
  go_wp2
  go_loopw [43] (fun i wr => ∃ k : Nat, k ≤ n1 ∧ i = .int .i64 k ∧ Hid (Sz wr g1 48 (n1 * 3) ∧ Chg (fun q => q = g1) w5 wr)) (fun i _ => n1 - (intOf i).toNat)
  case atStart => exact ⟨0, by omega, rfl, HZ0.out, Chg.refl _ _⟩
  case round =>
    obtain ⟨k, hk, rfl, HI⟩ := hrel
    by_cases hlt : k < n1
    · have lt1 : (k : Int) < (n1 : Int) := by omega
      have lt0 : (0 : Int) ≤ (k : Int) := by omega
      have e1 : IntKind.i64.wrap ((k : Int) + 1) = (k : Int) + 1 := i64_nat _ (by omega) (by have := HN.out; omega)
      obtain ⟨v0, c0⟩ := HI.out.1.cell (k * 3) (by omega)
      obtain ⟨v1, c1⟩ := HI.out.1.cell (k * 3 + 1) (by omega)
      obtain ⟨v2, c2⟩ := HI.out.1.cell (k * 3 + 2) (by omega)
      have fz := HI.out.1.frozen
      go_wp2
      go_roundw
      case rel => exact ⟨k + 1, by omega, by go_num, (((HI.out.1.set (k * 3) (.int .u64 7)).set (k * 3 + 1) (.int .u64 0)).set (k * 3 + 2) (.int .u64 0)), (((HI.out.2.set (p := ⟨g1, k * 3, none⟩) (.inr rfl) (.int .u64 7)).set (p := ⟨g1, k * 3 + 1, none⟩) (.inr rfl) (.int .u64 0)).set (p := ⟨g1, k * 3 + 2, none⟩) (.inr rfl) (.int .u64 0))⟩
      case measure => simp [intOf]; omega
    · obtain rfl : n1 = k := by omega
      have lt1 : ¬ (n1 : Int) < (n1 : Int) := by omega
      obtain ⟨wB0, hwB0⟩ : ∃ x, x = wr := ⟨_, rfl⟩
      subst hwB0
      have HC0 := Lib.hid HI.out.2
      clear HI
      have HZ1 := Lib.hid (HZ1'.out.chg HC0.out (by have := HG.out; omega))
      go_wp2
      go_loopw [53] (fun i wr => ∃ k : Nat, k ≤ n2 ∧ i = .int .i64 k ∧ Hid (Sz wr g2 48 (n2 * 3) ∧ Chg (fun q => q = g2) wB0 wr)) (fun i _ => n2 - (intOf i).toNat)
      case atStart => exact ⟨0, by omega, rfl, HZ1.out, Chg.refl _ _⟩
      case round =>
        obtain ⟨k, hk, rfl, HI⟩ := hrel
        by_cases hlt : k < n2
        · have lt1 : (k : Int) < (n2 : Int) := by omega
          have lt0 : (0 : Int) ≤ (k : Int) := by omega
          have e1 : IntKind.i64.wrap ((k : Int) + 1) = (k : Int) + 1 := i64_nat _ (by omega) (by have := HN.out; omega)
          obtain ⟨v0, c0⟩ := HI.out.1.cell (k * 3) (by omega)
          obtain ⟨v1, c1⟩ := HI.out.1.cell (k * 3 + 1) (by omega)
          obtain ⟨v2, c2⟩ := HI.out.1.cell (k * 3 + 2) (by omega)
          have fz := HI.out.1.frozen
          go_wp2
          go_roundw
          case rel => exact ⟨k + 1, by omega, by go_num, (((HI.out.1.set (k * 3) (.int .u64 0)).set (k * 3 + 1) (.int .u64 7)).set (k * 3 + 2) (.int .u64 0)), (((HI.out.2.set (p := ⟨g2, k * 3, none⟩) (.inr rfl) (.int .u64 0)).set (p := ⟨g2, k * 3 + 1, none⟩) (.inr rfl) (.int .u64 7)).set (p := ⟨g2, k * 3 + 2, none⟩) (.inr rfl) (.int .u64 0))⟩
          case measure => simp [intOf]; omega
        · obtain rfl : n2 = k := by omega
          have lt1 : ¬ (n2 : Int) < (n2 : Int) := by omega
          obtain ⟨wB1, hwB1⟩ : ∃ x, x = wr := ⟨_, rfl⟩
          subst hwB1
          have HC1 := Lib.hid HI.out.2
          clear HI
          have HZ2 := Lib.hid (HZ2'.out.chg (HC0.out.mono (S' := fun q => q = g1 ∨ q = g2) fun q _ e => .inl e) (by have := HG.out; omega) |>.chg (HC1.out) (by have := HG.out; omega))
          go_wp2
          go_loopw [63] (fun i wr => ∃ k : Nat, k ≤ n3 ∧ i = .int .i64 k ∧ Hid (Sz wr g3 55 (n3 * 5) ∧ Chg (fun q => q = g3) wB1 wr)) (fun i _ => n3 - (intOf i).toNat)
          case atStart => exact ⟨0, by omega, rfl, HZ2.out, Chg.refl _ _⟩
          case round =>
            obtain ⟨k, hk, rfl, HI⟩ := hrel
            by_cases hlt : k < n3
            · have lt1 : (k : Int) < (n3 : Int) := by omega
              have lt0 : (0 : Int) ≤ (k : Int) := by omega
              have e1 : IntKind.i64.wrap ((k : Int) + 1) = (k : Int) + 1 := i64_nat _ (by omega) (by have := HN.out; omega)
              obtain ⟨v0, c0⟩ := HI.out.1.cell (k * 5) (by omega)
              obtain ⟨v1, c1⟩ := HI.out.1.cell (k * 5 + 1) (by omega)
              obtain ⟨v2, c2⟩ := HI.out.1.cell (k * 5 + 2) (by omega)
              obtain ⟨v3, c3⟩ := HI.out.1.cell (k * 5 + 3) (by omega)
              obtain ⟨v4, c4⟩ := HI.out.1.cell (k * 5 + 4) (by omega)
              have fz := HI.out.1.frozen
              go_wp2
              go_roundw
              case rel => exact ⟨k + 1, by omega, by go_num, (((((HI.out.1.set (k * 5) (.int .u64 0)).set (k * 5 + 1) (.int .u64 0)).set (k * 5 + 2) (.int .u64 0)).set (k * 5 + 3) (.int .u64 0)).set (k * 5 + 4) (.bool false)), (((((HI.out.2.set (p := ⟨g3, k * 5, none⟩) (.inr rfl) (.int .u64 0)).set (p := ⟨g3, k * 5 + 1, none⟩) (.inr rfl) (.int .u64 0)).set (p := ⟨g3, k * 5 + 2, none⟩) (.inr rfl) (.int .u64 0)).set (p := ⟨g3, k * 5 + 3, none⟩) (.inr rfl) (.int .u64 0)).set (p := ⟨g3, k * 5 + 4, none⟩) (.inr rfl) (.bool false))⟩
              case measure => simp [intOf]; omega
            · obtain rfl : n3 = k := by omega
              have lt1 : ¬ (n3 : Int) < (n3 : Int) := by omega
              obtain ⟨wB2, hwB2⟩ : ∃ x, x = wr := ⟨_, rfl⟩
              subst hwB2
              have HC2 := Lib.hid HI.out.2
              clear HI
              have hcA : Chg (fun q => q = g1 ∨ q = g2 ∨ q = g3) w5 wB2 := ((HC0.out.mono fun q _ e => .inl e).trans (HC1.out.mono fun q _ e => .inr (.inl e))).trans (HC2.out.mono fun q _ e => .inr (.inr e))
              have hgs := HG.out
              have HB : Hid (Below w.heap.size w wB2) := HSt.out.2.2.2.trans (hcA.below HSt.out.2.2.2.size fun q e => by omega)
              obtain ⟨u1, u2, u3, u4, u5, u6, u7⟩ := HSt.out.1
              have bl : ∀ (A : Option Addr) (n : Nat) (y : Nat → Nat → Int), AtT w A n y → ∀ ad, A = some ad → 0 < n → ad.block < w.heap.size := fun A n y h ad e hn => by
                obtain ⟨ad', e', h1, _⟩ := h 0 hn
                have := World.block_lt_of_cell? _ _ h1
                rw [e] at e'; cases e'
                rwa [add_block] at this
              have HGv := Lib.hid (gives_any s A1 A2 A3 none p1 p2 p3 0 0 (fun _ => 0) wB2 (H0.out.1.below HB.out H0.out.1.pos)
                (HSt.out.2.1.chg hcA fun q hq e => by have := HO.out q hq; omega)
                (by rw [u1, u4]; exact H0.out.2.1.below HB.out) (by rw [u2, u5]; exact H0.out.2.2.1.below HB.out) (by rw [u3, u6, u7]; exact H0.out.2.2.2.1.below HB.out) (fun i hi => absurd hi (by omega))
                (fun ad e hn hq => by have := HO.out _ hq; rw [u1] at hn; have := bl A1 n1 y1 H0.out.2.1 ad e hn; omega)
                (fun ad e hn hq => by have := HO.out _ hq; rw [u2] at hn; have := bl A2 n2 y2 H0.out.2.2.1 ad e hn; omega)
                (fun ad e hn hq => by
                  have := HO.out _ hq
                  rw [u3] at hn
                  obtain ⟨ad', e', h1, _⟩ := H0.out.2.2.2.1 0 hn
                  have hl := World.block_lt_of_cell? _ _ h1
                  rw [e] at e'; cases e'
                  rw [add_block] at hl
                  omega)
                (fun ad e hn => absurd hn (by omega)) (by rw [u1, u2, u3]; have := HN.out; omega) (fun hq => by have := HO.out _ hq; have := H0.out.1.pos; omega))
              rw [u1, u2, u3] at HGv
              clear hcA hgs u1 u2 u3 u4 u5 u6 u7 bl
              go_wp2_with fail
              refine HGv.out.mono ?_
              rintro e w9 ⟨rfl, hc9⟩
              have H9 := Lib.hid (HB.out.trans (hc9.below HB.out.size fun q hq => by have := HO.out q hq; have := HG.out; omega))
              clear hc9
              go_wp2
              go_ret
              exact ⟨rfl, H9.out⟩
end Go.Proofs.YtgmlmngnedhllaaDoor
