/- CorrDeals' walk. -/
import Derived.Test.YtgmlmngnedhllaaDoorQR3
import Derived.Test.YtgmlmngnedhllaaDoorQR5
namespace Go.Proofs.YtgmlmngnedhllaaDoor
open Go.RowKit

theorem AtI.lt {w : World} {A : Option Addr} {n : Nat} {f : Nat → Int} (h : AtI w A n f) : ∀ ad, A = some ad → 0 < n → ad.block < w.heap.size := fun ad e hn => by
  obtain ⟨ad', e', hc⟩ := h 0 hn
  rw [e] at e'
  cases e'
  exact World.block_lt_of_cell? _ _ hc
set_option maxHeartbeats 8000000 in
set_option maxRecDepth 100000 in
theorem deals_long (A C : Option Addr) (len cp M qc : Nat) (z1 z2 z3 : Int) (w : World) (hh : Handle w) (hb : 2000 < len) :
    Calls Tryd.prog 3 #[.slice A len cp, .agg (nums z1 z2 z3), .slice C M qc] w fun e w' => e = .returned (.bool true) ∧ Below w.heap.size w w' := by
  have hb0 : Below w.heap.size w (w.alloc (.cells (nums z1 z2 z3) 23)) := (Below.refl _ w).alloc (Nat.le_refl _) _
  have H0 := Lib.hid (And.intro hb0 (hh.below hb0 hh.pos))
  have g1 : (2000 : Int) < (len : Int) := by omega
  have g1d : decide ((2000 : Int) < (len : Int)) = true := decide_eq_true g1
  clear hb0 hh hb
  go_enter Tryd.func3, Tryd.ntmps3
  go_wp2_with fail
  refine (awake_any _ H0.out.2).mono ?_
  rintro e w1 ⟨rfl, hb1⟩
  have H1 := Lib.hid (And.intro (H0.out.1.trans (hb1.mono H0.out.1.size)) (H0.out.2.below hb1 H0.out.2.pos))
  clear hb1 H0
  go_wp2_with fail
  refine (awake_any _ H1.out.2).mono ?_
  rintro e w2 ⟨rfl, hb2⟩
  have H2 := Lib.hid (H1.out.1.trans (hb2.mono H1.out.1.size))
  clear hb2 H1
  go_wp2
  go_ret
  exact ⟨rfl, H2.out⟩
set_option maxHeartbeats 8000000 in
set_option maxRecDepth 100000 in
theorem deals_long2 (A C : Option Addr) (len cp M qc : Nat) (z1 z2 z3 : Int) (w : World) (hh : Handle w) (hb : ¬ 2000 < len) (hb2 : 200 < M) :
    Calls Tryd.prog 3 #[.slice A len cp, .agg (nums z1 z2 z3), .slice C M qc] w fun e w' => e = .returned (.bool true) ∧ Below w.heap.size w w' := by
  have hb0 : Below w.heap.size w (w.alloc (.cells (nums z1 z2 z3) 23)) := (Below.refl _ w).alloc (Nat.le_refl _) _
  have H0 := Lib.hid (And.intro hb0 (hh.below hb0 hh.pos))
  have g1 : ¬ (2000 : Int) < (len : Int) := by omega
  have g1d : decide ((2000 : Int) < (len : Int)) = false := decide_eq_false g1
  have g2 : (200 : Int) < (M : Int) := by omega
  have g2d : decide ((200 : Int) < (M : Int)) = true := decide_eq_true g2
  clear hb0 hh hb hb2
  go_enter Tryd.func3, Tryd.ntmps3
  go_wp2_with fail
  refine (awake_any _ H0.out.2).mono ?_
  rintro e w1 ⟨rfl, hb1⟩
  have H1 := Lib.hid (And.intro (H0.out.1.trans (hb1.mono H0.out.1.size)) (H0.out.2.below hb1 H0.out.2.pos))
  clear hb1 H0
  go_wp2_with fail
  refine (awake_any _ H1.out.2).mono ?_
  rintro e w2 ⟨rfl, hb2⟩
  have H2 := Lib.hid (H1.out.1.trans (hb2.mono H1.out.1.size))
  clear hb2 H1
  go_wp2
  go_ret
  exact ⟨rfl, H2.out⟩
set_option maxHeartbeats 8000000 in
set_option maxRecDepth 100000 in
theorem deals_err (A C : Option Addr) (len cp M qc : Nat) (f sc : Nat → Int) (z1 z2 z3 : Int) (w : World) (hh : Handle w) (hA : AtO w A len f) (hn0 : A = none → len = 0 ∧ cp = 0) (hl : len ≤ cp) (hm : cp ≤ maxLen) (hC : AtI w C M sc) (b1 : len ≤ 2000) (b2 : M ≤ 200) (c : Int) (hc : (c = 1 ∧ (Bad z1 ∨ Bad z2 ∨ Bad z3)) ∨ (c = 40 ∧ ¬ Bad z1 ∧ ¬ Bad z2 ∧ ¬ Bad z3 ∧ (len : Int) < 5 * z1 + 5 * z2 + 5 * z3)) :
    Calls Tryd.prog 3 #[.slice A len cp, .agg (nums z1 z2 z3), .slice C M qc] w fun e w' => e = .returned (.bool true) ∧ Below w.heap.size w w' := by
  have hb0 : Below w.heap.size w (w.alloc (.cells (nums z1 z2 z3) 23)) := (Below.refl _ w).alloc (Nat.le_refl _) _
  have H0 := Lib.hid (And.intro hb0 (And.intro (hh.below hb0 hh.pos) (Blk.new w 23 (nums z1 z2 z3))))
  have HL := Lib.hid (And.intro hA (And.intro hC (And.intro hC.lt (And.intro hh.pos (And.intro hn0 (And.intro hl hm))))))
  have g1 : ¬ (2000 : Int) < (len : Int) := by omega
  have g1d : decide ((2000 : Int) < (len : Int)) = false := decide_eq_false g1
  have g2 : ¬ (200 : Int) < (M : Int) := by omega
  have g2d : decide ((200 : Int) < (M : Int)) = false := decide_eq_false g2
  have HH := Lib.hid hh
  have HB1 := Lib.hid (And.intro b1 b2)
  clear hb0 hh hA hn0 hl hm hC b1 b2
  have hc0 : ¬ c = 0 := by rcases hc with ⟨rfl, _⟩ | ⟨rfl, _⟩ <;> decide
  have hc1 : (c == 0) = false := beq_eq_false_iff_ne.2 hc0
  have hc2 : (c != 0) = true := bne_iff_ne.2 hc0
  have HC := Lib.hid (show (c = 1 ∧ (Bad z1 ∨ Bad z2 ∨ Bad z3)) ∨ (c = 40 ∧ ¬ Bad z1 ∧ ¬ Bad z2 ∧ ¬ Bad z3 ∧ (len : Int) - ((0 : Nat) : Int) < 5 * z1 + 5 * z2 + 5 * z3) from hc.imp id fun h => ⟨h.1, h.2.1, h.2.2.1, h.2.2.2.1, by have := h.2.2.2.2; omega⟩)
  have HC2 := Lib.hid hc
  clear hc
  go_enter Tryd.func3, Tryd.ntmps3
  go_wp2_with fail
  refine (awake_any _ H0.out.2.1).mono ?_
  rintro e w1 ⟨rfl, hb1⟩
  have H1 := Lib.hid (And.intro (H0.out.1.trans (hb1.mono H0.out.1.size)) (H0.out.2.2.below hb1))
  clear hb1 H0
  go_wp2_with fail
  refine (load_any (.slice A len cp) len f w1 ⟨A, cp, rfl, HL.out.2.2.2.2.2.1, HL.out.2.2.2.2.2.2, fun e => (HL.out.2.2.2.2.1 e).2, HL.out.1.below H1.out.1⟩ (by have := HB1.out.1; omega)).mono ?_
  rintro e w2 ⟨g, h, hg, hg2, rfl, hT, hb2⟩
  have hlt := H1.out.2.lt
  have H2 := Lib.hid (And.intro (H1.out.1.trans (hb2.mono H1.out.1.size)) (And.intro (H1.out.2.below hb2) (And.intro hT (show w.heap.size < g ∧ w.heap.size < h from ⟨by omega, by omega⟩))))
  clear hb2 H1 hg hg2 hT hlt g1 g1d g2 g2d
  have k0 := H2.out.2.1.cell 0 rfl
  have k1 := H2.out.2.1.cell 1 rfl
  have k2 := H2.out.2.1.cell 2 rfl
  go_wp2_with fail
  clear k0 k1 k2
  refine (deal_err w2 g h len f 0 z1 z2 z3 H2.out.2.2.1 (HH.out.below H2.out.1 HH.out.pos) c HC.out).mono ?_
  rintro e w3 ⟨p, a, rfl, hb3⟩
  obtain ⟨T1, v1, hT1⟩ := chain_iface [(p, a)] c
  have HT1 := Lib.hid hT1
  rw [hT1]
  have hb4 : Below w3.heap.size w3 (w3.alloc (.cells #[.pointer none, .pointer none] 29)) := (Below.refl _ w3).alloc (Nat.le_refl _) _
  have H3 := Lib.hid (And.intro ((H2.out.1.trans (hb3.mono H2.out.1.size)).trans (hb4.mono (H2.out.1.trans (hb3.mono H2.out.1.size)).size)) (And.intro ((H2.out.2.1.below hb3).below hb4) (And.intro ((H2.out.2.2.1.below hb3).below hb4) (Blk.new w3 29 #[.pointer none, .pointer none]))))
  clear hb3 hb4 H2 HC hT1
  have k0 := H3.out.2.1.cell 0 rfl
  have k1 := H3.out.2.1.cell 1 rfl
  have k2 := H3.out.2.1.cell 2 rfl
  go_wp2_with fail
  clear k0 k1 k2
  refine (rdeal_err A len cp z1 z2 z3 _ c HC2.out).mono ?_
  rintro e w5 ⟨rfl, hb5⟩
  have hb6 : Below w5.heap.size w5 (w5.alloc (.cells #[.slice none 0 0, .slice none 0 0, .slice none 0 0, .slice none 0 0, .slice none 0 0, .slice none 0 0] 38)) := (Below.refl _ w5).alloc (Nat.le_refl _) _
  have H5 := Lib.hid (And.intro ((H3.out.1.trans (hb5.mono H3.out.1.size)).trans (hb6.mono (H3.out.1.trans (hb5.mono H3.out.1.size)).size)) (And.intro ((H3.out.2.2.1.below hb5).below hb6) ((H3.out.2.2.2.below hb5).below hb6)))
  clear hb5 hb6 H3 HC2
  have HK := Lib.hid (code_chain [(p, a)] c (w5.alloc (.cells #[.slice none 0 0, .slice none 0 0, .slice none 0 0, .slice none 0 0, .slice none 0 0, .slice none 0 0] 38)) (HH.out.below H5.out.1 HH.out.pos))
  rw [HT1.out] at HK
  go_wp2_with fail
  refine HK.out.mono ?_
  rintro e w6 ⟨rfl, hb6⟩
  have H6 := Lib.hid (And.intro (H5.out.1.trans (hb6.mono H5.out.1.size)) (And.intro (H5.out.2.1.below hb6) (H5.out.2.2.below hb6)))
  clear hb6 H5 HK
  have r0 := H6.out.2.2.cell 0 rfl
  have r1 := H6.out.2.2.cell 1 rfl
  go_wp2_with fail
  refine (used_any w6 g h len f 0 H6.out.2.1).mono ?_
  rintro e w7 ⟨rfl, rfl⟩
  go_wp2
  go_ret
  exact ⟨rfl, H6.out.1⟩
set_option maxHeartbeats 8000000 in
set_option maxRecDepth 100000 in
theorem deals_well (A C : Option Addr) (len cp M qc : Nat) (f sc : Nat → Int) (n1 n2 n3 : Nat) (w : World) (hh : Handle w) (hA : AtO w A len f) (hn0 : A = none → len = 0 ∧ cp = 0) (hl : len ≤ cp) (hm : cp ≤ maxLen) (hC : AtI w C M sc) (b1 : len ≤ 2000) (b2 : M ≤ 200) (hf : ∀ i, 0 ≤ f i) (h1 : n1 ≤ 65536) (h2 : n2 ≤ 65536) (h3 : n3 ≤ 65536) (hn : 5 * (n1 + n2 + n3) ≤ len) :
    Calls Tryd.prog 3 #[.slice A len cp, .agg (nums (n1 : Int) (n2 : Int) (n3 : Int)), .slice C M qc] w fun e w' => e = .returned (.bool true) ∧ Below w.heap.size w w' := by
  have hb0 : Below w.heap.size w (w.alloc (.cells (nums (n1 : Int) (n2 : Int) (n3 : Int)) 23)) := (Below.refl _ w).alloc (Nat.le_refl _) _
  have H0 := Lib.hid (And.intro hb0 (And.intro (hh.below hb0 hh.pos) (Blk.new w 23 (nums (n1 : Int) (n2 : Int) (n3 : Int)))))
  have HL := Lib.hid (And.intro hA (And.intro hC (And.intro hC.lt (And.intro hh.pos (And.intro hn0 (And.intro hl hm))))))
  have g1 : ¬ (2000 : Int) < (len : Int) := by omega
  have g1d : decide ((2000 : Int) < (len : Int)) = false := decide_eq_false g1
  have g2 : ¬ (200 : Int) < (M : Int) := by omega
  have g2d : decide ((200 : Int) < (M : Int)) = false := decide_eq_false g2
  have HH := Lib.hid hh
  have HB1 := Lib.hid (And.intro b1 b2)
  clear hb0 hh hA hn0 hl hm hC b1 b2
  have HFn := Lib.hid hf
  have HN := Lib.hid (And.intro h1 (And.intro h2 (And.intro h3 hn)))
  have e1 : IntKind.i64.wrap ((n1 : Int) + (n2 : Int)) = (n1 : Int) + (n2 : Int) := i64_nat _ (by omega) (by omega)
  have e2 : IntKind.i64.wrap ((n1 : Int) + (n2 : Int) + (n3 : Int)) = (n1 : Int) + (n2 : Int) + (n3 : Int) := i64_nat _ (by omega) (by omega)
  have e3 : IntKind.i64.wrap (5 * ((n1 : Int) + (n2 : Int) + (n3 : Int))) = 5 * ((n1 : Int) + (n2 : Int) + (n3 : Int)) := i64_nat _ (by omega) (by omega)
  have HQ := Lib.hid (show ((5 * (n1 + n2 + n3) : Nat) : Int) = 5 * ((n1 : Int) + (n2 : Int) + (n3 : Int)) by omega)
  clear hf h1 h2 h3 hn
  go_enter Tryd.func3, Tryd.ntmps3
  go_wp2_with fail
  refine (awake_any _ H0.out.2.1).mono ?_
  rintro e w1 ⟨rfl, hb1⟩
  have H1 := Lib.hid (And.intro (H0.out.1.trans (hb1.mono H0.out.1.size)) (H0.out.2.2.below hb1))
  clear hb1 H0
  go_wp2_with fail
  refine (load_any (.slice A len cp) len f w1 ⟨A, cp, rfl, HL.out.2.2.2.2.2.1, HL.out.2.2.2.2.2.2, fun e => (HL.out.2.2.2.2.1 e).2, HL.out.1.below H1.out.1⟩ (by have := HB1.out.1; omega)).mono ?_
  rintro e w2 ⟨g, h, hg, hg2, rfl, hT, hb2⟩
  have hlt := H1.out.2.lt
  have H2 := Lib.hid (And.intro (H1.out.1.trans (hb2.mono H1.out.1.size)) (And.intro (H1.out.2.below hb2) (And.intro hT (show w.heap.size < g ∧ w.heap.size < h from ⟨by omega, by omega⟩))))
  clear hb2 H1 hg hg2 hT hlt g1 g1d g2 g2d
  have k0 := H2.out.2.1.cell 0 rfl
  have k1 := H2.out.2.1.cell 1 rfl
  have k2 := H2.out.2.1.cell 2 rfl
  go_wp2_with fail
  clear k0 k1 k2
  refine (deal_ok w2 g h len f n1 n2 n3 H2.out.2.2.1 HN.out.1 HN.out.2.1 HN.out.2.2.1 HN.out.2.2.2).mono ?_
  rintro e w3 ⟨s0, s1, rfl, hd, hap, hs0, hs1, ht, hch⟩
  have hb4 : Below w3.heap.size w3 (w3.alloc (.cells #[.pointer (some ⟨s0.g, 0, none⟩), .pointer (some ⟨s1.g, 0, none⟩)] 29)) := (Below.refl _ w3).alloc (Nat.le_refl _) _
  have hw3 : Below w.heap.size w w3 := H2.out.1.trans (hch.below H2.out.1.size fun k e => by have := H2.out.2.2.2.1; omega)
  have hB3 := H2.out.2.1.chg hch (fun e => by have := H2.out.2.2.2.1; omega)
  have H3 := Lib.hid (And.intro (hw3.trans (hb4.mono hw3.size)) (And.intro (hB3.below hb4) (And.intro (ht.below hb4) (And.intro (Blk.new w3 29 #[.pointer (some ⟨s0.g, 0, none⟩), .pointer (some ⟨s1.g, 0, none⟩)]) (And.intro (hs0.below hb4) (hs1.below hb4))))))
  have HA0 := Lib.hid (show (∀ q, s0.own q → w.heap.size < q ∧ q < w3.heap.size) ∧ (∀ q, s1.own q → w.heap.size < q ∧ q < w3.heap.size) ∧ (∀ q, s0.own q → s1.own q → False) ∧ w.heap.size < w3.heap.size from ⟨fun q hq => ⟨Nat.lt_of_le_of_lt H2.out.1.size (hap.a0 q hq), hs0.lt hq⟩, fun q hq => ⟨Nat.lt_of_le_of_lt H2.out.1.size (hap.a1 q hq), hs1.lt hq⟩, hap.ap, hB3.lt⟩)
  have HDl := Lib.hid hd
  clear hb4 hw3 hB3 hd hap hs0 hs1 ht hch H2
  have k0 := H3.out.2.1.cell 0 rfl
  have k1 := H3.out.2.1.cell 1 rfl
  have k2 := H3.out.2.1.cell 2 rfl
  go_wp2_with fail
  clear k0 k1 k2
  refine (rdeal_ok A len cp f n1 n2 n3 _ (HL.out.1.below H3.out.1) HFn.out HB1.out.1 HN.out.2.2.2).mono ?_
  rintro e w5 ⟨B0, B1, B2, B3, B4, B5, c0, c1, c2, c3, c4, c5, rfl, ⟨l0, l1, l2, l3, l4, l5⟩, hge, hb5⟩
  have hb6 : Below w5.heap.size w5 (w5.alloc (.cells #[.slice B0 n1 c0, .slice B1 n2 c1, .slice B2 n3 c2, .slice B3 n1 c3, .slice B4 n2 c4, .slice B5 n3 c5] 38)) := (Below.refl _ w5).alloc (Nat.le_refl _) _
  have hsz : (w3.alloc (.cells #[.pointer (some ⟨s0.g, 0, none⟩), .pointer (some ⟨s1.g, 0, none⟩)] 29)).heap.size = w3.heap.size + 1 := by simp
  have hw5 := H3.out.1.trans (hb5.mono H3.out.1.size)
  have hs5 : w3.heap.size < w5.heap.size := by have := hb5.size; omega
  have HE : Hid (Ec w.heap.size w3.heap.size w5.heap.size (n1 : Int) (n2 : Int) (n3 : Int) (.pointer (some ⟨s0.g, 0, none⟩)) (.pointer (some ⟨s1.g, 0, none⟩)) (.slice B0 n1 c0) (.slice B1 n2 c1) (.slice B2 n3 c2) (.slice B3 n1 c3) (.slice B4 n2 c4) (.slice B5 n3 c5) (w5.alloc (.cells #[.slice B0 n1 c0, .slice B1 n2 c1, .slice B2 n3 c2, .slice B3 n1 c3, .slice B4 n2 c4, .slice B5 n3 c5] 38))) := ⟨(H3.out.2.1.below hb5).below hb6, (H3.out.2.2.2.1.below hb5).below hb6, Blk.new w5 _ _⟩
  have HG := Lib.hid (fun (B : Option Addr) (hB : B = B0 ∨ B = B1 ∨ B = B2 ∨ B = B3 ∨ B = B4 ∨ B = B5) (ad : Addr) (e : B = some ad) => (show w3.heap.size < ad.block by have := hge B hB ad e; omega))
  have H5 := Lib.hid (And.intro (hw5.trans (hb6.mono hw5.size)) (And.intro ((H3.out.2.2.1.below hb5).below hb6) (And.intro ((H3.out.2.2.2.2.1.below hb5).below hb6) ((H3.out.2.2.2.2.2.below hb5).below hb6))))
  have HLs := Lib.hid (And.intro (l0.below hb6) (And.intro (l1.below hb6) (And.intro (l2.below hb6) (And.intro (l3.below hb6) (And.intro (l4.below hb6) (l5.below hb6))))))
  have HS5 := Lib.hid hs5
  clear hb5 hb6 hw5 hge hsz H3 l0 l1 l2 l3 l4 l5 hs5
  go_wp2_with fail
  refine (code_nil _).mono ?_
  rintro e w6 ⟨rfl, hw6⟩
  have HW6 := Lib.hid hw6
  clear hw6
  go_wp2
  rw [HW6.out] at HE H5 HLs
  refine wp_region_held_drew (S := Ec w.heap.size w3.heap.size w5.heap.size (n1 : Int) (n2 : Int) (n3 : Int) (.pointer (some ⟨s0.g, 0, none⟩)) (.pointer (some ⟨s1.g, 0, none⟩)) (.slice B0 n1 c0) (.slice B1 n2 c1) (.slice B2 n3 c2) (.slice B3 n1 c3) (.slice B4 n2 c4) (.slice B5 n3 c5)) (by kernel_rfl) HE.out.drew (fun hS => ?_)
  have H7 := Lib.hid (show Below w.heap.size w w6.drew ∧ Tap w6.drew g h len f (5 * (n1 + n2 + n3)) ∧ Stk w6.drew s0 ∧ Stk w6.drew s1 from ⟨H5.out.1.trans ⟨rfl, rfl, rfl, Nat.le_refl _, fun _ _ => rfl⟩, H5.out.2.1.below (Below.refl _ w6).drew, H5.out.2.2.1.below (Below.refl _ w6).drew, H5.out.2.2.2.below (Below.refl _ w6).drew⟩)
  have HL7 := Lib.hid (show AtT w6.drew B0 n1 (T0 f 0) ∧ AtT w6.drew B1 n2 (T0 f (5 * n1)) ∧ AtO3 w6.drew B2 n3 (O0 f (5 * (n1 + n2))) (fun _ => false) ∧ AtT w6.drew B3 n1 (T1 f 0) ∧ AtT w6.drew B4 n2 (Go.Proofs.YtgmlmngnedhllaaDoor.B1 f (5 * n1)) ∧ AtO3 w6.drew B5 n3 (O1 f (5 * (n1 + n2))) (C1 f (5 * (n1 + n2))) from HLs.out)
  clear HE H5 HLs HW6
  generalize w6.drew = w7 at *
  refine htg (i := 0) rfl (.pointer (some ⟨g, 0, none⟩)) (by kernel_rfl) (by kernel_rfl) (by kernel_rfl) (fun _ _ _ h => h) (by rfl) hS (fun w' hw' => by obtain ⟨⟨t0, t1, t2⟩, ⟨x0, x1⟩, v0, v1, v2, v3, v4, v5⟩ := hw'.cells; go_simp) ?_
  try simp only [Act.put, List.setIfInBounds_toArray, List.set_cons_zero, List.set_cons_succ]
  refine htg (i := 2) rfl (.pointer (some ⟨w.heap.size, 0, none⟩)) (by kernel_rfl) (by kernel_rfl) (by kernel_rfl) (fun _ _ _ h => h) (by rfl) hS (fun w' hw' => by obtain ⟨⟨t0, t1, t2⟩, ⟨x0, x1⟩, v0, v1, v2, v3, v4, v5⟩ := hw'.cells; go_simp) ?_
  try simp only [Act.put, List.setIfInBounds_toArray, List.set_cons_zero, List.set_cons_succ]
  refine htg (i := 3) rfl (.int .i64 ((n1 : Int))) (by kernel_rfl) (by kernel_rfl) (by kernel_rfl) (fun _ _ _ h => h) (by rfl) hS (fun w' hw' => by obtain ⟨⟨t0, t1, t2⟩, ⟨x0, x1⟩, v0, v1, v2, v3, v4, v5⟩ := hw'.cells; go_simp) ?_
  try simp only [Act.put, List.setIfInBounds_toArray, List.set_cons_zero, List.set_cons_succ]
  refine htg (i := 4) rfl (.pointer (some ⟨w.heap.size, 1, none⟩)) (by kernel_rfl) (by kernel_rfl) (by kernel_rfl) (fun _ _ _ h => h) (by rfl) hS (fun w' hw' => by obtain ⟨⟨t0, t1, t2⟩, ⟨x0, x1⟩, v0, v1, v2, v3, v4, v5⟩ := hw'.cells; go_simp) ?_
  try simp only [Act.put, List.setIfInBounds_toArray, List.set_cons_zero, List.set_cons_succ]
  refine htg (i := 5) rfl (.int .i64 ((n2 : Int))) (by kernel_rfl) (by kernel_rfl) (by kernel_rfl) (fun _ _ _ h => h) (by rfl) hS (fun w' hw' => by obtain ⟨⟨t0, t1, t2⟩, ⟨x0, x1⟩, v0, v1, v2, v3, v4, v5⟩ := hw'.cells; go_simp) ?_
  try simp only [Act.put, List.setIfInBounds_toArray, List.set_cons_zero, List.set_cons_succ]
  refine htg (i := 6) rfl (.int .i64 ((n1 : Int) + (n2 : Int))) (by kernel_rfl) (by kernel_rfl) (by kernel_rfl) (fun _ _ _ h => h) (by rfl) hS (fun w' hw' => by obtain ⟨⟨t0, t1, t2⟩, ⟨x0, x1⟩, v0, v1, v2, v3, v4, v5⟩ := hw'.cells; go_simp) ?_
  try simp only [Act.put, List.setIfInBounds_toArray, List.set_cons_zero, List.set_cons_succ]
  refine htg (i := 7) rfl (.pointer (some ⟨w.heap.size, 2, none⟩)) (by kernel_rfl) (by kernel_rfl) (by kernel_rfl) (fun _ _ _ h => h) (by rfl) hS (fun w' hw' => by obtain ⟨⟨t0, t1, t2⟩, ⟨x0, x1⟩, v0, v1, v2, v3, v4, v5⟩ := hw'.cells; go_simp) ?_
  try simp only [Act.put, List.setIfInBounds_toArray, List.set_cons_zero, List.set_cons_succ]
  refine htg (i := 8) rfl (.int .i64 ((n3 : Int))) (by kernel_rfl) (by kernel_rfl) (by kernel_rfl) (fun _ _ _ h => h) (by rfl) hS (fun w' hw' => by obtain ⟨⟨t0, t1, t2⟩, ⟨x0, x1⟩, v0, v1, v2, v3, v4, v5⟩ := hw'.cells; go_simp) ?_
  try simp only [Act.put, List.setIfInBounds_toArray, List.set_cons_zero, List.set_cons_succ]
  refine htg (i := 9) rfl (.int .i64 ((n1 : Int) + (n2 : Int) + (n3 : Int))) (by kernel_rfl) (by kernel_rfl) (by kernel_rfl) (fun _ _ _ h => h) (by rfl) hS (fun w' hw' => by obtain ⟨⟨t0, t1, t2⟩, ⟨x0, x1⟩, v0, v1, v2, v3, v4, v5⟩ := hw'.cells; go_simp) ?_
  try simp only [Act.put, List.setIfInBounds_toArray, List.set_cons_zero, List.set_cons_succ]
  refine htg (i := 10) rfl (.int .i64 (5 * ((n1 : Int) + (n2 : Int) + (n3 : Int)))) (by kernel_rfl) (by kernel_rfl) (by kernel_rfl) (fun _ _ _ h => h) (by rfl) hS (fun w' hw' => by obtain ⟨⟨t0, t1, t2⟩, ⟨x0, x1⟩, v0, v1, v2, v3, v4, v5⟩ := hw'.cells; go_simp) ?_
  try simp only [Act.put, List.setIfInBounds_toArray, List.set_cons_zero, List.set_cons_succ]
  refine h1g (i := 1) (by kernel_rfl) rfl (by rfl) (fun K hK => ?_)
  go_simp
  refine (used_any w7 g h len f _ H7.out.2.1).mono ?_
  rintro e w8 ⟨rfl, rfl⟩
  rw [HQ.out]
  refine hK.out _ _ hS ?_
  have hS2 := hS
  clear hK K hS
  try simp only [Act.put, List.setIfInBounds_toArray, List.set_cons_zero, List.set_cons_succ]
  refine htg (i := 11) rfl (.bool true) (by kernel_rfl) (by kernel_rfl) (by kernel_rfl) (fun _ _ _ h => h) (by rfl) hS2 (fun w' hw' => by obtain ⟨⟨t0, t1, t2⟩, ⟨x0, x1⟩, v0, v1, v2, v3, v4, v5⟩ := hw'.cells; go_simp) ?_
  try simp only [Act.put, List.setIfInBounds_toArray, List.set_cons_zero, List.set_cons_succ]
  refine htg (i := 12) rfl (.bool true) (by kernel_rfl) (by kernel_rfl) (by kernel_rfl) (fun _ _ _ h => h) (by rfl) hS2 (fun w' hw' => by obtain ⟨⟨t0, t1, t2⟩, ⟨x0, x1⟩, v0, v1, v2, v3, v4, v5⟩ := hw'.cells; go_simp) ?_
  try simp only [Act.put, List.setIfInBounds_toArray, List.set_cons_zero, List.set_cons_succ]
  refine htg (i := 13) rfl (.pointer (some ⟨w3.heap.size, 0, none⟩)) (by kernel_rfl) (by kernel_rfl) (by kernel_rfl) (fun _ _ _ h => h) (by rfl) hS2 (fun w' hw' => by obtain ⟨⟨t0, t1, t2⟩, ⟨x0, x1⟩, v0, v1, v2, v3, v4, v5⟩ := hw'.cells; go_simp) ?_
  try simp only [Act.put, List.setIfInBounds_toArray, List.set_cons_zero, List.set_cons_succ]
  refine htg (i := 14) rfl (.pointer (some ⟨s0.g, 0, none⟩)) (by kernel_rfl) (by kernel_rfl) (by kernel_rfl) (fun _ _ _ h => h) (by rfl) hS2 (fun w' hw' => by obtain ⟨⟨t0, t1, t2⟩, ⟨x0, x1⟩, v0, v1, v2, v3, v4, v5⟩ := hw'.cells; go_simp) ?_
  try simp only [Act.put, List.setIfInBounds_toArray, List.set_cons_zero, List.set_cons_succ]
  refine htg (i := 15) rfl (.pointer (some ⟨w5.heap.size, 0, none⟩)) (by kernel_rfl) (by kernel_rfl) (by kernel_rfl) (fun _ _ _ h => h) (by rfl) hS2 (fun w' hw' => by obtain ⟨⟨t0, t1, t2⟩, ⟨x0, x1⟩, v0, v1, v2, v3, v4, v5⟩ := hw'.cells; go_simp) ?_
  try simp only [Act.put, List.setIfInBounds_toArray, List.set_cons_zero, List.set_cons_succ]
  refine htg (i := 16) rfl (.agg #[.slice B0 n1 c0, .slice B1 n2 c1, .slice B2 n3 c2]) (by kernel_rfl) (by kernel_rfl) (by kernel_rfl) (fun _ _ _ h => h) (by rfl) hS2 (fun w' hw' => by obtain ⟨⟨t0, t1, t2⟩, ⟨x0, x1⟩, v0, v1, v2, v3, v4, v5⟩ := hw'.cells; go_simp) ?_
  try simp only [Act.put, List.setIfInBounds_toArray, List.set_cons_zero, List.set_cons_succ]
  refine htg (i := 17) rfl (.slice C M qc) (by kernel_rfl) (by kernel_rfl) (by kernel_rfl) (fun _ _ _ h => h) (by rfl) hS2 (fun w' hw' => by obtain ⟨⟨t0, t1, t2⟩, ⟨x0, x1⟩, v0, v1, v2, v3, v4, v5⟩ := hw'.cells; go_simp) ?_
  try simp only [Act.put, List.setIfInBounds_toArray, List.set_cons_zero, List.set_cons_succ]
  have HG0 : Hid (Calls Tryd.prog 14 #[.pointer (some ⟨s0.g, 0, none⟩), .agg #[.slice B0 n1 c0, .slice B1 n2 c1, .slice B2 n3 c2], .slice C M qc] w7 fun e w' => e = .returned (.bool true) ∧ Chg s0.own w7 w') := by
    have hd := HDl.out
    have := gives_any s0 B0 B1 B2 C c0 c1 c2 M qc sc w7 (HH.out.below H7.out.1 HH.out.pos) H7.out.2.2.1 (by rw [hd.a1, hd.y1]; exact HL7.out.1) (by rw [hd.a2, hd.y2]; exact HL7.out.2.1) (by rw [hd.a3, hd.y3, hd.c3]; exact HL7.out.2.2.1) (HL.out.2.1.below H7.out.1)
      (fun ad e _ hq => by have := (HA0.out.1 _ hq).2; have := HG.out B0 (by simp) ad e; omega) (fun ad e _ hq => by have := (HA0.out.1 _ hq).2; have := HG.out B1 (by simp) ad e; omega) (fun ad e _ hq => by have := (HA0.out.1 _ hq).2; have := HG.out B2 (by simp) ad e; omega)
      (fun ad e hM hq => by have := (HA0.out.1 _ hq).1; have := HL.out.2.2.1 ad e hM; omega) (by rw [hd.a1, hd.a2, hd.a3]; have := HN.out; have := HB1.out; omega) (fun hq => by have := (HA0.out.1 _ hq).1; have := HL.out.2.2.2.1; omega)
    rw [hd.a1, hd.a2, hd.a3] at this
    exact this
  refine h1g (i := 18) (by kernel_rfl) rfl (by rfl) (fun K hK => ?_)
  go_simp
  refine HG0.out.mono ?_
  rintro e w9 ⟨rfl, hc9⟩
  have hS3 := hS2.chg hc9 (fun hq => by have := (HA0.out.1 _ hq).1; omega) (fun hq => by have := (HA0.out.1 _ hq).2; omega) (fun hq => by have := (HA0.out.1 _ hq).2; have := HS5.out; omega)
  have HG1 : Hid (Calls Tryd.prog 14 #[.pointer (some ⟨s1.g, 0, none⟩), .agg #[.slice B3 n1 c3, .slice B4 n2 c4, .slice B5 n3 c5], .slice C M qc] w9 fun e w' => e = .returned (.bool true) ∧ Chg s1.own w9 w') := by
    have hd := HDl.out
    have hno : ∀ {B : Option Addr} {n : Nat}, (B = B0 ∨ B = B1 ∨ B = B2 ∨ B = B3 ∨ B = B4 ∨ B = B5) → ∀ ad, B = some ad → 0 < n → ¬ s0.own ad.block := fun hB ad e _ hq => by have := (HA0.out.1 _ hq).2; have := HG.out _ hB ad e; omega
    have := gives_any s1 B3 B4 B5 C c3 c4 c5 M qc sc w9 ((HH.out.below H7.out.1 HH.out.pos).chg hc9 (fun hq => by have := (HA0.out.1 _ hq).1; have := HL.out.2.2.2.1; omega)) (H7.out.2.2.2.chg hc9 (fun q hq hq2 => HA0.out.2.2.1 q hq2 hq)) (by rw [hd.b1, hd.z1]; exact HL7.out.2.2.2.1.chg hc9 (hno (by simp))) (by rw [hd.b2, hd.z2]; exact HL7.out.2.2.2.2.1.chg hc9 (hno (by simp))) (by rw [hd.b3, hd.z3, hd.d3]; exact HL7.out.2.2.2.2.2.chg hc9 (hno (by simp))) ((HL.out.2.1.below H7.out.1).chg hc9 (fun ad e hM hq => by have := (HA0.out.1 _ hq).1; have := HL.out.2.2.1 ad e hM; omega))
      (fun ad e _ hq => by have := (HA0.out.2.1 _ hq).2; have := HG.out B3 (by simp) ad e; omega) (fun ad e _ hq => by have := (HA0.out.2.1 _ hq).2; have := HG.out B4 (by simp) ad e; omega) (fun ad e _ hq => by have := (HA0.out.2.1 _ hq).2; have := HG.out B5 (by simp) ad e; omega)
      (fun ad e hM hq => by have := (HA0.out.2.1 _ hq).1; have := HL.out.2.2.1 ad e hM; omega) (by rw [hd.b1, hd.b2, hd.b3]; have := HN.out; have := HB1.out; omega) (fun hq => by have := (HA0.out.2.1 _ hq).1; have := HL.out.2.2.2.1; omega)
    rw [hd.b1, hd.b2, hd.b3] at this
    exact this
  have H9 := Lib.hid (H7.out.1.trans (hc9.below H7.out.1.size fun k hk => by have := (HA0.out.1 _ hk).1; omega))
  refine hK.out _ _ hS3 ?_
  have hS4 := hS3
  clear hK K hS2 hS3 hc9 HG0 H7 HL7
  try simp only [Act.put, List.setIfInBounds_toArray, List.set_cons_zero, List.set_cons_succ]
  refine htg (i := 19) rfl (.bool true) (by kernel_rfl) (by kernel_rfl) (by kernel_rfl) (fun _ _ _ h => h) (by rfl) hS4 (fun w' hw' => by obtain ⟨⟨t0, t1, t2⟩, ⟨x0, x1⟩, v0, v1, v2, v3, v4, v5⟩ := hw'.cells; go_simp) ?_
  try simp only [Act.put, List.setIfInBounds_toArray, List.set_cons_zero, List.set_cons_succ]
  refine htg (i := 20) rfl (.bool true) (by kernel_rfl) (by kernel_rfl) (by kernel_rfl) (fun _ _ _ h => h) (by rfl) hS4 (fun w' hw' => by obtain ⟨⟨t0, t1, t2⟩, ⟨x0, x1⟩, v0, v1, v2, v3, v4, v5⟩ := hw'.cells; go_simp) ?_
  try simp only [Act.put, List.setIfInBounds_toArray, List.set_cons_zero, List.set_cons_succ]
  refine htg (i := 21) rfl (.pointer (some ⟨w3.heap.size, 1, none⟩)) (by kernel_rfl) (by kernel_rfl) (by kernel_rfl) (fun _ _ _ h => h) (by rfl) hS4 (fun w' hw' => by obtain ⟨⟨t0, t1, t2⟩, ⟨x0, x1⟩, v0, v1, v2, v3, v4, v5⟩ := hw'.cells; go_simp) ?_
  try simp only [Act.put, List.setIfInBounds_toArray, List.set_cons_zero, List.set_cons_succ]
  refine htg (i := 22) rfl (.pointer (some ⟨s1.g, 0, none⟩)) (by kernel_rfl) (by kernel_rfl) (by kernel_rfl) (fun _ _ _ h => h) (by rfl) hS4 (fun w' hw' => by obtain ⟨⟨t0, t1, t2⟩, ⟨x0, x1⟩, v0, v1, v2, v3, v4, v5⟩ := hw'.cells; go_simp) ?_
  try simp only [Act.put, List.setIfInBounds_toArray, List.set_cons_zero, List.set_cons_succ]
  refine htg (i := 23) rfl (.pointer (some ⟨w5.heap.size, 3, none⟩)) (by kernel_rfl) (by kernel_rfl) (by kernel_rfl) (fun _ _ _ h => h) (by rfl) hS4 (fun w' hw' => by obtain ⟨⟨t0, t1, t2⟩, ⟨x0, x1⟩, v0, v1, v2, v3, v4, v5⟩ := hw'.cells; go_simp) ?_
  try simp only [Act.put, List.setIfInBounds_toArray, List.set_cons_zero, List.set_cons_succ]
  refine htg (i := 24) rfl (.agg #[.slice B3 n1 c3, .slice B4 n2 c4, .slice B5 n3 c5]) (by kernel_rfl) (by kernel_rfl) (by kernel_rfl) (fun _ _ _ h => h) (by rfl) hS4 (fun w' hw' => by obtain ⟨⟨t0, t1, t2⟩, ⟨x0, x1⟩, v0, v1, v2, v3, v4, v5⟩ := hw'.cells; go_simp) ?_
  try simp only [Act.put, List.setIfInBounds_toArray, List.set_cons_zero, List.set_cons_succ]
  refine htg (i := 25) rfl (.slice C M qc) (by kernel_rfl) (by kernel_rfl) (by kernel_rfl) (fun _ _ _ h => h) (by rfl) hS4 (fun w' hw' => by obtain ⟨⟨t0, t1, t2⟩, ⟨x0, x1⟩, v0, v1, v2, v3, v4, v5⟩ := hw'.cells; go_simp) ?_
  try simp only [Act.put, List.setIfInBounds_toArray, List.set_cons_zero, List.set_cons_succ]
  refine h1g (i := 26) (by kernel_rfl) rfl (by rfl) (fun K hK => ?_)
  go_simp
  refine HG1.out.mono ?_
  rintro e w10 ⟨rfl, hc10⟩
  have hS5 := hS4.chg hc10 (fun hq => by have := (HA0.out.2.1 _ hq).1; omega) (fun hq => by have := (HA0.out.2.1 _ hq).2; omega) (fun hq => by have := (HA0.out.2.1 _ hq).2; have := HS5.out; omega)
  have H10 := Lib.hid (H9.out.trans (hc10.below H9.out.size fun k hk => by have := (HA0.out.2.1 _ hk).1; omega))
  refine hK.out _ _ hS5 ?_
  have hS6 := hS5
  clear hK K hS4 hS5 hc10 HG1 H9
  try simp only [Act.put, List.setIfInBounds_toArray, List.set_cons_zero, List.set_cons_succ]
  refine htg (i := 27) rfl (.bool true) (by kernel_rfl) (by kernel_rfl) (by kernel_rfl) (fun _ _ _ h => h) (by rfl) hS6 (fun w' hw' => by obtain ⟨⟨t0, t1, t2⟩, ⟨x0, x1⟩, v0, v1, v2, v3, v4, v5⟩ := hw'.cells; go_simp) ?_
  try simp only [Act.put, List.setIfInBounds_toArray, List.set_cons_zero, List.set_cons_succ]
  refine htg (i := 28) rfl (.bool true) (by kernel_rfl) (by kernel_rfl) (by kernel_rfl) (fun _ _ _ h => h) (by rfl) hS6 (fun w' hw' => by obtain ⟨⟨t0, t1, t2⟩, ⟨x0, x1⟩, v0, v1, v2, v3, v4, v5⟩ := hw'.cells; go_simp) ?_
  try simp only [Act.put, List.setIfInBounds_toArray, List.set_cons_zero, List.set_cons_succ]
  refine wpAnyH_done (by kernel_rfl) ?_ _
  clear hS6
  go_wp2
  go_ret
  exact ⟨rfl, H10.out⟩
/-- Whatever came in. -/
theorem deals_walk (A C : Option Addr) (len cp M qc : Nat) (f sc : Nat → Int) (z1 z2 z3 : Int) (w : World) (hh : Handle w) (hA : AtO w A len f) (hf : ∀ i, 0 ≤ f i) (hn0 : A = none → len = 0 ∧ cp = 0) (hl : len ≤ cp) (hm : cp ≤ maxLen) (hC : AtI w C M sc) :
    Calls Tryd.prog 3 #[.slice A len cp, .agg (nums z1 z2 z3), .slice C M qc] w fun e w' => e = .returned (.bool true) ∧ Below w.heap.size w w' := by
  by_cases b1 : 2000 < len
  · exact deals_long A C len cp M qc z1 z2 z3 w hh b1
  · by_cases b2 : 200 < M
    · exact deals_long2 A C len cp M qc z1 z2 z3 w hh b1 b2
    · have b1' : len ≤ 2000 := by omega
      have b2' : M ≤ 200 := by omega
      by_cases hb : Bad z1 ∨ Bad z2 ∨ Bad z3
      · exact deals_err A C len cp M qc f sc z1 z2 z3 w hh hA hn0 hl hm hC b1' b2' 1 (.inl ⟨rfl, hb⟩)
      · have g1 : ¬ Bad z1 := fun h => hb (.inl h)
        have g2 : ¬ Bad z2 := fun h => hb (.inr (.inl h))
        have g3 : ¬ Bad z3 := fun h => hb (.inr (.inr h))
        by_cases hs : (len : Int) < 5 * z1 + 5 * z2 + 5 * z3
        · exact deals_err A C len cp M qc f sc z1 z2 z3 w hh hA hn0 hl hm hC b1' b2' 40 (.inr ⟨rfl, g1, g2, g3, hs⟩)
        · obtain ⟨o1, p1⟩ := ok_of g1
          obtain ⟨o2, p2⟩ := ok_of g2
          obtain ⟨o3, p3⟩ := ok_of g3
          obtain ⟨n1, rfl⟩ := Int.eq_ofNat_of_zero_le o1
          obtain ⟨n2, rfl⟩ := Int.eq_ofNat_of_zero_le o2
          obtain ⟨n3, rfl⟩ := Int.eq_ofNat_of_zero_le o3
          exact deals_well A C len cp M qc f sc n1 n2 n3 w hh hA hn0 hl hm hC b1' b2' hf (by omega) (by omega) (by omega) (by omega)
end Go.Proofs.YtgmlmngnedhllaaDoor
