/- GarbleEvals' walk. -/
import Derived.Test.YtamejhhjfnfalaaDoorZGX2a
namespace Go.Proofs.YtamejhhjfnfalaaDoor
open Go.RowKit
open Rely (upd)

/-- What the law holds behind Own. -/
structure Lx (w0 : World) (N : Int) (g1 n k1 g2 m k2 : Nat) (y : Nat → Nat → Int) (o : Nat → Int) (A1 : Option Addr) (n1 : Nat) (L1 : Nat → Lab) (A2 : Option Addr) (n2 : Nat) (L2 : Nat → Lab) (w : World) : Prop where
  c : Ci w0.heap.size N g1 n k1 g2 m k2 y o w
  h : Handle w
  b : Below w0.heap.size w0 w
  a1 : AtV w A1 (n1 * 2) (lv L1)
  a2 : AtV w A2 (n2 * 2) (lv L2)
theorem Lx.below {w0 w w' : World} {N : Int} {g1 n k1 g2 m k2 : Nat} {y : Nat → Nat → Int} {o : Nat → Int} {A1 : Option Addr} {n1 : Nat} {L1 : Nat → Lab} {A2 : Option Addr} {n2 : Nat} {L2 : Nat → Lab} (h : Lx w0 N g1 n k1 g2 m k2 y o A1 n1 L1 A2 n2 L2 w) (hb : Below w.heap.size w w') : Lx w0 N g1 n k1 g2 m k2 y o A1 n1 L1 A2 n2 L2 w' :=
  ⟨h.c.below hb, h.h.belowS hb, h.b.trans (hb.mono h.b.size), h.a1.below hb, h.a2.below hb⟩
/-- What a call of Eval on copies answers. -/
def EvC (w5 : World) (N : Int) (g1 n k1 g2 m k2 n1 : Nat) (L1 : Nat → Lab) (n2 : Nat) (L2 : Nat → Lab) (R0 R1 : Value → Prop) : Prop :=
  ∀ (wv : World) (g3 q3 g6 q6 : Nat), Below w5.heap.size w5 wv → Row wv w5.heap.size 28 2 (.slice (some ⟨g3, 0, none⟩) n1 q3) n1 (lv L1) → Row wv w5.heap.size 28 2 (.slice (some ⟨g6, 0, none⟩) n2 q6) n2 (lv L2) →
    Calls Tryd.prog 21 #[circV N (some ⟨g1, 0, none⟩) n k1 (some ⟨g2, 0, none⟩) m k2, .slice (some ⟨g3, 0, none⟩) n1 q3, .slice (some ⟨g6, 0, none⟩) n2 q6, .int .u64 5] wv fun e w' => (∃ v0 v1, e = .returned (.tuple #[v0, v1]) ∧ R0 v0 ∧ R1 v1) ∧ Below wv.heap.size wv w'
/-- A refusal. -/
def Nil0 (v : Value) : Prop := v = .slice none 0 0
def Cod (c : Int) (v : Value) : Prop := ∃ p a, v = chain [(p, a)] c
theorem EvBad.evc {code : Int} {w : World} {e : Ending} {w' : World} (h : EvBad code w e w') : (∃ v0 v1, e = .returned (.tuple #[v0, v1]) ∧ Nil0 v0 ∧ Cod code v1) ∧ Below w.heap.size w w' := by
  obtain ⟨⟨p, a, rfl⟩, hb⟩ := h
  exact ⟨⟨_, _, rfl, rfl, p, a, rfl⟩, hb⟩
/-- What is answered. -/
def Ans0 (m : Nat) (v : Value) : Prop := ∃ g, v = .slice (some ⟨g, 0, none⟩) m m
def Nil1 (v : Value) : Prop := v = .nilIface
theorem i64_five : (5 : Int) = ((5 : Nat) : Int) := rfl

set_option maxHeartbeats 16000000 in
set_option maxRecDepth 100000 in
theorem evals_big (N : Int) (Ag : Option Addr) (n cg : Nat) (y : Nat → Nat → Int) (Ao : Option Addr) (m co : Nat) (o : Nat → Int) (A1 : Option Addr) (n1 d1 : Nat) (L1 : Nat → Lab) (A2 : Option Addr) (n2 d2 : Nat) (L2 : Nat → Lab) (w : World) (hh : Handle w) (_ : AtV w Ag (n * 3) (gv y)) (_ : AtV w Ao m (iv o)) (_ : n ≤ cg) (_ : m ≤ co) (_ : Ag = none → n = 0 ∧ cg = 0) (_ : Ao = none → m = 0 ∧ co = 0) (_ : AtV w A1 (n1 * 2) (lv L1)) (_ : A1 = none → n1 = 0 ∧ d1 = 0) (_ : ∀ i, Garb.Wd (L1 i)) (_ : AtV w A2 (n2 * 2) (lv L2)) (_ : A2 = none → n2 = 0 ∧ d2 = 0) (_ : ∀ i, Garb.Wd (L2 i)) (hsm : (decide (n ≤ 60) && decide (N ≤ 200)) = false) :
    Calls Tryd.prog 5 #[circV N Ag n cg Ao m co, .slice A1 n1 d1, .slice A2 n2 d2] w fun e w' => e = .returned (.bool true) ∧ Below w.heap.size w w' := by
  have X0 := Blk.new w 25 #[.int .i64 N, .slice Ag n cg, .slice Ao m co]
  have b0 := (Below.refl w.heap.size w).alloc (Nat.le_refl _) (.cells #[.int .i64 N, .slice Ag n cg, .slice Ao m co] 25)
  have HAw := Lib.hid (awake_any (w.alloc (.cells #[.int .i64 N, .slice Ag n cg, .slice Ao m co] 25)) (hh.belowS b0))
  have H1 := Lib.hid (show Below w.heap.size w (w.alloc (.cells #[.int .i64 N, .slice Ag n cg, .slice Ao m co] 25)) ∧ circB (w.alloc (.cells #[.int .i64 N, .slice Ag n cg, .slice Ao m co] 25)) w.heap.size N Ag n cg Ao m co ∧ Handle (w.alloc (.cells #[.int .i64 N, .slice Ag n cg, .slice Ao m co] 25)) from ⟨b0, X0, hh.belowS b0⟩)
  clear X0 b0 hh
  go_enter Tryd.func5, Tryd.ntmps5
  go_wp2_with fail
  refine HAw.out.mono ?_
  rintro e w2 ⟨rfl, hb2⟩
  have h0 := H1.out
  have H2 := Lib.hid (show Below w.heap.size w w2 ∧ circB w2 w.heap.size N Ag n cg Ao m co ∧ Handle w2 from ⟨h0.1.trans (hb2.mono h0.1.size), h0.2.1.below hb2 h0.2.1.lt, h0.2.2.belowS hb2⟩)
  clear H1 h0 hb2 HAw
  have c0 := H2.out.2.1.cell 0 (v := .int .i64 N) rfl
  have c1 := H2.out.2.1.cell 1 (v := .slice Ag n cg) rfl
  have c2 := H2.out.2.1.cell 2 (v := .slice Ao m co) rfl
  have HSm := Lib.hid (small_any w2 N Ag n cg Ao m co)
  rw [hsm] at HSm
  go_wp2_with fail
  refine HSm.out.mono ?_
  rintro e w3 ⟨rfl, hb3⟩
  have h0 := H2.out
  have HAw := Lib.hid (awake_any w3 (h0.2.2.belowS hb3))
  have HB := Lib.hid (h0.1.trans (hb3.mono h0.1.size))
  clear h0 hb3 H2 c0 c1 c2 hsm
  go_wp2_with fail
  refine HAw.out.mono ?_
  rintro e w4 ⟨rfl, hb4⟩
  have HF := Lib.hid (HB.out.trans (hb4.mono HB.out.size))
  clear hb4
  go_wp2
  go_ret
  exact ⟨rfl, HF.out⟩

set_option maxHeartbeats 16000000 in
set_option maxRecDepth 100000 in
theorem evals_long1 (N : Int) (Ag : Option Addr) (n cg : Nat) (y : Nat → Nat → Int) (Ao : Option Addr) (m co : Nat) (o : Nat → Int) (A1 : Option Addr) (n1 d1 : Nat) (L1 : Nat → Lab) (A2 : Option Addr) (n2 d2 : Nat) (L2 : Nat → Lab) (w : World) (hh : Handle w) (_ : AtV w Ag (n * 3) (gv y)) (_ : AtV w Ao m (iv o)) (_ : n ≤ cg) (_ : m ≤ co) (_ : Ag = none → n = 0 ∧ cg = 0) (_ : Ao = none → m = 0 ∧ co = 0) (_ : AtV w A1 (n1 * 2) (lv L1)) (_ : A1 = none → n1 = 0 ∧ d1 = 0) (_ : ∀ i, Garb.Wd (L1 i)) (_ : AtV w A2 (n2 * 2) (lv L2)) (_ : A2 = none → n2 = 0 ∧ d2 = 0) (_ : ∀ i, Garb.Wd (L2 i)) (hsm : (decide (n ≤ 60) && decide (N ≤ 200)) = true) (hl : 300 < n1) :
    Calls Tryd.prog 5 #[circV N Ag n cg Ao m co, .slice A1 n1 d1, .slice A2 n2 d2] w fun e w' => e = .returned (.bool true) ∧ Below w.heap.size w w' := by
  have X0 := Blk.new w 25 #[.int .i64 N, .slice Ag n cg, .slice Ao m co]
  have b0 := (Below.refl w.heap.size w).alloc (Nat.le_refl _) (.cells #[.int .i64 N, .slice Ag n cg, .slice Ao m co] 25)
  have HAw := Lib.hid (awake_any (w.alloc (.cells #[.int .i64 N, .slice Ag n cg, .slice Ao m co] 25)) (hh.belowS b0))
  have H1 := Lib.hid (show Below w.heap.size w (w.alloc (.cells #[.int .i64 N, .slice Ag n cg, .slice Ao m co] 25)) ∧ circB (w.alloc (.cells #[.int .i64 N, .slice Ag n cg, .slice Ao m co] 25)) w.heap.size N Ag n cg Ao m co ∧ Handle (w.alloc (.cells #[.int .i64 N, .slice Ag n cg, .slice Ao m co] 25)) from ⟨b0, X0, hh.belowS b0⟩)
  clear X0 b0 hh
  go_enter Tryd.func5, Tryd.ntmps5
  go_wp2_with fail
  refine HAw.out.mono ?_
  rintro e w2 ⟨rfl, hb2⟩
  have h0 := H1.out
  have H2 := Lib.hid (show Below w.heap.size w w2 ∧ circB w2 w.heap.size N Ag n cg Ao m co ∧ Handle w2 from ⟨h0.1.trans (hb2.mono h0.1.size), h0.2.1.below hb2 h0.2.1.lt, h0.2.2.belowS hb2⟩)
  clear H1 h0 hb2 HAw
  have c0 := H2.out.2.1.cell 0 (v := .int .i64 N) rfl
  have c1 := H2.out.2.1.cell 1 (v := .slice Ag n cg) rfl
  have c2 := H2.out.2.1.cell 2 (v := .slice Ao m co) rfl
  have HSm := Lib.hid (small_any w2 N Ag n cg Ao m co)
  rw [hsm] at HSm
  have lt1 : (300 : Int) < (n1 : Int) := by omega
  go_wp2_with fail
  refine HSm.out.mono ?_
  rintro e w3 ⟨rfl, hb3⟩
  have h0 := H2.out
  have HAw := Lib.hid (awake_any w3 (h0.2.2.belowS hb3))
  have HB := Lib.hid (h0.1.trans (hb3.mono h0.1.size))
  clear h0 hb3 H2 c0 c1 c2 hsm
  go_wp2_with fail
  refine HAw.out.mono ?_
  rintro e w4 ⟨rfl, hb4⟩
  have HF := Lib.hid (HB.out.trans (hb4.mono HB.out.size))
  clear hb4
  go_wp2
  go_ret
  exact ⟨rfl, HF.out⟩

set_option maxHeartbeats 16000000 in
set_option maxRecDepth 100000 in
theorem evals_long2 (N : Int) (Ag : Option Addr) (n cg : Nat) (y : Nat → Nat → Int) (Ao : Option Addr) (m co : Nat) (o : Nat → Int) (A1 : Option Addr) (n1 d1 : Nat) (L1 : Nat → Lab) (A2 : Option Addr) (n2 d2 : Nat) (L2 : Nat → Lab) (w : World) (hh : Handle w) (_ : AtV w Ag (n * 3) (gv y)) (_ : AtV w Ao m (iv o)) (_ : n ≤ cg) (_ : m ≤ co) (_ : Ag = none → n = 0 ∧ cg = 0) (_ : Ao = none → m = 0 ∧ co = 0) (_ : AtV w A1 (n1 * 2) (lv L1)) (_ : A1 = none → n1 = 0 ∧ d1 = 0) (_ : ∀ i, Garb.Wd (L1 i)) (_ : AtV w A2 (n2 * 2) (lv L2)) (_ : A2 = none → n2 = 0 ∧ d2 = 0) (_ : ∀ i, Garb.Wd (L2 i)) (hsm : (decide (n ≤ 60) && decide (N ≤ 200)) = true) (hl : ¬ 300 < n1) (hl2 : 300 < n2) :
    Calls Tryd.prog 5 #[circV N Ag n cg Ao m co, .slice A1 n1 d1, .slice A2 n2 d2] w fun e w' => e = .returned (.bool true) ∧ Below w.heap.size w w' := by
  have X0 := Blk.new w 25 #[.int .i64 N, .slice Ag n cg, .slice Ao m co]
  have b0 := (Below.refl w.heap.size w).alloc (Nat.le_refl _) (.cells #[.int .i64 N, .slice Ag n cg, .slice Ao m co] 25)
  have HAw := Lib.hid (awake_any (w.alloc (.cells #[.int .i64 N, .slice Ag n cg, .slice Ao m co] 25)) (hh.belowS b0))
  have H1 := Lib.hid (show Below w.heap.size w (w.alloc (.cells #[.int .i64 N, .slice Ag n cg, .slice Ao m co] 25)) ∧ circB (w.alloc (.cells #[.int .i64 N, .slice Ag n cg, .slice Ao m co] 25)) w.heap.size N Ag n cg Ao m co ∧ Handle (w.alloc (.cells #[.int .i64 N, .slice Ag n cg, .slice Ao m co] 25)) from ⟨b0, X0, hh.belowS b0⟩)
  clear X0 b0 hh
  go_enter Tryd.func5, Tryd.ntmps5
  go_wp2_with fail
  refine HAw.out.mono ?_
  rintro e w2 ⟨rfl, hb2⟩
  have h0 := H1.out
  have H2 := Lib.hid (show Below w.heap.size w w2 ∧ circB w2 w.heap.size N Ag n cg Ao m co ∧ Handle w2 from ⟨h0.1.trans (hb2.mono h0.1.size), h0.2.1.below hb2 h0.2.1.lt, h0.2.2.belowS hb2⟩)
  clear H1 h0 hb2 HAw
  have c0 := H2.out.2.1.cell 0 (v := .int .i64 N) rfl
  have c1 := H2.out.2.1.cell 1 (v := .slice Ag n cg) rfl
  have c2 := H2.out.2.1.cell 2 (v := .slice Ao m co) rfl
  have HSm := Lib.hid (small_any w2 N Ag n cg Ao m co)
  rw [hsm] at HSm
  have lt1 : ¬ (300 : Int) < (n1 : Int) := by omega
  have lt2 : (300 : Int) < (n2 : Int) := by omega
  go_wp2_with fail
  refine HSm.out.mono ?_
  rintro e w3 ⟨rfl, hb3⟩
  have h0 := H2.out
  have HAw := Lib.hid (awake_any w3 (h0.2.2.belowS hb3))
  have HB := Lib.hid (h0.1.trans (hb3.mono h0.1.size))
  clear h0 hb3 H2 c0 c1 c2 hsm
  go_wp2_with fail
  refine HAw.out.mono ?_
  rintro e w4 ⟨rfl, hb4⟩
  have HF := Lib.hid (HB.out.trans (hb4.mono HB.out.size))
  clear hb4
  go_wp2
  go_ret
  exact ⟨rfl, HF.out⟩

set_option maxHeartbeats 16000000 in
set_option maxRecDepth 100000 in
theorem evals_bad (N : Int) (Ag : Option Addr) (n cg : Nat) (y : Nat → Nat → Int) (Ao : Option Addr) (m co : Nat) (o : Nat → Int) (A1 : Option Addr) (n1 d1 : Nat) (L1 : Nat → Lab) (A2 : Option Addr) (n2 d2 : Nat) (L2 : Nat → Lab) (w : World) (hh : Handle w) (hg : AtV w Ag (n * 3) (gv y)) (ho : AtV w Ao m (iv o)) (hn : n ≤ cg) (hm : m ≤ co) (zg : Ag = none → n = 0 ∧ cg = 0) (zo : Ao = none → m = 0 ∧ co = 0) (h1 : AtV w A1 (n1 * 2) (lv L1)) (h10 : A1 = none → n1 = 0 ∧ d1 = 0) (_ : ∀ i, Garb.Wd (L1 i)) (h2 : AtV w A2 (n2 * 2) (lv L2)) (h20 : A2 = none → n2 = 0 ∧ d2 = 0) (_ : ∀ i, Garb.Wd (L2 i)) (hsm : (decide (n ≤ 60) && decide (N ≤ 200)) = true) (hl : ¬ 300 < n1) (hl2 : ¬ 300 < n2) (hG : ¬ Circ.Good N n y (min m 80) o) :
    Calls Tryd.prog 5 #[circV N Ag n cg Ao m co, .slice A1 n1 d1, .slice A2 n2 d2] w fun e w' => e = .returned (.bool true) ∧ Below w.heap.size w w' := by
  have X0 := Blk.new w 25 #[.int .i64 N, .slice Ag n cg, .slice Ao m co]
  have b0 := (Below.refl w.heap.size w).alloc (Nat.le_refl _) (.cells #[.int .i64 N, .slice Ag n cg, .slice Ao m co] 25)
  have HAw := Lib.hid (awake_any (w.alloc (.cells #[.int .i64 N, .slice Ag n cg, .slice Ao m co] 25)) (hh.belowS b0))
  have H1 := Lib.hid (show Below w.heap.size w (w.alloc (.cells #[.int .i64 N, .slice Ag n cg, .slice Ao m co] 25)) ∧ circB (w.alloc (.cells #[.int .i64 N, .slice Ag n cg, .slice Ao m co] 25)) w.heap.size N Ag n cg Ao m co ∧ Handle (w.alloc (.cells #[.int .i64 N, .slice Ag n cg, .slice Ao m co] 25)) from ⟨b0, X0, hh.belowS b0⟩)
  have HA := Lib.hid (And.intro hg (And.intro ho (And.intro hn (And.intro hm (And.intro zg zo)))))
  have HV := Lib.hid (And.intro h1 (And.intro h10 (And.intro trivial (And.intro h2 (And.intro h20 trivial)))))
  have HH0 := Lib.hid hh
  clear X0 b0 hh hg ho hn hm zg zo h1 h10 h2 h20
  go_enter Tryd.func5, Tryd.ntmps5
  go_wp2_with fail
  refine HAw.out.mono ?_
  rintro e w2 ⟨rfl, hb2⟩
  have h0 := H1.out
  have H2 := Lib.hid (show Below w.heap.size w w2 ∧ circB w2 w.heap.size N Ag n cg Ao m co ∧ Handle w2 from ⟨h0.1.trans (hb2.mono h0.1.size), h0.2.1.below hb2 h0.2.1.lt, h0.2.2.belowS hb2⟩)
  clear H1 h0 hb2 HAw
  have c0 := H2.out.2.1.cell 0 (v := .int .i64 N) rfl
  have c1 := H2.out.2.1.cell 1 (v := .slice Ag n cg) rfl
  have c2 := H2.out.2.1.cell 2 (v := .slice Ao m co) rfl
  have HSm := Lib.hid (small_any w2 N Ag n cg Ao m co)
  have hnn : n ≤ 60 ∧ N ≤ 200 := by simpa using hsm
  have lt1 : ¬ (300 : Int) < (n1 : Int) := by omega
  have lt2 : ¬ (300 : Int) < (n2 : Int) := by omega
  rw [hsm] at HSm
  have HM0 := Lib.hid hnn
  have HL := Lib.hid (show n1 ≤ 300 ∧ n2 ≤ 300 from ⟨by omega, by omega⟩)
  clear hsm hnn hl hl2
  go_wp2_with fail
  refine HSm.out.mono ?_
  rintro e w3 ⟨rfl, hb3⟩
  have h0 := H2.out
  have H3 := Lib.hid (show Below w.heap.size w w3 ∧ circB w3 w.heap.size N Ag n cg Ao m co ∧ Handle w3 from ⟨h0.1.trans (hb3.mono h0.1.size), h0.2.1.below hb3 h0.2.1.lt, h0.2.2.belowS hb3⟩)
  clear H2 h0 hb3 HSm c0 c1 c2
  have c0 := H3.out.2.1.cell 0 (v := .int .i64 N) rfl
  have c1 := H3.out.2.1.cell 1 (v := .slice Ag n cg) rfl
  have c2 := H3.out.2.1.cell 2 (v := .slice Ao m co) rfl
  have HO := Lib.hid (own_any w3 N Ag n cg y Ao m co o (HA.out.1.below H3.out.1) (HA.out.2.1.below H3.out.1) HA.out.2.2.1 HA.out.2.2.2.1 HA.out.2.2.2.2.1 HA.out.2.2.2.2.2)
  go_wp2_with fail
  refine HO.out.mono ?_
  rintro e w4 ⟨g1, k1, g2, k2, rfl, hg1, hg2, hR1, hR2, hb4⟩
  obtain ⟨L, hL⟩ : ∃ L, min m 80 = L := ⟨_, rfl⟩
  rw [show min n 4200 = n by have := HM0.out; omega] at hR1 ⊢
  rw [hL] at hR2 ⊢
  clear c0 c1 c2 HO
  have h0 := H3.out
  have hsz3 := h0.2.1.lt
  have X4 := h0.2.1.below hb4 h0.2.1.lt
  have x0 := X4.cell 0 (v := .int .i64 N) rfl
  have x1 := X4.cell 1 (v := .slice Ag n cg) rfl
  have x2 := X4.cell 2 (v := .slice Ao m co) rfl
  have xf := X4.frozen
  have hci : Ci w.heap.size N g1 n k1 g2 L k2 y o (((w4.setCell ⟨w.heap.size, 0, none⟩ (.int .i64 N)).setCell ⟨w.heap.size, 1, none⟩ (.slice (some ⟨g1, 0, none⟩) n k1)).setCell ⟨w.heap.size, 2, none⟩ (.slice (some ⟨g2, 0, none⟩) L k2)) := ci_store _ X4 rfl (by omega) (by omega) hR1.atv (by have := hR2.atv; rwa [Nat.mul_one] at this)
  have hcs := (((Chg.refl (fun q => q = w.heap.size) w4).set (p := ⟨w.heap.size, 0, none⟩) (.inr rfl) (.int .i64 N)).set (p := ⟨w.heap.size, 1, none⟩) (.inr rfl) (.slice (some ⟨g1, 0, none⟩) n k1)).set (p := ⟨w.heap.size, 2, none⟩) (.inr rfl) (.slice (some ⟨g2, 0, none⟩) L k2)
  have hbw := (h0.1.trans (hb4.mono h0.1.size)).trans (hcs.below (by have := h0.1.size; have := hb4.size; omega) (fun q e => by omega))
  have H5 := Lib.hid (show Lx w N g1 n k1 g2 L k2 y o A1 n1 L1 A2 n2 L2 _ from ⟨hci, HH0.out.belowS hbw, hbw, HV.out.1.below hbw, HV.out.2.2.2.1.below hbw⟩)
  have HM := Lib.hid (show n ≤ 60 ∧ N ≤ 200 ∧ L ≤ 80 ∧ n1 ≤ 300 ∧ n2 ≤ 300 from ⟨HM0.out.1, HM0.out.2, by omega, HL.out.1, HL.out.2⟩)
  have HG := Lib.hid (show ¬ Circ.Good N n y L o by rw [← hL]; exact hG)
  clear hG
  clear hg1 hg2 hR1 hR2 hb4 hL h0 hsz3 X4 hci hcs hbw H3 HM0 lt1 lt2 HL
  go_upto_region 4 with fail
  clear x0 x1 x2 xf
  generalize (((w4.setCell ⟨w.heap.size, 0, none⟩ (.int .i64 N)).setCell ⟨w.heap.size, 1, none⟩ (.slice (some ⟨g1, 0, none⟩) n k1)).setCell ⟨w.heap.size, 2, none⟩ (.slice (some ⟨g2, 0, none⟩) L k2)) = w5 at *

  have HEv := Lib.hid (show EvC w5 N g1 n k1 g2 L k2 n1 L1 n2 L2 (Nil0) (Cod 90) from fun wv g3 q3 g6 q6 hbv hR3 hR6 => by
    have hx := H5.out.below hbv
    exact (geval_fit 90 wv N (some ⟨g1, 0, none⟩) n k1 (some ⟨g2, 0, none⟩) L k2 (some ⟨g3, 0, none⟩) n1 q3 (some ⟨g6, 0, none⟩) n2 q6 5 (fun w1 hb => by
      have hy := hx.below hb
      exact gfits_bad (cg := k1) (co := k2) hy.h hy.c.g hy.c.o (by have := HM.out; unfold maxLen; omega) (by have := HM.out; unfold maxLen; omega) HG.out)).mono fun e w' h => h.evc)

  refine Rely.region (G := Value) (vs := [fun _ => circV N (some ⟨g1, 0, none⟩) n k1 (some ⟨g2, 0, none⟩) L k2, fun g => g, fun _ => .slice A1 n1 d1, fun g => g, fun g => g, fun _ => .slice A2 n2 d2, fun g => g, fun g => g, fun g => g, fun g => g, fun g => g, fun g => g, fun g => g]) (F := RF w5 n1 L1 n2 L2 (Nil0) (Cod 90)) (by kernel_rfl) (by kernel_rfl) rfl (fun _ => undef) (RF.start w5 w5.drew (drew_below w5) _) ?hsteps ?hend
  case hsteps =>
    refine Rely.Steps.cons (fun Lf γ ev wv hL hE hF hC hCf hO hV => ?_) ?_
    · clear hL
      have v3 : ev (.tmp 3) = .pointer (some ⟨w.heap.size, 0, none⟩) := (hO 3 (by kernel_rfl)).trans rfl
      clear hE hO hV
      have hx := (H5.out.below hF.b).c.c
      have q0 := hx.cell 0 (v := .int .i64 N) rfl
      have q1 := hx.cell 1 (v := .slice (some ⟨g1, 0, none⟩) n k1) rfl
      have q2 := hx.cell 2 (v := .slice (some ⟨g2, 0, none⟩) L k2) rfl
      have HF := Lib.hid hF
      clear hx hF
      exact Rely.Good.value undef (u := circV N (some ⟨g1, 0, none⟩) n k1 (some ⟨g2, 0, none⟩) L k2) (by go_simp) (fun _ _ => rfl) (HF.out.val 0 undef (by decide) (Below.refl _ _) (fun h => by omega) (fun h => by omega) (fun h => by omega))
    refine Rely.Steps.cons (fun Lf γ ev wv hL hE hF hC hCf hO hV => ?_) ?_
    · skip
      clear hE hO hV
      have HF := Lib.hid (RF.bs1 hF hL)
      clear hF
      exact Rely.Good.value (.slice (some ⟨wv.heap.size, 0, none⟩) 0 0) (u := .slice (some ⟨wv.heap.size, 0, none⟩) 0 0) (by go_simp) (fun _ _ => rfl) HF.out
    refine Rely.Steps.cons (fun Lf γ ev wv hL hE hF hC hCf hO hV => ?_) ?_
    · clear hL
      have v1 : ev (.tmp 1) = .slice A1 n1 d1 := (hO 1 (by kernel_rfl)).trans rfl
      clear hE hO hV
      exact Rely.Good.value undef (u := .slice A1 n1 d1) (by go_simp) (fun _ _ => rfl) (hF.val 2 undef (by decide) (Below.refl _ _) (fun h => by omega) (fun h => by omega) (fun h => by omega))
    refine Rely.Steps.cons (fun Lf γ ev wv hL hE hF hC hCf hO hV => ?_) ?_
    · skip
      have hL1 : Lf 1 = true := hE _ (Array.mem_of_getElem? (i := 0) rfl) rfl
      have v31 : ev (.tmp 31) = (γ 1) := hV 1 31 hL1 rfl
      have hL2 : Lf 2 = true := hE _ (Array.mem_of_getElem? (i := 1) rfl) rfl
      have v32 : ev (.tmp 32) = .slice A1 n1 d1 := hV 2 32 hL2 rfl
      clear hE hO hV
      obtain ⟨g, k, w', hr, hF2⟩ := RF.app1 hF hL hL1 A1 d1 H5.out.a1 HV.out.2.1 (by have := HM.out; omega)
      exact Rely.Good.value (.slice (some ⟨g, 0, none⟩) n1 k) (exec_append _ _ _ rfl _ _ _ v31 v32 (hr _)) (fun _ _ => rfl) hF2
    refine Rely.Steps.cons (fun Lf γ ev wv hL hE hF hC hCf hO hV => ?_) ?_
    · skip
      clear hE hO hV
      have HF := Lib.hid (RF.bs2 hF hL)
      clear hF
      exact Rely.Good.value (.slice (some ⟨wv.heap.size, 0, none⟩) 0 0) (u := .slice (some ⟨wv.heap.size, 0, none⟩) 0 0) (by go_simp) (fun _ _ => rfl) HF.out
    refine Rely.Steps.cons (fun Lf γ ev wv hL hE hF hC hCf hO hV => ?_) ?_
    · clear hL
      have v2 : ev (.tmp 2) = .slice A2 n2 d2 := (hO 2 (by kernel_rfl)).trans rfl
      clear hE hO hV
      exact Rely.Good.value undef (u := .slice A2 n2 d2) (by go_simp) (fun _ _ => rfl) (hF.val 5 undef (by decide) (Below.refl _ _) (fun h => by omega) (fun h => by omega) (fun h => by omega))
    refine Rely.Steps.cons (fun Lf γ ev wv hL hE hF hC hCf hO hV => ?_) ?_
    · skip
      have hL4 : Lf 4 = true := hE _ (Array.mem_of_getElem? (i := 0) rfl) rfl
      have v34 : ev (.tmp 34) = (γ 4) := hV 4 34 hL4 rfl
      have hL5 : Lf 5 = true := hE _ (Array.mem_of_getElem? (i := 1) rfl) rfl
      have v35 : ev (.tmp 35) = .slice A2 n2 d2 := hV 5 35 hL5 rfl
      have hL3 : Lf 3 = true := hE _ (Array.mem_of_getElem? (i := 2) rfl) rfl
      clear hE hO hV
      obtain ⟨g, k, w', hr, hF2⟩ := RF.app2 hF hL hL4 hL3 A2 d2 H5.out.a2 HV.out.2.2.2.2.1 (by have := HM.out; omega)
      exact Rely.Good.value (.slice (some ⟨g, 0, none⟩) n2 k) (exec_append _ _ _ rfl _ _ _ v34 v35 (hr _)) (fun _ _ => rfl) hF2
    refine Rely.Steps.cons (fun Lf γ ev wv hL hE hF hC hCf hO hV => ?_) ?_
    · clear hL
      have hL0 : Lf 0 = true := hE _ (Array.mem_of_getElem? (i := 0) rfl) rfl
      have v30 : ev (.tmp 30) = circV N (some ⟨g1, 0, none⟩) n k1 (some ⟨g2, 0, none⟩) L k2 := hV 0 30 hL0 rfl
      have hL3 : Lf 3 = true := hE _ (Array.mem_of_getElem? (i := 1) rfl) rfl
      have v33 : ev (.tmp 33) = (γ 3) := hV 3 33 hL3 rfl
      have hL6 : Lf 6 = true := hE _ (Array.mem_of_getElem? (i := 2) rfl) rfl
      have v36 : ev (.tmp 36) = (γ 6) := hV 6 36 hL6 rfl
      clear hE hO hV
      obtain ⟨g3, q3, e3, hg3, hR3⟩ := hF.l3 hL3
      obtain ⟨g6, q6, e6, hg6, hR6⟩ := hF.l6 hL6
      rw [e3] at v33
      rw [e6] at v36
      have HF := Lib.hid hF
      have HX := Lib.hid (HEv.out wv g3 q3 g6 q6 hF.b hR3 hR6)
      clear hF hR3 hR6 e3 e6
      exact Rely.Good.enter (f := 21) (args := #[circV N (some ⟨g1, 0, none⟩) n k1 (some ⟨g2, 0, none⟩) L k2, .slice (some ⟨g3, 0, none⟩) n1 q3, .slice (some ⟨g6, 0, none⟩) n2 q6, .int .u64 5]) (by go_simp) (HX.out.mono fun e w2 hc => by
        obtain ⟨⟨v0, v1, rfl, h0, h1⟩, hb⟩ := hc
        exact ⟨.tuple #[v0, v1], _, rfl, fun _ _ => rfl, HF.out.val 7 _ (by decide) hb (fun _ => ⟨v0, v1, rfl, h0, h1⟩) (fun h => by omega) (fun h => by omega)⟩)
    refine Rely.Steps.cons (fun Lf γ ev wv hL hE hF hC hCf hO hV => ?_) ?_
    · clear hL
      have hL7 : Lf 7 = true := hE _ (Array.mem_of_getElem? (i := 0) rfl) rfl
      have v37 : ev (.tmp 37) = (γ 7) := hV 7 37 hL7 rfl
      clear hE hO hV
      obtain ⟨v0, v1, e7, h0, h1⟩ := hF.t7 hL7
      rw [e7] at v37
      have HF := Lib.hid (hF.val 8 (.tuple #[v0, v1]) (by decide) (Below.refl _ _) (fun _ => ⟨v0, v1, rfl, h0, h1⟩) (fun h => by omega) (fun h => by omega))
      clear hF e7 h0 h1
      exact Rely.Good.value (.tuple #[v0, v1]) (u := .tuple #[v0, v1]) (by go_simp) (fun _ _ => rfl) HF.out
    refine Rely.Steps.cons (fun Lf γ ev wv hL hE hF hC hCf hO hV => ?_) ?_
    · clear hL
      have hL8 : Lf 8 = true := hE _ (Array.mem_of_getElem? (i := 0) rfl) rfl
      have v29 : ev (.tmp 29) = (γ 8) := hV 8 29 hL8 rfl
      clear hE hO hV
      obtain ⟨v0, v1, e8, h0, h1⟩ := hF.t8 hL8
      rw [e8] at v29
      have HF := Lib.hid (hF.val 9 v0 (by decide) (Below.refl _ _) (fun h => by omega) (fun _ => h0) (fun h => by omega))
      clear hF e8 h0 h1
      exact Rely.Good.value v0 (u := v0) (by go_simp) (fun _ _ => rfl) HF.out
    refine Rely.Steps.cons (fun Lf γ ev wv hL hE hF hC hCf hO hV => ?_) ?_
    · clear hL
      have hL8 : Lf 8 = true := hE _ (Array.mem_of_getElem? (i := 0) rfl) rfl
      have v29 : ev (.tmp 29) = (γ 8) := hV 8 29 hL8 rfl
      clear hE hO hV
      obtain ⟨v0, v1, e8, h0, h1⟩ := hF.t8 hL8
      rw [e8] at v29
      have HF := Lib.hid (hF.val 10 v1 (by decide) (Below.refl _ _) (fun h => by omega) (fun h => by omega) (fun _ => h1))
      clear hF e8 h0 h1
      exact Rely.Good.value v1 (u := v1) (by go_simp) (fun _ _ => rfl) HF.out
    refine Rely.Steps.cons (fun Lf γ ev wv hL hE hF hC hCf hO hV => ?_) ?_
    · clear hL
      have hL9 : Lf 9 = true := hE _ (Array.mem_of_getElem? (i := 0) rfl) rfl
      have v38 : ev (.tmp 38) = (γ 9) := hV 9 38 hL9 rfl
      clear hE hO hV
      have hx := hF.t9 hL9
      have HF := Lib.hid (hF.val 11 (γ 9) (by decide) (Below.refl _ _) (fun h => by omega) (fun _ => hx) (fun h => by omega))
      clear hF hx
      exact Rely.Good.value (γ 9) (u := γ 9) (by go_simp) (fun _ _ => rfl) HF.out
    refine Rely.Steps.cons (fun Lf γ ev wv hL hE hF hC hCf hO hV => ?_) ?_
    · clear hL
      have hL10 : Lf 10 = true := hE _ (Array.mem_of_getElem? (i := 0) rfl) rfl
      have v39 : ev (.tmp 39) = (γ 10) := hV 10 39 hL10 rfl
      clear hE hO hV
      have hx := hF.t10 hL10
      have HF := Lib.hid (hF.val 12 (γ 10) (by decide) (Below.refl _ _) (fun h => by omega) (fun h => by omega) (fun _ => hx))
      clear hF hx
      exact Rely.Good.value (γ 10) (u := γ 10) (by go_simp) (fun _ _ => rfl) HF.out
    exact Rely.Steps.nil
  case hend =>
  intro γ w7 hF
  have e11 : γ 11 = .slice none 0 0 := hF.t11 rfl
  obtain ⟨p, a, e12⟩ : ∃ p a, γ 12 = chain [(p, a)] 90 := hF.t12 rfl
  obtain ⟨T, x, hT⟩ := chain_iface [(p, a)] 90
  have HCd := Lib.hid (fun wx hx => code_chain [(p, a)] 90 wx hx)
  rw [hT] at e12 HCd
  have H7 := Lib.hid (H5.out.below hF.b)
  simp only [Rely.fin, Act.put, List.setIfInBounds_toArray, List.set_cons_zero, List.set_cons_succ]
  rw [e11, e12]
  clear e11 e12 hT hF H5 HEv
  have q0 := H7.out.c.c.cell 0 (v := .int .i64 N) rfl
  have q1 := H7.out.c.c.cell 1 (v := .slice (some ⟨g1, 0, none⟩) n k1) rfl
  have q2 := H7.out.c.c.cell 2 (v := .slice (some ⟨g2, 0, none⟩) L k2) rfl
  have HCk := Lib.hid (check_bad (cg := k1) (co := k2) H7.out.h H7.out.c.g H7.out.c.o (by have := HM.out; unfold maxLen; omega) (by have := HM.out; unfold maxLen; omega) HG.out)
  go_wp2_with fail
  refine HCk.out.mono ?_
  rintro e w8 ⟨⟨p3, a3, rfl⟩, hb8⟩
  obtain ⟨T3, x3, hT⟩ := chain_iface [(p3, a3)] 90
  rw [hT]
  have H8 := Lib.hid (H7.out.below hb8)
  clear q0 q1 q2 hb8 hT HCk H7
  go_wp2_with fail
  refine (HCd.out w8 H8.out.h).mono ?_
  rintro e w9 ⟨rfl, hb9⟩
  have HF := Lib.hid (H8.out.b.trans (hb9.mono H8.out.b.size))
  clear hb9
  go_wp2
  go_ret
  exact ⟨rfl, HF.out⟩

set_option maxHeartbeats 16000000 in
set_option maxRecDepth 100000 in
theorem evals_len (N : Int) (Ag : Option Addr) (n cg : Nat) (y : Nat → Nat → Int) (Ao : Option Addr) (m co : Nat) (o : Nat → Int) (A1 : Option Addr) (n1 d1 : Nat) (L1 : Nat → Lab) (A2 : Option Addr) (n2 d2 : Nat) (L2 : Nat → Lab) (w : World) (hh : Handle w) (hg : AtV w Ag (n * 3) (gv y)) (ho : AtV w Ao m (iv o)) (hn : n ≤ cg) (hm : m ≤ co) (zg : Ag = none → n = 0 ∧ cg = 0) (zo : Ao = none → m = 0 ∧ co = 0) (h1 : AtV w A1 (n1 * 2) (lv L1)) (h10 : A1 = none → n1 = 0 ∧ d1 = 0) (_ : ∀ i, Garb.Wd (L1 i)) (h2 : AtV w A2 (n2 * 2) (lv L2)) (h20 : A2 = none → n2 = 0 ∧ d2 = 0) (_ : ∀ i, Garb.Wd (L2 i)) (hsm : (decide (n ≤ 60) && decide (N ≤ 200)) = true) (hl : ¬ 300 < n1) (hl2 : ¬ 300 < n2) (hG : Circ.Good N n y (min m 80) o) (hK : (n1 : Int) ≠ N) :
    Calls Tryd.prog 5 #[circV N Ag n cg Ao m co, .slice A1 n1 d1, .slice A2 n2 d2] w fun e w' => e = .returned (.bool true) ∧ Below w.heap.size w w' := by
  have X0 := Blk.new w 25 #[.int .i64 N, .slice Ag n cg, .slice Ao m co]
  have b0 := (Below.refl w.heap.size w).alloc (Nat.le_refl _) (.cells #[.int .i64 N, .slice Ag n cg, .slice Ao m co] 25)
  have HAw := Lib.hid (awake_any (w.alloc (.cells #[.int .i64 N, .slice Ag n cg, .slice Ao m co] 25)) (hh.belowS b0))
  have H1 := Lib.hid (show Below w.heap.size w (w.alloc (.cells #[.int .i64 N, .slice Ag n cg, .slice Ao m co] 25)) ∧ circB (w.alloc (.cells #[.int .i64 N, .slice Ag n cg, .slice Ao m co] 25)) w.heap.size N Ag n cg Ao m co ∧ Handle (w.alloc (.cells #[.int .i64 N, .slice Ag n cg, .slice Ao m co] 25)) from ⟨b0, X0, hh.belowS b0⟩)
  have HA := Lib.hid (And.intro hg (And.intro ho (And.intro hn (And.intro hm (And.intro zg zo)))))
  have HV := Lib.hid (And.intro h1 (And.intro h10 (And.intro trivial (And.intro h2 (And.intro h20 trivial)))))
  have HH0 := Lib.hid hh
  clear X0 b0 hh hg ho hn hm zg zo h1 h10 h2 h20
  go_enter Tryd.func5, Tryd.ntmps5
  go_wp2_with fail
  refine HAw.out.mono ?_
  rintro e w2 ⟨rfl, hb2⟩
  have h0 := H1.out
  have H2 := Lib.hid (show Below w.heap.size w w2 ∧ circB w2 w.heap.size N Ag n cg Ao m co ∧ Handle w2 from ⟨h0.1.trans (hb2.mono h0.1.size), h0.2.1.below hb2 h0.2.1.lt, h0.2.2.belowS hb2⟩)
  clear H1 h0 hb2 HAw
  have c0 := H2.out.2.1.cell 0 (v := .int .i64 N) rfl
  have c1 := H2.out.2.1.cell 1 (v := .slice Ag n cg) rfl
  have c2 := H2.out.2.1.cell 2 (v := .slice Ao m co) rfl
  have HSm := Lib.hid (small_any w2 N Ag n cg Ao m co)
  have hnn : n ≤ 60 ∧ N ≤ 200 := by simpa using hsm
  have lt1 : ¬ (300 : Int) < (n1 : Int) := by omega
  have lt2 : ¬ (300 : Int) < (n2 : Int) := by omega
  rw [hsm] at HSm
  have HM0 := Lib.hid hnn
  have HL := Lib.hid (show n1 ≤ 300 ∧ n2 ≤ 300 from ⟨by omega, by omega⟩)
  clear hsm hnn hl hl2
  go_wp2_with fail
  refine HSm.out.mono ?_
  rintro e w3 ⟨rfl, hb3⟩
  have h0 := H2.out
  have H3 := Lib.hid (show Below w.heap.size w w3 ∧ circB w3 w.heap.size N Ag n cg Ao m co ∧ Handle w3 from ⟨h0.1.trans (hb3.mono h0.1.size), h0.2.1.below hb3 h0.2.1.lt, h0.2.2.belowS hb3⟩)
  clear H2 h0 hb3 HSm c0 c1 c2
  have c0 := H3.out.2.1.cell 0 (v := .int .i64 N) rfl
  have c1 := H3.out.2.1.cell 1 (v := .slice Ag n cg) rfl
  have c2 := H3.out.2.1.cell 2 (v := .slice Ao m co) rfl
  have HO := Lib.hid (own_any w3 N Ag n cg y Ao m co o (HA.out.1.below H3.out.1) (HA.out.2.1.below H3.out.1) HA.out.2.2.1 HA.out.2.2.2.1 HA.out.2.2.2.2.1 HA.out.2.2.2.2.2)
  go_wp2_with fail
  refine HO.out.mono ?_
  rintro e w4 ⟨g1, k1, g2, k2, rfl, hg1, hg2, hR1, hR2, hb4⟩
  obtain ⟨L, hL⟩ : ∃ L, min m 80 = L := ⟨_, rfl⟩
  rw [show min n 4200 = n by have := HM0.out; omega] at hR1 ⊢
  rw [hL] at hR2 ⊢
  clear c0 c1 c2 HO
  have h0 := H3.out
  have hsz3 := h0.2.1.lt
  have X4 := h0.2.1.below hb4 h0.2.1.lt
  have x0 := X4.cell 0 (v := .int .i64 N) rfl
  have x1 := X4.cell 1 (v := .slice Ag n cg) rfl
  have x2 := X4.cell 2 (v := .slice Ao m co) rfl
  have xf := X4.frozen
  have hci : Ci w.heap.size N g1 n k1 g2 L k2 y o (((w4.setCell ⟨w.heap.size, 0, none⟩ (.int .i64 N)).setCell ⟨w.heap.size, 1, none⟩ (.slice (some ⟨g1, 0, none⟩) n k1)).setCell ⟨w.heap.size, 2, none⟩ (.slice (some ⟨g2, 0, none⟩) L k2)) := ci_store _ X4 rfl (by omega) (by omega) hR1.atv (by have := hR2.atv; rwa [Nat.mul_one] at this)
  have hcs := (((Chg.refl (fun q => q = w.heap.size) w4).set (p := ⟨w.heap.size, 0, none⟩) (.inr rfl) (.int .i64 N)).set (p := ⟨w.heap.size, 1, none⟩) (.inr rfl) (.slice (some ⟨g1, 0, none⟩) n k1)).set (p := ⟨w.heap.size, 2, none⟩) (.inr rfl) (.slice (some ⟨g2, 0, none⟩) L k2)
  have hbw := (h0.1.trans (hb4.mono h0.1.size)).trans (hcs.below (by have := h0.1.size; have := hb4.size; omega) (fun q e => by omega))
  have H5 := Lib.hid (show Lx w N g1 n k1 g2 L k2 y o A1 n1 L1 A2 n2 L2 _ from ⟨hci, HH0.out.belowS hbw, hbw, HV.out.1.below hbw, HV.out.2.2.2.1.below hbw⟩)
  have HM := Lib.hid (show n ≤ 60 ∧ N ≤ 200 ∧ L ≤ 80 ∧ n1 ≤ 300 ∧ n2 ≤ 300 from ⟨HM0.out.1, HM0.out.2, by omega, HL.out.1, HL.out.2⟩)
  have HG := Lib.hid (show Circ.Good N n y L o by rw [← hL]; exact hG)
  clear hG
  have HK := Lib.hid hK
  clear hK
  clear hg1 hg2 hR1 hR2 hb4 hL h0 hsz3 X4 hci hcs hbw H3 HM0 lt1 lt2 HL
  go_upto_region 4 with fail
  clear x0 x1 x2 xf
  generalize (((w4.setCell ⟨w.heap.size, 0, none⟩ (.int .i64 N)).setCell ⟨w.heap.size, 1, none⟩ (.slice (some ⟨g1, 0, none⟩) n k1)).setCell ⟨w.heap.size, 2, none⟩ (.slice (some ⟨g2, 0, none⟩) L k2)) = w5 at *

  have HEv := Lib.hid (show EvC w5 N g1 n k1 g2 L k2 n1 L1 n2 L2 (Nil0) (Cod 1) from fun wv g3 q3 g6 q6 hbv hR3 hR6 => by
    have hx := H5.out.below hbv
    exact (geval_fit 1 wv N (some ⟨g1, 0, none⟩) n k1 (some ⟨g2, 0, none⟩) L k2 (some ⟨g3, 0, none⟩) n1 q3 (some ⟨g6, 0, none⟩) n2 q6 5 (fun w1 hb => by
      have hy := hx.below hb
      exact gfits_len (cg := k1) (co := k2) hy.h hy.c.g hy.c.o (by have := HM.out; unfold maxLen; omega) (by have := HM.out; unfold maxLen; omega) HG.out HK.out)).mono fun e w' h => h.evc)

  refine Rely.region (G := Value) (vs := [fun _ => circV N (some ⟨g1, 0, none⟩) n k1 (some ⟨g2, 0, none⟩) L k2, fun g => g, fun _ => .slice A1 n1 d1, fun g => g, fun g => g, fun _ => .slice A2 n2 d2, fun g => g, fun g => g, fun g => g, fun g => g, fun g => g, fun g => g, fun g => g]) (F := RF w5 n1 L1 n2 L2 (Nil0) (Cod 1)) (by kernel_rfl) (by kernel_rfl) rfl (fun _ => undef) (RF.start w5 w5.drew (drew_below w5) _) ?hsteps ?hend
  case hsteps =>
    refine Rely.Steps.cons (fun Lf γ ev wv hL hE hF hC hCf hO hV => ?_) ?_
    · clear hL
      have v3 : ev (.tmp 3) = .pointer (some ⟨w.heap.size, 0, none⟩) := (hO 3 (by kernel_rfl)).trans rfl
      clear hE hO hV
      have hx := (H5.out.below hF.b).c.c
      have q0 := hx.cell 0 (v := .int .i64 N) rfl
      have q1 := hx.cell 1 (v := .slice (some ⟨g1, 0, none⟩) n k1) rfl
      have q2 := hx.cell 2 (v := .slice (some ⟨g2, 0, none⟩) L k2) rfl
      have HF := Lib.hid hF
      clear hx hF
      exact Rely.Good.value undef (u := circV N (some ⟨g1, 0, none⟩) n k1 (some ⟨g2, 0, none⟩) L k2) (by go_simp) (fun _ _ => rfl) (HF.out.val 0 undef (by decide) (Below.refl _ _) (fun h => by omega) (fun h => by omega) (fun h => by omega))
    refine Rely.Steps.cons (fun Lf γ ev wv hL hE hF hC hCf hO hV => ?_) ?_
    · skip
      clear hE hO hV
      have HF := Lib.hid (RF.bs1 hF hL)
      clear hF
      exact Rely.Good.value (.slice (some ⟨wv.heap.size, 0, none⟩) 0 0) (u := .slice (some ⟨wv.heap.size, 0, none⟩) 0 0) (by go_simp) (fun _ _ => rfl) HF.out
    refine Rely.Steps.cons (fun Lf γ ev wv hL hE hF hC hCf hO hV => ?_) ?_
    · clear hL
      have v1 : ev (.tmp 1) = .slice A1 n1 d1 := (hO 1 (by kernel_rfl)).trans rfl
      clear hE hO hV
      exact Rely.Good.value undef (u := .slice A1 n1 d1) (by go_simp) (fun _ _ => rfl) (hF.val 2 undef (by decide) (Below.refl _ _) (fun h => by omega) (fun h => by omega) (fun h => by omega))
    refine Rely.Steps.cons (fun Lf γ ev wv hL hE hF hC hCf hO hV => ?_) ?_
    · skip
      have hL1 : Lf 1 = true := hE _ (Array.mem_of_getElem? (i := 0) rfl) rfl
      have v31 : ev (.tmp 31) = (γ 1) := hV 1 31 hL1 rfl
      have hL2 : Lf 2 = true := hE _ (Array.mem_of_getElem? (i := 1) rfl) rfl
      have v32 : ev (.tmp 32) = .slice A1 n1 d1 := hV 2 32 hL2 rfl
      clear hE hO hV
      obtain ⟨g, k, w', hr, hF2⟩ := RF.app1 hF hL hL1 A1 d1 H5.out.a1 HV.out.2.1 (by have := HM.out; omega)
      exact Rely.Good.value (.slice (some ⟨g, 0, none⟩) n1 k) (exec_append _ _ _ rfl _ _ _ v31 v32 (hr _)) (fun _ _ => rfl) hF2
    refine Rely.Steps.cons (fun Lf γ ev wv hL hE hF hC hCf hO hV => ?_) ?_
    · skip
      clear hE hO hV
      have HF := Lib.hid (RF.bs2 hF hL)
      clear hF
      exact Rely.Good.value (.slice (some ⟨wv.heap.size, 0, none⟩) 0 0) (u := .slice (some ⟨wv.heap.size, 0, none⟩) 0 0) (by go_simp) (fun _ _ => rfl) HF.out
    refine Rely.Steps.cons (fun Lf γ ev wv hL hE hF hC hCf hO hV => ?_) ?_
    · clear hL
      have v2 : ev (.tmp 2) = .slice A2 n2 d2 := (hO 2 (by kernel_rfl)).trans rfl
      clear hE hO hV
      exact Rely.Good.value undef (u := .slice A2 n2 d2) (by go_simp) (fun _ _ => rfl) (hF.val 5 undef (by decide) (Below.refl _ _) (fun h => by omega) (fun h => by omega) (fun h => by omega))
    refine Rely.Steps.cons (fun Lf γ ev wv hL hE hF hC hCf hO hV => ?_) ?_
    · skip
      have hL4 : Lf 4 = true := hE _ (Array.mem_of_getElem? (i := 0) rfl) rfl
      have v34 : ev (.tmp 34) = (γ 4) := hV 4 34 hL4 rfl
      have hL5 : Lf 5 = true := hE _ (Array.mem_of_getElem? (i := 1) rfl) rfl
      have v35 : ev (.tmp 35) = .slice A2 n2 d2 := hV 5 35 hL5 rfl
      have hL3 : Lf 3 = true := hE _ (Array.mem_of_getElem? (i := 2) rfl) rfl
      clear hE hO hV
      obtain ⟨g, k, w', hr, hF2⟩ := RF.app2 hF hL hL4 hL3 A2 d2 H5.out.a2 HV.out.2.2.2.2.1 (by have := HM.out; omega)
      exact Rely.Good.value (.slice (some ⟨g, 0, none⟩) n2 k) (exec_append _ _ _ rfl _ _ _ v34 v35 (hr _)) (fun _ _ => rfl) hF2
    refine Rely.Steps.cons (fun Lf γ ev wv hL hE hF hC hCf hO hV => ?_) ?_
    · clear hL
      have hL0 : Lf 0 = true := hE _ (Array.mem_of_getElem? (i := 0) rfl) rfl
      have v30 : ev (.tmp 30) = circV N (some ⟨g1, 0, none⟩) n k1 (some ⟨g2, 0, none⟩) L k2 := hV 0 30 hL0 rfl
      have hL3 : Lf 3 = true := hE _ (Array.mem_of_getElem? (i := 1) rfl) rfl
      have v33 : ev (.tmp 33) = (γ 3) := hV 3 33 hL3 rfl
      have hL6 : Lf 6 = true := hE _ (Array.mem_of_getElem? (i := 2) rfl) rfl
      have v36 : ev (.tmp 36) = (γ 6) := hV 6 36 hL6 rfl
      clear hE hO hV
      obtain ⟨g3, q3, e3, hg3, hR3⟩ := hF.l3 hL3
      obtain ⟨g6, q6, e6, hg6, hR6⟩ := hF.l6 hL6
      rw [e3] at v33
      rw [e6] at v36
      have HF := Lib.hid hF
      have HX := Lib.hid (HEv.out wv g3 q3 g6 q6 hF.b hR3 hR6)
      clear hF hR3 hR6 e3 e6
      exact Rely.Good.enter (f := 21) (args := #[circV N (some ⟨g1, 0, none⟩) n k1 (some ⟨g2, 0, none⟩) L k2, .slice (some ⟨g3, 0, none⟩) n1 q3, .slice (some ⟨g6, 0, none⟩) n2 q6, .int .u64 5]) (by go_simp) (HX.out.mono fun e w2 hc => by
        obtain ⟨⟨v0, v1, rfl, h0, h1⟩, hb⟩ := hc
        exact ⟨.tuple #[v0, v1], _, rfl, fun _ _ => rfl, HF.out.val 7 _ (by decide) hb (fun _ => ⟨v0, v1, rfl, h0, h1⟩) (fun h => by omega) (fun h => by omega)⟩)
    refine Rely.Steps.cons (fun Lf γ ev wv hL hE hF hC hCf hO hV => ?_) ?_
    · clear hL
      have hL7 : Lf 7 = true := hE _ (Array.mem_of_getElem? (i := 0) rfl) rfl
      have v37 : ev (.tmp 37) = (γ 7) := hV 7 37 hL7 rfl
      clear hE hO hV
      obtain ⟨v0, v1, e7, h0, h1⟩ := hF.t7 hL7
      rw [e7] at v37
      have HF := Lib.hid (hF.val 8 (.tuple #[v0, v1]) (by decide) (Below.refl _ _) (fun _ => ⟨v0, v1, rfl, h0, h1⟩) (fun h => by omega) (fun h => by omega))
      clear hF e7 h0 h1
      exact Rely.Good.value (.tuple #[v0, v1]) (u := .tuple #[v0, v1]) (by go_simp) (fun _ _ => rfl) HF.out
    refine Rely.Steps.cons (fun Lf γ ev wv hL hE hF hC hCf hO hV => ?_) ?_
    · clear hL
      have hL8 : Lf 8 = true := hE _ (Array.mem_of_getElem? (i := 0) rfl) rfl
      have v29 : ev (.tmp 29) = (γ 8) := hV 8 29 hL8 rfl
      clear hE hO hV
      obtain ⟨v0, v1, e8, h0, h1⟩ := hF.t8 hL8
      rw [e8] at v29
      have HF := Lib.hid (hF.val 9 v0 (by decide) (Below.refl _ _) (fun h => by omega) (fun _ => h0) (fun h => by omega))
      clear hF e8 h0 h1
      exact Rely.Good.value v0 (u := v0) (by go_simp) (fun _ _ => rfl) HF.out
    refine Rely.Steps.cons (fun Lf γ ev wv hL hE hF hC hCf hO hV => ?_) ?_
    · clear hL
      have hL8 : Lf 8 = true := hE _ (Array.mem_of_getElem? (i := 0) rfl) rfl
      have v29 : ev (.tmp 29) = (γ 8) := hV 8 29 hL8 rfl
      clear hE hO hV
      obtain ⟨v0, v1, e8, h0, h1⟩ := hF.t8 hL8
      rw [e8] at v29
      have HF := Lib.hid (hF.val 10 v1 (by decide) (Below.refl _ _) (fun h => by omega) (fun h => by omega) (fun _ => h1))
      clear hF e8 h0 h1
      exact Rely.Good.value v1 (u := v1) (by go_simp) (fun _ _ => rfl) HF.out
    refine Rely.Steps.cons (fun Lf γ ev wv hL hE hF hC hCf hO hV => ?_) ?_
    · clear hL
      have hL9 : Lf 9 = true := hE _ (Array.mem_of_getElem? (i := 0) rfl) rfl
      have v38 : ev (.tmp 38) = (γ 9) := hV 9 38 hL9 rfl
      clear hE hO hV
      have hx := hF.t9 hL9
      have HF := Lib.hid (hF.val 11 (γ 9) (by decide) (Below.refl _ _) (fun h => by omega) (fun _ => hx) (fun h => by omega))
      clear hF hx
      exact Rely.Good.value (γ 9) (u := γ 9) (by go_simp) (fun _ _ => rfl) HF.out
    refine Rely.Steps.cons (fun Lf γ ev wv hL hE hF hC hCf hO hV => ?_) ?_
    · clear hL
      have hL10 : Lf 10 = true := hE _ (Array.mem_of_getElem? (i := 0) rfl) rfl
      have v39 : ev (.tmp 39) = (γ 10) := hV 10 39 hL10 rfl
      clear hE hO hV
      have hx := hF.t10 hL10
      have HF := Lib.hid (hF.val 12 (γ 10) (by decide) (Below.refl _ _) (fun h => by omega) (fun h => by omega) (fun _ => hx))
      clear hF hx
      exact Rely.Good.value (γ 10) (u := γ 10) (by go_simp) (fun _ _ => rfl) HF.out
    exact Rely.Steps.nil
  case hend =>
  intro γ w7 hF
  have e11 : γ 11 = .slice none 0 0 := hF.t11 rfl
  obtain ⟨p, a, e12⟩ : ∃ p a, γ 12 = chain [(p, a)] 1 := hF.t12 rfl
  obtain ⟨T, x, hT⟩ := chain_iface [(p, a)] 1
  have HCd := Lib.hid (fun wx hx => code_chain [(p, a)] 1 wx hx)
  rw [hT] at e12 HCd
  have H7 := Lib.hid (H5.out.below hF.b)
  simp only [Rely.fin, Act.put, List.setIfInBounds_toArray, List.set_cons_zero, List.set_cons_succ]
  rw [e11, e12]
  clear e11 e12 hT hF H5 HEv
  have q0 := H7.out.c.c.cell 0 (v := .int .i64 N) rfl
  have q1 := H7.out.c.c.cell 1 (v := .slice (some ⟨g1, 0, none⟩) n k1) rfl
  have q2 := H7.out.c.c.cell 2 (v := .slice (some ⟨g2, 0, none⟩) L k2) rfl
  have HCk := Lib.hid (check_ok (cg := k1) (co := k2) H7.out.h H7.out.c.g H7.out.c.o (by have := HM.out; unfold maxLen; omega) (by have := HM.out; unfold maxLen; omega) HG.out)
  go_wp2_with fail
  refine HCk.out.mono ?_
  rintro e w8 ⟨rfl, hb8⟩
  have H8 := Lib.hid (H7.out.below hb8)
  clear q0 q1 q2 hb8 HCk H7
  have q0 := H8.out.c.c.cell 0 (v := .int .i64 N) rfl
  have q1 := H8.out.c.c.cell 1 (v := .slice (some ⟨g1, 0, none⟩) n k1) rfl
  have q2 := H8.out.c.c.cell 2 (v := .slice (some ⟨g2, 0, none⟩) L k2) rfl
  have kk : ((n1 : Int) != N) = true := by rw [bne_iff_ne]; exact HK.out
  go_wp2_with fail
  refine (HCd.out w8 H8.out.h).mono ?_
  rintro e w9 ⟨rfl, hb9⟩
  have HF := Lib.hid (H8.out.b.trans (hb9.mono H8.out.b.size))
  clear hb9
  go_wp2
  go_ret
  exact ⟨rfl, HF.out⟩

set_option maxHeartbeats 16000000 in
set_option maxRecDepth 100000 in
theorem evals_tabs (N : Int) (Ag : Option Addr) (n cg : Nat) (y : Nat → Nat → Int) (Ao : Option Addr) (m co : Nat) (o : Nat → Int) (A1 : Option Addr) (n1 d1 : Nat) (L1 : Nat → Lab) (A2 : Option Addr) (n2 d2 : Nat) (L2 : Nat → Lab) (w : World) (hh : Handle w) (hg : AtV w Ag (n * 3) (gv y)) (ho : AtV w Ao m (iv o)) (hn : n ≤ cg) (hm : m ≤ co) (zg : Ag = none → n = 0 ∧ cg = 0) (zo : Ao = none → m = 0 ∧ co = 0) (h1 : AtV w A1 (n1 * 2) (lv L1)) (h10 : A1 = none → n1 = 0 ∧ d1 = 0) (_ : ∀ i, Garb.Wd (L1 i)) (h2 : AtV w A2 (n2 * 2) (lv L2)) (h20 : A2 = none → n2 = 0 ∧ d2 = 0) (_ : ∀ i, Garb.Wd (L2 i)) (hsm : (decide (n ≤ 60) && decide (N ≤ 200)) = true) (hl : ¬ 300 < n1) (hl2 : ¬ 300 < n2) (hG : Circ.Good N n y (min m 80) o) (hK : (n1 : Int) = N) (hT2 : n2 ≠ 2 * Circ.ands y n) :
    Calls Tryd.prog 5 #[circV N Ag n cg Ao m co, .slice A1 n1 d1, .slice A2 n2 d2] w fun e w' => e = .returned (.bool true) ∧ Below w.heap.size w w' := by
  have HK := Lib.hid (And.intro hK hT2)
  clear hK hT2
  have X0 := Blk.new w 25 #[.int .i64 N, .slice Ag n cg, .slice Ao m co]
  have b0 := (Below.refl w.heap.size w).alloc (Nat.le_refl _) (.cells #[.int .i64 N, .slice Ag n cg, .slice Ao m co] 25)
  have HAw := Lib.hid (awake_any (w.alloc (.cells #[.int .i64 N, .slice Ag n cg, .slice Ao m co] 25)) (hh.belowS b0))
  have H1 := Lib.hid (show Below w.heap.size w (w.alloc (.cells #[.int .i64 N, .slice Ag n cg, .slice Ao m co] 25)) ∧ circB (w.alloc (.cells #[.int .i64 N, .slice Ag n cg, .slice Ao m co] 25)) w.heap.size N Ag n cg Ao m co ∧ Handle (w.alloc (.cells #[.int .i64 N, .slice Ag n cg, .slice Ao m co] 25)) from ⟨b0, X0, hh.belowS b0⟩)
  have HA := Lib.hid (And.intro hg (And.intro ho (And.intro hn (And.intro hm (And.intro zg zo)))))
  have HV := Lib.hid (And.intro h1 (And.intro h10 (And.intro trivial (And.intro h2 (And.intro h20 trivial)))))
  have HH0 := Lib.hid hh
  clear X0 b0 hh hg ho hn hm zg zo h1 h10 h2 h20
  go_enter Tryd.func5, Tryd.ntmps5
  go_wp2_with fail
  refine HAw.out.mono ?_
  rintro e w2 ⟨rfl, hb2⟩
  have h0 := H1.out
  have H2 := Lib.hid (show Below w.heap.size w w2 ∧ circB w2 w.heap.size N Ag n cg Ao m co ∧ Handle w2 from ⟨h0.1.trans (hb2.mono h0.1.size), h0.2.1.below hb2 h0.2.1.lt, h0.2.2.belowS hb2⟩)
  clear H1 h0 hb2 HAw
  have c0 := H2.out.2.1.cell 0 (v := .int .i64 N) rfl
  have c1 := H2.out.2.1.cell 1 (v := .slice Ag n cg) rfl
  have c2 := H2.out.2.1.cell 2 (v := .slice Ao m co) rfl
  have HSm := Lib.hid (small_any w2 N Ag n cg Ao m co)
  have hnn : n ≤ 60 ∧ N ≤ 200 := by simpa using hsm
  have lt1 : ¬ (300 : Int) < (n1 : Int) := by omega
  have lt2 : ¬ (300 : Int) < (n2 : Int) := by omega
  rw [hsm] at HSm
  have HM0 := Lib.hid hnn
  have HL := Lib.hid (show n1 ≤ 300 ∧ n2 ≤ 300 from ⟨by omega, by omega⟩)
  clear hsm hnn hl hl2
  go_wp2_with fail
  refine HSm.out.mono ?_
  rintro e w3 ⟨rfl, hb3⟩
  have h0 := H2.out
  have H3 := Lib.hid (show Below w.heap.size w w3 ∧ circB w3 w.heap.size N Ag n cg Ao m co ∧ Handle w3 from ⟨h0.1.trans (hb3.mono h0.1.size), h0.2.1.below hb3 h0.2.1.lt, h0.2.2.belowS hb3⟩)
  clear H2 h0 hb3 HSm c0 c1 c2
  have c0 := H3.out.2.1.cell 0 (v := .int .i64 N) rfl
  have c1 := H3.out.2.1.cell 1 (v := .slice Ag n cg) rfl
  have c2 := H3.out.2.1.cell 2 (v := .slice Ao m co) rfl
  have HO := Lib.hid (own_any w3 N Ag n cg y Ao m co o (HA.out.1.below H3.out.1) (HA.out.2.1.below H3.out.1) HA.out.2.2.1 HA.out.2.2.2.1 HA.out.2.2.2.2.1 HA.out.2.2.2.2.2)
  go_wp2_with fail
  refine HO.out.mono ?_
  rintro e w4 ⟨g1, k1, g2, k2, rfl, hg1, hg2, hR1, hR2, hb4⟩
  obtain ⟨L, hL⟩ : ∃ L, min m 80 = L := ⟨_, rfl⟩
  rw [show min n 4200 = n by have := HM0.out; omega] at hR1 ⊢
  rw [hL] at hR2 ⊢
  clear c0 c1 c2 HO
  have h0 := H3.out
  have hsz3 := h0.2.1.lt
  have X4 := h0.2.1.below hb4 h0.2.1.lt
  have x0 := X4.cell 0 (v := .int .i64 N) rfl
  have x1 := X4.cell 1 (v := .slice Ag n cg) rfl
  have x2 := X4.cell 2 (v := .slice Ao m co) rfl
  have xf := X4.frozen
  have hci : Ci w.heap.size N g1 n k1 g2 L k2 y o (((w4.setCell ⟨w.heap.size, 0, none⟩ (.int .i64 N)).setCell ⟨w.heap.size, 1, none⟩ (.slice (some ⟨g1, 0, none⟩) n k1)).setCell ⟨w.heap.size, 2, none⟩ (.slice (some ⟨g2, 0, none⟩) L k2)) := ci_store _ X4 rfl (by omega) (by omega) hR1.atv (by have := hR2.atv; rwa [Nat.mul_one] at this)
  have hcs := (((Chg.refl (fun q => q = w.heap.size) w4).set (p := ⟨w.heap.size, 0, none⟩) (.inr rfl) (.int .i64 N)).set (p := ⟨w.heap.size, 1, none⟩) (.inr rfl) (.slice (some ⟨g1, 0, none⟩) n k1)).set (p := ⟨w.heap.size, 2, none⟩) (.inr rfl) (.slice (some ⟨g2, 0, none⟩) L k2)
  have hbw := (h0.1.trans (hb4.mono h0.1.size)).trans (hcs.below (by have := h0.1.size; have := hb4.size; omega) (fun q e => by omega))
  have H5 := Lib.hid (show Lx w N g1 n k1 g2 L k2 y o A1 n1 L1 A2 n2 L2 _ from ⟨hci, HH0.out.belowS hbw, hbw, HV.out.1.below hbw, HV.out.2.2.2.1.below hbw⟩)
  have HM := Lib.hid (show n ≤ 60 ∧ N ≤ 200 ∧ L ≤ 80 ∧ n1 ≤ 300 ∧ n2 ≤ 300 from ⟨HM0.out.1, HM0.out.2, by omega, HL.out.1, HL.out.2⟩)
  have HG := Lib.hid (show Circ.Good N n y L o by rw [← hL]; exact hG)
  clear hG
  clear hg1 hg2 hR1 hR2 hb4 hL h0 hsz3 X4 hci hcs hbw H3 HM0 lt1 lt2 HL
  go_upto_region 4 with fail
  clear x0 x1 x2 xf
  generalize (((w4.setCell ⟨w.heap.size, 0, none⟩ (.int .i64 N)).setCell ⟨w.heap.size, 1, none⟩ (.slice (some ⟨g1, 0, none⟩) n k1)).setCell ⟨w.heap.size, 2, none⟩ (.slice (some ⟨g2, 0, none⟩) L k2)) = w5 at *

  have HEv := Lib.hid (show EvC w5 N g1 n k1 g2 L k2 n1 L1 n2 L2 (Nil0) (Cod 100) from fun wv g3 q3 g6 q6 hbv hR3 hR6 => by
    have hx := H5.out.below hbv
    exact (geval_tabs wv N (some ⟨g1, 0, none⟩) n k1 y (some ⟨g2, 0, none⟩) L k2 o (some ⟨g3, 0, none⟩) n1 q3 (some ⟨g6, 0, none⟩) n2 q6 5 hx.h hx.c.g hx.c.o (by have := HM.out; omega) (by have := HM.out; unfold maxLen; omega) HG.out HK.out.1 HK.out.2).mono fun e w' h => h.evc)

  refine Rely.region (G := Value) (vs := [fun _ => circV N (some ⟨g1, 0, none⟩) n k1 (some ⟨g2, 0, none⟩) L k2, fun g => g, fun _ => .slice A1 n1 d1, fun g => g, fun g => g, fun _ => .slice A2 n2 d2, fun g => g, fun g => g, fun g => g, fun g => g, fun g => g, fun g => g, fun g => g]) (F := RF w5 n1 L1 n2 L2 (Nil0) (Cod 100)) (by kernel_rfl) (by kernel_rfl) rfl (fun _ => undef) (RF.start w5 w5.drew (drew_below w5) _) ?hsteps ?hend
  case hsteps =>
    refine Rely.Steps.cons (fun Lf γ ev wv hL hE hF hC hCf hO hV => ?_) ?_
    · clear hL
      have v3 : ev (.tmp 3) = .pointer (some ⟨w.heap.size, 0, none⟩) := (hO 3 (by kernel_rfl)).trans rfl
      clear hE hO hV
      have hx := (H5.out.below hF.b).c.c
      have q0 := hx.cell 0 (v := .int .i64 N) rfl
      have q1 := hx.cell 1 (v := .slice (some ⟨g1, 0, none⟩) n k1) rfl
      have q2 := hx.cell 2 (v := .slice (some ⟨g2, 0, none⟩) L k2) rfl
      have HF := Lib.hid hF
      clear hx hF
      exact Rely.Good.value undef (u := circV N (some ⟨g1, 0, none⟩) n k1 (some ⟨g2, 0, none⟩) L k2) (by go_simp) (fun _ _ => rfl) (HF.out.val 0 undef (by decide) (Below.refl _ _) (fun h => by omega) (fun h => by omega) (fun h => by omega))
    refine Rely.Steps.cons (fun Lf γ ev wv hL hE hF hC hCf hO hV => ?_) ?_
    · skip
      clear hE hO hV
      have HF := Lib.hid (RF.bs1 hF hL)
      clear hF
      exact Rely.Good.value (.slice (some ⟨wv.heap.size, 0, none⟩) 0 0) (u := .slice (some ⟨wv.heap.size, 0, none⟩) 0 0) (by go_simp) (fun _ _ => rfl) HF.out
    refine Rely.Steps.cons (fun Lf γ ev wv hL hE hF hC hCf hO hV => ?_) ?_
    · clear hL
      have v1 : ev (.tmp 1) = .slice A1 n1 d1 := (hO 1 (by kernel_rfl)).trans rfl
      clear hE hO hV
      exact Rely.Good.value undef (u := .slice A1 n1 d1) (by go_simp) (fun _ _ => rfl) (hF.val 2 undef (by decide) (Below.refl _ _) (fun h => by omega) (fun h => by omega) (fun h => by omega))
    refine Rely.Steps.cons (fun Lf γ ev wv hL hE hF hC hCf hO hV => ?_) ?_
    · skip
      have hL1 : Lf 1 = true := hE _ (Array.mem_of_getElem? (i := 0) rfl) rfl
      have v31 : ev (.tmp 31) = (γ 1) := hV 1 31 hL1 rfl
      have hL2 : Lf 2 = true := hE _ (Array.mem_of_getElem? (i := 1) rfl) rfl
      have v32 : ev (.tmp 32) = .slice A1 n1 d1 := hV 2 32 hL2 rfl
      clear hE hO hV
      obtain ⟨g, k, w', hr, hF2⟩ := RF.app1 hF hL hL1 A1 d1 H5.out.a1 HV.out.2.1 (by have := HM.out; omega)
      exact Rely.Good.value (.slice (some ⟨g, 0, none⟩) n1 k) (exec_append _ _ _ rfl _ _ _ v31 v32 (hr _)) (fun _ _ => rfl) hF2
    refine Rely.Steps.cons (fun Lf γ ev wv hL hE hF hC hCf hO hV => ?_) ?_
    · skip
      clear hE hO hV
      have HF := Lib.hid (RF.bs2 hF hL)
      clear hF
      exact Rely.Good.value (.slice (some ⟨wv.heap.size, 0, none⟩) 0 0) (u := .slice (some ⟨wv.heap.size, 0, none⟩) 0 0) (by go_simp) (fun _ _ => rfl) HF.out
    refine Rely.Steps.cons (fun Lf γ ev wv hL hE hF hC hCf hO hV => ?_) ?_
    · clear hL
      have v2 : ev (.tmp 2) = .slice A2 n2 d2 := (hO 2 (by kernel_rfl)).trans rfl
      clear hE hO hV
      exact Rely.Good.value undef (u := .slice A2 n2 d2) (by go_simp) (fun _ _ => rfl) (hF.val 5 undef (by decide) (Below.refl _ _) (fun h => by omega) (fun h => by omega) (fun h => by omega))
    refine Rely.Steps.cons (fun Lf γ ev wv hL hE hF hC hCf hO hV => ?_) ?_
    · skip
      have hL4 : Lf 4 = true := hE _ (Array.mem_of_getElem? (i := 0) rfl) rfl
      have v34 : ev (.tmp 34) = (γ 4) := hV 4 34 hL4 rfl
      have hL5 : Lf 5 = true := hE _ (Array.mem_of_getElem? (i := 1) rfl) rfl
      have v35 : ev (.tmp 35) = .slice A2 n2 d2 := hV 5 35 hL5 rfl
      have hL3 : Lf 3 = true := hE _ (Array.mem_of_getElem? (i := 2) rfl) rfl
      clear hE hO hV
      obtain ⟨g, k, w', hr, hF2⟩ := RF.app2 hF hL hL4 hL3 A2 d2 H5.out.a2 HV.out.2.2.2.2.1 (by have := HM.out; omega)
      exact Rely.Good.value (.slice (some ⟨g, 0, none⟩) n2 k) (exec_append _ _ _ rfl _ _ _ v34 v35 (hr _)) (fun _ _ => rfl) hF2
    refine Rely.Steps.cons (fun Lf γ ev wv hL hE hF hC hCf hO hV => ?_) ?_
    · clear hL
      have hL0 : Lf 0 = true := hE _ (Array.mem_of_getElem? (i := 0) rfl) rfl
      have v30 : ev (.tmp 30) = circV N (some ⟨g1, 0, none⟩) n k1 (some ⟨g2, 0, none⟩) L k2 := hV 0 30 hL0 rfl
      have hL3 : Lf 3 = true := hE _ (Array.mem_of_getElem? (i := 1) rfl) rfl
      have v33 : ev (.tmp 33) = (γ 3) := hV 3 33 hL3 rfl
      have hL6 : Lf 6 = true := hE _ (Array.mem_of_getElem? (i := 2) rfl) rfl
      have v36 : ev (.tmp 36) = (γ 6) := hV 6 36 hL6 rfl
      clear hE hO hV
      obtain ⟨g3, q3, e3, hg3, hR3⟩ := hF.l3 hL3
      obtain ⟨g6, q6, e6, hg6, hR6⟩ := hF.l6 hL6
      rw [e3] at v33
      rw [e6] at v36
      have HF := Lib.hid hF
      have HX := Lib.hid (HEv.out wv g3 q3 g6 q6 hF.b hR3 hR6)
      clear hF hR3 hR6 e3 e6
      exact Rely.Good.enter (f := 21) (args := #[circV N (some ⟨g1, 0, none⟩) n k1 (some ⟨g2, 0, none⟩) L k2, .slice (some ⟨g3, 0, none⟩) n1 q3, .slice (some ⟨g6, 0, none⟩) n2 q6, .int .u64 5]) (by go_simp) (HX.out.mono fun e w2 hc => by
        obtain ⟨⟨v0, v1, rfl, h0, h1⟩, hb⟩ := hc
        exact ⟨.tuple #[v0, v1], _, rfl, fun _ _ => rfl, HF.out.val 7 _ (by decide) hb (fun _ => ⟨v0, v1, rfl, h0, h1⟩) (fun h => by omega) (fun h => by omega)⟩)
    refine Rely.Steps.cons (fun Lf γ ev wv hL hE hF hC hCf hO hV => ?_) ?_
    · clear hL
      have hL7 : Lf 7 = true := hE _ (Array.mem_of_getElem? (i := 0) rfl) rfl
      have v37 : ev (.tmp 37) = (γ 7) := hV 7 37 hL7 rfl
      clear hE hO hV
      obtain ⟨v0, v1, e7, h0, h1⟩ := hF.t7 hL7
      rw [e7] at v37
      have HF := Lib.hid (hF.val 8 (.tuple #[v0, v1]) (by decide) (Below.refl _ _) (fun _ => ⟨v0, v1, rfl, h0, h1⟩) (fun h => by omega) (fun h => by omega))
      clear hF e7 h0 h1
      exact Rely.Good.value (.tuple #[v0, v1]) (u := .tuple #[v0, v1]) (by go_simp) (fun _ _ => rfl) HF.out
    refine Rely.Steps.cons (fun Lf γ ev wv hL hE hF hC hCf hO hV => ?_) ?_
    · clear hL
      have hL8 : Lf 8 = true := hE _ (Array.mem_of_getElem? (i := 0) rfl) rfl
      have v29 : ev (.tmp 29) = (γ 8) := hV 8 29 hL8 rfl
      clear hE hO hV
      obtain ⟨v0, v1, e8, h0, h1⟩ := hF.t8 hL8
      rw [e8] at v29
      have HF := Lib.hid (hF.val 9 v0 (by decide) (Below.refl _ _) (fun h => by omega) (fun _ => h0) (fun h => by omega))
      clear hF e8 h0 h1
      exact Rely.Good.value v0 (u := v0) (by go_simp) (fun _ _ => rfl) HF.out
    refine Rely.Steps.cons (fun Lf γ ev wv hL hE hF hC hCf hO hV => ?_) ?_
    · clear hL
      have hL8 : Lf 8 = true := hE _ (Array.mem_of_getElem? (i := 0) rfl) rfl
      have v29 : ev (.tmp 29) = (γ 8) := hV 8 29 hL8 rfl
      clear hE hO hV
      obtain ⟨v0, v1, e8, h0, h1⟩ := hF.t8 hL8
      rw [e8] at v29
      have HF := Lib.hid (hF.val 10 v1 (by decide) (Below.refl _ _) (fun h => by omega) (fun h => by omega) (fun _ => h1))
      clear hF e8 h0 h1
      exact Rely.Good.value v1 (u := v1) (by go_simp) (fun _ _ => rfl) HF.out
    refine Rely.Steps.cons (fun Lf γ ev wv hL hE hF hC hCf hO hV => ?_) ?_
    · clear hL
      have hL9 : Lf 9 = true := hE _ (Array.mem_of_getElem? (i := 0) rfl) rfl
      have v38 : ev (.tmp 38) = (γ 9) := hV 9 38 hL9 rfl
      clear hE hO hV
      have hx := hF.t9 hL9
      have HF := Lib.hid (hF.val 11 (γ 9) (by decide) (Below.refl _ _) (fun h => by omega) (fun _ => hx) (fun h => by omega))
      clear hF hx
      exact Rely.Good.value (γ 9) (u := γ 9) (by go_simp) (fun _ _ => rfl) HF.out
    refine Rely.Steps.cons (fun Lf γ ev wv hL hE hF hC hCf hO hV => ?_) ?_
    · clear hL
      have hL10 : Lf 10 = true := hE _ (Array.mem_of_getElem? (i := 0) rfl) rfl
      have v39 : ev (.tmp 39) = (γ 10) := hV 10 39 hL10 rfl
      clear hE hO hV
      have hx := hF.t10 hL10
      have HF := Lib.hid (hF.val 12 (γ 10) (by decide) (Below.refl _ _) (fun h => by omega) (fun h => by omega) (fun _ => hx))
      clear hF hx
      exact Rely.Good.value (γ 10) (u := γ 10) (by go_simp) (fun _ _ => rfl) HF.out
    exact Rely.Steps.nil
  case hend =>
  intro γ w7 hF
  have e11 : γ 11 = .slice none 0 0 := hF.t11 rfl
  obtain ⟨p, a, e12⟩ : ∃ p a, γ 12 = chain [(p, a)] 100 := hF.t12 rfl
  obtain ⟨T, x, hT⟩ := chain_iface [(p, a)] 100
  have HCd := Lib.hid (fun wx hx => code_chain [(p, a)] 100 wx hx)
  rw [hT] at e12 HCd
  have H7 := Lib.hid (H5.out.below hF.b)
  simp only [Rely.fin, Act.put, List.setIfInBounds_toArray, List.set_cons_zero, List.set_cons_succ]
  rw [e11, e12]
  clear e11 e12 hT hF H5 HEv
  have q0 := H7.out.c.c.cell 0 (v := .int .i64 N) rfl
  have q1 := H7.out.c.c.cell 1 (v := .slice (some ⟨g1, 0, none⟩) n k1) rfl
  have q2 := H7.out.c.c.cell 2 (v := .slice (some ⟨g2, 0, none⟩) L k2) rfl
  have HCk := Lib.hid (check_ok (cg := k1) (co := k2) H7.out.h H7.out.c.g H7.out.c.o (by have := HM.out; unfold maxLen; omega) (by have := HM.out; unfold maxLen; omega) HG.out)
  go_wp2_with fail
  refine HCk.out.mono ?_
  rintro e w8 ⟨rfl, hb8⟩
  have H8 := Lib.hid (H7.out.below hb8)
  clear q0 q1 q2 hb8 HCk H7
  have q0 := H8.out.c.c.cell 0 (v := .int .i64 N) rfl
  have q1 := H8.out.c.c.cell 1 (v := .slice (some ⟨g1, 0, none⟩) n k1) rfl
  have q2 := H8.out.c.c.cell 2 (v := .slice (some ⟨g2, 0, none⟩) L k2) rfl
  have kk : ((n1 : Int) != N) = false := by rw [HK.out.1]; simp
  have HAn := Lib.hid (ands_any w8 N (some ⟨g1, 0, none⟩) n k1 y (some ⟨g2, 0, none⟩) L k2 H8.out.c.g (by have := HM.out; unfold maxLen; omega))
  go_wp2_with fail
  refine HAn.out.mono ?_
  rintro e w9a ⟨rfl, hb9⟩
  have H9 := Lib.hid (H8.out.below hb9)
  obtain ⟨E, hE⟩ : ∃ E, 2 * Circ.ands y n = E := ⟨_, rfl⟩
  have han := Circ.ands_le y n
  have hM := HM.out
  have e0 : IntKind.i64.wrap (2 * ((Circ.ands y n : Nat) : Int)) = (E : Int) := by rw [i64_nat _ (by omega) (by omega)]; omega
  have kk2 : ((n2 : Int) != (E : Int)) = true := by have := HK.out.2; rw [bne_iff_ne]; omega
  clear q0 q1 q2 hb9 HAn H8 han hM hE
  have q0 := H9.out.c.c.cell 0 (v := .int .i64 N) rfl
  have q1 := H9.out.c.c.cell 1 (v := .slice (some ⟨g1, 0, none⟩) n k1) rfl
  have q2 := H9.out.c.c.cell 2 (v := .slice (some ⟨g2, 0, none⟩) L k2) rfl
  go_wp2_with fail
  refine (HCd.out w9a H9.out.h).mono ?_
  rintro e w9 ⟨rfl, hb9⟩
  have HF := Lib.hid (H9.out.b.trans (hb9.mono H9.out.b.size))
  clear hb9
  go_wp2
  go_ret
  exact ⟨rfl, HF.out⟩

set_option maxHeartbeats 16000000 in
set_option maxRecDepth 100000 in
theorem evals_ok (N : Int) (Ag : Option Addr) (n cg : Nat) (y : Nat → Nat → Int) (Ao : Option Addr) (m co : Nat) (o : Nat → Int) (A1 : Option Addr) (n1 d1 : Nat) (L1 : Nat → Lab) (A2 : Option Addr) (n2 d2 : Nat) (L2 : Nat → Lab) (w : World) (hh : Handle w) (hg : AtV w Ag (n * 3) (gv y)) (ho : AtV w Ao m (iv o)) (hn : n ≤ cg) (hm : m ≤ co) (zg : Ag = none → n = 0 ∧ cg = 0) (zo : Ao = none → m = 0 ∧ co = 0) (h1 : AtV w A1 (n1 * 2) (lv L1)) (h10 : A1 = none → n1 = 0 ∧ d1 = 0) (h1w : ∀ i, Garb.Wd (L1 i)) (h2 : AtV w A2 (n2 * 2) (lv L2)) (h20 : A2 = none → n2 = 0 ∧ d2 = 0) (h2w : ∀ i, Garb.Wd (L2 i)) (hsm : (decide (n ≤ 60) && decide (N ≤ 200)) = true) (hl : ¬ 300 < n1) (hl2 : ¬ 300 < n2) (hG : Circ.Good N n y (min m 80) o) (hK : (n1 : Int) = N) (hT2 : n2 = 2 * Circ.ands y n) :
    Calls Tryd.prog 5 #[circV N Ag n cg Ao m co, .slice A1 n1 d1, .slice A2 n2 d2] w fun e w' => e = .returned (.bool true) ∧ Below w.heap.size w w' := by
  have HK := Lib.hid (And.intro hK hT2)
  clear hK hT2
  have X0 := Blk.new w 25 #[.int .i64 N, .slice Ag n cg, .slice Ao m co]
  have b0 := (Below.refl w.heap.size w).alloc (Nat.le_refl _) (.cells #[.int .i64 N, .slice Ag n cg, .slice Ao m co] 25)
  have HAw := Lib.hid (awake_any (w.alloc (.cells #[.int .i64 N, .slice Ag n cg, .slice Ao m co] 25)) (hh.belowS b0))
  have H1 := Lib.hid (show Below w.heap.size w (w.alloc (.cells #[.int .i64 N, .slice Ag n cg, .slice Ao m co] 25)) ∧ circB (w.alloc (.cells #[.int .i64 N, .slice Ag n cg, .slice Ao m co] 25)) w.heap.size N Ag n cg Ao m co ∧ Handle (w.alloc (.cells #[.int .i64 N, .slice Ag n cg, .slice Ao m co] 25)) from ⟨b0, X0, hh.belowS b0⟩)
  have HA := Lib.hid (And.intro hg (And.intro ho (And.intro hn (And.intro hm (And.intro zg zo)))))
  have HV := Lib.hid (And.intro h1 (And.intro h10 (And.intro h1w (And.intro h2 (And.intro h20 h2w)))))
  have HH0 := Lib.hid hh
  clear X0 b0 hh hg ho hn hm zg zo h1 h10 h1w h2 h20 h2w
  go_enter Tryd.func5, Tryd.ntmps5
  go_wp2_with fail
  refine HAw.out.mono ?_
  rintro e w2 ⟨rfl, hb2⟩
  have h0 := H1.out
  have H2 := Lib.hid (show Below w.heap.size w w2 ∧ circB w2 w.heap.size N Ag n cg Ao m co ∧ Handle w2 from ⟨h0.1.trans (hb2.mono h0.1.size), h0.2.1.below hb2 h0.2.1.lt, h0.2.2.belowS hb2⟩)
  clear H1 h0 hb2 HAw
  have c0 := H2.out.2.1.cell 0 (v := .int .i64 N) rfl
  have c1 := H2.out.2.1.cell 1 (v := .slice Ag n cg) rfl
  have c2 := H2.out.2.1.cell 2 (v := .slice Ao m co) rfl
  have HSm := Lib.hid (small_any w2 N Ag n cg Ao m co)
  have hnn : n ≤ 60 ∧ N ≤ 200 := by simpa using hsm
  have lt1 : ¬ (300 : Int) < (n1 : Int) := by omega
  have lt2 : ¬ (300 : Int) < (n2 : Int) := by omega
  rw [hsm] at HSm
  have HM0 := Lib.hid hnn
  have HL := Lib.hid (show n1 ≤ 300 ∧ n2 ≤ 300 from ⟨by omega, by omega⟩)
  clear hsm hnn hl hl2
  go_wp2_with fail
  refine HSm.out.mono ?_
  rintro e w3 ⟨rfl, hb3⟩
  have h0 := H2.out
  have H3 := Lib.hid (show Below w.heap.size w w3 ∧ circB w3 w.heap.size N Ag n cg Ao m co ∧ Handle w3 from ⟨h0.1.trans (hb3.mono h0.1.size), h0.2.1.below hb3 h0.2.1.lt, h0.2.2.belowS hb3⟩)
  clear H2 h0 hb3 HSm c0 c1 c2
  have c0 := H3.out.2.1.cell 0 (v := .int .i64 N) rfl
  have c1 := H3.out.2.1.cell 1 (v := .slice Ag n cg) rfl
  have c2 := H3.out.2.1.cell 2 (v := .slice Ao m co) rfl
  have HO := Lib.hid (own_any w3 N Ag n cg y Ao m co o (HA.out.1.below H3.out.1) (HA.out.2.1.below H3.out.1) HA.out.2.2.1 HA.out.2.2.2.1 HA.out.2.2.2.2.1 HA.out.2.2.2.2.2)
  go_wp2_with fail
  refine HO.out.mono ?_
  rintro e w4 ⟨g1, k1, g2, k2, rfl, hg1, hg2, hR1, hR2, hb4⟩
  obtain ⟨L, hL⟩ : ∃ L, min m 80 = L := ⟨_, rfl⟩
  rw [show min n 4200 = n by have := HM0.out; omega] at hR1 ⊢
  rw [hL] at hR2 ⊢
  clear c0 c1 c2 HO
  have h0 := H3.out
  have hsz3 := h0.2.1.lt
  have X4 := h0.2.1.below hb4 h0.2.1.lt
  have x0 := X4.cell 0 (v := .int .i64 N) rfl
  have x1 := X4.cell 1 (v := .slice Ag n cg) rfl
  have x2 := X4.cell 2 (v := .slice Ao m co) rfl
  have xf := X4.frozen
  have hci : Ci w.heap.size N g1 n k1 g2 L k2 y o (((w4.setCell ⟨w.heap.size, 0, none⟩ (.int .i64 N)).setCell ⟨w.heap.size, 1, none⟩ (.slice (some ⟨g1, 0, none⟩) n k1)).setCell ⟨w.heap.size, 2, none⟩ (.slice (some ⟨g2, 0, none⟩) L k2)) := ci_store _ X4 rfl (by omega) (by omega) hR1.atv (by have := hR2.atv; rwa [Nat.mul_one] at this)
  have hcs := (((Chg.refl (fun q => q = w.heap.size) w4).set (p := ⟨w.heap.size, 0, none⟩) (.inr rfl) (.int .i64 N)).set (p := ⟨w.heap.size, 1, none⟩) (.inr rfl) (.slice (some ⟨g1, 0, none⟩) n k1)).set (p := ⟨w.heap.size, 2, none⟩) (.inr rfl) (.slice (some ⟨g2, 0, none⟩) L k2)
  have hbw := (h0.1.trans (hb4.mono h0.1.size)).trans (hcs.below (by have := h0.1.size; have := hb4.size; omega) (fun q e => by omega))
  have H5 := Lib.hid (show Lx w N g1 n k1 g2 L k2 y o A1 n1 L1 A2 n2 L2 _ from ⟨hci, HH0.out.belowS hbw, hbw, HV.out.1.below hbw, HV.out.2.2.2.1.below hbw⟩)
  have HM := Lib.hid (show n ≤ 60 ∧ N ≤ 200 ∧ L ≤ 80 ∧ n1 ≤ 300 ∧ n2 ≤ 300 from ⟨HM0.out.1, HM0.out.2, by omega, HL.out.1, HL.out.2⟩)
  have HG := Lib.hid (show Circ.Good N n y L o by rw [← hL]; exact hG)
  clear hG
  clear hg1 hg2 hR1 hR2 hb4 hL h0 hsz3 X4 hci hcs hbw H3 HM0 lt1 lt2 HL
  go_upto_region 4 with fail
  clear x0 x1 x2 xf
  generalize (((w4.setCell ⟨w.heap.size, 0, none⟩ (.int .i64 N)).setCell ⟨w.heap.size, 1, none⟩ (.slice (some ⟨g1, 0, none⟩) n k1)).setCell ⟨w.heap.size, 2, none⟩ (.slice (some ⟨g2, 0, none⟩) L k2)) = w5 at *

  obtain ⟨H, hH⟩ := hs_ex
  have HEv := Lib.hid (show EvC w5 N g1 n k1 g2 L k2 n1 L1 n2 L2 (Ans0 L) (Nil1) from fun wv g3 q3 g6 q6 hbv hR3 hR6 => by
    have hx := H5.out.below hbv
    have hgv : Circ.Good (n1 : Int) n y L o := by rw [HK.out.1]; exact HG.out
    have hc := geval_ok H hH wv n1 (some ⟨g1, 0, none⟩) n k1 y (some ⟨g2, 0, none⟩) L k2 o (some ⟨g3, 0, none⟩) q3 (some ⟨g6, 0, none⟩) n2 q6 5 L1 L2 hx.h hx.c.g hx.c.o hR3.atv (fun h => by cases h) hR6.atv hgv HK.out.2 HV.out.2.2.1 HV.out.2.2.2.2.2
    rw [HK.out.1] at hc
    exact hc.mono fun e w' h => by
      obtain ⟨go, rfl, _, hb⟩ := h
      exact ⟨⟨_, _, rfl, ⟨go, rfl⟩, rfl⟩, hb⟩)

  refine Rely.region (G := Value) (vs := [fun _ => circV N (some ⟨g1, 0, none⟩) n k1 (some ⟨g2, 0, none⟩) L k2, fun g => g, fun _ => .slice A1 n1 d1, fun g => g, fun g => g, fun _ => .slice A2 n2 d2, fun g => g, fun g => g, fun g => g, fun g => g, fun g => g, fun g => g, fun g => g]) (F := RF w5 n1 L1 n2 L2 (Ans0 L) (Nil1)) (by kernel_rfl) (by kernel_rfl) rfl (fun _ => undef) (RF.start w5 w5.drew (drew_below w5) _) ?hsteps ?hend
  case hsteps =>
    refine Rely.Steps.cons (fun Lf γ ev wv hL hE hF hC hCf hO hV => ?_) ?_
    · clear hL
      have v3 : ev (.tmp 3) = .pointer (some ⟨w.heap.size, 0, none⟩) := (hO 3 (by kernel_rfl)).trans rfl
      clear hE hO hV
      have hx := (H5.out.below hF.b).c.c
      have q0 := hx.cell 0 (v := .int .i64 N) rfl
      have q1 := hx.cell 1 (v := .slice (some ⟨g1, 0, none⟩) n k1) rfl
      have q2 := hx.cell 2 (v := .slice (some ⟨g2, 0, none⟩) L k2) rfl
      have HF := Lib.hid hF
      clear hx hF
      exact Rely.Good.value undef (u := circV N (some ⟨g1, 0, none⟩) n k1 (some ⟨g2, 0, none⟩) L k2) (by go_simp) (fun _ _ => rfl) (HF.out.val 0 undef (by decide) (Below.refl _ _) (fun h => by omega) (fun h => by omega) (fun h => by omega))
    refine Rely.Steps.cons (fun Lf γ ev wv hL hE hF hC hCf hO hV => ?_) ?_
    · skip
      clear hE hO hV
      have HF := Lib.hid (RF.bs1 hF hL)
      clear hF
      exact Rely.Good.value (.slice (some ⟨wv.heap.size, 0, none⟩) 0 0) (u := .slice (some ⟨wv.heap.size, 0, none⟩) 0 0) (by go_simp) (fun _ _ => rfl) HF.out
    refine Rely.Steps.cons (fun Lf γ ev wv hL hE hF hC hCf hO hV => ?_) ?_
    · clear hL
      have v1 : ev (.tmp 1) = .slice A1 n1 d1 := (hO 1 (by kernel_rfl)).trans rfl
      clear hE hO hV
      exact Rely.Good.value undef (u := .slice A1 n1 d1) (by go_simp) (fun _ _ => rfl) (hF.val 2 undef (by decide) (Below.refl _ _) (fun h => by omega) (fun h => by omega) (fun h => by omega))
    refine Rely.Steps.cons (fun Lf γ ev wv hL hE hF hC hCf hO hV => ?_) ?_
    · skip
      have hL1 : Lf 1 = true := hE _ (Array.mem_of_getElem? (i := 0) rfl) rfl
      have v31 : ev (.tmp 31) = (γ 1) := hV 1 31 hL1 rfl
      have hL2 : Lf 2 = true := hE _ (Array.mem_of_getElem? (i := 1) rfl) rfl
      have v32 : ev (.tmp 32) = .slice A1 n1 d1 := hV 2 32 hL2 rfl
      clear hE hO hV
      obtain ⟨g, k, w', hr, hF2⟩ := RF.app1 hF hL hL1 A1 d1 H5.out.a1 HV.out.2.1 (by have := HM.out; omega)
      exact Rely.Good.value (.slice (some ⟨g, 0, none⟩) n1 k) (exec_append _ _ _ rfl _ _ _ v31 v32 (hr _)) (fun _ _ => rfl) hF2
    refine Rely.Steps.cons (fun Lf γ ev wv hL hE hF hC hCf hO hV => ?_) ?_
    · skip
      clear hE hO hV
      have HF := Lib.hid (RF.bs2 hF hL)
      clear hF
      exact Rely.Good.value (.slice (some ⟨wv.heap.size, 0, none⟩) 0 0) (u := .slice (some ⟨wv.heap.size, 0, none⟩) 0 0) (by go_simp) (fun _ _ => rfl) HF.out
    refine Rely.Steps.cons (fun Lf γ ev wv hL hE hF hC hCf hO hV => ?_) ?_
    · clear hL
      have v2 : ev (.tmp 2) = .slice A2 n2 d2 := (hO 2 (by kernel_rfl)).trans rfl
      clear hE hO hV
      exact Rely.Good.value undef (u := .slice A2 n2 d2) (by go_simp) (fun _ _ => rfl) (hF.val 5 undef (by decide) (Below.refl _ _) (fun h => by omega) (fun h => by omega) (fun h => by omega))
    refine Rely.Steps.cons (fun Lf γ ev wv hL hE hF hC hCf hO hV => ?_) ?_
    · skip
      have hL4 : Lf 4 = true := hE _ (Array.mem_of_getElem? (i := 0) rfl) rfl
      have v34 : ev (.tmp 34) = (γ 4) := hV 4 34 hL4 rfl
      have hL5 : Lf 5 = true := hE _ (Array.mem_of_getElem? (i := 1) rfl) rfl
      have v35 : ev (.tmp 35) = .slice A2 n2 d2 := hV 5 35 hL5 rfl
      have hL3 : Lf 3 = true := hE _ (Array.mem_of_getElem? (i := 2) rfl) rfl
      clear hE hO hV
      obtain ⟨g, k, w', hr, hF2⟩ := RF.app2 hF hL hL4 hL3 A2 d2 H5.out.a2 HV.out.2.2.2.2.1 (by have := HM.out; omega)
      exact Rely.Good.value (.slice (some ⟨g, 0, none⟩) n2 k) (exec_append _ _ _ rfl _ _ _ v34 v35 (hr _)) (fun _ _ => rfl) hF2
    refine Rely.Steps.cons (fun Lf γ ev wv hL hE hF hC hCf hO hV => ?_) ?_
    · clear hL
      have hL0 : Lf 0 = true := hE _ (Array.mem_of_getElem? (i := 0) rfl) rfl
      have v30 : ev (.tmp 30) = circV N (some ⟨g1, 0, none⟩) n k1 (some ⟨g2, 0, none⟩) L k2 := hV 0 30 hL0 rfl
      have hL3 : Lf 3 = true := hE _ (Array.mem_of_getElem? (i := 1) rfl) rfl
      have v33 : ev (.tmp 33) = (γ 3) := hV 3 33 hL3 rfl
      have hL6 : Lf 6 = true := hE _ (Array.mem_of_getElem? (i := 2) rfl) rfl
      have v36 : ev (.tmp 36) = (γ 6) := hV 6 36 hL6 rfl
      clear hE hO hV
      obtain ⟨g3, q3, e3, hg3, hR3⟩ := hF.l3 hL3
      obtain ⟨g6, q6, e6, hg6, hR6⟩ := hF.l6 hL6
      rw [e3] at v33
      rw [e6] at v36
      have HF := Lib.hid hF
      have HX := Lib.hid (HEv.out wv g3 q3 g6 q6 hF.b hR3 hR6)
      clear hF hR3 hR6 e3 e6
      exact Rely.Good.enter (f := 21) (args := #[circV N (some ⟨g1, 0, none⟩) n k1 (some ⟨g2, 0, none⟩) L k2, .slice (some ⟨g3, 0, none⟩) n1 q3, .slice (some ⟨g6, 0, none⟩) n2 q6, .int .u64 5]) (by go_simp) (HX.out.mono fun e w2 hc => by
        obtain ⟨⟨v0, v1, rfl, h0, h1⟩, hb⟩ := hc
        exact ⟨.tuple #[v0, v1], _, rfl, fun _ _ => rfl, HF.out.val 7 _ (by decide) hb (fun _ => ⟨v0, v1, rfl, h0, h1⟩) (fun h => by omega) (fun h => by omega)⟩)
    refine Rely.Steps.cons (fun Lf γ ev wv hL hE hF hC hCf hO hV => ?_) ?_
    · clear hL
      have hL7 : Lf 7 = true := hE _ (Array.mem_of_getElem? (i := 0) rfl) rfl
      have v37 : ev (.tmp 37) = (γ 7) := hV 7 37 hL7 rfl
      clear hE hO hV
      obtain ⟨v0, v1, e7, h0, h1⟩ := hF.t7 hL7
      rw [e7] at v37
      have HF := Lib.hid (hF.val 8 (.tuple #[v0, v1]) (by decide) (Below.refl _ _) (fun _ => ⟨v0, v1, rfl, h0, h1⟩) (fun h => by omega) (fun h => by omega))
      clear hF e7 h0 h1
      exact Rely.Good.value (.tuple #[v0, v1]) (u := .tuple #[v0, v1]) (by go_simp) (fun _ _ => rfl) HF.out
    refine Rely.Steps.cons (fun Lf γ ev wv hL hE hF hC hCf hO hV => ?_) ?_
    · clear hL
      have hL8 : Lf 8 = true := hE _ (Array.mem_of_getElem? (i := 0) rfl) rfl
      have v29 : ev (.tmp 29) = (γ 8) := hV 8 29 hL8 rfl
      clear hE hO hV
      obtain ⟨v0, v1, e8, h0, h1⟩ := hF.t8 hL8
      rw [e8] at v29
      have HF := Lib.hid (hF.val 9 v0 (by decide) (Below.refl _ _) (fun h => by omega) (fun _ => h0) (fun h => by omega))
      clear hF e8 h0 h1
      exact Rely.Good.value v0 (u := v0) (by go_simp) (fun _ _ => rfl) HF.out
    refine Rely.Steps.cons (fun Lf γ ev wv hL hE hF hC hCf hO hV => ?_) ?_
    · clear hL
      have hL8 : Lf 8 = true := hE _ (Array.mem_of_getElem? (i := 0) rfl) rfl
      have v29 : ev (.tmp 29) = (γ 8) := hV 8 29 hL8 rfl
      clear hE hO hV
      obtain ⟨v0, v1, e8, h0, h1⟩ := hF.t8 hL8
      rw [e8] at v29
      have HF := Lib.hid (hF.val 10 v1 (by decide) (Below.refl _ _) (fun h => by omega) (fun h => by omega) (fun _ => h1))
      clear hF e8 h0 h1
      exact Rely.Good.value v1 (u := v1) (by go_simp) (fun _ _ => rfl) HF.out
    refine Rely.Steps.cons (fun Lf γ ev wv hL hE hF hC hCf hO hV => ?_) ?_
    · clear hL
      have hL9 : Lf 9 = true := hE _ (Array.mem_of_getElem? (i := 0) rfl) rfl
      have v38 : ev (.tmp 38) = (γ 9) := hV 9 38 hL9 rfl
      clear hE hO hV
      have hx := hF.t9 hL9
      have HF := Lib.hid (hF.val 11 (γ 9) (by decide) (Below.refl _ _) (fun h => by omega) (fun _ => hx) (fun h => by omega))
      clear hF hx
      exact Rely.Good.value (γ 9) (u := γ 9) (by go_simp) (fun _ _ => rfl) HF.out
    refine Rely.Steps.cons (fun Lf γ ev wv hL hE hF hC hCf hO hV => ?_) ?_
    · clear hL
      have hL10 : Lf 10 = true := hE _ (Array.mem_of_getElem? (i := 0) rfl) rfl
      have v39 : ev (.tmp 39) = (γ 10) := hV 10 39 hL10 rfl
      clear hE hO hV
      have hx := hF.t10 hL10
      have HF := Lib.hid (hF.val 12 (γ 10) (by decide) (Below.refl _ _) (fun h => by omega) (fun h => by omega) (fun _ => hx))
      clear hF hx
      exact Rely.Good.value (γ 10) (u := γ 10) (by go_simp) (fun _ _ => rfl) HF.out
    exact Rely.Steps.nil
  case hend =>
  intro γ w7 hF
  obtain ⟨ga, e11⟩ : ∃ ga, γ 11 = .slice (some ⟨ga, 0, none⟩) L L := hF.t11 rfl
  have e12 : γ 12 = .nilIface := hF.t12 rfl
  have H7 := Lib.hid (H5.out.below hF.b)
  simp only [Rely.fin, Act.put, List.setIfInBounds_toArray, List.set_cons_zero, List.set_cons_succ]
  rw [e11, e12]
  clear e11 e12 hF H5 HEv hH
  have q0 := H7.out.c.c.cell 0 (v := .int .i64 N) rfl
  have q1 := H7.out.c.c.cell 1 (v := .slice (some ⟨g1, 0, none⟩) n k1) rfl
  have q2 := H7.out.c.c.cell 2 (v := .slice (some ⟨g2, 0, none⟩) L k2) rfl
  have HCk := Lib.hid (check_ok (cg := k1) (co := k2) H7.out.h H7.out.c.g H7.out.c.o (by have := HM.out; unfold maxLen; omega) (by have := HM.out; unfold maxLen; omega) HG.out)
  go_wp2_with fail
  refine HCk.out.mono ?_
  rintro e w8 ⟨rfl, hb8⟩
  have H8 := Lib.hid (H7.out.below hb8)
  clear q0 q1 q2 hb8 HCk H7
  have q0 := H8.out.c.c.cell 0 (v := .int .i64 N) rfl
  have q1 := H8.out.c.c.cell 1 (v := .slice (some ⟨g1, 0, none⟩) n k1) rfl
  have q2 := H8.out.c.c.cell 2 (v := .slice (some ⟨g2, 0, none⟩) L k2) rfl
  have kk : ((n1 : Int) != N) = false := by rw [HK.out.1]; simp
  have HAn := Lib.hid (ands_any w8 N (some ⟨g1, 0, none⟩) n k1 y (some ⟨g2, 0, none⟩) L k2 H8.out.c.g (by have := HM.out; unfold maxLen; omega))
  go_wp2_with fail
  refine HAn.out.mono ?_
  rintro e w9a ⟨rfl, hb9⟩
  have H9 := Lib.hid (H8.out.below hb9)
  obtain ⟨E, hE⟩ : ∃ E, 2 * Circ.ands y n = E := ⟨_, rfl⟩
  have han := Circ.ands_le y n
  have hM := HM.out
  have e0 : IntKind.i64.wrap (2 * ((Circ.ands y n : Nat) : Int)) = (E : Int) := by rw [i64_nat _ (by omega) (by omega)]; omega
  have kk2 : ((n2 : Int) != (E : Int)) = false := by have := HK.out.2; rw [bne_eq_false_iff_eq]; omega
  clear q0 q1 q2 hb9 HAn H8 han hM hE
  have q0 := H9.out.c.c.cell 0 (v := .int .i64 N) rfl
  have q1 := H9.out.c.c.cell 1 (v := .slice (some ⟨g1, 0, none⟩) n k1) rfl
  have q2 := H9.out.c.c.cell 2 (v := .slice (some ⟨g2, 0, none⟩) L k2) rfl
  have kl : ((L : Int) == (L : Int)) = true := by simp
  go_wp2
  go_ret
  exact ⟨rfl, H9.out.b⟩

/-- GarbleEvals answers true. -/
theorem evals_walk (N : Int) (Ag : Option Addr) (n cg : Nat) (y : Nat → Nat → Int) (Ao : Option Addr) (m co : Nat) (o : Nat → Int) (A1 : Option Addr) (n1 d1 : Nat) (L1 : Nat → Lab) (A2 : Option Addr) (n2 d2 : Nat) (L2 : Nat → Lab) (w : World) (hh : Handle w) (hg : AtV w Ag (n * 3) (gv y)) (ho : AtV w Ao m (iv o)) (hn : n ≤ cg) (hm : m ≤ co) (zg : Ag = none → n = 0 ∧ cg = 0) (zo : Ao = none → m = 0 ∧ co = 0) (h1 : AtV w A1 (n1 * 2) (lv L1)) (h10 : A1 = none → n1 = 0 ∧ d1 = 0) (h1w : ∀ i, Garb.Wd (L1 i)) (h2 : AtV w A2 (n2 * 2) (lv L2)) (h20 : A2 = none → n2 = 0 ∧ d2 = 0) (h2w : ∀ i, Garb.Wd (L2 i)) :
    Calls Tryd.prog 5 #[circV N Ag n cg Ao m co, .slice A1 n1 d1, .slice A2 n2 d2] w fun e w' => e = .returned (.bool true) ∧ Below w.heap.size w w' := by
  cases hsm : (decide (n ≤ 60) && decide (N ≤ 200)) with
  | false => exact evals_big N Ag n cg y Ao m co o A1 n1 d1 L1 A2 n2 d2 L2 w hh hg ho hn hm zg zo h1 h10 h1w h2 h20 h2w hsm
  | true =>
    by_cases hl : 300 < n1
    · exact evals_long1 N Ag n cg y Ao m co o A1 n1 d1 L1 A2 n2 d2 L2 w hh hg ho hn hm zg zo h1 h10 h1w h2 h20 h2w hsm hl
    by_cases hl2 : 300 < n2
    · exact evals_long2 N Ag n cg y Ao m co o A1 n1 d1 L1 A2 n2 d2 L2 w hh hg ho hn hm zg zo h1 h10 h1w h2 h20 h2w hsm hl hl2
    by_cases hG : Circ.Good N n y (min m 80) o
    · by_cases hK : (n1 : Int) = N
      · by_cases hT : n2 = 2 * Circ.ands y n
        · exact evals_ok N Ag n cg y Ao m co o A1 n1 d1 L1 A2 n2 d2 L2 w hh hg ho hn hm zg zo h1 h10 h1w h2 h20 h2w hsm hl hl2 hG hK hT
        · exact evals_tabs N Ag n cg y Ao m co o A1 n1 d1 L1 A2 n2 d2 L2 w hh hg ho hn hm zg zo h1 h10 h1w h2 h20 h2w hsm hl hl2 hG hK hT
      · exact evals_len N Ag n cg y Ao m co o A1 n1 d1 L1 A2 n2 d2 L2 w hh hg ho hn hm zg zo h1 h10 h1w h2 h20 h2w hsm hl hl2 hG hK
    · exact evals_bad N Ag n cg y Ao m co o A1 n1 d1 L1 A2 n2 d2 L2 w hh hg ho hn hm zg zo h1 h10 h1w h2 h20 h2w hsm hl hl2 hG
end Go.Proofs.YtamejhhjfnfalaaDoor
