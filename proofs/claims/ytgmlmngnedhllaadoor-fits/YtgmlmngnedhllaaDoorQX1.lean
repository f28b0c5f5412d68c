/- CorrFits' walk. -/
import Derived.Test.YtgmlmngnedhllaaDoorQX1a
namespace Go.Proofs.YtgmlmngnedhllaaDoor
open Go.RowKit

set_option maxHeartbeats 8000000 in
set_option maxRecDepth 100000 in
theorem fits_walk (A : Option Addr) (len c : Nat) (f : Nat → Int) (w : World) (hh : Handle w) (hA : AtO w A len f) (h1 : len ≤ c) (h2 : c ≤ maxLen) (h3 : A = none → len = 0 ∧ c = 0) :
    Calls Tryd.prog 4 #[.slice A len c] w fun e w' => e = .returned (.bool true) ∧ Below w.heap.size w w' := by
  obtain ⟨m, hm⟩ : ∃ m, m = min len 300 := ⟨_, rfl⟩
  obtain ⟨n, hn⟩ : ∃ n, n = m / 15 := ⟨_, rfl⟩
  have hmc : m ≤ c := by omega
  have hml : m ≤ len := by omega
  have HN := Lib.hid (show m ≤ 300 ∧ 15 * n ≤ m from ⟨by omega, by omega⟩)
  have HL := Lib.hid (fun wx (hb : Below w.heap.size w wx) => load_any (.slice A m c) m f wx (Lst.head (hA.below hb) h1 h2 h3 hml) (by have := HN.out; omega))
  have hsl := fun wx => run_headW wx A len c m hmc
  have q2 : wrap64 (n : Int) = (n : Int) := by unfold wrap64; omega
  have m1 : (if (300 : Int) < (len : Int) then (300 : Int) else (len : Int)) = (m : Int) := by split <;> omega
  have m2 : (if 300 < len then (300 : Int) else (len : Int)) = (m : Int) := by split <;> omega
  have q1 : (m : Int).tdiv 15 = (n : Int) := by rw [hn]; rfl
  have HH := Lib.hid hh
  clear hm hn hA h1 h2 h3 hh hmc hml
  go_enter Tryd.func4, Tryd.ntmps4
  go_wp2_with fail
  refine (awake_any _ HH.out).mono ?_
  rintro e w1 ⟨rfl, hb1⟩
  have H1 := Lib.hid hb1
  clear hb1
  go_wp2_with fail
  refine (HL.out w1 H1.out).mono ?_
  rintro e w2 ⟨g, h, hg, hh, rfl, hT, hb2⟩
  have H2 := Lib.hid (And.intro hT (H1.out.trans (hb2.mono H1.out.size)))
  have hs1 := H1.out.size
  clear hT hb2 HL H1 hsl
  go_wp2_with fail
  refine (deal_ok w2 g h m f n n n H2.out.1 (by have := HN.out; omega) (by have := HN.out; omega) (by have := HN.out; omega) (by have := HN.out; omega)).mono ?_
  rintro e w3 ⟨s0, s1, rfl, hD, hAp, hS0, hS1, _, hc⟩
  have hsz := H2.out.2.size
  have hb3 : Below w.heap.size w w3 := H2.out.2.trans (hc.below (B := w.heap.size) hsz (fun k e => by omega))
  have hba := stocks_cells w3 (.pointer (some ⟨s0.g, 0, none⟩)) (.pointer (some ⟨s1.g, 0, none⟩))
  have HLie := Lib.hid (show Lie w w3.heap.size s0 s1 from ⟨hAp.ap, fun q hq => by have := hAp.a0 q hq; omega, fun q hq => by have := hAp.a1 q hq; omega, fun q hq => hS0.lt hq, fun q hq => hS1.lt hq⟩)
  have HF := Lib.hid (dealt_fits hD)
  have HC := Lib.hid (And.intro hD.a1 (And.intro hD.a2 (And.intro hD.a3 (And.intro hD.b1 (And.intro hD.b2 hD.b3)))))
  have H3 := Lib.hid (show Two w w3.heap.size s0 s1 0 0 0 0 0 0 (w3.alloc (.cells #[.pointer (some ⟨s0.g, 0, none⟩), .pointer (some ⟨s1.g, 0, none⟩)] 29)) from
    ⟨hS0.below hba, hS1.below hba, Blk.new w3 _ _, hb3.trans (hba.mono hb3.size)⟩)
  have p0 := H3.out.mb.cell 0 rfl
  have p1 := H3.out.mb.cell 1 rfl
  clear hD hAp hS0 hS1 hc hb3 hba hsz H2 hs1
  go_wp2
  clear p0 p1
  generalize (w3.alloc (.cells #[.pointer (some ⟨s0.g, 0, none⟩), .pointer (some ⟨s1.g, 0, none⟩)] 29)) = w4 at *
  generalize w3.heap.size = m0 at *
  go_loopw [6] (fun i wr => ∃ k : Nat, k ≤ n ∧ i = .int .i64 k ∧ Hid (Two w m0 s0 s1 k k k k k k wr)) (fun i _ => n - (intOf i).toNat)
  case atStart => exact ⟨0, by omega, rfl, H3.out⟩
  case round =>
    obtain ⟨k, hk, rfl, HI⟩ := hrel
    by_cases hlt : k < n
    · have lt1 : (k : Int) < (n : Int) := by omega
      have e1 : IntKind.i64.wrap ((k : Int) + 1) = (k : Int) + 1 := i64_nat _ (by omega) (by have := HN.out; omega)
      obtain ⟨wB, hwB⟩ : ∃ x, x = wr := ⟨_, rfl⟩
      subst hwB
      have HP0 := Lib.hid (And.intro HI.out (show True from trivial))
      clear HI
      have p0 := HP0.out.1.mb.cell 0 rfl
      go_wp2_with fail
      refine (triple_some wB s0 k k k HP0.out.1.p0 (by rw [HC.out.1]; exact hlt)).mono ?_
      rintro e wC0 ⟨rfl, hS, hc⟩
      have hba : Below wC0.heap.size wC0 (wC0.alloc (.cells #[.int .u64 (s0.y1 k 0), .int .u64 (s0.y1 k 1), .int .u64 (s0.y1 k 2)] 48)) := (Below.refl _ wC0).alloc (Nat.le_refl _) _
      have HP1 := Lib.hid (show Two w m0 s0 s1 (k + 1) k k k k k (wC0.alloc (.cells #[.int .u64 (s0.y1 k 0), .int .u64 (s0.y1 k 1), .int .u64 (s0.y1 k 2)] 48)) ∧ Blk (wC0.alloc (.cells #[.int .u64 (s0.y1 k 0), .int .u64 (s0.y1 k 1), .int .u64 (s0.y1 k 2)] 48)) wC0.heap.size 48 #[.int .u64 (s0.y1 k 0), .int .u64 (s0.y1 k 1), .int .u64 (s0.y1 k 2)] ∧ m0 < wC0.heap.size ∧ True from
        ⟨(HP0.out.1.t0 HLie.out hS hc).new hba, Blk.new wC0 _ _, by have := (HP0.out.1.t0 HLie.out hS hc).mb.lt; exact this, trivial⟩)
      clear hS hc hba HP0 p0
      have hms0 : wC0.heap.size = wC0.heap.size := rfl
      have mlt0 := Lib.hid (HP1.out.2.2.1)
      clear hms0
      have p1 := HP1.out.1.mb.cell 1 rfl
      go_wp2_with fail
      refine (triple_some (wC0.alloc (.cells #[.int .u64 (s0.y1 k 0), .int .u64 (s0.y1 k 1), .int .u64 (s0.y1 k 2)] 48)) s1 k k k HP1.out.1.p1 (by rw [HC.out.2.2.2.1]; exact hlt)).mono ?_
      rintro e wC1 ⟨rfl, hS, hc⟩
      have hba : Below wC1.heap.size wC1 (wC1.alloc (.cells #[.int .u64 (s1.y1 k 0), .int .u64 (s1.y1 k 1), .int .u64 (s1.y1 k 2)] 48)) := (Below.refl _ wC1).alloc (Nat.le_refl _) _
      have HP2 := Lib.hid (show Two w m0 s0 s1 (k + 1) k k (k + 1) k k (wC1.alloc (.cells #[.int .u64 (s1.y1 k 0), .int .u64 (s1.y1 k 1), .int .u64 (s1.y1 k 2)] 48)) ∧ Blk (wC1.alloc (.cells #[.int .u64 (s1.y1 k 0), .int .u64 (s1.y1 k 1), .int .u64 (s1.y1 k 2)] 48)) wC0.heap.size 48 #[.int .u64 (s0.y1 k 0), .int .u64 (s0.y1 k 1), .int .u64 (s0.y1 k 2)] ∧ Blk (wC1.alloc (.cells #[.int .u64 (s1.y1 k 0), .int .u64 (s1.y1 k 1), .int .u64 (s1.y1 k 2)] 48)) wC1.heap.size 48 #[.int .u64 (s1.y1 k 0), .int .u64 (s1.y1 k 1), .int .u64 (s1.y1 k 2)] ∧ m0 < wC1.heap.size ∧ True from
        ⟨(HP1.out.1.t1 HLie.out hS hc).new hba, ((HP1.out.2.1.chg hc (fun e => by have := HLie.out.b1 _ e; have := mlt0.out; omega)).below hba), Blk.new wC1 _ _, by have := (HP1.out.1.t1 HLie.out hS hc).mb.lt; exact this, trivial⟩)
      clear hS hc hba HP1 p1
      have hms1 : wC1.heap.size = wC1.heap.size := rfl
      have mlt1 := Lib.hid (HP2.out.2.2.2.1)
      clear hms1
      have p0 := HP2.out.1.mb.cell 0 rfl
      go_wp2_with fail
      refine (bits_some (wC1.alloc (.cells #[.int .u64 (s1.y1 k 0), .int .u64 (s1.y1 k 1), .int .u64 (s1.y1 k 2)] 48)) s0 (k + 1) k k HP2.out.1.p0 (by rw [HC.out.2.1]; exact hlt)).mono ?_
      rintro e wC2 ⟨rfl, hS, hc⟩
      have hba : Below wC2.heap.size wC2 (wC2.alloc (.cells #[.int .u64 (s0.y2 k 0), .int .u64 (s0.y2 k 1), .int .u64 (s0.y2 k 2)] 48)) := (Below.refl _ wC2).alloc (Nat.le_refl _) _
      have HP3 := Lib.hid (show Two w m0 s0 s1 (k + 1) (k + 1) k (k + 1) k k (wC2.alloc (.cells #[.int .u64 (s0.y2 k 0), .int .u64 (s0.y2 k 1), .int .u64 (s0.y2 k 2)] 48)) ∧ Blk (wC2.alloc (.cells #[.int .u64 (s0.y2 k 0), .int .u64 (s0.y2 k 1), .int .u64 (s0.y2 k 2)] 48)) wC0.heap.size 48 #[.int .u64 (s0.y1 k 0), .int .u64 (s0.y1 k 1), .int .u64 (s0.y1 k 2)] ∧ Blk (wC2.alloc (.cells #[.int .u64 (s0.y2 k 0), .int .u64 (s0.y2 k 1), .int .u64 (s0.y2 k 2)] 48)) wC1.heap.size 48 #[.int .u64 (s1.y1 k 0), .int .u64 (s1.y1 k 1), .int .u64 (s1.y1 k 2)] ∧ Blk (wC2.alloc (.cells #[.int .u64 (s0.y2 k 0), .int .u64 (s0.y2 k 1), .int .u64 (s0.y2 k 2)] 48)) wC2.heap.size 48 #[.int .u64 (s0.y2 k 0), .int .u64 (s0.y2 k 1), .int .u64 (s0.y2 k 2)] ∧ m0 < wC2.heap.size ∧ True from
        ⟨(HP2.out.1.t0 HLie.out hS hc).new hba, ((HP2.out.2.1.chg hc (fun e => by have := HLie.out.b0 _ e; have := mlt0.out; omega)).below hba), ((HP2.out.2.2.1.chg hc (fun e => by have := HLie.out.b0 _ e; have := mlt1.out; omega)).below hba), Blk.new wC2 _ _, by have := (HP2.out.1.t0 HLie.out hS hc).mb.lt; exact this, trivial⟩)
      clear hS hc hba HP2 p0
      have hms2 : wC2.heap.size = wC2.heap.size := rfl
      have mlt2 := Lib.hid (HP3.out.2.2.2.2.1)
      clear hms2
      have p1 := HP3.out.1.mb.cell 1 rfl
      go_wp2_with fail
      refine (bits_some (wC2.alloc (.cells #[.int .u64 (s0.y2 k 0), .int .u64 (s0.y2 k 1), .int .u64 (s0.y2 k 2)] 48)) s1 (k + 1) k k HP3.out.1.p1 (by rw [HC.out.2.2.2.2.1]; exact hlt)).mono ?_
      rintro e wC3 ⟨rfl, hS, hc⟩
      have hba : Below wC3.heap.size wC3 (wC3.alloc (.cells #[.int .u64 (s1.y2 k 0), .int .u64 (s1.y2 k 1), .int .u64 (s1.y2 k 2)] 48)) := (Below.refl _ wC3).alloc (Nat.le_refl _) _
      have HP4 := Lib.hid (show Two w m0 s0 s1 (k + 1) (k + 1) k (k + 1) (k + 1) k (wC3.alloc (.cells #[.int .u64 (s1.y2 k 0), .int .u64 (s1.y2 k 1), .int .u64 (s1.y2 k 2)] 48)) ∧ Blk (wC3.alloc (.cells #[.int .u64 (s1.y2 k 0), .int .u64 (s1.y2 k 1), .int .u64 (s1.y2 k 2)] 48)) wC0.heap.size 48 #[.int .u64 (s0.y1 k 0), .int .u64 (s0.y1 k 1), .int .u64 (s0.y1 k 2)] ∧ Blk (wC3.alloc (.cells #[.int .u64 (s1.y2 k 0), .int .u64 (s1.y2 k 1), .int .u64 (s1.y2 k 2)] 48)) wC1.heap.size 48 #[.int .u64 (s1.y1 k 0), .int .u64 (s1.y1 k 1), .int .u64 (s1.y1 k 2)] ∧ Blk (wC3.alloc (.cells #[.int .u64 (s1.y2 k 0), .int .u64 (s1.y2 k 1), .int .u64 (s1.y2 k 2)] 48)) wC2.heap.size 48 #[.int .u64 (s0.y2 k 0), .int .u64 (s0.y2 k 1), .int .u64 (s0.y2 k 2)] ∧ Blk (wC3.alloc (.cells #[.int .u64 (s1.y2 k 0), .int .u64 (s1.y2 k 1), .int .u64 (s1.y2 k 2)] 48)) wC3.heap.size 48 #[.int .u64 (s1.y2 k 0), .int .u64 (s1.y2 k 1), .int .u64 (s1.y2 k 2)] ∧ m0 < wC3.heap.size ∧ True from
        ⟨(HP3.out.1.t1 HLie.out hS hc).new hba, ((HP3.out.2.1.chg hc (fun e => by have := HLie.out.b1 _ e; have := mlt0.out; omega)).below hba), ((HP3.out.2.2.1.chg hc (fun e => by have := HLie.out.b1 _ e; have := mlt1.out; omega)).below hba), ((HP3.out.2.2.2.1.chg hc (fun e => by have := HLie.out.b1 _ e; have := mlt2.out; omega)).below hba), Blk.new wC3 _ _, by have := (HP3.out.1.t1 HLie.out hS hc).mb.lt; exact this, trivial⟩)
      clear hS hc hba HP3 p1
      have hms3 : wC3.heap.size = wC3.heap.size := rfl
      have mlt3 := Lib.hid (HP4.out.2.2.2.2.2.1)
      clear hms3
      have p0 := HP4.out.1.mb.cell 0 rfl
      go_wp2_with fail
      refine (ot_some (wC3.alloc (.cells #[.int .u64 (s1.y2 k 0), .int .u64 (s1.y2 k 1), .int .u64 (s1.y2 k 2)] 48)) s0 (k + 1) (k + 1) k HP4.out.1.p0 (by rw [HC.out.2.2.1]; exact hlt)).mono ?_
      rintro e wC4 ⟨rfl, hS, hc⟩
      have hba : Below wC4.heap.size wC4 (wC4.alloc (.cells #[.int .u64 (s0.y3 k 0), .int .u64 (s0.y3 k 1), .int .u64 (s0.y3 k 2), .int .u64 (s0.y3 k 3), .bool (s0.c3 k)] 55)) := (Below.refl _ wC4).alloc (Nat.le_refl _) _
      have HP5 := Lib.hid (show Two w m0 s0 s1 (k + 1) (k + 1) (k + 1) (k + 1) (k + 1) k (wC4.alloc (.cells #[.int .u64 (s0.y3 k 0), .int .u64 (s0.y3 k 1), .int .u64 (s0.y3 k 2), .int .u64 (s0.y3 k 3), .bool (s0.c3 k)] 55)) ∧ Blk (wC4.alloc (.cells #[.int .u64 (s0.y3 k 0), .int .u64 (s0.y3 k 1), .int .u64 (s0.y3 k 2), .int .u64 (s0.y3 k 3), .bool (s0.c3 k)] 55)) wC0.heap.size 48 #[.int .u64 (s0.y1 k 0), .int .u64 (s0.y1 k 1), .int .u64 (s0.y1 k 2)] ∧ Blk (wC4.alloc (.cells #[.int .u64 (s0.y3 k 0), .int .u64 (s0.y3 k 1), .int .u64 (s0.y3 k 2), .int .u64 (s0.y3 k 3), .bool (s0.c3 k)] 55)) wC1.heap.size 48 #[.int .u64 (s1.y1 k 0), .int .u64 (s1.y1 k 1), .int .u64 (s1.y1 k 2)] ∧ Blk (wC4.alloc (.cells #[.int .u64 (s0.y3 k 0), .int .u64 (s0.y3 k 1), .int .u64 (s0.y3 k 2), .int .u64 (s0.y3 k 3), .bool (s0.c3 k)] 55)) wC2.heap.size 48 #[.int .u64 (s0.y2 k 0), .int .u64 (s0.y2 k 1), .int .u64 (s0.y2 k 2)] ∧ Blk (wC4.alloc (.cells #[.int .u64 (s0.y3 k 0), .int .u64 (s0.y3 k 1), .int .u64 (s0.y3 k 2), .int .u64 (s0.y3 k 3), .bool (s0.c3 k)] 55)) wC3.heap.size 48 #[.int .u64 (s1.y2 k 0), .int .u64 (s1.y2 k 1), .int .u64 (s1.y2 k 2)] ∧ Blk (wC4.alloc (.cells #[.int .u64 (s0.y3 k 0), .int .u64 (s0.y3 k 1), .int .u64 (s0.y3 k 2), .int .u64 (s0.y3 k 3), .bool (s0.c3 k)] 55)) wC4.heap.size 55 #[.int .u64 (s0.y3 k 0), .int .u64 (s0.y3 k 1), .int .u64 (s0.y3 k 2), .int .u64 (s0.y3 k 3), .bool (s0.c3 k)] ∧ m0 < wC4.heap.size ∧ True from
        ⟨(HP4.out.1.t0 HLie.out hS hc).new hba, ((HP4.out.2.1.chg hc (fun e => by have := HLie.out.b0 _ e; have := mlt0.out; omega)).below hba), ((HP4.out.2.2.1.chg hc (fun e => by have := HLie.out.b0 _ e; have := mlt1.out; omega)).below hba), ((HP4.out.2.2.2.1.chg hc (fun e => by have := HLie.out.b0 _ e; have := mlt2.out; omega)).below hba), ((HP4.out.2.2.2.2.1.chg hc (fun e => by have := HLie.out.b0 _ e; have := mlt3.out; omega)).below hba), Blk.new wC4 _ _, by have := (HP4.out.1.t0 HLie.out hS hc).mb.lt; exact this, trivial⟩)
      clear hS hc hba HP4 p0
      have hms4 : wC4.heap.size = wC4.heap.size := rfl
      have mlt4 := Lib.hid (HP5.out.2.2.2.2.2.2.1)
      clear hms4
      have p1 := HP5.out.1.mb.cell 1 rfl
      go_wp2_with fail
      refine (ot_some (wC4.alloc (.cells #[.int .u64 (s0.y3 k 0), .int .u64 (s0.y3 k 1), .int .u64 (s0.y3 k 2), .int .u64 (s0.y3 k 3), .bool (s0.c3 k)] 55)) s1 (k + 1) (k + 1) k HP5.out.1.p1 (by rw [HC.out.2.2.2.2.2]; exact hlt)).mono ?_
      rintro e wC5 ⟨rfl, hS, hc⟩
      have hba : Below wC5.heap.size wC5 (wC5.alloc (.cells #[.int .u64 (s1.y3 k 0), .int .u64 (s1.y3 k 1), .int .u64 (s1.y3 k 2), .int .u64 (s1.y3 k 3), .bool (s1.c3 k)] 55)) := (Below.refl _ wC5).alloc (Nat.le_refl _) _
      have HP6 := Lib.hid (show Two w m0 s0 s1 (k + 1) (k + 1) (k + 1) (k + 1) (k + 1) (k + 1) (wC5.alloc (.cells #[.int .u64 (s1.y3 k 0), .int .u64 (s1.y3 k 1), .int .u64 (s1.y3 k 2), .int .u64 (s1.y3 k 3), .bool (s1.c3 k)] 55)) ∧ Blk (wC5.alloc (.cells #[.int .u64 (s1.y3 k 0), .int .u64 (s1.y3 k 1), .int .u64 (s1.y3 k 2), .int .u64 (s1.y3 k 3), .bool (s1.c3 k)] 55)) wC0.heap.size 48 #[.int .u64 (s0.y1 k 0), .int .u64 (s0.y1 k 1), .int .u64 (s0.y1 k 2)] ∧ Blk (wC5.alloc (.cells #[.int .u64 (s1.y3 k 0), .int .u64 (s1.y3 k 1), .int .u64 (s1.y3 k 2), .int .u64 (s1.y3 k 3), .bool (s1.c3 k)] 55)) wC1.heap.size 48 #[.int .u64 (s1.y1 k 0), .int .u64 (s1.y1 k 1), .int .u64 (s1.y1 k 2)] ∧ Blk (wC5.alloc (.cells #[.int .u64 (s1.y3 k 0), .int .u64 (s1.y3 k 1), .int .u64 (s1.y3 k 2), .int .u64 (s1.y3 k 3), .bool (s1.c3 k)] 55)) wC2.heap.size 48 #[.int .u64 (s0.y2 k 0), .int .u64 (s0.y2 k 1), .int .u64 (s0.y2 k 2)] ∧ Blk (wC5.alloc (.cells #[.int .u64 (s1.y3 k 0), .int .u64 (s1.y3 k 1), .int .u64 (s1.y3 k 2), .int .u64 (s1.y3 k 3), .bool (s1.c3 k)] 55)) wC3.heap.size 48 #[.int .u64 (s1.y2 k 0), .int .u64 (s1.y2 k 1), .int .u64 (s1.y2 k 2)] ∧ Blk (wC5.alloc (.cells #[.int .u64 (s1.y3 k 0), .int .u64 (s1.y3 k 1), .int .u64 (s1.y3 k 2), .int .u64 (s1.y3 k 3), .bool (s1.c3 k)] 55)) wC4.heap.size 55 #[.int .u64 (s0.y3 k 0), .int .u64 (s0.y3 k 1), .int .u64 (s0.y3 k 2), .int .u64 (s0.y3 k 3), .bool (s0.c3 k)] ∧ Blk (wC5.alloc (.cells #[.int .u64 (s1.y3 k 0), .int .u64 (s1.y3 k 1), .int .u64 (s1.y3 k 2), .int .u64 (s1.y3 k 3), .bool (s1.c3 k)] 55)) wC5.heap.size 55 #[.int .u64 (s1.y3 k 0), .int .u64 (s1.y3 k 1), .int .u64 (s1.y3 k 2), .int .u64 (s1.y3 k 3), .bool (s1.c3 k)] ∧ m0 < wC5.heap.size ∧ True from
        ⟨(HP5.out.1.t1 HLie.out hS hc).new hba, ((HP5.out.2.1.chg hc (fun e => by have := HLie.out.b1 _ e; have := mlt0.out; omega)).below hba), ((HP5.out.2.2.1.chg hc (fun e => by have := HLie.out.b1 _ e; have := mlt1.out; omega)).below hba), ((HP5.out.2.2.2.1.chg hc (fun e => by have := HLie.out.b1 _ e; have := mlt2.out; omega)).below hba), ((HP5.out.2.2.2.2.1.chg hc (fun e => by have := HLie.out.b1 _ e; have := mlt3.out; omega)).below hba), ((HP5.out.2.2.2.2.2.1.chg hc (fun e => by have := HLie.out.b1 _ e; have := mlt4.out; omega)).below hba), Blk.new wC5 _ _, by have := (HP5.out.1.t1 HLie.out hS hc).mb.lt; exact this, trivial⟩)
      clear hS hc hba HP5 p1
      have hms5 : wC5.heap.size = wC5.heap.size := rfl
      have mlt5 := Lib.hid (HP6.out.2.2.2.2.2.2.2.1)
      clear hms5
      have x00 := HP6.out.2.1.cell 0 rfl
      have x01 := HP6.out.2.1.cell 1 rfl
      have x02 := HP6.out.2.1.cell 2 rfl
      have x10 := HP6.out.2.2.1.cell 0 rfl
      have x11 := HP6.out.2.2.1.cell 1 rfl
      have x12 := HP6.out.2.2.1.cell 2 rfl
      have x20 := HP6.out.2.2.2.1.cell 0 rfl
      have x21 := HP6.out.2.2.2.1.cell 1 rfl
      have x22 := HP6.out.2.2.2.1.cell 2 rfl
      have x30 := HP6.out.2.2.2.2.1.cell 0 rfl
      have x31 := HP6.out.2.2.2.2.1.cell 1 rfl
      have x32 := HP6.out.2.2.2.2.1.cell 2 rfl
      have x40 := HP6.out.2.2.2.2.2.1.cell 0 rfl
      have x41 := HP6.out.2.2.2.2.2.1.cell 1 rfl
      have x42 := HP6.out.2.2.2.2.2.1.cell 2 rfl
      have x43 := HP6.out.2.2.2.2.2.1.cell 3 rfl
      have x44 := HP6.out.2.2.2.2.2.1.cell 4 rfl
      have x50 := HP6.out.2.2.2.2.2.2.1.cell 0 rfl
      have x51 := HP6.out.2.2.2.2.2.2.1.cell 1 rfl
      have x52 := HP6.out.2.2.2.2.2.2.1.cell 2 rfl
      have x53 := HP6.out.2.2.2.2.2.2.1.cell 3 rfl
      have x54 := HP6.out.2.2.2.2.2.2.1.cell 4 rfl
      have HT := Lib.hid HP6.out.1
      clear HP6 mlt0 mlt1 mlt2 mlt3 mlt4 mlt5
      obtain ⟨cc, hcc⟩ : ∃ cc, s1.c3 k = cc := ⟨_, rfl⟩
      rw [hcc] at HT x00 x01 x02 x10 x11 x12 x20 x21 x22 x30 x31 x32 x40 x41 x42 x43 x44 x50 x51 x52 x53 x54 ⊢
      have HCC := Lib.hid hcc
      clear hcc
      rcases cc with _ | _
      · go_wp2
        generalize (wC5.alloc (.cells #[.int .u64 (s1.y3 k 0), .int .u64 (s1.y3 k 1), .int .u64 (s1.y3 k 2), .int .u64 (s1.y3 k 3), .bool false] 55)) = wE at *
        generalize wC0.heap.size = z0 at *
        generalize wC1.heap.size = z1 at *
        generalize wC2.heap.size = z2 at *
        generalize wC3.heap.size = z3 at *
        generalize wC4.heap.size = z4 at *
        generalize wC5.heap.size = z5 at *
        have hf := HF.out k
        have ft := hf.t
        have fb := hf.b
        have f2 := hf.z2
        have f3 := hf.z3
        have fc := hf.c
        have g0 := (hf.o0 HCC.out).1
        have g1 := (hf.o0 HCC.out).2
        have feq := fun wx a b => eql_lab_same wx a b
        clear hf
        go_quiet (fail)
        go_wp2
        go_roundw
        case rel => exact ⟨k + 1, by omega, by go_num, HT.out.new (Below.drewN _ _)⟩
        case measure => simp [intOf]; omega
      · go_wp2
        generalize (wC5.alloc (.cells #[.int .u64 (s1.y3 k 0), .int .u64 (s1.y3 k 1), .int .u64 (s1.y3 k 2), .int .u64 (s1.y3 k 3), .bool true] 55)) = wE at *
        generalize wC0.heap.size = z0 at *
        generalize wC1.heap.size = z1 at *
        generalize wC2.heap.size = z2 at *
        generalize wC3.heap.size = z3 at *
        generalize wC4.heap.size = z4 at *
        generalize wC5.heap.size = z5 at *
        have hf := HF.out k
        have ft := hf.t
        have fb := hf.b
        have f2 := hf.z2
        have f3 := hf.z3
        have fc := hf.c
        have g0 := (hf.o1 HCC.out).1
        have g1 := (hf.o1 HCC.out).2
        have feq := fun wx a b => eql_lab_same wx a b
        clear hf
        go_quiet (fail)
        go_wp2
        go_roundw
        case rel => exact ⟨k + 1, by omega, by go_num, HT.out.new (Below.drewN _ _)⟩
        case measure => simp [intOf]; omega
    · have lt1 : ¬ ((k : Int) < (n : Int)) := by omega
      go_wp2
      go_ret
      exact ⟨rfl, HI.out.bl⟩
end Go.Proofs.YtgmlmngnedhllaaDoor
