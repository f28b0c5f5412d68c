/- CorrApart's walk. -/
import Derived.Test.YtgmlmngnedhllaaDoorQX2a
namespace Go.Proofs.YtgmlmngnedhllaaDoor
open Go.RowKit

set_option maxHeartbeats 8000000 in
set_option maxRecDepth 100000 in
theorem apart_walk (A : Option Addr) (len c : Nat) (f : Nat → Int) (zn zm : Int) (w : World) (hh : Handle w) (hA : AtO w A len f) (h1 : len ≤ c) (h2 : c ≤ maxLen) (h3 : A = none → len = 0 ∧ c = 0) :
    Calls Tryd.prog 6 #[.slice A len c, .int .i64 zn, .int .i64 zm] w fun e w' => e = .returned (.bool true) ∧ Below w.heap.size w w' := by
  obtain ⟨m, hm⟩ : ∃ m, m = min len 300 := ⟨_, rfl⟩
  have hmc : m ≤ c := by omega
  have hml : m ≤ len := by omega
  have hm300 : m ≤ 300 := by omega
  have m1 : (if (300 : Int) < (len : Int) then (300 : Int) else (len : Int)) = (m : Int) := by split <;> omega
  have m2 : (if 300 < len then (300 : Int) else (len : Int)) = (m : Int) := by split <;> omega
  clear hm
  obtain ⟨d, n, r, mo, q1, q2, q3, q4, q5, q6, q7, q8, q9, qa, qb, qc, qd, qe, hn2, ho2, hN⟩ := apart_nums m zn zm hm300
  have HN := Lib.hid hN
  have HL := Lib.hid (fun wx (hb : Below w.heap.size w wx) => load_any (.slice A m c) m f wx (Lst.head (hA.below hb) h1 h2 h3 hml) (by have := HN.out.1; omega))
  have hsl := fun wx => run_headW wx A len c m hmc
  have HH := Lib.hid hh
  clear hA h1 h2 h3 hh hmc hml hm300 hN
  go_enter Tryd.func6, Tryd.ntmps6
  go_wp2_with fail
  refine (awake_any _ HH.out).mono ?_
  rintro e v0 ⟨rfl, hb1⟩
  have HB0 := Lib.hid hb1
  clear hb1
  go_wp2_with fail
  refine (HL.out v0 HB0.out).mono ?_
  rintro e x0 ⟨g0, h0, hg, hh, rfl, hT, hbx⟩
  have HX0 := Lib.hid (And.intro hT (And.intro hbx (And.intro hg hh)))
  clear hT hbx hg hh
  clear m1 m2 hsl q1 q2 q3 q4 q5 q6 q7 q8 q9 qa qb qc qd qe hn2 ho2
  go_wp2_with fail
  refine (deal_ok x0 g0 h0 m f n 0 0 HX0.out.1 (by have := HN.out; omega) (by have := HN.out; omega) (by have := HN.out; omega) (by have := HN.out; omega)).mono ?_
  rintro e w0 ⟨s0, s1, rfl, hD, hAp, hS0, hS1, _, hc⟩
  have HD0 := Lib.hid hD
  have HV0 : Hid (Below v0.heap.size v0 (w0.alloc (.cells #[.pointer (some ⟨s0.g, 0, none⟩), .pointer (some ⟨s1.g, 0, none⟩)] 29)) ∧ Stk (w0.alloc (.cells #[.pointer (some ⟨s0.g, 0, none⟩), .pointer (some ⟨s1.g, 0, none⟩)] 29)) s0 ∧ Stk (w0.alloc (.cells #[.pointer (some ⟨s0.g, 0, none⟩), .pointer (some ⟨s1.g, 0, none⟩)] 29)) s1 ∧ Blk (w0.alloc (.cells #[.pointer (some ⟨s0.g, 0, none⟩), .pointer (some ⟨s1.g, 0, none⟩)] 29)) w0.heap.size 29 #[.pointer (some ⟨s0.g, 0, none⟩), .pointer (some ⟨s1.g, 0, none⟩)] ∧ (∀ x, s0.own x → v0.heap.size ≤ x ∧ x < w0.heap.size) ∧ (∀ x, s1.own x → v0.heap.size ≤ x ∧ x < w0.heap.size) ∧ (∀ x, s0.own x → s1.own x → False) ∧ v0.heap.size ≤ w0.heap.size ∧ (w0.alloc (.cells #[.pointer (some ⟨s0.g, 0, none⟩), .pointer (some ⟨s1.g, 0, none⟩)] 29)).heap.size = w0.heap.size + 1) := by
    obtain ⟨hT, hbx, hg, hh⟩ := HX0.out
    have hz := hbx.size
    have hb : Below v0.heap.size v0 w0 := hbx.trans (hc.below (B := v0.heap.size) hz fun k e => by omega)
    have hba := stocks_cells w0 (.pointer (some ⟨s0.g, 0, none⟩)) (.pointer (some ⟨s1.g, 0, none⟩))
    exact ⟨hb.trans (hba.mono hb.size), hS0.below hba, hS1.below hba, Blk.new w0 _ _, fun x hx => ⟨by have := hAp.a0 x hx; omega, hS0.lt hx⟩, fun x hx => ⟨by have := hAp.a1 x hx; omega, hS1.lt hx⟩, hAp.ap, hb.size, by simp⟩
  clear hD hAp hS0 hS1 hc HX0
  obtain ⟨v1, hv1⟩ : ∃ x, x = (w0.alloc (.cells #[.pointer (some ⟨s0.g, 0, none⟩), .pointer (some ⟨s1.g, 0, none⟩)] 29)) := ⟨_, rfl⟩
  have HB1 : Hid (Below w.heap.size w v1) := by rw [hv1]; exact HB0.out.trans (HV0.out.1.mono HB0.out.size)
  rw [← hv1] at HV0
  have HE1 := Lib.hid hv1
  clear hv1
  go_wp2_with fail
  rw [← HE1.out]
  refine (HL.out _ HB1.out).mono ?_
  rintro e x1 ⟨g1, h1, hg, hh, rfl, hT, hbx⟩
  have HX1 := Lib.hid (And.intro hT (And.intro hbx (And.intro hg hh)))
  clear hT hbx hg hh
  go_wp2_with fail
  refine (deal_ok x1 g1 h1 m f n mo 0 HX1.out.1 (by have := HN.out; omega) (by have := HN.out; omega) (by have := HN.out; omega) (by have := HN.out; omega)).mono ?_
  rintro e w1 ⟨t0, t1, rfl, hD, hAp, hS0, hS1, _, hc⟩
  have HD1 := Lib.hid hD
  have HV1 : Hid (Below v1.heap.size v1 (w1.alloc (.cells #[.pointer (some ⟨t0.g, 0, none⟩), .pointer (some ⟨t1.g, 0, none⟩)] 29)) ∧ Stk (w1.alloc (.cells #[.pointer (some ⟨t0.g, 0, none⟩), .pointer (some ⟨t1.g, 0, none⟩)] 29)) t0 ∧ Stk (w1.alloc (.cells #[.pointer (some ⟨t0.g, 0, none⟩), .pointer (some ⟨t1.g, 0, none⟩)] 29)) t1 ∧ Blk (w1.alloc (.cells #[.pointer (some ⟨t0.g, 0, none⟩), .pointer (some ⟨t1.g, 0, none⟩)] 29)) w1.heap.size 29 #[.pointer (some ⟨t0.g, 0, none⟩), .pointer (some ⟨t1.g, 0, none⟩)] ∧ (∀ x, t0.own x → v1.heap.size ≤ x ∧ x < w1.heap.size) ∧ (∀ x, t1.own x → v1.heap.size ≤ x ∧ x < w1.heap.size) ∧ (∀ x, t0.own x → t1.own x → False) ∧ v1.heap.size ≤ w1.heap.size ∧ (w1.alloc (.cells #[.pointer (some ⟨t0.g, 0, none⟩), .pointer (some ⟨t1.g, 0, none⟩)] 29)).heap.size = w1.heap.size + 1) := by
    obtain ⟨hT, hbx, hg, hh⟩ := HX1.out
    have hz := hbx.size
    have hb : Below v1.heap.size v1 w1 := hbx.trans (hc.below (B := v1.heap.size) hz fun k e => by omega)
    have hba := stocks_cells w1 (.pointer (some ⟨t0.g, 0, none⟩)) (.pointer (some ⟨t1.g, 0, none⟩))
    exact ⟨hb.trans (hba.mono hb.size), hS0.below hba, hS1.below hba, Blk.new w1 _ _, fun x hx => ⟨by have := hAp.a0 x hx; omega, hS0.lt hx⟩, fun x hx => ⟨by have := hAp.a1 x hx; omega, hS1.lt hx⟩, hAp.ap, hb.size, by simp⟩
  clear hD hAp hS0 hS1 hc HX1
  obtain ⟨v2, hv2⟩ : ∃ x, x = (w1.alloc (.cells #[.pointer (some ⟨t0.g, 0, none⟩), .pointer (some ⟨t1.g, 0, none⟩)] 29)) := ⟨_, rfl⟩
  have HB2 : Hid (Below w.heap.size w v2) := by rw [hv2]; exact HB1.out.trans (HV1.out.1.mono HB1.out.size)
  rw [← hv2] at HV1
  have HE2 := Lib.hid hv2
  clear hv2
  go_wp2_with fail
  rw [← HE2.out]
  refine (HL.out _ HB2.out).mono ?_
  rintro e x2 ⟨g2, h2, hg, hh, rfl, hT, hbx⟩
  have HX2 := Lib.hid (And.intro hT (And.intro hbx (And.intro hg hh)))
  clear hT hbx hg hh
  go_wp2_with fail
  refine (deal_ok x2 g2 h2 m f n 0 mo HX2.out.1 (by have := HN.out; omega) (by have := HN.out; omega) (by have := HN.out; omega) (by have := HN.out; omega)).mono ?_
  rintro e w2 ⟨u0, u1, rfl, hD, hAp, hS0, hS1, _, hc⟩
  have HD2 := Lib.hid hD
  have HV2 : Hid (Below v2.heap.size v2 (w2.alloc (.cells #[.pointer (some ⟨u0.g, 0, none⟩), .pointer (some ⟨u1.g, 0, none⟩)] 29)) ∧ Stk (w2.alloc (.cells #[.pointer (some ⟨u0.g, 0, none⟩), .pointer (some ⟨u1.g, 0, none⟩)] 29)) u0 ∧ Stk (w2.alloc (.cells #[.pointer (some ⟨u0.g, 0, none⟩), .pointer (some ⟨u1.g, 0, none⟩)] 29)) u1 ∧ Blk (w2.alloc (.cells #[.pointer (some ⟨u0.g, 0, none⟩), .pointer (some ⟨u1.g, 0, none⟩)] 29)) w2.heap.size 29 #[.pointer (some ⟨u0.g, 0, none⟩), .pointer (some ⟨u1.g, 0, none⟩)] ∧ (∀ x, u0.own x → v2.heap.size ≤ x ∧ x < w2.heap.size) ∧ (∀ x, u1.own x → v2.heap.size ≤ x ∧ x < w2.heap.size) ∧ (∀ x, u0.own x → u1.own x → False) ∧ v2.heap.size ≤ w2.heap.size ∧ (w2.alloc (.cells #[.pointer (some ⟨u0.g, 0, none⟩), .pointer (some ⟨u1.g, 0, none⟩)] 29)).heap.size = w2.heap.size + 1) := by
    obtain ⟨hT, hbx, hg, hh⟩ := HX2.out
    have hz := hbx.size
    have hb : Below v2.heap.size v2 w2 := hbx.trans (hc.below (B := v2.heap.size) hz fun k e => by omega)
    have hba := stocks_cells w2 (.pointer (some ⟨u0.g, 0, none⟩)) (.pointer (some ⟨u1.g, 0, none⟩))
    exact ⟨hb.trans (hba.mono hb.size), hS0.below hba, hS1.below hba, Blk.new w2 _ _, fun x hx => ⟨by have := hAp.a0 x hx; omega, hS0.lt hx⟩, fun x hx => ⟨by have := hAp.a1 x hx; omega, hS1.lt hx⟩, hAp.ap, hb.size, by simp⟩
  clear hD hAp hS0 hS1 hc HX2
  obtain ⟨v3, hv3⟩ : ∃ x, x = (w2.alloc (.cells #[.pointer (some ⟨u0.g, 0, none⟩), .pointer (some ⟨u1.g, 0, none⟩)] 29)) := ⟨_, rfl⟩
  have HB3 : Hid (Below w.heap.size w v3) := by rw [hv3]; exact HB2.out.trans (HV2.out.1.mono HB2.out.size)
  rw [← hv3] at HV2
  have HE3 := Lib.hid hv3
  clear hv3
  have HL3 : Hid (Lx w w0.heap.size w1.heap.size w2.heap.size s0 s1 t0 t1 u0 u1) := by
    obtain ⟨_, _, _, _, a1, a2, a3, a4, a5⟩ := HV0.out
    obtain ⟨_, _, _, _, b1, b2, b3, b4, b5⟩ := HV1.out
    obtain ⟨_, _, _, _, c1, c2, c3, c4, c5⟩ := HV2.out
    have hz := HB0.out.size
    exact ⟨fun x hx => by have := a1 x hx; omega, fun x hx => by have := a2 x hx; omega, fun x hx => by have := b1 x hx; omega, fun x hx => by have := b2 x hx; omega, fun x hx => by have := c1 x hx; omega, fun x hx => by have := c2 x hx; omega, a3, b3, c3, by omega, by omega, by omega⟩
  have HS : Hid (Sx w w0.heap.size w1.heap.size w2.heap.size s0 s1 t0 t1 u0 u1 0 0 0 0 0 0 v3) := by
    obtain ⟨_, a1, a2, a3, _⟩ := HV0.out
    obtain ⟨k1, b1, b2, b3, _⟩ := HV1.out
    obtain ⟨k2, c1, c2, c3, _⟩ := HV2.out
    exact ⟨(a1.below k1).below k2, (a2.below k1).below k2, b1.below k2, b2.below k2, c1, c2, (a3.below k1).below k2, b3.below k2, c3, HB3.out⟩
  have HQ : Hid ((s0.n1 = n ∧ s1.n1 = n ∧ t0.n1 = n ∧ t1.n1 = n ∧ u0.n1 = n ∧ u1.n1 = n) ∧ (t1.n2 = mo ∧ u0.n3 = mo) ∧ (t0.y1 = s0.y1 ∧ u0.y1 = s0.y1) ∧ t1.y1 = s1.y1 ∧ u1.y1 = s1.y1) :=
    ⟨⟨HD0.out.a1, HD0.out.b1, HD1.out.a1, HD1.out.b1, HD2.out.a1, HD2.out.b1⟩, ⟨HD1.out.b2, HD2.out.a3⟩, ⟨HD1.out.y1.trans HD0.out.y1.symm, HD2.out.y1.trans HD0.out.y1.symm⟩, HD1.out.z1.trans HD0.out.z1.symm, HD2.out.z1.trans HD0.out.z1.symm⟩
  clear HV0 HV1 HV2 HD0 HD1 HD2 HB0 HB1 HB2 HB3 HL
  go_wp2
  rw [← HE3.out]
  generalize w0.heap.size = m1 at *
  generalize w1.heap.size = m2 at *
  generalize w2.heap.size = m3 at *
  clear HE1 HE2 HE3
  go_loopw [13] (fun i wr => ∃ k : Nat, k ≤ n ∧ i = .int .i64 k ∧ Hid (Sx w m1 m2 m3 s0 s1 t0 t1 u0 u1 k k k k k k wr)) (fun i _ => n - (intOf i).toNat)
  case atStart => exact ⟨0, by omega, rfl, HS.out⟩
  case round =>
    obtain ⟨k, hk, rfl, HI⟩ := hrel
    obtain ⟨wA, hwA⟩ : ∃ x, x = wr := ⟨_, rfl⟩
    subst hwA
    by_cases hlt : k < n
    · have lt1 : (k : Int) < (n : Int) := by omega
      have HK := Lib.hid (And.intro hk hlt)
      clear hk hlt
      go_wp2
      go_loopw [14] (fun i wr => Hid ((i = .int .i64 0 ∧ Sx w m1 m2 m3 s0 s1 t0 t1 u0 u1 k k k k k k wr) ∨ (i = .int .i64 1 ∧ Sx w m1 m2 m3 s0 s1 t0 t1 u0 u1 (k + 1) k (k + 1) k (k + 1) k wr) ∨ (i = .int .i64 2 ∧ Sx w m1 m2 m3 s0 s1 t0 t1 u0 u1 (k + 1) (k + 1) (k + 1) (k + 1) (k + 1) (k + 1) wr))) (fun i _ => 2 - (intOf i).toNat)
      case atStart => exact .inl ⟨rfl, HI.out⟩
      case round =>
        rcases hrel.out with ⟨rfl, hJ⟩ | ⟨rfl, hJ⟩ | ⟨rfl, hJ⟩
        all_goals
          have HJ := Lib.hid hJ
          clear hJ HI hrel
        · have p0 := HJ.out.b0.cell 0 rfl
          go_wp2_with fail
          refine (triple_want wr s0 k 0 0 (s0.y1 k 0) (s0.y1 k 1) (s0.y1 k 2) HJ.out.p0 (by rw [HQ.out.1.1]; exact HK.out.2) rfl rfl rfl).mono ?_
          rintro e y0 ⟨rfl, hS, hc⟩
          have hba : Below y0.heap.size y0 (y0.alloc (.cells #[.int .u64 (s0.y1 k 0), .int .u64 (s0.y1 k 1), .int .u64 (s0.y1 k 2)] 48)) := (Below.refl _ y0).alloc (Nat.le_refl _) _
          have HJ0 := Lib.hid (show Sx w m1 m2 m3 s0 s1 t0 t1 u0 u1 (k + 1) k k k k k (y0.alloc (.cells #[.int .u64 (s0.y1 k 0), .int .u64 (s0.y1 k 1), .int .u64 (s0.y1 k 2)] 48)) ∧ Blk (y0.alloc (.cells #[.int .u64 (s0.y1 k 0), .int .u64 (s0.y1 k 1), .int .u64 (s0.y1 k 2)] 48)) y0.heap.size 48 #[.int .u64 (s0.y1 k 0), .int .u64 (s0.y1 k 1), .int .u64 (s0.y1 k 2)] ∧ m3 < y0.heap.size ∧ True from
            ⟨(HJ.out.k0 HL3.out hS hc).new hba, Blk.new y0 _ _, by have := (HJ.out.k0 HL3.out hS hc).b2.lt; exact this, trivial⟩)
          clear hS hc hba HJ p0
          have p1 := HJ0.out.1.b1.cell 0 rfl
          go_wp2_with fail
          refine (triple_want (y0.alloc (.cells #[.int .u64 (s0.y1 k 0), .int .u64 (s0.y1 k 1), .int .u64 (s0.y1 k 2)] 48)) t0 k 0 0 (s0.y1 k 0) (s0.y1 k 1) (s0.y1 k 2) HJ0.out.1.p2 (by rw [HQ.out.1.2.2.1]; exact HK.out.2) (by rw [HQ.out.2.2.1.1]) (by rw [HQ.out.2.2.1.1]) (by rw [HQ.out.2.2.1.1])).mono ?_
          rintro e y1 ⟨rfl, hS, hc⟩
          have hba : Below y1.heap.size y1 (y1.alloc (.cells #[.int .u64 (s0.y1 k 0), .int .u64 (s0.y1 k 1), .int .u64 (s0.y1 k 2)] 48)) := (Below.refl _ y1).alloc (Nat.le_refl _) _
          have HJ1 := Lib.hid (show Sx w m1 m2 m3 s0 s1 t0 t1 u0 u1 (k + 1) k (k + 1) k k k (y1.alloc (.cells #[.int .u64 (s0.y1 k 0), .int .u64 (s0.y1 k 1), .int .u64 (s0.y1 k 2)] 48)) ∧ Blk (y1.alloc (.cells #[.int .u64 (s0.y1 k 0), .int .u64 (s0.y1 k 1), .int .u64 (s0.y1 k 2)] 48)) y0.heap.size 48 #[.int .u64 (s0.y1 k 0), .int .u64 (s0.y1 k 1), .int .u64 (s0.y1 k 2)] ∧ m3 < y0.heap.size ∧ Blk (y1.alloc (.cells #[.int .u64 (s0.y1 k 0), .int .u64 (s0.y1 k 1), .int .u64 (s0.y1 k 2)] 48)) y1.heap.size 48 #[.int .u64 (s0.y1 k 0), .int .u64 (s0.y1 k 1), .int .u64 (s0.y1 k 2)] ∧ m3 < y1.heap.size ∧ True from
            ⟨(HJ0.out.1.k2 HL3.out hS hc).new hba, ((HJ0.out.2.1.chg hc (fun e => by have := HL3.out.l2 _ e; have := HL3.out.m12; have := HL3.out.m23; have := HJ0.out.2.2.1; omega)).below hba), HJ0.out.2.2.1, Blk.new y1 _ _, by have := (HJ0.out.1.k2 HL3.out hS hc).b2.lt; exact this, trivial⟩)
          clear hS hc hba HJ0 p1
          have p2 := HJ1.out.1.b2.cell 0 rfl
          go_wp2_with fail
          refine (triple_want (y1.alloc (.cells #[.int .u64 (s0.y1 k 0), .int .u64 (s0.y1 k 1), .int .u64 (s0.y1 k 2)] 48)) u0 k 0 0 (s0.y1 k 0) (s0.y1 k 1) (s0.y1 k 2) HJ1.out.1.p4 (by rw [HQ.out.1.2.2.2.2.1]; exact HK.out.2) (by rw [HQ.out.2.2.1.2]) (by rw [HQ.out.2.2.1.2]) (by rw [HQ.out.2.2.1.2])).mono ?_
          rintro e y2 ⟨rfl, hS, hc⟩
          have hba : Below y2.heap.size y2 (y2.alloc (.cells #[.int .u64 (s0.y1 k 0), .int .u64 (s0.y1 k 1), .int .u64 (s0.y1 k 2)] 48)) := (Below.refl _ y2).alloc (Nat.le_refl _) _
          have HJ2 := Lib.hid (show Sx w m1 m2 m3 s0 s1 t0 t1 u0 u1 (k + 1) k (k + 1) k (k + 1) k (y2.alloc (.cells #[.int .u64 (s0.y1 k 0), .int .u64 (s0.y1 k 1), .int .u64 (s0.y1 k 2)] 48)) ∧ Blk (y2.alloc (.cells #[.int .u64 (s0.y1 k 0), .int .u64 (s0.y1 k 1), .int .u64 (s0.y1 k 2)] 48)) y0.heap.size 48 #[.int .u64 (s0.y1 k 0), .int .u64 (s0.y1 k 1), .int .u64 (s0.y1 k 2)] ∧ m3 < y0.heap.size ∧ Blk (y2.alloc (.cells #[.int .u64 (s0.y1 k 0), .int .u64 (s0.y1 k 1), .int .u64 (s0.y1 k 2)] 48)) y1.heap.size 48 #[.int .u64 (s0.y1 k 0), .int .u64 (s0.y1 k 1), .int .u64 (s0.y1 k 2)] ∧ m3 < y1.heap.size ∧ Blk (y2.alloc (.cells #[.int .u64 (s0.y1 k 0), .int .u64 (s0.y1 k 1), .int .u64 (s0.y1 k 2)] 48)) y2.heap.size 48 #[.int .u64 (s0.y1 k 0), .int .u64 (s0.y1 k 1), .int .u64 (s0.y1 k 2)] ∧ m3 < y2.heap.size ∧ True from
            ⟨(HJ1.out.1.k4 HL3.out hS hc).new hba, ((HJ1.out.2.1.chg hc (fun e => by have := HL3.out.l4 _ e; have := HL3.out.m12; have := HL3.out.m23; have := HJ1.out.2.2.1; omega)).below hba), HJ1.out.2.2.1, ((HJ1.out.2.2.2.1.chg hc (fun e => by have := HL3.out.l4 _ e; have := HL3.out.m12; have := HL3.out.m23; have := HJ1.out.2.2.2.2.1; omega)).below hba), HJ1.out.2.2.2.2.1, Blk.new y2 _ _, by have := (HJ1.out.1.k4 HL3.out hS hc).b2.lt; exact this, trivial⟩)
          clear hS hc hba HJ1 p2
          have x00 := HJ2.out.2.1.cell 0 rfl
          have x01 := HJ2.out.2.1.cell 1 rfl
          have x02 := HJ2.out.2.1.cell 2 rfl
          have x10 := HJ2.out.2.2.2.1.cell 0 rfl
          have x11 := HJ2.out.2.2.2.1.cell 1 rfl
          have x12 := HJ2.out.2.2.2.1.cell 2 rfl
          have x20 := HJ2.out.2.2.2.2.2.1.cell 0 rfl
          have x21 := HJ2.out.2.2.2.2.2.1.cell 1 rfl
          have x22 := HJ2.out.2.2.2.2.2.1.cell 2 rfl
          go_wp2
          go_roundw
          case rel => exact .inr (.inl ⟨by go_num, HJ2.out.1⟩)
          case measure => simp [intOf]
        · have p0 := HJ.out.b0.cell 1 rfl
          go_wp2_with fail
          refine (triple_want wr s1 k 0 0 (s1.y1 k 0) (s1.y1 k 1) (s1.y1 k 2) HJ.out.p1 (by rw [HQ.out.1.2.1]; exact HK.out.2) rfl rfl rfl).mono ?_
          rintro e y0 ⟨rfl, hS, hc⟩
          have hba : Below y0.heap.size y0 (y0.alloc (.cells #[.int .u64 (s1.y1 k 0), .int .u64 (s1.y1 k 1), .int .u64 (s1.y1 k 2)] 48)) := (Below.refl _ y0).alloc (Nat.le_refl _) _
          have HJ0 := Lib.hid (show Sx w m1 m2 m3 s0 s1 t0 t1 u0 u1 (k + 1) (k + 1) (k + 1) k (k + 1) k (y0.alloc (.cells #[.int .u64 (s1.y1 k 0), .int .u64 (s1.y1 k 1), .int .u64 (s1.y1 k 2)] 48)) ∧ Blk (y0.alloc (.cells #[.int .u64 (s1.y1 k 0), .int .u64 (s1.y1 k 1), .int .u64 (s1.y1 k 2)] 48)) y0.heap.size 48 #[.int .u64 (s1.y1 k 0), .int .u64 (s1.y1 k 1), .int .u64 (s1.y1 k 2)] ∧ m3 < y0.heap.size ∧ True from
            ⟨(HJ.out.k1 HL3.out hS hc).new hba, Blk.new y0 _ _, by have := (HJ.out.k1 HL3.out hS hc).b2.lt; exact this, trivial⟩)
          clear hS hc hba HJ p0
          have p1 := HJ0.out.1.b1.cell 1 rfl
          go_wp2_with fail
          refine (triple_want (y0.alloc (.cells #[.int .u64 (s1.y1 k 0), .int .u64 (s1.y1 k 1), .int .u64 (s1.y1 k 2)] 48)) t1 k 0 0 (s1.y1 k 0) (s1.y1 k 1) (s1.y1 k 2) HJ0.out.1.p3 (by rw [HQ.out.1.2.2.2.1]; exact HK.out.2) (by rw [HQ.out.2.2.2.1]) (by rw [HQ.out.2.2.2.1]) (by rw [HQ.out.2.2.2.1])).mono ?_
          rintro e y1 ⟨rfl, hS, hc⟩
          have hba : Below y1.heap.size y1 (y1.alloc (.cells #[.int .u64 (s1.y1 k 0), .int .u64 (s1.y1 k 1), .int .u64 (s1.y1 k 2)] 48)) := (Below.refl _ y1).alloc (Nat.le_refl _) _
          have HJ1 := Lib.hid (show Sx w m1 m2 m3 s0 s1 t0 t1 u0 u1 (k + 1) (k + 1) (k + 1) (k + 1) (k + 1) k (y1.alloc (.cells #[.int .u64 (s1.y1 k 0), .int .u64 (s1.y1 k 1), .int .u64 (s1.y1 k 2)] 48)) ∧ Blk (y1.alloc (.cells #[.int .u64 (s1.y1 k 0), .int .u64 (s1.y1 k 1), .int .u64 (s1.y1 k 2)] 48)) y0.heap.size 48 #[.int .u64 (s1.y1 k 0), .int .u64 (s1.y1 k 1), .int .u64 (s1.y1 k 2)] ∧ m3 < y0.heap.size ∧ Blk (y1.alloc (.cells #[.int .u64 (s1.y1 k 0), .int .u64 (s1.y1 k 1), .int .u64 (s1.y1 k 2)] 48)) y1.heap.size 48 #[.int .u64 (s1.y1 k 0), .int .u64 (s1.y1 k 1), .int .u64 (s1.y1 k 2)] ∧ m3 < y1.heap.size ∧ True from
            ⟨(HJ0.out.1.k3 HL3.out hS hc).new hba, ((HJ0.out.2.1.chg hc (fun e => by have := HL3.out.l3 _ e; have := HL3.out.m12; have := HL3.out.m23; have := HJ0.out.2.2.1; omega)).below hba), HJ0.out.2.2.1, Blk.new y1 _ _, by have := (HJ0.out.1.k3 HL3.out hS hc).b2.lt; exact this, trivial⟩)
          clear hS hc hba HJ0 p1
          have p2 := HJ1.out.1.b2.cell 1 rfl
          go_wp2_with fail
          refine (triple_want (y1.alloc (.cells #[.int .u64 (s1.y1 k 0), .int .u64 (s1.y1 k 1), .int .u64 (s1.y1 k 2)] 48)) u1 k 0 0 (s1.y1 k 0) (s1.y1 k 1) (s1.y1 k 2) HJ1.out.1.p5 (by rw [HQ.out.1.2.2.2.2.2]; exact HK.out.2) (by rw [HQ.out.2.2.2.2]) (by rw [HQ.out.2.2.2.2]) (by rw [HQ.out.2.2.2.2])).mono ?_
          rintro e y2 ⟨rfl, hS, hc⟩
          have hba : Below y2.heap.size y2 (y2.alloc (.cells #[.int .u64 (s1.y1 k 0), .int .u64 (s1.y1 k 1), .int .u64 (s1.y1 k 2)] 48)) := (Below.refl _ y2).alloc (Nat.le_refl _) _
          have HJ2 := Lib.hid (show Sx w m1 m2 m3 s0 s1 t0 t1 u0 u1 (k + 1) (k + 1) (k + 1) (k + 1) (k + 1) (k + 1) (y2.alloc (.cells #[.int .u64 (s1.y1 k 0), .int .u64 (s1.y1 k 1), .int .u64 (s1.y1 k 2)] 48)) ∧ Blk (y2.alloc (.cells #[.int .u64 (s1.y1 k 0), .int .u64 (s1.y1 k 1), .int .u64 (s1.y1 k 2)] 48)) y0.heap.size 48 #[.int .u64 (s1.y1 k 0), .int .u64 (s1.y1 k 1), .int .u64 (s1.y1 k 2)] ∧ m3 < y0.heap.size ∧ Blk (y2.alloc (.cells #[.int .u64 (s1.y1 k 0), .int .u64 (s1.y1 k 1), .int .u64 (s1.y1 k 2)] 48)) y1.heap.size 48 #[.int .u64 (s1.y1 k 0), .int .u64 (s1.y1 k 1), .int .u64 (s1.y1 k 2)] ∧ m3 < y1.heap.size ∧ Blk (y2.alloc (.cells #[.int .u64 (s1.y1 k 0), .int .u64 (s1.y1 k 1), .int .u64 (s1.y1 k 2)] 48)) y2.heap.size 48 #[.int .u64 (s1.y1 k 0), .int .u64 (s1.y1 k 1), .int .u64 (s1.y1 k 2)] ∧ m3 < y2.heap.size ∧ True from
            ⟨(HJ1.out.1.k5 HL3.out hS hc).new hba, ((HJ1.out.2.1.chg hc (fun e => by have := HL3.out.l5 _ e; have := HL3.out.m12; have := HL3.out.m23; have := HJ1.out.2.2.1; omega)).below hba), HJ1.out.2.2.1, ((HJ1.out.2.2.2.1.chg hc (fun e => by have := HL3.out.l5 _ e; have := HL3.out.m12; have := HL3.out.m23; have := HJ1.out.2.2.2.2.1; omega)).below hba), HJ1.out.2.2.2.2.1, Blk.new y2 _ _, by have := (HJ1.out.1.k5 HL3.out hS hc).b2.lt; exact this, trivial⟩)
          clear hS hc hba HJ1 p2
          have x00 := HJ2.out.2.1.cell 0 rfl
          have x01 := HJ2.out.2.1.cell 1 rfl
          have x02 := HJ2.out.2.1.cell 2 rfl
          have x10 := HJ2.out.2.2.2.1.cell 0 rfl
          have x11 := HJ2.out.2.2.2.1.cell 1 rfl
          have x12 := HJ2.out.2.2.2.1.cell 2 rfl
          have x20 := HJ2.out.2.2.2.2.2.1.cell 0 rfl
          have x21 := HJ2.out.2.2.2.2.2.1.cell 1 rfl
          have x22 := HJ2.out.2.2.2.2.2.1.cell 2 rfl
          go_wp2
          go_roundw
          case rel => exact .inr (.inr ⟨by go_num, HJ2.out.1⟩)
          case measure => simp [intOf]
        · have e1 : IntKind.i64.wrap ((k : Int) + 1) = (k : Int) + 1 := i64_nat _ (by omega) (by have := HK.out; have := HN.out; omega)
          go_wp2
          go_roundw
          case rel => exact ⟨k + 1, by have := HK.out; omega, by go_num, HJ.out⟩
          case measure => simp [intOf]; have := HK.out; omega
    · have lt1 : ¬ ((k : Int) < (n : Int)) := by omega
      have p1 := HI.out.b1.cell 1 rfl
      go_wp2_with fail
      refine (cleft_any wA (t1.adv k 0 0) HI.out.p3).mono ?_
      rintro e y0 ⟨rfl, q0, rfl⟩
      have HJ := Lib.hid (HI.out.new (Below.drewN wA q0))
      generalize wA.drewN q0 = y1 at *
      have p2 := HJ.out.b2.cell 0 rfl
      clear p1
      have e2 : (t1.adv k 0 0).n2 = mo := HQ.out.2.1.1
      rw [e2]
      go_wp2_with fail
      refine (cleft_any y1 (u0.adv k 0 0) HJ.out.p4).mono ?_
      rintro e y2 ⟨rfl, q1, rfl⟩
      have e3 : (u0.adv k 0 0).n3 = mo := HQ.out.2.1.2
      rw [e3]
      go_wp2
      go_ret
      exact ⟨rfl, (HJ.out.new (Below.drewN y1 q1)).bl⟩
end Go.Proofs.YtgmlmngnedhllaaDoor
