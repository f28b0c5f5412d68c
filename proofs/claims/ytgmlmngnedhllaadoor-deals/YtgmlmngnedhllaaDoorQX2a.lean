/- Six stocks that a law draws from. -/
import Derived.Test.YtgmlmngnedhllaaDoorQX1a
namespace Go.Proofs.YtgmlmngnedhllaaDoor
open Go.RowKit

theorem umod (z m : Int) (hm : 0 < m) (hm2 : m ≤ 18446744073709551616) : ∃ k : Nat, (k : Int) < m ∧ (IntKind.u64.wrap z).tmod m = (k : Int) ∧ z % 18446744073709551616 % m = (k : Int) := by
  have h0 : 0 ≤ z % 18446744073709551616 := Int.emod_nonneg _ (by omega)
  have h1 := Int.emod_nonneg (z % 18446744073709551616) (show m ≠ 0 by omega)
  have h2 := Int.emod_lt_of_pos (z % 18446744073709551616) hm
  refine ⟨(z % 18446744073709551616 % m).toNat, by omega, ?_, by omega⟩
  rw [u64w, Int.tmod_eq_emod_of_nonneg h0]
  omega
theorem apart_nums (m : Nat) (zn zm : Int) (hm : m ≤ 300) : ∃ d n r mo : Nat, (m : Int).tdiv 5 = (d : Int) ∧ wrap64 (d : Int) = (d : Int) ∧ IntKind.i64.wrap ((d : Int) + 1) = (d : Int) + 1 ∧ IntKind.u64.wrap ((d : Int) + 1) = (d : Int) + 1 ∧ IntKind.i64.wrap (n : Int) = (n : Int) ∧ IntKind.u64.wrap (n : Int) = (n : Int) ∧ wrap64 (n : Int) = (n : Int) ∧
    IntKind.i64.wrap ((d : Int) + 1 - (n : Int)) = (r : Int) ∧ IntKind.u64.wrap (r : Int) = (r : Int) ∧ IntKind.i64.wrap (mo : Int) = (mo : Int) ∧ IntKind.u64.wrap (mo : Int) = (mo : Int) ∧ wrap64 (mo : Int) = (mo : Int) ∧ ¬ ((d : Int) + 1 = 0) ∧ ¬ ((r : Int) = 0) ∧ (IntKind.u64.wrap zn).tmod ((d : Int) + 1) = (n : Int) ∧ (IntKind.u64.wrap zm).tmod (r : Int) = (mo : Int) ∧
    (m ≤ 300 ∧ 5 * (n + mo) ≤ m ∧ n ≤ 65536 ∧ mo ≤ 65536) := by
  obtain ⟨d, hd⟩ : ∃ d, d = m / 5 := ⟨_, rfl⟩
  have hd5 : 5 * d ≤ m := by omega
  obtain ⟨n, hn1, hn2, -⟩ := umod zn ((d : Int) + 1) (by omega) (by omega)
  obtain ⟨r, hr⟩ : ∃ r : Nat, r = d + 1 - n := ⟨_, rfl⟩
  have hrn : r + n = d + 1 := by omega
  have hr0 : 0 < r := by omega
  obtain ⟨mo, ho1, ho2, -⟩ := umod zm (r : Int) (by omega) (by omega)
  have ho : mo < r := by omega
  have hn : n ≤ d := by omega
  have sm : ∀ x : Nat, x ≤ 1000 → IntKind.i64.wrap (x : Int) = (x : Int) ∧ IntKind.u64.wrap (x : Int) = (x : Int) ∧ wrap64 (x : Int) = (x : Int) := fun x hx => ⟨i64_nat _ (by omega) (by omega), by rw [u64w]; omega, by unfold wrap64; omega⟩
  have e1 : (d : Int) + 1 = ((d + 1 : Nat) : Int) := by omega
  have e2 : (d : Int) + 1 - (n : Int) = (r : Int) := by omega
  refine ⟨d, n, r, mo, by rw [hd]; rfl, (sm d (by omega)).2.2, by rw [e1]; exact (sm _ (by omega)).1, by rw [e1]; exact (sm _ (by omega)).2.1, (sm n (by omega)).1, (sm n (by omega)).2.1, (sm n (by omega)).2.2, by rw [e2]; exact (sm r (by omega)).1, (sm r (by omega)).2.1, (sm mo (by omega)).1, (sm mo (by omega)).2.1, (sm mo (by omega)).2.2, by omega, by omega, hn2, ho2, ⟨hm, by omega, by omega, by omega⟩⟩
/-- Six stocks that a law draws from, and where their pointers are. -/
structure Sx (w : World) (m1 m2 m3 : Nat) (s0 s1 t0 t1 u0 u1 : Sk) (c0 d0 c1 d1 c2 d2 : Nat) (w' : World) : Prop where
  p0 : Stk w' (s0.adv c0 0 0)
  p1 : Stk w' (s1.adv d0 0 0)
  p2 : Stk w' (t0.adv c1 0 0)
  p3 : Stk w' (t1.adv d1 0 0)
  p4 : Stk w' (u0.adv c2 0 0)
  p5 : Stk w' (u1.adv d2 0 0)
  b0 : Blk w' m1 29 #[.pointer (some ⟨s0.g, 0, none⟩), .pointer (some ⟨s1.g, 0, none⟩)]
  b1 : Blk w' m2 29 #[.pointer (some ⟨t0.g, 0, none⟩), .pointer (some ⟨t1.g, 0, none⟩)]
  b2 : Blk w' m3 29 #[.pointer (some ⟨u0.g, 0, none⟩), .pointer (some ⟨u1.g, 0, none⟩)]
  bl : Below w.heap.size w w'
structure Lx (w : World) (m1 m2 m3 : Nat) (s0 s1 t0 t1 u0 u1 : Sk) : Prop where
  l0 : ∀ x, s0.own x → w.heap.size ≤ x ∧ x < m1
  l1 : ∀ x, s1.own x → w.heap.size ≤ x ∧ x < m1
  l2 : ∀ x, t0.own x → m1 < x ∧ x < m2
  l3 : ∀ x, t1.own x → m1 < x ∧ x < m2
  l4 : ∀ x, u0.own x → m2 < x ∧ x < m3
  l5 : ∀ x, u1.own x → m2 < x ∧ x < m3
  a0 : ∀ x, s0.own x → s1.own x → False
  a1 : ∀ x, t0.own x → t1.own x → False
  a2 : ∀ x, u0.own x → u1.own x → False
  m0 : w.heap.size ≤ m1
  m12 : m1 < m2
  m23 : m2 < m3
section
variable {w w' w2 : World} {m1 m2 m3 : Nat} {s0 s1 t0 t1 u0 u1 : Sk} {c0 d0 c1 d1 c2 d2 : Nat}
theorem Sx.new (d : Sx w m1 m2 m3 s0 s1 t0 t1 u0 u1 c0 d0 c1 d1 c2 d2 w') (hb : Below w'.heap.size w' w2) : Sx w m1 m2 m3 s0 s1 t0 t1 u0 u1 c0 d0 c1 d1 c2 d2 w2 :=
  ⟨d.p0.below hb, d.p1.below hb, d.p2.below hb, d.p3.below hb, d.p4.below hb, d.p5.below hb, d.b0.below hb, d.b1.below hb, d.b2.below hb, d.bl.trans (hb.mono d.bl.size)⟩
theorem Sx.k0 (d : Sx w m1 m2 m3 s0 s1 t0 t1 u0 u1 c0 d0 c1 d1 c2 d2 w') (L : Lx w m1 m2 m3 s0 s1 t0 t1 u0 u1) {n : Nat} (hs : Stk w2 (s0.adv n 0 0)) (hc : Chg s0.own w' w2) : Sx w m1 m2 m3 s0 s1 t0 t1 u0 u1 n d0 c1 d1 c2 d2 w2 :=
  ⟨hs, d.p1.chg hc fun x hx e => L.a0 x e hx, d.p2.chg hc fun x hx e => by have h1 := L.l2 x hx; have h2 := L.l0 x e; have := L.m0; have := L.m12; have := L.m23; omega, d.p3.chg hc fun x hx e => by have h1 := L.l3 x hx; have h2 := L.l0 x e; have := L.m0; have := L.m12; have := L.m23; omega, d.p4.chg hc fun x hx e => by have h1 := L.l4 x hx; have h2 := L.l0 x e; have := L.m0; have := L.m12; have := L.m23; omega, d.p5.chg hc fun x hx e => by have h1 := L.l5 x hx; have h2 := L.l0 x e; have := L.m0; have := L.m12; have := L.m23; omega, d.b0.chg hc (fun e => by have h2 := L.l0 _ e; have := L.m0; have := L.m12; have := L.m23; omega), d.b1.chg hc (fun e => by have h2 := L.l0 _ e; have := L.m0; have := L.m12; have := L.m23; omega), d.b2.chg hc (fun e => by have h2 := L.l0 _ e; have := L.m0; have := L.m12; have := L.m23; omega), d.bl.trans (hc.below d.bl.size fun x e => by have h2 := L.l0 x e; have := L.m0; have := L.m12; have := L.m23; omega)⟩
theorem Sx.k1 (d : Sx w m1 m2 m3 s0 s1 t0 t1 u0 u1 c0 d0 c1 d1 c2 d2 w') (L : Lx w m1 m2 m3 s0 s1 t0 t1 u0 u1) {n : Nat} (hs : Stk w2 (s1.adv n 0 0)) (hc : Chg s1.own w' w2) : Sx w m1 m2 m3 s0 s1 t0 t1 u0 u1 c0 n c1 d1 c2 d2 w2 :=
  ⟨d.p0.chg hc fun x hx e => L.a0 x hx e, hs, d.p2.chg hc fun x hx e => by have h1 := L.l2 x hx; have h2 := L.l1 x e; have := L.m0; have := L.m12; have := L.m23; omega, d.p3.chg hc fun x hx e => by have h1 := L.l3 x hx; have h2 := L.l1 x e; have := L.m0; have := L.m12; have := L.m23; omega, d.p4.chg hc fun x hx e => by have h1 := L.l4 x hx; have h2 := L.l1 x e; have := L.m0; have := L.m12; have := L.m23; omega, d.p5.chg hc fun x hx e => by have h1 := L.l5 x hx; have h2 := L.l1 x e; have := L.m0; have := L.m12; have := L.m23; omega, d.b0.chg hc (fun e => by have h2 := L.l1 _ e; have := L.m0; have := L.m12; have := L.m23; omega), d.b1.chg hc (fun e => by have h2 := L.l1 _ e; have := L.m0; have := L.m12; have := L.m23; omega), d.b2.chg hc (fun e => by have h2 := L.l1 _ e; have := L.m0; have := L.m12; have := L.m23; omega), d.bl.trans (hc.below d.bl.size fun x e => by have h2 := L.l1 x e; have := L.m0; have := L.m12; have := L.m23; omega)⟩
theorem Sx.k2 (d : Sx w m1 m2 m3 s0 s1 t0 t1 u0 u1 c0 d0 c1 d1 c2 d2 w') (L : Lx w m1 m2 m3 s0 s1 t0 t1 u0 u1) {n : Nat} (hs : Stk w2 (t0.adv n 0 0)) (hc : Chg t0.own w' w2) : Sx w m1 m2 m3 s0 s1 t0 t1 u0 u1 c0 d0 n d1 c2 d2 w2 :=
  ⟨d.p0.chg hc fun x hx e => by have h1 := L.l0 x hx; have h2 := L.l2 x e; have := L.m0; have := L.m12; have := L.m23; omega, d.p1.chg hc fun x hx e => by have h1 := L.l1 x hx; have h2 := L.l2 x e; have := L.m0; have := L.m12; have := L.m23; omega, hs, d.p3.chg hc fun x hx e => L.a1 x e hx, d.p4.chg hc fun x hx e => by have h1 := L.l4 x hx; have h2 := L.l2 x e; have := L.m0; have := L.m12; have := L.m23; omega, d.p5.chg hc fun x hx e => by have h1 := L.l5 x hx; have h2 := L.l2 x e; have := L.m0; have := L.m12; have := L.m23; omega, d.b0.chg hc (fun e => by have h2 := L.l2 _ e; have := L.m0; have := L.m12; have := L.m23; omega), d.b1.chg hc (fun e => by have h2 := L.l2 _ e; have := L.m0; have := L.m12; have := L.m23; omega), d.b2.chg hc (fun e => by have h2 := L.l2 _ e; have := L.m0; have := L.m12; have := L.m23; omega), d.bl.trans (hc.below d.bl.size fun x e => by have h2 := L.l2 x e; have := L.m0; have := L.m12; have := L.m23; omega)⟩
theorem Sx.k3 (d : Sx w m1 m2 m3 s0 s1 t0 t1 u0 u1 c0 d0 c1 d1 c2 d2 w') (L : Lx w m1 m2 m3 s0 s1 t0 t1 u0 u1) {n : Nat} (hs : Stk w2 (t1.adv n 0 0)) (hc : Chg t1.own w' w2) : Sx w m1 m2 m3 s0 s1 t0 t1 u0 u1 c0 d0 c1 n c2 d2 w2 :=
  ⟨d.p0.chg hc fun x hx e => by have h1 := L.l0 x hx; have h2 := L.l3 x e; have := L.m0; have := L.m12; have := L.m23; omega, d.p1.chg hc fun x hx e => by have h1 := L.l1 x hx; have h2 := L.l3 x e; have := L.m0; have := L.m12; have := L.m23; omega, d.p2.chg hc fun x hx e => L.a1 x hx e, hs, d.p4.chg hc fun x hx e => by have h1 := L.l4 x hx; have h2 := L.l3 x e; have := L.m0; have := L.m12; have := L.m23; omega, d.p5.chg hc fun x hx e => by have h1 := L.l5 x hx; have h2 := L.l3 x e; have := L.m0; have := L.m12; have := L.m23; omega, d.b0.chg hc (fun e => by have h2 := L.l3 _ e; have := L.m0; have := L.m12; have := L.m23; omega), d.b1.chg hc (fun e => by have h2 := L.l3 _ e; have := L.m0; have := L.m12; have := L.m23; omega), d.b2.chg hc (fun e => by have h2 := L.l3 _ e; have := L.m0; have := L.m12; have := L.m23; omega), d.bl.trans (hc.below d.bl.size fun x e => by have h2 := L.l3 x e; have := L.m0; have := L.m12; have := L.m23; omega)⟩
theorem Sx.k4 (d : Sx w m1 m2 m3 s0 s1 t0 t1 u0 u1 c0 d0 c1 d1 c2 d2 w') (L : Lx w m1 m2 m3 s0 s1 t0 t1 u0 u1) {n : Nat} (hs : Stk w2 (u0.adv n 0 0)) (hc : Chg u0.own w' w2) : Sx w m1 m2 m3 s0 s1 t0 t1 u0 u1 c0 d0 c1 d1 n d2 w2 :=
  ⟨d.p0.chg hc fun x hx e => by have h1 := L.l0 x hx; have h2 := L.l4 x e; have := L.m0; have := L.m12; have := L.m23; omega, d.p1.chg hc fun x hx e => by have h1 := L.l1 x hx; have h2 := L.l4 x e; have := L.m0; have := L.m12; have := L.m23; omega, d.p2.chg hc fun x hx e => by have h1 := L.l2 x hx; have h2 := L.l4 x e; have := L.m0; have := L.m12; have := L.m23; omega, d.p3.chg hc fun x hx e => by have h1 := L.l3 x hx; have h2 := L.l4 x e; have := L.m0; have := L.m12; have := L.m23; omega, hs, d.p5.chg hc fun x hx e => L.a2 x e hx, d.b0.chg hc (fun e => by have h2 := L.l4 _ e; have := L.m0; have := L.m12; have := L.m23; omega), d.b1.chg hc (fun e => by have h2 := L.l4 _ e; have := L.m0; have := L.m12; have := L.m23; omega), d.b2.chg hc (fun e => by have h2 := L.l4 _ e; have := L.m0; have := L.m12; have := L.m23; omega), d.bl.trans (hc.below d.bl.size fun x e => by have h2 := L.l4 x e; have := L.m0; have := L.m12; have := L.m23; omega)⟩
theorem Sx.k5 (d : Sx w m1 m2 m3 s0 s1 t0 t1 u0 u1 c0 d0 c1 d1 c2 d2 w') (L : Lx w m1 m2 m3 s0 s1 t0 t1 u0 u1) {n : Nat} (hs : Stk w2 (u1.adv n 0 0)) (hc : Chg u1.own w' w2) : Sx w m1 m2 m3 s0 s1 t0 t1 u0 u1 c0 d0 c1 d1 c2 n w2 :=
  ⟨d.p0.chg hc fun x hx e => by have h1 := L.l0 x hx; have h2 := L.l5 x e; have := L.m0; have := L.m12; have := L.m23; omega, d.p1.chg hc fun x hx e => by have h1 := L.l1 x hx; have h2 := L.l5 x e; have := L.m0; have := L.m12; have := L.m23; omega, d.p2.chg hc fun x hx e => by have h1 := L.l2 x hx; have h2 := L.l5 x e; have := L.m0; have := L.m12; have := L.m23; omega, d.p3.chg hc fun x hx e => by have h1 := L.l3 x hx; have h2 := L.l5 x e; have := L.m0; have := L.m12; have := L.m23; omega, d.p4.chg hc fun x hx e => L.a2 x hx e, hs, d.b0.chg hc (fun e => by have h2 := L.l5 _ e; have := L.m0; have := L.m12; have := L.m23; omega), d.b1.chg hc (fun e => by have h2 := L.l5 _ e; have := L.m0; have := L.m12; have := L.m23; omega), d.b2.chg hc (fun e => by have h2 := L.l5 _ e; have := L.m0; have := L.m12; have := L.m23; omega), d.bl.trans (hc.below d.bl.size fun x e => by have h2 := L.l5 x e; have := L.m0; have := L.m12; have := L.m23; omega)⟩
end
end Go.Proofs.YtgmlmngnedhllaaDoor
