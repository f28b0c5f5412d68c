/- What is dealt fits; two stocks that a law draws from; labels compared. -/
import Derived.Test.YtgmlmngnedhllaaDoorQX0
namespace Go.Proofs.YtgmlmngnedhllaaDoor
open Go.RowKit

theorem xor_bv (a b : Int) : bits .xor .u64 a b = ((BitVec.ofInt 64 a ^^^ BitVec.ofInt 64 b).toNat : Int) := by
  show IntKind.u64.wrap ((BitVec.ofInt 64 a ^^^ BitVec.ofInt 64 b).toNat : Int) = _
  have := (BitVec.ofInt 64 a ^^^ BitVec.ofInt 64 b).isLt
  rw [u64w]; omega
theorem and_bv (a b : Int) : bits .and .u64 a b = ((BitVec.ofInt 64 a &&& BitVec.ofInt 64 b).toNat : Int) := by
  show IntKind.u64.wrap ((BitVec.ofInt 64 a &&& BitVec.ofInt 64 b).toNat : Int) = _
  have := (BitVec.ofInt 64 a &&& BitVec.ofInt 64 b).isLt
  rw [u64w]; omega
theorem ofInt_bv (b : BitVec 64) : BitVec.ofInt 64 (b.toNat : Int) = b := by
  rw [BitVec.ofInt_natCast, BitVec.ofNat_toNat, BitVec.setWidth_eq]
theorem lack_xor (a b c d e : Int) : bits .and .u64 (bits .xor .u64 a b) (bits .xor .u64 c d) = bits .xor .u64 e (bits .xor .u64 (bits .and .u64 (bits .xor .u64 a b) (bits .xor .u64 c d)) e) := by
  generalize bits .xor .u64 a b = x
  generalize bits .xor .u64 c d = y
  rw [and_bv, xor_bv, xor_bv, ofInt_bv, ofInt_bv]
  generalize BitVec.ofInt 64 e = p
  generalize BitVec.ofInt 64 x &&& BitVec.ofInt 64 y = r
  congr 2
  rw [BitVec.xor_comm r p, ← BitVec.xor_assoc, BitVec.xor_self, BitVec.zero_xor]
/-- What is dealt fits. -/
structure Fits (s0 s1 : Sk) (k : Nat) : Prop where
  t : IntKind.u64.wrap (IntKind.u64.wrap (s0.y1 k 0 + s1.y1 k 0) * IntKind.u64.wrap (s0.y1 k 1 + s1.y1 k 1)) = IntKind.u64.wrap (s0.y1 k 2 + s1.y1 k 2)
  b : bits .and .u64 (bits .xor .u64 (s0.y2 k 0) (s1.y2 k 0)) (bits .xor .u64 (s0.y2 k 1) (s1.y2 k 1)) = bits .xor .u64 (s0.y2 k 2) (s1.y2 k 2)
  o1 : s1.c3 k = true → s1.y3 k 0 = s0.y3 k 2 ∧ s1.y3 k 1 = s0.y3 k 3
  o0 : s1.c3 k = false → s1.y3 k 0 = s0.y3 k 0 ∧ s1.y3 k 1 = s0.y3 k 1
  z2 : s1.y3 k 2 = 0
  z3 : s1.y3 k 3 = 0
  c : s0.c3 k = false
theorem dealt_fits {f : Nat → Int} {n1 n2 n3 : Nat} {s0 s1 : Sk} (h : Dealt f n1 n2 n3 s0 s1) (k : Nat) : Fits s0 s1 k := by
  refine ⟨?_, ?_, ?_, ?_, ?_, ?_, ?_⟩
  · rw [h.y1, h.z1]
    simp only [T0, T1, lackT, Nat.mul_zero, Nat.mul_one, Nat.zero_add, Nat.add_zero, if_neg (show ¬ (0 = 2) by omega), if_neg (show ¬ (1 = 2) by omega), if_true, show 2 * 2 = 4 from rfl]
    generalize f (5 * k + 4) = e
    rw [show 5 * k + 2 + 1 = 5 * k + 3 by omega]
    generalize IntKind.u64.wrap (f (5 * k) + f (5 * k + 1)) * IntKind.u64.wrap (f (5 * k + 2) + f (5 * k + 3)) = X
    simp only [u64w]
    omega
  · rw [h.y2, h.z2]
    simp only [T0, B1, lackB, Nat.mul_zero, Nat.mul_one, Nat.add_zero, if_neg (show ¬ (0 = 2) by omega), if_neg (show ¬ (1 = 2) by omega), if_true, show 2 * 2 = 4 from rfl, show 5 * n1 + 5 * k + 2 + 1 = 5 * n1 + 5 * k + 3 by omega]
    exact lack_xor _ _ _ _ _
  · intro hc
    rw [h.d3] at hc
    rw [h.y3, h.z3]
    have hc' : f (5 * (n1 + n2) + 5 * k + 4) % 2 = 1 := by simpa [C1] using hc
    simp [O0, O1, hc']
  · intro hc
    rw [h.d3] at hc
    rw [h.y3, h.z3]
    have hc' : ¬ f (5 * (n1 + n2) + 5 * k + 4) % 2 = 1 := by simpa [C1] using hc
    simp [O0, O1, hc']
  · rw [h.z3]; simp [O1]
  · rw [h.z3]; simp [O1]
  · rw [h.c3]
theorem Tryd.info64 : (Tryd.prog.info? 46).map (fun i => (i.zero, i.size, i.bytes)) = some (some (.int .u64 0), 1, 8) := by kernel_rfl
abbrev lab (a b : Int) : Value := .agg #[.int .u64 a, .int .u64 b]
theorem run_eql_lab (w : World) (d : Nat) (a b a' b' : Int) : (Op.equalIn (d + 1 + 1) 52 (lab a b) (lab a' b')).run Tryd.prog w = .ok ((a == a') && (b == b')) w := by
  obtain ⟨i0, hi, _, hz1, _⟩ := info_parts Tryd.info64
  have hs : (sizeOf 46).run Tryd.prog w = .ok 1 w := by simp [sizeOf, typeInfo, hi, hz1]
  unfold Op.equalIn
  simp only [Sem.run_bind, run_underlying Tryd.underlying52, Result.andThen_ok, hs]
  have h1 : ∀ (x y : Int), (part 46 #[Value.int .u64 x, Value.int .u64 y] 0).run Tryd.prog w = .ok (.int .u64 x) w := by
    intro x y; simp [go_sem, part]
  have h2 : ∀ (x y : Int), (part 46 #[Value.int .u64 x, Value.int .u64 y] 1).run Tryd.prog w = .ok (.int .u64 y) w := by
    intro x y; simp [go_sem, part]
  have h3 : ∀ (x y : Int), (Op.equalIn (d + 1) 46 (.int .u64 x) (.int .u64 y)).run Tryd.prog w = .ok (x == y) w := fun x y => run_equalIn_int w d 46 .u64 .u64 x y Tryd.underlying46
  simp only [Std.Legacy.Range.forIn_eq_forIn_range', Std.Legacy.Range.size]
  simp only [show List.range' 0 ((2 - 0 + 1 - 1) / 1) 1 = [0, 1] from rfl, List.forIn_cons, List.forIn_nil, Nat.zero_mul, Nat.one_mul, Sem.run_bind, h1, h3, Result.andThen_ok]
  by_cases e : a = a'
  · subst e
    by_cases e2 : b = b'
    · subst e2; simp [h2, h3]
    · simp [e2, h2, h3]
  · simp [e]
theorem eql_lab_same (w : World) (a b : Int) : (Op.equalIn 10000 52 (lab a b) (lab a b)).run Tryd.prog w = .ok true w := by
  have := run_eql_lab w 9998 a b a b
  simpa using this
/-- Two stocks that a law draws from. -/
structure Two (w : World) (m : Nat) (s0 s1 : Sk) (i0 j0 k0 i1 j1 k1 : Nat) (w' : World) : Prop where
  p0 : Stk w' (s0.adv i0 j0 k0)
  p1 : Stk w' (s1.adv i1 j1 k1)
  mb : Blk w' m 29 #[.pointer (some ⟨s0.g, 0, none⟩), .pointer (some ⟨s1.g, 0, none⟩)]
  bl : Below w.heap.size w w'
structure Lie (w : World) (m : Nat) (s0 s1 : Sk) : Prop where
  ap : ∀ q, s0.own q → s1.own q → False
  a0 : ∀ q, s0.own q → w.heap.size ≤ q
  a1 : ∀ q, s1.own q → w.heap.size ≤ q
  b0 : ∀ q, s0.own q → q < m
  b1 : ∀ q, s1.own q → q < m
section
variable {w w' w2 : World} {m : Nat} {s0 s1 : Sk} {i0 j0 k0 i1 j1 k1 : Nat}
theorem Two.new (d : Two w m s0 s1 i0 j0 k0 i1 j1 k1 w') (hb : Below w'.heap.size w' w2) : Two w m s0 s1 i0 j0 k0 i1 j1 k1 w2 :=
  ⟨d.p0.below hb, d.p1.below hb, d.mb.below hb, d.bl.trans (hb.mono d.bl.size)⟩
theorem Two.t0 (d : Two w m s0 s1 i0 j0 k0 i1 j1 k1 w') (L : Lie w m s0 s1) {i j k : Nat} (hs : Stk w2 (s0.adv i j k)) (hc : Chg s0.own w' w2) : Two w m s0 s1 i j k i1 j1 k1 w2 :=
  ⟨hs, d.p1.chg hc fun q hq e => L.ap q e hq, d.mb.chg hc (fun e => by have := L.b0 _ e; omega), d.bl.trans (hc.below d.bl.size fun k e => L.a0 k e)⟩
theorem Two.t1 (d : Two w m s0 s1 i0 j0 k0 i1 j1 k1 w') (L : Lie w m s0 s1) {i j k : Nat} (hs : Stk w2 (s1.adv i j k)) (hc : Chg s1.own w' w2) : Two w m s0 s1 i0 j0 k0 i j k w2 :=
  ⟨d.p0.chg hc fun q hq e => L.ap q hq e, hs, d.mb.chg hc (fun e => by have := L.b1 _ e; omega), d.bl.trans (hc.below d.bl.size fun k e => L.a1 k e)⟩
end
theorem elemU : Tryd.prog.elem 22 = 46 := by kernel_rfl
theorem undU : Tryd.prog.underlying 22 = some (.slice (Tryd.prog.elem 22)) := by rw [elemU]; exact Tryd.underlying22
theorem sizeU (w : World) : (sizeOf (Tryd.prog.elem 22)).run Tryd.prog w = .ok 1 w := by
  obtain ⟨i0, hi, _, hz1, _⟩ := infoW
  rw [elemU]
  simp [sizeOf, typeInfo, hi, hz1]
theorem run_headW (w : World) (A : Option Addr) (n c h : Nat) (hc : h ≤ c) :
    (Instr.slice 22 (.slice A n c) none (some (.int .i64 (h : Int))) none).run Tryd.prog w = .ok (.slice A h c) w := by
  have hr := run_slice_h w 22 A n c undU .i64 (h : Int) (by omega) (by omega)
  rw [sizeU] at hr
  rw [hr]
  simp only [Result.andThen, sliced, Int.toNat_natCast, Nat.sub_zero, Nat.zero_mul]
  rcases A with _ | ad
  · simp
  · simp [Addr.add]
/-- The first of some words, m of them. -/
theorem Lst.head {w : World} {A : Option Addr} {n c m : Nat} {f : Nat → Int} (hA : AtO w A n f) (h1 : n ≤ c) (h2 : c ≤ maxLen) (h3 : A = none → n = 0 ∧ c = 0) (hm : m ≤ n) : Lst w (.slice A m c) m f :=
  ⟨A, c, rfl, by omega, h2, fun e => (h3 e).2, fun i hi => hA i (by omega)⟩
theorem Below.drewN (w : World) (q : Nat) : Below w.heap.size w (w.drewN q) := ⟨rfl, rfl, rfl, Nat.le_refl _, fun _ _ => rfl⟩
theorem stocks_cells (w : World) (a b : Value) : Below w.heap.size w (w.alloc (.cells #[a, b] 29)) := (Below.refl _ w).alloc (Nat.le_refl _) _
end Go.Proofs.YtgmlmngnedhllaaDoor
