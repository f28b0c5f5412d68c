/- What is dealt; the contract of Deal where the tape is long enough. -/
import Derived.Test.YtgmlmngnedhllaaDoorQD1
namespace Go.Proofs.YtgmlmngnedhllaaDoor
open Go.RowKit

/-- What lacks of a triple, of a bit triple, dealt from place p on. -/
def lackT (f : Nat → Int) (p : Nat) : Int := IntKind.u64.wrap (IntKind.u64.wrap (IntKind.u64.wrap (f p + f (p + 1)) * IntKind.u64.wrap (f (p + 2) + f (p + 3))) - f (p + 4))
def lackB (f : Nat → Int) (p : Nat) : Int := bits .xor .u64 (bits .and .u64 (bits .xor .u64 (f p) (f (p + 1))) (bits .xor .u64 (f (p + 2)) (f (p + 3)))) (f (p + 4))
def T0 (f : Nat → Int) (o : Nat) : Nat → Nat → Int := fun i j => f (o + 5 * i + 2 * j)
def T1 (f : Nat → Int) (o : Nat) : Nat → Nat → Int := fun i j => if j = 2 then lackT f (o + 5 * i) else f (o + 5 * i + 2 * j + 1)
def B1 (f : Nat → Int) (o : Nat) : Nat → Nat → Int := fun i j => if j = 2 then lackB f (o + 5 * i) else f (o + 5 * i + 2 * j + 1)
def O0 (f : Nat → Int) (o : Nat) : Nat → Nat → Int := fun i j => f (o + 5 * i + j)
def O1 (f : Nat → Int) (o : Nat) : Nat → Nat → Int := fun i j => if j < 2 then (if f (o + 5 * i + 4) % 2 = 1 then f (o + 5 * i + 2 + j) else f (o + 5 * i + j)) else 0
def C1 (f : Nat → Int) (o : Nat) : Nat → Bool := fun i => decide (f (o + 5 * i + 4) % 2 = 1)
theorem splitT_want (w : World) (x a b : Nat → Int) (h0 : x 0 = a 0) (h2 : x 2 = a 1) (h4 : x 4 = a 2) (h1 : x 1 = b 0) (h3 : x 3 = b 1) (h5 : IntKind.u64.wrap (IntKind.u64.wrap (IntKind.u64.wrap (x 0 + x 1) * IntKind.u64.wrap (x 2 + x 3)) - x 4) = b 2) :
    Calls Tryd.prog 23 #[.agg (fiv x)] w fun e w' => e = .returned (.tuple #[tri (a 0) (a 1) (a 2), tri (b 0) (b 1) (b 2)]) ∧ Below w.heap.size w w' := by
  rw [← h5, ← h0, ← h1, ← h2, ← h3, ← h4]; exact splitT_any w x
theorem splitB_want (w : World) (x a b : Nat → Int) (h0 : x 0 = a 0) (h2 : x 2 = a 1) (h4 : x 4 = a 2) (h1 : x 1 = b 0) (h3 : x 3 = b 1) (h5 : bits .xor .u64 (bits .and .u64 (bits .xor .u64 (x 0) (x 1)) (bits .xor .u64 (x 2) (x 3))) (x 4) = b 2) :
    Calls Tryd.prog 26 #[.agg (fiv x)] w fun e w' => e = .returned (.tuple #[tri (a 0) (a 1) (a 2), tri (b 0) (b 1) (b 2)]) ∧ Below w.heap.size w w' := by
  rw [← h5, ← h0, ← h1, ← h2, ← h3, ← h4]; exact splitB_any w x
theorem splitO_want (w : World) (x a b : Nat → Int) (ca cb : Bool) (ha : ∀ q, q < 4 → x q = a q) (hca : ca = false) (hb : ∀ q, q < 2 → b q = if x 4 % 2 = 1 then x (2 + q) else x q) (hb2 : b 2 = 0) (hb3 : b 3 = 0) (hcb : cb = decide (x 4 % 2 = 1)) :
    Calls Tryd.prog 27 #[.agg (fiv x)] w fun e w' => e = .returned (.tuple #[otv (a 0) (a 1) (a 2) (a 3) ca, otv (b 0) (b 1) (b 2) (b 3) cb]) ∧ Below w.heap.size w w' := by
  subst hca hcb
  rw [← ha 0 (by omega), ← ha 1 (by omega), ← ha 2 (by omega), ← ha 3 (by omega), hb 0 (by omega), hb 1 (by omega), hb2, hb3]
  rcases and_one (x 4) with h | h
  · have := splitO_any0 w x h
    rw [and_one_mod] at h
    have hn : ¬ (x 4 % 2 = 1) := by omega
    simpa [hn] using this
  · have := splitO_any1 w x h
    rw [and_one_mod] at h
    simpa [h] using this
/-- What else is about while two stocks are filled out of a tape. -/
structure Dl (w : World) (g h N : Nat) (f : Nat → Int) (s0 s1 : Sk) (i0 j0 k0 i1 j1 k1 u : Nat) (w' : World) : Prop where
  p0 : Fil w' s0 i0 j0 k0
  p1 : Fil w' s1 i1 j1 k1
  tp : Tap w' g h N f u
  rb : Blk w' w.heap.size 29 #[.pointer none, .pointer none]
  ch : Chg (fun q => q = g) w w'
/-- The blocks are apart. -/
structure Ap (w : World) (g h : Nat) (s0 s1 : Sk) : Prop where
  a0 : ∀ q, s0.own q → w.heap.size < q
  a1 : ∀ q, s1.own q → w.heap.size < q
  ap : ∀ q, s0.own q → s1.own q → False
  lg : g < w.heap.size
  lh : h < w.heap.size
theorem Chg.after {S S' : Nat → Prop} {w w' w2 : World} (h : Chg S w w') (h' : Chg S' w' w2) (hs : ∀ q, S' q → w.heap.size ≤ q ∨ S q) : Chg S w w2 :=
  ⟨h'.os.trans h.os, h'.tape.trans h.tape, h'.output.trans h.output, Nat.le_trans h.size h'.size, fun k hk hg => (h'.block k (Nat.lt_of_lt_of_le hk h.size) (fun e => by
    rcases hs k e with e | e
    · omega
    · exact hg e)).trans (h.block k hk hg)⟩
section
variable {w w' w2 : World} {g h N : Nat} {f : Nat → Int} {s0 s1 : Sk} {i0 j0 k0 i1 j1 k1 u : Nat}
theorem Dl.new (d : Dl w g h N f s0 s1 i0 j0 k0 i1 j1 k1 u w') (hb : Below w'.heap.size w' w2) : Dl w g h N f s0 s1 i0 j0 k0 i1 j1 k1 u w2 :=
  ⟨d.p0.below hb, d.p1.below hb, d.tp.below hb, d.rb.below hb, d.ch.trans (Chg.of_below hb fun k hk hk' => by omega)⟩
theorem Dl.draw (d : Dl w g h N f s0 s1 i0 j0 k0 i1 j1 k1 u w') (A : Ap w g h s0 s1) {u' : Nat} (ht : Tap w2 g h N f u') (hk : Keep g w' w2) : Dl w g h N f s0 s1 i0 j0 k0 i1 j1 k1 u' w2 :=
  have hc : Chg (fun q => q = g) w' w2 := Chg.of_keep hk rfl
  ⟨d.p0.chg hc fun q hq e => by have := A.a0 q hq; have := A.lg; omega, d.p1.chg hc fun q hq e => by have := A.a1 q hq; have := A.lg; omega, ht, d.rb.chg hc (by have := A.lg; omega), d.ch.trans hc⟩
theorem Dl.add0 (d : Dl w g h N f s0 s1 i0 j0 k0 i1 j1 k1 u w') (A : Ap w g h s0 s1) {i j k : Nat} (hf : Fil w2 s0 i j k) (hc : Chg s0.own w' w2) : Dl w g h N f s0 s1 i j k i1 j1 k1 u w2 :=
  ⟨hf, d.p1.chg hc fun q hq e => A.ap q e hq, d.tp.chg hc (fun e => by have := A.a0 _ e; have := A.lg; omega) (fun e => by have := A.a0 _ e; have := A.lh; omega), d.rb.chg hc (fun e => by have := A.a0 _ e; omega), d.ch.after hc fun q e => .inl (by have := A.a0 q e; omega)⟩
theorem Dl.add1 (d : Dl w g h N f s0 s1 i0 j0 k0 i1 j1 k1 u w') (A : Ap w g h s0 s1) {i j k : Nat} (hf : Fil w2 s1 i j k) (hc : Chg s1.own w' w2) : Dl w g h N f s0 s1 i0 j0 k0 i j k u w2 :=
  ⟨d.p0.chg hc fun q hq e => A.ap q hq e, hf, d.tp.chg hc (fun e => by have := A.a1 _ e; have := A.lg; omega) (fun e => by have := A.a1 _ e; have := A.lh; omega), d.rb.chg hc (fun e => by have := A.a1 _ e; omega), d.ch.after hc fun q e => .inl (by have := A.a1 q e; omega)⟩
end
/-- Two stocks, as they are dealt. -/
structure Dealt (f : Nat → Int) (n1 n2 n3 : Nat) (s0 s1 : Sk) : Prop where
  a1 : s0.n1 = n1
  a2 : s0.n2 = n2
  a3 : s0.n3 = n3
  b1 : s1.n1 = n1
  b2 : s1.n2 = n2
  b3 : s1.n3 = n3
  y1 : s0.y1 = T0 f 0
  y2 : s0.y2 = T0 f (5 * n1)
  y3 : s0.y3 = O0 f (5 * (n1 + n2))
  c3 : s0.c3 = fun _ => false
  z1 : s1.y1 = T1 f 0
  z2 : s1.y2 = B1 f (5 * n1)
  z3 : s1.y3 = O1 f (5 * (n1 + n2))
  d3 : s1.c3 = C1 f (5 * (n1 + n2))
end Go.Proofs.YtgmlmngnedhllaaDoor
