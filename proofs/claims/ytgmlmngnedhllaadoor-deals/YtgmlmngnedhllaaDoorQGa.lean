/- What 'gives' of the law needs: lists that stay while a stock is used up; OTs compared. -/
import Derived.Test.YtgmlmngnedhllaaDoorQX3
import Derived.Deep.CutBlock
import Derived.Deep.DeepCutAuto
namespace Go.Proofs.YtgmlmngnedhllaaDoor
open Go.RowKit

/-- Numbers that are read from where a list begins. -/
def AtI (w : World) (A : Option Addr) (n : Nat) (f : Nat → Int) : Prop := ∀ i, i < n → ∃ ad, A = some ad ∧ w.cell? (ad.add i) = some (.int .i64 (f i))
theorem add_block (a : Addr) (n : Nat) : (a.add n).block = a.block := by unfold Addr.add; split <;> rfl
theorem AtI.chg {S : Nat → Prop} {w w' : World} {A : Option Addr} {n : Nat} {f : Nat → Int} (h : AtI w A n f) (hc : Chg S w w') (hs : ∀ ad, A = some ad → 0 < n → ¬ S ad.block) : AtI w' A n f := fun i hi => by
  obtain ⟨ad, e, h1⟩ := h i hi
  exact ⟨ad, e, hc.cell h1 (by rw [add_block]; exact hs ad e (by omega))⟩
theorem AtT.chg {S : Nat → Prop} {w w' : World} {A : Option Addr} {n : Nat} {y : Nat → Nat → Int} (h : AtT w A n y) (hc : Chg S w w') (hs : ∀ ad, A = some ad → 0 < n → ¬ S ad.block) : AtT w' A n y := fun i hi => by
  obtain ⟨ad, e, h1, h2, h3⟩ := h i hi
  have hb : ∀ q, ¬ S (ad.add q).block := fun q => by rw [add_block]; exact hs ad e (by omega)
  exact ⟨ad, e, hc.cell h1 (hb _), hc.cell h2 (hb _), hc.cell h3 (hb _)⟩
theorem AtO3.chg {S : Nat → Prop} {w w' : World} {A : Option Addr} {n : Nat} {y : Nat → Nat → Int} {c : Nat → Bool} (h : AtO3 w A n y c) (hc : Chg S w w') (hs : ∀ ad, A = some ad → 0 < n → ¬ S ad.block) : AtO3 w' A n y c := fun i hi => by
  obtain ⟨ad, e, h1, h2, h3, h4, h5⟩ := h i hi
  have hb : ∀ q, ¬ S (ad.add q).block := fun q => by rw [add_block]; exact hs ad e (by omega)
  exact ⟨ad, e, hc.cell h1 (hb _), hc.cell h2 (hb _), hc.cell h3 (hb _), hc.cell h4 (hb _), hc.cell h5 (hb _)⟩
theorem AtI.below {w w' : World} {A : Option Addr} {n : Nat} {f : Nat → Int} (h : AtI w A n f) (hb : Below w.heap.size w w') : AtI w' A n f := fun i hi => by
  obtain ⟨ad, e, h1⟩ := h i hi
  exact ⟨ad, e, (hb.cell (World.block_lt_of_cell? _ _ h1)).trans h1⟩
abbrev labs (a b c d : Int) : Value := .agg #[.int .u64 a, .int .u64 b, .int .u64 c, .int .u64 d]
theorem eql_labs_same (w : World) (a b c d : Int) : (Op.equalIn 9999 53 (labs a b c d) (labs a b c d)).run Tryd.prog w = .ok true w := by
  have hs : (sizeOf 52).run Tryd.prog w = .ok 2 w := by
    have h : (Tryd.prog.info? 52).map (·.size) = some 2 := by kernel_rfl
    cases hq : Tryd.prog.info? 52 with
    | none => simp [hq] at h
    | some i =>
      rw [hq] at h
      simp at h
      simp [sizeOf, typeInfo, hq, h]
  show (Op.equalIn (9998 + 1) 53 _ _).run Tryd.prog w = _
  unfold Op.equalIn
  simp only [Sem.run_bind, run_underlying Tryd.underlying53, Result.andThen_ok, hs]
  have ha : (isAgg 52).run Tryd.prog w = .ok true w := by simp [isAgg, run_underlying Tryd.underlying52]
  have h1 : (part 52 #[Value.int .u64 a, Value.int .u64 b, Value.int .u64 c, Value.int .u64 d] 0).run Tryd.prog w = .ok (lab a b) w := by
    simp [go_sem, part, ha]
  have h2 : (part 52 #[Value.int .u64 a, Value.int .u64 b, Value.int .u64 c, Value.int .u64 d] 2).run Tryd.prog w = .ok (lab c d) w := by
    simp [go_sem, part, ha]
  have h3 : ∀ (x y : Int), (Op.equalIn 9998 52 (lab x y) (lab x y)).run Tryd.prog w = .ok true w := fun x y => by
    have := run_eql_lab w 9996 x y x y
    simpa using this
  simp only [Std.Legacy.Range.forIn_eq_forIn_range', Std.Legacy.Range.size]
  simp only [show List.range' 0 ((2 - 0 + 1 - 1) / 1) 1 = [0, 1] from rfl, List.forIn_cons, List.forIn_nil, Nat.zero_mul, Nat.one_mul, Sem.run_bind, h1, h3, Result.andThen_ok]
  simp [h2, h3]
/-- What lies about while a stock is used up beside what is wanted of it. -/
structure Gv (w : World) (s : Sk) (B1 B2 B3 C : Option Addr) (q1 q2 q3 M : Nat) (sc : Nat → Int) (m4 m7 i1 i2 i3 j1 j2 j3 : Nat) (w' : World) : Prop where
  p : Stk w' (s.adv i1 i2 i3)
  a : Blk w' m7 23 (nums j1 j2 j3)
  b : Blk w' m4 37 #[.slice B1 s.n1 q1, .slice B2 s.n2 q2, .slice B3 s.n3 q3]
  t1 : AtT w' B1 s.n1 s.y1
  t2 : AtT w' B2 s.n2 s.y2
  t3 : AtO3 w' B3 s.n3 s.y3 s.c3
  sc : AtI w' C M sc
  ch : Chg s.own w w'
structure Gf (w : World) (s : Sk) (B1 B2 B3 C : Option Addr) (M m4 m7 : Nat) : Prop where
  o4 : ¬ s.own m4
  o7 : ¬ s.own m7
  n47 : m4 ≠ m7
  b1 : ∀ ad, B1 = some ad → 0 < s.n1 → ¬ s.own ad.block ∧ ad.block ≠ m7
  b2 : ∀ ad, B2 = some ad → 0 < s.n2 → ¬ s.own ad.block ∧ ad.block ≠ m7
  b3 : ∀ ad, B3 = some ad → 0 < s.n3 → ¬ s.own ad.block ∧ ad.block ≠ m7
  c : ∀ ad, C = some ad → 0 < M → ¬ s.own ad.block ∧ ad.block ≠ m7
  h7 : w.heap.size ≤ m7
section
variable {w w' w2 : World} {s : Sk} {B1 B2 B3 C : Option Addr} {q1 q2 q3 M : Nat} {sc : Nat → Int} {m4 m7 i1 i2 i3 j1 j2 j3 : Nat}
theorem Gv.new (d : Gv w s B1 B2 B3 C q1 q2 q3 M sc m4 m7 i1 i2 i3 j1 j2 j3 w') (hb : Below w'.heap.size w' w2) : Gv w s B1 B2 B3 C q1 q2 q3 M sc m4 m7 i1 i2 i3 j1 j2 j3 w2 :=
  ⟨d.p.below hb, d.a.below hb, d.b.below hb, d.t1.below hb, d.t2.below hb, d.t3.below hb, d.sc.below hb, d.ch.trans (Chg.of_below hb fun k hk hk' => by omega)⟩
theorem Gv.take (d : Gv w s B1 B2 B3 C q1 q2 q3 M sc m4 m7 i1 i2 i3 j1 j2 j3 w') (F : Gf w s B1 B2 B3 C M m4 m7) {k1 k2 k3 : Nat} (hs : Stk w2 (s.adv k1 k2 k3)) (hc : Chg s.own w' w2) : Gv w s B1 B2 B3 C q1 q2 q3 M sc m4 m7 k1 k2 k3 j1 j2 j3 w2 :=
  ⟨hs, d.a.chg hc F.o7, d.b.chg hc F.o4, d.t1.chg hc fun ad e hn => (F.b1 ad e hn).1, d.t2.chg hc fun ad e hn => (F.b2 ad e hn).1, d.t3.chg hc fun ad e hn => (F.b3 ad e hn).1, d.sc.chg hc fun ad e hn => (F.c ad e hn).1, d.ch.trans hc⟩
/-- A block that is new since the law's beginning, and none of these, is written. -/
theorem Gv.far (d : Gv w s B1 B2 B3 C q1 q2 q3 M sc m4 m7 i1 i2 i3 j1 j2 j3 w') {mz : Nat} (hz : w.heap.size ≤ mz) (h4 : m4 ≠ mz) (h7 : m7 ≠ mz) (ho : ∀ q, s.own q → q ≠ mz) (g1 : ∀ ad, B1 = some ad → 0 < s.n1 → ad.block ≠ mz) (g2 : ∀ ad, B2 = some ad → 0 < s.n2 → ad.block ≠ mz) (g3 : ∀ ad, B3 = some ad → 0 < s.n3 → ad.block ≠ mz) (g4 : ∀ ad, C = some ad → 0 < M → ad.block ≠ mz) (hc : Chg (fun q => q = mz) w' w2) :
    Gv w s B1 B2 B3 C q1 q2 q3 M sc m4 m7 i1 i2 i3 j1 j2 j3 w2 :=
  ⟨d.p.chg hc fun q hq e => ho q hq e, d.a.chg hc h7, d.b.chg hc h4, d.t1.chg hc g1, d.t2.chg hc g2, d.t3.chg hc g3, d.sc.chg hc g4, d.ch.after hc fun q e => .inl (by omega)⟩
theorem Gv.setA (d : Gv w s B1 B2 B3 C q1 q2 q3 M sc m4 m7 i1 i2 i3 j1 j2 j3 w') (F : Gf w s B1 B2 B3 C M m4 m7) {k1 k2 k3 : Nat} (hc : Chg (fun q => q = m7) w' w2) (ha : Blk w2 m7 23 (nums k1 k2 k3)) : Gv w s B1 B2 B3 C q1 q2 q3 M sc m4 m7 i1 i2 i3 k1 k2 k3 w2 :=
  ⟨d.p.chg hc fun q hq e => F.o7 (by rw [← e]; exact hq), ha, d.b.chg hc F.n47, d.t1.chg hc fun ad e hn => (F.b1 ad e hn).2, d.t2.chg hc fun ad e hn => (F.b2 ad e hn).2, d.t3.chg hc fun ad e hn => (F.b3 ad e hn).2, d.sc.chg hc fun ad e hn => (F.c ad e hn).2, d.ch.after hc fun q e => .inl (by have := F.h7; omega)⟩
/-- Where the lists lie is within what there is. -/
theorem Gv.lt1 (d : Gv w s B1 B2 B3 C q1 q2 q3 M sc m4 m7 i1 i2 i3 j1 j2 j3 w') : ∀ ad, B1 = some ad → 0 < s.n1 → ad.block < w'.heap.size := fun ad e hn => by
  obtain ⟨ad', e', h1, _⟩ := d.t1 0 hn
  have := World.block_lt_of_cell? _ _ h1
  rw [e] at e'; cases e'
  rwa [add_block] at this
theorem Gv.lt2 (d : Gv w s B1 B2 B3 C q1 q2 q3 M sc m4 m7 i1 i2 i3 j1 j2 j3 w') : ∀ ad, B2 = some ad → 0 < s.n2 → ad.block < w'.heap.size := fun ad e hn => by
  obtain ⟨ad', e', h1, _⟩ := d.t2 0 hn
  have := World.block_lt_of_cell? _ _ h1
  rw [e] at e'; cases e'
  rwa [add_block] at this
theorem Gv.lt3 (d : Gv w s B1 B2 B3 C q1 q2 q3 M sc m4 m7 i1 i2 i3 j1 j2 j3 w') : ∀ ad, B3 = some ad → 0 < s.n3 → ad.block < w'.heap.size := fun ad e hn => by
  obtain ⟨ad', e', h1, _⟩ := d.t3 0 hn
  have := World.block_lt_of_cell? _ _ h1
  rw [e] at e'; cases e'
  rwa [add_block] at this
theorem Gv.lt4 (d : Gv w s B1 B2 B3 C q1 q2 q3 M sc m4 m7 i1 i2 i3 j1 j2 j3 w') : ∀ ad, C = some ad → 0 < M → ad.block < w'.heap.size := fun ad e hn => by
  obtain ⟨ad', e', h1⟩ := d.sc 0 hn
  have := World.block_lt_of_cell? _ _ h1
  rw [e] at e'; cases e'
  rwa [add_block] at this
end
theorem kmod3b (i : Nat) (hi : i ≤ 2000000) : ∃ k : Nat, k < 3 ∧ (i : Int).tmod 3 = (k : Int) ∧ IntKind.i64.wrap (k : Int) = (k : Int) := ⟨i % 3, by omega, by rw [Int.tmod_eq_emod_of_nonneg (by omega)]; omega, i64_nat _ (by omega) (by omega)⟩
theorem umod3 (z : Int) : ∃ k : Nat, k < 3 ∧ (IntKind.u64.wrap z).tmod 3 = (k : Int) ∧ IntKind.i64.wrap (k : Int) = (k : Int) ∧ wrap64 (k : Int) = (k : Int) ∧ IntKind.u64.wrap (k : Int) = (k : Int) := by
  obtain ⟨k, h1, h2, -⟩ := umod z 3 (by omega) (by omega)
  exact ⟨k, by omega, h2, i64_nat _ (by omega) (by omega), by unfold wrap64; omega, by rw [u64w]; omega⟩
theorem small_w64 (k : Nat) (h : k < 3) : wrap64 (k : Int) = (k : Int) := by unfold wrap64; omega
theorem sum_nums (M n1 n2 n3 : Nat) (h : M + n1 + n2 + n3 ≤ 1000000) : IntKind.i64.wrap ((M : Int) + (n1 : Int)) = (M : Int) + (n1 : Int) ∧ IntKind.i64.wrap ((M : Int) + (n1 : Int) + (n2 : Int)) = (M : Int) + (n1 : Int) + (n2 : Int) ∧ IntKind.i64.wrap ((M : Int) + (n1 : Int) + (n2 : Int) + (n3 : Int)) = (M : Int) + (n1 : Int) + (n2 : Int) + (n3 : Int) ∧ IntKind.i64.wrap ((M : Int) + (n1 : Int) + (n2 : Int) + (n3 : Int) + 3) = (M : Int) + (n1 : Int) + (n2 : Int) + (n3 : Int) + 3 :=
  ⟨i64_nat _ (by omega) (by omega), i64_nat _ (by omega) (by omega), i64_nat _ (by omega) (by omega), i64_nat _ (by omega) (by omega)⟩
theorem sub_nums (n j : Nat) (h : j ≤ n) (hn : n ≤ 1000000) : ∃ x : Nat, n - j = x ∧ IntKind.i64.wrap ((n : Int) - (j : Int)) = (x : Int) := ⟨n - j, rfl, by rw [i64_nat _ (by omega) (by omega)]; omega⟩
end Go.Proofs.YtgmlmngnedhllaaDoor
