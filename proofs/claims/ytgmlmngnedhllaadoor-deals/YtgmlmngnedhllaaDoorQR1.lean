/- The document's Deal: six lists that grow. -/
import Derived.Test.YtgmlmngnedhllaaDoorQX4a
import Derived.Test.YtgmlmngnedhllaaDoorQD4
namespace Go.Proofs.YtgmlmngnedhllaaDoor
open Go.RowKit

theorem owns_heap {w w' : World} {base e k n : Nat} {v : Value} {xs : List Value} (h : w.ownsRow base e k v n xs) (hb : ∀ b, v.ownBlock = some b → w'.heap[b]? = w.heap[b]?) : w'.ownsRow base e k v n xs := by
  refine ⟨h.1, ?_⟩
  rcases h.2 with h0 | ⟨g, cap, cur, rfl, h1, h2, rest⟩
  · exact .inl h0
  · exact .inr ⟨g, cap, cur, rfl, h1, (hb g rfl).trans h2, rest⟩
theorem flatT_snoc (n : Nat) (y : Nat → Nat → Int) : flatT n y ++ [.int .u64 (y n 0), .int .u64 (y n 1), .int .u64 (y n 2)] = flatT (n + 1) y := by
  unfold flatT
  rw [show (n + 1) * 3 = n * 3 + 1 + 1 + 1 by omega, List.range_succ, List.range_succ, List.range_succ]
  simp only [List.map_append, List.map_cons, List.map_nil, List.append_assoc, List.cons_append, List.nil_append]
  congr 1
  simp [show (n * 3 + 1) % 3 = 1 by omega, show (n * 3 + 2) % 3 = 2 by omega, show (n * 3 + 1) / 3 = n by omega, show (n * 3 + 2) / 3 = n by omega]
theorem flatO_snoc (n : Nat) (y : Nat → Nat → Int) (c : Nat → Bool) : flatO n y c ++ [.int .u64 (y n 0), .int .u64 (y n 1), .int .u64 (y n 2), .int .u64 (y n 3), .bool (c n)] = flatO (n + 1) y c := by
  unfold flatO
  rw [show (n + 1) * 5 = n * 5 + 1 + 1 + 1 + 1 + 1 by omega, List.range_succ, List.range_succ, List.range_succ, List.range_succ, List.range_succ]
  simp only [List.map_append, List.map_cons, List.map_nil, List.append_assoc, List.cons_append, List.nil_append]
  congr 1
  simp [show (n * 5 + 1) % 5 = 1 by omega, show (n * 5 + 2) % 5 = 2 by omega, show (n * 5 + 3) % 5 = 3 by omega, show (n * 5 + 4) % 5 = 4 by omega, show (n * 5 + 1) / 5 = n by omega, show (n * 5 + 2) / 5 = n by omega, show (n * 5 + 3) / 5 = n by omega, show (n * 5 + 4) / 5 = n by omega]
/-- One place of six gets another value. -/
def put6 {α : Type} (V : Nat → α) (q : Nat) (x : α) : Nat → α := fun i => if i = q then x else V i
/-- Six lists of the call's own, in the cells of block m: triples at 0, 1, 3, 4, OTs at 2, 5; what they hold is told by Y and C. -/
structure Ro (w : World) (m : Nat) (Y : Nat → Nat → Nat → Int) (C : Nat → Nat → Bool) (V : Nat → Value) (n : Nat → Nat) (w' : World) : Prop where
  b : Blk w' m 38 #[V 0, V 1, V 2, V 3, V 4, V 5]
  t : ∀ q, q = 0 ∨ q = 1 ∨ q = 3 ∨ q = 4 → w'.ownsRow w.heap.size 48 3 (V q) (n q) (flatT (n q) (Y q))
  o : ∀ q, q = 2 ∨ q = 5 → w'.ownsRow w.heap.size 55 5 (V q) (n q) (flatO (n q) (Y q) (C q))
  d : ∀ p q b, p < 6 → q < 6 → (V p).ownBlock = some b → (V q).ownBlock = some b → p = q
  mb : ∀ q, q < 6 → (V q).ownBlock ≠ some m
  bl : Below w.heap.size w w'
  hm : w.heap.size ≤ m
section
variable {w w' : World} {m : Nat} {Y : Nat → Nat → Nat → Int} {C : Nat → Nat → Bool} {V : Nat → Value} {n : Nat → Nat}
theorem Ro.lt (h : Ro w m Y C V n w') (q : Nat) (hq : q < 6) (b : Nat) (hb : (V q).ownBlock = some b) : w.heap.size ≤ b ∧ b < w'.heap.size := by
  rcases (show (q = 0 ∨ q = 1 ∨ q = 3 ∨ q = 4) ∨ (q = 2 ∨ q = 5) by omega) with hq | hq
  · exact (h.t q hq).lt b hb
  · exact (h.o q hq).lt b hb
theorem Ro.new (h : Ro w m Y C V n w') {w2 : World} (hb : Below w'.heap.size w' w2) : Ro w m Y C V n w2 :=
  ⟨h.b.below hb, fun q hq => owns_heap (h.t q hq) fun b hb' => hb.block b (h.lt q (by omega) b hb').2, fun q hq => owns_heap (h.o q hq) fun b hb' => hb.block b (h.lt q (by omega) b hb').2, h.d, h.mb, h.bl.trans (hb.mono h.bl.size), h.hm⟩
theorem put_cells (V : Nat → Value) (q : Nat) (hq : q < 6) (x : Value) : (#[V 0, V 1, V 2, V 3, V 4, V 5] : Array Value).setIfInBounds q x = #[put6 V q x 0, put6 V q x 1, put6 V q x 2, put6 V q x 3, put6 V q x 4, put6 V q x 5] := by
  rcases (show q = 0 ∨ q = 1 ∨ q = 2 ∨ q = 3 ∨ q = 4 ∨ q = 5 by omega) with rfl | rfl | rfl | rfl | rfl | rfl <;> simp [put6]
/-- One list gets longer: what lies behind it. -/
theorem Ro.put (h : Ro w m Y C V n w') {w1 w2 : World} {q : Nat} {v' : Value} (hq : q < 6) (hb1 : Below w'.heap.size w' w1) (hg : w1.grownBy w2 (V q).ownBlock) (hv : v'.ownBlock = (V q).ownBlock ∨ v'.ownBlock = some w1.heap.size)
    (ht : (q = 0 ∨ q = 1 ∨ q = 3 ∨ q = 4) → w2.ownsRow w.heap.size 48 3 v' (n q + 1) (flatT (n q + 1) (Y q))) (ho : (q = 2 ∨ q = 5) → w2.ownsRow w.heap.size 55 5 v' (n q + 1) (flatO (n q + 1) (Y q) (C q))) :
    Ro w m Y C (put6 V q v') (put6 n q (n q + 1)) (w2.setCell ⟨m, q, none⟩ v') := by
  have h1 := h.new hb1
  have hlm := h1.b.lt
  have hold : ∀ p b, p < 6 → p ≠ q → (V p).ownBlock = some b → (w2.setCell ⟨m, q, none⟩ v').heap[b]? = w1.heap[b]? := fun p b hp hpq hb => by
    have hl := h1.lt p hp b hb
    rw [Below.heap_setCell w2 ⟨m, q, none⟩ v' b (fun e => h.mb p hp (by rw [hb, e]))]
    exact hg.block b hl.2 (fun e => hpq (h.d p q b hp hq hb e.symm))
  have hnew : ∀ b, v'.ownBlock = some b → b ≠ m ∧ ∀ p, p < 6 → p ≠ q → (V p).ownBlock ≠ some b := fun b hb => by
    rcases hv with hv | hv
    · rw [hv] at hb
      exact ⟨fun e => h.mb q hq (by rw [hb, e]), fun p hp hpq e => hpq (h.d p q b hp hq e hb)⟩
    · have hb' : w1.heap.size = b := Option.some.inj (hv.symm.trans hb)
      exact ⟨by omega, fun p hp _ e => by have := (h1.lt p hp b e).2; omega⟩
  have hkeep : ∀ b, v'.ownBlock = some b → (w2.setCell ⟨m, q, none⟩ v').heap[b]? = w2.heap[b]? := fun b hb => Below.heap_setCell w2 _ v' b (hnew b hb).1
  have hbm : Blk w2 m 38 #[V 0, V 1, V 2, V 3, V 4, V 5] := (hg.block m hlm (fun e => h.mb q hq e.symm)).trans h1.b
  refine ⟨by rw [← put_cells V q hq v']; exact hbm.set q v', fun p hp => ?_, fun p hp => ?_, fun p r b hp hr h2 h3 => ?_, fun p hp => ?_, ?_, h.hm⟩
  · by_cases e : p = q
    · subst e
      simp only [put6, if_true]
      exact owns_heap (ht hp) hkeep
    · simp only [put6, if_neg e]
      exact owns_heap (h1.t p hp) (fun b hb => hold p b (by omega) e hb)
  · by_cases e : p = q
    · subst e
      simp only [put6, if_true]
      exact owns_heap (ho hp) hkeep
    · simp only [put6, if_neg e]
      exact owns_heap (h1.o p hp) (fun b hb => hold p b (by omega) e hb)
  · by_cases e : p = q <;> by_cases e' : r = q
    · omega
    · simp only [put6, if_pos e] at h2
      simp only [put6, if_neg e'] at h3
      exact absurd h3 ((hnew b h2).2 r hr e')
    · simp only [put6, if_neg e] at h2
      simp only [put6, if_pos e'] at h3
      exact absurd h2 ((hnew b h3).2 p hp e)
    · simp only [put6, if_neg e] at h2
      simp only [put6, if_neg e'] at h3
      exact h.d p r b hp hr h2 h3
  · by_cases e : p = q
    · simp only [put6, if_pos e]
      exact fun hb => (hnew m hb).1 rfl
    · simp only [put6, if_neg e]
      exact h.mb p hp
  · refine Below.setCell (h1.bl.grown hg h1.bl.size fun k hk => ?_) h.hm v'
    exact (h1.lt q hq k hk).1
/-- A triple is appended. -/
theorem Ro.addT (h : Ro w m Y C V n w') (q : Nat) (hq : q = 0 ∨ q = 1 ∨ q = 3 ∨ q = 4) (hn : n q ≤ 100000) (x0 x1 x2 : Int) (h0 : x0 = Y q (n q) 0) (h1 : x1 = Y q (n q) 1) (h2 : x2 = Y q (n q) 2) :
    ∃ v' w2, (Builtin.append_ #[34, 34] 34 #[V q, .slice (some ⟨w'.heap.size, 0, none⟩) 1 1]).run Tryd.prog (w'.alloc (.cells #[.int .u64 x0, .int .u64 x1, .int .u64 x2] 48)) = .ok v' w2 ∧ (∃ A c, v' = .slice A (n q + 1) c) ∧
      w2.cell? ⟨m, q, none⟩ = some (V q) ∧ w2.frozen? ⟨m, q, none⟩ = false ∧ Ro w m Y C (put6 V q v') (put6 n q (n q + 1)) (w2.setCell ⟨m, q, none⟩ v') ∧ Below w.heap.size w w2 := by
  obtain ⟨i0, hi, hz0, hz1, hz2⟩ := infoT
  have hb1 : Below w'.heap.size w' (w'.alloc (.cells #[.int .u64 x0, .int .u64 x1, .int .u64 x2] 48)) := (Below.refl _ w').alloc (Nat.le_refl _) _
  have hB := Blk.new w' 48 #[.int .u64 x0, .int .u64 x1, .int .u64 x2]
  obtain ⟨v', w2, hr, g2, g3, g4, g5⟩ := run_append_own_at (w'.alloc (.cells #[.int .u64 x0, .int .u64 x1, .int .u64 x2] 48)) w.heap.size 34 34 48 i0 (.agg #[.int .u64 0, .int .u64 0, .int .u64 0]) 3 24 Tryd.underlying34 hi hz0 hz1 hz2 rfl (by omega) (V q) (n q) _ ((h.new hb1).t q hq) ⟨w'.heap.size, 0, none⟩ 1 1 [.int .u64 x0, .int .u64 x1, .int .u64 x2] rfl
    (fun j u hu => by
      rw [Addr.add_mid, Nat.zero_add]
      exact hB.cell j (by simpa using hu)) (by intro u hu; simp at hu; rcases hu with rfl | rfl | rfl <;> rfl) (by unfold maxLen; omega) (by omega) (by have := h.bl.size; simp; omega)
  have hRo := h.put (q := q) (v' := v') (by omega) hb1 g3 g5 (fun _ => by rw [← flatT_snoc, ← h0, ← h1, ← h2]; exact g2) (fun e => by omega)
  have hlm := (h.new hb1).b.lt
  have hbm : Blk w2 m 38 #[V 0, V 1, V 2, V 3, V 4, V 5] := (g3.block m hlm (fun e => h.mb q (by omega) e.symm)).trans (h.new hb1).b
  refine ⟨v', w2, hr, ?_, ?_, hbm.frozen q, hRo, (h.new hb1).bl.grown g3 (h.new hb1).bl.size fun k hk => ((h.new hb1).lt q (by omega) k hk).1⟩
  · rcases g2.2 with ⟨_, e⟩ | ⟨g, cap, cur, e, _⟩
    · omega
    · exact ⟨_, _, e⟩
  · exact hbm.cell q (by rcases hq with rfl | rfl | rfl | rfl <;> rfl)
/-- An OT is appended. -/
theorem Ro.addO (h : Ro w m Y C V n w') (q : Nat) (hq : q = 2 ∨ q = 5) (hn : n q ≤ 100000) (x0 x1 x2 x3 : Int) (k : Bool) (h0 : x0 = Y q (n q) 0) (h1 : x1 = Y q (n q) 1) (h2 : x2 = Y q (n q) 2) (h3 : x3 = Y q (n q) 3) (hk : k = C q (n q)) :
    ∃ v' w2, (Builtin.append_ #[35, 35] 35 #[V q, .slice (some ⟨w'.heap.size, 0, none⟩) 1 1]).run Tryd.prog (w'.alloc (.cells #[.int .u64 x0, .int .u64 x1, .int .u64 x2, .int .u64 x3, .bool k] 55)) = .ok v' w2 ∧ (∃ A c, v' = .slice A (n q + 1) c) ∧
      w2.cell? ⟨m, q, none⟩ = some (V q) ∧ w2.frozen? ⟨m, q, none⟩ = false ∧ Ro w m Y C (put6 V q v') (put6 n q (n q + 1)) (w2.setCell ⟨m, q, none⟩ v') ∧ Below w.heap.size w w2 ∧
      ∀ b, b < w'.heap.size → (V q).ownBlock ≠ some b → b ≠ m → (w2.setCell ⟨m, q, none⟩ v').heap[b]? = w'.heap[b]? := by
  obtain ⟨i0, hi, hz0, hz1, hz2⟩ := infoO
  have hb1 : Below w'.heap.size w' (w'.alloc (.cells #[.int .u64 x0, .int .u64 x1, .int .u64 x2, .int .u64 x3, .bool k] 55)) := (Below.refl _ w').alloc (Nat.le_refl _) _
  have hB := Blk.new w' 55 #[.int .u64 x0, .int .u64 x1, .int .u64 x2, .int .u64 x3, .bool k]
  obtain ⟨v', w2, hr, g2, g3, g4, g5⟩ := run_append_own_at (w'.alloc (.cells #[.int .u64 x0, .int .u64 x1, .int .u64 x2, .int .u64 x3, .bool k] 55)) w.heap.size 35 35 55 i0 (.agg #[.int .u64 0, .int .u64 0, .int .u64 0, .int .u64 0, .bool false]) 5 40 Tryd.underlying35 hi hz0 hz1 hz2 rfl (by omega) (V q) (n q) _ ((h.new hb1).o q hq) ⟨w'.heap.size, 0, none⟩ 1 1 [.int .u64 x0, .int .u64 x1, .int .u64 x2, .int .u64 x3, .bool k] rfl
    (fun j u hu => by
      rw [Addr.add_mid, Nat.zero_add]
      exact hB.cell j (by simpa using hu)) (by intro u hu; simp at hu; rcases hu with rfl | rfl | rfl | rfl | rfl <;> rfl) (by unfold maxLen; omega) (by omega) (by have := h.bl.size; simp; omega)
  have hRo := h.put (q := q) (v' := v') (by omega) hb1 g3 g5 (fun e => by omega) (fun _ => by rw [← flatO_snoc, ← h0, ← h1, ← h2, ← h3, ← hk]; exact g2)
  have hlm := (h.new hb1).b.lt
  have hbm : Blk w2 m 38 #[V 0, V 1, V 2, V 3, V 4, V 5] := (g3.block m hlm (fun e => h.mb q (by omega) e.symm)).trans (h.new hb1).b
  refine ⟨v', w2, hr, ?_, ?_, hbm.frozen q, hRo, (h.new hb1).bl.grown g3 (h.new hb1).bl.size fun k hk => ((h.new hb1).lt q (by omega) k hk).1, fun b hb hbq hbm => by
    rw [Below.heap_setCell w2 ⟨m, q, none⟩ v' b hbm]
    exact (g3.block b (by have := hb1.size; omega) (fun e => hbq e.symm)).trans (hb1.block b hb)⟩
  · rcases g2.2 with ⟨_, e⟩ | ⟨g, cap, cur, e, _⟩
    · omega
    · exact ⟨_, _, e⟩
  · exact hbm.cell q (by rcases hq with rfl | rfl <;> rfl)
end
end Go.Proofs.YtgmlmngnedhllaaDoor
