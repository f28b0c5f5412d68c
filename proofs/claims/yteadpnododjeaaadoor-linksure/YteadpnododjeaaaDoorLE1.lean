/- An end in memory. -/
import Derived.Test.YteadpnododjeaaaDoorLO1
namespace Go.Proofs.YteadpnododjeaaaDoor
open Go.RowKit

/-- An end: its block, what it holds. -/
structure En where
  p : Nat
  qv : Value
  Q : List Fr
  num : Nat
  sent : Nat
  ago : Nat
  want : Nat
  cv : Value
  C : List Fr
  ov : Value
  O : List Nat
  er : Value
def u32s (l : List Nat) : List Value := l.map fun (x : Nat) => .int .u32 (x : Int)
/-- A list of numbers. -/
def Nums (w : World) (base : Nat) (v : Value) (O : List Nat) : Prop := w.ownsRow base 22 1 v O.length (u32s O)
def En.row (s : En) : Array Value := #[s.qv, .int .u32 (s.num : Int), .int .i64 (s.sent : Int), .int .i64 (s.ago : Int), .int .u32 (s.want : Int), s.cv, s.ov, s.er]
structure EndAt (w : World) (base : Nat) (s : En) : Prop where
  blk : w.heap[s.p]? = some (.cells s.row 76 (0, 0))
  lo : base ≤ s.p
  wq : Way w base s.qv s.Q
  wc : Way w base s.cv s.C
  wo : Nums w base s.ov s.O
  fq : ∀ x ∈ s.Q, Lies w base x
  fc : ∀ x ∈ s.C, Lies w base x
  ap : ∀ b, s.qv.ownBlock = some b → s.cv.ownBlock ≠ some b
/-- The blocks that the end writes. -/
def En.own (s : En) (b : Nat) : Prop := b = s.p ∨ s.qv.ownBlock = some b ∨ s.cv.ownBlock = some b ∨ s.ov.ownBlock = some b
/-- All blocks but the end's are as they were. -/
structure Kept (s : En) (w w' : World) : Prop where
  os : w'.os = w.os
  tape : w'.tape = w.tape
  output : w'.output = w.output
  size : w.heap.size ≤ w'.heap.size
  block : ∀ b, b < w.heap.size → ¬ s.own b → w'.heap[b]? = w.heap[b]?
/-- What becomes the end's was its own, or is new. -/
def Grows (s : En) (w : World) (s' : En) : Prop := ∀ b, s'.own b → s.own b ∨ w.heap.size ≤ b
section
variable {w w' w2 : World} {base : Nat} {s s' s2 : En}
theorem Nums.block {v : Value} {O : List Nat} (h : Nums w base v O) {b : Nat} (hb : v.ownBlock = some b) : base ≤ b ∧ ∃ cur, w.heap[b]? = some (.cells cur 22 (0, 0)) := by
  rcases h.2 with ⟨rfl, _⟩ | ⟨g, cap, cur, rfl, h1, h2, rest⟩
  · cases hb
  · have : g = b := by simpa [Value.ownBlock] using hb
    subst this
    exact ⟨h1, cur, h2⟩
theorem Nums.heap {v : Value} {O : List Nat} (h : Nums w base v O) (hb : ∀ b, v.ownBlock = some b → w'.heap[b]? = w.heap[b]?) : Nums w' base v O := by
  refine ⟨h.1, ?_⟩
  rcases h.2 with h0 | ⟨g, cap, cur, rfl, h1, h2, rest⟩
  · exact .inl h0
  · exact .inr ⟨g, cap, cur, rfl, h1, (hb g rfl).trans h2, rest⟩
theorem Nums.slice {v : Value} {O : List Nat} (h : Nums w base v O) : ∃ A c, v = .slice A O.length c := by
  rcases h.2 with ⟨rfl, h0⟩ | ⟨g, cap, cur, rfl, h1, h2, h3, h4, _⟩
  · exact ⟨none, 0, by rw [h0]⟩
  · exact ⟨some ⟨g, 0, none⟩, cap, rfl⟩
theorem Nums.cell {v : Value} {O : List Nat} (h : Nums w base v O) {i x : Nat} (hx : O[i]? = some x) : ∃ g c, v = .slice (some ⟨g, 0, none⟩) O.length c ∧ w.cell? ⟨g, i, none⟩ = some (.int .u32 (x : Int)) := by
  have hi : i < O.length := (List.getElem?_eq_some_iff.1 hx).1
  rcases h.2 with ⟨_, h0⟩ | ⟨g, cap, cur, rfl, h1, h2, h3, h4, h5, h6⟩
  · omega
  · refine ⟨g, cap, rfl, ?_⟩
    rw [cell_of_row w g i cur 22 (0, 0) h2]
    have : (cur.toList.take (O.length * 1))[i]? = some (.int .u32 (x : Int)) := by rw [h6]; simp [u32s, hx]
    rw [Nat.mul_one, List.getElem?_take, if_pos hi] at this
    simpa using this
theorem Nums.nil (w : World) (base : Nat) : Nums w base (.slice none 0 0) [] := World.ownsRow_nil _ _ _ _
theorem Kept.refl (s : En) (w : World) : Kept s w w := ⟨rfl, rfl, rfl, Nat.le_refl _, fun _ _ _ => rfl⟩
theorem Kept.of_below (h : Below w.heap.size w w') : Kept s w w' := ⟨h.os, h.tape, h.output, h.size, fun b hb _ => h.block b hb⟩
theorem Grows.refl (s : En) (w : World) : Grows s w s := fun _ h => .inl h
theorem Kept.trans (h : Kept s w w') (h2 : Kept s' w' w2) (hg : Grows s w s') : Kept s w w2 :=
  ⟨h2.os.trans h.os, h2.tape.trans h.tape, h2.output.trans h.output, Nat.le_trans h.size h2.size, fun b hb hn => (h2.block b (Nat.lt_of_lt_of_le hb h.size) (fun ho => (hg b ho).elim hn (fun h => by omega))).trans (h.block b hb hn)⟩
theorem Grows.trans (h : Grows s w s') (hs : w.heap.size ≤ w'.heap.size) (h2 : Grows s' w' s2) : Grows s w s2 := fun b hb => (h2 b hb).elim (h b) (fun h => .inr (Nat.le_trans hs h))
theorem EndAt.p_lt (h : EndAt w base s) : s.p < w.heap.size := (Array.getElem?_eq_some_iff.1 h.blk).1
theorem EndAt.own_lt (h : EndAt w base s) {b : Nat} (hb : s.own b) : b < w.heap.size ∧ base ≤ b := by
  rcases hb with rfl | hb | hb | hb
  · exact ⟨h.p_lt, h.lo⟩
  · obtain ⟨h1, cur, h2⟩ := h.wq.block hb
    exact ⟨(Array.getElem?_eq_some_iff.1 h2).1, h1⟩
  · obtain ⟨h1, cur, h2⟩ := h.wc.block hb
    exact ⟨(Array.getElem?_eq_some_iff.1 h2).1, h1⟩
  · obtain ⟨h1, cur, h2⟩ := h.wo.block hb
    exact ⟨(Array.getElem?_eq_some_iff.1 h2).1, h1⟩
theorem EndAt.cell (h : EndAt w base s) (j : Nat) : w.cell? ⟨s.p, j, none⟩ = s.row[j]? := cell_of_row w s.p j _ _ (0, 0) h.blk
theorem EndAt.frozen (h : EndAt w base s) (j : Nat) : w.frozen? ⟨s.p, j, none⟩ = false := by have := h.blk; simp [World.frozen?, this]
/-- A block of bytes is none that the end writes. -/
theorem EndAt.bytes (h : EndAt w base s) {b : Nat} {cur : Array Value} (hb : w.heap[b]? = some (.cells cur 5 (0, 0))) : ¬ s.own b := fun ho => by
  rcases ho with rfl | ho | ho | ho
  · exact heap_ne hb h.blk (by decide) rfl
  · obtain ⟨_, c, h2⟩ := h.wq.block ho
    exact heap_ne hb h2 (by decide) rfl
  · obtain ⟨_, c, h2⟩ := h.wc.block ho
    exact heap_ne hb h2 (by decide) rfl
  · obtain ⟨_, c, h2⟩ := h.wo.block ho
    exact heap_ne hb h2 (by decide) rfl
theorem EndAt.lies (h : EndAt w base s) (hk : Kept s w w') {B : Nat} {x : Fr} (hx : Lies w B x) : Lies w' B x := by
  obtain ⟨cur, hc⟩ := hx.block
  exact hx.heap (hk.block _ hx.inside (h.bytes hc))
/-- The world has changed in no block that the end writes, nor in its payloads' blocks. -/
theorem EndAt.heap (h : EndAt w base s) (hb : ∀ b, b < w.heap.size → (s.own b ∨ ∃ cur, w.heap[b]? = some (.cells cur 5 (0, 0))) → w'.heap[b]? = w.heap[b]?) : EndAt w' base s where
  blk := (hb _ h.p_lt (.inl (.inl rfl))).trans h.blk
  lo := h.lo
  wq := h.wq.heap fun b hv => hb b (h.own_lt (.inr (.inl hv))).1 (.inl (.inr (.inl hv)))
  wc := h.wc.heap fun b hv => hb b (h.own_lt (.inr (.inr (.inl hv)))).1 (.inl (.inr (.inr (.inl hv))))
  wo := h.wo.heap fun b hv => hb b (h.own_lt (.inr (.inr (.inr hv)))).1 (.inl (.inr (.inr (.inr hv))))
  fq x hx := (h.fq x hx).heap (hb _ (h.fq x hx).inside (.inr (h.fq x hx).block))
  fc x hx := (h.fc x hx).heap (hb _ (h.fc x hx).inside (.inr (h.fc x hx).block))
  ap := h.ap
theorem EndAt.below (h : EndAt w base s) (hb : Below w.heap.size w w') : EndAt w' base s := h.heap fun b hl _ => hb.block b hl
theorem Kept.below {w0 : World} (h : Kept s w w') (hn : EndAt w base s) (h0 : Below base w0 w) (hs : base ≤ w.heap.size) : Below base w0 w' :=
  h0.trans ⟨h.os, h.tape, h.output, h.size, fun b hb => h.block b (by omega) (fun ho => by have := (hn.own_lt ho).2; omega)⟩
/-- What a call on an end leaves. -/
structure Goes (w : World) (base : Nat) (s : En) (w' : World) (s' : En) : Prop where
  at' : EndAt w' base s'
  kept : Kept s w w'
  grows : Grows s w s'
  same : s'.p = s.p
theorem Goes.refl (h : EndAt w base s) : Goes w base s w s := ⟨h, Kept.refl _ _, Grows.refl _ _, rfl⟩
theorem Goes.trans (h : Goes w base s w' s') (h2 : Goes w' base s' w2 s2) : Goes w base s w2 s2 :=
  ⟨h2.at', h.kept.trans h2.kept h.grows, h.grows.trans h.kept.size h2.grows, h2.same.trans h.same⟩
theorem Goes.of_below (h : EndAt w base s) (hb : Below w.heap.size w w') : Goes w base s w' s := ⟨h.below hb, Kept.of_below hb, Grows.refl _ _, rfl⟩
/-- The general step. -/
theorem EndAt.step (h : EndAt w base s) (hk : Kept s w w') (hp : s'.p = s.p) (hblk : w'.heap[s.p]? = some (.cells s'.row 76 (0, 0)))
    (hq : Way w' base s'.qv s'.Q) (hqo : ∀ b, s'.qv.ownBlock = some b → s.qv.ownBlock = some b ∨ w.heap.size ≤ b)
    (hc : Way w' base s'.cv s'.C) (hco : ∀ b, s'.cv.ownBlock = some b → s.cv.ownBlock = some b ∨ w.heap.size ≤ b)
    (ho : Nums w' base s'.ov s'.O) (hoo : ∀ b, s'.ov.ownBlock = some b → s.ov.ownBlock = some b ∨ w.heap.size ≤ b)
    (hx : s'.cv = s.cv ∨ s'.qv = s.qv)
    (hfq : ∀ x ∈ s'.Q, x ∈ s.Q ∨ Lies w' base x) (hfc : ∀ x ∈ s'.C, x ∈ s.C ∨ Lies w' base x) : Goes w base s w' s' := by
  refine ⟨⟨by rw [hp]; exact hblk, by rw [hp]; exact h.lo, hq, hc, ho, fun x hx => ?_, fun x hx => ?_, fun b h1 h2 => ?_⟩, hk, fun b hb => ?_, hp⟩
  · rcases hfq x hx with hx | hx
    · exact h.lies hk (h.fq x hx)
    · exact hx
  · rcases hfc x hx with hx | hx
    · exact h.lies hk (h.fc x hx)
    · exact hx
  · rcases hx with hx | hx
    · rw [hx] at h2
      have := (h.own_lt (.inr (.inr (.inl h2)))).1
      rcases hqo b h1 with h1 | h1
      · exact h.ap b h1 h2
      · omega
    · rw [hx] at h1
      have := (h.own_lt (.inr (.inl h1))).1
      rcases hco b h2 with h2 | h2
      · exact h.ap b h1 h2
      · omega
  · rcases hb with hb | hb | hb | hb
    · exact .inl (.inl (hb.trans hp))
    · exact (hqo b hb).elim (fun h => .inl (.inr (.inl h))) .inr
    · exact (hco b hb).elim (fun h => .inl (.inr (.inr (.inl h)))) .inr
    · exact (hoo b hb).elim (fun h => .inl (.inr (.inr (.inr h)))) .inr
theorem EndAt.p_ne (h : EndAt w base s) : s.qv.ownBlock ≠ some s.p ∧ s.cv.ownBlock ≠ some s.p ∧ s.ov.ownBlock ≠ some s.p := by
  refine ⟨fun e => ?_, fun e => ?_, fun e => ?_⟩
  · obtain ⟨_, c, h2⟩ := h.wq.block e
    exact heap_ne h2 h.blk (by decide) rfl
  · obtain ⟨_, c, h2⟩ := h.wc.block e
    exact heap_ne h2 h.blk (by decide) rfl
  · obtain ⟨_, c, h2⟩ := h.wo.block e
    exact heap_ne h2 h.blk (by decide) rfl
theorem EndAt.o_ne (h : EndAt w base s) {b : Nat} (hb : s.ov.ownBlock = some b) : s.qv.ownBlock ≠ some b ∧ s.cv.ownBlock ≠ some b := by
  obtain ⟨_, c, h2⟩ := h.wo.block hb
  refine ⟨fun e => ?_, fun e => ?_⟩
  · obtain ⟨_, c, h3⟩ := h.wq.block e
    exact heap_ne h2 h3 (by decide) rfl
  · obtain ⟨_, c, h3⟩ := h.wc.block e
    exact heap_ne h2 h3 (by decide) rfl
/-- One plain field is set. -/
theorem EndAt.set (h : EndAt w base s) (j : Nat) (v : Value) (hp : s'.p = s.p) (hr : s'.row = s.row.setIfInBounds j v) (h1 : s'.qv = s.qv) (h2 : s'.Q = s.Q) (h3 : s'.cv = s.cv) (h4 : s'.C = s.C)
    (h5 : (s'.ov = s.ov ∧ s'.O = s.O) ∨ (s'.ov = .slice none 0 0 ∧ s'.O = [])) : Goes w base s (w.setCell ⟨s.p, j, none⟩ v) s' := by
  have hb : ∀ b, b ≠ s.p → (w.setCell ⟨s.p, j, none⟩ v).heap[b]? = w.heap[b]? := fun b hb => Below.heap_setCell w _ v b hb
  have hk : Kept s w (w.setCell ⟨s.p, j, none⟩ v) := ⟨rfl, rfl, rfl, by simp [World.setCell], fun b _ hn => hb b fun e => hn (.inl e)⟩
  refine h.step hk hp (by rw [hr]; exact setCell_row v h.blk) ?_ (fun b e => .inl (by rw [h1] at e; exact e)) ?_ (fun b e => .inl (by rw [h3] at e; exact e)) ?_ ?_ (.inl h3) (fun x hx => .inl (h2 ▸ hx)) (fun x hx => .inl (h4 ▸ hx))
  · rw [h1, h2]; exact h.wq.heap fun b e => hb b fun e2 => h.p_ne.1 (e2 ▸ e)
  · rw [h3, h4]; exact h.wc.heap fun b e => hb b fun e2 => h.p_ne.2.1 (e2 ▸ e)
  · rcases h5 with ⟨h5, h6⟩ | ⟨h5, h6⟩
    · rw [h5, h6]; exact h.wo.heap fun b e => hb b fun e2 => h.p_ne.2.2 (e2 ▸ e)
    · rw [h5, h6]; exact Nums.nil _ _
  · intro b e
    rcases h5 with ⟨h5, _⟩ | ⟨h5, _⟩
    · rw [h5] at e; exact .inl e
    · rw [h5] at e; cases e
/-- A list has become another one (its block, and new ones, are all that changed); then its field is set. -/
theorem EndAt.list (h : EndAt w base s) (j : Nat) (v : Value) (V : Option Nat) (hV : V = s.qv.ownBlock ∨ V = s.cv.ownBlock ∨ V = s.ov.ownBlock) (hg : w.grownBy w' V) (hp : s'.p = s.p) (hr : s'.row = s.row.setIfInBounds j v)
    (hq : (s'.qv = s.qv ∧ s'.Q = s.Q ∧ ∀ b, s.qv.ownBlock = some b → V ≠ some b) ∨ (Way w' base s'.qv s'.Q ∧ (s'.qv.ownBlock = s.qv.ownBlock ∨ ∃ b, s'.qv.ownBlock = some b ∧ w.heap.size ≤ b) ∧ s'.cv = s.cv))
    (hc : (s'.cv = s.cv ∧ s'.C = s.C ∧ ∀ b, s.cv.ownBlock = some b → V ≠ some b) ∨ (Way w' base s'.cv s'.C ∧ (s'.cv.ownBlock = s.cv.ownBlock ∨ ∃ b, s'.cv.ownBlock = some b ∧ w.heap.size ≤ b) ∧ s'.qv = s.qv))
    (ho : (s'.ov = s.ov ∧ s'.O = s.O ∧ ∀ b, s.ov.ownBlock = some b → V ≠ some b) ∨ (Nums w' base s'.ov s'.O ∧ (s'.ov.ownBlock = s.ov.ownBlock ∨ ∃ b, s'.ov.ownBlock = some b ∧ w.heap.size ≤ b)))
    (hfq : ∀ x ∈ s'.Q, x ∈ s.Q ∨ Lies w' base x) (hfc : ∀ x ∈ s'.C, x ∈ s.C ∨ Lies w' base x) (hx : s'.cv = s.cv ∨ s'.qv = s.qv) : Goes w base s (w'.setCell ⟨s.p, j, none⟩ v) s' := by
  have hpl := h.p_lt
  have hVp : V ≠ some s.p := by
    rcases hV with rfl | rfl | rfl
    · exact h.p_ne.1
    · exact h.p_ne.2.1
    · exact h.p_ne.2.2
  have hb : ∀ b, b ≠ s.p → (w'.setCell ⟨s.p, j, none⟩ v).heap[b]? = w'.heap[b]? := fun b hb => Below.heap_setCell w' _ v b hb
  have hold : ∀ b, b < w.heap.size → b ≠ s.p → V ≠ some b → (w'.setCell ⟨s.p, j, none⟩ v).heap[b]? = w.heap[b]? := fun b hl hbp hbV => (hb b hbp).trans (hg.block b hl (Ne.symm hbV))
  have hk : Kept s w (w'.setCell ⟨s.p, j, none⟩ v) := ⟨hg.os, hg.tape, hg.output, by simp [World.setCell]; exact hg.size, fun b hl hn => hold b hl (fun e => hn (.inl e)) (fun e => hn (by
    rcases hV with rfl | rfl | rfl
    · exact .inr (.inl e)
    · exact .inr (.inr (.inl e))
    · exact .inr (.inr (.inr e))))⟩
  have hnew : ∀ {v0 v1 : Value}, (v1.ownBlock = v0.ownBlock ∨ ∃ b, v1.ownBlock = some b ∧ w.heap.size ≤ b) → ∀ b, v1.ownBlock = some b → v0.ownBlock = some b ∨ w.heap.size ≤ b := fun {v0 v1} ho b e => by
    rcases ho with ho | ⟨c, hc, hl⟩
    · exact .inl (ho ▸ e)
    · exact .inr (by have : c = b := Option.some.inj (hc.symm.trans e); omega)
  refine h.step hk hp (by rw [hr]; exact setCell_row v ((hg.block s.p hpl (Ne.symm hVp)).trans h.blk)) ?_ ?_ ?_ ?_ ?_ ?_ hx (fun x hx => ?_) (fun x hx => ?_)
  · rcases hq with ⟨h1, h2, h3⟩ | ⟨h1, h2, _⟩
    · rw [h1, h2]; exact h.wq.heap fun b e => hold b (h.own_lt (.inr (.inl e))).1 (fun e2 => h.p_ne.1 (e2 ▸ e)) (h3 b e)
    · exact h1.set (fun e => by
        rcases hnew h2 _ e with e | e
        · exact h.p_ne.1 e
        · exact absurd e (by show ¬ _ ≤ s.p; omega)) v
  · rcases hq with ⟨h1, _, _⟩ | ⟨_, h2, _⟩
    · intro b e; rw [h1] at e; exact .inl e
    · exact hnew h2
  · rcases hc with ⟨h1, h2, h3⟩ | ⟨h1, h2, _⟩
    · rw [h1, h2]; exact h.wc.heap fun b e => hold b (h.own_lt (.inr (.inr (.inl e)))).1 (fun e2 => h.p_ne.2.1 (e2 ▸ e)) (h3 b e)
    · exact h1.set (fun e => by
        rcases hnew h2 _ e with e | e
        · exact h.p_ne.2.1 e
        · exact absurd e (by show ¬ _ ≤ s.p; omega)) v
  · rcases hc with ⟨h1, _, _⟩ | ⟨_, h2, _⟩
    · intro b e; rw [h1] at e; exact .inl e
    · exact hnew h2
  · rcases ho with ⟨h1, h2, h3⟩ | ⟨h1, h2⟩
    · rw [h1, h2]; exact h.wo.heap fun b e => hold b (h.own_lt (.inr (.inr (.inr e)))).1 (fun e2 => h.p_ne.2.2 (e2 ▸ e)) (h3 b e)
    · exact h1.heap fun b e => hb b fun e2 => by
        rcases hnew h2 b e with e | e
        · exact h.p_ne.2.2 (e2 ▸ e)
        · omega
  · rcases ho with ⟨h1, _, _⟩ | ⟨_, h2⟩
    · intro b e; rw [h1] at e; exact .inl e
    · exact hnew h2
  · rcases hfq x hx with h1 | h1
    · exact .inl h1
    · obtain ⟨cur, hc⟩ := h1.block
      exact .inr (h1.heap (hb _ (heap_ne hc ((hg.block s.p hpl (Ne.symm hVp)).trans h.blk) (by decide))))
  · rcases hfc x hx with h1 | h1
    · exact .inl h1
    · obtain ⟨cur, hc⟩ := h1.block
      exact .inr (h1.heap (hb _ (heap_ne hc ((hg.block s.p hpl (Ne.symm hVp)).trans h.blk) (by decide))))
end
end Go.Proofs.YteadpnododjeaaaDoor
