/- The net in memory: two lists of frames, each frame a block of its own. -/
import Derived.Test.YtfilhlilagmhlaaDoorNB1
namespace Go.Proofs.YtfilhlilagmhlaaDoor
open Go.RowKit

/-- A frame under way: its block, how many bytes, which. -/
structure Fr where
  blk : Nat
  len : Nat
  dat : Nat → Nat
def frV (x : Fr) : Value := .slice (some ⟨x.blk, 0, none⟩) x.len x.len
/-- The frame lies in memory. -/
structure Lies (w : World) (base : Nat) (x : Fr) : Prop where
  own : OwnB w x.blk x.len 5 x.dat
  lo : base ≤ x.blk
  lt : ∀ i, x.dat i < 256
  small : x.len ≤ 140737488355328
def Way (w : World) (base : Nat) (v : Value) (L : List Fr) : Prop := w.ownsRow base 32 1 v L.length (L.map frV)
structure St where
  p : Nat
  v : Nat → Value
  L : Nat → List Fr
structure NetAt (w : World) (base : Nat) (s : St) : Prop where
  net : w.heap[s.p]? = some (.cells #[s.v 0, s.v 1] 55 (0, 0))
  lo : base ≤ s.p
  way : ∀ k, k < 2 → Way w base (s.v k) (s.L k)
  fr : ∀ k, k < 2 → ∀ x ∈ s.L k, Lies w base x
  nd : ∀ k, k < 2 → ((s.L k).map Fr.blk).Nodup
  ap : ∀ q r, q < 2 → r < 2 → q ≠ r → (∀ b, (s.v q).ownBlock = some b → (s.v r).ownBlock ≠ some b) ∧ ∀ x ∈ s.L q, ∀ y ∈ s.L r, x.blk ≠ y.blk
  short : ∀ k, k < 2 → (s.L k).length ≤ 64
def St.put (s : St) (k : Nat) (v : Value) (l : List Fr) : St := ⟨s.p, fun q => if q = k then v else s.v q, fun q => if q = k then l else s.L q⟩
theorem St.put_v (s : St) (k : Nat) (v : Value) (l : List Fr) : (s.put k v l).v k = v := by simp [St.put]
theorem St.put_L (s : St) (k : Nat) (v : Value) (l : List Fr) : (s.put k v l).L k = l := by simp [St.put]
theorem St.put_vo (s : St) (k q : Nat) (v : Value) (l : List Fr) (h : q ≠ k) : (s.put k v l).v q = s.v q := by simp [St.put, h]
theorem St.put_Lo (s : St) (k q : Nat) (v : Value) (l : List Fr) (h : q ≠ k) : (s.put k v l).L q = s.L q := by simp [St.put, h]
theorem St.put_p (s : St) (k : Nat) (v : Value) (l : List Fr) : (s.put k v l).p = s.p := rfl

/-- The blocks that are the net's. -/
def St.own (s : St) (b : Nat) : Prop := b = s.p ∨ ∃ k, k < 2 ∧ ((s.v k).ownBlock = some b ∨ ∃ x ∈ s.L k, x.blk = b)
/-- All blocks but the net's are as they were. -/
structure Kept (s : St) (w w' : World) : Prop where
  os : w'.os = w.os
  tape : w'.tape = w.tape
  output : w'.output = w.output
  size : w.heap.size ≤ w'.heap.size
  block : ∀ b, b < w.heap.size → ¬ s.own b → w'.heap[b]? = w.heap[b]?
/-- What becomes the net's was its own, or is new. -/
def Grows (s : St) (w : World) (s' : St) : Prop := ∀ b, s'.own b → s.own b ∨ w.heap.size ≤ b

section
variable {w w' w2 : World} {base : Nat} {s s' s2 : St}
theorem Kept.refl (s : St) (w : World) : Kept s w w := ⟨rfl, rfl, rfl, Nat.le_refl _, fun _ _ _ => rfl⟩
theorem Kept.of_below (h : Below w.heap.size w w') : Kept s w w' := ⟨h.os, h.tape, h.output, h.size, fun b hb _ => h.block b hb⟩
theorem Grows.refl (s : St) (w : World) : Grows s w s := fun _ h => .inl h
theorem Kept.trans (h : Kept s w w') (h2 : Kept s' w' w2) (hg : Grows s w s') : Kept s w w2 :=
  ⟨h2.os.trans h.os, h2.tape.trans h.tape, h2.output.trans h.output, Nat.le_trans h.size h2.size, fun b hb hn => (h2.block b (Nat.lt_of_lt_of_le hb h.size) (fun ho => (hg b ho).elim hn (fun h => by omega))).trans (h.block b hb hn)⟩
theorem Grows.trans (h : Grows s w s') (hs : w.heap.size ≤ w'.heap.size) (h2 : Grows s' w' s2) : Grows s w s2 := fun b hb => (h2 b hb).elim (h b) (fun h => .inr (Nat.le_trans hs h))
theorem Lies.heap {x : Fr} (h : Lies w base x) (hb : w'.heap[x.blk]? = w.heap[x.blk]?) : Lies w' base x := ⟨hb.trans h.own, h.lo, h.lt, h.small⟩
theorem Way.heap {v : Value} {L : List Fr} (h : Way w base v L) (hb : ∀ b, v.ownBlock = some b → w'.heap[b]? = w.heap[b]?) : Way w' base v L := by
  refine ⟨h.1, ?_⟩
  rcases h.2 with h0 | ⟨g, cap, cur, rfl, h1, h2, rest⟩
  · exact .inl h0
  · exact .inr ⟨g, cap, cur, rfl, h1, (hb g rfl).trans h2, rest⟩
theorem Way.block {v : Value} {L : List Fr} (h : Way w base v L) {b : Nat} (hb : v.ownBlock = some b) : base ≤ b ∧ ∃ cur, w.heap[b]? = some (.cells cur 32 (0, 0)) := by
  rcases h.2 with ⟨rfl, _⟩ | ⟨g, cap, cur, rfl, h1, h2, rest⟩
  · cases hb
  · have : g = b := by simpa [Value.ownBlock] using hb
    subst this
    exact ⟨h1, cur, h2⟩
theorem Way.slice {v : Value} {L : List Fr} (h : Way w base v L) : ∃ A c, v = .slice A L.length c ∧ L.length ≤ c ∧ c ≤ maxLen ∧ (A = none → L = [] ∧ c = 0) := by
  rcases h.2 with ⟨rfl, h0⟩ | ⟨g, cap, cur, rfl, h1, h2, h3, h4, _⟩
  · exact ⟨none, 0, by rw [h0], by omega, Nat.zero_le _, fun _ => ⟨List.length_eq_zero_iff.1 h0, rfl⟩⟩
  · exact ⟨some ⟨g, 0, none⟩, cap, rfl, h3, h4, fun h => by cases h⟩
theorem heap_ne {b c : Nat} {x y : Array Value} {t u : TypeId} {f g : Nat × Nat} (h : w.heap[b]? = some (.cells x t f)) (h' : w.heap[c]? = some (.cells y u g)) (hne : t ≠ u) : b ≠ c := by
  intro e
  subst e
  rw [h] at h'
  injection h' with h'
  injection h' with _ h2
  exact hne h2
theorem NetAt.p_lt (h : NetAt w base s) : s.p < w.heap.size := (Array.getElem?_eq_some_iff.1 h.net).1
theorem NetAt.own_lt (h : NetAt w base s) {b : Nat} (hb : s.own b) : b < w.heap.size ∧ base ≤ b := by
  rcases hb with rfl | ⟨k, hk, hb | ⟨x, hx, rfl⟩⟩
  · exact ⟨h.p_lt, h.lo⟩
  · obtain ⟨h1, cur, h2⟩ := (h.way k hk).block hb
    exact ⟨(Array.getElem?_eq_some_iff.1 h2).1, h1⟩
  · exact ⟨(h.fr k hk x hx).own.lt, (h.fr k hk x hx).lo⟩
theorem NetAt.cell (h : NetAt w base s) (k : Nat) (hk : k < 2) : w.cell? ⟨s.p, k, none⟩ = some (s.v k) := by
  rw [cell_of_row w s.p k _ _ (0, 0) h.net]
  rcases k with _ | _ | k
  · rfl
  · rfl
  · omega
theorem NetAt.frozen (h : NetAt w base s) (k : Nat) : w.frozen? ⟨s.p, k, none⟩ = false := by have := h.net; simp [World.frozen?, this]
/-- The world has changed in no block that is the net's. -/
theorem NetAt.heap (h : NetAt w base s) (hb : ∀ b, s.own b → w'.heap[b]? = w.heap[b]?) : NetAt w' base s where
  net := (hb _ (.inl rfl)).trans h.net
  lo := h.lo
  way k hk := (h.way k hk).heap fun b hv => hb b (.inr ⟨k, hk, .inl hv⟩)
  fr k hk x hx := (h.fr k hk x hx).heap (hb _ (.inr ⟨k, hk, .inr ⟨x, hx, rfl⟩⟩))
  nd := h.nd
  ap := h.ap
  short := h.short
theorem NetAt.below (h : NetAt w base s) (hb : Below w.heap.size w w') : NetAt w' base s := h.heap fun b ho => hb.block b (h.own_lt ho).1
theorem Kept.below {w0 : World} (h : Kept s w w') (hn : NetAt w base s) (h0 : Below base w0 w) (hs : base ≤ w.heap.size) : Below base w0 w' :=
  h0.trans ⟨h.os, h.tape, h.output, h.size, fun b hb => h.block b (by omega) (fun ho => by have := (hn.own_lt ho).2; omega)⟩
/-- One way has become another; its block, and the net's, are all that has changed. -/
theorem NetAt.step {k : Nat} {v : Value} {l : List Fr} (h : NetAt w base s) (hk : k < 2)
    (hb : ∀ b, b < w.heap.size → b ≠ s.p → (s.v k).ownBlock ≠ some b → w'.heap[b]? = w.heap[b]?)
    (hnet : w'.heap[s.p]? = some (.cells #[(s.put k v l).v 0, (s.put k v l).v 1] 55 (0, 0)))
    (hway : Way w' base v l) (hv : v.ownBlock = (s.v k).ownBlock ∨ ∃ b, v.ownBlock = some b ∧ w.heap.size ≤ b)
    (hl : ∀ x ∈ l, x ∈ s.L k ∨ (Lies w' base x ∧ w.heap.size ≤ x.blk)) (hnd : (l.map Fr.blk).Nodup) (hlen : l.length ≤ 64) : NetAt w' base (s.put k v l) ∧ Grows s w (s.put k v l) := by
  have hfr : ∀ q, q < 2 → ∀ x ∈ s.L q, w'.heap[x.blk]? = w.heap[x.blk]? := fun q hq x hx => by
    have hx' := (h.fr q hq x hx).own
    refine hb _ hx'.lt (heap_ne hx' h.net (by decide)) fun e => ?_
    obtain ⟨_, cur, h2⟩ := (h.way k hk).block e
    exact heap_ne hx' h2 (by decide) rfl
  have hwy : ∀ q, q < 2 → q ≠ k → ∀ b, (s.v q).ownBlock = some b → w'.heap[b]? = w.heap[b]? := fun q hq hne b hbq => by
    obtain ⟨_, cur, h2⟩ := (h.way q hq).block hbq
    exact hb _ (Array.getElem?_eq_some_iff.1 h2).1 (heap_ne h2 h.net (by decide)) ((h.ap q k hq hk hne).1 b hbq)
  refine ⟨⟨hnet, h.lo, fun q hq => ?_, fun q hq x hx => ?_, fun q hq => ?_, fun q r hq hr hne => ⟨fun b hbq => ?_, fun x hx y hy => ?_⟩, fun q hq => ?_⟩, ?_⟩
  · by_cases e : q = k
    · subst e; rw [St.put_v, St.put_L]; exact hway
    · rw [St.put_vo _ _ _ _ _ e, St.put_Lo _ _ _ _ _ e]; exact (h.way q hq).heap (hwy q hq e)
  · by_cases e : q = k
    · subst e
      rw [St.put_L] at hx
      rcases hl x hx with hx | ⟨hx, _⟩
      · exact (h.fr q hq x hx).heap (hfr q hq x hx)
      · exact hx
    · rw [St.put_Lo _ _ _ _ _ e] at hx; exact (h.fr q hq x hx).heap (hfr q hq x hx)
  · by_cases e : q = k
    · subst e; rw [St.put_L]; exact hnd
    · rw [St.put_Lo _ _ _ _ _ e]; exact h.nd q hq
  · by_cases e : q = k
    · subst e
      rw [St.put_v] at hbq
      rw [St.put_vo _ _ _ _ _ (Ne.symm hne)]
      rcases hv with hv | ⟨b', hv, hlt⟩
      · exact (h.ap q r hq hr hne).1 b (hv.symm.trans hbq)
      · intro hr'
        obtain ⟨_, cur, h2⟩ := (h.way r hr).block hr'
        have := (Array.getElem?_eq_some_iff.1 h2).1
        have : b = b' := Option.some.inj (hbq.symm.trans hv)
        omega
    · rw [St.put_vo _ _ _ _ _ e] at hbq
      by_cases e2 : r = k
      · subst e2
        rw [St.put_v]
        rcases hv with hv | ⟨b', hv, hlt⟩
        · rw [hv]; exact (h.ap q r hq hr hne).1 b hbq
        · intro hr'
          obtain ⟨_, cur, h2⟩ := (h.way q hq).block hbq
          have := (Array.getElem?_eq_some_iff.1 h2).1
          have : b' = b := Option.some.inj (hv.symm.trans hr')
          omega
      · rw [St.put_vo _ _ _ _ _ e2]; exact (h.ap q r hq hr hne).1 b hbq
  · by_cases e : q = k
    · subst e
      rw [St.put_L] at hx
      rw [St.put_Lo _ _ _ _ _ (Ne.symm hne)] at hy
      rcases hl x hx with hx | ⟨_, hx⟩
      · exact (h.ap q r hq hr hne).2 x hx y hy
      · have := (h.fr r hr y hy).own.lt; omega
    · rw [St.put_Lo _ _ _ _ _ e] at hx
      by_cases e2 : r = k
      · subst e2
        rw [St.put_L] at hy
        rcases hl y hy with hy | ⟨_, hy⟩
        · exact (h.ap q r hq hr hne).2 x hx y hy
        · have := (h.fr q hq x hx).own.lt; omega
      · rw [St.put_Lo _ _ _ _ _ e2] at hy; exact (h.ap q r hq hr hne).2 x hx y hy
  · by_cases e : q = k
    · subst e; rw [St.put_L]; exact hlen
    · rw [St.put_Lo _ _ _ _ _ e]; exact h.short q hq
  · intro b ho
    rcases ho with rfl | ⟨q, hq, hbq | ⟨x, hx, rfl⟩⟩
    · exact .inl (.inl rfl)
    · by_cases e : q = k
      · subst e
        rw [St.put_v] at hbq
        rcases hv with hv | ⟨b', hv, hlt⟩
        · exact .inl (.inr ⟨q, hq, .inl (hv.symm.trans hbq)⟩)
        · have : b' = b := Option.some.inj (hv.symm.trans hbq)
          exact .inr (by omega)
      · rw [St.put_vo _ _ _ _ _ e] at hbq; exact .inl (.inr ⟨q, hq, .inl hbq⟩)
    · by_cases e : q = k
      · subst e
        rw [St.put_L] at hx
        rcases hl x hx with hx | ⟨_, hx⟩
        · exact .inl (.inr ⟨q, hq, .inr ⟨x, hx, rfl⟩⟩)
        · exact .inr hx
      · rw [St.put_Lo _ _ _ _ _ e] at hx; exact .inl (.inr ⟨q, hq, .inr ⟨x, hx, rfl⟩⟩)
end
end Go.Proofs.YtfilhlilagmhlaaDoor
