/- For LinkOwn: bytes that the law itself writes. -/
import Derived.Test.YteadpnododjeaaaDoorLX3
namespace Go.Proofs.YteadpnododjeaaaDoor
open Go.RowKit

/-- A block of cells of the type t with n of them or more. -/
def Room (w : World) (t g n : Nat) : Prop := ∃ cur, w.heap[g]? = some (.cells cur t (0, 0)) ∧ n ≤ cur.size
theorem Room.cell {w : World} {t g n : Nat} (h : Room w t g n) (i : Nat) (hi : i < n) : ∃ v, w.cell? ⟨g, i, none⟩ = some v := by
  obtain ⟨cur, hg, hs⟩ := h
  rw [cell_of_row w g i cur t (0, 0) hg]
  exact ⟨_, Array.getElem?_eq_getElem (by omega)⟩
theorem Room.frozen {w : World} {t g n : Nat} (h : Room w t g n) (i : Nat) : w.frozen? ⟨g, i, none⟩ = false := by
  obtain ⟨cur, hg, _⟩ := h
  simp [World.frozen?, hg]
theorem Room.set {w : World} {t g n : Nat} (h : Room w t g n) (i : Nat) (v : Value) : Room (w.setCell ⟨g, i, none⟩ v) t g n := by
  obtain ⟨cur, hg, hs⟩ := h
  exact ⟨cur.setIfInBounds i v, by simp [World.setCell, Array.getElem?_modify, hg], by simpa using hs⟩
theorem Room.block {w w' : World} {t g n : Nat} (h : Room w t g n) (hb : w'.heap[g]? = w.heap[g]?) : Room w' t g n := by
  obtain ⟨cur, hg, hs⟩ := h
  exact ⟨cur, hb.trans hg, hs⟩
theorem Room.lt {w : World} {t g n : Nat} (h : Room w t g n) : g < w.heap.size := by
  obtain ⟨cur, hg, _⟩ := h
  exact (Array.getElem?_eq_some_iff.1 hg).1
theorem Keep.refl (g : Nat) (w : World) : Keep g w w := ⟨rfl, rfl, rfl, Nat.le_refl _, fun _ _ _ => rfl⟩
theorem Keep.set {g : Nat} {w w' : World} (h : Keep g w w') {p : Addr} (hp : p.block = g) (v : Value) : Keep g w (w'.setCell p v) :=
  ⟨h.os, h.tape, h.output, by have := h.size; simpa [World.setCell] using this, fun k hk hg => (Below.heap_setCell w' p v k (by omega)).trans (h.block k hk hg)⟩
theorem OR.room {w : World} {base g n k : Nat} {f : Nat → Nat} (h : OR w base (sl8 g n k) n f) : Room w 5 g n := by
  rcases h.2 with ⟨hx, _⟩ | ⟨g', cap, cur, hv, hb, hg, hnc, hm, hsz, ht⟩
  · cases hx
  · injection hv with e1 e2 e3
    injection e1 with e1
    injection e1 with e1
    subst e1 e3
    exact ⟨cur, hg, by rw [hsz, Nat.mul_one]; exact hnc⟩
section
variable {w w' w0 : World} {base g N : Nat} {s t : En}
/-- A block of bytes is written that is none of the end's payloads. -/
theorem EndAt.keep (h : EndAt w base s) (hk : Keep g w w') (ho : ¬ s.own g) (hq : ∀ x ∈ s.Q, x.blk ≠ g) (hc : ∀ x ∈ s.C, x.blk ≠ g) : EndAt w' base s where
  blk := (hk.block _ h.p_lt fun e => ho (.inl e.symm)).trans h.blk
  lo := h.lo
  wq := h.wq.heap fun b hv => hk.block b (h.own_lt (.inr (.inl hv))).1 fun e => ho (.inr (.inl (e ▸ hv)))
  wc := h.wc.heap fun b hv => hk.block b (h.own_lt (.inr (.inr (.inl hv)))).1 fun e => ho (.inr (.inr (.inl (e ▸ hv))))
  wo := h.wo.heap fun b hv => hk.block b (h.own_lt (.inr (.inr (.inr hv)))).1 fun e => ho (.inr (.inr (.inr (e ▸ hv))))
  fq x hx := (h.fq x hx).heap (hk.block _ (h.fq x hx).inside (hq x hx))
  fc x hx := (h.fc x hx).heap (hk.block _ (h.fc x hx).inside (hc x hx))
  ap := h.ap
theorem Duo.keep (h : Duo w0 w s t N) (hk : Keep g w w') (hr : Room w 5 g 0) (hg : w0.heap.size ≤ g) (hq : ∀ x ∈ s.Q, x.blk ≠ g) (hc : ∀ x ∈ s.C, x.blk ≠ g) (hq2 : ∀ x ∈ t.Q, x.blk ≠ g) (hc2 : ∀ x ∈ t.C, x.blk ≠ g) : Duo w0 w' s t N := by
  obtain ⟨cur, hcur, _⟩ := hr
  have hb : Below w0.heap.size w0 w' := hk.below h.blw hg h.size
  refine ⟨⟨h.l.keep hk (h.l.bytes hcur) hq hc, h.r.keep hk (h.r.bytes hcur) hq2 hc2, h.two.ap⟩, hb, h.fl, h.fr, ?_, h.two2⟩
  have h2 := h.two2
  have h3 := h.size
  exact ⟨fun k hkk => (World.cell?_of_block (a := ⟨0, k, none⟩) (hk.block _ (by show 0 < _; omega) (by show 0 ≠ g; omega))).trans (h.laid.1 k hkk), (World.cell?_of_block (a := ⟨1, 0, none⟩) (hk.block _ (by show 1 < _; omega) (by show 1 ≠ g; omega))).trans h.laid.2⟩
theorem Keep.lies {x : Fr} (hk : Keep g w w') (h : Lies w base x) (hx : x.blk ≠ g) : Lies w' base x := h.heap (hk.block _ h.inside hx)
end
end Go.Proofs.YteadpnododjeaaaDoor
