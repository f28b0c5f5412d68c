/- Two ends in a law: all that is carried along. -/
import Derived.Test.YteadpnododjeaaaDoorLA1
namespace Go.Proofs.YteadpnododjeaaaDoor
open Go.RowKit

/-- Two ends made since w0, all counts at most N; the listed variables. -/
structure Duo (w0 w : World) (s t : En) (N : Nat) : Prop where
  two : Two w w0.heap.size s t
  blw : Below w0.heap.size w0 w
  fl : Fine s N
  fr : Fine t N
  laid : Laid w
  two2 : 2 ≤ w0.heap.size
/-- A list's block is none of an end's. -/
def Free (v : Value) (t : En) : Prop := ∀ b, v.ownBlock = some b → ¬ t.own b
section
variable {w0 w w' : World} {s s' t t' : En} {N M B base : Nat} {v : Value} {S : List (Nat × (Nat → Nat))}
theorem Duo.l (h : Duo w0 w s t N) : EndAt w w0.heap.size s := h.two.l
theorem Duo.r (h : Duo w0 w s t N) : EndAt w w0.heap.size t := h.two.r
theorem Duo.size (h : Duo w0 w s t N) : w0.heap.size ≤ w.heap.size := h.blw.size
theorem Duo.below (h : Duo w0 w s t N) (hb : Below w.heap.size w w') : Duo w0 w' s t N :=
  ⟨h.two.below hb, h.blw.trans (hb.mono h.size), h.fl, h.fr, h.laid.below hb (Nat.le_trans h.two2 h.size), h.two2⟩
theorem Duo.swap (h : Duo w0 w s t N) : Duo w0 w t s N := ⟨h.two.swap, h.blw, h.fr, h.fl, h.laid, h.two2⟩
theorem Duo.left (h : Duo w0 w s t N) (g : Goes w w0.heap.size s w' s') (hF : Fine s' M) (hM : N ≤ M) : Duo w0 w' s' t M :=
  ⟨h.two.left g, g.below h.l h.blw h.size, hF, h.fr.mono hM, (show Laid w0 → Laid w' from fun hL => hL.below (g.below h.l h.blw h.size) h.two2) (by
    have hb := h.blw
    refine ⟨fun k hk => ?_, ?_⟩
    · exact (hb.cell (p := ⟨0, k, none⟩) (by have := h.two2; show 0 < _; omega)).symm.trans (h.laid.1 k hk)
    · exact (hb.cell (p := ⟨1, 0, none⟩) (by have := h.two2; show 1 < _; omega)).symm.trans h.laid.2), h.two2⟩
theorem Duo.right (h : Duo w0 w s t N) (g : Goes w w0.heap.size t w' t') (hF : Fine t' M) (hM : N ≤ M) : Duo w0 w' s t' M := (h.swap.left g hF hM).swap
theorem Duo.mono (h : Duo w0 w s t N) (hM : N ≤ M) : Duo w0 w s t M := ⟨h.two, h.blw, h.fl.mono hM, h.fr.mono hM, h.laid, h.two2⟩
theorem duo_new (hL : Laid w) : Duo w ((w.alloc (.cells (En.new w.heap.size).row 76)).alloc (.cells (En.new (w.heap.size + 1)).row 76)) (En.new w.heap.size) (En.new (w.heap.size + 1)) 0 := by
  have hb : Below w.heap.size w ((w.alloc (.cells (En.new w.heap.size).row 76)).alloc (.cells (En.new (w.heap.size + 1)).row 76)) := ((Below.refl _ _).alloc (Nat.le_refl _) _).alloc (by simp) _
  exact ⟨two_new w, hb, Fine.new _, Fine.new _, hL.below hb hL.pos, hL.pos⟩
theorem Outs.blk (h : Outs w B v S) {b : Nat} (hb : v.ownBlock = some b) : B ≤ b ∧ b < w.heap.size := by
  obtain ⟨F, h1, _⟩ := h
  obtain ⟨hl, cur, hc⟩ := h1.block hb
  exact ⟨hl, (Array.getElem?_eq_some_iff.1 hc).1⟩
/-- A call on an end leaves a list of frames alone that isn't its own. -/
theorem Outs.keep (h : Outs w B v S) (ht : EndAt w base t) (hk : Kept t w w') (hf : Free v t) : Outs w' B v S := by
  obtain ⟨F, h1, h2, h3⟩ := h
  refine ⟨F, h1.heap fun b e => ?_, fun x hx => ht.lies hk (h2 x hx), h3⟩
  obtain ⟨_, cur, hc⟩ := h1.block e
  exact hk.block b (Array.getElem?_eq_some_iff.1 hc).1 (hf b e)
theorem Free.goes (hf : Free v t) (h : Outs w B v S) (hg : Grows t w t') : Free v t' := fun b e ho => (hg b ho).elim (hf b e) fun h1 => by
  have := (h.blk e).2
  omega
theorem Free.old (h : Outs w' w.heap.size v S) (ht : EndAt w base t) : Free v t := fun b e ho => by
  have := (h.blk e).1
  have := (ht.own_lt ho).1
  omega
theorem Free.step (h : Outs w' w.heap.size v S) (hs : EndAt w base s) (hs' : ∀ b, s'.own b → s.own b) : Free v s' := fun b e ho => by
  have := (h.blk e).1
  have := (hs.own_lt (hs' b ho)).1
  omega
end
theorem own_quiet {s : En} {b : Nat} (h : s.quietStep.own b) : s.own b := own_nil (s' := s.quietStep) h
theorem own_sends {s : En} {b : Nat} (h : s.sends.own b) : s.own b := own_nil (s' := s.sends) h
theorem own_dies {s : En} {v : Value} {b : Nat} (h : (s.dies v).own b) : s.own b := own_nil (s' := s.dies v) h
end Go.Proofs.YteadpnododjeaaaDoor
