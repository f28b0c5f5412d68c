/- GarbleEvals' drawn statement, its four operations on lists; append in a statement whose order is open. -/
import Derived.Test.YtamejhhjfnfalaaDoorZGX0
namespace Go.Proofs.YtamejhhjfnfalaaDoor
open Go.RowKit
open Rely (upd upd_at upd_ne)

theorem exec_append {P : Program} {ev : Operand → Value} {o : Oper} {w w' : World} (s x : Operand) (t : TypeId) (ho : o.op = .call { callee := .builtin .append, args := #[s, x], argTypes := #[t, t] }) (v x' v' : Value) (hs : ev s = v) (hx : ev x = x') (hr : (Builtin.append_ #[t, t] o.type #[v, x']).run P w = .ok v' w') : (execOp ev o).run P w = .ok (.value v') w' := by
  unfold execOp
  simp only [ho, resolve, invoke, builtin, Sem.run_bind, Sem.run_pure, Result.andThen_ok, List.map_toArray, List.map_cons, List.map_nil, hs, hx, hr]
theorem own_slice (g n c : Nat) : (Value.slice (some ⟨g, 0, none⟩) n c).ownBlock = some g := rfl
abbrev emptyL : Obj := .cells #[] 28
section
variable {w3 w w' : World} {n1 : Nat} {L1 : Nat → Lab} {n2 : Nat} {L2 : Nat → Lab} {R0 R1 : Value → Prop} {L : Nat → Bool} {γ : Nat → Value}
theorem RF.bs1 (h : RF w3 n1 L1 n2 L2 R0 R1 L γ w) (hL : L 1 = false) : RF w3 n1 L1 n2 L2 R0 R1 (upd L 1 true) (upd γ 1 (.slice (some ⟨w.heap.size, 0, none⟩) 0 0)) (w.alloc emptyL) := by
  have hb := (Below.refl w.heap.size w).alloc (Nat.le_refl _) emptyL
  have h3 : L 3 = false := by
    cases e : L 3
    · rfl
    · rw [h.c3 e] at hL; cases hL
  have h6 : L 6 = false := by
    cases e : L 6
    · rfl
    · rw [(h.c6 e).2] at h3; cases h3
  refine ⟨h.b.trans (hb.mono h.b.size), ?_, ?_, ?_, ?_, ?_, ?_, ?_, ?_, h.t7, h.t8, h.t9, h.t10, h.t11, h.t12⟩
  · intro _
    exact ⟨w.heap.size, upd_at _ _ _, h.b.size, by simp, fun _ => Row.empty w _ 2 _ h.b.size⟩
  · rw [upd_ne L 1 true (show (4 : Nat) ≠ 1 by decide), upd_ne γ 1 _ (show (4 : Nat) ≠ 1 by decide), upd_ne L 1 true (show (6 : Nat) ≠ 1 by decide)]
    intro h4
    obtain ⟨q, e, g1, g2, g3⟩ := h.r4 h4
    exact ⟨q, e, g1, Nat.lt_of_lt_of_le g2 hb.size, fun hh => (g3 hh).below hb⟩
  · rw [upd_ne L 1 true (show (3 : Nat) ≠ 1 by decide)]; intro e; rw [h3] at e; cases e
  · rw [upd_ne L 1 true (show (6 : Nat) ≠ 1 by decide)]; intro e; rw [h6] at e; cases e
  · rw [upd_ne L 1 true (show (4 : Nat) ≠ 1 by decide), upd_ne γ 1 _ (show (4 : Nat) ≠ 1 by decide), upd_at γ]
    intro _ h4
    obtain ⟨q, e, g1, g2, g3⟩ := h.r4 h4
    rw [e, own_slice, own_slice]
    intro e2
    have := Option.some.inj e2
    omega
  · rw [upd_ne L 1 true (show (3 : Nat) ≠ 1 by decide)]; intro e; rw [h3] at e; cases e
  · rw [upd_ne L 1 true (show (3 : Nat) ≠ 1 by decide)]; intro e; rw [h3] at e; cases e
  · rw [upd_ne L 1 true (show (6 : Nat) ≠ 1 by decide)]; intro e; rw [h6] at e; cases e
theorem RF.bs2 (h : RF w3 n1 L1 n2 L2 R0 R1 L γ w) (hL : L 4 = false) : RF w3 n1 L1 n2 L2 R0 R1 (upd L 4 true) (upd γ 4 (.slice (some ⟨w.heap.size, 0, none⟩) 0 0)) (w.alloc emptyL) := by
  have hb := (Below.refl w.heap.size w).alloc (Nat.le_refl _) emptyL
  have h6 : L 6 = false := by
    cases e : L 6
    · rfl
    · rw [(h.c6 e).1] at hL; cases hL
  refine ⟨h.b.trans (hb.mono h.b.size), ?_, ?_, ?_, ?_, ?_, ?_, ?_, ?_, h.t7, h.t8, h.t9, h.t10, h.t11, h.t12⟩
  · rw [upd_ne L 4 true (show (1 : Nat) ≠ 4 by decide), upd_ne γ 4 _ (show (1 : Nat) ≠ 4 by decide), upd_ne L 4 true (show (3 : Nat) ≠ 4 by decide)]
    intro h1
    obtain ⟨q, e, g1, g2, g3⟩ := h.r1 h1
    exact ⟨q, e, g1, Nat.lt_of_lt_of_le g2 hb.size, fun hh => (g3 hh).below hb⟩
  · intro _
    exact ⟨w.heap.size, upd_at _ _ _, h.b.size, by simp, fun _ => Row.empty w _ 2 _ h.b.size⟩
  · rw [upd_ne L 4 true (show (3 : Nat) ≠ 4 by decide), upd_ne γ 4 _ (show (3 : Nat) ≠ 4 by decide)]
    intro h1
    obtain ⟨q, k, e, g1, g2⟩ := h.l3 h1
    exact ⟨q, k, e, g1, g2.below hb⟩
  · rw [upd_ne L 4 true (show (6 : Nat) ≠ 4 by decide)]; intro e; rw [h6] at e; cases e
  · rw [upd_ne L 4 true (show (1 : Nat) ≠ 4 by decide), upd_ne γ 4 _ (show (1 : Nat) ≠ 4 by decide), upd_at γ]
    intro h1 _
    obtain ⟨q, e, g1, g2, g3⟩ := h.r1 h1
    rw [e, own_slice, own_slice]
    intro e2
    have := Option.some.inj e2
    omega
  · rw [upd_ne L 4 true (show (3 : Nat) ≠ 4 by decide), upd_ne γ 4 _ (show (3 : Nat) ≠ 4 by decide), upd_at γ]
    intro h1 _
    obtain ⟨q, k, e, g1, g2⟩ := h.l3 h1
    have := (g2.own q rfl).2.1
    rw [e, own_slice, own_slice]
    intro e2
    have := Option.some.inj e2
    omega
  · rw [upd_ne L 4 true (show (3 : Nat) ≠ 4 by decide), upd_ne L 4 true (show (1 : Nat) ≠ 4 by decide)]; exact h.c3
  · rw [upd_ne L 4 true (show (6 : Nat) ≠ 4 by decide)]; intro e; rw [h6] at e; cases e
/-- The first copy. -/
theorem RF.app1 (h : RF w3 n1 L1 n2 L2 R0 R1 L γ w) (hL : L 3 = false) (h1 : L 1 = true) (A : Option Addr) (c : Nat) (hA : AtV w3 A (n1 * 2) (lv L1)) (hc : A = none → n1 = 0 ∧ c = 0) (hn : n1 ≤ 1000000) :
    ∃ g k w', (∀ ty, (Builtin.append_ #[29, 29] ty #[γ 1, .slice A n1 c]).run Tryd.prog w = .ok (.slice (some ⟨g, 0, none⟩) n1 k) w') ∧ RF w3 n1 L1 n2 L2 R0 R1 (upd L 3 true) (upd γ 3 (.slice (some ⟨g, 0, none⟩) n1 k)) w' := by
  obtain ⟨g1, e1, hg1, hl1, hr1⟩ := h.r1 h1
  have hR := hr1 hL
  have h6 : L 6 = false := by
    cases e : L 6
    · rfl
    · rw [(h.c6 e).2] at hL; cases hL
  obtain ⟨g, k, w', hr, hgB, hR', hor, hch⟩ := append_onto w w3.heap.size g1 n1 c A L1 _ hR (hA.below h.b) hc hn h.b.size
  refine ⟨g, k, w', fun ty => by rw [e1]; exact hr ty, ?_⟩
  have hbl : Below w3.heap.size w3 w' := h.b.trans (hch.below h.b.size (fun q e => by omega))
  refine ⟨hbl, ?_, ?_, ?_, ?_, ?_, ?_, ?_, ?_, h.t7, h.t8, h.t9, h.t10, h.t11, h.t12⟩
  · rw [upd_ne L 3 true (show (1 : Nat) ≠ 3 by decide), upd_ne γ 3 _ (show (1 : Nat) ≠ 3 by decide), upd_at L]
    intro _
    exact ⟨g1, e1, hg1, Nat.lt_of_lt_of_le hl1 hch.size, fun hh => by cases hh⟩
  · rw [upd_ne L 3 true (show (4 : Nat) ≠ 3 by decide), upd_ne γ 3 _ (show (4 : Nat) ≠ 3 by decide), upd_ne L 3 true (show (6 : Nat) ≠ 3 by decide)]
    intro h4
    obtain ⟨q, e, k1, k2, k3⟩ := h.r4 h4
    refine ⟨q, e, k1, Nat.lt_of_lt_of_le k2 hch.size, fun hh => (k3 hh).chg hch fun x hx e3 => ?_⟩
    have hd := h.d14 h1 h4
    rw [e1, e, own_slice, own_slice] at hd
    rw [own_slice] at hx
    exact hd (by rw [hx, e3])
  · intro _
    exact ⟨g, k, upd_at _ _ _, hgB, hR'⟩
  · rw [upd_ne L 3 true (show (6 : Nat) ≠ 3 by decide)]; intro e; rw [h6] at e; cases e
  · rw [upd_ne L 3 true (show (1 : Nat) ≠ 3 by decide), upd_ne γ 3 _ (show (1 : Nat) ≠ 3 by decide), upd_ne L 3 true (show (4 : Nat) ≠ 3 by decide), upd_ne γ 3 _ (show (4 : Nat) ≠ 3 by decide)]; exact h.d14
  · rw [upd_ne L 3 true (show (4 : Nat) ≠ 3 by decide), upd_ne γ 3 _ (show (4 : Nat) ≠ 3 by decide), upd_at γ]
    intro _ h4
    obtain ⟨q, e, k1, k2, k3⟩ := h.r4 h4
    have hd := h.d14 h1 h4
    rw [e1, e, own_slice, own_slice] at hd
    rw [e, own_slice, own_slice]
    rcases hor with h5 | h5
    · rw [h5]; exact hd
    · intro e2
      have := Option.some.inj e2
      omega
  · rw [upd_ne L 3 true (show (1 : Nat) ≠ 3 by decide)]; intro _; exact h1
  · rw [upd_ne L 3 true (show (6 : Nat) ≠ 3 by decide)]; intro e; rw [h6] at e; cases e
/-- The second copy. -/
theorem RF.app2 (h : RF w3 n1 L1 n2 L2 R0 R1 L γ w) (hL : L 6 = false) (h4 : L 4 = true) (h3 : L 3 = true) (A : Option Addr) (c : Nat) (hA : AtV w3 A (n2 * 2) (lv L2)) (hc : A = none → n2 = 0 ∧ c = 0) (hn : n2 ≤ 1000000) :
    ∃ g k w', (∀ ty, (Builtin.append_ #[29, 29] ty #[γ 4, .slice A n2 c]).run Tryd.prog w = .ok (.slice (some ⟨g, 0, none⟩) n2 k) w') ∧ RF w3 n1 L1 n2 L2 R0 R1 (upd L 6 true) (upd γ 6 (.slice (some ⟨g, 0, none⟩) n2 k)) w' := by
  obtain ⟨g4, e4, hg4, hl4, hr4⟩ := h.r4 h4
  have hR := hr4 hL
  obtain ⟨g, k, w', hr, hgB, hR', hor, hch⟩ := append_onto w w3.heap.size g4 n2 c A L2 _ hR (hA.below h.b) hc hn h.b.size
  refine ⟨g, k, w', fun ty => by rw [e4]; exact hr ty, ?_⟩
  have hbl : Below w3.heap.size w3 w' := h.b.trans (hch.below h.b.size (fun q e => by omega))
  refine ⟨hbl, ?_, ?_, ?_, ?_, ?_, ?_, ?_, ?_, h.t7, h.t8, h.t9, h.t10, h.t11, h.t12⟩
  · rw [upd_ne L 6 true (show (1 : Nat) ≠ 6 by decide), upd_ne γ 6 _ (show (1 : Nat) ≠ 6 by decide), upd_ne L 6 true (show (3 : Nat) ≠ 6 by decide)]
    intro h1
    obtain ⟨q, e, k1, k2, k3⟩ := h.r1 h1
    exact ⟨q, e, k1, Nat.lt_of_lt_of_le k2 hch.size, fun hh => by rw [h3] at hh; cases hh⟩
  · rw [upd_ne L 6 true (show (4 : Nat) ≠ 6 by decide), upd_ne γ 6 _ (show (4 : Nat) ≠ 6 by decide), upd_at L]
    intro _
    exact ⟨g4, e4, hg4, Nat.lt_of_lt_of_le hl4 hch.size, fun hh => by cases hh⟩
  · rw [upd_ne L 6 true (show (3 : Nat) ≠ 6 by decide), upd_ne γ 6 _ (show (3 : Nat) ≠ 6 by decide)]
    intro _
    obtain ⟨q, kq, e, k1, k2⟩ := h.l3 h3
    refine ⟨q, kq, e, k1, k2.chg hch fun x hx e3 => ?_⟩
    have hd := h.d34 h3 h4
    rw [e4, e, own_slice, own_slice] at hd
    rw [own_slice] at hx
    exact hd (by rw [hx, e3])
  · intro _
    exact ⟨g, k, upd_at _ _ _, hgB, hR'⟩
  · rw [upd_ne L 6 true (show (1 : Nat) ≠ 6 by decide), upd_ne γ 6 _ (show (1 : Nat) ≠ 6 by decide), upd_ne L 6 true (show (4 : Nat) ≠ 6 by decide), upd_ne γ 6 _ (show (4 : Nat) ≠ 6 by decide)]; exact h.d14
  · rw [upd_ne L 6 true (show (3 : Nat) ≠ 6 by decide), upd_ne γ 6 _ (show (3 : Nat) ≠ 6 by decide), upd_ne L 6 true (show (4 : Nat) ≠ 6 by decide), upd_ne γ 6 _ (show (4 : Nat) ≠ 6 by decide)]; exact h.d34
  · rw [upd_ne L 6 true (show (3 : Nat) ≠ 6 by decide), upd_ne L 6 true (show (1 : Nat) ≠ 6 by decide)]; exact h.c3
  · rw [upd_ne L 6 true (show (4 : Nat) ≠ 6 by decide), upd_ne L 6 true (show (3 : Nat) ≠ 6 by decide)]; intro _; exact ⟨h4, h3⟩
end
end Go.Proofs.YtamejhhjfnfalaaDoor
