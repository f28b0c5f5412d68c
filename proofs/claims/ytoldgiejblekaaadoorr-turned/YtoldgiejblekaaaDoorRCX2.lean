/- What the laws' two circuits are in memory; the drawn calls of the document's Good and Eval. -/
import Derived.Test.YtoldgiejblekaaaDoorRCX0
import Derived.Test.YtoldgiejblekaaaDoorRBQ4
namespace Go.Proofs.YtoldgiejblekaaaDoorR
open Go.RowKit

/-- A circuit in a block of its own, and its lists. -/
structure Ci (b : Nat) (N : Int) (g1 n k1 g2 m k2 : Nat) (y : Nat → Nat → Int) (o : Nat → Int) (w : World) : Prop where
  c : circB w b N (some ⟨g1, 0, none⟩) n k1 (some ⟨g2, 0, none⟩) m k2
  g : AtV w (some ⟨g1, 0, none⟩) (n * 3) (gv y)
  o : AtV w (some ⟨g2, 0, none⟩) m (iv o)
section
variable {b : Nat} {N : Int} {g1 n k1 g2 m k2 : Nat} {y : Nat → Nat → Int} {o : Nat → Int} {w w' : World}
theorem Ci.below (h : Ci b N g1 n k1 g2 m k2 y o w) (hb : Below w.heap.size w w') : Ci b N g1 n k1 g2 m k2 y o w' := ⟨h.c.below hb h.c.lt, h.g.below hb, h.o.below hb⟩
theorem Ci.cells (h : Ci b N g1 n k1 g2 m k2 y o w) : w.cell? ⟨b, 0, none⟩ = some (.int .i64 N) ∧ w.cell? ⟨b, 1, none⟩ = some (.slice (some ⟨g1, 0, none⟩) n k1) ∧ w.cell? ⟨b, 2, none⟩ = some (.slice (some ⟨g2, 0, none⟩) m k2) :=
  ⟨h.c.cell 0 rfl, h.c.cell 1 rfl, h.c.cell 2 rfl⟩
/-- A list of the call's own, read where it lies. -/
theorem Row.atv {base e s g c : Nat} {F : Nat → Value} (h : Row w base e s (.slice (some ⟨g, 0, none⟩) n c) n F) : AtV w (some ⟨g, 0, none⟩) (n * s) F := fun i hi => ⟨_, rfl, by
  rw [Addr.add_mid, Nat.zero_add]; exact h.cellAt i hi⟩
theorem Row.le {base e s g n c : Nat} {F : Nat → Value} (h : Row w base e s (.slice (some ⟨g, 0, none⟩) n c) n F) : n ≤ c := by
  obtain ⟨A, c', e1, h1, _⟩ := h.read
  injection e1 with _ _ e3
  omega
/-- What Own answers, stored in a block. -/
theorem ci_store (X : Array Value) (hX : Blk w b 25 X) (hs : X.size = 3) (h1 : b ≠ g1) (h2 : b ≠ g2) (R1 : AtV w (some ⟨g1, 0, none⟩) (n * 3) (gv y)) (R2 : AtV w (some ⟨g2, 0, none⟩) m (iv o)) :
    Ci b N g1 n k1 g2 m k2 y o (((w.setCell ⟨b, 0, none⟩ (.int .i64 N)).setCell ⟨b, 1, none⟩ (.slice (some ⟨g1, 0, none⟩) n k1)).setCell ⟨b, 2, none⟩ (.slice (some ⟨g2, 0, none⟩) m k2)) := by
  have hc := (((Chg.refl (fun q => q = b) w).set (p := ⟨b, 0, none⟩) (.inr rfl) (.int .i64 N)).set (p := ⟨b, 1, none⟩) (.inr rfl) (.slice (some ⟨g1, 0, none⟩) n k1)).set (p := ⟨b, 2, none⟩) (.inr rfl) (.slice (some ⟨g2, 0, none⟩) m k2)
  refine ⟨?_, R1.chg hc fun ad e _ h => ?_, R2.chg hc fun ad e _ h => ?_⟩
  · have := ((hX.set 0 (.int .i64 N)).set 1 (.slice (some ⟨g1, 0, none⟩) n k1)).set 2 (.slice (some ⟨g2, 0, none⟩) m k2)
    obtain ⟨x0, x1, x2, rfl⟩ : ∃ x0 x1 x2, X = #[x0, x1, x2] := by
      rcases X with ⟨l⟩
      match l, hs with
      | [x0, x1, x2], _ => exact ⟨x0, x1, x2, rfl⟩
    exact this
  · cases e; exact h1 h.symm
  · cases e; exact h2 h.symm
end
theorem Handle.belowS {w w' : World} (h : Handle w) (hb : Below w.heap.size w w') : Handle w' := h.below hb h.pos
/-- What lies about in CircEvals. -/
structure Es (w0 : World) (N : Int) (g1 M k1 g2 L k2 bx g3 k3 g4 k4 : Nat) (y : Nat → Nat → Int) (o : Nat → Int) (A : Option Addr) (K : Nat) (f : Nat → Bool) (gl ll : Nat) (lv : Nat → Bool) (w : World) : Prop where
  c : Ci w0.heap.size N g1 M k1 g2 L k2 y o w
  x : Ci bx N g3 M k3 g4 L k4 y o w
  i : AtV w A K (bv f)
  h : Handle w
  b : Below w0.heap.size w0 w
  l : AtV w (some ⟨gl, 0, none⟩) ll (bv lv)
theorem Es.below {w0 w w' : World} {N : Int} {g1 M k1 g2 L k2 bx g3 k3 g4 k4 : Nat} {y : Nat → Nat → Int} {o : Nat → Int} {A : Option Addr} {K : Nat} {f : Nat → Bool} {gl ll : Nat} {lv : Nat → Bool} (h : Es w0 N g1 M k1 g2 L k2 bx g3 k3 g4 k4 y o A K f gl ll lv w) (hb : Below w.heap.size w w') : Es w0 N g1 M k1 g2 L k2 bx g3 k3 g4 k4 y o A K f gl ll lv w' :=
  ⟨h.c.below hb, h.x.below hb, h.i.below hb, h.h.belowS hb, h.b.trans (hb.mono h.b.size), h.l.below hb⟩
theorem gate_cells {w : World} {g n : Nat} {y : Nat → Nat → Int} (h : AtV w (some ⟨g, 0, none⟩) (n * 3) (gv y)) (i : Nat) (hi : i < n) : w.cell? ⟨g, i * 3, none⟩ = some (.int .i64 (y i 0)) ∧ w.cell? ⟨g, i * 3 + 1, none⟩ = some (.int .i64 (y i 1)) ∧ w.cell? ⟨g, i * 3 + 2, none⟩ = some (.int .i64 (y i 2)) := by
  have key : ∀ j, j < 3 → w.cell? ⟨g, i * 3 + j, none⟩ = some (.int .i64 (y i j)) := fun j hj => by
    obtain ⟨ad, e, hc⟩ := h (i * 3 + j) (by omega)
    cases e
    rw [Addr.add_mid, Nat.zero_add] at hc
    unfold gv at hc
    rwa [show (i * 3 + j) / 3 = i by omega, show (i * 3 + j) % 3 = j by omega] at hc
  exact ⟨key 0 (by omega), key 1 (by omega), key 2 (by omega)⟩
theorem drew_below (w : World) : Below w.heap.size w w.drew := ⟨rfl, rfl, rfl, Nat.le_refl _, fun _ _ => rfl⟩
end Go.Proofs.YtoldgiejblekaaaDoorR
