/- What lies about in CircTurned. -/
import Derived.Test.YtoldgiejblekaaaDoorRCX2
import Derived.Test.YtoldgiejblekaaaDoorRCircMath4
namespace Go.Proofs.YtoldgiejblekaaaDoorR
open Go.RowKit

/-- The circuit, its answer, the bits. -/
structure Tu (w0 : World) (N : Int) (g1 M k1 g2 L k2 : Nat) (y : Nat → Nat → Int) (o : Nat → Int) (gb Nb kb : Nat) (fb : Nat → Bool) (gl : Nat) (lv : Nat → Bool) (w : World) : Prop where
  c : Ci w0.heap.size N g1 M k1 g2 L k2 y o w
  i : AtV w (some ⟨gb, 0, none⟩) Nb (bv fb)
  h : Handle w
  b : Below w0.heap.size w0 w
  l : AtV w (some ⟨gl, 0, none⟩) L (bv lv)
theorem Tu.below {w0 w w' : World} {N : Int} {g1 M k1 g2 L k2 : Nat} {y : Nat → Nat → Int} {o : Nat → Int} {gb Nb kb : Nat} {fb : Nat → Bool} {gl : Nat} {lv : Nat → Bool} (h : Tu w0 N g1 M k1 g2 L k2 y o gb Nb kb fb gl lv w) (hb : Below w.heap.size w w') : Tu w0 N g1 M k1 g2 L k2 y o gb Nb kb fb gl lv w' :=
  ⟨h.c.below hb, h.i.below hb, h.h.belowS hb, h.b.trans (hb.mono h.b.size), h.l.below hb⟩
/-- Two lists of the call's own, those of a circuit. -/
structure Ow (g n k g' m k' : Nat) (y : Nat → Nat → Int) (o : Nat → Int) (w : World) : Prop where
  g : Row w 0 41 3 (.slice (some ⟨g, 0, none⟩) n k) n (gv y)
  o : Row w 0 3 1 (.slice (some ⟨g', 0, none⟩) m k') m (iv o)
theorem Ow.below {w w' : World} {g n k g' m k' : Nat} {y : Nat → Nat → Int} {o : Nat → Int} (h : Ow g n k g' m k' y o w) (hb : Below w.heap.size w w') : Ow g n k g' m k' y o w' := ⟨h.g.below hb, h.o.below hb⟩
theorem Ow.lt {w : World} {g n k g' m k' : Nat} {y : Nat → Nat → Int} {o : Nat → Int} (h : Ow g n k g' m k' y o w) : g < w.heap.size ∧ g' < w.heap.size := ⟨(h.g.own g rfl).2.1, (h.o.own g' rfl).2.1⟩
theorem Row.base0 {w : World} {base e s : Nat} {v : Value} {n : Nat} {F : Nat → Value} (h : Row w base e s v n F) : Row w 0 e s v n F := h.mono fun _ _ => Nat.zero_le _
abbrev zeroC : Array Value := #[.int .i64 0, .slice none 0 0, .slice none 0 0]
/-- A circuit in a block of its own, its lists the call's own. -/
structure Co (b : Nat) (N : Int) (g n k g' m k' : Nat) (y : Nat → Nat → Int) (o : Nat → Int) (w : World) : Prop where
  c : circB w b N (some ⟨g, 0, none⟩) n k (some ⟨g', 0, none⟩) m k'
  r : Ow g n k g' m k' y o w
theorem Co.below {b : Nat} {N : Int} {w w' : World} {g n k g' m k' : Nat} {y : Nat → Nat → Int} {o : Nat → Int} (h : Co b N g n k g' m k' y o w) (hb : Below w.heap.size w w') : Co b N g n k g' m k' y o w' := ⟨h.c.below hb h.c.lt, h.r.below hb⟩
theorem Co.chg {b : Nat} {N : Int} {w w' : World} {g n k g' m k' : Nat} {y : Nat → Nat → Int} {o : Nat → Int} {S : Nat → Prop} (h : Co b N g n k g' m k' y o w) (hc : Chg S w w') (h1 : ¬ S b) (h2 : ¬ S g) (h3 : ¬ S g') : Co b N g n k g' m k' y o w' :=
  ⟨h.c.chg hc h1, h.r.g.chg hc fun q e => by cases e; exact h2, h.r.o.chg hc fun q e => by cases e; exact h3⟩
theorem Co.ci {b : Nat} {N : Int} {w : World} {g n k g' m k' : Nat} {y : Nat → Nat → Int} {o : Nat → Int} (h : Co b N g n k g' m k' y o w) : Ci b N g n k g' m k' y o w :=
  ⟨h.c, h.r.g.atv, by have := h.r.o.atv; rwa [Nat.mul_one] at this⟩
/-- Blocks of two types are two. -/
theorem blk_ne {w : World} {a b t t' : Nat} {cs cs' : Array Value} (h : Blk w a t cs) (h' : Blk w b t' cs') (ht : t ≠ t') : a ≠ b := fun e => by
  subst e
  have := h.symm.trans h'
  injection this with this
  injection this with _ e2
  exact ht e2
/-- Where all that lies about lies below. -/
structure Lt (w0 : World) (g1 M g2 L gb Nb gl B : Nat) : Prop where
  b : w0.heap.size < B
  g : 0 < M * 3 → g1 < B
  o : 0 < L → g2 < B
  i : 0 < Nb → gb < B
  l : 0 < L → gl < B
  e : 0 < B
theorem Tu.lt {w0 w : World} {N : Int} {g1 M k1 g2 L k2 : Nat} {y : Nat → Nat → Int} {o : Nat → Int} {gb Nb kb : Nat} {fb : Nat → Bool} {gl : Nat} {lv : Nat → Bool} (h : Tu w0 N g1 M k1 g2 L k2 y o gb Nb kb fb gl lv w) : Lt w0 g1 M g2 L gb Nb gl w.heap.size :=
  ⟨h.c.c.lt, fun hn => AtV.lt h.c.g _ rfl hn, fun hn => AtV.lt h.c.o _ rfl hn, fun hn => AtV.lt h.i _ rfl hn, fun hn => AtV.lt h.l _ rfl hn, h.h.pos⟩
theorem Tu.chg {w0 w w' : World} {N : Int} {g1 M k1 g2 L k2 : Nat} {y : Nat → Nat → Int} {o : Nat → Int} {gb Nb kb : Nat} {fb : Nat → Bool} {gl : Nat} {lv : Nat → Bool} {S : Nat → Prop} {B : Nat} (h : Tu w0 N g1 M k1 g2 L k2 y o gb Nb kb fb gl lv w) (hc : Chg S w w') (hl : Lt w0 g1 M g2 L gb Nb gl B) (hS : ∀ q, S q → B ≤ q) : Tu w0 N g1 M k1 g2 L k2 y o gb Nb kb fb gl lv w' :=
  ⟨⟨h.c.c.chg hc fun e => by have := hS _ e; have := hl.b; omega, h.c.g.chg hc fun ad e hn hs => by cases e; have hq : B ≤ g1 := hS _ hs; have := hl.g hn; omega, h.c.o.chg hc fun ad e hn hs => by cases e; have hq : B ≤ g2 := hS _ hs; have := hl.o hn; omega⟩, h.i.chg hc fun ad e hn hs => by cases e; have hq : B ≤ gb := hS _ hs; have := hl.i hn; omega, hc.cell h.h (fun e => by have hq : B ≤ 0 := hS _ e; have := hl.e; omega), h.b.trans (hc.below h.b.size fun q e => by have := hS _ e; have := hl.b; omega), h.l.chg hc fun ad e hn hs => by cases e; have hq : B ≤ gl := hS _ hs; have := hl.l hn; omega⟩
/-- Own, of the circuit that lies about. -/
theorem Tu.own {w0 w : World} {N : Int} {g1 M k1 g2 L k2 : Nat} {y : Nat → Nat → Int} {o : Nat → Int} {gb Nb kb : Nat} {fb : Nat → Bool} {gl : Nat} {lv : Nat → Bool} (h : Tu w0 N g1 M k1 g2 L k2 y o gb Nb kb fb gl lv w) (hM : M ≤ 4200) (hL : L ≤ 80) (h1 : M ≤ k1) (h2 : L ≤ k2) :
    Calls Tryd.prog 7 #[circV N (some ⟨g1, 0, none⟩) M k1 (some ⟨g2, 0, none⟩) L k2] w fun e w' => ∃ g k g' k', e = .returned (circV N (some ⟨g, 0, none⟩) M k (some ⟨g', 0, none⟩) L k') ∧ w.heap.size ≤ g ∧ w.heap.size ≤ g' ∧ Ow g M k g' L k' y o w' ∧ Below w.heap.size w w' := by
  have := own_any w N (some ⟨g1, 0, none⟩) M k1 y (some ⟨g2, 0, none⟩) L k2 o h.c.g h.c.o h1 h2 (fun h => by cases h) (fun h => by cases h)
  rw [show min M 4200 = M by omega, show min L 80 = L by omega] at this
  refine Calls.mono this ?_
  rintro e w' ⟨g, k, g', k', rfl, hg, hg', hR, hR', hb⟩
  exact ⟨g, k, g', k', rfl, hg, hg', ⟨hR.base0, hR'.base0⟩, hb⟩
/-- A circuit stored in a block. -/
theorem co_store {b : Nat} {N : Int} {w : World} {g n k g' m k' : Nat} {y : Nat → Nat → Int} {o : Nat → Int} (hX : Blk w b 25 zeroC) (h : Ow g n k g' m k' y o w) :
    Co b N g n k g' m k' y o (((w.setCell ⟨b, 0, none⟩ (.int .i64 N)).setCell ⟨b, 1, none⟩ (.slice (some ⟨g, 0, none⟩) n k)).setCell ⟨b, 2, none⟩ (.slice (some ⟨g', 0, none⟩) m k')) ∧ Chg (fun q => q = b) w (((w.setCell ⟨b, 0, none⟩ (.int .i64 N)).setCell ⟨b, 1, none⟩ (.slice (some ⟨g, 0, none⟩) n k)).setCell ⟨b, 2, none⟩ (.slice (some ⟨g', 0, none⟩) m k')) := by
  have hc := (((Chg.refl (fun q => q = b) w).set (p := ⟨b, 0, none⟩) (.inr rfl) (.int .i64 N)).set (p := ⟨b, 1, none⟩) (.inr rfl) (.slice (some ⟨g, 0, none⟩) n k)).set (p := ⟨b, 2, none⟩) (.inr rfl) (.slice (some ⟨g', 0, none⟩) m k')
  obtain ⟨_, _, cur, hB⟩ := h.g.own g rfl
  obtain ⟨_, _, cur', hB'⟩ := h.o.own g' rfl
  have n1 : b ≠ g := blk_ne hX hB (by decide)
  have n2 : b ≠ g' := blk_ne hX hB' (by decide)
  exact ⟨⟨((hX.set 0 (.int .i64 N)).set 1 (.slice (some ⟨g, 0, none⟩) n k)).set 2 (.slice (some ⟨g', 0, none⟩) m k'), h.g.chg hc fun q e h => by cases e; exact n1 h.symm, h.o.chg hc fun q e h => by cases e; exact n2 h.symm⟩, hc⟩
/-- Blocks of two circuits' lists, and those of circuits, are apart. -/
theorem Ow.apart {b : Nat} {w : World} {g n k g' m k' : Nat} {y : Nat → Nat → Int} {o : Nat → Int} {X : Array Value} (hX : Blk w b 25 X) (h : Ow g n k g' m k' y o w) : g ≠ b ∧ g' ≠ b := by
  obtain ⟨_, _, cur, hB⟩ := h.g.own g rfl
  obtain ⟨_, _, cur', hB'⟩ := h.o.own g' rfl
  exact ⟨blk_ne hB hX (by decide), blk_ne hB' hX (by decide)⟩
theorem Ow.chg {w w' : World} {g n k g' m k' : Nat} {y : Nat → Nat → Int} {o : Nat → Int} {S : Nat → Prop} (h : Ow g n k g' m k' y o w) (hc : Chg S w w') (h2 : ¬ S g) (h3 : ¬ S g') : Ow g n k g' m k' y o w' :=
  ⟨h.g.chg hc fun q e => by cases e; exact h2, h.o.chg hc fun q e => by cases e; exact h3⟩
end Go.Proofs.YtoldgiejblekaaaDoorR
