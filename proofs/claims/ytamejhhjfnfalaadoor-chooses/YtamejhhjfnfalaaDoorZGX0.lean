/- GarbleEvals' drawn statement: two lists copied, and a call that answers two values; what the laws begin with. -/
import Derived.Test.YtamejhhjfnfalaaDoorZGA13
import Derived.Test.YtamejhhjfnfalaaDoorZGA11
import Derived.Deep.CutBlock
import Derived.Deep.DeepCutAuto
import Derived.Deep.CutRange
namespace Go.Proofs.YtamejhhjfnfalaaDoor
open Go.RowKit
open Rely (upd upd_at upd_ne)

/-- append onto an empty list of the call's own, wherever it lies. -/
theorem append_onto (w : World) (B g n c : Nat) (A : Option Addr) (L : Nat → Lab) (F : Nat → Value) (hown : Row w B 28 2 (.slice (some ⟨g, 0, none⟩) 0 0) 0 F) (hA : AtV w A (n * 2) (lv L)) (hc : A = none → n = 0 ∧ c = 0) (hn : n ≤ 1000000) (hB : B ≤ w.heap.size) :
    ∃ g' k w', (∀ ty, (Builtin.append_ #[29, 29] ty #[.slice (some ⟨g, 0, none⟩) 0 0, .slice A n c]).run Tryd.prog w = .ok (.slice (some ⟨g', 0, none⟩) n k) w') ∧ B ≤ g' ∧ Row w' B 28 2 (.slice (some ⟨g', 0, none⟩) n k) n (lv L) ∧ (g' = g ∨ w.heap.size ≤ g') ∧ Chg (fun q => q = g) w w' := by
  obtain ⟨v', w', hr, hR, hg, hnil, hob⟩ := append_row eltL w B (.slice (some ⟨g, 0, none⟩) 0 0) 0 n F (lv L) A c hown hA hc (lv_one L) (by unfold maxLen; omega) (by omega) hB
  rw [Nat.zero_add] at hR
  have hR2 : Row w' B 28 2 v' n (lv L) := hR.congr fun i _ => by simp
  rcases hR2.2 with ⟨e1, _⟩ | ⟨g', k, cur, rfl, hgB, hG, hmk, _⟩
  · have := (hnil.1 e1).1; cases this
  · refine ⟨g', k, w', hr, hgB, hR2, ?_, (Chg.refl _ w).grown hg (fun q hq => .inr (Option.some.inj hq).symm)⟩
    rcases hob with h | h
    · exact .inl (Option.some.inj h)
    · exact .inr (Nat.le_of_eq (Option.some.inj h).symm)
/-- What holds, whatever came before: 1, 4 the empty lists, 3, 6 the copies, 7 the call, 8 to 12 its answers. -/
structure RF (w3 : World) (n1 : Nat) (L1 : Nat → Lab) (n2 : Nat) (L2 : Nat → Lab) (R0 R1 : Value → Prop) (L : Nat → Bool) (γ : Nat → Value) (w : World) : Prop where
  b : Below w3.heap.size w3 w
  r1 : L 1 = true → ∃ g, γ 1 = .slice (some ⟨g, 0, none⟩) 0 0 ∧ w3.heap.size ≤ g ∧ g < w.heap.size ∧ (L 3 = false → Row w w3.heap.size 28 2 (.slice (some ⟨g, 0, none⟩) 0 0) 0 (fun _ => undef))
  r4 : L 4 = true → ∃ g, γ 4 = .slice (some ⟨g, 0, none⟩) 0 0 ∧ w3.heap.size ≤ g ∧ g < w.heap.size ∧ (L 6 = false → Row w w3.heap.size 28 2 (.slice (some ⟨g, 0, none⟩) 0 0) 0 (fun _ => undef))
  l3 : L 3 = true → ∃ g k, γ 3 = .slice (some ⟨g, 0, none⟩) n1 k ∧ w3.heap.size ≤ g ∧ Row w w3.heap.size 28 2 (.slice (some ⟨g, 0, none⟩) n1 k) n1 (lv L1)
  l6 : L 6 = true → ∃ g k, γ 6 = .slice (some ⟨g, 0, none⟩) n2 k ∧ w3.heap.size ≤ g ∧ Row w w3.heap.size 28 2 (.slice (some ⟨g, 0, none⟩) n2 k) n2 (lv L2)
  d14 : L 1 = true → L 4 = true → (γ 1).ownBlock ≠ (γ 4).ownBlock
  d34 : L 3 = true → L 4 = true → (γ 3).ownBlock ≠ (γ 4).ownBlock
  c3 : L 3 = true → L 1 = true
  c6 : L 6 = true → L 4 = true ∧ L 3 = true
  t7 : L 7 = true → ∃ v0 v1, γ 7 = .tuple #[v0, v1] ∧ R0 v0 ∧ R1 v1
  t8 : L 8 = true → ∃ v0 v1, γ 8 = .tuple #[v0, v1] ∧ R0 v0 ∧ R1 v1
  t9 : L 9 = true → R0 (γ 9)
  t10 : L 10 = true → R1 (γ 10)
  t11 : L 11 = true → R0 (γ 11)
  t12 : L 12 = true → R1 (γ 12)
section
variable {w3 w w' : World} {n1 : Nat} {L1 : Nat → Lab} {n2 : Nat} {L2 : Nat → Lab} {R0 R1 : Value → Prop} {L : Nat → Bool} {γ : Nat → Value}
theorem RF.start (w3 w : World) (h : Below w3.heap.size w3 w) (γ : Nat → Value) : RF w3 n1 L1 n2 L2 R0 R1 (fun _ => false) γ w := by
  refine ⟨h, ?_, ?_, ?_, ?_, ?_, ?_, ?_, ?_, ?_, ?_, ?_, ?_, ?_, ?_⟩ <;> intro h <;> cases h
/-- An operation i that is none of the lists; what it leaves fits. -/
theorem RF.val (h : RF w3 n1 L1 n2 L2 R0 R1 L γ w) (i : Nat) (g : Value) (hi : i ≠ 1 ∧ i ≠ 3 ∧ i ≠ 4 ∧ i ≠ 6) (hb : Below w.heap.size w w')
    (h7 : i = 7 ∨ i = 8 → ∃ v0 v1, g = .tuple #[v0, v1] ∧ R0 v0 ∧ R1 v1) (h9 : i = 9 ∨ i = 11 → R0 g) (h10 : i = 10 ∨ i = 12 → R1 g) : RF w3 n1 L1 n2 L2 R0 R1 (upd L i true) (upd γ i g) w' := by
  have x1 : (1 : Nat) ≠ i := fun e => hi.1 e.symm
  have x3 : (3 : Nat) ≠ i := fun e => hi.2.1 e.symm
  have x4 : (4 : Nat) ≠ i := fun e => hi.2.2.1 e.symm
  have x6 : (6 : Nat) ≠ i := fun e => hi.2.2.2 e.symm
  have old : ∀ (j : Nat) (p : Value → Prop), (i = j → p g) → (L j = true → p (γ j)) → upd L i true j = true → p (upd γ i g j) := fun j p h1 h2 h3 => by
    by_cases e : j = i
    · subst e; rw [upd_at]; exact h1 rfl
    · rw [upd_ne _ _ _ e] at h3 ⊢; exact h2 h3
  refine ⟨h.b.trans (hb.mono h.b.size), ?_, ?_, ?_, ?_, ?_, ?_, ?_, ?_, ?_, ?_, ?_, ?_, ?_, ?_⟩
  · rw [upd_ne L i true x1, upd_ne γ i g x1, upd_ne L i true x3]
    intro hL
    obtain ⟨q, e, h1, h2, h3⟩ := h.r1 hL
    exact ⟨q, e, h1, Nat.lt_of_lt_of_le h2 hb.size, fun hh => (h3 hh).below hb⟩
  · rw [upd_ne L i true x4, upd_ne γ i g x4, upd_ne L i true x6]
    intro hL
    obtain ⟨q, e, h1, h2, h3⟩ := h.r4 hL
    exact ⟨q, e, h1, Nat.lt_of_lt_of_le h2 hb.size, fun hh => (h3 hh).below hb⟩
  · rw [upd_ne L i true x3, upd_ne γ i g x3]
    intro hL
    obtain ⟨q, k, e, h1, h2⟩ := h.l3 hL
    exact ⟨q, k, e, h1, h2.below hb⟩
  · rw [upd_ne L i true x6, upd_ne γ i g x6]
    intro hL
    obtain ⟨q, k, e, h1, h2⟩ := h.l6 hL
    exact ⟨q, k, e, h1, h2.below hb⟩
  · rw [upd_ne L i true x1, upd_ne γ i g x1, upd_ne L i true x4, upd_ne γ i g x4]; exact h.d14
  · rw [upd_ne L i true x3, upd_ne γ i g x3, upd_ne L i true x4, upd_ne γ i g x4]; exact h.d34
  · rw [upd_ne L i true x3, upd_ne L i true x1]; exact h.c3
  · rw [upd_ne L i true x6, upd_ne L i true x4, upd_ne L i true x3]; exact h.c6
  · exact old 7 (fun g => ∃ v0 v1, g = .tuple #[v0, v1] ∧ R0 v0 ∧ R1 v1) (fun e => h7 (.inl e)) h.t7
  · exact old 8 (fun g => ∃ v0 v1, g = .tuple #[v0, v1] ∧ R0 v0 ∧ R1 v1) (fun e => h7 (.inr e)) h.t8
  · exact old 9 R0 (fun e => h9 (.inl e)) h.t9
  · exact old 10 R1 (fun e => h10 (.inl e)) h.t10
  · exact old 11 R0 (fun e => h9 (.inr e)) h.t11
  · exact old 12 R1 (fun e => h10 (.inr e)) h.t12
end
/-- What the laws hold behind Own: a circuit of their own, the keys. -/
structure Lw (w0 : World) (N : Int) (g1 n k1 g2 m k2 : Nat) (y : Nat → Nat → Int) (o : Nat → Int) (dl : Lab) (Az : Option Addr) (nz cz first : Nat) (w : World) : Prop where
  c : Ci w0.heap.size N g1 n k1 g2 m k2 y o w
  k : KyB w (w0.heap.size + 1) dl Az nz cz first
  r : Row w w0.heap.size 84 3 (.slice (some ⟨g1, 0, none⟩) n k1) n (gv y)
  r2 : Row w w0.heap.size 3 1 (.slice (some ⟨g2, 0, none⟩) m k2) m (iv o)
  h : Handle w
  b : Below w0.heap.size w0 w
theorem Lw.below {w0 w w' : World} {N : Int} {g1 n k1 g2 m k2 : Nat} {y : Nat → Nat → Int} {o : Nat → Int} {dl : Lab} {Az : Option Addr} {nz cz first : Nat} (h : Lw w0 N g1 n k1 g2 m k2 y o dl Az nz cz first w) (hb : Below w.heap.size w w') : Lw w0 N g1 n k1 g2 m k2 y o dl Az nz cz first w' :=
  ⟨h.c.below hb, h.k.below hb h.k.lt, h.r.below hb, h.r2.below hb, h.h.belowS hb, h.b.trans (hb.mono h.b.size)⟩
theorem Lw.ne {w0 w : World} {N : Int} {g1 n k1 g2 m k2 : Nat} {y : Nat → Nat → Int} {o : Nat → Int} {dl : Lab} {Az : Option Addr} {nz cz first : Nat} (h : Lw w0 N g1 n k1 g2 m k2 y o dl Az nz cz first w) : g1 ≠ g2 := by
  obtain ⟨_, _, c1, h1⟩ := h.r.own g1 rfl
  obtain ⟨_, _, c2, h2⟩ := h.r2.own g2 rfl
  exact Blk.ne h1 h2 (by decide)
/-- The circuit with the first k gates' Ands made Xors. -/
def yF (y : Nat → Nat → Int) (k i j : Nat) : Int := if i < k ∧ j = 0 ∧ y i 0 = 2 then 1 else y i j
theorem yF_zero (y : Nat → Nat → Int) : yF y 0 = y := by
  funext i j
  unfold yF
  rw [if_neg (by omega)]
theorem yF_at (y : Nat → Nat → Int) (k : Nat) : yF y k k 0 = y k 0 := by
  unfold yF
  rw [if_neg (by omega)]
theorem yF_ne (y : Nat → Nat → Int) (n i : Nat) (hi : i < n) : yF y n i 0 ≠ 2 := by
  unfold yF
  by_cases h : y i 0 = 2
  · rw [if_pos ⟨hi, rfl, h⟩]; omega
  · rw [if_neg (fun e => h e.2.2)]; exact h
theorem yF_no (y : Nat → Nat → Int) (k : Nat) (h : y k 0 ≠ 2) : yF y (k + 1) = yF y k := by
  funext i j
  unfold yF
  by_cases h1 : i < k ∧ j = 0 ∧ y i 0 = 2
  · rw [if_pos h1, if_pos ⟨by omega, h1.2⟩]
  · rw [if_neg h1, if_neg]
    rintro ⟨e1, e2, e3⟩
    rcases Nat.lt_or_ge i k with h2 | h2
    · exact h1 ⟨h2, e2, e3⟩
    · obtain rfl : i = k := by omega
      exact h e3
/-- An And is made an Xor. -/
theorem Lw.gate {w0 w : World} {N : Int} {g1 n k1 g2 m k2 : Nat} {y : Nat → Nat → Int} {o : Nat → Int} {dl : Lab} {Az : Option Addr} {nz cz first k : Nat} (h : Lw w0 N g1 n k1 g2 m k2 (yF y k) o dl Az nz cz first w) (hk : k < n) (h2 : y k 0 = 2) (hh0 : Handle w0) (hg : w0.heap.size + 1 < g1) : Lw w0 N g1 n k1 g2 m k2 (yF y (k + 1)) o dl Az nz cz first (w.setCell ⟨g1, k * 3, none⟩ (.int .i64 1)) := by
  have hc := (Chg.refl (fun q => q = g1) w).set (p := ⟨g1, k * 3, none⟩) (.inr rfl) (.int .i64 1)
  have hne := h.ne
  have R1 := (h.r.setAt (k * 3) (by omega) (.int .i64 1)).congr (G := gv (yF y (k + 1))) fun q hq => by
    by_cases e : q = k * 3
    · subst e
      rw [if_pos rfl]
      unfold gv yF
      rw [show k * 3 / 3 = k by omega, show k * 3 % 3 = 0 by omega, if_pos ⟨by omega, rfl, h2⟩]
    · rw [if_neg e]
      unfold gv yF
      by_cases h1 : q / 3 < k ∧ q % 3 = 0 ∧ y (q / 3) 0 = 2
      · rw [if_pos h1, if_pos ⟨by omega, h1.2⟩]
      · rw [if_neg h1, if_neg]
        rintro ⟨e1, e2, e3⟩
        rcases Nat.lt_or_ge (q / 3) k with h3 | h3
        · exact h1 ⟨h3, e2, e3⟩
        · omega
  have R2 := h.r2.chg hc fun q hq e => hne (by rw [← e]; exact (Option.some.inj hq).symm)
  have hlt := h.c.c.lt
  exact ⟨⟨h.c.c.chg hc (by omega), R1.atv, by have := R2.atv; rwa [Nat.mul_one] at this⟩, h.k.chg hc (by omega), R1, R2, h.h.below (hc.below (B := w0.heap.size) h.b.size (fun q e => by omega)) hh0.pos, h.b.trans (hc.below h.b.size (fun q e => by omega))⟩
/-- delta's first word is stored. -/
theorem Lw.key {w0 w : World} {N : Int} {g1 n k1 g2 m k2 : Nat} {y : Nat → Nat → Int} {o : Nat → Int} {dl : Lab} {Az : Option Addr} {nz cz first : Nat} (h : Lw w0 N g1 n k1 g2 m k2 y o dl Az nz cz first w) (hh0 : Handle w0) (x : Nat) : Lw w0 N g1 n k1 g2 m k2 y o (x, dl.2) Az nz cz first (w.setCell ⟨w0.heap.size + 1, 0, none⟩ (.int .u64 (x : Int))) := by
  have hc := (Chg.refl (fun q => q = w0.heap.size + 1) w).set (p := ⟨w0.heap.size + 1, 0, none⟩) (.inr rfl) (.int .u64 (x : Int))
  obtain ⟨_, _, c1, h1⟩ := h.r.own g1 rfl
  obtain ⟨_, _, c2, h2⟩ := h.r2.own g2 rfl
  have n1 : g1 ≠ w0.heap.size + 1 := Blk.ne h1 h.k (by decide)
  have n2 : g2 ≠ w0.heap.size + 1 := Blk.ne h2 h.k (by decide)
  have R1 := h.r.chg hc fun q hq e => n1 ((Option.some.inj hq).trans e)
  have R2 := h.r2.chg hc fun q hq e => n2 ((Option.some.inj hq).trans e)
  have hp : Handle _ := h.h.below (hc.below (B := w0.heap.size) h.b.size (fun q e => by omega)) hh0.pos
  exact ⟨⟨h.c.c.chg hc (by omega), R1.atv, by have := R2.atv; rwa [Nat.mul_one] at this⟩, h.k.set 0 _, R1, R2, hp, h.b.trans (hc.below h.b.size (fun q e => by omega))⟩
/-- delta with the colour 1. -/
def dl1 (d : Lab) : Lab := (d.1 ||| 1, d.2)
theorem dl1_wd {d : Lab} (h : Garb.Wd d) : Garb.Wd (dl1 d) := ⟨Nat.or_lt_two_pow (n := 64) h.1 (by decide), h.2⟩
theorem dl1_col (d : Lab) : Garb.ncol (dl1 d) = true := by
  show (d.1 ||| 1).testBit 0 = true
  rw [Nat.testBit_or]
  simp
theorem dl1_int {d : Lab} (h : Garb.Wd d) : bits .or .u64 (d.1 : Int) 1 = ((dl1 d).1 : Int) := Ae.bits_or d.1 1 h.1 (by decide)
theorem zk_wd {nz : Nat} {zin : Nat → Lab} (h : ∀ i, Garb.Wd (zin i)) (i : Nat) (hi : i ≤ 4096) : Garb.Wd (zk nz zin i) := by
  unfold zk
  split
  · exact h i
  · exact ⟨by show i * 77 < _; omega, by show i * 1000003 < _; omega⟩
/-- The same labels, all of them two words. -/
def zkc (nz : Nat) (zin : Nat → Lab) (i : Nat) : Lab := if i ≤ 4096 then zk nz zin i else (0, 0)
theorem zkc_wd {nz : Nat} {zin : Nat → Lab} (h : ∀ i, Garb.Wd (zin i)) (i : Nat) : Garb.Wd (zkc nz zin i) := by
  unfold zkc
  split
  · exact zk_wd h i (by assumption)
  · exact Garb.Wd.zero
theorem zkc_eq {nz : Nat} {zin : Nat → Lab} {i : Nat} (h : i ≤ 4096) : zk nz zin i = zkc nz zin i := by
  unfold zkc; rw [if_pos h]
end Go.Proofs.YtamejhhjfnfalaaDoor
