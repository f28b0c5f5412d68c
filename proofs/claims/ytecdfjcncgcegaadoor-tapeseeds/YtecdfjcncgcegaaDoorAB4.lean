/- Contract of aes' New. -/
import Derived.Test.YtecdfjcncgcegaaDoorAB4a
namespace Go.Proofs.YtecdfjcncgcegaaDoor
open Go.RowKit

/-- A column of bytes, written out. -/
abbrev c4 (a b c d : Nat) : Value := .agg #[.int .u8 (a : Int), .int .u8 (b : Int), .int .u8 (c : Int), .int .u8 (d : Int)]
def f4 (a b c d : Nat) : Nat → Nat
  | 0 => a
  | 1 => b
  | 2 => c
  | _ => d
theorem f4_lt {a b c d : Nat} (ha : a < 256) (hb : b < 256) (hc : c < 256) (hd : d < 256) : ∀ i, f4 a b c d i < 256
  | 0 => ha
  | 1 => hb
  | 2 => hc
  | _ + 3 => hd
theorem addColumns_raw (a0 a1 a2 a3 b0 b1 b2 b3 : Nat) (w : World) (h0 : a0 < 256) (h1 : a1 < 256) (h2 : a2 < 256) (h3 : a3 < 256) (k0 : b0 < 256) (k1 : b1 < 256) (k2 : b2 < 256) (k3 : b3 < 256) :
    Calls Tryd.prog 29 #[c4 a0 a1 a2 a3, c4 b0 b1 b2 b3] w fun e w' => e = .returned (c4 (a0 ^^^ b0) (a1 ^^^ b1) (a2 ^^^ b2) (a3 ^^^ b3)) ∧ Below w.heap.size w w' :=
  addColumns_any (f4 a0 a1 a2 a3) (f4 b0 b1 b2 b3) w (f4_lt h0 h1 h2 h3) (f4_lt k0 k1 k2 k3)
theorem changed_no_raw (p : Option Addr) (a0 a1 a2 a3 : Nat) (I : Int) (w : World) (h : (I.tmod 4 != 0) = true) :
    Calls Tryd.prog 30 #[.pointer p, c4 a0 a1 a2 a3, .int .i64 I] w fun e w' => e = .returned (c4 a0 a1 a2 a3) ∧ Below w.heap.size w w' := changed_no p (f4 a0 a1 a2 a3) I w h
theorem changed_yes_raw (g a0 a1 a2 a3 : Nat) (I : Int) (j : Nat) (w : World) (hc : ∃ k, Ciph w g k) (h0 : a0 < 256) (h1 : a1 < 256) (h2 : a2 < 256) (h3 : a3 < 256) (hI : (I.tmod 4 != 0) = false) (hj : IntKind.i64.wrap (IntKind.i64.wrap (I.tdiv 4) - 1) = (j : Int)) (hj10 : j < 1000) :
    Calls Tryd.prog 30 #[.pointer (some ⟨g, 0, none⟩), c4 a0 a1 a2 a3, .int .i64 I] w fun e w' => e = .returned (c4 (Aes.sb a1 ^^^ Aes.pw j) (Aes.sb a2) (Aes.sb a3) (Aes.sb a0)) ∧ Below w.heap.size w w' := by
  obtain ⟨k, hc⟩ := hc
  refine (changed_yes g k (f4 a0 a1 a2 a3) I _ j w hc (f4_lt h0 h1 h2 h3) hI rfl hj hj10).mono fun e w' ⟨h, hb⟩ => ⟨h.trans (ret_agg ?_), hb⟩
  show #[Value.int .u8 ((Aes.sb a1 ^^^ Aes.pw j : Nat) : Int), .int .u8 ((Aes.sb a2 ^^^ 0 : Nat) : Int), .int .u8 ((Aes.sb a3 ^^^ 0 : Nat) : Int), .int .u8 ((Aes.sb a0 ^^^ 0 : Nat) : Int)] = _
  simp only [Nat.xor_zero]
/-- The round keys so far. -/
def KK (key : Nat → Nat) (i q : Nat) : Nat := if q < 4 * i then Aes.ks key q else 0
def NS (w : World) (g : Nat) (key : Nat → Nat) (i : Nat) (wr : World) : Prop := Below w.heap.size w wr ∧ OwnB wr w.heap.size 16 30 key ∧ Ciph wr g (KK key i)
/-- What a cell holds. -/
def cellV (w : World) (g o : Nat) : Value := (w.cell? ⟨g, o, none⟩).getD undef
/-- The state while column m + 4 is made: of it nothing is said. -/
def NT (w : World) (g : Nat) (key : Nat → Nat) (m : Nat) (wr : World) : Prop :=
  Below w.heap.size w wr ∧ OwnB wr w.heap.size 16 30 key ∧ ∃ F, OwnB wr g 432 70 F ∧ ∀ q, (q < 256 + 4 * (m + 4) ∨ 256 + 4 * (m + 5) ≤ q) → F q = CF (KK key (m + 4)) q
theorem NS.nt {w wr : World} {g m : Nat} {key : Nat → Nat} (h : NS w g key (m + 4) wr) : NT w g key m wr := ⟨h.1, h.2.1, _, h.2.2, fun _ _ => rfl⟩
theorem NT.next {w w1 w2 : World} {g m : Nat} {key : Nat → Nat} (h : NT w g key m w1) (hb : Below w1.heap.size w1 w2) : NT w g key m w2 :=
  ⟨h.1.trans (hb.mono h.1.size), h.2.1.below hb h.2.1.lt, h.2.2.elim fun F hF => ⟨F, hF.1.below hb hF.1.lt, hF.2⟩⟩
theorem NT.drew {w w1 : World} {g m : Nat} {key : Nat → Nat} (h : NT w g key m w1) : NT w g key m w1.drew := ⟨h.1.drew, h.2.1, h.2.2⟩
theorem NT.ciph {w w1 : World} {g m : Nat} {key : Nat → Nat} {p : Prop} (h : p ∧ Hid (NT w g key m w1)) : ∃ k, Ciph w1 g k := by
  obtain ⟨_, _, F, hF, hq⟩ := h.2.out
  refine ⟨fun q => F (256 + q), hF.congr fun q h => ?_⟩
  unfold CF
  by_cases h1 : q < 256
  · rw [if_pos h1, hq q (by omega)]; exact CF_lo _ q h1
  · rw [if_neg h1]; show F q = F (256 + (q - 256)); rw [show 256 + (q - 256) = q by omega]
theorem NT.set {w w1 : World} {g m : Nat} {key : Nat → Nat} (h : NT w g key m w1) (hg : w.heap.size < g) (o x : Nat) (ho : 256 + 4 * (m + 4) ≤ o ∧ o < 256 + 4 * (m + 5)) : NT w g key m (w1.setCell ⟨g, o, none⟩ (.int .u8 (x : Int))) := by
  obtain ⟨h0, h1, F, hF, hq⟩ := h
  refine ⟨h0.setCell (by simp; omega) _, h1.far (by simp; omega) _, _, hF.set o x, fun q h => ?_⟩
  show (if q = o then x else F q) = _
  rw [if_neg (by omega)]; exact hq q h
theorem NT.cells {w wr : World} {g m : Nat} {key : Nat → Nat} (h : NT w g key m wr) (hm : m < 40) : (wr.cell? ⟨g, 256 + m * 4, none⟩ = some (.int .u8 (Aes.ks key (4 * m) : Int)) ∧ wr.cell? ⟨g, 256 + m * 4 + 1, none⟩ = some (.int .u8 (Aes.ks key (4 * m + 1) : Int)) ∧ wr.cell? ⟨g, 256 + m * 4 + 2, none⟩ = some (.int .u8 (Aes.ks key (4 * m + 2) : Int)) ∧ wr.cell? ⟨g, 256 + m * 4 + 3, none⟩ = some (.int .u8 (Aes.ks key (4 * m + 3) : Int)) ∧ wr.cell? ⟨g, 256 + (m + 3) * 4, none⟩ = some (.int .u8 (Aes.ks key (4 * (m + 3)) : Int)) ∧ wr.cell? ⟨g, 256 + (m + 3) * 4 + 1, none⟩ = some (.int .u8 (Aes.ks key (4 * (m + 3) + 1) : Int)) ∧ wr.cell? ⟨g, 256 + (m + 3) * 4 + 2, none⟩ = some (.int .u8 (Aes.ks key (4 * (m + 3) + 2) : Int)) ∧ wr.cell? ⟨g, 256 + (m + 3) * 4 + 3, none⟩ = some (.int .u8 (Aes.ks key (4 * (m + 3) + 3) : Int)) ∧ wr.cell? ⟨g, 256 + (m + 4) * 4, none⟩ = some (cellV wr g (256 + (m + 4) * 4)) ∧ wr.cell? ⟨g, 256 + (m + 4) * 4 + 1, none⟩ = some (cellV wr g (256 + (m + 4) * 4 + 1)) ∧ wr.cell? ⟨g, 256 + (m + 4) * 4 + 2, none⟩ = some (cellV wr g (256 + (m + 4) * 4 + 2)) ∧ wr.cell? ⟨g, 256 + (m + 4) * 4 + 3, none⟩ = some (cellV wr g (256 + (m + 4) * 4 + 3)) ∧ wr.frozen? ⟨g, 256 + (m + 4) * 4, none⟩ = false ∧ wr.frozen? ⟨g, 256 + (m + 4) * 4 + 1, none⟩ = false ∧ wr.frozen? ⟨g, 256 + (m + 4) * 4 + 2, none⟩ = false ∧ wr.frozen? ⟨g, 256 + (m + 4) * 4 + 3, none⟩ = false) ∧ Hid (NT w g key m wr) := by
  obtain ⟨h0, h1, F, hF, hq⟩ := h
  have c : ∀ o q, o = 256 + q → q < 4 * (m + 4) → wr.cell? ⟨g, o, none⟩ = some (.int .u8 (Aes.ks key q : Int)) := fun o q ho hq' => by
    rw [ho, hF.cell _ (by omega), hq _ (by omega), CF_hi]
    unfold KK; rw [if_pos hq']
  have v : ∀ o, o < 432 → wr.cell? ⟨g, o, none⟩ = some (cellV wr g o) := fun o ho => by
    unfold cellV; rw [hF.cell _ ho]; rfl
  have f : ∀ o, wr.frozen? ⟨g, o, none⟩ = false := fun o => hF.frozen o
  exact ⟨⟨c _ (4 * m) (by omega) (by omega), c _ (4 * m + 1) (by omega) (by omega), c _ (4 * m + 2) (by omega) (by omega), c _ (4 * m + 3) (by omega) (by omega), c _ (4 * (m + 3)) (by omega) (by omega), c _ (4 * (m + 3) + 1) (by omega) (by omega), c _ (4 * (m + 3) + 2) (by omega) (by omega), c _ (4 * (m + 3) + 3) (by omega) (by omega), v _ (by omega), v _ (by omega), v _ (by omega), v _ (by omega), f _, f _, f _, f _⟩, h0, h1, F, hF, hq⟩
theorem NT.step {w w1 w2 : World} {g m : Nat} {key : Nat → Nat} {p : Prop} (hb : Hid (Below w1.heap.size w1 w2)) (h : p ∧ Hid (NT w g key m w1)) (hm : m < 40) : (w2.cell? ⟨g, 256 + m * 4, none⟩ = some (.int .u8 (Aes.ks key (4 * m) : Int)) ∧ w2.cell? ⟨g, 256 + m * 4 + 1, none⟩ = some (.int .u8 (Aes.ks key (4 * m + 1) : Int)) ∧ w2.cell? ⟨g, 256 + m * 4 + 2, none⟩ = some (.int .u8 (Aes.ks key (4 * m + 2) : Int)) ∧ w2.cell? ⟨g, 256 + m * 4 + 3, none⟩ = some (.int .u8 (Aes.ks key (4 * m + 3) : Int)) ∧ w2.cell? ⟨g, 256 + (m + 3) * 4, none⟩ = some (.int .u8 (Aes.ks key (4 * (m + 3)) : Int)) ∧ w2.cell? ⟨g, 256 + (m + 3) * 4 + 1, none⟩ = some (.int .u8 (Aes.ks key (4 * (m + 3) + 1) : Int)) ∧ w2.cell? ⟨g, 256 + (m + 3) * 4 + 2, none⟩ = some (.int .u8 (Aes.ks key (4 * (m + 3) + 2) : Int)) ∧ w2.cell? ⟨g, 256 + (m + 3) * 4 + 3, none⟩ = some (.int .u8 (Aes.ks key (4 * (m + 3) + 3) : Int)) ∧ w2.cell? ⟨g, 256 + (m + 4) * 4, none⟩ = some (cellV w2 g (256 + (m + 4) * 4)) ∧ w2.cell? ⟨g, 256 + (m + 4) * 4 + 1, none⟩ = some (cellV w2 g (256 + (m + 4) * 4 + 1)) ∧ w2.cell? ⟨g, 256 + (m + 4) * 4 + 2, none⟩ = some (cellV w2 g (256 + (m + 4) * 4 + 2)) ∧ w2.cell? ⟨g, 256 + (m + 4) * 4 + 3, none⟩ = some (cellV w2 g (256 + (m + 4) * 4 + 3)) ∧ w2.frozen? ⟨g, 256 + (m + 4) * 4, none⟩ = false ∧ w2.frozen? ⟨g, 256 + (m + 4) * 4 + 1, none⟩ = false ∧ w2.frozen? ⟨g, 256 + (m + 4) * 4 + 2, none⟩ = false ∧ w2.frozen? ⟨g, 256 + (m + 4) * 4 + 3, none⟩ = false) ∧ Hid (NT w g key m w2) :=
  NT.cells (NT.next h.2.out hb.out) hm
theorem NT.sets {w w1 : World} {g m : Nat} {key : Nat → Nat} {p : Prop} (h : p ∧ Hid (NT w g key m w1)) (hg : w.heap.size < g) (x0 x1 x2 x3 : Nat) : NT w g key m ((((w1.setCell ⟨g, 256 + (m + 4) * 4, none⟩ (.int .u8 (x0 : Int))).setCell ⟨g, 256 + (m + 4) * 4 + 1, none⟩ (.int .u8 (x1 : Int))).setCell ⟨g, 256 + (m + 4) * 4 + 2, none⟩ (.int .u8 (x2 : Int))).setCell ⟨g, 256 + (m + 4) * 4 + 3, none⟩ (.int .u8 (x3 : Int))) :=
  (((h.2.out.set hg _ x0 (by omega)).set hg _ x1 (by omega)).set hg _ x2 (by omega)).set hg _ x3 (by omega)
theorem cell_set_eq {w : World} {g o : Nat} {v u : Value} (h : (w.setCell ⟨g, o, none⟩ v).cell? ⟨g, o, none⟩ = some u) : u = v := by
  cases hq : w.cell? ⟨g, o, none⟩ with
  | some x => rw [World.cell?_setCell_same _ _ _ hq] at h; exact (Option.some.inj h).symm
  | none =>
    exfalso
    simp only [World.cell?, World.setCell, Array.getElem?_modify] at h hq
    cases hg : w.heap[g]? with
    | none => simp [hg] at h
    | some ob => cases ob <;> simp_all
/-- The column is laid. -/
theorem NT.made {w w1 : World} {g m : Nat} {key : Nat → Nat} {p : Prop} (x0 x1 x2 x3 : Nat)
    (h : p ∧ Hid (NT w g key m ((((w1.setCell ⟨g, 256 + (m + 4) * 4, none⟩ (.int .u8 (x0 : Int))).setCell ⟨g, 256 + (m + 4) * 4 + 1, none⟩ (.int .u8 (x1 : Int))).setCell ⟨g, 256 + (m + 4) * 4 + 2, none⟩ (.int .u8 (x2 : Int))).setCell ⟨g, 256 + (m + 4) * 4 + 3, none⟩ (.int .u8 (x3 : Int))))) (hm : m < 40)
    (e0 : x0 = Aes.ks key (4 * (m + 4))) (e1 : x1 = Aes.ks key (4 * (m + 4) + 1)) (e2 : x2 = Aes.ks key (4 * (m + 4) + 2)) (e3 : x3 = Aes.ks key (4 * (m + 4) + 3)) :
    NS w g key (m + 5) ((((w1.setCell ⟨g, 256 + (m + 4) * 4, none⟩ (.int .u8 (x0 : Int))).setCell ⟨g, 256 + (m + 4) * 4 + 1, none⟩ (.int .u8 (x1 : Int))).setCell ⟨g, 256 + (m + 4) * 4 + 2, none⟩ (.int .u8 (x2 : Int))).setCell ⟨g, 256 + (m + 4) * 4 + 3, none⟩ (.int .u8 (x3 : Int))) := by
  obtain ⟨h0, h1, F, hF, hq⟩ := h.2.out
  have ne : ∀ a b : Nat, a ≠ b → (⟨g, a, none⟩ : Addr) ≠ ⟨g, b, none⟩ := fun a b h e => h (by injection e)
  have nat : ∀ {a b : Nat}, Value.int .u8 (a : Int) = .int .u8 (b : Int) → a = b := fun h => by injection h with _ h; omega
  have u3 := nat (cell_set_eq (hF.cell (256 + (m + 4) * 4 + 3) (by omega)))
  have v2 := hF.cell (256 + (m + 4) * 4 + 2) (by omega)
  rw [World.cell?_setCell_other _ _ _ _ (ne _ _ (by omega))] at v2
  have u2 := nat (cell_set_eq v2)
  have v1 := hF.cell (256 + (m + 4) * 4 + 1) (by omega)
  rw [World.cell?_setCell_other _ _ _ _ (ne _ _ (by omega)), World.cell?_setCell_other _ _ _ _ (ne _ _ (by omega))] at v1
  have u1 := nat (cell_set_eq v1)
  have v0 := hF.cell (256 + (m + 4) * 4) (by omega)
  rw [World.cell?_setCell_other _ _ _ _ (ne _ _ (by omega)), World.cell?_setCell_other _ _ _ _ (ne _ _ (by omega)), World.cell?_setCell_other _ _ _ _ (ne _ _ (by omega))] at v0
  have u0 := nat (cell_set_eq v0)
  refine ⟨h0, h1, hF.congr fun q hq4 => ?_⟩
  subst e0 e1 e2 e3
  by_cases g3 : q = 256 + (m + 4) * 4 + 3
  · subst g3; rw [u3, show 256 + (m + 4) * 4 + 3 = 256 + (4 * (m + 4) + 3) by omega, CF_hi]; unfold KK; rw [if_pos (by omega)]
  by_cases g2 : q = 256 + (m + 4) * 4 + 2
  · subst g2; rw [u2, show 256 + (m + 4) * 4 + 2 = 256 + (4 * (m + 4) + 2) by omega, CF_hi]; unfold KK; rw [if_pos (by omega)]
  by_cases g1 : q = 256 + (m + 4) * 4 + 1
  · subst g1; rw [u1, show 256 + (m + 4) * 4 + 1 = 256 + (4 * (m + 4) + 1) by omega, CF_hi]; unfold KK; rw [if_pos (by omega)]
  by_cases g0 : q = 256 + (m + 4) * 4
  · subst g0; rw [u0, show 256 + (m + 4) * 4 = 256 + 4 * (m + 4) by omega, CF_hi]; unfold KK; rw [if_pos (by omega)]
  rw [hq q (by omega)]
  unfold CF KK
  by_cases h1 : q < 256
  · rw [if_pos h1, if_pos h1]
  · rw [if_neg h1, if_neg h1]
    by_cases h2 : q - 256 < 4 * (m + 4)
    · rw [if_pos h2, if_pos (by omega)]
    · rw [if_neg h2, if_neg (by omega)]
theorem ks_no (key : Nat → Nat) (m j : Nat) (hj : j < 4) (hm : ¬ m % 4 = 0) : Aes.ks key (4 * m + j) ^^^ Aes.ks key (4 * (m + 3) + j) = Aes.ks key (4 * (m + 4) + j) := by
  rw [Aes.ks_hi key (4 * (m + 4) + j) (by omega), if_neg (by omega), show 4 * (m + 4) + j - 16 = 4 * m + j by omega, show 4 * (m + 4) + j - 4 = 4 * (m + 3) + j by omega]
theorem ks_yes (key : Nat → Nat) (m j : Nat) (hj : j < 4) (hm : m % 4 = 0) : Aes.ks key (4 * m + j) ^^^ (Aes.sb (Aes.ks key (4 * (m + 3) + (j + 1) % 4)) ^^^ if j = 0 then Aes.pw (m / 4) else 0) = Aes.ks key (4 * (m + 4) + j) := by
  rw [Aes.ks_hi key (4 * (m + 4) + j) (by omega), if_pos (show (4 * (m + 4) + j) / 4 % 4 = 0 by omega), show 4 * (m + 4) + j - 16 = 4 * m + j by omega, show 4 * ((4 * (m + 4) + j) / 4 - 1) + ((4 * (m + 4) + j) % 4 + 1) % 4 = 4 * (m + 3) + (j + 1) % 4 by omega,
    show (4 * (m + 4) + j) % 4 = j by omega, show (4 * (m + 4) + j) / 4 / 4 - 1 = m / 4 by omega]
theorem NS.copied {w wr : World} {g : Nat} {key : Nat → Nat} {i : Nat} (h : NS w g key i wr) (hi : i < 4) (hg : w.heap.size < g) : NS w g key (i + 1) (wr.setRow g (bys 432 (spl (CF (KK key i)) (256 + 4 * i) 4 fun j => key (4 * i + j)))) := by
  refine ⟨Below.row h.1 (by omega) _, h.2.1.farRow (by omega) _, (OwnB.setRow h.2.2 _).congr fun q hq => ?_⟩
  unfold spl CF KK
  by_cases h1 : q < 256
  · rw [if_neg (by omega), if_pos h1, if_pos h1]
  · by_cases h2 : q < 256 + 4 * i
    · rw [if_neg (by omega), if_neg h1, if_neg h1, if_pos (by omega), if_pos (by omega)]
    · by_cases h3 : q < 256 + 4 * i + 4
      · rw [if_pos (by omega), if_neg h1, if_pos (by omega), Aes.ks_lo _ _ (by omega)]; show key (4 * i + (q - (256 + 4 * i))) = _; rw [show 4 * i + (q - (256 + 4 * i)) = q - 256 by omega]
      · rw [if_neg (by omega), if_neg h1, if_neg h1, if_neg (by omega), if_neg (by omega)]
set_option maxHeartbeats 8000000 in
set_option maxRecDepth 100000 in
theorem new_any (key : Nat → Nat) (w : World) (hk : ∀ i, key i < 256) :
    Calls Tryd.prog 19 #[.agg (bys 16 key)] w fun e w' => ∃ g, w.heap.size ≤ g ∧ e = .returned (.pointer (some ⟨g, 0, none⟩)) ∧ Ciph w' g (Aes.ks key) ∧ Below w.heap.size w w' := by
  have HK := Lib.hid hk
  clear hk
  go_enter Tryd.func19, Tryd.ntmps19
  go_wp2_with fail
  refine (makeS_any _).mono ?_
  rintro e w1 ⟨rfl, hb⟩
  have H0 : Below w.heap.size w w1 ∧ OwnB w1 w.heap.size 16 30 key := ⟨((Below.refl w.heap.size w).alloc (Nat.le_refl _) _).trans (hb.mono (by simp)), (OwnB.new w 16 30 key).below hb (by simp)⟩
  have HH := Lib.hid H0
  have hlt : w.heap.size < w1.heap.size := H0.2.lt
  clear H0 hb
  go_wp2_with (refine bd_cipher rfl _ rfl rfl ?_)
  have HS : NS w w1.heap.size key 0 (w1.alloc (.cells (bys 432 fun q => if q < 256 then Aes.sb q else 0) 70)) :=
    ⟨HH.out.1.alloc (by omega) _, HH.out.2.alloc _, (OwnB.new w1 432 70 _).congr fun q _ => rfl⟩
  have HN := Lib.hid HS
  clear HS HH
  have hlt0 := hlt
  clear hlt
  generalize w1.heap.size = g at hlt0 HN ⊢
  go_loopw [8] (fun t wr => ∃ i : Nat, i ≤ 44 ∧ t = .int .i64 i ∧ NS w g key i wr) (fun t _ => 44 - (intOf t).toNat)
  case atStart => exact ⟨0, by omega, rfl, HN.out⟩
  case round =>
    clear HN
    obtain ⟨i, hi, rfl, H⟩ := hrel
    by_cases h4 : i < 4
    · have HH := Lib.hid H
      clear H
      rcases (show i = 0 ∨ i = 1 ∨ i = 2 ∨ i = 3 by omega) with rfl | rfl | rfl | rfl
      · have z : IntKind.i64.wrap 0 = 0 := rfl
        go_wp2
        go_still_tail 9, (by kernel_rfl)
        change wpList _ _ _ _ _ wr.drew
        have HE := Lib.hid (show NS w g key 0 wr.drew from ⟨HH.out.1.drew, HH.out.2.1, HH.out.2.2⟩)
        clear HH
        generalize wr.drew = w2 at HE ⊢
        go_wp2_with (refine cp_bytes rfl _ _ rfl _ _ _ _ _ _ _ 4 rfl rfl HE.out.2.2 rfl (fun j hj => HE.out.2.1.cell' 0 j (by omega)) (by omega) ?_)
        go_roundw
        case rel => exact ⟨1, by omega, rfl, NS.copied HE.out (by omega) hlt0⟩
        case measure => simp [intOf]
      · have z : IntKind.i64.wrap 4 = 4 := rfl
        go_wp2
        go_still_tail 9, (by kernel_rfl)
        change wpList _ _ _ _ _ wr.drew
        have HE := Lib.hid (show NS w g key 1 wr.drew from ⟨HH.out.1.drew, HH.out.2.1, HH.out.2.2⟩)
        clear HH
        generalize wr.drew = w2 at HE ⊢
        go_wp2_with (refine cp_bytes rfl _ _ rfl _ _ _ _ _ _ _ 4 rfl rfl HE.out.2.2 rfl (fun j hj => HE.out.2.1.cell' 4 j (by omega)) (by omega) ?_)
        go_roundw
        case rel => exact ⟨2, by omega, rfl, NS.copied HE.out (by omega) hlt0⟩
        case measure => simp [intOf]
      · have z : IntKind.i64.wrap 8 = 8 := rfl
        go_wp2
        go_still_tail 9, (by kernel_rfl)
        change wpList _ _ _ _ _ wr.drew
        have HE := Lib.hid (show NS w g key 2 wr.drew from ⟨HH.out.1.drew, HH.out.2.1, HH.out.2.2⟩)
        clear HH
        generalize wr.drew = w2 at HE ⊢
        go_wp2_with (refine cp_bytes rfl _ _ rfl _ _ _ _ _ _ _ 4 rfl rfl HE.out.2.2 rfl (fun j hj => HE.out.2.1.cell' 8 j (by omega)) (by omega) ?_)
        go_roundw
        case rel => exact ⟨3, by omega, rfl, NS.copied HE.out (by omega) hlt0⟩
        case measure => simp [intOf]
      · have z : IntKind.i64.wrap 12 = 12 := rfl
        go_wp2
        go_still_tail 9, (by kernel_rfl)
        change wpList _ _ _ _ _ wr.drew
        have HE := Lib.hid (show NS w g key 3 wr.drew from ⟨HH.out.1.drew, HH.out.2.1, HH.out.2.2⟩)
        clear HH
        generalize wr.drew = w2 at HE ⊢
        go_wp2_with (refine cp_bytes rfl _ _ rfl _ _ _ _ _ _ _ 4 rfl rfl HE.out.2.2 rfl (fun j hj => HE.out.2.1.cell' 12 j (by omega)) (by omega) ?_)
        go_roundw
        case rel => exact ⟨4, by omega, rfl, NS.copied HE.out (by omega) hlt0⟩
        case measure => simp [intOf]
    · by_cases hlt : i < 44
      · obtain ⟨m, rfl⟩ : ∃ m, i = m + 4 := ⟨i - 4, by omega⟩
        have e1 : IntKind.i64.wrap ((m : Int) + 4 - 4) = (m : Int) := by rw [i64_nat _ (by omega) (by omega)]; omega
        have e2 : IntKind.i64.wrap ((m : Int) + 4 - 1) = (m : Int) + 3 := by rw [i64_nat _ (by omega) (by omega)]; omega
        have e1' : IntKind.i64.wrap (m : Int) = (m : Int) := i64_nat _ (by omega) (by omega)
        have e2' : IntKind.i64.wrap ((m : Int) + 3) = (m : Int) + 3 := i64_nat _ (by omega) (by omega)
        have e3 : (m : Int) < 44 := by omega
        have e4 : (m : Int) + 3 < 44 := by omega
        have e5 : (m : Int) + 4 < 44 := by omega
        have e6 : ((m : Int) + 3).toNat = m + 3 := by omega
        have e7 : ((m : Int) + 4).toNat = m + 4 := by omega
        have e8 : (0 : Int) ≤ (m : Int) + 3 := by omega
        have e9 : (0 : Int) ≤ (m : Int) + 4 := by omega
        have HH := Lib.hid H
        have hm40 : m < 40 := by omega
        clear H
        have hltg := hlt0
        by_cases h0 : m % 4 = 0
        · have hI : (((m : Int) + 4).tmod 4 != 0) = false := by
            have : ((m : Int) + 4).tmod 4 = 0 := by rw [Int.tmod_eq_emod_of_nonneg (by omega)]; omega
            rw [this]; rfl
          have HJ := Lib.hid (show IntKind.i64.wrap (IntKind.i64.wrap (((m : Int) + 4).tdiv 4) - 1) = ((m / 4 : Nat) : Int) by
            rw [Int.tdiv_eq_ediv_of_nonneg (by omega), i64_nat (((m : Int) + 4) / 4) (by omega) (by omega), i64_nat _ (by omega) (by omega)]; omega)
          go_wp2
          go_region_held3 (fun w' => (w'.cell? ⟨g, 256 + m * 4, none⟩ = some (.int .u8 (Aes.ks key (4 * m) : Int)) ∧ w'.cell? ⟨g, 256 + m * 4 + 1, none⟩ = some (.int .u8 (Aes.ks key (4 * m + 1) : Int)) ∧ w'.cell? ⟨g, 256 + m * 4 + 2, none⟩ = some (.int .u8 (Aes.ks key (4 * m + 2) : Int)) ∧ w'.cell? ⟨g, 256 + m * 4 + 3, none⟩ = some (.int .u8 (Aes.ks key (4 * m + 3) : Int)) ∧ w'.cell? ⟨g, 256 + (m + 3) * 4, none⟩ = some (.int .u8 (Aes.ks key (4 * (m + 3)) : Int)) ∧ w'.cell? ⟨g, 256 + (m + 3) * 4 + 1, none⟩ = some (.int .u8 (Aes.ks key (4 * (m + 3) + 1) : Int)) ∧ w'.cell? ⟨g, 256 + (m + 3) * 4 + 2, none⟩ = some (.int .u8 (Aes.ks key (4 * (m + 3) + 2) : Int)) ∧ w'.cell? ⟨g, 256 + (m + 3) * 4 + 3, none⟩ = some (.int .u8 (Aes.ks key (4 * (m + 3) + 3) : Int)) ∧ w'.cell? ⟨g, 256 + (m + 4) * 4, none⟩ = some (cellV w' g (256 + (m + 4) * 4)) ∧ w'.cell? ⟨g, 256 + (m + 4) * 4 + 1, none⟩ = some (cellV w' g (256 + (m + 4) * 4 + 1)) ∧ w'.cell? ⟨g, 256 + (m + 4) * 4 + 2, none⟩ = some (cellV w' g (256 + (m + 4) * 4 + 2)) ∧ w'.cell? ⟨g, 256 + (m + 4) * 4 + 3, none⟩ = some (cellV w' g (256 + (m + 4) * 4 + 3)) ∧ w'.frozen? ⟨g, 256 + (m + 4) * 4, none⟩ = false ∧ w'.frozen? ⟨g, 256 + (m + 4) * 4 + 1, none⟩ = false ∧ w'.frozen? ⟨g, 256 + (m + 4) * 4 + 2, none⟩ = false ∧ w'.frozen? ⟨g, 256 + (m + 4) * 4 + 3, none⟩ = false) ∧ Hid (NT w g key m w')) (first | exact NT.cells (NT.drew (NS.nt HH.out)) hm40 | exact NT.step (by assumption) (by assumption) hm40 | exact NT.cells (NT.sets (by assumption) hltg _ _ _ _) hm40)
            (first
              | (go_at_call 30; refine (changed_yes_raw _ _ _ _ _ _ (m / 4) _ (NT.ciph (by assumption)) (by first | exact Aes.ks_lt key HK.out _ | exact Aes.sb_lt _ | exact Aes.byte_xor (Aes.sb_lt _) (Aes.pw_lt _)) (by first | exact Aes.ks_lt key HK.out _ | exact Aes.sb_lt _ | exact Aes.byte_xor (Aes.sb_lt _) (Aes.pw_lt _)) (by first | exact Aes.ks_lt key HK.out _ | exact Aes.sb_lt _ | exact Aes.byte_xor (Aes.sb_lt _) (Aes.pw_lt _)) (by first | exact Aes.ks_lt key HK.out _ | exact Aes.sb_lt _ | exact Aes.byte_xor (Aes.sb_lt _) (Aes.pw_lt _)) hI HJ.out (by omega)).mono ?_; rintro e w1 ⟨rfl, hb1⟩; have HB1 := Lib.hid hb1; clear hb1)
              | (go_at_call 29; refine (addColumns_raw _ _ _ _ _ _ _ _ _ (by first | exact Aes.ks_lt key HK.out _ | exact Aes.sb_lt _ | exact Aes.byte_xor (Aes.sb_lt _) (Aes.pw_lt _)) (by first | exact Aes.ks_lt key HK.out _ | exact Aes.sb_lt _ | exact Aes.byte_xor (Aes.sb_lt _) (Aes.pw_lt _)) (by first | exact Aes.ks_lt key HK.out _ | exact Aes.sb_lt _ | exact Aes.byte_xor (Aes.sb_lt _) (Aes.pw_lt _)) (by first | exact Aes.ks_lt key HK.out _ | exact Aes.sb_lt _ | exact Aes.byte_xor (Aes.sb_lt _) (Aes.pw_lt _)) (by first | exact Aes.ks_lt key HK.out _ | exact Aes.sb_lt _ | exact Aes.byte_xor (Aes.sb_lt _) (Aes.pw_lt _)) (by first | exact Aes.ks_lt key HK.out _ | exact Aes.sb_lt _ | exact Aes.byte_xor (Aes.sb_lt _) (Aes.pw_lt _)) (by first | exact Aes.ks_lt key HK.out _ | exact Aes.sb_lt _ | exact Aes.byte_xor (Aes.sb_lt _) (Aes.pw_lt _)) (by first | exact Aes.ks_lt key HK.out _ | exact Aes.sb_lt _ | exact Aes.byte_xor (Aes.sb_lt _) (Aes.pw_lt _))).mono ?_; rintro e w1 ⟨rfl, hb1⟩; have HB1 := Lib.hid hb1; clear hb1))
          go_wp2
          go_roundw
          case rel => exact ⟨m + 5, by omega, by go_num, NT.made _ _ _ _ (by assumption) hm40 ((ks_yes key m 0 (by omega) h0).symm.trans (by simp)).symm ((ks_yes key m 1 (by omega) h0).symm.trans (by simp)).symm ((ks_yes key m 2 (by omega) h0).symm.trans (by simp)).symm ((ks_yes key m 3 (by omega) h0).symm.trans (by simp)).symm⟩
          case measure => simp [intOf]; omega
        · have hI : (((m : Int) + 4).tmod 4 != 0) = true := by
            have : ((m : Int) + 4).tmod 4 = ((m % 4 : Nat) : Int) := by rw [Int.tmod_eq_emod_of_nonneg (by omega)]; omega
            rw [this]; simp; omega
          go_wp2
          go_region_held3 (fun w' => (w'.cell? ⟨g, 256 + m * 4, none⟩ = some (.int .u8 (Aes.ks key (4 * m) : Int)) ∧ w'.cell? ⟨g, 256 + m * 4 + 1, none⟩ = some (.int .u8 (Aes.ks key (4 * m + 1) : Int)) ∧ w'.cell? ⟨g, 256 + m * 4 + 2, none⟩ = some (.int .u8 (Aes.ks key (4 * m + 2) : Int)) ∧ w'.cell? ⟨g, 256 + m * 4 + 3, none⟩ = some (.int .u8 (Aes.ks key (4 * m + 3) : Int)) ∧ w'.cell? ⟨g, 256 + (m + 3) * 4, none⟩ = some (.int .u8 (Aes.ks key (4 * (m + 3)) : Int)) ∧ w'.cell? ⟨g, 256 + (m + 3) * 4 + 1, none⟩ = some (.int .u8 (Aes.ks key (4 * (m + 3) + 1) : Int)) ∧ w'.cell? ⟨g, 256 + (m + 3) * 4 + 2, none⟩ = some (.int .u8 (Aes.ks key (4 * (m + 3) + 2) : Int)) ∧ w'.cell? ⟨g, 256 + (m + 3) * 4 + 3, none⟩ = some (.int .u8 (Aes.ks key (4 * (m + 3) + 3) : Int)) ∧ w'.cell? ⟨g, 256 + (m + 4) * 4, none⟩ = some (cellV w' g (256 + (m + 4) * 4)) ∧ w'.cell? ⟨g, 256 + (m + 4) * 4 + 1, none⟩ = some (cellV w' g (256 + (m + 4) * 4 + 1)) ∧ w'.cell? ⟨g, 256 + (m + 4) * 4 + 2, none⟩ = some (cellV w' g (256 + (m + 4) * 4 + 2)) ∧ w'.cell? ⟨g, 256 + (m + 4) * 4 + 3, none⟩ = some (cellV w' g (256 + (m + 4) * 4 + 3)) ∧ w'.frozen? ⟨g, 256 + (m + 4) * 4, none⟩ = false ∧ w'.frozen? ⟨g, 256 + (m + 4) * 4 + 1, none⟩ = false ∧ w'.frozen? ⟨g, 256 + (m + 4) * 4 + 2, none⟩ = false ∧ w'.frozen? ⟨g, 256 + (m + 4) * 4 + 3, none⟩ = false) ∧ Hid (NT w g key m w')) (first | exact NT.cells (NT.drew (NS.nt HH.out)) hm40 | exact NT.step (by assumption) (by assumption) hm40 | exact NT.cells (NT.sets (by assumption) hltg _ _ _ _) hm40)
            (first
              | (go_at_call 30; refine (changed_no_raw _ _ _ _ _ _ _ hI).mono ?_; rintro e w1 ⟨rfl, hb1⟩; have HB1 := Lib.hid hb1; clear hb1)
              | (go_at_call 29; refine (addColumns_raw _ _ _ _ _ _ _ _ _ (by first | exact Aes.ks_lt key HK.out _ | exact Aes.sb_lt _ | exact Aes.byte_xor (Aes.sb_lt _) (Aes.pw_lt _)) (by first | exact Aes.ks_lt key HK.out _ | exact Aes.sb_lt _ | exact Aes.byte_xor (Aes.sb_lt _) (Aes.pw_lt _)) (by first | exact Aes.ks_lt key HK.out _ | exact Aes.sb_lt _ | exact Aes.byte_xor (Aes.sb_lt _) (Aes.pw_lt _)) (by first | exact Aes.ks_lt key HK.out _ | exact Aes.sb_lt _ | exact Aes.byte_xor (Aes.sb_lt _) (Aes.pw_lt _)) (by first | exact Aes.ks_lt key HK.out _ | exact Aes.sb_lt _ | exact Aes.byte_xor (Aes.sb_lt _) (Aes.pw_lt _)) (by first | exact Aes.ks_lt key HK.out _ | exact Aes.sb_lt _ | exact Aes.byte_xor (Aes.sb_lt _) (Aes.pw_lt _)) (by first | exact Aes.ks_lt key HK.out _ | exact Aes.sb_lt _ | exact Aes.byte_xor (Aes.sb_lt _) (Aes.pw_lt _)) (by first | exact Aes.ks_lt key HK.out _ | exact Aes.sb_lt _ | exact Aes.byte_xor (Aes.sb_lt _) (Aes.pw_lt _))).mono ?_; rintro e w1 ⟨rfl, hb1⟩; have HB1 := Lib.hid hb1; clear hb1))
          go_wp2
          go_roundw
          case rel => exact ⟨m + 5, by omega, by go_num, NT.made _ _ _ _ (by assumption) hm40 (ks_no key m 0 (by omega) h0) (ks_no key m 1 (by omega) h0) (ks_no key m 2 (by omega) h0) (ks_no key m 3 (by omega) h0)⟩
          case measure => simp [intOf]; omega
      · obtain rfl : i = 44 := by omega
        have HH := Lib.hid H
        clear H
        go_wp2
        go_ret
        exact ⟨g, by omega, rfl, OwnB.congr HH.out.2.2 (fun q hq => by unfold CF KK; by_cases h : q < 256; simp [h]; rw [if_neg h, if_neg h, if_pos (by omega)]), HH.out.1⟩
end Go.Proofs.YtecdfjcncgcegaaDoor
