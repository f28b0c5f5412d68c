/- Contracts of circ's ahead, fits, bitOf; what a circuit's lists are in memory. -/
import Derived.Test.YtoldgiejblekaaaDoorRCV1
import Derived.Test.YtoldgiejblekaaaDoorRE5
import Derived.Test.YtoldgiejblekaaaDoorRCircMath3
import Derived.BigQuiet
namespace Go.Proofs.YtoldgiejblekaaaDoorR
open Go.RowKit

theorem drewN_below (B : Nat) (w : World) (q : Nat) : Below B w (w.drewN q) := ⟨rfl, rfl, rfl, Nat.le_refl _, fun _ _ => rfl⟩
/-- A gate's cells, a number, a flag. -/
def gv (y : Nat → Nat → Int) (q : Nat) : Value := .int .i64 (y (q / 3) (q % 3))
def iv (o : Nat → Int) (q : Nat) : Value := .int .i64 (o q)
def bv (f : Nat → Bool) (q : Nat) : Value := .bool (f q)
theorem gv_one (y : Nat → Nat → Int) (q : Nat) : (gv y q).oneCell' = true := rfl
theorem iv_one (o : Nat → Int) (q : Nat) : (iv o q).oneCell' = true := rfl
theorem bv_one (f : Nat → Bool) (q : Nat) : (bv f q).oneCell' = true := rfl
theorem eltB : Elt 26 4 (.bool false) 1 1 := ⟨by kernel_rfl, Tryd.underlying26, info_parts (by kernel_rfl), rfl, by omega⟩
theorem eltI : Elt 23 3 (.int .i64 0) 1 8 := ⟨by kernel_rfl, Tryd.underlying23, info_parts (by kernel_rfl), rfl, by omega⟩
theorem eltG : Elt 22 41 (.agg #[.int .i64 0, .int .i64 0, .int .i64 0]) 3 24 := ⟨by kernel_rfl, Tryd.underlying22, info_parts (by kernel_rfl), rfl, by omega⟩
theorem eltR : Elt 34 54 (.agg #[.int .i64 0, .int .i64 0, .int .i64 0]) 3 24 := ⟨by kernel_rfl, Tryd.underlying34, info_parts (by kernel_rfl), rfl, by omega⟩
/-- A gate's three cells, at its place. -/
theorem AtV.gate {w : World} {A : Option Addr} {n : Nat} {y : Nat → Nat → Int} (h : AtV w A (n * 3) (gv y)) (i : Nat) (hi : i < n) :
    ∃ ad, A = some ad ∧ ∃ ae, ad.add (i * 3) = ae ∧ w.cell? ae = some (.int .i64 (y i 0)) ∧ w.cell? ⟨ae.block, ae.off + 1, none⟩ = some (.int .i64 (y i 1)) ∧ w.cell? ⟨ae.block, ae.off + 2, none⟩ = some (.int .i64 (y i 2)) ∧ ad.block = ae.block := by
  obtain ⟨ad, rfl, h0⟩ := h (i * 3) (by omega)
  have key : ∀ j, 0 < j → j < 3 → w.cell? ⟨(ad.add (i * 3)).block, (ad.add (i * 3)).off + j, none⟩ = some (.int .i64 (y i j)) := fun j h1 h2 => by
    obtain ⟨ad', e, hc⟩ := h (i * 3 + j) (by omega)
    cases e
    rw [← add_add] at hc
    unfold gv at hc
    rw [show (i * 3 + j) / 3 = i by omega, show (i * 3 + j) % 3 = j by omega] at hc
    have : (ad.add (i * 3)).add j = ⟨(ad.add (i * 3)).block, (ad.add (i * 3)).off + j, none⟩ := by
      generalize ad.add (i * 3) = ae
      unfold Addr.add
      rw [if_neg (by omega)]
    rw [this] at hc
    exact hc
  unfold gv at h0
  rw [show i * 3 / 3 = i by omega, show i * 3 % 3 = 0 by omega] at h0
  have k1 := key 1 (by omega) (by omega)
  have k2 := key 2 (by omega) (by omega)
  have hb : (ad.add (i * 3)).block = ad.block := add_block _ _
  exact ⟨ad, rfl, _, rfl, h0, k1, k2, hb.symm⟩
set_option maxHeartbeats 400000 in
theorem ahead_any (a wire : Int) (w : World) :
    Calls Tryd.prog 22 #[.int .i64 a, .int .i64 wire] w fun e w' => e = .returned (.bool (decide (0 ≤ a ∧ a < wire))) ∧ w = w' := by
  by_cases h0 : 0 ≤ a
  · by_cases h1 : a < wire
    · rw [show decide (0 ≤ a ∧ a < wire) = true from decide_eq_true ⟨h0, h1⟩]
      go_enter Tryd.func22, Tryd.ntmps22
      go_wp2
      go_ret
      exact ⟨rfl, rfl⟩
    · rw [show decide (0 ≤ a ∧ a < wire) = false from decide_eq_false (fun h => h1 h.2)]
      have b1 : decide (a < wire) = false := decide_eq_false h1
      go_enter Tryd.func22, Tryd.ntmps22
      go_wp2
      go_ret
      exact ⟨rfl, rfl⟩
  · rw [show decide (0 ≤ a ∧ a < wire) = false from decide_eq_false (fun h => h0 h.1)]
    have b0 : decide (0 ≤ a) = false := decide_eq_false h0
    go_enter Tryd.func22, Tryd.ntmps22
    go_wp2
    go_ret
    exact ⟨rfl, rfl⟩
abbrev gt (k a b : Int) : Value := .agg #[.int .i64 k, .int .i64 a, .int .i64 b]
set_option maxHeartbeats 1000000 in
set_option maxRecDepth 100000 in
theorem fits_any (k a b wire : Int) (w : World) :
    Calls Tryd.prog 21 #[gt k a b, .int .i64 wire] w fun e w' => e = .returned (.bool (decide (Circ.FitsP k a b wire))) ∧ Below w.heap.size w w' := by
  have HB := Lib.hid ((Below.refl w.heap.size w).alloc (Nat.le_refl _) (.cells #[.int .i64 k, .int .i64 a, .int .i64 b] 41))
  have HX := Blk.new w 41 #[.int .i64 k, .int .i64 a, .int .i64 b]
  have c0 := HX.cell 0 rfl
  have c1 := HX.cell 1 rfl
  have c2 := HX.cell 2 rfl
  clear HX
  by_cases h12 : k = 1 ∨ k = 2
  · have hk : (k == 1) = true ∨ (k == 1) = false ∧ (k == 2) = true := by
      rcases h12 with rfl | rfl
      · exact .inl rfl
      · exact .inr ⟨rfl, rfl⟩
    by_cases ha : 0 ≤ a ∧ a < wire
    · have hd : decide (Circ.FitsP k a b wire) = decide (0 ≤ b ∧ b < wire) := by
        apply decide_eq_decide.2
        unfold Circ.FitsP
        omega
      have da := decide_eq_true ha
      have A1 := Lib.hid (fun wx => ahead_any a wire wx)
      have A2 := Lib.hid (fun wx => ahead_any b wire wx)
      rw [da] at A1
      rw [hd]
      generalize decide (0 ≤ b ∧ b < wire) = B at A2 ⊢
      clear hd da ha
      rcases hk with h1 | ⟨h1, h2⟩
      · go_enter Tryd.func21, Tryd.ntmps21
        go_wp2_with fail
        refine (A1.out _).mono ?_
        rintro e w1 ⟨rfl, rfl⟩
        go_wp2_with fail
        refine (A2.out _).mono ?_
        rintro e w1 ⟨rfl, rfl⟩
        go_wp2
        go_ret
        exact ⟨rfl, HB.out⟩
      · go_enter Tryd.func21, Tryd.ntmps21
        go_wp2_with fail
        refine (A1.out _).mono ?_
        rintro e w1 ⟨rfl, rfl⟩
        go_wp2_with fail
        refine (A2.out _).mono ?_
        rintro e w1 ⟨rfl, rfl⟩
        go_wp2
        go_ret
        exact ⟨rfl, HB.out⟩
    · have hd : decide (Circ.FitsP k a b wire) = false := by
        apply decide_eq_false
        unfold Circ.FitsP
        omega
      have da := decide_eq_false ha
      have A1 := Lib.hid (fun wx => ahead_any a wire wx)
      rw [da] at A1
      rw [hd]
      clear hd da ha
      rcases hk with h1 | ⟨h1, h2⟩
      · go_enter Tryd.func21, Tryd.ntmps21
        go_wp2_with fail
        refine (A1.out _).mono ?_
        rintro e w1 ⟨rfl, rfl⟩
        go_wp2
        go_ret
        exact ⟨rfl, HB.out⟩
      · go_enter Tryd.func21, Tryd.ntmps21
        go_wp2_with fail
        refine (A1.out _).mono ?_
        rintro e w1 ⟨rfl, rfl⟩
        go_wp2
        go_ret
        exact ⟨rfl, HB.out⟩
  · have n1 : (k == 1) = false := by simpa using fun h => h12 (.inl h)
    have n2 : (k == 2) = false := by simpa using fun h => h12 (.inr h)
    by_cases h3 : k = 3
    · have n3 : (k == 3) = true := by subst h3; rfl
      by_cases ha : 0 ≤ a ∧ a < wire
      · have hd : decide (Circ.FitsP k a b wire) = (b == 0) := by
          rw [show (b == 0) = decide (b = 0) from rfl]
          apply decide_eq_decide.2
          unfold Circ.FitsP
          omega
        have da := decide_eq_true ha
        have A1 := Lib.hid (fun wx => ahead_any a wire wx)
        rw [da] at A1
        rw [hd]
        clear hd da ha h12 h3
        go_enter Tryd.func21, Tryd.ntmps21
        go_wp2_with fail
        refine (A1.out _).mono ?_
        rintro e w1 ⟨rfl, rfl⟩
        go_wp2
        go_ret
        exact ⟨rfl, HB.out⟩
      · have hd : decide (Circ.FitsP k a b wire) = false := by
          apply decide_eq_false
          unfold Circ.FitsP
          omega
        have da := decide_eq_false ha
        have A1 := Lib.hid (fun wx => ahead_any a wire wx)
        rw [da] at A1
        rw [hd]
        clear hd da ha h12 h3
        go_enter Tryd.func21, Tryd.ntmps21
        go_wp2_with fail
        refine (A1.out _).mono ?_
        rintro e w1 ⟨rfl, rfl⟩
        go_wp2
        go_ret
        exact ⟨rfl, HB.out⟩
    · have n3 : (k == 3) = false := by simpa using h3
      have hd : decide (Circ.FitsP k a b wire) = false := by
        apply decide_eq_false
        unfold Circ.FitsP
        omega
      rw [hd]
      clear hd h12 h3
      go_enter Tryd.func21, Tryd.ntmps21
      go_wp2
      go_ret
      exact ⟨rfl, HB.out⟩
/-- What bitOf answers. -/
def BitAns (x : Bool) (w : World) (e : Ending) (w' : World) : Prop := e = .returned (.bool x) ∧ Below w.heap.size w w'
set_option maxHeartbeats 1000000 in
set_option maxRecDepth 100000 in
theorem bitOf_any (w : World) (A : Option Addr) (n c : Nat) (f : Nat → Bool) (k : Int) (a b : Nat) (hA : AtV w A n (bv f)) (ha : a < n) (hb : k = 1 ∨ k = 2 → b < n) :
    Calls Tryd.prog 20 #[gt k a b, .slice A n c] w (BitAns (Circ.gate k (f a) (f b)) w) := by
  have hbl := (Below.refl w.heap.size w).alloc (Nat.le_refl _) (.cells #[.int .i64 k, .int .i64 a, .int .i64 b] 41)
  have HX := Blk.new w 41 #[.int .i64 k, .int .i64 a, .int .i64 b]
  have c0 := HX.cell 0 rfl
  have c1 := HX.cell 1 rfl
  have c2 := HX.cell 2 rfl
  obtain ⟨ad, rfl, ca⟩ := (hA.below hbl) a ha
  have la : (a : Int) < (n : Int) := by omega
  have la0 : (0 : Int) ≤ (a : Int) := by omega
  have hcb : k = 1 ∨ k = 2 → (w.alloc (.cells #[.int .i64 k, .int .i64 a, .int .i64 b] 41)).cell? (ad.add b) = some (.bool (f b)) ∧ (b : Int) < (n : Int) ∧ (0 : Int) ≤ (b : Int) := fun h => by
    obtain ⟨ad', e, cb⟩ := (hA.below hbl) b (hb h)
    cases e
    exact ⟨cb, by have := hb h; omega, by omega⟩
  unfold bv at ca
  have HB := Lib.hid hbl
  clear hbl HX hA
  by_cases h1 : k = 1
  · obtain ⟨cb, lb, lb0⟩ := hcb (.inl h1)
    have n1 : (k == 1) = true := by subst h1; rfl
    have hgt : Circ.gate k (f a) (f b) = (f a != f b) := by unfold Circ.gate; rw [if_pos h1]
    rw [hgt]
    clear hcb hgt h1
    go_enter Tryd.func20, Tryd.ntmps20
    go_wp2
    go_quiet (fail)
    go_wp2
    go_ret
    exact ⟨rfl, HB.out.trans (drewN_below _ _ _)⟩
  · have n1 : (k == 1) = false := by simpa using h1
    by_cases h2 : k = 2
    · obtain ⟨cb, lb, lb0⟩ := hcb (.inr h2)
      have n2 : (k == 2) = true := by subst h2; rfl
      have hgt : Circ.gate k (f a) (f b) = (f a && f b) := by unfold Circ.gate; rw [if_neg h1, if_pos h2]
      rw [hgt]
      clear hcb hgt h1 h2
      cases hfa : f a with
      | false =>
        rw [hfa] at ca
        go_enter Tryd.func20, Tryd.ntmps20
        go_wp2
        go_ret
        exact ⟨rfl, HB.out⟩
      | true =>
        rw [hfa] at ca
        go_enter Tryd.func20, Tryd.ntmps20
        go_wp2
        go_ret
        exact ⟨rfl, HB.out⟩
    · have n2 : (k == 2) = false := by simpa using h2
      have hgt : Circ.gate k (f a) (f b) = !(f a) := by unfold Circ.gate; rw [if_neg h1, if_neg h2]
      rw [hgt]
      clear hcb hgt h1 h2
      go_enter Tryd.func20, Tryd.ntmps20
      go_wp2
      go_ret
      exact ⟨rfl, HB.out⟩
end Go.Proofs.YtoldgiejblekaaaDoorR
