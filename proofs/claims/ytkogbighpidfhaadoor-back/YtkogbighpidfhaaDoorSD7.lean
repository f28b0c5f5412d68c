/- Tokens compared; contract of the document's Same at lists that are the same. -/
import Derived.Test.YtkogbighpidfhaaDoorSD6
namespace Go.Proofs.YtkogbighpidfhaaDoor
open Go.RowKit
open Lx

theorem run_eq_tk (k n a : Int) (t : ByteArray) (w : World) : (Op.equalIn 10000 37 (tkV k t n a) (tkV k t n a)).run Tryd.prog w = .ok true w := by
  show (Op.equalIn (9999 + 1) 37 _ _).run Tryd.prog w = _
  rw [run_equalIn_struct w 9999 37 _ _ (by kernel_rfl) (by kernel_rfl)]
  unfold Program.fieldsOf
  rw [Tryd.underlying37]
  have h0 : ∀ w, (Op.equalIn 9999 34 (.int .i64 k) (.int .i64 k)).run Tryd.prog w = .ok (k == k) w := fun w => run_equalIn_int w 9998 _ .i64 .i64 k k Tryd.underlying34
  have h1 : ∀ w, (Op.equalIn 9999 9 (.string t) (.string t)).run Tryd.prog w = .ok (t.toList == t.toList) w := fun w => run_equalIn_string w 9998 _ t t Tryd.underlying9
  have h2 : ∀ w, (Op.equalIn 9999 35 (.int .u64 n) (.int .u64 n)).run Tryd.prog w = .ok (n == n) w := fun w => run_equalIn_int w 9998 _ .u64 .u64 n n Tryd.underlying35
  have h3 : ∀ w, (Op.equalIn 9999 3 (.int .i64 a) (.int .i64 a)).run Tryd.prog w = .ok (a == a) w := fun w => run_equalIn_int w 9998 _ .i64 .i64 a a Tryd.underlying3
  simp [Op.eqFields, part, go_sem, h0, h1, h2, h3]
theorem drewN_below (w : World) (B q : Nat) : Below B w (w.drewN q) := ⟨rfl, rfl, rfl, Nat.le_refl _, fun _ _ => rfl⟩
/-- A token's four cells, at its place. -/
theorem AtV.tk {w : World} {A : Option Addr} {n : Nat} {F : Nat → Value} (h : AtV w A (n * 4) F) (i : Nat) (hi : i < n) :
    ∃ ad, A = some ad ∧ ∃ ae, ad.add (i * 4) = ae ∧ w.cell? ae = some (F (i * 4)) ∧ w.cell? ⟨ae.block, ae.off + 1, none⟩ = some (F (i * 4 + 1)) ∧ w.cell? ⟨ae.block, ae.off + 2, none⟩ = some (F (i * 4 + 2)) ∧ w.cell? ⟨ae.block, ae.off + 3, none⟩ = some (F (i * 4 + 3)) ∧ ad.block = ae.block := by
  obtain ⟨ad, rfl, h0⟩ := h (i * 4) (by omega)
  have key : ∀ j, 0 < j → j < 4 → w.cell? ⟨(ad.add (i * 4)).block, (ad.add (i * 4)).off + j, none⟩ = some (F (i * 4 + j)) := fun j h1 h2 => by
    obtain ⟨ad', e, hc⟩ := h (i * 4 + j) (by omega)
    cases e
    rw [← add_add] at hc
    have : (ad.add (i * 4)).add j = ⟨(ad.add (i * 4)).block, (ad.add (i * 4)).off + j, none⟩ := by
      generalize ad.add (i * 4) = ae
      unfold Addr.add
      rw [if_neg (by omega)]
    rw [this] at hc
    exact hc
  exact ⟨ad, rfl, _, rfl, h0, key 1 (by omega) (by omega), key 2 (by omega) (by omega), key 3 (by omega) (by omega), (add_block ad _).symm⟩
/-- Cells that are tokens'. -/
def TkCells (F : Nat → Value) (n : Nat) : Prop := ∀ q, q < n → ∃ (k : Int) (t : ByteArray) (v a : Int), F (q * 4) = .int .i64 k ∧ F (q * 4 + 1) = .string t ∧ F (q * 4 + 2) = .int .u64 v ∧ F (q * 4 + 3) = .int .i64 a
theorem tkF_at (s : ByteArray) (ts : List Tk) (q j : Nat) (hj : j < 4) : tkF s ts (q * 4 + j) = tkOf s (ts.getD q (tkEnd s)) j := by
  unfold tkF
  rw [show (q * 4 + j) / 4 = q by omega, show (q * 4 + j) % 4 = j by omega]
theorem tkF_at0 (s : ByteArray) (ts : List Tk) (q : Nat) : tkF s ts (q * 4) = tkOf s (ts.getD q (tkEnd s)) 0 := tkF_at s ts q 0 (by omega)
theorem tkF_cells (s : ByteArray) (ts : List Tk) (n : Nat) : TkCells (tkF s ts) n := fun q _ =>
  ⟨_, _, _, _, tkF_at0 s ts q, tkF_at s ts q 1 (by omega), tkF_at s ts q 2 (by omega), tkF_at s ts q 3 (by omega)⟩
set_option maxHeartbeats 8000000 in
set_option maxRecDepth 100000 in
theorem same_any (A B : Option Addr) (n c d : Nat) (F G : Nat → Value) (w : World) (hA : AtV w A (n * 4) F) (hB : AtV w B (n * 4) G) (hFG : ∀ i, i < n * 4 → F i = G i) (hF : TkCells F n) (hn : n ≤ 1000000) :
    Calls Tryd.prog 12 #[.slice A n c, .slice B n d] w fun e w' => e = .returned (.bool true) ∧ Below w.heap.size w w' := by
  have H0 := Lib.hid (And.intro hA (And.intro (hB.congr fun i hi => (hFG i hi).symm) hF))
  have HN := Lib.hid hn
  clear hA hB hFG hF hn
  go_enter Tryd.func12, Tryd.ntmps12
  go_wp2
  go_loopw [13] (fun i wr => ∃ k : Nat, i = .int .i64 (k : Int) ∧ Hid (k ≤ n ∧ Below w.heap.size w wr)) (fun i _ => n - (intOf i).toNat)
  case atStart => exact ⟨0, rfl, Nat.zero_le _, Below.refl _ _⟩
  case round =>
    obtain ⟨k, rfl, HI⟩ := hrel
    by_cases hk : k < n
    · obtain ⟨ad, rfl, ae, hae, a0, a1, a2, a3, _⟩ := (H0.out.1.below HI.out.2).tk k hk
      obtain ⟨bd, rfl, be, hbe, b0, b1, b2, b3, _⟩ := (H0.out.2.1.below HI.out.2).tk k hk
      obtain ⟨kd, t, v, x, f0, f1, f2, f3⟩ := H0.out.2.2 k hk
      rw [f0] at a0 b0
      rw [f1] at a1 b1
      rw [f2] at a2 b2
      rw [f3] at a3 b3
      have hq := fun w => run_eq_tk kd v x t w
      have lt1 : (k : Int) < (n : Int) := by omega
      have lt0 : (0 : Int) ≤ (k : Int) := by omega
      have e1 : IntKind.i64.wrap ((k : Int) + 1) = (k : Int) + 1 := i64_nat _ (by omega) (by have := HN.out; omega)
      have HLt := Lib.hid hk
      clear hk f0 f1 f2 f3
      go_wp2
      go_quiet (fail)
      go_wp2
      go_roundw
      case rel => exact ⟨k + 1, by go_num, by have := HLt.out; omega, HI.out.2.trans (drewN_below _ _ _)⟩
      case measure => simp [intOf]; have := HLt.out; omega
    · have lt1 : ¬ (k : Int) < (n : Int) := by omega
      clear hk
      go_wp2
      go_ret
      exact ⟨rfl, HI.out.2⟩
end Go.Proofs.YtkogbighpidfhaaDoor
