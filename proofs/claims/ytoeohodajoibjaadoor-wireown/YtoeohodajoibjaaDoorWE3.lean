/- Contracts of the document's Whole and Words. -/
import Derived.Test.YtoeohodajoibjaaDoorWE1
namespace Go.Proofs.YtoeohodajoibjaaDoor
open Go.RowKit

def hsum (f : Nat → Nat) : Nat → Nat
  | 0 => 0
  | j + 1 => hsum f j * 256 + f (7 - j)
theorem hsum_lt (f : Nat → Nat) (hf : ∀ i, f i < 256) : ∀ j, hsum f j < 256 ^ j
  | 0 => by simp [hsum]
  | j + 1 => by
    have := hsum_lt f hf j
    have := hf (7 - j)
    rw [Nat.pow_succ]; show hsum f j * 256 + f (7 - j) < _
    omega
theorem psum8 (b : Nat → Nat) (o : Nat) : Wire.psum b o 8 = b o + 256 * (b (o + 1) + 256 * (b (o + 2) + 256 * (b (o + 3) + 256 * (b (o + 4) + 256 * (b (o + 5) + 256 * (b (o + 6) + 256 * b (o + 7))))))) := by
  simp only [Wire.psum, Nat.add_zero]
  omega
theorem hsum_full (f : Nat → Nat) : hsum f 8 = Wire.psum f 0 8 := by
  rw [psum8]
  simp only [hsum, Nat.zero_add, Nat.reduceSub]
  omega
set_option maxHeartbeats 1000000 in
set_option maxRecDepth 100000 in
theorem whole_any (A : Option Addr) (c : Nat) (f : Nat → Nat) (w : World) (hA : AtBO w A 8 f) (hf : ∀ i, f i < 256) :
    Calls Tryd.prog 30 #[.slice A 8 c] w fun e w' => e = .returned (.int .u64 (Wire.psum f 0 8 : Int)) ∧ w = w' := by
  have HA := Lib.hid (And.intro hA hf)
  clear hA hf
  go_enter Tryd.func30, Tryd.ntmps30
  go_wp2
  go_loopw [3, 4] (fun p t wr => ∃ (j h : Nat) (z : Int), j ≤ 8 ∧ p = .int .u64 h ∧ t = .int .i64 z ∧ Hid (h = hsum f j) ∧ Hid (z = 7 - (j : Int)) ∧ Hid (w = wr)) (fun _ t _ => (intOf t + 1).toNat)
  case atStart => exact ⟨0, 0, 7, by omega, rfl, rfl, rfl, rfl, rfl⟩
  case round =>
    obtain ⟨j, h, z, hj, rfl, rfl, HH, HZ, HW⟩ := hrel
    obtain rfl := HW.out
    by_cases hlt : j < 8
    · obtain ⟨k, hk⟩ : ∃ k : Nat, k = 7 - j := ⟨_, rfl⟩
      have hz : z = (k : Int) := by rw [HZ.out]; omega
      subst hz
      have hb := hsum_lt f HA.out.2 j
      have hb2 := hsum_lt f HA.out.2 (j + 1)
      have hp : 256 ^ (j + 1) ≤ 256 ^ 8 := Nat.pow_le_pow_right (by omega) (by omega)
      have hs : hsum f (j + 1) = h * 256 + f k := by rw [HH.out, hk]; rfl
      obtain ⟨ad, rfl, c1⟩ := HA.out.1 k (by omega)
      have hf := HA.out.2 k
      obtain ⟨h2, hh2⟩ : ∃ z, z = h * 256 := ⟨_, rfl⟩
      obtain ⟨h3, hh3⟩ : ∃ z, z = h2 + f k := ⟨_, rfl⟩
      have e1 : IntKind.u64.wrap ((h : Int) * 256) = (h2 : Int) := by rw [u64w]; omega
      have e2 : IntKind.u64.wrap ((f k : Int)) = (f k : Int) := by rw [u64w]; omega
      have e3 : IntKind.u64.wrap ((h2 : Int) + (f k : Int)) = (h3 : Int) := by rw [u64w]; omega
      have e4 : (k : Int) < 8 := by omega
      have H3 := Lib.hid (show h3 = hsum f (j + 1) by omega)
      have HK := Lib.hid (show (k : Int) - 1 = 7 - ((j + 1 : Nat) : Int) by omega)
      have e5 : IntKind.i64.wrap ((k : Int) - 1) = (k : Int) - 1 := by simp [IntKind.wrap, IntKind.bits, IntKind.signed]; omega
      clear hb hb2 hp hs hf hh2 hh3 hk
      go_wp2
      go_roundw
      case rel => exact ⟨j + 1, h3, _, by omega, rfl, rfl, H3, HK, Lib.hid trivial⟩
      case measure => simp [intOf]
    · obtain rfl : j = 8 := by omega
      have hz : z = -1 := by rw [HZ.out]; omega
      subst hz
      go_wp2
      go_ret
      exact ⟨ret_int (by rw [HH.out, hsum_full]), rfl⟩
/-- Are two lists of words the same? -/
def Same (n m : Nat) (f g : Nat → Int) : Prop := n = m ∧ ∀ i, i < n → f i = g i
set_option maxHeartbeats 1000000 in
set_option maxRecDepth 100000 in
theorem words_any (A B : Option Addr) (n m c c' : Nat) (f g : Nat → Int) (w : World) (hn : n ≤ maxLen) (hA : AtO w A n f) (hB : AtO w B m g) :
    Calls Tryd.prog 19 #[.slice A n c, .slice B m c'] w fun e w' => ∃ b, e = .returned (.bool b) ∧ (b = true ↔ Same n m f g) ∧ Below w.heap.size w w' := by
  have HA := Lib.hid (And.intro hA (And.intro hB hn))
  clear hA hB hn
  go_enter Tryd.func19, Tryd.ntmps19
  by_cases hnm : n = m
  · subst hnm
    go_wp2
    go_loopw [13] (fun t wr => ∃ k : Nat, t = .int .i64 k ∧ Hid (k ≤ n ∧ ∀ j, j < k → f j = g j) ∧ Hid (wr.heap = w.heap ∧ wr.tape = w.tape ∧ wr.os = w.os ∧ wr.output = w.output)) (fun t _ => n - (intOf t).toNat)
    case atStart => exact ⟨0, rfl, ⟨by omega, fun j hj => by omega⟩, rfl, rfl, rfl, rfl⟩
    case round =>
      obtain ⟨k, rfl, HK, HW⟩ := hrel
      by_cases hlt : k < n
      · obtain ⟨aa, eA, cA⟩ := HA.out.1 k hlt
        obtain ⟨ba, eB, cB⟩ := HA.out.2.1 k hlt
        subst eA eB
        have c1 : wr.cell? (aa.add k) = some (.int .u64 (f k)) := by rw [← cA]; simp only [World.cell?, HW.out.1]
        have c2 : wr.cell? (ba.add k) = some (.int .u64 (g k)) := by rw [← cB]; simp only [World.cell?, HW.out.1]
        have hlt1 : (k : Int) < (n : Int) := by omega
        have e1 : IntKind.i64.wrap ((k : Int) + 1) = (k : Int) + 1 := by
          have := HA.out.2.2
          unfold maxLen at this
          exact i64_nat _ (by omega) (by omega)
        have HLt := Lib.hid (And.intro trivial hlt)
        clear cA cB hlt
        by_cases he : f k = g k
        · have he1 : (f k != g k) = false := by rw [he]; simp
          have HE := Lib.hid (show k + 1 ≤ n ∧ ∀ j, j < k + 1 → f j = g j from ⟨HLt.out.2, fun j hj => by
            by_cases e : j = k
            · subst e; exact he
            · exact HK.out.2 j (by omega)⟩)
          clear he
          go_wp2
          go_quiet (fail)
          go_wp2
          go_roundw
          case rel => exact ⟨k + 1, rfl, HE, HW.out⟩
          case measure => have := HLt.out.2; simp [intOf]; omega
        · have he1 : (f k != g k) = true := by simpa using he
          have HE := Lib.hid (show ¬ Same n n f g from fun h => he (h.2 k HLt.out.2))
          clear he
          go_wp2
          go_quiet (fail)
          go_wp2
          go_ret
          exact ⟨false, rfl, ⟨fun h => (by cases h), fun h => absurd h HE.out⟩, HW.out.2.2.1, HW.out.2.1, HW.out.2.2.2, by show _ ≤ wr.heap.size; rw [HW.out.1]; exact Nat.le_refl _, fun i _ => by show wr.heap[i]? = _; rw [HW.out.1]⟩
      · have hlt1 : decide ((k : Int) < (n : Int)) = false := decide_eq_false (by omega)
        have hlt2 : decide (k < n) = false := decide_eq_false hlt
        have HE := Lib.hid (show Same n n f g from ⟨rfl, fun i hi => HK.out.2 i (by omega)⟩)
        clear hlt
        go_wp2
        go_ret
        exact ⟨true, rfl, ⟨fun _ => HE.out, fun _ => rfl⟩, HW.out.2.2.1, HW.out.2.1, HW.out.2.2.2, by rw [HW.out.1]; exact Nat.le_refl _, fun i _ => by rw [HW.out.1]⟩
  · have h1 : ((n : Int) != (m : Int)) = true := by simp; omega
    go_wp2
    go_ret
    exact ⟨false, rfl, ⟨fun h => (by cases h), fun h => absurd h.1 hnm⟩, Below.refl _ _⟩
end Go.Proofs.YtoeohodajoibjaaDoor
