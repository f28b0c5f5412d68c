/- Contracts: sumOf, numberAt. -/
import Derived.Test.YteadpnododjeaaaDoorLinkMath3
import Derived.Test.YteadpnododjeaaaDoorLN1
namespace Go.Proofs.YteadpnododjeaaaDoor
open Go.RowKit

/-- The table lies in memory. -/
def Tab (w : World) : Prop := ∀ k, k < 16 → w.cell? ⟨0, k, none⟩ = some (.int .u32 (Link.half k : Int))
theorem Tab.below {w w' : World} {B : Nat} (h : Tab w) (hb : Below B w w') (hB : 0 < B) : Tab w' := fun k hk => (hb.cell (p := ⟨0, k, none⟩) hB).trans (h k hk)
theorem Tab.pos {w : World} (h : Tab w) : 0 < w.heap.size := World.block_lt_of_cell? w ⟨0, 0, none⟩ (h 0 (by omega))
theorem u32w (n : Int) : IntKind.u32.wrap n = n % 4294967296 := by
  simp [IntKind.wrap, IntKind.bits, IntKind.signed]
theorem u32n (x : Nat) (h : x < 4294967296) : IntKind.u32.wrap (x : Int) = (x : Int) := by rw [u32w]; omega
theorem ofInt32_nat (X : Nat) (h : X < 4294967296) : (BitVec.ofInt 32 (X : Int)).toNat = X := by
  rw [BitVec.ofInt_natCast, BitVec.toNat_ofNat]
  exact Nat.mod_eq_of_lt h
theorem bits32_xor (X Y : Nat) (hX : X < 4294967296) (hY : Y < 4294967296) : bits .xor .u32 (X : Int) (Y : Int) = ((X ^^^ Y : Nat) : Int) := by
  show IntKind.u32.wrap ((BitVec.ofInt 32 (X : Int) ^^^ BitVec.ofInt 32 (Y : Int)).toNat : Int) = _
  have := (BitVec.ofInt 32 (X : Int) ^^^ BitVec.ofInt 32 (Y : Int)).isLt
  rw [u32w, Int.emod_eq_of_lt (by omega) (by omega), BitVec.toNat_xor, ofInt32_nat X hX, ofInt32_nat Y hY]
theorem bits32_or (X Y : Nat) (hX : X < 4294967296) (hY : Y < 4294967296) : bits .or .u32 (X : Int) (Y : Int) = ((X ||| Y : Nat) : Int) := by
  show IntKind.u32.wrap ((BitVec.ofInt 32 (X : Int) ||| BitVec.ofInt 32 (Y : Int)).toNat : Int) = _
  have := (BitVec.ofInt 32 (X : Int) ||| BitVec.ofInt 32 (Y : Int)).isLt
  rw [u32w, Int.emod_eq_of_lt (by omega) (by omega), BitVec.toNat_or, ofInt32_nat X hX, ofInt32_nat Y hY]
theorem bits32_and15 (X : Nat) (hX : X < 4294967296) : bits .and .u32 (X : Int) 15 = ((X % 16 : Nat) : Int) := by
  show IntKind.u32.wrap ((BitVec.ofInt 32 (X : Int) &&& BitVec.ofInt 32 ((15 : Nat) : Int)).toNat : Int) = _
  have := (BitVec.ofInt 32 (X : Int) &&& BitVec.ofInt 32 ((15 : Nat) : Int)).isLt
  rw [u32w, Int.emod_eq_of_lt (by omega) (by omega), BitVec.toNat_and, ofInt32_nat X hX, ofInt32_nat 15 (by omega), show X &&& 15 = X % 16 from Nat.and_two_pow_sub_one_eq_mod X 4]
set_option maxHeartbeats 1000000 in
set_option maxRecDepth 100000 in
theorem sumOf_any (A : Option Addr) (n c : Nat) (f : Nat → Nat) (w : World) (ht : Tab w) (hA : AtBO w A n f) (hf : ∀ i, f i < 256) (hn : n ≤ 150000000000000) :
    Calls Tryd.prog 29 #[.slice A n c] w fun e w' => e = .returned (.int .u32 ((Link.reg 4294967295 f n ^^^ 4294967295 : Nat) : Int)) ∧ w = w' := by
  have HT := Lib.hid (And.intro ht (And.intro hA (And.intro hf hn)))
  clear ht hA hf hn
  go_enter Tryd.func29, Tryd.ntmps29
  go_wp2
  go_loop [3, 8] (fun s t => ∃ i R : Nat, t = .int .i64 i ∧ s = .int .u32 R ∧ Hid (True ∧ i ≤ n) ∧ Hid (R = Link.reg 4294967295 f i)) (fun _ t => n - (intOf t).toNat)
  case atStart => exact ⟨0, 4294967295, rfl, rfl, ⟨trivial, by omega⟩, rfl⟩
  case round =>
    obtain ⟨i, R, rfl, rfl, HI, HR⟩ := hrel
    have hR : R < 4294967296 := by rw [HR.out]; exact Link.reg_lt (by omega) HT.out.2.2.1 _
    by_cases hlt : i < n
    · obtain ⟨ad, rfl, hc⟩ := HT.out.2.1 i hlt
      have hlt2 : (i : Int) < (n : Int) := by omega
      have e0 : IntKind.i64.wrap ((i : Int) + 1) = (i : Int) + 1 := i64_nat _ (by omega) (by have := HT.out.2.2.2; omega)
      obtain ⟨b, hb⟩ : ∃ b, b = f i := ⟨_, rfl⟩
      have hb8 : b < 256 := by rw [hb]; exact HT.out.2.2.1 i
      rw [← hb] at hc
      have e1 : IntKind.u32.wrap (b : Int) = (b : Int) := u32n _ (by omega)
      have e2 := bits32_xor R b hR (by omega)
      obtain ⟨X, hX⟩ : ∃ X, X = R ^^^ b := ⟨_, rfl⟩
      have hXl : X < 4294967296 := by rw [hX]; exact Link.xor_lt32 hR (by omega)
      rw [← hX] at e2
      have e3 := bits32_and15 X hXl
      obtain ⟨k, hk⟩ : ∃ k, k = X % 16 := ⟨_, rfl⟩
      have hkl : k < 16 := by omega
      have hck := HT.out.1 k hkl
      rw [← hk] at e3
      have e4 := bits32_xor (X / 16) (Link.half k) (by omega) (Link.half_lt k hkl)
      rw [show ((X / 16 : Nat) : Int) = (X : Int) / 16 by omega] at e4
      obtain ⟨Y, hY⟩ : ∃ Y, Y = X / 16 ^^^ Link.half k := ⟨_, rfl⟩
      have hYl : Y < 4294967296 := by rw [hY]; exact Link.xor_lt32 (by omega) (Link.half_lt k hkl)
      rw [← hY] at e4
      have e5 := bits32_and15 Y hYl
      obtain ⟨l, hl⟩ : ∃ l, l = Y % 16 := ⟨_, rfl⟩
      have hll : l < 16 := by omega
      have hcl := HT.out.1 l hll
      rw [← hl] at e5
      have e6 := bits32_xor (Y / 16) (Link.half l) (by omega) (Link.half_lt l hll)
      rw [show ((Y / 16 : Nat) : Int) = (Y : Int) / 16 by omega] at e6
      obtain ⟨Z, hZ⟩ : ∃ Z, Z = Y / 16 ^^^ Link.half l := ⟨_, rfl⟩
      rw [← hZ] at e6
      have HZ := Lib.hid (show Z = Link.reg 4294967295 f (i + 1) by rw [Link.reg_nib, ← HR.out, ← hb, ← hX, hZ, hl, hY, hk]; rfl)
      have HL := Lib.hid (And.intro trivial (And.intro hlt (And.intro hkl hll)))
      clear hX hY hZ hk hl hb hb8 hR hXl hYl HR HI hlt
      generalize Link.half k = H1 at hck e4
      generalize Link.half l = H2 at hcl e6
      have k1 : (k : Int) < 16 := by omega
      have k2 : (l : Int) < 16 := by omega
      clear hkl hll
      go_wp2
      go_round
      case rel => exact ⟨i + 1, Z, by go_num, rfl, ⟨trivial, HL.out.2.1⟩, HZ⟩
      case measure => have := HL.out.2.1; simp [intOf]; omega
    · obtain rfl : i = n := by have := HI.out.2; omega
      have e1 : bits .xor .u32 IntKind.u32.max (R : Int) = ((Link.reg 4294967295 f i ^^^ 4294967295 : Nat) : Int) := by
        have := bits32_xor 4294967295 R (by omega) hR
        rw [Nat.xor_comm, HR.out] at this
        rw [HR.out]
        exact this
      clear hR
      go_wp2
      go_ret
      exact ⟨rfl, rfl⟩
set_option maxHeartbeats 1000000 in
set_option maxRecDepth 100000 in
theorem numberAt_any (A : Option Addr) (n c : Nat) (f : Nat → Nat) (a : Nat) (w : World) (hA : AtBO w A n f) (hf : ∀ i, f i < 256) (ha : a + 4 ≤ n) (hn : n ≤ 150000000000000) :
    Calls Tryd.prog 32 #[.slice A n c, .int .i64 (a : Int)] w fun e w' => e = .returned (.int .u32 (Link.le4 f a : Int)) ∧ w = w' := by
  have HT := Lib.hid (And.intro hA (And.intro hf (And.intro ha hn)))
  clear hA hf ha hn
  go_enter Tryd.func32, Tryd.ntmps32
  go_wp2
  go_loop [5, 7] (fun s t => ∃ i R : Nat, t = .int .i64 i ∧ s = .int .u32 R ∧ Hid (True ∧ i ≤ 4) ∧ Hid (R = Link.acc f a i)) (fun _ t => 4 - (intOf t).toNat)
  case atStart => exact ⟨0, 0, rfl, rfl, ⟨trivial, by omega⟩, rfl⟩
  case round =>
    obtain ⟨i, R, rfl, rfl, HI, HR⟩ := hrel
    have hacc := Link.acc_lt f a HT.out.2.1 i
    rw [← HR.out] at hacc
    by_cases hlt : i < 4
    · obtain ⟨ad, rfl, hc⟩ := HT.out.1 (a + i) (by have := HT.out.2.2.1; omega)
      have hnn := HT.out.2.2
      have e1 : IntKind.i64.wrap ((a : Int) + (i : Int)) = ((a + i : Nat) : Int) := by rw [i64_nat _ (by omega) (by omega)]; omega
      have e0 : IntKind.i64.wrap ((i : Int) + 1) = (i : Int) + 1 := i64_nat _ (by omega) (by omega)
      have hlt3 : ((a + i : Nat) : Int) < (n : Int) := by omega
      obtain ⟨b, hb⟩ : ∃ b, b = f (a + i) := ⟨_, rfl⟩
      have hb8 : b < 256 := by rw [hb]; exact HT.out.2.1 _
      rw [← hb] at hc
      have e2 : IntKind.u32.wrap (b : Int) = (b : Int) := u32n _ (by omega)
      have hS : 256 ^ i * b < 4294967296 := by
        rcases (show i = 0 ∨ i = 1 ∨ i = 2 ∨ i = 3 by omega) with rfl | rfl | rfl | rfl <;> omega
      have hR : R < 4294967296 := by
        rcases (show i = 0 ∨ i = 1 ∨ i = 2 ∨ i = 3 by omega) with rfl | rfl | rfl | rfl <;> omega
      have e3 : IntKind.i64.wrap (8 * (i : Int)) = ((8 * i : Nat) : Int) := by rw [i64_nat _ (by omega) (by omega)]; omega
      have e5 := bits32_or R (256 ^ i * b) hR hS
      have HZ := Lib.hid (show R ||| 256 ^ i * b = Link.acc f a (i + 1) by rw [HR.out, hb]; rfl)
      generalize hs : 256 ^ i * b = S at hS e5 HZ
      have e4 : (b : Int) * 2 ^ (8 * i) % 4294967296 = (S : Int) := by
        rw [← hs]
        rw [← hs] at hS
        rw [show (256 : Nat) ^ i = 2 ^ (8 * i) by rw [Nat.pow_mul]] at hS ⊢
        generalize hp : (2 : Nat) ^ (8 * i) = p at hS
        have hp2 : (2 : Int) ^ (8 * i) = (p : Int) := by rw [← hp]; simp
        rw [hp2, Int.mul_comm, ← Int.natCast_mul]
        omega
      generalize R ||| S = Z at e5 HZ
      have HB := Lib.hid (And.intro trivial hlt)
      generalize hj : a + i = j at hc e1 hlt3
      have hlt2 : (i : Int) < 4 := by omega
      have hj0 : (0 : Int) ≤ (j : Int) := by omega
      clear hb hj hnn hacc HR HI hb8 hlt hS hs hR
      go_wp2
      go_round
      case rel => exact ⟨i + 1, Z, by go_num, rfl, ⟨trivial, HB.out.2⟩, HZ⟩
      case measure => have := HB.out.2; simp [intOf]; omega
    · obtain rfl : i = 4 := by have := HI.out.2; omega
      have HZ := Lib.hid (show (R : Int) = (Link.le4 f a : Int) by rw [HR.out, Link.acc_le4 f a HT.out.2.1])
      clear hacc HR HI hlt
      go_wp2
      go_ret
      exact ⟨ret_int HZ.out, rfl⟩
end Go.Proofs.YteadpnododjeaaaDoor
