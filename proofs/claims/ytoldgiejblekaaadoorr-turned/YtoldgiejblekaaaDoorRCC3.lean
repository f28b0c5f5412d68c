/- Contracts of circ's Ands, Bits, Word, and of the document's Bit. -/
import Derived.Test.YtoldgiejblekaaaDoorRCC2
namespace Go.Proofs.YtoldgiejblekaaaDoorR
open Go.RowKit

set_option maxHeartbeats 1000000 in
set_option maxRecDepth 100000 in
theorem ands_any (w : World) (N : Int) (Ag : Option Addr) (n cg : Nat) (y : Nat → Nat → Int) (Ao : Option Addr) (m co : Nat) (hg : AtV w Ag (n * 3) (gv y)) (hn : n ≤ maxLen) :
    Calls Tryd.prog 13 #[circV N Ag n cg Ao m co] w fun e w' => e = .returned (.int .i64 (Circ.ands y n : Int)) ∧ Below w.heap.size w w' := by
  have hb0 := (Below.refl w.heap.size w).alloc (Nat.le_refl _) (.cells #[.int .i64 N, .slice Ag n cg, .slice Ao m co] 25)
  have HX := Blk.new w 25 #[.int .i64 N, .slice Ag n cg, .slice Ao m co]
  have hlt := HX.lt
  have c1 := HX.cell 1 rfl
  have hn63 : (n : Int) ≤ 9223372036854775807 := by unfold maxLen at hn; omega
  have HL := Lib.hid hn63
  have H0 := Lib.hid (And.intro (hg.below hb0) (And.intro hb0 HX))
  clear hg hb0 HX hn hn63
  go_enter Tryd.func13, Tryd.ntmps13
  go_wp2
  clear c1
  generalize hw0 : (w.alloc (.cells #[.int .i64 N, .slice Ag n cg, .slice Ao m co] 25)) = w0 at *
  go_loopw [3, 9] (fun a i wr => ∃ k : Nat, k ≤ n ∧ a = .int .i64 (Circ.ands y k : Int) ∧ i = .int .i64 k ∧ Hid (Below w0.heap.size w0 wr)) (fun _ i _ => n - (intOf i).toNat)
  case atStart => exact ⟨0, Nat.zero_le _, rfl, rfl, Below.refl _ _⟩
  case round =>
    obtain ⟨k, hk, rfl, rfl, HI⟩ := hrel
    have hlw := HI.out.size
    have hak := Circ.ands_le y k
    by_cases hlt2 : k < n
    · obtain ⟨ad, rfl, ae, hae, g0, g1, g2, hbk⟩ := (H0.out.1.below HI.out).gate k hlt2
      have lt1 : (k : Int) < (n : Int) := by omega
      have lt0 : (0 : Int) ≤ (k : Int) := by omega
      have e1 : IntKind.i64.wrap ((k : Int) + 1) = (k : Int) + 1 := i64_nat _ (by omega) (by have := HL.out; omega)
      have e2 : IntKind.i64.wrap ((Circ.ands y k : Int) + 1) = (Circ.ands y k : Int) + 1 := i64_nat _ (by omega) (by have := HL.out; omega)
      have HGn := Blk.new wr 41 #[.int .i64 (y k 0), .int .i64 (y k 1), .int .i64 (y k 2)]
      have q0 := HGn.cell 0 rfl
      have HB2 := Lib.hid (HI.out.trans (((Below.refl wr.heap.size wr).alloc (Nat.le_refl _) (.cells #[.int .i64 (y k 0), .int .i64 (y k 1), .int .i64 (y k 2)] 41)).mono hlw))
      have HLt := Lib.hid hlt2
      have HD := Lib.hid (show Circ.ands y (k + 1) = if y k 0 = 2 then Circ.ands y k + 1 else Circ.ands y k from rfl)
      clear HGn hlt2 hbk hak
      by_cases h2 : y k 0 = 2
      · have n2 : (y k 0 == 2) = true := by rw [h2]; rfl
        have HE := Lib.hid (show ((Circ.ands y (k + 1) : Nat) : Int) = (Circ.ands y k : Int) + 1 by rw [HD.out, if_pos h2]; omega)
        clear h2
        go_wp2
        go_roundw
        case rel => exact ⟨k + 1, by have := HLt.out; omega, by rw [HE.out], by go_num, HB2.out⟩
        case measure => simp [intOf]; have := HLt.out; omega
      · have n2 : (y k 0 == 2) = false := by simpa using h2
        have HE := Lib.hid (show ((Circ.ands y (k + 1) : Nat) : Int) = (Circ.ands y k : Int) by rw [HD.out, if_neg h2])
        clear h2
        go_wp2
        go_roundw
        case rel => exact ⟨k + 1, by have := HLt.out; omega, by rw [HE.out], by go_num, HB2.out⟩
        case measure => simp [intOf]; have := HLt.out; omega
    · obtain rfl : k = n := by omega
      have lt1 : ¬ (k : Int) < (k : Int) := by omega
      clear hlt2 hk hak
      go_wp2
      go_ret
      exact ⟨rfl, H0.out.2.1.trans (HI.out.mono H0.out.2.1.size)⟩
/-- A word's bit. -/
def bitI (x : Int) (i : Nat) : Bool := x.toNat.testBit i
theorem shr_i64 (x : Int) (i : Nat) (hx : 0 ≤ x) : x / 2 ^ i % 2 = if bitI x i then 1 else 0 := by
  obtain ⟨n, rfl⟩ := Int.eq_ofNat_of_zero_le hx
  unfold bitI
  rw [Int.toNat_natCast, Nat.testBit_eq_decide_div_mod_eq]
  have h : ((n : Int) / 2 ^ i % 2) = ((n / 2 ^ i % 2 : Nat) : Int) := by
    push_cast
    rfl
  rw [h]
  by_cases e : n / 2 ^ i % 2 = 1
  · simp [e]
  · have : n / 2 ^ i % 2 = 0 := by omega
    simp [this]
/-- The word of the first bits of a list. -/
def wordN (f : Nat → Bool) : Nat → Nat
  | 0 => 0
  | k + 1 => if f k then wordN f k + 2 ^ k else wordN f k
theorem wordN_lt (f : Nat → Bool) : ∀ k, wordN f k < 2 ^ k
  | 0 => by simp [wordN]
  | k + 1 => by
    have := wordN_lt f k
    unfold wordN
    rw [Nat.pow_succ]
    split <;> omega
theorem wordN_congr {f g : Nat → Bool} : ∀ k, (∀ i, i < k → f i = g i) → wordN f k = wordN g k
  | 0, _ => rfl
  | k + 1, h => by
    unfold wordN
    rw [h k (by omega), wordN_congr k (fun i hi => h i (by omega))]
theorem wordN_more (f : Nat → Bool) (n : Nat) : ∀ j, (∀ i, n ≤ i → f i = false) → wordN f (n + j) = wordN f n
  | 0, _ => rfl
  | j + 1, h => by
    show (if f (n + j) then _ else wordN f (n + j)) = _
    rw [h (n + j) (by omega)]
    exact wordN_more f n j h
theorem wordN_bits (n : Nat) : ∀ k, wordN (fun i => n.testBit i) k = n % 2 ^ k
  | 0 => by simp [wordN, Nat.mod_one]
  | k + 1 => by
    unfold wordN
    rw [wordN_bits n k, Nat.mod_pow_succ, Nat.testBit_eq_decide_div_mod_eq]
    by_cases e : n / 2 ^ k % 2 = 1
    · simp [e]
    · have : n / 2 ^ k % 2 = 0 := by omega
      simp [this]
theorem wordN_word (x : Int) (h0 : 0 ≤ x) (h1 : x < 18446744073709551616) : ((wordN (bitI x) 64 : Nat) : Int) = x := by
  have : wordN (bitI x) 64 = x.toNat % 2 ^ 64 := wordN_bits x.toNat 64
  rw [this, Nat.mod_eq_of_lt (by omega)]
  omega
theorem or_next (a k : Nat) (h : a < 2 ^ k) (hk : k < 64) : bits .or .u64 (a : Int) ((2 ^ k : Nat) : Int) = ((a + 2 ^ k : Nat) : Int) := by
  have hp : 2 ^ k * 2 ≤ 2 ^ 64 := by rw [← Nat.pow_succ]; exact Nat.pow_le_pow_right (by omega) (by omega)
  have hor : a ||| 2 ^ k = a + 2 ^ k := by
    rw [Nat.or_comm, Nat.add_comm]
    exact (Nat.two_pow_add_eq_or_of_lt h 1 |> fun e => by simpa using e.symm)
  have e1 : (BitVec.ofInt 64 (a : Int)).toNat = a := by rw [BitVec.ofInt_natCast, BitVec.toNat_ofNat, Nat.mod_eq_of_lt (by omega)]
  have e2 : (BitVec.ofInt 64 ((2 ^ k : Nat) : Int)).toNat = 2 ^ k := by rw [BitVec.ofInt_natCast, BitVec.toNat_ofNat, Nat.mod_eq_of_lt (by omega)]
  have : (BitVec.ofInt 64 (a : Int) ||| BitVec.ofInt 64 ((2 ^ k : Nat) : Int)).toNat = a + 2 ^ k := by
    rw [BitVec.toNat_or, e1, e2, hor]
  show IntKind.u64.wrap ((BitVec.ofInt 64 (a : Int) ||| BitVec.ofInt 64 ((2 ^ k : Nat) : Int)).toNat : Int) = _
  rw [this, u64w]
  generalize 2 ^ k = p at *
  omega
end Go.Proofs.YtoldgiejblekaaaDoorR
