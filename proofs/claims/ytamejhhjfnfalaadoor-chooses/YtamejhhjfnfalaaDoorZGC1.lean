/- OTs in memory; contracts of just and Ask. -/
import Derived.Test.YtamejhhjfnfalaaDoorMH
import Derived.Test.YtamejhhjfnfalaaDoorMV
namespace Go.Proofs.YtamejhhjfnfalaaDoor
open Go.RowKit

/-- The cells of a list of OTs. -/
def ov (p q : Nat → Lab) (c : Nat → Bool) (i : Nat) : Value :=
  if i % 5 = 0 then .int .u64 ((p (i / 5)).1 : Int) else if i % 5 = 1 then .int .u64 ((p (i / 5)).2 : Int) else if i % 5 = 2 then .int .u64 ((q (i / 5)).1 : Int) else if i % 5 = 3 then .int .u64 ((q (i / 5)).2 : Int) else .bool (c (i / 5))
theorem ov_one (p q : Nat → Lab) (c : Nat → Bool) (i : Nat) : (ov p q c i).oneCell' = true := by
  unfold ov
  repeat' split
  all_goals rfl
abbrev otC (p q : Lab) (c : Bool) : Array Value := #[.int .u64 (p.1 : Int), .int .u64 (p.2 : Int), .int .u64 (q.1 : Int), .int .u64 (q.2 : Int), .bool c]
theorem eltO : Elt 68 71 (.agg #[.int .u64 0, .int .u64 0, .int .u64 0, .int .u64 0, .bool false]) 5 40 := ⟨by kernel_rfl, Tryd.underlying68, info_parts (by kernel_rfl), rfl, by omega⟩
theorem AtV.ot {w : World} {A : Option Addr} {n : Nat} {p q : Nat → Lab} {c : Nat → Bool} (h : AtV w A (n * 5) (ov p q c)) (i : Nat) (hi : i < n) :
    ∃ ad, A = some ad ∧ ∃ ae, ad.add (i * 5) = ae ∧ w.cell? ae = some (.int .u64 ((p i).1 : Int)) ∧ w.cell? ⟨ae.block, ae.off + 1, none⟩ = some (.int .u64 ((p i).2 : Int)) ∧ w.cell? ⟨ae.block, ae.off + 2, none⟩ = some (.int .u64 ((q i).1 : Int)) ∧ w.cell? ⟨ae.block, ae.off + 3, none⟩ = some (.int .u64 ((q i).2 : Int)) ∧ w.cell? ⟨ae.block, ae.off + 4, none⟩ = some (.bool (c i)) ∧ ad.block = ae.block := by
  obtain ⟨ad, rfl, h0⟩ := h (i * 5) (by omega)
  have key : ∀ j, 0 < j → j < 5 → w.cell? ⟨(ad.add (i * 5)).block, (ad.add (i * 5)).off + j, none⟩ = some (ov p q c (i * 5 + j)) := fun j h1 h2 => by
    obtain ⟨ad', e, hc⟩ := h (i * 5 + j) (by omega)
    cases e
    rw [← add_add] at hc
    have : (ad.add (i * 5)).add j = ⟨(ad.add (i * 5)).block, (ad.add (i * 5)).off + j, none⟩ := by
      generalize ad.add (i * 5) = ae
      unfold Addr.add
      rw [if_neg (by omega)]
    rw [this] at hc
    exact hc
  have k1 := key 1 (by omega) (by omega)
  have k2 := key 2 (by omega) (by omega)
  have k3 := key 3 (by omega) (by omega)
  have k4 := key 4 (by omega) (by omega)
  unfold ov at h0 k1 k2 k3 k4
  rw [if_pos (by omega), show i * 5 / 5 = i by omega] at h0
  rw [if_neg (by omega), if_pos (by omega), show (i * 5 + 1) / 5 = i by omega] at k1
  rw [if_neg (by omega), if_neg (by omega), if_pos (by omega), show (i * 5 + 2) / 5 = i by omega] at k2
  rw [if_neg (by omega), if_neg (by omega), if_neg (by omega), if_pos (by omega), show (i * 5 + 3) / 5 = i by omega] at k3
  rw [if_neg (by omega), if_neg (by omega), if_neg (by omega), if_neg (by omega), show (i * 5 + 4) / 5 = i by omega] at k4
  exact ⟨ad, rfl, _, rfl, h0, k1, k2, k3, k4, (add_block _ _).symm⟩
/-- What the receiver asks, behind k bits. -/
def askN (x : Nat) (c : Nat → Bool) : Nat → Nat
  | 0 => x
  | k + 1 => if c k then askN x c k ^^^ 2 ^ k else askN x c k
theorem askN_lt (x : Nat) (c : Nat → Bool) (hx : x < 18446744073709551616) : ∀ k, k ≤ 64 → askN x c k < 18446744073709551616
  | 0, _ => hx
  | k + 1, hk => by
    have ih := askN_lt x c hx k (by omega)
    show (if c k then askN x c k ^^^ 2 ^ k else askN x c k) < _
    split
    · exact Nat.xor_lt_two_pow (n := 64) ih (shl_bit k (by omega))
    · exact ih
theorem askN_bit (x : Nat) (c : Nat → Bool) (j : Nat) : ∀ k, (askN x c k).testBit j = (x.testBit j != (decide (j < k) && c j))
  | 0 => by
    show x.testBit j = _
    cases x.testBit j <;> rfl
  | k + 1 => by
    have ih := askN_bit x c j k
    show (if c k then askN x c k ^^^ 2 ^ k else askN x c k).testBit j = _
    by_cases hjk : j = k
    · subst hjk
      rw [show decide (j < j + 1) = true by simp]
      rw [show decide (j < j) = false by simp] at ih
      cases hc : c j
      · rw [if_neg (by simp), ih]; rfl
      · rw [if_pos rfl, Nat.testBit_xor, ih, Nat.testBit_two_pow_self]; cases x.testBit j <;> rfl
    · have hd : decide (j < k + 1) = decide (j < k) := by
        by_cases h : j < k
        · simp [h]; omega
        · simp [h]; omega
      rw [hd, ← ih]
      split
      · rw [Nat.testBit_xor, Nat.testBit_two_pow_of_ne (fun e => hjk e.symm)]; cases (askN x c k).testBit j <;> rfl
      · rfl
set_option maxHeartbeats 1000000 in
set_option maxRecDepth 100000 in
theorem just_yes (N : Nat) (s : ByteArray) (w : World) : Calls Tryd.prog 62 #[.int .i64 (N : Int), .string s, .int .i64 (N : Int)] w fun e w' => e = .returned .nilIface ∧ w = w' := by
  have kk : ((N : Int) != (N : Int)) = false := by simp
  go_enter Tryd.func62, Tryd.ntmps62
  go_wp2
  go_ret
  exact ⟨rfl, rfl⟩
set_option maxHeartbeats 1000000 in
set_option maxRecDepth 100000 in
theorem just_no (N K : Nat) (s : ByteArray) (w : World) (hh : Handle w) (hK : K ≠ N) : Calls Tryd.prog 62 #[.int .i64 (N : Int), .string s, .int .i64 (K : Int)] w (FtBad 1 w) := by
  have kk : ((K : Int) != (N : Int)) = true := by rw [bne_iff_ne]; omega
  have hW := wrap_bare 1 (K : Int) s w hh
  have HW := Lib.hid hW
  unfold FtBad
  clear hW hh
  go_enter Tryd.func62, Tryd.ntmps62
  go_wp2_with fail
  refine HW.out.mono ?_
  rintro e w2 ⟨rfl, hb⟩
  obtain ⟨T, x, hT⟩ := chain_iface [(s, (K : Int))] 1
  have HT := Lib.hid hT
  have HB := Lib.hid hb
  rw [hT]
  clear hT hb
  go_wp2
  go_ret
  exact ⟨⟨_, _, by rw [HT.out]; rfl⟩, HB.out⟩
/-- Ask with too few or too many OTs. -/
def AkBad (w : World) (e : Ending) (w' : World) : Prop := (∃ p a, e = .returned (.tuple #[.int .u64 0, chain [(p, a)] 1])) ∧ Below w.heap.size w w'
set_option maxHeartbeats 1000000 in
set_option maxRecDepth 100000 in
theorem ask_no (w : World) (A : Option Addr) (n c : Nat) (x : Nat) (hh : Handle w) (hn : n ≠ 64) : Calls Tryd.prog 30 #[.slice A n c, .int .u64 (x : Int)] w (AkBad w) := by
  have HJ := Lib.hid (just_no 64 n ⟨#[111, 116, 115]⟩ w hh hn)
  unfold AkBad
  clear hn hh
  go_enter Tryd.func30, Tryd.ntmps30
  go_wp2_with fail
  refine HJ.out.mono ?_
  rintro e w2 ⟨⟨p, a, rfl⟩, hb⟩
  obtain ⟨T, y, hT⟩ := chain_iface [(p, a)] 1
  have HT := Lib.hid hT
  have HB := Lib.hid hb
  rw [hT]
  clear hT hb
  go_wp2
  go_ret2
  exact ⟨⟨p, a, by rw [HT.out]; rfl⟩, HB.out⟩
set_option maxHeartbeats 4000000 in
set_option maxRecDepth 100000 in
theorem ask_ok (w : World) (A : Option Addr) (c : Nat) (x : Nat) (p q : Nat → Lab) (f : Nat → Bool) (hA : AtV w A (64 * 5) (ov p q f)) (hx : x < 18446744073709551616) : Calls Tryd.prog 30 #[.slice A 64 c, .int .u64 (x : Int)] w fun e w' => e = .returned (.tuple #[.int .u64 (askN x f 64 : Int), .nilIface]) ∧ Below w.heap.size w w' := by
  have HJ := Lib.hid (just_yes 64 ⟨#[111, 116, 115]⟩ w)
  have HA := Lib.hid hA
  have HX := Lib.hid hx
  clear hA hx
  go_enter Tryd.func30, Tryd.ntmps30
  go_wp2_with fail
  refine HJ.out.mono ?_
  rintro e w2 ⟨rfl, rfl⟩
  clear HJ
  go_wp2
  go_loopw [1, 17] (fun x' i wr => ∃ k : Nat, k ≤ 64 ∧ x' = .int .u64 (askN x f k : Int) ∧ i = .int .i64 k ∧ Hid (Below w.heap.size w wr)) (fun _ i _ => 64 - (intOf i).toNat)
  case atStart => exact ⟨0, by omega, rfl, rfl, Below.refl _ _⟩
  case round =>
    obtain ⟨k, hk, rfl, rfl, HI⟩ := hrel
    by_cases hlt : k < 64
    · obtain ⟨ad, rfl, ae, hae, c0, c1, c2, c3, c4, -⟩ := (HA.out.below HI.out).ot k hlt
      have lt1 : (k : Int) < 64 := by omega
      have lt0 : (0 : Int) ≤ (k : Int) := by omega
      have e1 : IntKind.i64.wrap ((k : Int) + 1) = (k : Int) + 1 := i64_nat _ (by omega) (by omega)
      have XO := Blk.new wr 71 (otC (p k) (q k) (f k))
      obtain ⟨bk, hbk⟩ : ∃ bk, f k = bk := ⟨_, rfl⟩
      rw [hbk] at c4 XO
      have x4 := XO.cell 4 (v := .bool bk) rfl
      have hbO := HI.out.alloc HI.out.size (.cells (otC (p k) (q k) bk) 71)
      have HB := Lib.hid hbO
      have HLt := Lib.hid hlt
      have hp : 2 ^ k < 2 ^ 64 := shl_bit k hlt
      have ep : ((2 ^ k : Nat) : Int) = (2 : Int) ^ k := by push_cast; rfl
      have hmin : min k 64 = k := by omega
      have hl := askN_lt x f HX.out k (by omega)
      obtain ⟨pw, hpp⟩ : ∃ pw, 2 ^ k = pw := ⟨_, rfl⟩
      have HD := Lib.hid (show askN x f (k + 1) = if bk then askN x f k ^^^ pw else askN x f k by rw [← hpp, ← hbk]; rfl)
      rw [hpp] at hp ep
      clear XO hbO hlt hpp hbk
      cases bk with
      | false =>
        have HE := Lib.hid (show askN x f (k + 1) = askN x f k by rw [HD.out]; rfl)
        clear hp ep hmin hl
        go_wp2
        go_roundw
        case rel => exact ⟨k + 1, by have := HLt.out; omega, by rw [HE.out], by go_num, HB.out⟩
        case measure => simp [intOf]; have := HLt.out; omega
      | true =>
        have e2 : IntKind.u64.wrap (1 * (2 : Int) ^ k) = (pw : Int) := by rw [Int.one_mul, ← ep, u64w]; omega
        have e5 : IntKind.u64.wrap ((2 : Int) ^ k) = (pw : Int) := by rw [← ep, u64w]; omega
        have e6 : IntKind.u64.wrap ((2 : Int) ^ (min k 64)) = (pw : Int) := by rw [hmin]; exact e5
        have e4 : bits .xor .u64 (askN x f k : Int) (pw : Int) = ((askN x f k ^^^ pw : Nat) : Int) := Ae.bits_xor _ _ hl hp
        have HE := Lib.hid (show askN x f (k + 1) = askN x f k ^^^ pw by rw [HD.out]; rfl)
        clear hp ep hmin hl
        go_wp2
        go_roundw
        case rel => exact ⟨k + 1, by have := HLt.out; omega, by rw [HE.out], by go_num, HB.out⟩
        case measure => simp [intOf]; have := HLt.out; omega
    · obtain rfl : k = 64 := by omega
      have lt1 : ¬ ((64 : Nat) : Int) < 64 := by omega
      have HB := Lib.hid HI.out
      clear hlt hk HI
      go_wp2
      go_ret2
      exact ⟨rfl, HB.out⟩
end Go.Proofs.YtamejhhjfnfalaaDoor
