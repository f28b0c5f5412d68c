/- Contracts of circ's Bits, Word, and of the document's Bit. -/
import Derived.Test.YtoldgiejblekaaaDoorRCC3
namespace Go.Proofs.YtoldgiejblekaaaDoorR
open Go.RowKit

theorem and_one (x : Int) : bits .and .u64 x 1 = x % 2 := by
  have h : (BitVec.ofInt 64 x &&& BitVec.ofInt 64 1).toNat = (BitVec.ofInt 64 x).toNat % 2 := by
    rw [BitVec.toNat_and]
    show _ &&& (1 : Nat) = _
    exact Nat.and_one_is_mod _
  show IntKind.u64.wrap ((BitVec.ofInt 64 x &&& BitVec.ofInt 64 1).toNat : Int) = _
  rw [h, u64w, BitVec.toNat_ofInt]
  omega
theorem pow_nonneg2 (i : Nat) : (0 : Int) ≤ 2 ^ i := by
  have : ((2 ^ i : Nat) : Int) = (2 : Int) ^ i := by push_cast; rfl
  rw [← this]; exact Int.natCast_nonneg _
theorem div_nonneg2 (x : Int) (i : Nat) (hx : 0 ≤ x) : 0 ≤ x / 2 ^ i := Int.ediv_nonneg hx (pow_nonneg2 i)
theorem div_lt2 (x : Int) (i : Nat) (hx : 0 ≤ x) (h : x < 18446744073709551616) : x / 2 ^ i < 18446744073709551616 := by
  have : x / 2 ^ i ≤ x := Int.ediv_le_self _ hx
  omega
theorem tmod_nn (a b : Int) (ha : 0 ≤ a) : Int.tmod a b = a % b := Int.tmod_eq_emod_of_nonneg ha
set_option maxHeartbeats 400000 in
theorem rbit_any (x : Int) (i : Nat) (w : World) (hx : 0 ≤ x) (h1 : x < 18446744073709551616) (hi : i < 64) :
    Calls Tryd.prog 17 #[.int .u64 x, .int .i64 i] w fun e w' => e = .returned (.int .u64 (if bitI x i then 1 else 0)) ∧ w = w' := by
  have h := shr_i64 x i hx
  have e1 : Int.tmod (x / 2 ^ i) 2 = if bitI x i then 1 else 0 := by rw [tmod_nn _ _ (div_nonneg2 x i hx), h]
  have e2 : IntKind.u64.wrap (if bitI x i then 1 else 0) = if bitI x i then 1 else 0 := by cases bitI x i <;> rfl
  have e3 : IntKind.u64.wrap (x / 2 ^ i) = x / 2 ^ i := by rw [u64w]; have := div_nonneg2 x i hx; have := div_lt2 x i hx h1; omega
  have lt0 : ¬ (i : Int) < 0 := by omega
  have lt1 : ¬ 64 ≤ i := by omega
  obtain ⟨v, hv⟩ : ∃ v : Int, (if bitI x i = true then 1 else 0) = v := ⟨_, rfl⟩
  rw [hv] at e1 e2 ⊢
  clear h hv
  go_enter Tryd.func17, Tryd.ntmps17
  go_wp2
  go_ret
  exact ⟨rfl, rfl⟩
set_option maxHeartbeats 2000000 in
set_option maxRecDepth 100000 in
theorem word_any (w : World) (A : Option Addr) (n c : Nat) (f : Nat → Bool) (hA : AtV w A n (bv f)) :
    Calls Tryd.prog 16 #[.slice A n c] w fun e w' => e = .returned (.int .u64 (wordN f (min n 64) : Int)) ∧ w = w' := by
  obtain ⟨M, hM⟩ : ∃ M, min n 64 = M := ⟨_, rfl⟩
  have m1 : (if (64 : Int) < (n : Int) then (64 : Int) else (n : Int)) = (M : Int) := by split <;> omega
  have m2 : (if 64 < n then (64 : Int) else (n : Int)) = (M : Int) := by split <;> omega
  have HM := Lib.hid (show M ≤ n ∧ M ≤ 64 by omega)
  rw [hM]
  have HA := Lib.hid hA
  clear hM hA
  go_enter Tryd.func16, Tryd.ntmps16
  go_wp2
  clear m1 m2
  go_loopw [3, 8] (fun x i wr => ∃ k : Nat, k ≤ M ∧ x = .int .u64 (wordN f k : Int) ∧ i = .int .i64 k ∧ Hid (w = wr)) (fun _ i _ => M - (intOf i).toNat)
  case atStart => exact ⟨0, Nat.zero_le _, rfl, rfl, rfl⟩
  case round =>
    obtain ⟨k, hk, rfl, rfl, HI⟩ := hrel
    obtain rfl := HI.out
    by_cases hlt : k < M
    · obtain ⟨ad, rfl, ca⟩ := HA.out k (by have := HM.out; omega)
      unfold bv at ca
      have lt1 : (k : Int) < (M : Int) := by omega
      have lt2 : (k : Int) < (n : Int) := by have := HM.out; omega
      have lt0 : (0 : Int) ≤ (k : Int) := by omega
      have e1 : IntKind.i64.wrap ((k : Int) + 1) = (k : Int) + 1 := i64_nat _ (by omega) (by have := HM.out; omega)
      have hp : 2 ^ k < 2 ^ 64 := Nat.pow_lt_pow_right (by omega) (by have := HM.out; omega)
      have e2 : IntKind.u64.wrap ((2 : Int) ^ k) = ((2 ^ k : Nat) : Int) := by
        have : ((2 ^ k : Nat) : Int) = (2 : Int) ^ k := by push_cast; rfl
        rw [← this, u64w]
        generalize 2 ^ k = p at *
        omega
      have e5 : IntKind.u64.wrap ((2 : Int) ^ (min k 64)) = ((2 ^ k : Nat) : Int) := by rw [show min k 64 = k by have := HM.out; omega]; exact e2
      have e3 : IntKind.u64.wrap (1 * (2 : Int) ^ k) = ((2 ^ k : Nat) : Int) := by rw [Int.one_mul]; exact e2
      have e4 := or_next (wordN f k) k (wordN_lt f k) (by have := HM.out; omega)
      obtain ⟨p, hpp⟩ : ∃ p, 2 ^ k = p := ⟨_, rfl⟩
      have HD := Lib.hid (show wordN f (k + 1) = if f k then wordN f k + p else wordN f k by rw [← hpp]; rfl)
      rw [hpp] at e2 e3 e4 e5
      have HLt := Lib.hid hlt
      clear hlt hp hpp
      cases hf : f k with
      | false =>
        rw [hf] at ca
        have HE := Lib.hid (show wordN f (k + 1) = wordN f k by rw [HD.out, hf]; rfl)
        clear hf
        go_wp2
        go_roundw
        case rel => exact ⟨k + 1, by have := HLt.out; omega, by rw [HE.out], by go_num, Lib.hid trivial⟩
        case measure => simp [intOf]; have := HLt.out; omega
      | true =>
        rw [hf] at ca
        have HE := Lib.hid (show wordN f (k + 1) = wordN f k + p by rw [HD.out, hf]; rfl)
        clear hf
        go_wp2
        go_roundw
        case rel => exact ⟨k + 1, by have := HLt.out; omega, by rw [HE.out, Int.natCast_add], by go_num, Lib.hid trivial⟩
        case measure => simp [intOf]; have := HLt.out; omega
    · obtain rfl : k = M := by omega
      have lt1 : ¬ (k : Int) < (k : Int) := by omega
      clear hlt hk
      go_wp2
      go_ret
      exact ⟨rfl, rfl⟩
/-- So many flags in a block, all of them known. -/
theorem run_makeB (w : World) (l c : Nat) (hlc : l ≤ c) (hc : c ≤ 281474976710656) : (Instr.makeSlice 26 (.int .i64 (l : Int)) (.int .i64 (c : Int))).run Tryd.prog w = .ok (.slice (some ⟨w.heap.size, 0, none⟩) l c) (w.alloc (.cells (madeCells #[Value.bool false] c) 4)) := by
  have := run_make_row eltB w l c hlc (by omega) (by omega)
  rw [Nat.mul_one] at this
  exact this
theorem made_row (w : World) (N c : Nat) (hN : N ≤ c) (hc : c ≤ maxLen) : Row (w.alloc (.cells (madeCells #[Value.bool false] c) 4)) w.heap.size 4 1 (.slice (some ⟨w.heap.size, 0, none⟩) N c) N (bv fun _ => false) := by
  refine ⟨by rw [flat_length], .inr ⟨w.heap.size, c, _, rfl, Nat.le_refl _, heap_alloc_new w _, hN, hc, by rw [made_size, Nat.mul_one], ?_⟩⟩
  apply List.ext_getElem?
  intro i
  rw [List.getElem?_take]
  by_cases hi : i < N
  · rw [if_pos (by omega), flat_get _ _ _ (by omega), Array.getElem?_toList]
    exact made_get (.bool false) rfl c i (by omega)
  · rw [if_neg (by omega), flat_none _ _ _ (by omega)]
/-- A cell of a list of the call's own is written. -/
theorem Row.set {w : World} {base e : Nat} {g n c : Nat} {F : Nat → Value} (h : Row w base e 1 (.slice (some ⟨g, 0, none⟩) n c) n F) (i : Nat) (hi : i < n) (v : Value) : Row (w.setCell ⟨g, i, none⟩ v) base e 1 (.slice (some ⟨g, 0, none⟩) n c) n (fun q => if q = i then v else F q) := by
  refine ⟨by rw [flat_length], ?_⟩
  rcases h.2 with ⟨e1, _⟩ | ⟨g', cap, cur, e1, hb, hg, hnc, hm, hsz, ht⟩
  · cases e1
  · injection e1 with e1 _ e3
    injection e1 with e1
    injection e1 with e1
    subst e1 e3
    refine .inr ⟨g, c, cur.setIfInBounds i v, rfl, hb, Blk.set hg i v, hnc, hm, by simpa using hsz, ?_⟩
    apply List.ext_getElem?
    intro j
    rw [List.getElem?_take]
    by_cases hj : j < n
    · rw [if_pos (by omega), flat_get _ _ _ (by omega), Array.getElem?_toList, Array.getElem?_setIfInBounds]
      have h2 : (cur.toList.take (n * 1))[j]? = some (F j) := by rw [ht, flat_get _ _ _ (by omega)]
      rw [List.getElem?_take, if_pos (by omega), Array.getElem?_toList] at h2
      by_cases e2 : i = j
      · subst e2
        rw [if_pos rfl, if_pos (by omega), if_pos rfl]
      · rw [if_neg e2, if_neg (fun e => e2 e.symm)]
        exact h2
    · rw [if_neg (by omega), flat_none _ _ _ (by omega)]
theorem Row.frozen {w : World} {base e s g n c : Nat} {F : Nat → Value} (h : Row w base e s (.slice (some ⟨g, 0, none⟩) n c) n F) (i : Nat) : w.frozen? ⟨g, i, none⟩ = false := by
  obtain ⟨A, c', e1, _, _, _, _, _, h4⟩ := h.read
  injection e1 with e1
  obtain ⟨cur, hB, _⟩ := h4 _ e1.symm
  exact hB.frozen i
theorem Row.cellAt {w : World} {base e s g n c : Nat} {F : Nat → Value} (h : Row w base e s (.slice (some ⟨g, 0, none⟩) n c) n F) (i : Nat) (hi : i < n * s) : w.cell? ⟨g, i, none⟩ = some (F i) := by
  obtain ⟨A, c', e1, _, _, _, h2, _, _⟩ := h.read
  injection e1 with e1
  subst e1
  obtain ⟨ad, e2, hc⟩ := h2 i hi
  cases e2
  rwa [Addr.add_mid, Nat.zero_add] at hc
set_option maxHeartbeats 2000000 in
set_option maxRecDepth 100000 in
theorem bits_any (x : Int) (w : World) (h0 : 0 ≤ x) (h1 : x < 18446744073709551616) :
    Calls Tryd.prog 15 #[.int .u64 x] w fun e w' => e = .returned (.slice (some ⟨w.heap.size, 0, none⟩) 64 64) ∧ Row w' w.heap.size 4 1 (.slice (some ⟨w.heap.size, 0, none⟩) 64 64) 64 (bv (bitI x)) ∧ Below w.heap.size w w' := by
  have hmk : (Instr.makeSlice 26 (.int .i64 64) (.int .i64 64)).run Tryd.prog w = _ := run_makeB w 64 64 (by omega) (by omega)
  have hR := made_row w 64 64 (by omega) (by unfold maxLen; omega)
  have hb : Below w.heap.size w (w.alloc (.cells (madeCells #[Value.bool false] 64) 4)) := (Below.refl _ _).alloc (Nat.le_refl _) _
  have H0 := Lib.hid (And.intro hR hb)
  clear hR hb
  go_enter Tryd.func15, Tryd.ntmps15
  go_wp2
  generalize (w.alloc (.cells (madeCells #[Value.bool false] 64) 4)) = w0 at *
  clear hmk
  go_loopw [8] (fun i wr => ∃ k : Nat, k ≤ 64 ∧ i = .int .i64 k ∧ Hid (Row wr w.heap.size 4 1 (.slice (some ⟨w.heap.size, 0, none⟩) 64 64) 64 (bv fun q => if q < k then bitI x q else false) ∧ Below w.heap.size w wr)) (fun i _ => 64 - (intOf i).toNat)
  case atStart => exact ⟨0, Nat.zero_le _, rfl, H0.out.1.congr (fun i _ => by dsimp only [bv]; rw [if_neg (by omega)]), H0.out.2⟩
  case round =>
    obtain ⟨k, hk, rfl, HI⟩ := hrel
    by_cases hlt : k < 64
    · have lt1 : (k : Int) < 64 := by omega
      have lt0 : (0 : Int) ≤ (k : Int) := by omega
      have e1 : IntKind.i64.wrap ((k : Int) + 1) = (k : Int) + 1 := i64_nat _ (by omega) (by omega)
      have e3 : IntKind.u64.wrap (x / 2 ^ k) = x / 2 ^ k := by rw [u64w]; have := div_nonneg2 x k h0; have := div_lt2 x k h0 h1; omega
      have e4 : bits .and .u64 (x / 2 ^ k) 1 = if bitI x k then 1 else 0 := by rw [and_one]; exact shr_i64 x k h0
      obtain ⟨v, hv, e5⟩ : ∃ v : Int, (if bitI x k = true then 1 else 0) = v ∧ (v == 1) = bitI x k := ⟨_, rfl, by cases bitI x k <;> rfl⟩
      rw [hv] at e4
      have zf := HI.out.1.frozen k
      have ca := HI.out.1.cellAt k (by omega)
      have HLt := Lib.hid hlt
      clear hlt hv
      go_wp2
      go_roundw
      case rel => exact ⟨k + 1, by have := HLt.out; omega, by go_num, (HI.out.1.set k HLt.out (.bool (bitI x k))).congr (fun i _ => by
        dsimp only [bv]
        by_cases h : i = k
        · subst h; rw [if_pos rfl, if_pos (by omega)]
        · rw [if_neg h]
          by_cases h2 : i < k
          · rw [if_pos h2, if_pos (by omega)]
          · rw [if_neg h2, if_neg (by omega)]), HI.out.2.setCell (p := ⟨w.heap.size, k, none⟩) (Nat.le_refl _) _⟩
      case measure => simp [intOf]; have := HLt.out; omega
    · obtain rfl : k = 64 := by omega
      clear hlt hk
      go_wp2
      go_ret
      exact ⟨rfl, HI.out.1.congr (fun i hi => by dsimp only [bv]; rw [if_pos (by omega)]), HI.out.2⟩
end Go.Proofs.YtoldgiejblekaaaDoorR
