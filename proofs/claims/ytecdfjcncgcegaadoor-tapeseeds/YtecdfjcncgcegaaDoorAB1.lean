/- Contracts of aes' small functions on bytes: twice, addColumns. -/
import Derived.Test.YtecdfjcncgcegaaDoorAB0
import Derived.Test.YtecdfjcncgcegaaDoorAesMath2
namespace Go.Proofs.YtecdfjcncgcegaaDoor
open Go.RowKit

theorem xt_bits (b : Nat) (hb : b < 256) : bits .xor .u8 ((b : Int) * 2 % 256) ((b : Int) / 128 * 27) = (Aes.xt b : Int) := by
  have h : ∀ b : Fin 256, bits .xor .u8 ((b.val : Int) * 2 % 256) ((b.val : Int) / 128 * 27) = (Aes.xt b.val : Int) := by decide +kernel
  exact h ⟨b, hb⟩
set_option maxHeartbeats 400000 in
theorem twice_any (b : Nat) (w : World) (hb : b < 256) :
    Calls Tryd.prog 38 #[.int .u8 (b : Int)] w fun e w' => e = .returned (.int .u8 (Aes.xt b : Int)) ∧ w = w' := by
  go_enter Tryd.func38, Tryd.ntmps38
  go_wp2
  go_ret
  exact ⟨ret_int (xt_bits b hb), rfl⟩
/-- Three blocks of the call's own behind w. -/
def In3 (w : World) (N t : Nat) (f0 f1 f2 : Nat → Nat) (wr : World) : Prop :=
  Below w.heap.size w wr ∧ OwnB wr w.heap.size N t f0 ∧ OwnB wr (w.heap.size + 1) N t f1 ∧ OwnB wr (w.heap.size + 2) N t f2
theorem In3.start (w : World) (N t : Nat) (f0 f1 f2 : Nat → Nat) : In3 w N t f0 f1 f2 (((w.alloc (.cells (bys N f0) t)).alloc (.cells (bys N f1) t)).alloc (.cells (bys N f2) t)) := by
  refine ⟨(((Below.refl _ _).alloc (Nat.le_refl _) _).alloc (by simp) _).alloc (by simp; omega) _, ((OwnB.new w N t f0).alloc _).alloc _, ?_, ?_⟩
  · have := OwnB.new (w.alloc (.cells (bys N f0) t)) N t f1
    simp only [World.size_alloc] at this
    exact this.alloc _
  · have := OwnB.new ((w.alloc (.cells (bys N f0) t)).alloc (.cells (bys N f1) t)) N t f2
    simp only [World.size_alloc] at this
    exact this
theorem In3.drew {w wr : World} {N t : Nat} {f0 f1 f2 : Nat → Nat} (h : In3 w N t f0 f1 f2 wr) : In3 w N t f0 f1 f2 wr.drew := ⟨h.1.drew, h.2.1, h.2.2.1, h.2.2.2⟩
theorem xor_dflt (i : Nat) (f g : Nat → Nat) (q : Nat) : (if q = i then f i ^^^ g i else if q < i then f q ^^^ g q else f q) = if q < i + 1 then f q ^^^ g q else f q := by
  by_cases h : q = i
  · subst h; rw [if_pos rfl, if_pos (by omega)]
  · rw [if_neg h]
    by_cases h' : q < i
    · rw [if_pos h', if_pos (by omega)]
    · rw [if_neg h', if_neg (by omega)]
set_option maxHeartbeats 1000000 in
set_option maxRecDepth 100000 in
theorem addColumns_any (f g : Nat → Nat) (w : World) (hf : ∀ i, f i < 256) (hg : ∀ i, g i < 256) :
    Calls Tryd.prog 29 #[.agg (bys 4 f), .agg (bys 4 g)] w fun e w' => e = .returned (.agg (bys 4 fun i => f i ^^^ g i)) ∧ Below w.heap.size w w' := by
  have HF := Lib.hid (And.intro hf hg)
  clear hf hg
  go_enter Tryd.func29, Tryd.ntmps29
  go_wp2
  go_loopw [6] (fun t wr => ∃ i : Nat, i ≤ 4 ∧ t = .int .i64 i ∧ In3 w 4 67 (fun q => if q < i then f q ^^^ g q else f q) g (fun _ => 0) wr) (fun t _ => 4 - (intOf t).toNat)
  case atStart => exact ⟨0, by omega, rfl, In3.start w 4 67 f g (fun _ => 0)⟩
  case round =>
    obtain ⟨i, hi, rfl, H⟩ := hrel
    by_cases hlt : i < 4
    · have c1 : wr.cell? ⟨w.heap.size, i, none⟩ = some (.int .u8 (f i : Int)) := by rw [H.2.1.cell i hlt, if_neg (by omega)]
      have c2 := H.2.2.1.cell i hlt
      have c3 := H.2.1.frozen i
      have HH := Lib.hid H
      have hb := Lib.hid (bits8_xor (f i) (g i) (HF.out.1 i) (HF.out.2 i))
      clear H
      go_wp2
      go_region
      go_wp2
      go_roundw
      case rel =>
        obtain ⟨h0, h1, h2, h3⟩ := HH.out
        refine ⟨i + 1, by omega, by go_num, (h0.setCell (Nat.le_refl _) _).drew, ?_, h2.far (by simp) _, h3.far (by simp) _⟩
        rw [hb.out]
        exact (h1.set i _).congr fun q _ => xor_dflt i f g q
      case measure => simp [intOf]; omega
    · obtain rfl : i = 4 := by omega
      obtain ⟨h0, h1, h2, h3⟩ := H
      have HH := Lib.hid h0
      clear h0
      go_wp2_with (first | (refine ld_row 67 4 _ Tryd.underlying67 Tryd.info67 rfl _ rfl _ rfl h1 ?_) | (refine st_row 67 4 Tryd.info67 rfl _ _ rfl _ rfl rfl h3 ?_))
      exact bodyPost_ret (v := .agg (bys 4 fun i => f i ^^^ g i)) (res_row 67 4 _ Tryd.underlying67 Tryd.info67 rfl _ _ _ rfl (h3.setRow _) fun q hq => by simp [hq]) rfl ⟨rfl, Below.row HH.out (by omega) _⟩

/-- A byte turned to the left by n places. -/
def rotN (y n : Nat) : Nat := y * 2 ^ n % 256 + y / 2 ^ (8 - n)
theorem rot_bits (y : Nat) (hy : y < 256) : bits .or .u8 ((y : Int) * 2 % 256) ((y : Int) / 128) = (rotN y 1 : Int) ∧ bits .or .u8 ((y : Int) * 4 % 256) ((y : Int) / 64) = (rotN y 2 : Int) ∧ bits .or .u8 ((y : Int) * 8 % 256) ((y : Int) / 32) = (rotN y 3 : Int) ∧ bits .or .u8 ((y : Int) * 16 % 256) ((y : Int) / 16) = (rotN y 4 : Int) := by
  have h : ∀ y : Fin 256, bits .or .u8 ((y.val : Int) * 2 % 256) ((y.val : Int) / 128) = (rotN y.val 1 : Int) ∧ bits .or .u8 ((y.val : Int) * 4 % 256) ((y.val : Int) / 64) = (rotN y.val 2 : Int) ∧ bits .or .u8 ((y.val : Int) * 8 % 256) ((y.val : Int) / 32) = (rotN y.val 3 : Int) ∧ bits .or .u8 ((y.val : Int) * 16 % 256) ((y.val : Int) / 16) = (rotN y.val 4 : Int) := by decide +kernel
  exact h ⟨y, hy⟩
set_option maxHeartbeats 400000 in
theorem rot_any (y n : Nat) (w : World) (hy : y < 256) (hn : 1 ≤ n ∧ n ≤ 4) :
    Calls Tryd.prog 45 #[.int .u8 (y : Int), .int .i64 (n : Int)] w fun e w' => e = .returned (.int .u8 (rotN y n : Int)) ∧ w = w' := by
  have HR := Lib.hid (rot_bits y hy)
  rcases (show n = 1 ∨ n = 2 ∨ n = 3 ∨ n = 4 by omega) with rfl | rfl | rfl | rfl
  · have b1 : bits .and .u64 1 7 = 1 := by decide +kernel
    show Calls Tryd.prog 45 #[.int .u8 (y : Int), .int .i64 1] w fun e w' => e = .returned (.int .u8 (rotN y 1 : Int)) ∧ w = w'
    clear hn
    go_enter Tryd.func45, Tryd.ntmps45
    go_wp2
    go_ret
    exact ⟨ret_int HR.out.1, rfl⟩
  · have b1 : bits .and .u64 2 7 = 2 := by decide +kernel
    show Calls Tryd.prog 45 #[.int .u8 (y : Int), .int .i64 2] w fun e w' => e = .returned (.int .u8 (rotN y 2 : Int)) ∧ w = w'
    clear hn
    go_enter Tryd.func45, Tryd.ntmps45
    go_wp2
    go_ret
    exact ⟨ret_int HR.out.2.1, rfl⟩
  · have b1 : bits .and .u64 3 7 = 3 := by decide +kernel
    show Calls Tryd.prog 45 #[.int .u8 (y : Int), .int .i64 3] w fun e w' => e = .returned (.int .u8 (rotN y 3 : Int)) ∧ w = w'
    clear hn
    go_enter Tryd.func45, Tryd.ntmps45
    go_wp2
    go_ret
    exact ⟨ret_int HR.out.2.2.1, rfl⟩
  · have b1 : bits .and .u64 4 7 = 4 := by decide +kernel
    show Calls Tryd.prog 45 #[.int .u8 (y : Int), .int .i64 4] w fun e w' => e = .returned (.int .u8 (rotN y 4 : Int)) ∧ w = w'
    clear hn
    go_enter Tryd.func45, Tryd.ntmps45
    go_wp2
    go_ret
    exact ⟨ret_int HR.out.2.2.2, rfl⟩
/-- What sOfInverse has behind n rounds. -/
def sofN (y : Nat) : Nat → Nat
  | 0 => y ^^^ 99
  | n + 1 => sofN y n ^^^ rotN y (n + 1)
theorem rotN_lt {y n : Nat} (hy : y < 256) (hn : n ≤ 4) : rotN y n < 256 := by
  have h : ∀ y : Fin 256, ∀ n : Fin 5, rotN y.val n.val < 256 := by decide +kernel
  exact h ⟨y, hy⟩ ⟨n, by omega⟩
theorem sofN_lt {y : Nat} (hy : y < 256) : ∀ n, n ≤ 4 → sofN y n < 256
  | 0, _ => Aes.byte_xor hy (by omega)
  | n + 1, h => Aes.byte_xor (sofN_lt hy n (by omega)) (rotN_lt hy (by omega))
theorem sofN_sI {y : Nat} (hy : y < 256) : sofN y 4 = Aes.sI y := by
  have h : ∀ y : Fin 256, sofN y.val 4 = Aes.sI y.val := by decide +kernel
  exact h ⟨y, hy⟩
set_option maxHeartbeats 400000 in
theorem power_any (n : Nat) (w : World) (hn : n < 1000) :
    Calls Tryd.prog 40 #[.int .i64 (n : Int)] w fun e w' => e = .returned (.int .u8 (Aes.pw n : Int)) ∧ w = w' := by
  go_enter Tryd.func40, Tryd.ntmps40
  go_wp2
  go_loop [3, 5] (fun b i => ∃ k : Nat, k ≤ n ∧ i = .int .i64 k ∧ b = .int .u8 (Aes.pw k : Int)) (fun _ i => n - (intOf i).toNat)
  case atStart => exact ⟨0, by omega, rfl, rfl⟩
  case round =>
    obtain ⟨k, hk, rfl, rfl⟩ := hrel
    have hp := Aes.pw_lt k
    by_cases hlt : k < n
    · go_wp2_with (go_at_call 38; refine (twice_any _ _ hp).mono ?_; rintro e w' ⟨rfl, rfl⟩)
      go_round
      case rel => exact ⟨k + 1, by omega, by go_num, rfl⟩
      case measure => simp [intOf]; omega
    · obtain rfl : k = n := by omega
      go_wp2
      go_ret
      exact ⟨rfl, rfl⟩
set_option maxHeartbeats 400000 in
theorem sOfInverse_any (y : Nat) (w : World) (hy : y < 256) :
    Calls Tryd.prog 39 #[.int .u8 (y : Int)] w fun e w' => e = .returned (.int .u8 (Aes.sI y : Int)) ∧ w = w' := by
  have H0 := Lib.hid (bits8_xor y 99 hy (by omega))
  have HE := Lib.hid (sofN_sI hy)
  go_enter Tryd.func39, Tryd.ntmps39
  go_wp2
  go_loop [3, 4] (fun s i => ∃ k : Nat, k ≤ 4 ∧ i = .int .i64 ((k + 1 : Nat) : Int) ∧ s = .int .u8 (sofN y k : Int)) (fun _ i => 5 - (intOf i).toNat)
  case atStart => exact ⟨0, by omega, rfl, by rw [show sofN y 0 = y ^^^ 99 from rfl, ← H0.out]; rfl⟩
  case round =>
    obtain ⟨k, hk, rfl, rfl⟩ := hrel
    by_cases hlt : k < 4
    · have hb := Lib.hid (bits8_xor (sofN y k) (rotN y (k + 1)) (sofN_lt hy k hk) (rotN_lt hy (by omega)))
      go_wp2_with (go_at_call 45; refine (rot_any _ (k + 1) _ hy (by omega)).mono ?_; rintro e w' ⟨rfl, rfl⟩)
      go_round
      case rel => exact ⟨k + 1, by omega, by go_num, by rw [hb.out]; rfl⟩
      case measure => simp [intOf]; omega
    · obtain rfl : k = 4 := by omega
      go_wp2
      go_ret
      exact ⟨ret_int (by rw [HE.out]), rfl⟩
end Go.Proofs.YtecdfjcncgcegaaDoor
