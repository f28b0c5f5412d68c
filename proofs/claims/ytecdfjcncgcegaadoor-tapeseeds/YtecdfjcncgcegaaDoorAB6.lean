/- Contracts of aes' mixed and Encrypt. -/
import Derived.Test.YtecdfjcncgcegaaDoorAB5
namespace Go.Proofs.YtecdfjcncgcegaaDoor
open Go.RowKit

theorem mixer (p q r s : Nat) (hp : p < 256) (hq : q < 256) (hr : r < 256) (hs : s < 256) : ∃ x y z : Nat, x < 256 ∧ bits .xor .u8 (p : Int) (q : Int) = (x : Int) ∧ bits .xor .u8 (Aes.xt x : Int) (q : Int) = (y : Int) ∧ bits .xor .u8 (y : Int) (r : Int) = (z : Int) ∧ bits .xor .u8 (z : Int) (s : Int) = (Aes.mixB p q r s : Int) := by
  have hx := Aes.byte_xor hp hq
  have hy := Aes.byte_xor (Aes.xt_lt hx) hq
  have hz := Aes.byte_xor hy hr
  exact ⟨p ^^^ q, _, _, hx, bits8_xor _ _ hp hq, bits8_xor _ _ (Aes.xt_lt hx) hq, bits8_xor _ _ hy hr, by rw [bits8_xor _ _ hz hs, Aes.mix_prog hp hq]⟩
theorem mix_step (c : Nat) (f : Nat → Nat) (hc : c % 4 = 0) (q : Nat) :
    (if q = c + 3 then Aes.mixB (f (c + 3)) (f c) (f (c + 1)) (f (c + 2)) else if q = c + 2 then Aes.mixB (f (c + 2)) (f (c + 3)) (f c) (f (c + 1)) else if q = c + 1 then Aes.mixB (f (c + 1)) (f (c + 2)) (f (c + 3)) (f c) else if q = c then Aes.mixB (f c) (f (c + 1)) (f (c + 2)) (f (c + 3)) else upTo c (Aes.mixF f) f q) = upTo (c + 4) (Aes.mixF f) f q := by
  have e : ∀ j d : Nat, j < 4 → Aes.col (c + j) d = c + (j + d) % 4 := fun j d hj => by unfold Aes.col; omega
  by_cases h3 : q = c + 3
  · subst h3; rw [if_pos rfl]; unfold upTo Aes.mixF; rw [if_pos (by omega), e 3 0 (by omega), e 3 1 (by omega), e 3 2 (by omega), e 3 3 (by omega)]; rfl
  rw [if_neg h3]
  by_cases h2 : q = c + 2
  · subst h2; rw [if_pos rfl]; unfold upTo Aes.mixF; rw [if_pos (by omega), e 2 0 (by omega), e 2 1 (by omega), e 2 2 (by omega), e 2 3 (by omega)]; rfl
  rw [if_neg h2]
  by_cases h1 : q = c + 1
  · subst h1; rw [if_pos rfl]; unfold upTo Aes.mixF; rw [if_pos (by omega), e 1 0 (by omega), e 1 1 (by omega), e 1 2 (by omega), e 1 3 (by omega)]; rfl
  rw [if_neg h1]
  by_cases h0 : q = c
  · subst h0; rw [if_pos rfl]; unfold upTo Aes.mixF
    have e0 := fun d => e 0 d (by omega)
    simp only [Nat.add_zero, Nat.zero_add] at e0
    rw [if_pos (by omega), e0 0, e0 1, e0 2, e0 3]; rfl
  rw [if_neg h0]
  unfold upTo
  by_cases h : q < c
  · rw [if_pos h, if_pos (by omega)]
  · rw [if_neg h, if_neg (by omega)]
set_option maxHeartbeats 2000000 in
set_option maxRecDepth 100000 in
theorem mixed_any (f : Nat → Nat) (w : World) (hf : ∀ i, f i < 256) :
    Calls Tryd.prog 48 #[.agg (bys 16 f)] w fun e w' => e = .returned (.agg (bys 16 (Aes.mixF f))) ∧ Below w.heap.size w w' := by
  have HF := Lib.hid hf
  clear hf
  go_enter Tryd.func48, Tryd.ntmps48
  go_wp2
  go_loopw [3] (fun t wr => ∃ c : Nat, (c ≤ 16 ∧ c % 4 = 0) ∧ t = .int .i64 c ∧ In2 w 16 30 (upTo c (Aes.mixF f) f) (fun _ => 0) wr) (fun t _ => 16 - (intOf t).toNat)
  case atStart => exact ⟨0, by omega, rfl, In2.start w 16 30 f (fun _ => 0)⟩
  case round =>
    obtain ⟨c, hc, rfl, H⟩ := hrel
    by_cases hlt : c < 16
    · have u : ∀ j, j < 4 → wr.cell? ⟨w.heap.size, c + j, none⟩ = some (.int .u8 (f (c + j) : Int)) := fun j hj => by
        rw [H.2.1.cell (c + j) (by omega)]; unfold upTo; rw [if_neg (by omega)]
      have c0 : wr.cell? ⟨w.heap.size, c, none⟩ = some (.int .u8 (f c : Int)) := u 0 (by omega)
      have c1 := u 1 (by omega)
      have c2 := u 2 (by omega)
      have c3 := u 3 (by omega)
      have z0 := H.2.1.frozen c
      have z1 := H.2.1.frozen (c + 1)
      have z2 := H.2.1.frozen (c + 2)
      have z3 := H.2.1.frozen (c + 3)
      obtain ⟨x0, y0, v0, b0, r0, r1, r2, r3⟩ := mixer (f c) (f (c + 1)) (f (c + 2)) (f (c + 3)) (HF.out _) (HF.out _) (HF.out _) (HF.out _)
      obtain ⟨x1, y1, v1, b1, s0, s1, s2, s3⟩ := mixer (f (c + 1)) (f (c + 2)) (f (c + 3)) (f c) (HF.out _) (HF.out _) (HF.out _) (HF.out _)
      obtain ⟨x2, y2, v2, b2, t0, t1, t2, t3⟩ := mixer (f (c + 2)) (f (c + 3)) (f c) (f (c + 1)) (HF.out _) (HF.out _) (HF.out _) (HF.out _)
      obtain ⟨x3, y3, v3, b3, q0, q1, q2, q3⟩ := mixer (f (c + 3)) (f c) (f (c + 1)) (f (c + 2)) (HF.out _) (HF.out _) (HF.out _) (HF.out _)
      have e0 : (c : Int) < 16 := by omega
      have e1 : (c : Int) + 1 < 16 := by omega
      have e2 : (c : Int) + 2 < 16 := by omega
      have e3 : (c : Int) + 3 < 16 := by omega
      have e4 : (0 : Int) ≤ (c : Int) + 1 := by omega
      have e5 : (0 : Int) ≤ (c : Int) + 2 := by omega
      have e6 : (0 : Int) ≤ (c : Int) + 3 := by omega
      have n1 : ((c : Int) + 1).toNat = c + 1 := by omega
      have n2 : ((c : Int) + 2).toNat = c + 2 := by omega
      have n3 : ((c : Int) + 3).toNat = c + 3 := by omega
      have w1 : IntKind.i64.wrap ((c : Int) + 1) = (c : Int) + 1 := i64_nat _ (by omega) (by omega)
      have w2 : IntKind.i64.wrap ((c : Int) + 2) = (c : Int) + 2 := i64_nat _ (by omega) (by omega)
      have w3 : IntKind.i64.wrap ((c : Int) + 3) = (c : Int) + 3 := i64_nat _ (by omega) (by omega)
      have w4 : IntKind.i64.wrap ((c : Int) + 4) = (c : Int) + 4 := i64_nat _ (by omega) (by omega)
      have HH := Lib.hid H
      have HC := Lib.hid hc
      clear H u hc
      go_wp2
      go_quiet (fail)
      go_wp2_with (go_at_call 38; refine (twice_any _ _ (by assumption)).mono ?_; rintro e w' ⟨rfl, rfl⟩)
      go_roundw
      case rel =>
        obtain ⟨h0, h1, h2⟩ := HH.out
        have hn : ∀ k, In2 w 16 30 (upTo c (Aes.mixF f) f) (fun _ => 0) (wr.drewN k) := fun k => ⟨⟨h0.os, h0.tape, h0.output, h0.size, h0.block⟩, h1, h2⟩
        obtain ⟨h0, h1, h2⟩ := hn nq
        exact ⟨c + 4, ⟨by have := HC.out; omega, by have := HC.out; omega⟩, by go_num, (((h0.setCell (Nat.le_refl _) _).setCell (Nat.le_refl _) _).setCell (Nat.le_refl _) _).setCell (Nat.le_refl _) _,
          ((((h1.set c _).set (c + 1) _).set (c + 2) _).set (c + 3) _).congr fun q _ => mix_step c f HC.out.2 q, (((h2.far (by simp) _).far (by simp) _).far (by simp) _).far (by simp) _⟩
      case measure => simp [intOf]; omega
    · obtain rfl : c = 16 := by omega
      obtain ⟨h0, h1, h2⟩ := H
      have HH := Lib.hid h0
      clear h0
      go_wp2_with (first | (refine ld_row 30 16 _ Tryd.underlying30 Tryd.info30 rfl _ rfl _ rfl h1 ?_) | (refine st_row 30 16 Tryd.info30 rfl _ _ rfl _ rfl rfl h2 ?_))
      exact bodyPost_ret (v := .agg (bys 16 (Aes.mixF f))) (res_row 30 16 _ Tryd.underlying30 Tryd.info30 rfl _ _ _ rfl (h2.setRow _) fun q hq => upTo_full 16 _ f q hq) rfl ⟨rfl, Below.row HH.out (by omega) _⟩
end Go.Proofs.YtecdfjcncgcegaaDoor
