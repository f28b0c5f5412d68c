/- Contracts of aes' changed. -/
import Derived.Test.YtecdfjcncgcegaaDoorAB2
namespace Go.Proofs.YtecdfjcncgcegaaDoor
open Go.RowKit

/-- The cells of a cipher: S, then the round keys. -/
def CF (k : Nat → Nat) (q : Nat) : Nat := if q < 256 then Aes.sb q else k (q - 256)
theorem CF_lo (k : Nat → Nat) (q : Nat) (h : q < 256) : CF k q = Aes.sb q := if_pos h
theorem CF_hi (k : Nat → Nat) (q : Nat) : CF k (256 + q) = k q := by
  unfold CF; rw [if_neg (by omega), Nat.add_sub_cancel_left]
/-- Block g is a cipher with these round keys. -/
def Ciph (w : World) (g : Nat) (k : Nat → Nat) : Prop := OwnB w g 432 70 (CF k)
theorem Ciph.s {w : World} {g : Nat} {k : Nat → Nat} (h : Ciph w g k) (b : Nat) (hb : b < 256) : w.cell? ⟨g, b, none⟩ = some (.int .u8 (Aes.sb b : Int)) := by
  rw [OwnB.cell h b (by omega), CF_lo k b hb]
theorem Ciph.key {w : World} {g : Nat} {k : Nat → Nat} (h : Ciph w g k) (q : Nat) (hb : q < 176) : w.cell? ⟨g, 256 + q, none⟩ = some (.int .u8 (k q : Int)) := by
  rw [OwnB.cell h _ (by omega), CF_hi]
set_option maxHeartbeats 1000000 in
set_option maxRecDepth 100000 in
theorem changed_no (p : Option Addr) (f : Nat → Nat) (I : Int) (w : World) (h : (I.tmod 4 != 0) = true) :
    Calls Tryd.prog 30 #[.pointer p, .agg (bys 4 f), .int .i64 I] w fun e w' => e = .returned (.agg (bys 4 f)) ∧ Below w.heap.size w w' := by
  have h1 := (OwnB.new w 4 67 f).alloc (.cells (bys 4 fun _ => 0) 67)
  have h2 := OwnB.new (w.alloc (.cells (bys 4 f) 67)) 4 67 fun _ => 0
  have h3 := Lib.hid (((Below.refl w.heap.size w).alloc (Nat.le_refl _) (.cells (bys 4 f) 67)).alloc (by simp) (.cells (bys 4 fun _ => 0) 67))
  simp only [World.size_alloc] at h2
  go_enter Tryd.func30, Tryd.ntmps30
  go_wp2_with (first | (refine ld_row 67 4 _ Tryd.underlying67 Tryd.info67 rfl _ rfl _ rfl h1 ?_) | (refine st_row 67 4 Tryd.info67 rfl _ _ rfl _ rfl rfl h2 ?_))
  exact bodyPost_ret (v := .agg (bys 4 f)) (res_row 67 4 _ Tryd.underlying67 Tryd.info67 rfl _ _ _ rfl (h2.setRow _) fun q hq => rfl) rfl ⟨rfl, Below.row h3.out (by omega) _⟩

def CH (w : World) (f : Nat → Nat) (r : Nat) (wr : World) : Prop := In3 w 4 67 f (fun _ => 0) (fun q => if q < r then Aes.sb (f ((q + 1) % 4)) else 0) wr
theorem ch_dflt (f : Nat → Nat) (r q : Nat) : (if q = r then Aes.sb (f ((r + 1) % 4)) else if q < r then Aes.sb (f ((q + 1) % 4)) else 0) = if q < r + 1 then Aes.sb (f ((q + 1) % 4)) else 0 := by
  by_cases h : q = r
  · subst h; rw [if_pos rfl, if_pos (by omega)]
  · rw [if_neg h]
    by_cases h' : q < r
    · rw [if_pos h', if_pos (by omega)]
    · rw [if_neg h', if_neg (by omega)]
set_option maxHeartbeats 200000 in
set_option maxRecDepth 100000 in
theorem changed_yes (g : Nat) (k f : Nat → Nat) (I J : Int) (j : Nat) (w : World) (hc : Ciph w g k) (hf : ∀ i, f i < 256) (hI : (I.tmod 4 != 0) = false) (hJ : IntKind.i64.wrap (I.tdiv 4) = J) (hj : IntKind.i64.wrap (J - 1) = (j : Int)) (hj10 : j < 1000) :
    Calls Tryd.prog 30 #[.pointer (some ⟨g, 0, none⟩), .agg (bys 4 f), .int .i64 I] w fun e w' => e = .returned (.agg (bys 4 fun r => Aes.sb (f ((r + 1) % 4)) ^^^ if r = 0 then Aes.pw j else 0)) ∧ Below w.heap.size w w' := by
  have HF := Lib.hid hf
  have HG := Lib.hid hc
  have HJ := Lib.hid (And.intro hJ hj)
  clear hf hc hJ hj
  go_enter Tryd.func30, Tryd.ntmps30
  go_wp2
  go_loopw [13] (fun t wr => ∃ i : Nat, i ≤ 4 ∧ t = .int .i64 i ∧ CH w f i wr) (fun t _ => 4 - (intOf t).toNat)
  case atStart => exact ⟨0, by omega, rfl, In3.start w 4 67 f (fun _ => 0) (fun _ => 0)⟩
  case round =>
    obtain ⟨i, hi, rfl, H⟩ := hrel
    have hgl := HG.out.lt
    by_cases hlt : i < 4
    · obtain ⟨m, hm⟩ : ∃ m, m = (i + 1) % 4 := ⟨_, rfl⟩
      have c1 := H.2.1.cell m (by omega)
      have c2 := H.2.2.2.cell i hlt
      have c3 := H.2.2.2.frozen i
      have c4 := Ciph.s (OwnB.below HG.out H.1 hgl) (f m) (HF.out _)
      have c5 : (f m : Int) < 256 := by have := HF.out m; omega
      have e1 : (i : Int) < 4 := by omega
      have e2 : IntKind.i64.wrap ((i : Int) + 1) = (i : Int) + 1 := i64_nat _ (by omega) (by omega)
      have e3 : ((i : Int) + 1).tmod 4 = (m : Int) := by rw [hm]; rfl
      have e4 : (m : Int) < 4 := by omega
      have HH := Lib.hid H
      have HM := Lib.hid hm
      clear H hm
      go_wp2
      go_still_tail 12, (by kernel_rfl)
      change wpList _ _ _ _ _ wr.drew
      have HE := Lib.hid (show CH w f i wr.drew from In3.drew HH.out)
      have c2' : wr.drew.cell? ⟨w.heap.size + 2, i, none⟩ = some (.int .u8 ((if i < i then Aes.sb (f ((i + 1) % 4)) else 0 : Nat) : Int)) := c2
      have c3' : wr.drew.frozen? ⟨w.heap.size + 2, i, none⟩ = false := c3
      clear HH c1 c2 c3 c4
      generalize wr.drew = w2 at HE c2' c3' ⊢
      go_wp2
      go_roundw
      case rel =>
        obtain ⟨h0, h1, h2, h3⟩ := HE.out
        exact ⟨i + 1, by omega, by go_num, h0.setCell (by simp; omega) _, h1.far (by simp; omega) _, h2.far (by simp) _, (h3.set i _).congr fun q _ => by rw [HM.out]; exact ch_dflt f i q⟩
      case measure => simp [intOf]; omega
    · obtain rfl : i = 4 := by omega
      have c1 : wr.cell? ⟨w.heap.size + 2, 0, none⟩ = some (.int .u8 (Aes.sb (f 1) : Int)) := H.2.2.2.cell 0 (by omega)
      have c2 := H.2.2.2.frozen 0
      have hj1 := HJ.out.1
      have hj2 := HJ.out.2
      have HC := Lib.hid fun w => (power_any j w hj10).mono (fun e w' h => (⟨h.1, h.2.symm⟩ : e = .returned (.int .u8 (Aes.pw j : Int)) ∧ w' = w))
      have HX := Lib.hid (bits8_xor (Aes.sb (f 1)) (Aes.pw j) (Aes.sb_lt _) (Aes.pw_lt _))
      have HH := Lib.hid H
      clear H HJ
      go_wp2
      go_still_tail 8, (by kernel_rfl)
      still_call (HC.out _)
      still_step
      still_step
      refine wpStill_nil ?_
      change wpList _ _ _ _ _ wr.drew
      have HE := Lib.hid (show CH w f 4 wr.drew from In3.drew HH.out)
      have c1' : wr.drew.cell? ⟨w.heap.size + 2, 0, none⟩ = some (.int .u8 (Aes.sb (f 1) : Int)) := c1
      have c2' : wr.drew.frozen? ⟨w.heap.size + 2, 0, none⟩ = false := c2
      clear HH c1 c2 hj1 hj2
      generalize wr.drew = w2 at HE c1' c2' ⊢
      obtain ⟨h0, h1, h2, h3⟩ := HE.out
      have h3' := (h3.set 0 (Aes.sb (f 1) ^^^ Aes.pw j))
      have h2' := h2.far (p := ⟨w.heap.size + 2, 0, none⟩) (by simp) (.int .u8 ((Aes.sb (f 1) ^^^ Aes.pw j : Nat) : Int))
      rw [← HX.out] at h3' h2'
      have HB := Lib.hid (h0.setCell (p := ⟨w.heap.size + 2, 0, none⟩) (by simp) (.int .u8 (bits .xor .u8 (Aes.sb (f 1)) (Aes.pw j))))
      clear HE h0 h1 h2 h3 HX
      go_wp2_with (first | (refine ld_row 67 4 _ Tryd.underlying67 Tryd.info67 rfl _ rfl _ rfl h3' ?_) | (refine st_row 67 4 Tryd.info67 rfl _ _ rfl _ rfl rfl h2' ?_))
      exact bodyPost_ret (v := .agg (bys 4 fun r => Aes.sb (f ((r + 1) % 4)) ^^^ if r = 0 then Aes.pw j else 0)) (res_row 67 4 _ Tryd.underlying67 Tryd.info67 rfl _ _ _ rfl (h2'.setRow _) fun q hq => by
        by_cases e : q = 0
        · subst e; simp
        · simp [e, hq]) rfl ⟨rfl, Below.row HB.out (by omega) _⟩
end Go.Proofs.YtecdfjcncgcegaaDoor
