/- Contracts of aes' Fixed and of the laws' common beginning. -/
import Derived.Test.YtngghmjjeckmpaaAB4
import Derived.Test.YtngghmjjeckmpaaAB7
import Derived.Test.YtngghmjjeckmpaaAB8
namespace Go.Proofs.Ytngghmjjeckmpaa
open Go.RowKit

/-- A cipher made: where it lies, and that old memory stays. -/
def Made (w : World) (key : Nat → Nat) (g : Nat) (w' : World) : Prop := w.heap.size ≤ g ∧ Ciph w' g (Aes.ks key) ∧ Below w.heap.size w w'
def MadeE (w : World) (key : Nat → Nat) (e : Ending) (w' : World) : Prop := ∃ g, e = .returned (.pointer (some ⟨g, 0, none⟩)) ∧ Made w key g w'
theorem new_made (key : Nat → Nat) (w : World) (hk : ∀ i, key i < 256) : Calls Try.prog 8 #[.agg (bys 16 key)] w (MadeE w key) :=
  (new_any key w hk).mono fun _ _ ⟨g, h1, h2, h3, h4⟩ => ⟨g, h2, h1, h3, h4⟩
/-- The key 0 to 15. -/
def kf : Nat → Nat := upTo 16 (fun q => q) (fun _ => 0)
theorem kf_lt (i : Nat) : kf i < 256 := by
  show (if i < 16 then i else 0) < 256
  split <;> omega
theorem kf_at (i : Nat) (h : i < 16) : kf i = i := if_pos h
def FX (w : World) (i : Nat) (wr : World) : Prop := Below w.heap.size w wr ∧ OwnB wr w.heap.size 16 22 (upTo i (fun q => q) fun _ => 0)
theorem FX.start (w : World) : FX w 0 (w.alloc (.cells (bys 16 fun _ => 0) 22)) := ⟨(Below.refl _ _).alloc (Nat.le_refl _) _, OwnB.new w 16 22 fun _ => 0⟩
set_option maxHeartbeats 1000000 in
set_option maxRecDepth 100000 in
theorem fixed_any (w : World) : Calls Try.prog 15 #[] w (MadeE w kf) := by
  go_enter Try.func15, Try.ntmps15
  go_wp2
  go_loopw [3] (fun t wr => ∃ i : Nat, i ≤ 16 ∧ t = .int .i64 i ∧ FX w i wr) (fun t _ => 16 - (intOf t).toNat)
  case atStart => exact ⟨0, by omega, rfl, FX.start w⟩
  case round =>
    obtain ⟨i, hi, rfl, H⟩ := hrel
    by_cases hlt : i < 16
    · have c1 : wr.cell? ⟨w.heap.size, i, none⟩ = some (.int .u8 0) := by rw [H.2.cell i hlt, upTo_at]; rfl
      have c2 := H.2.frozen i
      have HH := Lib.hid H
      clear H
      go_wp2
      go_roundw
      case rel => exact ⟨i + 1, by omega, by go_num, HH.out.1.setCell (Nat.le_refl _) _, (HH.out.2.set i i).congr fun q _ => upTo_step i (fun q => q) (fun _ => 0) q⟩
      case measure => simp [intOf]; omega
    · obtain rfl : i = 16 := by omega
      have h1 := H.2
      have HH := Lib.hid H.1
      clear H
      go_wp2_with (refine ld_row 22 16 _ Try.underlying22 Try.info22 rfl _ rfl _ rfl h1 ?_)
      refine (new_made kf _ kf_lt).mono ?_
      rintro e w1 ⟨g, rfl, hg, hc, hb⟩
      go_wp2
      go_ret
      exact ⟨g, rfl, by have := HH.out.size; omega, hc, HH.out.trans (hb.mono HH.out.size)⟩
/-- The example's block. -/
def bf : Nat → Nat := upTo 16 (fun q => 17 * q) (fun _ => 0)
theorem bf_lt (i : Nat) : bf i < 256 := by
  show (if i < 16 then 17 * i else 0) < 256
  split <;> omega
theorem bf_at (i : Nat) (h : i < 16) : bf i = 17 * i := if_pos h
def AW (w : World) (b c i : Nat) (wr : World) : Prop := Below w.heap.size w wr ∧ Ciph wr c (Aes.ks kf) ∧ OwnB wr b 16 22 (upTo i (fun q => 17 * q) fun _ => 0)
def exL (i : Nat) : Nat := [105, 196, 224, 216, 106, 123, 4, 48, 216, 205, 183, 128, 112, 180, 197, 90].getD i 0
theorem example_eq : eqB 16 (Aes.enc (Aes.ks kf) bf) exL = true := by
  refine eqB_true fun i hi => ?_
  have h : ∀ i, i < 16 → (Aes.enL.getD 10 []).getD i 0 = exL i := by decide +kernel
  exact (Aes.enc_fixed kf_at bf_at 10 (by omega) i hi).trans (h i hi)
theorem run_eql_ex (w : World) (f : Nat → Nat) : (Op.equalIn 10000 22 (.agg (bys 16 f)) (.agg #[.int .u8 105, .int .u8 196, .int .u8 224, .int .u8 216, .int .u8 106, .int .u8 123, .int .u8 4, .int .u8 48, .int .u8 216, .int .u8 205, .int .u8 183, .int .u8 128, .int .u8 112, .int .u8 180, .int .u8 197, .int .u8 90])).run Try.prog w = .ok (eqB 16 f exL) w := run_eqlB w f exL
def ExE (w : World) (e : Ending) (w' : World) : Prop := ∃ h, e = .returned (.agg (bys 16 h)) ∧ eqB 16 h exL = true ∧ Below w.heap.size w w'
theorem enc_ex (c : Nat) (f : Nat → Nat) (w : World) (hc : Ciph w c (Aes.ks kf)) (hf : f = bf) : Calls Try.prog 10 #[.pointer (some ⟨c, 0, none⟩), .agg (bys 16 f)] w (ExE w) := by
  subst hf
  exact (encrypt_any c (Aes.ks kf) bf w hc bf_lt (Aes.ks_lt kf kf_lt)).mono fun _ _ ⟨h1, h2⟩ => ⟨_, h1, example_eq, h2⟩
set_option maxHeartbeats 1000000 in
set_option maxRecDepth 100000 in
theorem awake_any (w : World) : Calls Try.prog 9 #[] w fun e w' => e = .returned (.bool true) ∧ Below w.heap.size w w' := by
  go_enter Try.func9, Try.ntmps9
  go_wp2_with fail
  refine (fixed_any _).mono ?_
  rintro e w1 ⟨c, rfl, hc, hC, hb⟩
  have hlt := OwnB.lt hC
  have HS := Lib.hid (show AW w w1.heap.size c 0 (w1.alloc (.cells (bys 16 fun _ => 0) 22)) from ⟨hb.alloc hb.size _, OwnB.alloc hC _, OwnB.new w1 16 22 fun _ => 0⟩)
  have hsz := hb.size
  clear hC hb
  go_wp2
  generalize w1.heap.size = b at hlt HS hsz ⊢
  go_loopw [7] (fun t wr => ∃ i : Nat, i ≤ 16 ∧ t = .int .i64 i ∧ AW w b c i wr) (fun t _ => 16 - (intOf t).toNat)
  case atStart => exact ⟨0, by omega, rfl, HS.out⟩
  case round =>
    clear HS
    obtain ⟨i, hi, rfl, H⟩ := hrel
    by_cases hl : i < 16
    · have c1 : wr.cell? ⟨b, i, none⟩ = some (.int .u8 0) := by rw [H.2.2.cell i hl, upTo_at]; rfl
      have c2 := H.2.2.frozen i
      have HH := Lib.hid H
      clear H
      go_wp2
      go_roundw
      case rel =>
        obtain ⟨h0, h1, h2⟩ := HH.out
        refine ⟨i + 1, by omega, by go_num, h0.setCell (by simp; omega) _, OwnB.far h1 (by simp; omega) _, ?_⟩
        exact (h2.set i (17 * i)).congr fun q _ => upTo_step i (fun q => 17 * q) (fun _ => 0) q
      case measure => simp [intOf]; omega
    · obtain rfl : i = 16 := by omega
      have h1 := H.2.2
      have HH := Lib.hid H
      have hq := run_eql_ex
      clear H
      go_wp2_with (refine ld_row 22 16 _ Try.underlying22 Try.info22 rfl _ rfl _ rfl h1 ?_)
      refine (enc_ex c _ _ HH.out.2.1 rfl).mono ?_
      rintro e w2 ⟨h, rfl, hx, hb2⟩
      have HB := Lib.hid (HH.out.1.trans (hb2.mono HH.out.1.size))
      clear HH hb2 h1
      go_wp2
      go_ret
      exact ⟨rfl, HB.out⟩
end Go.Proofs.Ytngghmjjeckmpaa
