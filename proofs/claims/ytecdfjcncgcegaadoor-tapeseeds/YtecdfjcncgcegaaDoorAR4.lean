/- Contracts of the document's own add and mix. -/
import Derived.Test.YtecdfjcncgcegaaDoorAR3
import Derived.Test.YtecdfjcncgcegaaDoorAB5
import Derived.Laws.MakeOwn
namespace Go.Proofs.YtecdfjcncgcegaaDoor
open Go.RowKit

/-- Sixteen bytes that a call has made for itself. -/
abbrev mk16 (g : Nat) : Value := .slice (some ⟨g, 0, none⟩) 16 16
theorem make16 (w : World) : (Instr.makeSlice 32 (.int .i64 16) (.int .i64 16)).run Tryd.prog w = .ok (mk16 w.heap.size) (w.alloc (.cells (bys 16 fun _ => 0) 5)) := by
  obtain ⟨i0, hi, hz0, hz1, hz2⟩ := infoB
  have := run_make (P := Tryd.prog) w 32 5 i0 (.int .u8 0) Tryd.underlying32 hi hz0 .i64 .i64 16 16 (by omega) (by omega) (by rw [hz2]; decide) (by omega)
  rw [this, hz1, show madeCells (Value.int .u8 0).cells (Int.toNat 16 * 1) = bys 16 fun _ => 0 by kernel_rfl]
  rfl
def AD (w : World) (F : Nat → Nat) (i : Nat) (wr : World) : Prop := Below w.heap.size w wr ∧ OwnB wr w.heap.size 16 5 (upTo i F fun _ => 0)
theorem AD.start (w : World) (F : Nat → Nat) : AD w F 0 (w.alloc (.cells (bys 16 fun _ => 0) 5)) := ⟨(Below.refl _ _).alloc (Nat.le_refl _) _, OwnB.new w 16 5 fun _ => 0⟩
theorem AD.drew {w wr : World} {F : Nat → Nat} {i : Nat} (h : AD w F i wr) : AD w F i wr.drew := ⟨h.1.drew, h.2⟩
theorem AD.set {w wr : World} {F : Nat → Nat} {i : Nat} {x : Int} (h : AD w F i wr) (hx : x = (F i : Int)) : AD w F (i + 1) (wr.setCell ⟨w.heap.size, i, none⟩ (.int .u8 x)) := by
  subst hx
  exact ⟨h.1.setCell (Nat.le_refl _) _, (h.2.set i _).congr fun q _ => upTo_step i F (fun _ => 0) q⟩
theorem AD.drewN {w wr : World} {F : Nat → Nat} {i : Nat} (h : AD w F i wr) (n : Nat) : AD w F i (wr.drewN n) := by
  exact ⟨⟨h.1.os, h.1.tape, h.1.output, h.1.size, h.1.block⟩, h.2⟩
theorem AD.setAt {w wr : World} {F : Nat → Nat} {c r q x : Nat} (h : AD w F (4 * c + r) wr) (n : Nat) (hq : q = 4 * c + r) (hx : x = F q) : AD w F (4 * c + (r + 1)) ((wr.drewN n).setCell ⟨w.heap.size, q, none⟩ (.int .u8 x)) := by
  subst hq
  subst hx
  exact AD.set (i := 4 * c + r) (h.drewN n) rfl
theorem AtB.down {w wr : World} {ad : Addr} {n : Nat} {f : Nat → Nat} (h : AtB w ad n f) (hb : Below w.heap.size w wr) : AtB wr ad n f := AtB.below h hb
set_option maxHeartbeats 1000000 in
set_option maxRecDepth 100000 in
theorem add_any (ga oa ca gb ob cb : Nat) (f h : Nat → Nat) (w : World) (hA : AtB w ⟨ga, oa, none⟩ 16 f) (hB : AtB w ⟨gb, ob, none⟩ 16 h) (hf : ∀ i, f i < 256) (hh : ∀ i, h i < 256) :
    Calls Tryd.prog 36 #[.slice (some ⟨ga, oa, none⟩) 16 ca, .slice (some ⟨gb, ob, none⟩) 16 cb] w fun e w' => e = .returned (mk16 w.heap.size) ∧ OwnB w' w.heap.size 16 5 (fun i => f i ^^^ h i) ∧ Below w.heap.size w w' := by
  have HA := Lib.hid (And.intro hA hB)
  have HF := Lib.hid (And.intro hf hh)
  have hm := make16
  clear hA hB hf hh
  go_enter Tryd.func36, Tryd.ntmps36
  go_wp2
  clear hm
  go_loopw [6] (fun t wr => ∃ i : Nat, i ≤ 16 ∧ t = .int .i64 i ∧ Hid (AD w (fun q => f q ^^^ h q) i wr)) (fun t _ => 16 - (intOf t).toNat)
  case atStart => exact ⟨0, by omega, rfl, AD.start w _⟩
  case round =>
    obtain ⟨i, hi, rfl, HH⟩ := hrel
    by_cases hlt : i < 16
    · have c1 := AtB.cell (HA.out.1.down HH.out.1) i hlt
      have c2 := AtB.cell (HA.out.2.down HH.out.1) i hlt
      have c3 : wr.cell? ⟨w.heap.size, i, none⟩ = some (.int .u8 0) := by rw [HH.out.2.cell i hlt, upTo_at]; rfl
      have c4 := HH.out.2.frozen i
      have e1 : (i : Int) < 16 := by omega
      have HX := Lib.hid (bits8_xor (f i) (h i) (HF.out.1 i) (HF.out.2 i))
      go_wp2
      go_still_tail 12, (by kernel_rfl)
      change wpList _ _ _ _ _ wr.drew
      have HE := Lib.hid HH.out.drew
      have c3' : wr.drew.cell? ⟨w.heap.size, i, none⟩ = some (.int .u8 0) := c3
      have c4' : wr.drew.frozen? ⟨w.heap.size, i, none⟩ = false := c4
      clear HH c1 c2 c3 c4
      generalize wr.drew = w2 at HE c3' c4' ⊢
      go_wp2
      go_roundw
      case rel => exact ⟨i + 1, by omega, by go_num, AD.set HE.out HX.out⟩
      case measure => simp [intOf]; omega
    · obtain rfl : i = 16 := by omega
      go_wp2
      go_ret
      exact ⟨rfl, HH.out.2.congr fun q hq => upTo_full 16 _ _ q hq, HH.out.1⟩
theorem times_c2 (a : Nat) (w : World) (ha : a < 256) :
    Calls Tryd.prog 24 #[.int .u8 (a : Int), .int .u8 2] w fun e w' => e = .returned (.int .u8 (Aes.tm a 2 : Int)) ∧ w = w' := times_any a 2 w ha (by omega)
theorem times_c3 (a : Nat) (w : World) (ha : a < 256) :
    Calls Tryd.prog 24 #[.int .u8 (a : Int), .int .u8 3] w fun e w' => e = .returned (.int .u8 (Aes.tm a 3 : Int)) ∧ w = w' := times_any a 3 w ha (by omega)
theorem rmixer (p q r s : Nat) (hp : p < 256) (hq : q < 256) (hr : r < 256) (hs : s < 256) : ∃ x y : Nat, bits .xor .u8 (Aes.tm p 2 : Int) (Aes.tm q 3 : Int) = (x : Int) ∧ bits .xor .u8 (x : Int) (r : Int) = (y : Int) ∧ bits .xor .u8 (y : Int) (s : Int) = (Aes.mixB p q r s : Int) := by
  have hx := Aes.byte_xor (Aes.tm_lt 2 hp) (Aes.tm_lt 3 hq)
  have hy := Aes.byte_xor hx hr
  exact ⟨_, _, bits8_xor _ _ (Aes.tm_lt 2 hp) (Aes.tm_lt 3 hq), bits8_xor _ _ hx hr, bits8_xor _ _ hy hs⟩
theorem mix_idx (c r : Nat) (hc : c < 4) (hr : r < 4) : ∃ m1 m2 m3 q0 q1 q2 q3 : Nat, (q0 = 4 * c + r ∧ ∀ f : Nat → Nat, Aes.mixB (f q0) (f q1) (f q2) (f q3) = Aes.mixF f q0) ∧ (q0 < 16 ∧ q1 < 16 ∧ q2 < 16 ∧ q3 < 16) ∧
    IntKind.i64.wrap (4 * (c : Int)) = 4 * (c : Int) ∧ IntKind.i64.wrap (4 * (c : Int) + (r : Int)) = (q0 : Int) ∧
    IntKind.i64.wrap ((r : Int) + 1) = (r : Int) + 1 ∧ IntKind.i64.wrap ((r : Int) + 2) = (r : Int) + 2 ∧ IntKind.i64.wrap ((r : Int) + 3) = (r : Int) + 3 ∧
    ((r : Int) + 1).tmod 4 = (m1 : Int) ∧ ((r : Int) + 2).tmod 4 = (m2 : Int) ∧ ((r : Int) + 3).tmod 4 = (m3 : Int) ∧
    IntKind.i64.wrap (4 * (c : Int) + (m1 : Int)) = (q1 : Int) ∧ IntKind.i64.wrap (4 * (c : Int) + (m2 : Int)) = (q2 : Int) ∧ IntKind.i64.wrap (4 * (c : Int) + (m3 : Int)) = (q3 : Int) ∧
    (q0 : Int) < 16 ∧ (q1 : Int) < 16 ∧ (q2 : Int) < 16 ∧ (q3 : Int) < 16 := by
  refine ⟨(r + 1) % 4, (r + 2) % 4, (r + 3) % 4, 4 * c + r, 4 * c + (r + 1) % 4, 4 * c + (r + 2) % 4, 4 * c + (r + 3) % 4, ⟨rfl, fun f => ?_⟩, by omega, ?_, ?_, ?_, ?_, ?_, ?_, ?_, ?_, ?_, ?_, ?_, ?_, ?_, ?_, ?_⟩
  · unfold Aes.mixF Aes.col
    rw [show 4 * ((4 * c + r) / 4) + ((4 * c + r) % 4 + 0) % 4 = 4 * c + r by omega, show 4 * ((4 * c + r) / 4) + ((4 * c + r) % 4 + 1) % 4 = 4 * c + (r + 1) % 4 by omega, show 4 * ((4 * c + r) / 4) + ((4 * c + r) % 4 + 2) % 4 = 4 * c + (r + 2) % 4 by omega, show 4 * ((4 * c + r) / 4) + ((4 * c + r) % 4 + 3) % 4 = 4 * c + (r + 3) % 4 by omega]
  · exact i64_nat _ (by omega) (by omega)
  · rw [i64_nat _ (by omega) (by omega)]; omega
  · exact i64_nat _ (by omega) (by omega)
  · exact i64_nat _ (by omega) (by omega)
  · exact i64_nat _ (by omega) (by omega)
  · rw [Int.tmod_eq_emod_of_nonneg (by omega)]; omega
  · rw [Int.tmod_eq_emod_of_nonneg (by omega)]; omega
  · rw [Int.tmod_eq_emod_of_nonneg (by omega)]; omega
  · rw [i64_nat _ (by omega) (by omega)]; omega
  · rw [i64_nat _ (by omega) (by omega)]; omega
  · rw [i64_nat _ (by omega) (by omega)]; omega
  · omega
  · omega
  · omega
  · omega
set_option maxHeartbeats 1000000 in
set_option maxRecDepth 100000 in
theorem mix_any (ga oa ca : Nat) (f : Nat → Nat) (w : World) (hA : AtB w ⟨ga, oa, none⟩ 16 f) (hf : ∀ i, f i < 256) :
    Calls Tryd.prog 37 #[.slice (some ⟨ga, oa, none⟩) 16 ca] w fun e w' => e = .returned (mk16 w.heap.size) ∧ OwnB w' w.heap.size 16 5 (Aes.mixF f) ∧ Below w.heap.size w w' := by
  have HA := Lib.hid hA
  have HF := Lib.hid hf
  have hm := make16
  clear hA hf
  go_enter Tryd.func37, Tryd.ntmps37
  go_wp2
  clear hm
  go_loopw [4] (fun t wr => ∃ c : Nat, c ≤ 4 ∧ t = .int .i64 c ∧ Hid (AD w (Aes.mixF f) (4 * c) wr)) (fun t _ => 4 - (intOf t).toNat)
  case atStart => exact ⟨0, by omega, rfl, AD.start w _⟩
  case round =>
    obtain ⟨c, hc, rfl, HH⟩ := hrel
    by_cases hlc : c < 4
    · have hbc : decide ((c : Int) < 4) = true := by simp; omega
      go_wp2
      clear hbc
      go_loopw [5] (fun t w2 => ∃ r : Nat, r ≤ 4 ∧ t = .int .i64 r ∧ Hid (AD w (Aes.mixF f) (4 * c + r) w2)) (fun t _ => 4 - (intOf t).toNat)
      case atStart => exact ⟨0, by omega, rfl, HH⟩
      case round =>
        clear HH
        obtain ⟨r, hr, rfl, HH⟩ := hrel
        by_cases hlr : r < 4
        · obtain ⟨m1, m2, m3, q0, q1, q2, q3, hI, ⟨g0, g1, g2, g3⟩, e0, e1, w1, w2, w3, t1, t2, t3, v1, v2, v3, l0, l1, l2, l3⟩ := mix_idx c r hlc hlr
          have a0 := AtB.cell (HA.out.down HH.out.1) q0 g0
          have a1 := AtB.cell (HA.out.down HH.out.1) q1 g1
          have a2 := AtB.cell (HA.out.down HH.out.1) q2 g2
          have a3 := AtB.cell (HA.out.down HH.out.1) q3 g3
          have c3 : wr.cell? ⟨w.heap.size, q0, none⟩ = some (.int .u8 0) := by rw [hI.1, HH.out.2.cell _ (hI.1 ▸ g0), upTo_at]; rfl
          have c4 := HH.out.2.frozen q0
          obtain ⟨x, y, x1, x2, x3⟩ := rmixer (f q0) (f q1) (f q2) (f q3) (HF.out _) (HF.out _) (HF.out _) (HF.out _)
          have HM := Lib.hid (hI.2 f)
          have hF0 := HF.out q0
          have hF1 := HF.out q1
          have HQ := Lib.hid hI.1
          clear hI g0 g1 g2 g3
          go_wp2
          go_quiet (fail)
          go_wp2_with (fail)
          refine (times_c2 _ _ hF0).mono ?_
          rintro e w9 ⟨rfl, rfl⟩
          go_wp2_with (fail)
          refine (times_c3 _ _ hF1).mono ?_
          rintro e w9 ⟨rfl, rfl⟩
          go_wp2
          go_roundw
          case rel => exact ⟨r + 1, by omega, by go_num, AD.setAt HH.out nq HQ.out HM.out⟩
          case measure => simp [intOf]; omega
        · obtain rfl : r = 4 := by omega
          go_wp2
          go_roundw
          case rel => exact ⟨c + 1, by omega, by go_num, HH⟩
          case measure => simp [intOf]; omega
    · obtain rfl : c = 4 := by omega
      go_wp2
      go_ret
      exact ⟨rfl, HH.out.2.congr fun q hq => upTo_full 16 _ _ q hq, HH.out.1⟩
end Go.Proofs.YtecdfjcncgcegaaDoor
