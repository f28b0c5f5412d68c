/- Labels of blocks: the contract of aes' labelOf. -/
import Derived.Test.YtecdfjcncgcegaaDoorAL2
namespace Go.Proofs.YtecdfjcncgcegaaDoor
open Go.RowKit

/-- The words that a block makes, of its first i bytes. -/
def lo8 (f : Nat → Nat) (i : Nat) : Nat := Aes.psum f 0 (min i 8)
def hi8 (f : Nat → Nat) (i : Nat) : Nat := Aes.psum f 8 (i - 8)
def LO (w : World) (f : Nat → Nat) (i : Nat) (wr : World) : Prop := Below w.heap.size w wr ∧ OwnB wr w.heap.size 16 30 f ∧ Lbl wr (w.heap.size + 1) 0 0 ∧ Lbl wr (w.heap.size + 2) (lo8 f i) (hi8 f i)
theorem LO.start (w : World) (f : Nat → Nat) : LO w f 0 (((w.alloc (.cells (bys 16 f) 30)).alloc (.cells #[.int .u64 0, .int .u64 0] 39)).alloc (.cells #[.int .u64 0, .int .u64 0] 39)) := by
  refine ⟨(((Below.refl _ _).alloc (Nat.le_refl _) _).alloc (by simp) _).alloc (by simp; omega) _, ((OwnB.new w 16 30 f).alloc _).alloc _, ?_, ?_⟩
  · have := Lbl.new (w.alloc (.cells (bys 16 f) 30)) 0 0
    simp only [World.size_alloc] at this
    exact this.alloc _
  · have := Lbl.new ((w.alloc (.cells (bys 16 f) 30)).alloc (.cells #[.int .u64 0, .int .u64 0] 39)) 0 0
    simp only [World.size_alloc] at this
    exact this
theorem or_psum (f : Nat → Nat) (o n : Nat) (hf : ∀ i, f i < 256) (hn : n < 8) : bits .or .u64 (Aes.psum f o n : Int) (((f (o + n) * 256 ^ n : Nat)) : Int) = (Aes.psum f o (n + 1) : Int) := by
  have h1 := Aes.psum_lt f o hf n
  have h2 := Aes.psum_lt f o hf (n + 1)
  have h8 : (256 : Nat) ^ (n + 1) ≤ 256 ^ 8 := Nat.pow_le_pow_right (by omega) (by omega)
  have e8 : (256 : Nat) ^ 8 = 18446744073709551616 := rfl
  have e : Aes.psum f o (n + 1) = Aes.psum f o n + f (o + n) * 256 ^ n := rfl
  rw [bits_or _ _ (by omega) (by omega), e]
  have hp : (256 : Nat) ^ n = 2 ^ (8 * n) := by rw [Nat.pow_mul]
  rw [hp] at h1 ⊢
  rw [Nat.or_comm, Nat.mul_comm, ← Nat.two_pow_add_eq_or_of_lt h1, Nat.add_comm]
theorem LO.set0 {w wr : World} {f : Nat → Nat} {i : Nat} {x : Int} (h : LO w f i wr) (hi : i < 8) (hx : x = (Aes.psum f 0 (i + 1) : Int)) : LO w f (i + 1) (wr.setCell ⟨w.heap.size + 2, 0, none⟩ (.int .u64 x)) := by
  obtain ⟨h0, h1, h2, h3⟩ := h
  have e1 : lo8 f (i + 1) = Aes.psum f 0 (i + 1) := by unfold lo8; rw [Nat.min_eq_left (by omega)]
  have e2 : hi8 f (i + 1) = hi8 f i := by unfold hi8; rw [show i + 1 - 8 = 0 by omega, show i - 8 = 0 by omega]
  refine ⟨h0.setCell (by simp) _, h1.far (by simp) _, h2.far (by simp) _, ?_⟩
  rw [e1, e2, ← hx]
  exact h3.set0 _
theorem LO.set1 {w wr : World} {f : Nat → Nat} {i : Nat} {x : Int} (h : LO w f i wr) (hi : 8 ≤ i) (hx : x = (Aes.psum f 8 (i - 8 + 1) : Int)) : LO w f (i + 1) (wr.setCell ⟨w.heap.size + 2, 1, none⟩ (.int .u64 x)) := by
  obtain ⟨h0, h1, h2, h3⟩ := h
  have e1 : lo8 f (i + 1) = lo8 f i := by unfold lo8; rw [Nat.min_eq_right (by omega), Nat.min_eq_right (by omega)]
  have e2 : hi8 f (i + 1) = Aes.psum f 8 (i - 8 + 1) := by unfold hi8; rw [show i + 1 - 8 = i - 8 + 1 by omega]
  refine ⟨h0.setCell (by simp) _, h1.far (by simp) _, h2.far (by simp) _, ?_⟩
  rw [e1, e2, ← hx]
  exact h3.set1 _
set_option maxHeartbeats 4000000 in
set_option maxRecDepth 100000 in
theorem labelOf_any (f : Nat → Nat) (w : World) (hf : ∀ i, f i < 256) :
    Calls Tryd.prog 42 #[.agg (bys 16 f)] w fun e w' => e = .returned (.agg #[.int .u64 (Aes.psum f 0 8 : Int), .int .u64 (Aes.psum f 8 8 : Int)]) ∧ Below w.heap.size w w' := by
  have HF := Lib.hid hf
  clear hf
  go_enter Tryd.func42, Tryd.ntmps42
  go_wp2
  go_loopw [5] (fun t wr => ∃ i : Nat, i ≤ 16 ∧ t = .int .i64 i ∧ LO w f i wr) (fun t _ => 16 - (intOf t).toNat)
  case atStart => exact ⟨0, by omega, rfl, LO.start w f⟩
  case round =>
    obtain ⟨i, hi, rfl, H⟩ := hrel
    by_cases hlt : i < 16
    · rcases (show i = 0 ∨ i = 1 ∨ i = 2 ∨ i = 3 ∨ i = 4 ∨ i = 5 ∨ i = 6 ∨ i = 7 ∨ i = 8 ∨ i = 9 ∨ i = 10 ∨ i = 11 ∨ i = 12 ∨ i = 13 ∨ i = 14 ∨ i = 15 by omega) with rfl | rfl | rfl | rfl | rfl | rfl | rfl | rfl | rfl | rfl | rfl | rfl | rfl | rfl | rfl | rfl
      · have c0 : wr.cell? ⟨w.heap.size + 2, 0, none⟩ = some (.int .u64 (Aes.psum f 0 0 : Int)) := H.2.2.2.cell0
        have c1 := H.2.1.cell 0 (by omega)
        have c2 := H.2.2.2.frozen 0
        have hb := HF.out 0
        have HX := Lib.hid (or_psum f 0 0 HF.out (by omega))
        have z0 : IntKind.i64.wrap 0 = 0 := rfl
        have z1 : IntKind.i64.wrap 0 = 0 := rfl
        have HH := Lib.hid H
        clear H
        go_wp2
        go_still_tail 14, (by kernel_rfl)
        change wpList _ _ _ _ _ wr.drew
        have HE := Lib.hid (show LO w f 0 wr.drew from ⟨HH.out.1.drew, HH.out.2.1, HH.out.2.2.1, HH.out.2.2.2⟩)
        have c0' : wr.drew.cell? ⟨w.heap.size + 2, 0, none⟩ = some (.int .u64 (Aes.psum f 0 0 : Int)) := c0
        have c2' : wr.drew.frozen? ⟨w.heap.size + 2, 0, none⟩ = false := c2
        clear HH c0 c1 c2
        generalize wr.drew = w2 at HE c0' c2' ⊢
        go_wp2
        go_roundw
        case rel => exact ⟨1, by omega, rfl, LO.set0 HE.out (by omega) (by rw [← HX.out]; congr 1; show _ = ((f 0 * 1 : Nat) : Int); omega)⟩
        case measure => simp [intOf]
      · have c0 : wr.cell? ⟨w.heap.size + 2, 0, none⟩ = some (.int .u64 (Aes.psum f 0 1 : Int)) := H.2.2.2.cell0
        have c1 := H.2.1.cell 1 (by omega)
        have c2 := H.2.2.2.frozen 0
        have hb := HF.out 1
        have HX := Lib.hid (or_psum f 0 1 HF.out (by omega))
        have z0 : IntKind.i64.wrap 0 = 0 := rfl
        have z1 : IntKind.i64.wrap 8 = 8 := rfl
        have HH := Lib.hid H
        clear H
        go_wp2
        go_still_tail 14, (by kernel_rfl)
        change wpList _ _ _ _ _ wr.drew
        have HE := Lib.hid (show LO w f 1 wr.drew from ⟨HH.out.1.drew, HH.out.2.1, HH.out.2.2.1, HH.out.2.2.2⟩)
        have c0' : wr.drew.cell? ⟨w.heap.size + 2, 0, none⟩ = some (.int .u64 (Aes.psum f 0 1 : Int)) := c0
        have c2' : wr.drew.frozen? ⟨w.heap.size + 2, 0, none⟩ = false := c2
        clear HH c0 c1 c2
        generalize wr.drew = w2 at HE c0' c2' ⊢
        go_wp2
        go_roundw
        case rel => exact ⟨2, by omega, rfl, LO.set0 HE.out (by omega) (by rw [← HX.out]; congr 1)⟩
        case measure => simp [intOf]
      · have c0 : wr.cell? ⟨w.heap.size + 2, 0, none⟩ = some (.int .u64 (Aes.psum f 0 2 : Int)) := H.2.2.2.cell0
        have c1 := H.2.1.cell 2 (by omega)
        have c2 := H.2.2.2.frozen 0
        have hb := HF.out 2
        have HX := Lib.hid (or_psum f 0 2 HF.out (by omega))
        have z0 : IntKind.i64.wrap 0 = 0 := rfl
        have z1 : IntKind.i64.wrap 16 = 16 := rfl
        have HH := Lib.hid H
        clear H
        go_wp2
        go_still_tail 14, (by kernel_rfl)
        change wpList _ _ _ _ _ wr.drew
        have HE := Lib.hid (show LO w f 2 wr.drew from ⟨HH.out.1.drew, HH.out.2.1, HH.out.2.2.1, HH.out.2.2.2⟩)
        have c0' : wr.drew.cell? ⟨w.heap.size + 2, 0, none⟩ = some (.int .u64 (Aes.psum f 0 2 : Int)) := c0
        have c2' : wr.drew.frozen? ⟨w.heap.size + 2, 0, none⟩ = false := c2
        clear HH c0 c1 c2
        generalize wr.drew = w2 at HE c0' c2' ⊢
        go_wp2
        go_roundw
        case rel => exact ⟨3, by omega, rfl, LO.set0 HE.out (by omega) (by rw [← HX.out]; congr 1)⟩
        case measure => simp [intOf]
      · have c0 : wr.cell? ⟨w.heap.size + 2, 0, none⟩ = some (.int .u64 (Aes.psum f 0 3 : Int)) := H.2.2.2.cell0
        have c1 := H.2.1.cell 3 (by omega)
        have c2 := H.2.2.2.frozen 0
        have hb := HF.out 3
        have HX := Lib.hid (or_psum f 0 3 HF.out (by omega))
        have z0 : IntKind.i64.wrap 0 = 0 := rfl
        have z1 : IntKind.i64.wrap 24 = 24 := rfl
        have HH := Lib.hid H
        clear H
        go_wp2
        go_still_tail 14, (by kernel_rfl)
        change wpList _ _ _ _ _ wr.drew
        have HE := Lib.hid (show LO w f 3 wr.drew from ⟨HH.out.1.drew, HH.out.2.1, HH.out.2.2.1, HH.out.2.2.2⟩)
        have c0' : wr.drew.cell? ⟨w.heap.size + 2, 0, none⟩ = some (.int .u64 (Aes.psum f 0 3 : Int)) := c0
        have c2' : wr.drew.frozen? ⟨w.heap.size + 2, 0, none⟩ = false := c2
        clear HH c0 c1 c2
        generalize wr.drew = w2 at HE c0' c2' ⊢
        go_wp2
        go_roundw
        case rel => exact ⟨4, by omega, rfl, LO.set0 HE.out (by omega) (by rw [← HX.out]; congr 1)⟩
        case measure => simp [intOf]
      · have c0 : wr.cell? ⟨w.heap.size + 2, 0, none⟩ = some (.int .u64 (Aes.psum f 0 4 : Int)) := H.2.2.2.cell0
        have c1 := H.2.1.cell 4 (by omega)
        have c2 := H.2.2.2.frozen 0
        have hb := HF.out 4
        have HX := Lib.hid (or_psum f 0 4 HF.out (by omega))
        have z0 : IntKind.i64.wrap 0 = 0 := rfl
        have z1 : IntKind.i64.wrap 32 = 32 := rfl
        have HH := Lib.hid H
        clear H
        go_wp2
        go_still_tail 14, (by kernel_rfl)
        change wpList _ _ _ _ _ wr.drew
        have HE := Lib.hid (show LO w f 4 wr.drew from ⟨HH.out.1.drew, HH.out.2.1, HH.out.2.2.1, HH.out.2.2.2⟩)
        have c0' : wr.drew.cell? ⟨w.heap.size + 2, 0, none⟩ = some (.int .u64 (Aes.psum f 0 4 : Int)) := c0
        have c2' : wr.drew.frozen? ⟨w.heap.size + 2, 0, none⟩ = false := c2
        clear HH c0 c1 c2
        generalize wr.drew = w2 at HE c0' c2' ⊢
        go_wp2
        go_roundw
        case rel => exact ⟨5, by omega, rfl, LO.set0 HE.out (by omega) (by rw [← HX.out]; congr 1)⟩
        case measure => simp [intOf]
      · have c0 : wr.cell? ⟨w.heap.size + 2, 0, none⟩ = some (.int .u64 (Aes.psum f 0 5 : Int)) := H.2.2.2.cell0
        have c1 := H.2.1.cell 5 (by omega)
        have c2 := H.2.2.2.frozen 0
        have hb := HF.out 5
        have HX := Lib.hid (or_psum f 0 5 HF.out (by omega))
        have z0 : IntKind.i64.wrap 0 = 0 := rfl
        have z1 : IntKind.i64.wrap 40 = 40 := rfl
        have HH := Lib.hid H
        clear H
        go_wp2
        go_still_tail 14, (by kernel_rfl)
        change wpList _ _ _ _ _ wr.drew
        have HE := Lib.hid (show LO w f 5 wr.drew from ⟨HH.out.1.drew, HH.out.2.1, HH.out.2.2.1, HH.out.2.2.2⟩)
        have c0' : wr.drew.cell? ⟨w.heap.size + 2, 0, none⟩ = some (.int .u64 (Aes.psum f 0 5 : Int)) := c0
        have c2' : wr.drew.frozen? ⟨w.heap.size + 2, 0, none⟩ = false := c2
        clear HH c0 c1 c2
        generalize wr.drew = w2 at HE c0' c2' ⊢
        go_wp2
        go_roundw
        case rel => exact ⟨6, by omega, rfl, LO.set0 HE.out (by omega) (by rw [← HX.out]; congr 1)⟩
        case measure => simp [intOf]
      · have c0 : wr.cell? ⟨w.heap.size + 2, 0, none⟩ = some (.int .u64 (Aes.psum f 0 6 : Int)) := H.2.2.2.cell0
        have c1 := H.2.1.cell 6 (by omega)
        have c2 := H.2.2.2.frozen 0
        have hb := HF.out 6
        have HX := Lib.hid (or_psum f 0 6 HF.out (by omega))
        have z0 : IntKind.i64.wrap 0 = 0 := rfl
        have z1 : IntKind.i64.wrap 48 = 48 := rfl
        have HH := Lib.hid H
        clear H
        go_wp2
        go_still_tail 14, (by kernel_rfl)
        change wpList _ _ _ _ _ wr.drew
        have HE := Lib.hid (show LO w f 6 wr.drew from ⟨HH.out.1.drew, HH.out.2.1, HH.out.2.2.1, HH.out.2.2.2⟩)
        have c0' : wr.drew.cell? ⟨w.heap.size + 2, 0, none⟩ = some (.int .u64 (Aes.psum f 0 6 : Int)) := c0
        have c2' : wr.drew.frozen? ⟨w.heap.size + 2, 0, none⟩ = false := c2
        clear HH c0 c1 c2
        generalize wr.drew = w2 at HE c0' c2' ⊢
        go_wp2
        go_roundw
        case rel => exact ⟨7, by omega, rfl, LO.set0 HE.out (by omega) (by rw [← HX.out]; congr 1)⟩
        case measure => simp [intOf]
      · have c0 : wr.cell? ⟨w.heap.size + 2, 0, none⟩ = some (.int .u64 (Aes.psum f 0 7 : Int)) := H.2.2.2.cell0
        have c1 := H.2.1.cell 7 (by omega)
        have c2 := H.2.2.2.frozen 0
        have hb := HF.out 7
        have HX := Lib.hid (or_psum f 0 7 HF.out (by omega))
        have z0 : IntKind.i64.wrap 0 = 0 := rfl
        have z1 : IntKind.i64.wrap 56 = 56 := rfl
        have HH := Lib.hid H
        clear H
        go_wp2
        go_still_tail 14, (by kernel_rfl)
        change wpList _ _ _ _ _ wr.drew
        have HE := Lib.hid (show LO w f 7 wr.drew from ⟨HH.out.1.drew, HH.out.2.1, HH.out.2.2.1, HH.out.2.2.2⟩)
        have c0' : wr.drew.cell? ⟨w.heap.size + 2, 0, none⟩ = some (.int .u64 (Aes.psum f 0 7 : Int)) := c0
        have c2' : wr.drew.frozen? ⟨w.heap.size + 2, 0, none⟩ = false := c2
        clear HH c0 c1 c2
        generalize wr.drew = w2 at HE c0' c2' ⊢
        go_wp2
        go_roundw
        case rel => exact ⟨8, by omega, rfl, LO.set0 HE.out (by omega) (by rw [← HX.out]; congr 1)⟩
        case measure => simp [intOf]
      · have c0 : wr.cell? ⟨w.heap.size + 2, 1, none⟩ = some (.int .u64 (Aes.psum f 8 0 : Int)) := H.2.2.2.cell1
        have c1 := H.2.1.cell 8 (by omega)
        have c2 := H.2.2.2.frozen 1
        have hb := HF.out 8
        have HX := Lib.hid (or_psum f 8 0 HF.out (by omega))
        have z0 : IntKind.i64.wrap 1 = 1 := rfl
        have z1 : IntKind.i64.wrap 0 = 0 := rfl
        have HH := Lib.hid H
        clear H
        go_wp2
        go_still_tail 14, (by kernel_rfl)
        change wpList _ _ _ _ _ wr.drew
        have HE := Lib.hid (show LO w f 8 wr.drew from ⟨HH.out.1.drew, HH.out.2.1, HH.out.2.2.1, HH.out.2.2.2⟩)
        have c0' : wr.drew.cell? ⟨w.heap.size + 2, 1, none⟩ = some (.int .u64 (Aes.psum f 8 0 : Int)) := c0
        have c2' : wr.drew.frozen? ⟨w.heap.size + 2, 1, none⟩ = false := c2
        clear HH c0 c1 c2
        generalize wr.drew = w2 at HE c0' c2' ⊢
        go_wp2
        go_roundw
        case rel => exact ⟨9, by omega, rfl, LO.set1 HE.out (by omega) (by rw [← HX.out]; congr 1; show _ = ((f 8 * 1 : Nat) : Int); omega)⟩
        case measure => simp [intOf]
      · have c0 : wr.cell? ⟨w.heap.size + 2, 1, none⟩ = some (.int .u64 (Aes.psum f 8 1 : Int)) := H.2.2.2.cell1
        have c1 := H.2.1.cell 9 (by omega)
        have c2 := H.2.2.2.frozen 1
        have hb := HF.out 9
        have HX := Lib.hid (or_psum f 8 1 HF.out (by omega))
        have z0 : IntKind.i64.wrap 1 = 1 := rfl
        have z1 : IntKind.i64.wrap 8 = 8 := rfl
        have HH := Lib.hid H
        clear H
        go_wp2
        go_still_tail 14, (by kernel_rfl)
        change wpList _ _ _ _ _ wr.drew
        have HE := Lib.hid (show LO w f 9 wr.drew from ⟨HH.out.1.drew, HH.out.2.1, HH.out.2.2.1, HH.out.2.2.2⟩)
        have c0' : wr.drew.cell? ⟨w.heap.size + 2, 1, none⟩ = some (.int .u64 (Aes.psum f 8 1 : Int)) := c0
        have c2' : wr.drew.frozen? ⟨w.heap.size + 2, 1, none⟩ = false := c2
        clear HH c0 c1 c2
        generalize wr.drew = w2 at HE c0' c2' ⊢
        go_wp2
        go_roundw
        case rel => exact ⟨10, by omega, rfl, LO.set1 HE.out (by omega) (by rw [← HX.out]; congr 1)⟩
        case measure => simp [intOf]
      · have c0 : wr.cell? ⟨w.heap.size + 2, 1, none⟩ = some (.int .u64 (Aes.psum f 8 2 : Int)) := H.2.2.2.cell1
        have c1 := H.2.1.cell 10 (by omega)
        have c2 := H.2.2.2.frozen 1
        have hb := HF.out 10
        have HX := Lib.hid (or_psum f 8 2 HF.out (by omega))
        have z0 : IntKind.i64.wrap 1 = 1 := rfl
        have z1 : IntKind.i64.wrap 16 = 16 := rfl
        have HH := Lib.hid H
        clear H
        go_wp2
        go_still_tail 14, (by kernel_rfl)
        change wpList _ _ _ _ _ wr.drew
        have HE := Lib.hid (show LO w f 10 wr.drew from ⟨HH.out.1.drew, HH.out.2.1, HH.out.2.2.1, HH.out.2.2.2⟩)
        have c0' : wr.drew.cell? ⟨w.heap.size + 2, 1, none⟩ = some (.int .u64 (Aes.psum f 8 2 : Int)) := c0
        have c2' : wr.drew.frozen? ⟨w.heap.size + 2, 1, none⟩ = false := c2
        clear HH c0 c1 c2
        generalize wr.drew = w2 at HE c0' c2' ⊢
        go_wp2
        go_roundw
        case rel => exact ⟨11, by omega, rfl, LO.set1 HE.out (by omega) (by rw [← HX.out]; congr 1)⟩
        case measure => simp [intOf]
      · have c0 : wr.cell? ⟨w.heap.size + 2, 1, none⟩ = some (.int .u64 (Aes.psum f 8 3 : Int)) := H.2.2.2.cell1
        have c1 := H.2.1.cell 11 (by omega)
        have c2 := H.2.2.2.frozen 1
        have hb := HF.out 11
        have HX := Lib.hid (or_psum f 8 3 HF.out (by omega))
        have z0 : IntKind.i64.wrap 1 = 1 := rfl
        have z1 : IntKind.i64.wrap 24 = 24 := rfl
        have HH := Lib.hid H
        clear H
        go_wp2
        go_still_tail 14, (by kernel_rfl)
        change wpList _ _ _ _ _ wr.drew
        have HE := Lib.hid (show LO w f 11 wr.drew from ⟨HH.out.1.drew, HH.out.2.1, HH.out.2.2.1, HH.out.2.2.2⟩)
        have c0' : wr.drew.cell? ⟨w.heap.size + 2, 1, none⟩ = some (.int .u64 (Aes.psum f 8 3 : Int)) := c0
        have c2' : wr.drew.frozen? ⟨w.heap.size + 2, 1, none⟩ = false := c2
        clear HH c0 c1 c2
        generalize wr.drew = w2 at HE c0' c2' ⊢
        go_wp2
        go_roundw
        case rel => exact ⟨12, by omega, rfl, LO.set1 HE.out (by omega) (by rw [← HX.out]; congr 1)⟩
        case measure => simp [intOf]
      · have c0 : wr.cell? ⟨w.heap.size + 2, 1, none⟩ = some (.int .u64 (Aes.psum f 8 4 : Int)) := H.2.2.2.cell1
        have c1 := H.2.1.cell 12 (by omega)
        have c2 := H.2.2.2.frozen 1
        have hb := HF.out 12
        have HX := Lib.hid (or_psum f 8 4 HF.out (by omega))
        have z0 : IntKind.i64.wrap 1 = 1 := rfl
        have z1 : IntKind.i64.wrap 32 = 32 := rfl
        have HH := Lib.hid H
        clear H
        go_wp2
        go_still_tail 14, (by kernel_rfl)
        change wpList _ _ _ _ _ wr.drew
        have HE := Lib.hid (show LO w f 12 wr.drew from ⟨HH.out.1.drew, HH.out.2.1, HH.out.2.2.1, HH.out.2.2.2⟩)
        have c0' : wr.drew.cell? ⟨w.heap.size + 2, 1, none⟩ = some (.int .u64 (Aes.psum f 8 4 : Int)) := c0
        have c2' : wr.drew.frozen? ⟨w.heap.size + 2, 1, none⟩ = false := c2
        clear HH c0 c1 c2
        generalize wr.drew = w2 at HE c0' c2' ⊢
        go_wp2
        go_roundw
        case rel => exact ⟨13, by omega, rfl, LO.set1 HE.out (by omega) (by rw [← HX.out]; congr 1)⟩
        case measure => simp [intOf]
      · have c0 : wr.cell? ⟨w.heap.size + 2, 1, none⟩ = some (.int .u64 (Aes.psum f 8 5 : Int)) := H.2.2.2.cell1
        have c1 := H.2.1.cell 13 (by omega)
        have c2 := H.2.2.2.frozen 1
        have hb := HF.out 13
        have HX := Lib.hid (or_psum f 8 5 HF.out (by omega))
        have z0 : IntKind.i64.wrap 1 = 1 := rfl
        have z1 : IntKind.i64.wrap 40 = 40 := rfl
        have HH := Lib.hid H
        clear H
        go_wp2
        go_still_tail 14, (by kernel_rfl)
        change wpList _ _ _ _ _ wr.drew
        have HE := Lib.hid (show LO w f 13 wr.drew from ⟨HH.out.1.drew, HH.out.2.1, HH.out.2.2.1, HH.out.2.2.2⟩)
        have c0' : wr.drew.cell? ⟨w.heap.size + 2, 1, none⟩ = some (.int .u64 (Aes.psum f 8 5 : Int)) := c0
        have c2' : wr.drew.frozen? ⟨w.heap.size + 2, 1, none⟩ = false := c2
        clear HH c0 c1 c2
        generalize wr.drew = w2 at HE c0' c2' ⊢
        go_wp2
        go_roundw
        case rel => exact ⟨14, by omega, rfl, LO.set1 HE.out (by omega) (by rw [← HX.out]; congr 1)⟩
        case measure => simp [intOf]
      · have c0 : wr.cell? ⟨w.heap.size + 2, 1, none⟩ = some (.int .u64 (Aes.psum f 8 6 : Int)) := H.2.2.2.cell1
        have c1 := H.2.1.cell 14 (by omega)
        have c2 := H.2.2.2.frozen 1
        have hb := HF.out 14
        have HX := Lib.hid (or_psum f 8 6 HF.out (by omega))
        have z0 : IntKind.i64.wrap 1 = 1 := rfl
        have z1 : IntKind.i64.wrap 48 = 48 := rfl
        have HH := Lib.hid H
        clear H
        go_wp2
        go_still_tail 14, (by kernel_rfl)
        change wpList _ _ _ _ _ wr.drew
        have HE := Lib.hid (show LO w f 14 wr.drew from ⟨HH.out.1.drew, HH.out.2.1, HH.out.2.2.1, HH.out.2.2.2⟩)
        have c0' : wr.drew.cell? ⟨w.heap.size + 2, 1, none⟩ = some (.int .u64 (Aes.psum f 8 6 : Int)) := c0
        have c2' : wr.drew.frozen? ⟨w.heap.size + 2, 1, none⟩ = false := c2
        clear HH c0 c1 c2
        generalize wr.drew = w2 at HE c0' c2' ⊢
        go_wp2
        go_roundw
        case rel => exact ⟨15, by omega, rfl, LO.set1 HE.out (by omega) (by rw [← HX.out]; congr 1)⟩
        case measure => simp [intOf]
      · have c0 : wr.cell? ⟨w.heap.size + 2, 1, none⟩ = some (.int .u64 (Aes.psum f 8 7 : Int)) := H.2.2.2.cell1
        have c1 := H.2.1.cell 15 (by omega)
        have c2 := H.2.2.2.frozen 1
        have hb := HF.out 15
        have HX := Lib.hid (or_psum f 8 7 HF.out (by omega))
        have z0 : IntKind.i64.wrap 1 = 1 := rfl
        have z1 : IntKind.i64.wrap 56 = 56 := rfl
        have HH := Lib.hid H
        clear H
        go_wp2
        go_still_tail 14, (by kernel_rfl)
        change wpList _ _ _ _ _ wr.drew
        have HE := Lib.hid (show LO w f 15 wr.drew from ⟨HH.out.1.drew, HH.out.2.1, HH.out.2.2.1, HH.out.2.2.2⟩)
        have c0' : wr.drew.cell? ⟨w.heap.size + 2, 1, none⟩ = some (.int .u64 (Aes.psum f 8 7 : Int)) := c0
        have c2' : wr.drew.frozen? ⟨w.heap.size + 2, 1, none⟩ = false := c2
        clear HH c0 c1 c2
        generalize wr.drew = w2 at HE c0' c2' ⊢
        go_wp2
        go_roundw
        case rel => exact ⟨16, by omega, rfl, LO.set1 HE.out (by omega) (by rw [← HX.out]; congr 1)⟩
        case measure => simp [intOf]
    · obtain rfl : i = 16 := by omega
      obtain ⟨h0, h1, h2, h3⟩ := H
      have c0 : wr.cell? ⟨w.heap.size + 2, 0, none⟩ = some (.int .u64 (Aes.psum f 0 8 : Int)) := h3.cell0
      have c1 : wr.cell? ⟨w.heap.size + 2, 1, none⟩ = some (.int .u64 (Aes.psum f 8 8 : Int)) := h3.cell1
      have c2 := h2.cell0
      have c3 := h2.cell1
      have c4 := h2.frozen 0
      have c5 := h2.frozen 1
      have HH := Lib.hid (And.intro h0 h2)
      clear h0 h1 h2 h3
      go_wp2
      have H2 := (HH.out.2.set0 (Aes.psum f 0 8)).set1 (Aes.psum f 8 8)
      have d1 := H2.cell0
      have d2 := H2.cell1
      exact bodyPost_ret (v := .agg #[.int .u64 (Aes.psum f 0 8 : Int), .int .u64 (Aes.psum f 8 8 : Int)]) (by simp [results, Tryd.results42, go_sem, c2, c3]) rfl
        ⟨rfl, (HH.out.1.setCell (by simp) _).setCell (by simp) _⟩
end Go.Proofs.YtecdfjcncgcegaaDoor
