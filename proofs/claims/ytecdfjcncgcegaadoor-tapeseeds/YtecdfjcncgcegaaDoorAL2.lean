/- Blocks of labels and labels of blocks: the contracts of aes' blockOf. -/
import Derived.Test.YtecdfjcncgcegaaDoorAL1a
import Derived.Test.YtecdfjcncgcegaaDoorAB5
namespace Go.Proofs.YtecdfjcncgcegaaDoor
open Go.RowKit

def BO (w : World) (a b : Nat) (i : Nat) (wr : World) : Prop := Below w.heap.size w wr ∧ Lbl wr w.heap.size a b ∧ OwnB wr (w.heap.size + 1) 16 30 (fun _ => 0) ∧ OwnB wr (w.heap.size + 2) 16 30 (upTo i (Aes.labB a b) fun _ => 0)
theorem BO.start (w : World) (a b : Nat) : BO w a b 0 (((w.alloc (.cells #[.int .u64 (a : Int), .int .u64 (b : Int)] 39)).alloc (.cells (bys 16 fun _ => 0) 30)).alloc (.cells (bys 16 fun _ => 0) 30)) := by
  refine ⟨(((Below.refl _ _).alloc (Nat.le_refl _) _).alloc (by simp) _).alloc (by simp; omega) _, ((Lbl.new w a b).alloc _).alloc _, ?_, ?_⟩
  · have := OwnB.new (w.alloc (.cells #[.int .u64 (a : Int), .int .u64 (b : Int)] 39)) 16 30 fun _ => 0
    simp only [World.size_alloc] at this
    exact this.alloc _
  · have := OwnB.new ((w.alloc (.cells #[.int .u64 (a : Int), .int .u64 (b : Int)] 39)).alloc (.cells (bys 16 fun _ => 0) 30)) 16 30 fun _ => 0
    simp only [World.size_alloc] at this
    exact this
theorem BO.set {w wr : World} {a b i : Nat} {x : Int} (h : BO w a b i wr) (hx : x = (Aes.labB a b i : Int)) : BO w a b (i + 1) (wr.setCell ⟨w.heap.size + 2, i, none⟩ (.int .u8 x)) := by
  obtain ⟨h0, h1, h2, h3⟩ := h
  subst hx
  exact ⟨h0.setCell (by simp) _, h1.far (by simp) _, h2.far (by simp) _, (h3.set i _).congr fun q _ => upTo_step i (Aes.labB a b) (fun _ => 0) q⟩
set_option maxHeartbeats 4000000 in
set_option maxRecDepth 100000 in
theorem blockOf_any (a b : Nat) (w : World) (ha : a < 18446744073709551616) (hb : b < 18446744073709551616) :
    Calls Tryd.prog 44 #[.agg #[.int .u64 (a : Int), .int .u64 (b : Int)]] w fun e w' => e = .returned (.agg (bys 16 (Aes.labB a b))) ∧ Below w.heap.size w w' := by
  go_enter Tryd.func44, Tryd.ntmps44
  go_wp2
  go_loopw [5] (fun t wr => ∃ i : Nat, i ≤ 16 ∧ t = .int .i64 i ∧ BO w a b i wr) (fun t _ => 16 - (intOf t).toNat)
  case atStart => exact ⟨0, by omega, rfl, BO.start w a b⟩
  case round =>
    obtain ⟨i, hi, rfl, H⟩ := hrel
    by_cases hlt : i < 16
    · have c0 := H.2.1.cell0
      have c1 := H.2.1.cell1
      have c2 : wr.cell? ⟨w.heap.size + 2, i, none⟩ = some (.int .u8 0) := by rw [H.2.2.2.cell i hlt, upTo_at]; rfl
      have c3 := H.2.2.2.frozen i
      have HH := Lib.hid H
      clear H
      rcases (show i = 0 ∨ i = 1 ∨ i = 2 ∨ i = 3 ∨ i = 4 ∨ i = 5 ∨ i = 6 ∨ i = 7 ∨ i = 8 ∨ i = 9 ∨ i = 10 ∨ i = 11 ∨ i = 12 ∨ i = 13 ∨ i = 14 ∨ i = 15 by omega) with rfl | rfl | rfl | rfl | rfl | rfl | rfl | rfl | rfl | rfl | rfl | rfl | rfl | rfl | rfl | rfl
      · go_wp2
        go_roundw
        case rel => exact ⟨1, by omega, rfl, BO.set HH.out (by show _ = ((a / 1 % 256 : Nat) : Int); omega)⟩
        case measure => simp [intOf]
      · go_wp2
        go_roundw
        case rel => exact ⟨2, by omega, rfl, BO.set HH.out (by show _ = ((a / 256 % 256 : Nat) : Int); omega)⟩
        case measure => simp [intOf]
      · go_wp2
        go_roundw
        case rel => exact ⟨3, by omega, rfl, BO.set HH.out (by show _ = ((a / 65536 % 256 : Nat) : Int); omega)⟩
        case measure => simp [intOf]
      · go_wp2
        go_roundw
        case rel => exact ⟨4, by omega, rfl, BO.set HH.out (by show _ = ((a / 16777216 % 256 : Nat) : Int); omega)⟩
        case measure => simp [intOf]
      · go_wp2
        go_roundw
        case rel => exact ⟨5, by omega, rfl, BO.set HH.out (by show _ = ((a / 4294967296 % 256 : Nat) : Int); omega)⟩
        case measure => simp [intOf]
      · go_wp2
        go_roundw
        case rel => exact ⟨6, by omega, rfl, BO.set HH.out (by show _ = ((a / 1099511627776 % 256 : Nat) : Int); omega)⟩
        case measure => simp [intOf]
      · go_wp2
        go_roundw
        case rel => exact ⟨7, by omega, rfl, BO.set HH.out (by show _ = ((a / 281474976710656 % 256 : Nat) : Int); omega)⟩
        case measure => simp [intOf]
      · go_wp2
        go_roundw
        case rel => exact ⟨8, by omega, rfl, BO.set HH.out (by show _ = ((a / 72057594037927936 % 256 : Nat) : Int); omega)⟩
        case measure => simp [intOf]
      · go_wp2
        go_roundw
        case rel => exact ⟨9, by omega, rfl, BO.set HH.out (by show _ = ((b / 1 % 256 : Nat) : Int); omega)⟩
        case measure => simp [intOf]
      · go_wp2
        go_roundw
        case rel => exact ⟨10, by omega, rfl, BO.set HH.out (by show _ = ((b / 256 % 256 : Nat) : Int); omega)⟩
        case measure => simp [intOf]
      · go_wp2
        go_roundw
        case rel => exact ⟨11, by omega, rfl, BO.set HH.out (by show _ = ((b / 65536 % 256 : Nat) : Int); omega)⟩
        case measure => simp [intOf]
      · go_wp2
        go_roundw
        case rel => exact ⟨12, by omega, rfl, BO.set HH.out (by show _ = ((b / 16777216 % 256 : Nat) : Int); omega)⟩
        case measure => simp [intOf]
      · go_wp2
        go_roundw
        case rel => exact ⟨13, by omega, rfl, BO.set HH.out (by show _ = ((b / 4294967296 % 256 : Nat) : Int); omega)⟩
        case measure => simp [intOf]
      · go_wp2
        go_roundw
        case rel => exact ⟨14, by omega, rfl, BO.set HH.out (by show _ = ((b / 1099511627776 % 256 : Nat) : Int); omega)⟩
        case measure => simp [intOf]
      · go_wp2
        go_roundw
        case rel => exact ⟨15, by omega, rfl, BO.set HH.out (by show _ = ((b / 281474976710656 % 256 : Nat) : Int); omega)⟩
        case measure => simp [intOf]
      · go_wp2
        go_roundw
        case rel => exact ⟨16, by omega, rfl, BO.set HH.out (by show _ = ((b / 72057594037927936 % 256 : Nat) : Int); omega)⟩
        case measure => simp [intOf]
    · obtain rfl : i = 16 := by omega
      obtain ⟨h0, h1, h2, h3⟩ := H
      have HH := Lib.hid h0
      clear h0
      go_wp2_with (first | (refine ld_row 30 16 _ Tryd.underlying30 Tryd.info30 rfl _ rfl _ rfl h3 ?_) | (refine st_row 30 16 Tryd.info30 rfl _ _ rfl _ rfl rfl h2 ?_))
      exact bodyPost_ret (v := .agg (bys 16 (Aes.labB a b))) (res_row 30 16 _ Tryd.underlying30 Tryd.info30 rfl _ _ _ rfl (h2.setRow _) fun q hq => upTo_full 16 _ _ q hq) rfl ⟨rfl, Below.row HH.out (by omega) _⟩
end Go.Proofs.YtecdfjcncgcegaaDoor
