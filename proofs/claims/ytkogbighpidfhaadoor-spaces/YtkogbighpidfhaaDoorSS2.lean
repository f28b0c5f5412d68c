/- Contracts of strings.Clone and of lex's cut; tokens as values. -/
import Derived.Test.YtkogbighpidfhaaDoorSS1
import Derived.Test.YtkogbighpidfhaaDoorPuL
import Derived.Test.YtkogbighpidfhaaDoorCV1
namespace Go.Proofs.YtkogbighpidfhaaDoor
open Go.RowKit
open Lx

/-- A token's cells. -/
abbrev tkC (k : Int) (s : ByteArray) (n a : Int) : Array Value := #[.int .i64 k, .string s, .int .u64 n, .int .i64 a]
abbrev tkV (k : Int) (s : ByteArray) (n a : Int) : Value := .agg (tkC k s n a)
set_option maxHeartbeats 2000000 in
set_option maxRecDepth 100000 in
theorem clone_any (s : ByteArray) (w : World) (hs : s.size ≤ 281474976710656) : Calls Tryd.prog 48 #[.string s] w fun e w' => e = .returned (.string s) ∧ Below w.heap.size w w' := by
  have HC := Lib.hid (show Calls Tryd.prog 55 #[.string s] w fun e w' => e = .returned (.string s) ∧ Below w.heap.size w w' from AnyPu.stringslite_Clone clL s w hs)
  clear hs
  go_enter Tryd.func48, Tryd.ntmps48
  go_wp2_with fail
  refine HC.out.mono ?_
  rintro e w1 ⟨rfl, hb⟩
  have HB := Lib.hid hb
  clear hb HC
  go_wp2
  go_ret
  exact ⟨rfl, HB.out⟩
/-- A token's block, and what is written into it. -/
abbrev TkB (w : World) (b : Nat) (k : Int) (s : ByteArray) (n a : Int) : Prop := Blk w b 37 (tkC k s n a)
abbrev stK (w : World) (b : Nat) (k : Int) (s : ByteArray) (n a : Int) : World := (((w.setCell ⟨b, 0, none⟩ (.int .i64 k)).setCell ⟨b, 1, none⟩ (.string s)).setCell ⟨b, 2, none⟩ (.int .u64 n)).setCell ⟨b, 3, none⟩ (.int .i64 a)
theorem TkB.st {w : World} {b : Nat} {k : Int} {s : ByteArray} {n a : Int} (h : TkB w b k s n a) (k' : Int) (s' : ByteArray) (n' a' : Int) : TkB (stK w b k' s' n' a') b k' s' n' a' := by
  have := (((Blk.set h 0 (.int .i64 k')).set 1 (.string s')).set 2 (.int .u64 n')).set 3 (.int .i64 a')
  exact this
theorem below_stK {B : Nat} {a0 w : World} (h : Below B a0 w) {b : Nat} (hb : B ≤ b) (k : Int) (s : ByteArray) (n a : Int) : Below B a0 (stK w b k s n a) :=
  (((h.setCell (p := ⟨b, 0, none⟩) hb _).setCell (p := ⟨b, 1, none⟩) hb _).setCell (p := ⟨b, 2, none⟩) hb _).setCell (p := ⟨b, 3, none⟩) hb _
theorem TkB.cells {w : World} {b : Nat} {k : Int} {s : ByteArray} {n a : Int} (h : TkB w b k s n a) : w.cell? ⟨b, 0, none⟩ = some (.int .i64 k) ∧ w.cell? ⟨b, 1, none⟩ = some (.string s) ∧ w.cell? ⟨b, 2, none⟩ = some (.int .u64 n) ∧ w.cell? ⟨b, 3, none⟩ = some (.int .i64 a) :=
  ⟨Blk.cell h 0 rfl, Blk.cell h 1 rfl, Blk.cell h 2 rfl, Blk.cell h 3 rfl⟩
set_option maxHeartbeats 2000000 in
set_option maxRecDepth 100000 in
/-- A token of the text's first n bytes. -/
theorem cut_any (k : Int) (s : ByteArray) (n : Nat) (w : World) (hn : n ≤ s.size) (hs : s.size ≤ 281474976710656) :
    Calls Tryd.prog 39 #[.int .i64 k, .string s, .int .i64 (n : Int)] w fun e w' => e = .returned (tkV k (s.extract 0 n) 0 0) ∧ Below w.heap.size w w' := by
  obtain ⟨w1, hw1⟩ : ∃ x, w.alloc (.cells (tkC 0 ⟨#[]⟩ 0 0) 37) = x := ⟨_, rfl⟩
  have hb1 : Below w.heap.size w w1 := hw1 ▸ (Below.refl _ _).alloc (Nat.le_refl _) _
  have X := hw1 ▸ Blk.new w 37 (tkC 0 ⟨#[]⟩ 0 0)
  have HC := Lib.hid (clone_any (s.extract 0 n) w1 (by rw [ByteArray.size_extract]; omega))
  have l0 : (0 : Int) ≤ (n : Int) := by omega
  have l1 : (n : Int) ≤ (s.size : Int) := by omega
  have HX := Lib.hid (And.intro hb1 X)
  have HW := Lib.hid hw1
  clear hb1 X hn hs hw1
  go_enter Tryd.func39, Tryd.ntmps39
  go_wp2_with fail
  rw [HW.out]
  refine HC.out.mono ?_
  rintro e w2 ⟨rfl, hb⟩
  have Y := HX.out.2.below hb HX.out.2.lt
  obtain ⟨c0, c1, c2, c3⟩ := TkB.cells Y
  have f0 := Y.frozen
  have HB := Lib.hid (HX.out.1.trans (hb.mono HX.out.1.size))
  have HY := Lib.hid Y
  clear hb HC HX HW Y
  go_wp2
  have hz := (TkB.st HY.out k (s.extract 0 n) 0 0).cells
  obtain ⟨z0, z1, z2, z3⟩ := hz
  exact bodyPost_ret (v := tkV k (s.extract 0 n) 0 0) (by simp [results, Tryd.results39, go_sem, z0, z1, z2, z3]) rfl ⟨rfl, below_stK HB.out (Nat.le_refl _) _ _ _ _⟩
end Go.Proofs.YtkogbighpidfhaaDoor
