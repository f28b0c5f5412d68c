/- The contracts of tape's tooShort, Next, Label, Used, Left, New, Load. -/
import Derived.Test.YtecdfjcncgcegaaDoorTP1
import Derived.Test.YtecdfjcncgcegaaDoorAB4
import Derived.Laws.CopyRow
import Derived.Laws.MakeOwn
namespace Go.Proofs.YtecdfjcncgcegaaDoor
open Go.RowKit

/-- What is told where a tape is too short: the number 40, in one place. -/
abbrev shortE (u : Nat) : Value := chain [(⟨#[116, 97, 112, 101]⟩, (u : Int))] 40
set_option maxHeartbeats 1000000 in
theorem short_any (w : World) (g h N : Nat) (f : Nat → Int) (u : Nat) (ht : Tap w g h N f u) (hg : Handle w) :
    Calls Tryd.prog 20 #[.pointer (some ⟨g, 0, none⟩)] w fun e w' => e = .returned (shortE u) ∧ Below w.heap.size w w' := by
  obtain ⟨_, _, _, p, s, hT, _⟩ := ht
  have c2 := hT.c2
  have HW := Lib.hid (wrap_bare 40 (u : Int) ⟨#[116, 97, 112, 101]⟩ w hg)
  clear hT hg
  go_enter Tryd.func20, Tryd.ntmps20
  go_wp2_with fail
  refine HW.out.mono ?_
  rintro e w1 ⟨rfl, hb⟩
  have HB := Lib.hid hb
  clear hb
  obtain ⟨T, v, hT⟩ := chain_iface [(⟨#[116, 97, 112, 101]⟩, (u : Int))] 40
  have HT := Lib.hid hT
  rw [hT]
  clear hT
  go_wp2
  go_ret
  exact ⟨by show _ = Ending.returned (chain _ _); rw [HT.out]; rfl, HB.out⟩

set_option maxHeartbeats 1000000 in
theorem next_some (w : World) (g h N : Nat) (f : Nat → Int) (u : Nat) (ht : Tap w g h N f u) (hu : u < N) :
    Calls Tryd.prog 15 #[.pointer (some ⟨g, 0, none⟩)] w fun e w' => e = .returned (.tuple #[.int .u64 (f u), .nilIface]) ∧ Tap w' g h N f (u + 1) ∧ Keep g w w' := by
  have HT := Lib.hid (take_any w g h N f u ht hu)
  obtain ⟨_, _, _, p, s, hT, _⟩ := ht
  have c3 := hT.c3
  have l1 : ¬ ((N : Int) - (u : Int) < 1) := by omega
  clear hT
  go_enter Tryd.func15, Tryd.ntmps15
  go_wp2_with fail
  refine HT.out.mono ?_
  rintro e w1 ⟨rfl, h1, h2⟩
  have HH := Lib.hid (And.intro h1 h2)
  clear h1 h2
  go_wp2
  go_ret2
  exact ⟨rfl, HH.out.1, HH.out.2⟩
set_option maxHeartbeats 1000000 in
theorem next_none (w : World) (g h N : Nat) (f : Nat → Int) (u : Nat) (ht : Tap w g h N f u) (hu : ¬ u < N) (hg : Handle w) :
    Calls Tryd.prog 15 #[.pointer (some ⟨g, 0, none⟩)] w fun e w' => e = .returned (.tuple #[.int .u64 0, shortE u]) ∧ Below w.heap.size w w' := by
  have HT := Lib.hid (short_any w g h N f u ht hg)
  obtain ⟨_, hle, _, p, s, hT, _⟩ := ht
  have c3 := hT.c3
  have l1 : (N : Int) - (u : Int) < 1 := by omega
  clear hT hg
  go_enter Tryd.func15, Tryd.ntmps15
  go_wp2_with fail
  refine HT.out.mono ?_
  rintro e w1 ⟨rfl, h1⟩
  have HH := Lib.hid h1
  clear h1
  obtain ⟨T, v, hT⟩ : ∃ T v, shortE u = .iface T v := chain_iface _ _
  have HV := Lib.hid hT
  rw [hT]
  clear hT HT
  go_wp2
  go_ret2
  exact ⟨by rw [HV.out]; rfl, HH.out⟩

theorem Keep.alloc {g : Nat} {w w' : World} (h : Keep g w w') (o : Obj) : Keep g w (w'.alloc o) :=
  h.trans (Keep.of_below ((Below.refl w'.heap.size w').alloc (Nat.le_refl _) o) (Nat.le_refl _))
/-- Blocks below B, but g, are as they were. -/
theorem lbl_keep {w w' : World} {g k : Nat} {a b : Int} (h : Lbl w g a b) (hk : Keep k w w') (hg : g ≠ k) : Lbl w' g a b := (hk.block g h.lt hg).trans h
/-- What is set in a block that w hadn't is no change. -/
theorem Keep.fresh {g : Nat} {w w' : World} (h : Keep g w w') {p : Addr} (hp : w.heap.size ≤ p.block) (v : Value) : Keep g w (w'.setCell p v) :=
  ⟨h.os, h.tape, h.output, by have := h.size; simpa [World.setCell] using this, fun k hk hg => (Below.heap_setCell w' p v k (by omega)).trans (h.block k hk hg)⟩
theorem Tap.src_lt {w : World} {g h N u : Nat} {f : Nat → Int} (ht : Tap w g h N f u) (hN : 0 < N) : h < w.heap.size := by
  obtain ⟨_, _, _, p, s, _, hS⟩ := ht
  rcases hS with ⟨k, _, _, hC, _⟩ | ⟨ad, c, _, _, rfl, hA⟩
  · exact OwnB.lt hC
  · have := World.block_lt_of_cell? _ _ (hA 0 hN)
    simpa [Addr.add] using this
set_option maxHeartbeats 1000000 in
theorem label_some (w : World) (g h N : Nat) (f : Nat → Int) (u : Nat) (ht : Tap w g h N f u) (hu : u + 1 < N) :
    Calls Tryd.prog 14 #[.pointer (some ⟨g, 0, none⟩)] w fun e w' => e = .returned (.tuple #[lab (f u) (f (u + 1)), .nilIface]) ∧ Tap w' g h N f (u + 2) ∧ Keep g w w' := by
  have hlt := ht.lt
  have hlh := ht.src_lt (by omega)
  have ht1 := ht.below ((Below.refl w.heap.size w).alloc (Nat.le_refl _) (.cells #[.int .u64 0, .int .u64 0] 39))
  have hl1 := Lbl.new w 0 0
  have HT := Lib.hid (take_any _ g h N f u ht1 (by omega))
  have HL := Lib.hid hl1
  obtain ⟨_, _, _, p, s, hT, _⟩ := ht1
  have c3 := hT.c3
  have l1 : ¬ ((N : Int) - (u : Int) < 2) := by omega
  clear hT hl1 ht
  go_enter Tryd.func14, Tryd.ntmps14
  go_wp2_with fail
  refine HT.out.mono ?_
  rintro e w1 ⟨rfl, h1, h2⟩
  have hl := lbl_keep HL.out h2 (by omega)
  have HH := Lib.hid (And.intro h1 (And.intro (((Keep.refl g w).alloc _).trans h2) hl))
  clear h1 h2 hl c3 HT HL
  go_wp2_with fail
  refine (take_any _ g h N f (u + 1) HH.out.1 hu).mono ?_
  rintro e w2 ⟨rfl, h1, h2⟩
  have hl := lbl_keep HH.out.2.2 h2 (by omega)
  have H2 := Lib.hid (And.intro h1 (And.intro (HH.out.2.1.trans h2) hl))
  clear h1 h2 hl HH
  have r0 := H2.out.2.2.cell0
  have r1 := H2.out.2.2.cell1
  have z0 := H2.out.2.2.frozen 0
  have z1 := H2.out.2.2.frozen 1
  go_wp2
  have hs := (H2.out.2.2.set0 (f u)).set1 (f (u + 1))
  have s0 := hs.cell0
  have s1 := hs.cell1
  exact bodyPost_ret (v := .tuple #[lab (f u) (f (u + 1)), .nilIface]) (by simp [results, Tryd.results14, go_sem, s0, s1]) rfl
    ⟨rfl, H2.out.1.keep (((Keep.refl w.heap.size w2).set (p := ⟨w.heap.size, 0, none⟩) rfl _).set (p := ⟨w.heap.size, 1, none⟩) rfl _) (by omega) (by omega), Keep.fresh (Keep.fresh H2.out.2.1 (Nat.le_refl _) _) (Nat.le_refl _) _⟩
set_option maxHeartbeats 1000000 in
theorem label_none (w : World) (g h N : Nat) (f : Nat → Int) (u : Nat) (ht : Tap w g h N f u) (hu : ¬ u + 1 < N) (hg : Handle w) :
    Calls Tryd.prog 14 #[.pointer (some ⟨g, 0, none⟩)] w fun e w' => e = .returned (.tuple #[lab 0 0, shortE u]) ∧ Below w.heap.size w w' := by
  have hb0 := (Below.refl w.heap.size w).alloc (Nat.le_refl _) (.cells #[.int .u64 0, .int .u64 0] 39)
  have ht1 := ht.below hb0
  have HT := Lib.hid (short_any _ g h N f u ht1 (hg.below hb0 hg.pos))
  have HL := Lib.hid (And.intro (Lbl.new w 0 0) hb0)
  obtain ⟨_, hle, _, p, s, hT, _⟩ := ht1
  have c3 := hT.c3
  have l1 : (N : Int) - (u : Int) < 2 := by omega
  clear hT ht hg hb0
  go_enter Tryd.func14, Tryd.ntmps14
  go_wp2_with fail
  refine HT.out.mono ?_
  rintro e w1 ⟨rfl, h1⟩
  have hl : Lbl w1 w.heap.size 0 0 := (h1.block _ HL.out.1.lt).trans HL.out.1
  have HH := Lib.hid (And.intro hl (HL.out.2.trans (h1.mono HL.out.2.size)))
  clear h1 hl c3 HL
  have r0 := HH.out.1.cell0
  have r1 := HH.out.1.cell1
  have z0 := HH.out.1.frozen 0
  have z1 := HH.out.1.frozen 1
  obtain ⟨T, v, hT⟩ : ∃ T v, shortE u = .iface T v := chain_iface _ _
  have HV := Lib.hid hT
  rw [hT]
  clear hT HT
  go_wp2
  have hs := (HH.out.1.set0 0).set1 0
  have s0 := hs.cell0
  have s1 := hs.cell1
  exact bodyPost_ret (v := .tuple #[lab 0 0, .iface T v]) (by simp [results, Tryd.results14, go_sem, s0, s1]) rfl
    ⟨by rw [HV.out], (HH.out.2.setCell (Nat.le_refl _) _).setCell (Nat.le_refl _) _⟩

set_option maxHeartbeats 400000 in
theorem used_any (w : World) (g h N : Nat) (f : Nat → Int) (u : Nat) (ht : Tap w g h N f u) :
    Calls Tryd.prog 12 #[.pointer (some ⟨g, 0, none⟩)] w fun e w' => e = .returned (.int .i64 (u : Int)) ∧ w = w' := by
  obtain ⟨_, _, _, p, s, hT, _⟩ := ht
  have c2 := hT.c2
  clear hT
  go_enter Tryd.func12, Tryd.ntmps12
  go_wp2
  go_ret
  exact ⟨rfl, rfl⟩
set_option maxHeartbeats 400000 in
theorem left_any (w : World) (g h N : Nat) (f : Nat → Int) (u : Nat) (ht : Tap w g h N f u) :
    Calls Tryd.prog 13 #[.pointer (some ⟨g, 0, none⟩)] w fun e w' => e = .returned (.int .i64 ((N : Int) - (u : Int))) ∧ w = w' := by
  obtain ⟨_, _, _, p, s, hT, _⟩ := ht
  have c3 := hT.c3
  clear hT
  go_enter Tryd.func13, Tryd.ntmps13
  go_wp2
  go_ret
  exact ⟨rfl, rfl⟩

/-- How many words a tape of a seed has. -/
def cnt (n : Int) : Nat := (min (max n 0) 1048576).toNat
/-- A new tape. -/
def NewT (N : Nat) (f : Nat → Int) (w : World) (e : Ending) (w' : World) : Prop :=
  ∃ g h, w.heap.size ≤ g ∧ w.heap.size ≤ h ∧ h < w'.heap.size ∧ e = .returned (.pointer (some ⟨g, 0, none⟩)) ∧ Tap w' g h N f 0 ∧ Below w.heap.size w w'
end Go.Proofs.YtecdfjcncgcegaaDoor
