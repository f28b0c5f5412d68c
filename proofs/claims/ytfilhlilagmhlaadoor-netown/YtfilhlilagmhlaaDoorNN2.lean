/- Contracts: New, checkWay, Len, copyOf, find, At. -/
import Derived.Test.YtfilhlilagmhlaaDoorNN1
import Derived.Test.YtfilhlilagmhlaaDoorEI
namespace Go.Proofs.YtfilhlilagmhlaaDoor
open Go.RowKit

def sWay : ByteArray := { data := #[119, 97, 121] }
def sFrame : ByteArray := { data := #[102, 114, 97, 109, 101] }
def sBit : ByteArray := { data := #[98, 105, 116] }
theorem bare (c : Int) : chain [] c = .iface 44 (.int .i64 c) := rfl
/-- An error of one place, with old memory left alone. -/
def Err (w : World) (c : Int) (e : Ending) (w' : World) : Prop := ∃ ps, e = .returned (chain ps c) ∧ Below w.heap.size w w'

set_option maxHeartbeats 1000000 in
set_option maxRecDepth 100000 in
theorem checkWay_bad (P : Value) (z : Int) (w : World) (hg : Handle w) (hz : z < 0 ∨ 2 ≤ z) :
    Calls Tryd.prog 26 #[P, .int .i64 z] w (Err w 1) := by
  have HW := Lib.hid (wrap_bare 1 z sWay w hg)
  rw [bare] at HW
  by_cases h0 : z < 0
  · clear hz hg
    go_enter Tryd.func26, Tryd.ntmps26
    go_wp2_with fail
    refine HW.out.mono ?_
    rintro e w1 ⟨rfl, hb⟩
    have HB := Lib.hid hb
    clear hb
    go_wp2
    go_ret
    exact ⟨_, rfl, HB.out⟩
  · have k1 : decide (z < 0) = false := decide_eq_false h0
    have k2 : (2 : Int) ≤ z := by omega
    clear hz hg h0
    go_enter Tryd.func26, Tryd.ntmps26
    go_wp2_with fail
    refine HW.out.mono ?_
    rintro e w1 ⟨rfl, hb⟩
    have HB := Lib.hid hb
    clear hb
    go_wp2
    go_ret
    exact ⟨_, rfl, HB.out⟩
set_option maxHeartbeats 1000000 in
set_option maxRecDepth 100000 in
theorem checkWay_ok (P : Value) (k : Nat) (w : World) (hk : k < 2) :
    Calls Tryd.prog 26 #[P, .int .i64 (k : Int)] w fun e w' => e = .returned .nilIface ∧ w = w' := by
  have k1 : decide ((k : Int) < 0) = false := decide_eq_false (by omega)
  have k2 : decide ((2 : Int) ≤ (k : Int)) = false := decide_eq_false (by omega)
  have k3 : decide (2 ≤ k) = false := decide_eq_false (by omega)
  clear hk
  go_enter Tryd.func26, Tryd.ntmps26
  go_wp2
  go_ret
  exact ⟨rfl, rfl⟩
set_option maxHeartbeats 1000000 in
set_option maxRecDepth 100000 in
theorem copyOf_any (A : Option Addr) (n c : Nat) (f : Nat → Nat) (w : World) (hA : AtBO w A n f) (hn : n ≤ 140737488355328) :
    Calls Tryd.prog 25 #[.slice A n c] w fun e w' => e = .returned (sl8 w.heap.size n n) ∧ OwnB w' w.heap.size n 5 f ∧ Below w.heap.size w w' ∧ w'.heap.size = w.heap.size + 1 := by
  have h1 := makeBs w n (by omega)
  have hb : Below w.heap.size w (w.alloc (.cells (bys n fun _ => 0) 5)) := (Below.refl _ _).alloc (Nat.le_refl _) _
  have ho := OwnB.new w n 5 (fun _ => 0)
  have h2 := fun ty => run_copyB _ w.heap.size n c n A f _ ty ho (hA.below hb)
  have HE := Lib.hid (And.intro (ho.setRow f) (And.intro (Below.row hb (Nat.le_refl _) (bys n f)) (show ((w.alloc (.cells (bys n fun _ => 0) 5)).setRow w.heap.size (bys n f)).heap.size = w.heap.size + 1 by simp [World.setRow])))
  clear hA hn hb ho
  go_enter Tryd.func25, Tryd.ntmps25
  go_wp2
  go_ret
  exact ⟨rfl, HE.out⟩
set_option maxHeartbeats 1000000 in
set_option maxRecDepth 100000 in
theorem new_any (w : World) : Calls Tryd.prog 7 #[] w fun e w' => e = .returned (.pointer (some ⟨w.heap.size, 0, none⟩)) ∧ w' = w.alloc (.cells #[.slice none 0 0, .slice none 0 0] 55) := by
  go_enter Tryd.func7, Tryd.ntmps7
  go_wp2
  go_ret
  exact ⟨rfl, rfl⟩
def St.new (p : Nat) : St := ⟨p, fun _ => .slice none 0 0, fun _ => []⟩
theorem netAt_new (w : World) (base : Nat) (hb : base ≤ w.heap.size) : NetAt (w.alloc (.cells #[.slice none 0 0, .slice none 0 0] 55)) base (St.new w.heap.size) where
  net := heap_alloc_new w _
  lo := hb
  way k hk := World.ownsRow_nil _ _ _ _
  fr k hk x hx := absurd hx (by simp [St.new])
  nd k hk := by simp [St.new]
  ap q r _ _ _ := ⟨fun b h => (by cases h), fun x hx => absurd hx (by simp [St.new])⟩
  short k hk := by simp [St.new]
set_option maxHeartbeats 1000000 in
set_option maxRecDepth 100000 in
theorem len_ok (base : Nat) (s : St) (k : Nat) (w : World) (hN : NetAt w base s) (hk : k < 2) :
    Calls Tryd.prog 11 #[.pointer (some ⟨s.p, 0, none⟩), .int .i64 (k : Int)] w fun e w' => e = .returned (.int .i64 ((s.L k).length : Int)) ∧ w = w' := by
  obtain ⟨A, c, hv, _⟩ := (hN.way k hk).slice
  have hc := hN.cell k hk
  rw [hv] at hc
  have HC := Lib.hid (checkWay_ok (.pointer (some ⟨s.p, 0, none⟩)) k w hk)
  clear hN hv
  rcases (show k = 0 ∨ k = 1 by omega) with rfl | rfl
  all_goals
    clear hk
    go_enter Tryd.func11, Tryd.ntmps11
    go_wp2_with fail
    refine HC.out.mono ?_
    rintro e w1 ⟨rfl, rfl⟩
    go_wp2
    go_ret
    exact ⟨rfl, rfl⟩
set_option maxHeartbeats 1000000 in
set_option maxRecDepth 100000 in
theorem len_bad (P : Value) (z : Int) (w : World) (hg : Handle w) (hz : z < 0 ∨ 2 ≤ z) :
    Calls Tryd.prog 11 #[P, .int .i64 z] w fun e w' => e = .returned (.int .i64 0) ∧ Below w.heap.size w w' := by
  have HC := Lib.hid (checkWay_bad P z w hg hz)
  clear hz hg
  go_enter Tryd.func11, Tryd.ntmps11
  go_wp2_with fail
  refine HC.out.mono ?_
  rintro e w1 ⟨ps, rfl, hb⟩
  obtain ⟨T, u, hT⟩ := chain_iface ps 1
  rw [hT]
  have HB := Lib.hid hb
  clear hb hT
  go_wp2
  go_ret
  exact ⟨rfl, HB.out⟩
theorem Way.cell {w : World} {base : Nat} {v : Value} {L : List Fr} (h : Way w base v L) {i : Nat} {x : Fr} (hx : L[i]? = some x) : ∃ g c, v = .slice (some ⟨g, 0, none⟩) L.length c ∧ w.cell? ⟨g, i, none⟩ = some (frV x) ∧ i < L.length ∧ L.length ≤ c := by
  have hi : i < L.length := (List.getElem?_eq_some_iff.1 hx).1
  rcases h.2 with ⟨_, h0⟩ | ⟨g, cap, cur, rfl, h1, h2, h3, h4, h5, h6⟩
  · omega
  · refine ⟨g, cap, rfl, ?_, hi, h3⟩
    rw [cell_of_row w g i cur 32 (0, 0) h2]
    have : (cur.toList.take (L.length * 1))[i]? = some (frV x) := by rw [h6, List.getElem?_map, hx]; rfl
    rw [Nat.mul_one, List.getElem?_take, if_pos hi] at this
    simpa using this
/-- find, At, Deliver: an error beside no bytes. -/
def Err2 (w : World) (c : Int) (e : Ending) (w' : World) : Prop := ∃ ps, e = .returned (.tuple #[.slice none 0 0, chain ps c]) ∧ Below w.heap.size w w'
set_option maxHeartbeats 1000000 in
set_option maxRecDepth 100000 in
theorem find_way (P : Value) (z i : Int) (w : World) (hg : Handle w) (hz : z < 0 ∨ 2 ≤ z) :
    Calls Tryd.prog 24 #[P, .int .i64 z, .int .i64 i] w (Err2 w 1) := by
  have HC := Lib.hid (checkWay_bad P z w hg hz)
  clear hz hg
  go_enter Tryd.func24, Tryd.ntmps24
  go_wp2_with fail
  refine HC.out.mono ?_
  rintro e w1 ⟨ps, rfl, hb⟩
  obtain ⟨T, u, hT⟩ := chain_iface ps 1
  have HB := Lib.hid (And.intro hb hT)
  rw [hT]
  clear hb hT
  go_wp2
  go_ret2
  exact ⟨ps, by rw [HB.out.2]; rfl, HB.out.1⟩
set_option maxHeartbeats 1000000 in
set_option maxRecDepth 100000 in
theorem find_none (base : Nat) (s : St) (k : Nat) (z : Int) (w : World) (hN : NetAt w base s) (hg : Handle w) (hk : k < 2) (hz : z < 0 ∨ ((s.L k).length : Int) ≤ z) :
    Calls Tryd.prog 24 #[.pointer (some ⟨s.p, 0, none⟩), .int .i64 (k : Int), .int .i64 z] w (Err2 w 4) := by
  obtain ⟨A, c, hv, _⟩ := (hN.way k hk).slice
  have hc := hN.cell k hk
  rw [hv] at hc
  have HC := Lib.hid (checkWay_ok (.pointer (some ⟨s.p, 0, none⟩)) k w hk)
  have HW := Lib.hid (wrap_bare 4 z sFrame w hg)
  rw [bare] at HW
  clear hN hv hg
  generalize (s.L k).length = n at hc hz
  by_cases h0 : z < 0
  · clear hz
    rcases (show k = 0 ∨ k = 1 by omega) with rfl | rfl
    all_goals
      clear hk
      go_enter Tryd.func24, Tryd.ntmps24
      go_wp2_with fail
      refine HC.out.mono ?_
      rintro e w1 ⟨rfl, rfl⟩
      go_wp2_with fail
      refine HW.out.mono ?_
      rintro e w1 ⟨rfl, hb⟩
      have HB := Lib.hid hb
      clear hb
      go_wp2
      go_ret2
      exact ⟨_, rfl, HB.out⟩
  · have k1 : decide (z < 0) = false := decide_eq_false h0
    have k2 : (n : Int) ≤ z := by omega
    clear hz h0
    rcases (show k = 0 ∨ k = 1 by omega) with rfl | rfl
    all_goals
      clear hk
      go_enter Tryd.func24, Tryd.ntmps24
      go_wp2_with fail
      refine HC.out.mono ?_
      rintro e w1 ⟨rfl, rfl⟩
      go_wp2_with fail
      refine HW.out.mono ?_
      rintro e w1 ⟨rfl, hb⟩
      have HB := Lib.hid hb
      clear hb
      go_wp2
      go_ret2
      exact ⟨_, rfl, HB.out⟩
set_option maxHeartbeats 1000000 in
set_option maxRecDepth 100000 in
theorem find_ok (base : Nat) (s : St) (k i : Nat) (x : Fr) (w : World) (hN : NetAt w base s) (hk : k < 2) (hx : (s.L k)[i]? = some x) :
    Calls Tryd.prog 24 #[.pointer (some ⟨s.p, 0, none⟩), .int .i64 (k : Int), .int .i64 (i : Int)] w fun e w' => e = .returned (.tuple #[frV x, .nilIface]) ∧ w = w' := by
  obtain ⟨g, c, hv, hce, hi, hc2⟩ := (hN.way k hk).cell hx
  have hc := hN.cell k hk
  rw [hv] at hc
  have HC := Lib.hid (checkWay_ok (.pointer (some ⟨s.p, 0, none⟩)) k w hk)
  have k1 : decide ((i : Int) < 0) = false := decide_eq_false (by omega)
  have k2 : decide (((s.L k).length : Int) ≤ (i : Int)) = false := decide_eq_false (by omega)
  have k3 : decide ((s.L k).length ≤ i) = false := decide_eq_false (by omega)
  have k4 : (i : Int) < ((s.L k).length : Int) := by omega
  clear hN hv hx hi hc2
  generalize (s.L k).length = n at hc k2 k3 k4
  unfold frV at hce ⊢
  rcases (show k = 0 ∨ k = 1 by omega) with rfl | rfl
  all_goals
    clear hk
    go_enter Tryd.func24, Tryd.ntmps24
    go_wp2_with fail
    refine HC.out.mono ?_
    rintro e w1 ⟨rfl, rfl⟩
    go_wp2
    go_ret2
    exact ⟨rfl, rfl⟩
theorem Lies.atBO {w : World} {base : Nat} {x : Fr} (h : Lies w base x) : AtBO w (some ⟨x.blk, 0, none⟩) x.len x.dat := (AtB.own h.own).opt
set_option maxHeartbeats 1000000 in
set_option maxRecDepth 100000 in
theorem at_ok (base : Nat) (s : St) (k i : Nat) (x : Fr) (w : World) (hN : NetAt w base s) (hk : k < 2) (hx : (s.L k)[i]? = some x) :
    Calls Tryd.prog 10 #[.pointer (some ⟨s.p, 0, none⟩), .int .i64 (k : Int), .int .i64 (i : Int)] w fun e w' => ∃ b, e = .returned (.tuple #[sl8 b x.len x.len, .nilIface]) ∧ OwnB w' b x.len 5 x.dat ∧ Below w.heap.size w w' ∧ b = w.heap.size := by
  have HF := Lib.hid (find_ok base s k i x w hN hk hx)
  have hl := hN.fr k hk x (List.mem_of_getElem? hx)
  have HC := Lib.hid (copyOf_any _ x.len x.len x.dat w hl.atBO hl.small)
  clear hN hk hx hl
  unfold frV at HF
  go_enter Tryd.func10, Tryd.ntmps10
  go_wp2_with fail
  refine HF.out.mono ?_
  rintro e w1 ⟨rfl, rfl⟩
  go_wp2_with fail
  refine HC.out.mono ?_
  rintro e w1 ⟨rfl, ho, hb, _⟩
  have HB := Lib.hid (And.intro ho hb)
  clear ho hb
  go_wp2
  go_ret2
  exact ⟨_, rfl, HB.out.1, HB.out.2, rfl⟩
set_option maxHeartbeats 1000000 in
set_option maxRecDepth 100000 in
theorem at_bad (P k i : Value) (c : Int) (w : World) (h : Calls Tryd.prog 24 #[P, k, i] w (Err2 w c)) :
    Calls Tryd.prog 10 #[P, k, i] w (Err2 w c) := by
  have HF := Lib.hid h
  clear h
  go_enter Tryd.func10, Tryd.ntmps10
  go_wp2_with fail
  refine HF.out.mono ?_
  rintro e w1 ⟨ps, rfl, hb⟩
  obtain ⟨T, u, hT⟩ := chain_iface ps c
  have HB := Lib.hid (And.intro hb hT)
  rw [hT]
  clear hb hT
  go_wp2
  go_ret2
  exact ⟨ps, by rw [HB.out.2]; rfl, HB.out.1⟩
end Go.Proofs.YtfilhlilagmhlaaDoor
