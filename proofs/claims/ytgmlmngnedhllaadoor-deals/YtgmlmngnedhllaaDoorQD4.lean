/- The contracts of checkDeal and Deal where something is wrong. -/
import Derived.Test.YtgmlmngnedhllaaDoorQD3
namespace Go.Proofs.YtgmlmngnedhllaaDoor
open Go.RowKit

def Bad (z : Int) : Prop := z < 0 ∨ 65536 < z
/-- What is told: the number c, in one place. -/
def Told (w : World) (c : Int) (e : Ending) (w' : World) : Prop := ∃ (p : ByteArray) (a : Int), e = .returned (chain [(p, a)] c) ∧ Below w.heap.size w w'
theorem ok_of {z : Int} (h : ¬ Bad z) : 0 ≤ z ∧ z ≤ 65536 := by
  unfold Bad at h
  omega
set_option maxHeartbeats 4000000 in
set_option maxRecDepth 100000 in
theorem check_bad0 (w : World) (g : Nat) (z1 z2 z3 : Int)  (hbad : Bad z1) (hh : Handle w) :
    Calls Tryd.prog 21 #[.pointer (some ⟨g, 0, none⟩), .int .i64 z1, .int .i64 z2, .int .i64 z3] w (Told w 1) := by
  have hb : Below w.heap.size w (w.alloc (.cells (nums z1 z2 z3) 23)) := (Below.refl _ w).alloc (Nat.le_refl _) _
  have hB : Blk (w.alloc (.cells (nums z1 z2 z3) 23)) w.heap.size 23 (nums z1 z2 z3) := Blk.new w _ _
  have c0 := hB.cell 0 rfl
  have c1 := hB.cell 1 rfl
  have c2 := hB.cell 2 rfl
  have HW := Lib.hid (wrap_bare 1 0 ⟨#[110, 117, 109, 98, 101, 114]⟩ (w.alloc (.cells (nums z1 z2 z3) 23)) (hh.below hb hh.pos))
  obtain ⟨T0, v0, hT⟩ := chain_iface [] 1
  have hT' : chain [] 1 = .iface 41 (.int .i64 1) := rfl
  rw [hT'] at HW
  obtain ⟨T1, v1, hT1⟩ := chain_iface [(⟨#[110, 117, 109, 98, 101, 114]⟩, 0)] 1
  have HT1 := Lib.hid hT1
  rw [hT1] at HW
  have HB := Lib.hid hb
  clear hB hb hT hT' hT1 hh 
  by_cases hneg : z1 < 0
  · clear hbad
    go_enter Tryd.func21, Tryd.ntmps21
    go_wp2
    go_loopw [10, 16] (fun v i wr => wr = w.alloc (.cells (nums z1 z2 z3) 23) ∧ ((i = .int .i64 0 ∧ v = .int .i64 0))) (fun _ i _ => 3 - (intOf i).toNat)
    case atStart => exact ⟨rfl, ⟨rfl, rfl⟩⟩
    case round =>
      obtain ⟨rfl, hr⟩ := hrel
      rcases hr with ⟨rfl, rfl⟩
      · go_wp2_with fail
        refine HW.out.mono ?_
        rintro e w1 ⟨rfl, h1⟩
        have H1 := Lib.hid (HB.out.trans (h1.mono HB.out.size))
        clear h1
        go_wp2
        go_ret
        exact ⟨_, _, by rw [HT1.out]; rfl, H1.out⟩

  · have hbig : (65536 : Int) < z1 := by unfold Bad at hbad; omega
    have hbigd : decide (z1 < 0) = false := decide_eq_false hneg
    clear hbad
    go_enter Tryd.func21, Tryd.ntmps21
    go_wp2
    go_loopw [10, 16] (fun v i wr => wr = w.alloc (.cells (nums z1 z2 z3) 23) ∧ ((i = .int .i64 0 ∧ v = .int .i64 0))) (fun _ i _ => 3 - (intOf i).toNat)
    case atStart => exact ⟨rfl, ⟨rfl, rfl⟩⟩
    case round =>
      obtain ⟨rfl, hr⟩ := hrel
      rcases hr with ⟨rfl, rfl⟩
      · go_wp2_with fail
        refine HW.out.mono ?_
        rintro e w1 ⟨rfl, h1⟩
        have H1 := Lib.hid (HB.out.trans (h1.mono HB.out.size))
        clear h1
        go_wp2
        go_ret
        exact ⟨_, _, by rw [HT1.out]; rfl, H1.out⟩

set_option maxHeartbeats 4000000 in
set_option maxRecDepth 100000 in
theorem check_bad1 (w : World) (g : Nat) (z1 z2 z3 : Int) (h0 : ¬ Bad z1) (hbad : Bad z2) (hh : Handle w) :
    Calls Tryd.prog 21 #[.pointer (some ⟨g, 0, none⟩), .int .i64 z1, .int .i64 z2, .int .i64 z3] w (Told w 1) := by
  have k0 := ok_of h0
  have hb : Below w.heap.size w (w.alloc (.cells (nums z1 z2 z3) 23)) := (Below.refl _ w).alloc (Nat.le_refl _) _
  have hB : Blk (w.alloc (.cells (nums z1 z2 z3) 23)) w.heap.size 23 (nums z1 z2 z3) := Blk.new w _ _
  have c0 := hB.cell 0 rfl
  have c1 := hB.cell 1 rfl
  have c2 := hB.cell 2 rfl
  have a1 : ¬ (z1 < 0) := by omega
  have b1 : ¬ ((65536 : Int) < z1) := by omega
  have e1 : IntKind.i64.wrap (5 * z1) = 5 * z1 := i64_nat _ (by omega) (by omega)
  have HW := Lib.hid (wrap_bare 1 1 ⟨#[110, 117, 109, 98, 101, 114]⟩ (w.alloc (.cells (nums z1 z2 z3) 23)) (hh.below hb hh.pos))
  obtain ⟨T0, v0, hT⟩ := chain_iface [] 1
  have hT' : chain [] 1 = .iface 41 (.int .i64 1) := rfl
  rw [hT'] at HW
  obtain ⟨T1, v1, hT1⟩ := chain_iface [(⟨#[110, 117, 109, 98, 101, 114]⟩, 1)] 1
  have HT1 := Lib.hid hT1
  rw [hT1] at HW
  have HB := Lib.hid hb
  clear hB hb hT hT' hT1 hh h0 k0
  by_cases hneg : z2 < 0
  · clear hbad
    go_enter Tryd.func21, Tryd.ntmps21
    go_wp2
    go_loopw [10, 16] (fun v i wr => wr = w.alloc (.cells (nums z1 z2 z3) 23) ∧ ((i = .int .i64 0 ∧ v = .int .i64 0) ∨ (i = .int .i64 1 ∧ v = .int .i64 (5 * z1)))) (fun _ i _ => 3 - (intOf i).toNat)
    case atStart => exact ⟨rfl, .inl ⟨rfl, rfl⟩⟩
    case round =>
      obtain ⟨rfl, hr⟩ := hrel
      rcases hr with ⟨rfl, rfl⟩ | ⟨rfl, rfl⟩
      · go_wp2
        go_roundw
        case rel => exact ⟨trivial, .inr (⟨by go_num, by go_num⟩)⟩
        case measure => simp [intOf]
      · go_wp2_with fail
        refine HW.out.mono ?_
        rintro e w1 ⟨rfl, h1⟩
        have H1 := Lib.hid (HB.out.trans (h1.mono HB.out.size))
        clear h1
        go_wp2
        go_ret
        exact ⟨_, _, by rw [HT1.out]; rfl, H1.out⟩

  · have hbig : (65536 : Int) < z2 := by unfold Bad at hbad; omega
    have hbigd : decide (z2 < 0) = false := decide_eq_false hneg
    clear hbad
    go_enter Tryd.func21, Tryd.ntmps21
    go_wp2
    go_loopw [10, 16] (fun v i wr => wr = w.alloc (.cells (nums z1 z2 z3) 23) ∧ ((i = .int .i64 0 ∧ v = .int .i64 0) ∨ (i = .int .i64 1 ∧ v = .int .i64 (5 * z1)))) (fun _ i _ => 3 - (intOf i).toNat)
    case atStart => exact ⟨rfl, .inl ⟨rfl, rfl⟩⟩
    case round =>
      obtain ⟨rfl, hr⟩ := hrel
      rcases hr with ⟨rfl, rfl⟩ | ⟨rfl, rfl⟩
      · go_wp2
        go_roundw
        case rel => exact ⟨trivial, .inr (⟨by go_num, by go_num⟩)⟩
        case measure => simp [intOf]
      · go_wp2_with fail
        refine HW.out.mono ?_
        rintro e w1 ⟨rfl, h1⟩
        have H1 := Lib.hid (HB.out.trans (h1.mono HB.out.size))
        clear h1
        go_wp2
        go_ret
        exact ⟨_, _, by rw [HT1.out]; rfl, H1.out⟩

set_option maxHeartbeats 4000000 in
set_option maxRecDepth 100000 in
theorem check_bad2 (w : World) (g : Nat) (z1 z2 z3 : Int) (h0 : ¬ Bad z1) (h1 : ¬ Bad z2) (hbad : Bad z3) (hh : Handle w) :
    Calls Tryd.prog 21 #[.pointer (some ⟨g, 0, none⟩), .int .i64 z1, .int .i64 z2, .int .i64 z3] w (Told w 1) := by
  have k0 := ok_of h0
  have k1 := ok_of h1
  have hb : Below w.heap.size w (w.alloc (.cells (nums z1 z2 z3) 23)) := (Below.refl _ w).alloc (Nat.le_refl _) _
  have hB : Blk (w.alloc (.cells (nums z1 z2 z3) 23)) w.heap.size 23 (nums z1 z2 z3) := Blk.new w _ _
  have c0 := hB.cell 0 rfl
  have c1 := hB.cell 1 rfl
  have c2 := hB.cell 2 rfl
  have a1 : ¬ (z1 < 0) := by omega
  have b1 : ¬ ((65536 : Int) < z1) := by omega
  have e1 : IntKind.i64.wrap (5 * z1) = 5 * z1 := i64_nat _ (by omega) (by omega)
  have a2 : ¬ (z2 < 0) := by omega
  have b2 : ¬ ((65536 : Int) < z2) := by omega
  have e2 : IntKind.i64.wrap (5 * z2) = 5 * z2 := i64_nat _ (by omega) (by omega)
  have f2 : IntKind.i64.wrap (5 * z1 + 5 * z2) = 5 * z1 + 5 * z2 := i64_nat _ (by omega) (by omega)
  have HW := Lib.hid (wrap_bare 1 2 ⟨#[110, 117, 109, 98, 101, 114]⟩ (w.alloc (.cells (nums z1 z2 z3) 23)) (hh.below hb hh.pos))
  obtain ⟨T0, v0, hT⟩ := chain_iface [] 1
  have hT' : chain [] 1 = .iface 41 (.int .i64 1) := rfl
  rw [hT'] at HW
  obtain ⟨T1, v1, hT1⟩ := chain_iface [(⟨#[110, 117, 109, 98, 101, 114]⟩, 2)] 1
  have HT1 := Lib.hid hT1
  rw [hT1] at HW
  have HB := Lib.hid hb
  clear hB hb hT hT' hT1 hh h0 k0 h1 k1
  by_cases hneg : z3 < 0
  · clear hbad
    go_enter Tryd.func21, Tryd.ntmps21
    go_wp2
    go_loopw [10, 16] (fun v i wr => wr = w.alloc (.cells (nums z1 z2 z3) 23) ∧ ((i = .int .i64 0 ∧ v = .int .i64 0) ∨ (i = .int .i64 1 ∧ v = .int .i64 (5 * z1)) ∨ (i = .int .i64 2 ∧ v = .int .i64 (5 * z1 + 5 * z2)))) (fun _ i _ => 3 - (intOf i).toNat)
    case atStart => exact ⟨rfl, .inl ⟨rfl, rfl⟩⟩
    case round =>
      obtain ⟨rfl, hr⟩ := hrel
      rcases hr with ⟨rfl, rfl⟩ | ⟨rfl, rfl⟩ | ⟨rfl, rfl⟩
      · go_wp2
        go_roundw
        case rel => exact ⟨trivial, .inr (.inl ⟨by go_num, by go_num⟩)⟩
        case measure => simp [intOf]
      · go_wp2
        go_roundw
        case rel => exact ⟨trivial, .inr (.inr (⟨by go_num, by go_num⟩))⟩
        case measure => simp [intOf]
      · go_wp2_with fail
        refine HW.out.mono ?_
        rintro e w1 ⟨rfl, h1⟩
        have H1 := Lib.hid (HB.out.trans (h1.mono HB.out.size))
        clear h1
        go_wp2
        go_ret
        exact ⟨_, _, by rw [HT1.out]; rfl, H1.out⟩

  · have hbig : (65536 : Int) < z3 := by unfold Bad at hbad; omega
    have hbigd : decide (z3 < 0) = false := decide_eq_false hneg
    clear hbad
    go_enter Tryd.func21, Tryd.ntmps21
    go_wp2
    go_loopw [10, 16] (fun v i wr => wr = w.alloc (.cells (nums z1 z2 z3) 23) ∧ ((i = .int .i64 0 ∧ v = .int .i64 0) ∨ (i = .int .i64 1 ∧ v = .int .i64 (5 * z1)) ∨ (i = .int .i64 2 ∧ v = .int .i64 (5 * z1 + 5 * z2)))) (fun _ i _ => 3 - (intOf i).toNat)
    case atStart => exact ⟨rfl, .inl ⟨rfl, rfl⟩⟩
    case round =>
      obtain ⟨rfl, hr⟩ := hrel
      rcases hr with ⟨rfl, rfl⟩ | ⟨rfl, rfl⟩ | ⟨rfl, rfl⟩
      · go_wp2
        go_roundw
        case rel => exact ⟨trivial, .inr (.inl ⟨by go_num, by go_num⟩)⟩
        case measure => simp [intOf]
      · go_wp2
        go_roundw
        case rel => exact ⟨trivial, .inr (.inr (⟨by go_num, by go_num⟩))⟩
        case measure => simp [intOf]
      · go_wp2_with fail
        refine HW.out.mono ?_
        rintro e w1 ⟨rfl, h1⟩
        have H1 := Lib.hid (HB.out.trans (h1.mono HB.out.size))
        clear h1
        go_wp2
        go_ret
        exact ⟨_, _, by rw [HT1.out]; rfl, H1.out⟩

set_option maxHeartbeats 4000000 in
set_option maxRecDepth 100000 in
theorem check_short (w : World) (g h N : Nat) (f : Nat → Int) (u : Nat) (z1 z2 z3 : Int) (ht : Tap w g h N f u) (h0 : ¬ Bad z1) (h1 : ¬ Bad z2) (h2 : ¬ Bad z3) (hs : (N : Int) - (u : Int) < 5 * z1 + 5 * z2 + 5 * z3) (hh : Handle w) :
    Calls Tryd.prog 21 #[.pointer (some ⟨g, 0, none⟩), .int .i64 z1, .int .i64 z2, .int .i64 z3] w (Told w 40) := by
  have k0 := ok_of h0
  have k1 := ok_of h1
  have k2 := ok_of h2
  have hb : Below w.heap.size w (w.alloc (.cells (nums z1 z2 z3) 23)) := (Below.refl _ w).alloc (Nat.le_refl _) _
  have hB : Blk (w.alloc (.cells (nums z1 z2 z3) 23)) w.heap.size 23 (nums z1 z2 z3) := Blk.new w _ _
  have c0 := hB.cell 0 rfl
  have c1 := hB.cell 1 rfl
  have c2 := hB.cell 2 rfl
  have a1 : ¬ (z1 < 0) := by omega
  have b1 : ¬ ((65536 : Int) < z1) := by omega
  have e1 : IntKind.i64.wrap (5 * z1) = 5 * z1 := i64_nat _ (by omega) (by omega)
  have a2 : ¬ (z2 < 0) := by omega
  have b2 : ¬ ((65536 : Int) < z2) := by omega
  have e2 : IntKind.i64.wrap (5 * z2) = 5 * z2 := i64_nat _ (by omega) (by omega)
  have f2 : IntKind.i64.wrap (5 * z1 + 5 * z2) = 5 * z1 + 5 * z2 := i64_nat _ (by omega) (by omega)
  have a3 : ¬ (z3 < 0) := by omega
  have b3 : ¬ ((65536 : Int) < z3) := by omega
  have e3 : IntKind.i64.wrap (5 * z3) = 5 * z3 := i64_nat _ (by omega) (by omega)
  have f3 : IntKind.i64.wrap (5 * z1 + 5 * z2 + 5 * z3) = 5 * z1 + 5 * z2 + 5 * z3 := i64_nat _ (by omega) (by omega)
  have HW := Lib.hid (wrap_bare 40 (5 * z1 + 5 * z2 + 5 * z3) ⟨#[100, 101, 97, 108]⟩ (w.alloc (.cells (nums z1 z2 z3) 23)) (hh.below hb hh.pos))
  have hT' : chain [] 40 = .iface 41 (.int .i64 40) := rfl
  rw [hT'] at HW
  obtain ⟨T1, v1, hT1⟩ := chain_iface [(⟨#[100, 101, 97, 108]⟩, 5 * z1 + 5 * z2 + 5 * z3)] 40
  have HT1 := Lib.hid hT1
  rw [hT1] at HW
  have HB := Lib.hid (And.intro hb (ht.below hb))
  clear hB hb hT' hT1 hh h0 h1 h2 k0 k1 k2 ht
  go_enter Tryd.func21, Tryd.ntmps21
  go_wp2
  go_loopw [10, 16] (fun v i wr => wr = w.alloc (.cells (nums z1 z2 z3) 23) ∧ ((i = .int .i64 0 ∧ v = .int .i64 0) ∨ (i = .int .i64 1 ∧ v = .int .i64 (5 * z1)) ∨ (i = .int .i64 2 ∧ v = .int .i64 (5 * z1 + 5 * z2)) ∨ (i = .int .i64 3 ∧ v = .int .i64 (5 * z1 + 5 * z2 + 5 * z3)))) (fun _ i _ => 3 - (intOf i).toNat)
  case atStart => exact ⟨rfl, .inl ⟨rfl, rfl⟩⟩
  case round =>
    obtain ⟨rfl, hr⟩ := hrel
    rcases hr with ⟨rfl, rfl⟩ | ⟨rfl, rfl⟩ | ⟨rfl, rfl⟩ | ⟨rfl, rfl⟩
    · go_wp2
      go_roundw
      case rel => exact ⟨trivial, .inr (.inl ⟨by go_num, by go_num⟩)⟩
      case measure => simp [intOf]
    · go_wp2
      go_roundw
      case rel => exact ⟨trivial, .inr (.inr (.inl ⟨by go_num, by go_num⟩))⟩
      case measure => simp [intOf]
    · go_wp2
      go_roundw
      case rel => exact ⟨trivial, .inr (.inr (.inr (⟨by go_num, by go_num⟩)))⟩
      case measure => simp [intOf]
    · go_wp2_with fail
      refine (left_any _ g h N f u HB.out.2).mono ?_
      rintro e w1 ⟨rfl, rfl⟩
      go_wp2_with fail
      refine HW.out.mono ?_
      rintro e w2 ⟨rfl, h2⟩
      have H1 := Lib.hid (HB.out.1.trans (h2.mono HB.out.1.size))
      clear h2
      go_wp2
      go_ret
      exact ⟨_, _, by rw [HT1.out]; rfl, H1.out⟩
/-- Which number is told of these, if one is. -/
theorem check_err (w : World) (g h N : Nat) (f : Nat → Int) (u : Nat) (z1 z2 z3 : Int) (ht : Tap w g h N f u) (hh : Handle w) (c : Int) (hc : (c = 1 ∧ (Bad z1 ∨ Bad z2 ∨ Bad z3)) ∨ (c = 40 ∧ ¬ Bad z1 ∧ ¬ Bad z2 ∧ ¬ Bad z3 ∧ (N : Int) - (u : Int) < 5 * z1 + 5 * z2 + 5 * z3)) :
    Calls Tryd.prog 21 #[.pointer (some ⟨g, 0, none⟩), .int .i64 z1, .int .i64 z2, .int .i64 z3] w (Told w c) := by
  rcases hc with ⟨rfl, hb⟩ | ⟨rfl, h0, h1, h2, hs⟩
  · by_cases b1 : Bad z1
    · exact check_bad0 w g z1 z2 z3 b1 hh
    · by_cases b2 : Bad z2
      · exact check_bad1 w g z1 z2 z3 b1 b2 hh
      · exact check_bad2 w g z1 z2 z3 b1 b2 (by
          rcases hb with h | h | h
          · exact absurd h b1
          · exact absurd h b2
          · exact h) hh
  · exact check_short w g h N f u z1 z2 z3 ht h0 h1 h2 hs hh
set_option maxHeartbeats 2000000 in
set_option maxRecDepth 100000 in
theorem deal_err (w : World) (g h N : Nat) (f : Nat → Int) (u : Nat) (z1 z2 z3 : Int) (ht : Tap w g h N f u) (hh : Handle w) (c : Int) (hc : (c = 1 ∧ (Bad z1 ∨ Bad z2 ∨ Bad z3)) ∨ (c = 40 ∧ ¬ Bad z1 ∧ ¬ Bad z2 ∧ ¬ Bad z3 ∧ (N : Int) - (u : Int) < 5 * z1 + 5 * z2 + 5 * z3)) :
    Calls Tryd.prog 10 #[.pointer (some ⟨g, 0, none⟩), .int .i64 z1, .int .i64 z2, .int .i64 z3] w fun e w' => ∃ (p : ByteArray) (a : Int), e = .returned (.tuple #[.agg #[.pointer none, .pointer none], chain [(p, a)] c]) ∧ Below w.heap.size w w' := by
  have hb0 : Below w.heap.size w (w.alloc (.cells #[.pointer none, .pointer none] 29)) := (Below.refl _ w).alloc (Nat.le_refl _) _
  have HC := Lib.hid (check_err _ g h N f u z1 z2 z3 (ht.below hb0) (hh.below hb0 hh.pos) c hc)
  have H0 := Lib.hid (And.intro (Blk.new w 29 #[.pointer none, .pointer none]) hb0)
  clear ht hh hc hb0
  go_enter Tryd.func10, Tryd.ntmps10
  go_wp2_with fail
  refine HC.out.mono ?_
  rintro e w1 ⟨p, a, rfl, hb1⟩
  have H1 := Lib.hid (And.intro (H0.out.1.below hb1) (H0.out.2.trans (hb1.mono H0.out.2.size)))
  obtain ⟨T1, v1, hT1⟩ := chain_iface [(p, a)] c
  have HT1 := Lib.hid hT1
  rw [hT1]
  clear hb1 HC H0 hT1
  have r0 := H1.out.1.cell 0 rfl
  have r1 := H1.out.1.cell 1 rfl
  have zr := H1.out.1.frozen
  go_wp2
  have hR := (H1.out.1.set 0 (.pointer none)).set 1 (.pointer none)
  have s0 := hR.cell 0 rfl
  have s1 := hR.cell 1 rfl
  exact bodyPost_ret (v := .tuple #[.agg #[.pointer none, .pointer none], .iface T1 v1]) (by simp [results, Tryd.results10, go_sem, s0, s1]) rfl
    ⟨p, a, by rw [HT1.out], (H1.out.2.setCell (p := ⟨w.heap.size, 0, none⟩) (Nat.le_refl _) _).setCell (p := ⟨w.heap.size, 1, none⟩) (Nat.le_refl _) _⟩
end Go.Proofs.YtgmlmngnedhllaaDoor
