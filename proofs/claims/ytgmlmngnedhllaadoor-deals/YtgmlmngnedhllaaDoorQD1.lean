/- Stocks that are being filled; the contracts of emptyStock and checkDeal. -/
import Derived.Test.YtgmlmngnedhllaaDoorQP3
namespace Go.Proofs.YtgmlmngnedhllaaDoor
open Go.RowKit

/-- A stock that is being filled: so many of each kind are there. -/
structure Fil (w : World) (s : Sk) (i j k : Nat) : Prop where
  blk : Blk w s.g 81 #[.slice (some ⟨s.b1, 0, none⟩) i s.n1, .slice (some ⟨s.b2, 0, none⟩) j s.n2, .slice (some ⟨s.b3, 0, none⟩) k s.n3]
  r1 : RowT w s.b1 i s.n1 s.y1
  r2 : RowT w s.b2 j s.n2 s.y2
  r3 : RowO w s.b3 k s.n3 s.y3 s.c3
  ne : s.b1 ≠ s.b2
section
variable {w w' : World} {s : Sk} {i j k : Nat}
theorem Fil.lt (h : Fil w s i j k) {q : Nat} (hq : s.own q) : q < w.heap.size := by
  rcases hq with rfl | rfl | rfl | rfl
  · exact h.blk.lt
  · exact h.r1.lt
  · exact h.r2.lt
  · exact h.r3.lt
theorem Fil.heap (h : Fil w s i j k) (hb : ∀ q, s.own q → w'.heap[q]? = w.heap[q]?) : Fil w' s i j k :=
  ⟨(hb _ (.inl rfl)).trans h.blk, h.r1.heap (hb _ (.inr (.inl rfl))), h.r2.heap (hb _ (.inr (.inr (.inl rfl)))), h.r3.heap (hb _ (.inr (.inr (.inr rfl)))), h.ne⟩
theorem Fil.chg {S : Nat → Prop} (h : Fil w s i j k) (hc : Chg S w w') (hs : ∀ q, s.own q → ¬ S q) : Fil w' s i j k := h.heap fun q hq => hc.block q (h.lt hq) (hs q hq)
theorem Fil.below (h : Fil w s i j k) (hb : Below w.heap.size w w') : Fil w' s i j k := h.heap fun q hq => hb.block q (h.lt hq)
theorem Fil.apart (h : Fil w s i j k) : s.g ≠ s.b1 ∧ s.g ≠ s.b2 ∧ s.g ≠ s.b3 ∧ s.b1 ≠ s.b3 ∧ s.b2 ≠ s.b3 := by
  obtain ⟨h1, ⟨_, k2, _⟩, ⟨_, k3, _⟩, ⟨_, k4, _⟩, _⟩ := h
  exact ⟨blk_ne h1 k2 (by decide), blk_ne h1 k3 (by decide), blk_ne h1 k4 (by decide), blk_ne k2 k4 (by decide), blk_ne k3 k4 (by decide)⟩
theorem Fil.full (h : Fil w s s.n1 s.n2 s.n3) (h1 : s.n1 ≤ 65536) (h2 : s.n2 ≤ 65536) (h3 : s.n3 ≤ 65536) : Stk w s :=
  ⟨⟨_, _, _, h.blk, h.r1.pile (by omega), h.r2.pile (by omega), h.r3.pile (by omega)⟩, h.ne⟩
theorem fadd0 (h : Fil w s i j k) (hn : i < s.n1) :
    Calls Tryd.prog 25 #[.pointer (some ⟨s.g, 0, none⟩), .agg #[.int .u64 (s.y1 i 0), .int .u64 (s.y1 i 1), .int .u64 (s.y1 i 2)]] w fun e w' => e = .returned (.tuple #[]) ∧ Fil w' s (i + 1) j k ∧ Chg s.own w w' := by
  refine (addT_any w s.g 0 s.b1 i s.n1 _ s.y1 h.blk rfl h.r1 hn).mono ?_
  rintro e w' ⟨he, hb, hr, hc⟩
  have hap := h.apart
  have hne := h.ne
  exact ⟨he, ⟨hb, hr, h.r2.chg hc (by rintro (e | e) <;> omega), h.r3.chg hc (by rintro (e | e) <;> omega), hne⟩, hc.mono fun q _ e => by
    rcases e with e | e
    · exact .inl e
    · exact .inr (.inl e)⟩
theorem fadd1 (h : Fil w s i j k) (hn : j < s.n2) :
    Calls Tryd.prog 25 #[.pointer (some ⟨s.g, 1, none⟩), .agg #[.int .u64 (s.y2 j 0), .int .u64 (s.y2 j 1), .int .u64 (s.y2 j 2)]] w fun e w' => e = .returned (.tuple #[]) ∧ Fil w' s i (j + 1) k ∧ Chg s.own w w' := by
  refine (addT_any w s.g 1 s.b2 j s.n2 _ s.y2 h.blk rfl h.r2 hn).mono ?_
  rintro e w' ⟨he, hb, hr, hc⟩
  have hap := h.apart
  have hne := h.ne
  exact ⟨he, ⟨hb, h.r1.chg hc (by rintro (e | e) <;> omega), hr, h.r3.chg hc (by rintro (e | e) <;> omega), hne⟩, hc.mono fun q _ e => by
    rcases e with e | e
    · exact .inl e
    · exact .inr (.inr (.inl e))⟩
theorem fadd2 (h : Fil w s i j k) (hn : k < s.n3) :
    Calls Tryd.prog 28 #[.pointer (some ⟨s.g, 2, none⟩), .agg #[.int .u64 (s.y3 k 0), .int .u64 (s.y3 k 1), .int .u64 (s.y3 k 2), .int .u64 (s.y3 k 3), .bool (s.c3 k)]] w fun e w' => e = .returned (.tuple #[]) ∧ Fil w' s i j (k + 1) ∧ Chg s.own w w' := by
  refine (addO_any w s.g 2 s.b3 k s.n3 _ s.y3 s.c3 h.blk rfl h.r3 hn).mono ?_
  rintro e w' ⟨he, hb, hr, hc⟩
  have hap := h.apart
  have hne := h.ne
  exact ⟨he, ⟨hb, h.r1.chg hc (by rintro (e | e) <;> omega), h.r2.chg hc (by rintro (e | e) <;> omega), hr, hne⟩, hc.mono fun q _ e => by
    rcases e with e | e
    · exact .inl e
    · exact .inr (.inr (.inr e))⟩
end
set_option maxHeartbeats 2000000 in
set_option maxRecDepth 100000 in
theorem empty_any (w : World) (n1 n2 n3 : Nat) (y1 y2 y3 : Nat → Nat → Int) (c3 : Nat → Bool) (h1 : n1 ≤ 65536) (h2 : n2 ≤ 65536) (h3 : n3 ≤ 65536) :
    Calls Tryd.prog 22 #[.int .i64 (n1 : Int), .int .i64 (n2 : Int), .int .i64 (n3 : Int)] w fun e w' => ∃ s : Sk, e = .returned (.pointer (some ⟨s.g, 0, none⟩)) ∧ (s.n1 = n1 ∧ s.n2 = n2 ∧ s.n3 = n3 ∧ s.y1 = y1 ∧ s.y2 = y2 ∧ s.y3 = y3 ∧ s.c3 = c3) ∧ (∀ q, s.own q → w.heap.size ≤ q) ∧ Fil w' s 0 0 0 ∧ Below w.heap.size w w' := by
  have H0 := Lib.hid (And.intro h1 (And.intro h2 h3))
  clear h1 h2 h3
  go_enter Tryd.func22, Tryd.ntmps22
  go_wp2_with fail
  refine (roomT_any w n1 y1 H0.out.1).mono ?_
  rintro e w1 ⟨b1, hb1, rfl, hr1, hw1⟩
  have H1 := Lib.hid (And.intro hb1 (And.intro hr1 hw1))
  clear hb1 hr1 hw1
  go_wp2_with fail
  refine (roomT_any w1 n2 y2 H0.out.2.1).mono ?_
  rintro e w2 ⟨b2, hb2, rfl, hr2, hw2⟩
  have H2 := Lib.hid (And.intro hb2 (And.intro hr2 hw2))
  clear hb2 hr2 hw2
  go_wp2_with fail
  refine (roomO_any w2 n3 y3 c3 H0.out.2.2).mono ?_
  rintro e w3 ⟨b3, hb3, rfl, hr3, hw3⟩
  have H3 := Lib.hid (And.intro hb3 (And.intro hr3 hw3))
  clear hb3 hr3 hw3
  go_wp2
  go_ret
  obtain ⟨hb1, hr1, hw1⟩ := H1.out
  obtain ⟨hb2, hr2, hw2⟩ := H2.out
  obtain ⟨hb3, hr3, hw3⟩ := H3.out
  have l1 := hr1.lt
  have l2 := hr2.lt
  have l3 := hr3.lt
  have z1 := hw1.size
  have z2 := hw2.size
  have z3 := hw3.size
  refine ⟨⟨w3.heap.size, b1, b2, b3, n1, n2, n3, y1, y2, y3, c3⟩, rfl, ⟨rfl, rfl, rfl, rfl, rfl, rfl, rfl⟩, fun q hq => ?_, ⟨Blk.new w3 _ _, ?_, ?_, ?_, ?_⟩, ?_⟩
  · have hq' : q = w3.heap.size ∨ q = b1 ∨ q = b2 ∨ q = b3 := hq
    omega
  · exact hr1.heap ((Below.heap_alloc w3 _ b1 (by omega)).trans ((hw3.block b1 (by omega)).trans (hw2.block b1 (by omega))))
  · exact hr2.heap ((Below.heap_alloc w3 _ b2 (by omega)).trans (hw3.block b2 (by omega)))
  · exact hr3.heap (Below.heap_alloc w3 _ b3 (by omega))
  · show b1 ≠ b2
    omega
  · exact (hw1.trans ((hw2.mono (by omega)).trans (hw3.mono (by omega)))).alloc (by omega) _
/-- Block b is three numbers. -/
abbrev nums (a b c : Int) : Array Value := #[.int .i64 a, .int .i64 b, .int .i64 c]
set_option maxHeartbeats 2000000 in
set_option maxRecDepth 100000 in
theorem check_ok (w : World) (g h N : Nat) (f : Nat → Int) (u n1 n2 n3 : Nat) (ht : Tap w g h N f u) (h1 : n1 ≤ 65536) (h2 : n2 ≤ 65536) (h3 : n3 ≤ 65536) (hn : u + 5 * (n1 + n2 + n3) ≤ N) :
    Calls Tryd.prog 21 #[.pointer (some ⟨g, 0, none⟩), .int .i64 (n1 : Int), .int .i64 (n2 : Int), .int .i64 (n3 : Int)] w fun e w' => e = .returned .nilIface ∧ Below w.heap.size w w' := by
  have hb : Below w.heap.size w (w.alloc (.cells (nums n1 n2 n3) 23)) := (Below.refl _ w).alloc (Nat.le_refl _) _
  have hB : Blk (w.alloc (.cells (nums n1 n2 n3) 23)) w.heap.size 23 (nums n1 n2 n3) := Blk.new w _ _
  have HT := Lib.hid (And.intro (ht.below hb) hb)
  have c0 := hB.cell 0 rfl
  have c1 := hB.cell 1 rfl
  have c2 := hB.cell 2 rfl
  clear hB hb
  have a1 : ¬ ((n1 : Int) < 0) := by omega
  have a2 : ¬ ((n2 : Int) < 0) := by omega
  have a3 : ¬ ((n3 : Int) < 0) := by omega
  have b1 : ¬ ((65536 : Int) < (n1 : Int)) := by omega
  have b2 : ¬ ((65536 : Int) < (n2 : Int)) := by omega
  have b3 : ¬ ((65536 : Int) < (n3 : Int)) := by omega
  have e1 : IntKind.i64.wrap (5 * (n1 : Int)) = 5 * (n1 : Int) := i64_nat _ (by omega) (by omega)
  have e2 : IntKind.i64.wrap (5 * (n2 : Int)) = 5 * (n2 : Int) := i64_nat _ (by omega) (by omega)
  have e3 : IntKind.i64.wrap (5 * (n3 : Int)) = 5 * (n3 : Int) := i64_nat _ (by omega) (by omega)
  have f2 : IntKind.i64.wrap (5 * (n1 : Int) + 5 * (n2 : Int)) = 5 * (n1 : Int) + 5 * (n2 : Int) := i64_nat _ (by omega) (by omega)
  have f3 : IntKind.i64.wrap (5 * (n1 : Int) + 5 * (n2 : Int) + 5 * (n3 : Int)) = 5 * (n1 : Int) + 5 * (n2 : Int) + 5 * (n3 : Int) := i64_nat _ (by omega) (by omega)
  have l1 : ¬ ((N : Int) - (u : Int) < 5 * (n1 : Int) + 5 * (n2 : Int) + 5 * (n3 : Int)) := by omega
  clear h1 h2 h3 hn ht
  go_enter Tryd.func21, Tryd.ntmps21
  go_wp2
  go_loopw [10, 16] (fun v i wr => wr = w.alloc (.cells (nums n1 n2 n3) 23) ∧ ((i = .int .i64 0 ∧ v = .int .i64 0) ∨ (i = .int .i64 1 ∧ v = .int .i64 (5 * (n1 : Int))) ∨ (i = .int .i64 2 ∧ v = .int .i64 (5 * (n1 : Int) + 5 * (n2 : Int))) ∨ (i = .int .i64 3 ∧ v = .int .i64 (5 * (n1 : Int) + 5 * (n2 : Int) + 5 * (n3 : Int))))) (fun _ i _ => 3 - (intOf i).toNat)
  case atStart => exact ⟨rfl, .inl ⟨rfl, rfl⟩⟩
  case round =>
    obtain ⟨rfl, hr⟩ := hrel
    rcases hr with ⟨rfl, rfl⟩ | ⟨rfl, rfl⟩ | ⟨rfl, rfl⟩ | ⟨rfl, rfl⟩
    · go_wp2
      go_roundw
      case rel => exact ⟨trivial, .inr (.inl ⟨by go_num, by go_num⟩)⟩
      case measure => simp [intOf]
    · go_wp2
      go_roundw
      case rel => exact ⟨trivial, .inr (.inr (.inl ⟨by go_num, by go_num⟩))⟩
      case measure => simp [intOf]
    · go_wp2
      go_roundw
      case rel => exact ⟨trivial, .inr (.inr (.inr ⟨by go_num, by go_num⟩))⟩
      case measure => simp [intOf]
    · go_wp2_with fail
      refine (left_any _ g h N f u HT.out.1).mono ?_
      rintro e w1 ⟨rfl, rfl⟩
      go_wp2
      go_ret
      exact ⟨rfl, HT.out.2⟩
end Go.Proofs.YtgmlmngnedhllaaDoor
