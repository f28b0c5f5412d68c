/- A stock in memory; the contracts of Triple, Bits, OT, Left. -/
import Derived.Test.YtgmlmngnedhllaaDoorQP1
namespace Go.Proofs.YtgmlmngnedhllaaDoor
open Go.RowKit

/-- A stock: its block, its piles' blocks, how many of each, and which. -/
structure Sk where
  g : Nat
  b1 : Nat
  b2 : Nat
  b3 : Nat
  n1 : Nat
  n2 : Nat
  n3 : Nat
  y1 : Nat → Nat → Int
  y2 : Nat → Nat → Int
  y3 : Nat → Nat → Int
  c3 : Nat → Bool
def Sk.own (s : Sk) (q : Nat) : Prop := q = s.g ∨ q = s.b1 ∨ q = s.b2 ∨ q = s.b3
/-- What is left of it behind some takes. -/
def Sk.adv (s : Sk) (i j k : Nat) : Sk := { s with n1 := s.n1 - i, n2 := s.n2 - j, n3 := s.n3 - k, y1 := fun q => s.y1 (q + i), y2 := fun q => s.y2 (q + j), y3 := fun q => s.y3 (q + k), c3 := fun q => s.c3 (q + k) }
/-- The stock lies in memory. -/
structure Stk (w : World) (s : Sk) : Prop where
  ex : ∃ v1 v2 v3, Blk w s.g 81 #[v1, v2, v3] ∧ PilT w s.b1 v1 s.n1 s.y1 ∧ PilT w s.b2 v2 s.n2 s.y2 ∧ PilO w s.b3 v3 s.n3 s.y3 s.c3
  ne : s.b1 ≠ s.b2
theorem Sk.adv_zero (s : Sk) : s.adv 0 0 0 = s := rfl
theorem Sk.adv_own (s : Sk) (i j k q : Nat) : (s.adv i j k).own q ↔ s.own q := Iff.rfl
theorem blk_ne {w : World} {b c t u : Nat} {x y : Array Value} (h : Blk w b t x) (h' : Blk w c u y) (hne : t ≠ u) : b ≠ c := by
  intro e
  subst e
  have := h.symm.trans h'
  injection this with this
  injection this with _ h2
  exact hne h2
theorem Stk.lt {w : World} {s : Sk} (h : Stk w s) {q : Nat} (hq : s.own q) : q < w.heap.size := by
  obtain ⟨v1, v2, v3, h1, h2, h3, h4⟩ := h.ex
  rcases hq with rfl | rfl | rfl | rfl
  · exact h1.lt
  · exact h2.lt
  · exact h3.lt
  · exact h4.lt
theorem Stk.heap {w w' : World} {s : Sk} (h : Stk w s) (hb : ∀ q, s.own q → w'.heap[q]? = w.heap[q]?) : Stk w' s := by
  obtain ⟨v1, v2, v3, h1, h2, h3, h4⟩ := h.ex
  exact ⟨⟨v1, v2, v3, (hb _ (.inl rfl)).trans h1, h2.heap (hb _ (.inr (.inl rfl))), h3.heap (hb _ (.inr (.inr (.inl rfl)))), h4.heap (hb _ (.inr (.inr (.inr rfl))))⟩, h.ne⟩
theorem Stk.chg {S : Nat → Prop} {w w' : World} {s : Sk} (h : Stk w s) (hc : Chg S w w') (hs : ∀ q, s.own q → ¬ S q) : Stk w' s := h.heap fun q hq => hc.block q (h.lt hq) (hs q hq)
theorem Stk.below {w w' : World} {s : Sk} (h : Stk w s) (hb : Below w.heap.size w w') : Stk w' s := h.heap fun q hq => hb.block q (h.lt hq)
theorem Stk.apart {w : World} {s : Sk} (h : Stk w s) : s.g ≠ s.b1 ∧ s.g ≠ s.b2 ∧ s.g ≠ s.b3 ∧ s.b1 ≠ s.b3 ∧ s.b2 ≠ s.b3 := by
  obtain ⟨v1, v2, v3, h1, h2, h3, h4⟩ := h.ex
  obtain ⟨_, k2⟩ := h2.blk
  obtain ⟨_, k3⟩ := h3.blk
  obtain ⟨_, k4⟩ := h4.blk
  exact ⟨blk_ne h1 k2 (by decide), blk_ne h1 k3 (by decide), blk_ne h1 k4 (by decide), blk_ne k2 k4 (by decide), blk_ne k3 k4 (by decide)⟩
set_option maxHeartbeats 1000000 in
theorem cleft_any (w : World) (s : Sk) (h : Stk w s) :
    Calls Tryd.prog 19 #[.pointer (some ⟨s.g, 0, none⟩)] w fun e w' => e = .returned (.tuple #[.int .i64 (s.n1 : Int), .int .i64 (s.n2 : Int), .int .i64 (s.n3 : Int)]) ∧ ∃ q, w' = w.drewN q := by
  obtain ⟨v1, v2, v3, h1, h2, h3, h4⟩ := h.ex
  obtain ⟨A1, p1, rfl⟩ := h2.slice
  obtain ⟨A2, p2, rfl⟩ := h3.slice
  obtain ⟨A3, p3, rfl⟩ := h4.slice
  have c0 := h1.cell 0 rfl
  have c1 := h1.cell 1 rfl
  have c2 := h1.cell 2 rfl
  clear h1 h2 h3 h4 h
  go_enter Tryd.func19, Tryd.ntmps19
  go_wp2
  go_quiet (fail)
  go_wp2
  exact bodyPost_ret (v := .tuple #[.int .i64 (s.n1 : Int), .int .i64 (s.n2 : Int), .int .i64 (s.n3 : Int)]) (by simp [results, Tryd.results19, go_sem]) rfl ⟨rfl, _, rfl⟩

set_option maxHeartbeats 4000000 in
set_option maxRecDepth 100000 in
theorem triple_some (w : World) (s : Sk) (i0 i1 i2 : Nat) (h : Stk w (s.adv i0 i1 i2)) (hn : i0 < s.n1) :
    Calls Tryd.prog 15 #[.pointer (some ⟨s.g, 0, none⟩)] w fun e w' => e = .returned (.tuple #[.agg #[.int .u64 (s.y1 i0 0), .int .u64 (s.y1 i0 1), .int .u64 (s.y1 i0 2)], .nilIface]) ∧ Stk w' (s.adv (i0 + 1) i1 i2) ∧ Chg s.own w w' := by
  have hap := h.apart
  have hne := h.ne
  obtain ⟨v1, v2, v3, h1, h2, h3, h4⟩ := h.ex
  have hl := h1.lt
  have hb0 : Below w.heap.size w (w.alloc (.cells #[.int .u64 0, .int .u64 0, .int .u64 0] 48)) := (Below.refl _ w).alloc (Nat.le_refl _) _
  obtain ⟨n', hn'⟩ : ∃ n', s.n1 - i0 = n' + 1 := ⟨s.n1 - i0 - 1, by omega⟩
  have hp' : PilT (w.alloc (.cells #[.int .u64 0, .int .u64 0, .int .u64 0] 48)) s.b1 v1 (n' + 1) (s.adv i0 i1 i2).y1 := by
    have := h2.heap (w' := (w.alloc (.cells #[.int .u64 0, .int .u64 0, .int .u64 0] 48))) (hb0.block _ h2.lt)
    rw [← hn']; exact this
  have HT := Lib.hid (takeT_some (w.alloc (.cells #[.int .u64 0, .int .u64 0, .int .u64 0] 48)) s.g 0 s.b1 #[v1, v2, v3] v1 n' _  ⟨#[116, 114, 105, 112, 108, 101, 115]⟩ (h1.alloc _) rfl hp')
  have HR := Lib.hid (And.intro (Blk.new w 48 #[.int .u64 0, .int .u64 0, .int .u64 0]) (And.intro hb0 (And.intro (h1.alloc (.cells #[.int .u64 0, .int .u64 0, .int .u64 0] 48)) (And.intro (h2.heap (hb0.block _ h2.lt)) (And.intro (h3.heap (hb0.block _ h3.lt)) (h4.heap (hb0.block _ h4.lt)))))))
  have HL := Lib.hid (And.intro h1.lt (And.intro h2.lt (And.intro h3.lt h4.lt)))
  have HN := Lib.hid (And.intro hap (And.intro hne hn'))
  clear h h1 h2 h3 h4 hp' hap hne hn' hb0 hn
  go_enter Tryd.func15, Tryd.ntmps15
  go_wp2_with fail
  refine HT.out.mono ?_
  rintro e w1 ⟨rfl, v', hB, hP, hc⟩
  have hlt := HL.out
  have hap := HN.out.1
  have hne := HN.out.2.1
  simp only [Sk.adv] at hlt hap hne
  have H1 : Hid (Blk w1 w.heap.size 48 #[.int .u64 0, .int .u64 0, .int .u64 0] ∧ Stk w1 (s.adv (i0 + 1) i1 i2) ∧ Chg s.own w w1) := by
    obtain ⟨hR, hb0, h1, h2, h3, h4⟩ := HR.out
    simp only [Sk.adv] at h2 h3 h4 hP
    refine ⟨hR.chg hc (by rintro (e | e) <;> omega), ⟨⟨v', v2, v3, by simpa [Sk.adv] using hB, ?_, ?_, ?_⟩, hne⟩, (Chg.of_below hb0 (fun q hq hq' => by omega)).trans (hc.mono fun q _ e => by
      rcases e with e | e
      · exact .inl e
      · exact .inr (.inl e))⟩
    · simp only [Sk.adv]; rw [show s.n1 - (i0 + 1) = n' by have := HN.out.2.2; omega]; simpa [Nat.add_assoc, Nat.add_comm, Nat.add_left_comm] using hP
    · exact (h3.chg hc (by rintro (e | e) <;> omega))
    · exact (h4.chg hc (by rintro (e | e) <;> omega))
  have HQ := Lib.hid (show ∀ q, s.own q → q < w.heap.size from fun q hq => by
    rcases hq with rfl | rfl | rfl | rfl
    · exact hlt.1
    · exact hlt.2.1
    · exact hlt.2.2.1
    · exact hlt.2.2.2)
  clear hB hP hc HR HT HL HN hlt hap hne hl
  have r0 := H1.out.1.cell 0 rfl
  have r1 := H1.out.1.cell 1 rfl
  have r2 := H1.out.1.cell 2 rfl
  have zr := H1.out.1.frozen
  simp only [Sk.adv, Nat.zero_add]
  go_wp2
  have hR4 := (((H1.out.1.set 0 (.int .u64 (s.y1 i0 0))).set 1 (.int .u64 (s.y1 i0 1))).set 2 (.int .u64 (s.y1 i0 2)))
  have p0 := hR4.cell 0 rfl
  have p1 := hR4.cell 1 rfl
  have p2 := hR4.cell 2 rfl
  exact bodyPost_ret (v := .tuple #[.agg #[.int .u64 (s.y1 i0 0), .int .u64 (s.y1 i0 1), .int .u64 (s.y1 i0 2)], .nilIface]) (by simp [results, Tryd.results15, go_sem, p0, p1, p2]) rfl
    ⟨rfl, H1.out.2.1.chg (Chg.of_keep (S := fun q => q = w.heap.size) ((((Keep.refl w.heap.size w1).set (p := ⟨w.heap.size, 0, none⟩) rfl (.int .u64 (s.y1 i0 0))).set (p := ⟨w.heap.size, 1, none⟩) rfl (.int .u64 (s.y1 i0 1))).set (p := ⟨w.heap.size, 2, none⟩) rfl (.int .u64 (s.y1 i0 2))) rfl) (fun q hq e => by have := HQ.out q hq; omega), (((H1.out.2.2.set (p := ⟨w.heap.size, 0, none⟩) (.inl (Nat.le_refl _)) (.int .u64 (s.y1 i0 0))).set (p := ⟨w.heap.size, 1, none⟩) (.inl (Nat.le_refl _)) (.int .u64 (s.y1 i0 1))).set (p := ⟨w.heap.size, 2, none⟩) (.inl (Nat.le_refl _)) (.int .u64 (s.y1 i0 2)))⟩

set_option maxHeartbeats 4000000 in
set_option maxRecDepth 100000 in
theorem triple_none (w : World) (s : Sk) (h : Stk w s) (hn : s.n1 = 0) (hh : Handle w) :
    Calls Tryd.prog 15 #[.pointer (some ⟨s.g, 0, none⟩)] w fun e w' => e = .returned (.tuple #[.agg #[.int .u64 0, .int .u64 0, .int .u64 0], chain [(⟨#[116, 114, 105, 112, 108, 101, 115]⟩, 0)] 80]) ∧ Below w.heap.size w w' := by
  obtain ⟨v1, v2, v3, h1, h2, h3, h4⟩ := h.ex
  obtain ⟨A, cap, hv⟩ := h2.slice
  rw [hn] at hv
  have hb0 : Below w.heap.size w (w.alloc (.cells #[.int .u64 0, .int .u64 0, .int .u64 0] 48)) := (Below.refl _ w).alloc (Nat.le_refl _) _
  have HT := Lib.hid (takeT_none (w.alloc (.cells #[.int .u64 0, .int .u64 0, .int .u64 0] 48)) s.g 0 #[v1, v2, v3] A cap ⟨#[116, 114, 105, 112, 108, 101, 115]⟩ (h1.alloc _) (by rw [hv]; rfl) (hh.below hb0 hh.pos))
  have HR := Lib.hid (And.intro (Blk.new w 48 #[.int .u64 0, .int .u64 0, .int .u64 0]) hb0)
  clear h h1 h2 h3 h4 hv hn hb0 hh
  go_enter Tryd.func15, Tryd.ntmps15
  go_wp2_with fail
  refine HT.out.mono ?_
  rintro e w1 ⟨rfl, hb⟩
  have H1 := Lib.hid (And.intro (HR.out.1.below hb) (HR.out.2.trans (hb.mono HR.out.2.size)))
  obtain ⟨T0, v0, hT⟩ := chain_iface [(⟨#[116, 114, 105, 112, 108, 101, 115]⟩, 0)] 80
  have HX := Lib.hid hT
  rw [hT]
  clear hb HR HT hT
  have r0 := H1.out.1.cell 0 rfl
  have r1 := H1.out.1.cell 1 rfl
  have r2 := H1.out.1.cell 2 rfl
  have zr := H1.out.1.frozen
  go_wp2
  have hR4 := (((H1.out.1.set 0 (.int .u64 0)).set 1 (.int .u64 0)).set 2 (.int .u64 0))
  have p0 := hR4.cell 0 rfl
  have p1 := hR4.cell 1 rfl
  have p2 := hR4.cell 2 rfl
  exact bodyPost_ret (v := .tuple #[.agg #[.int .u64 0, .int .u64 0, .int .u64 0], .iface T0 v0]) (by simp [results, Tryd.results15, go_sem, p0, p1, p2]) rfl
    ⟨by rw [HX.out], (((H1.out.2.setCell (p := ⟨w.heap.size, 0, none⟩) (Nat.le_refl _) (.int .u64 0)).setCell (p := ⟨w.heap.size, 1, none⟩) (Nat.le_refl _) (.int .u64 0)).setCell (p := ⟨w.heap.size, 2, none⟩) (Nat.le_refl _) (.int .u64 0))⟩

set_option maxHeartbeats 4000000 in
set_option maxRecDepth 100000 in
theorem bits_some (w : World) (s : Sk) (i0 i1 i2 : Nat) (h : Stk w (s.adv i0 i1 i2)) (hn : i1 < s.n2) :
    Calls Tryd.prog 16 #[.pointer (some ⟨s.g, 0, none⟩)] w fun e w' => e = .returned (.tuple #[.agg #[.int .u64 (s.y2 i1 0), .int .u64 (s.y2 i1 1), .int .u64 (s.y2 i1 2)], .nilIface]) ∧ Stk w' (s.adv i0 (i1 + 1) i2) ∧ Chg s.own w w' := by
  have hap := h.apart
  have hne := h.ne
  obtain ⟨v1, v2, v3, h1, h2, h3, h4⟩ := h.ex
  have hl := h1.lt
  have hb0 : Below w.heap.size w (w.alloc (.cells #[.int .u64 0, .int .u64 0, .int .u64 0] 48)) := (Below.refl _ w).alloc (Nat.le_refl _) _
  obtain ⟨n', hn'⟩ : ∃ n', s.n2 - i1 = n' + 1 := ⟨s.n2 - i1 - 1, by omega⟩
  have hp' : PilT (w.alloc (.cells #[.int .u64 0, .int .u64 0, .int .u64 0] 48)) s.b2 v2 (n' + 1) (s.adv i0 i1 i2).y2 := by
    have := h3.heap (w' := (w.alloc (.cells #[.int .u64 0, .int .u64 0, .int .u64 0] 48))) (hb0.block _ h3.lt)
    rw [← hn']; exact this
  have HT := Lib.hid (takeT_some (w.alloc (.cells #[.int .u64 0, .int .u64 0, .int .u64 0] 48)) s.g 1 s.b2 #[v1, v2, v3] v2 n' _  ⟨#[98, 105, 116, 115]⟩ (h1.alloc _) rfl hp')
  have HR := Lib.hid (And.intro (Blk.new w 48 #[.int .u64 0, .int .u64 0, .int .u64 0]) (And.intro hb0 (And.intro (h1.alloc (.cells #[.int .u64 0, .int .u64 0, .int .u64 0] 48)) (And.intro (h2.heap (hb0.block _ h2.lt)) (And.intro (h3.heap (hb0.block _ h3.lt)) (h4.heap (hb0.block _ h4.lt)))))))
  have HL := Lib.hid (And.intro h1.lt (And.intro h2.lt (And.intro h3.lt h4.lt)))
  have HN := Lib.hid (And.intro hap (And.intro hne hn'))
  clear h h1 h2 h3 h4 hp' hap hne hn' hb0 hn
  go_enter Tryd.func16, Tryd.ntmps16
  go_wp2_with fail
  refine HT.out.mono ?_
  rintro e w1 ⟨rfl, v', hB, hP, hc⟩
  have hlt := HL.out
  have hap := HN.out.1
  have hne := HN.out.2.1
  simp only [Sk.adv] at hlt hap hne
  have H1 : Hid (Blk w1 w.heap.size 48 #[.int .u64 0, .int .u64 0, .int .u64 0] ∧ Stk w1 (s.adv i0 (i1 + 1) i2) ∧ Chg s.own w w1) := by
    obtain ⟨hR, hb0, h1, h2, h3, h4⟩ := HR.out
    simp only [Sk.adv] at h2 h3 h4 hP
    refine ⟨hR.chg hc (by rintro (e | e) <;> omega), ⟨⟨v1, v', v3, by simpa [Sk.adv] using hB, ?_, ?_, ?_⟩, hne⟩, (Chg.of_below hb0 (fun q hq hq' => by omega)).trans (hc.mono fun q _ e => by
      rcases e with e | e
      · exact .inl e
      · exact .inr (.inr (.inl e)))⟩
    · exact (h2.chg hc (by rintro (e | e) <;> omega))
    · simp only [Sk.adv]; rw [show s.n2 - (i1 + 1) = n' by have := HN.out.2.2; omega]; simpa [Nat.add_assoc, Nat.add_comm, Nat.add_left_comm] using hP
    · exact (h4.chg hc (by rintro (e | e) <;> omega))
  have HQ := Lib.hid (show ∀ q, s.own q → q < w.heap.size from fun q hq => by
    rcases hq with rfl | rfl | rfl | rfl
    · exact hlt.1
    · exact hlt.2.1
    · exact hlt.2.2.1
    · exact hlt.2.2.2)
  clear hB hP hc HR HT HL HN hlt hap hne hl
  have r0 := H1.out.1.cell 0 rfl
  have r1 := H1.out.1.cell 1 rfl
  have r2 := H1.out.1.cell 2 rfl
  have zr := H1.out.1.frozen
  simp only [Sk.adv, Nat.zero_add]
  go_wp2
  have hR4 := (((H1.out.1.set 0 (.int .u64 (s.y2 i1 0))).set 1 (.int .u64 (s.y2 i1 1))).set 2 (.int .u64 (s.y2 i1 2)))
  have p0 := hR4.cell 0 rfl
  have p1 := hR4.cell 1 rfl
  have p2 := hR4.cell 2 rfl
  exact bodyPost_ret (v := .tuple #[.agg #[.int .u64 (s.y2 i1 0), .int .u64 (s.y2 i1 1), .int .u64 (s.y2 i1 2)], .nilIface]) (by simp [results, Tryd.results16, go_sem, p0, p1, p2]) rfl
    ⟨rfl, H1.out.2.1.chg (Chg.of_keep (S := fun q => q = w.heap.size) ((((Keep.refl w.heap.size w1).set (p := ⟨w.heap.size, 0, none⟩) rfl (.int .u64 (s.y2 i1 0))).set (p := ⟨w.heap.size, 1, none⟩) rfl (.int .u64 (s.y2 i1 1))).set (p := ⟨w.heap.size, 2, none⟩) rfl (.int .u64 (s.y2 i1 2))) rfl) (fun q hq e => by have := HQ.out q hq; omega), (((H1.out.2.2.set (p := ⟨w.heap.size, 0, none⟩) (.inl (Nat.le_refl _)) (.int .u64 (s.y2 i1 0))).set (p := ⟨w.heap.size, 1, none⟩) (.inl (Nat.le_refl _)) (.int .u64 (s.y2 i1 1))).set (p := ⟨w.heap.size, 2, none⟩) (.inl (Nat.le_refl _)) (.int .u64 (s.y2 i1 2)))⟩

set_option maxHeartbeats 4000000 in
set_option maxRecDepth 100000 in
theorem bits_none (w : World) (s : Sk) (h : Stk w s) (hn : s.n2 = 0) (hh : Handle w) :
    Calls Tryd.prog 16 #[.pointer (some ⟨s.g, 0, none⟩)] w fun e w' => e = .returned (.tuple #[.agg #[.int .u64 0, .int .u64 0, .int .u64 0], chain [(⟨#[98, 105, 116, 115]⟩, 0)] 80]) ∧ Below w.heap.size w w' := by
  obtain ⟨v1, v2, v3, h1, h2, h3, h4⟩ := h.ex
  obtain ⟨A, cap, hv⟩ := h3.slice
  rw [hn] at hv
  have hb0 : Below w.heap.size w (w.alloc (.cells #[.int .u64 0, .int .u64 0, .int .u64 0] 48)) := (Below.refl _ w).alloc (Nat.le_refl _) _
  have HT := Lib.hid (takeT_none (w.alloc (.cells #[.int .u64 0, .int .u64 0, .int .u64 0] 48)) s.g 1 #[v1, v2, v3] A cap ⟨#[98, 105, 116, 115]⟩ (h1.alloc _) (by rw [hv]; rfl) (hh.below hb0 hh.pos))
  have HR := Lib.hid (And.intro (Blk.new w 48 #[.int .u64 0, .int .u64 0, .int .u64 0]) hb0)
  clear h h1 h2 h3 h4 hv hn hb0 hh
  go_enter Tryd.func16, Tryd.ntmps16
  go_wp2_with fail
  refine HT.out.mono ?_
  rintro e w1 ⟨rfl, hb⟩
  have H1 := Lib.hid (And.intro (HR.out.1.below hb) (HR.out.2.trans (hb.mono HR.out.2.size)))
  obtain ⟨T0, v0, hT⟩ := chain_iface [(⟨#[98, 105, 116, 115]⟩, 0)] 80
  have HX := Lib.hid hT
  rw [hT]
  clear hb HR HT hT
  have r0 := H1.out.1.cell 0 rfl
  have r1 := H1.out.1.cell 1 rfl
  have r2 := H1.out.1.cell 2 rfl
  have zr := H1.out.1.frozen
  go_wp2
  have hR4 := (((H1.out.1.set 0 (.int .u64 0)).set 1 (.int .u64 0)).set 2 (.int .u64 0))
  have p0 := hR4.cell 0 rfl
  have p1 := hR4.cell 1 rfl
  have p2 := hR4.cell 2 rfl
  exact bodyPost_ret (v := .tuple #[.agg #[.int .u64 0, .int .u64 0, .int .u64 0], .iface T0 v0]) (by simp [results, Tryd.results16, go_sem, p0, p1, p2]) rfl
    ⟨by rw [HX.out], (((H1.out.2.setCell (p := ⟨w.heap.size, 0, none⟩) (Nat.le_refl _) (.int .u64 0)).setCell (p := ⟨w.heap.size, 1, none⟩) (Nat.le_refl _) (.int .u64 0)).setCell (p := ⟨w.heap.size, 2, none⟩) (Nat.le_refl _) (.int .u64 0))⟩

set_option maxHeartbeats 4000000 in
set_option maxRecDepth 100000 in
theorem ot_some (w : World) (s : Sk) (i0 i1 i2 : Nat) (h : Stk w (s.adv i0 i1 i2)) (hn : i2 < s.n3) :
    Calls Tryd.prog 17 #[.pointer (some ⟨s.g, 0, none⟩)] w fun e w' => e = .returned (.tuple #[.agg #[.int .u64 (s.y3 i2 0), .int .u64 (s.y3 i2 1), .int .u64 (s.y3 i2 2), .int .u64 (s.y3 i2 3), .bool (s.c3 i2 )], .nilIface]) ∧ Stk w' (s.adv i0 i1 (i2 + 1)) ∧ Chg s.own w w' := by
  have hap := h.apart
  have hne := h.ne
  obtain ⟨v1, v2, v3, h1, h2, h3, h4⟩ := h.ex
  have hl := h1.lt
  have hb0 : Below w.heap.size w (w.alloc (.cells #[.int .u64 0, .int .u64 0, .int .u64 0, .int .u64 0, .bool false] 55)) := (Below.refl _ w).alloc (Nat.le_refl _) _
  obtain ⟨n', hn'⟩ : ∃ n', s.n3 - i2 = n' + 1 := ⟨s.n3 - i2 - 1, by omega⟩
  have hp' : PilO (w.alloc (.cells #[.int .u64 0, .int .u64 0, .int .u64 0, .int .u64 0, .bool false] 55)) s.b3 v3 (n' + 1) (s.adv i0 i1 i2).y3 (s.adv i0 i1 i2).c3 := by
    have := h4.heap (w' := (w.alloc (.cells #[.int .u64 0, .int .u64 0, .int .u64 0, .int .u64 0, .bool false] 55))) (hb0.block _ h4.lt)
    rw [← hn']; exact this
  have HT := Lib.hid (takeO_some (w.alloc (.cells #[.int .u64 0, .int .u64 0, .int .u64 0, .int .u64 0, .bool false] 55)) s.g 2 s.b3 #[v1, v2, v3] v3 n' _ _ ⟨#[111, 116, 115]⟩ (h1.alloc _) rfl hp')
  have HR := Lib.hid (And.intro (Blk.new w 55 #[.int .u64 0, .int .u64 0, .int .u64 0, .int .u64 0, .bool false]) (And.intro hb0 (And.intro (h1.alloc (.cells #[.int .u64 0, .int .u64 0, .int .u64 0, .int .u64 0, .bool false] 55)) (And.intro (h2.heap (hb0.block _ h2.lt)) (And.intro (h3.heap (hb0.block _ h3.lt)) (h4.heap (hb0.block _ h4.lt)))))))
  have HL := Lib.hid (And.intro h1.lt (And.intro h2.lt (And.intro h3.lt h4.lt)))
  have HN := Lib.hid (And.intro hap (And.intro hne hn'))
  clear h h1 h2 h3 h4 hp' hap hne hn' hb0 hn
  go_enter Tryd.func17, Tryd.ntmps17
  go_wp2_with fail
  refine HT.out.mono ?_
  rintro e w1 ⟨rfl, v', hB, hP, hc⟩
  have hlt := HL.out
  have hap := HN.out.1
  have hne := HN.out.2.1
  simp only [Sk.adv] at hlt hap hne
  have H1 : Hid (Blk w1 w.heap.size 55 #[.int .u64 0, .int .u64 0, .int .u64 0, .int .u64 0, .bool false] ∧ Stk w1 (s.adv i0 i1 (i2 + 1)) ∧ Chg s.own w w1) := by
    obtain ⟨hR, hb0, h1, h2, h3, h4⟩ := HR.out
    simp only [Sk.adv] at h2 h3 h4 hP
    refine ⟨hR.chg hc (by rintro (e | e) <;> omega), ⟨⟨v1, v2, v', by simpa [Sk.adv] using hB, ?_, ?_, ?_⟩, hne⟩, (Chg.of_below hb0 (fun q hq hq' => by omega)).trans (hc.mono fun q _ e => by
      rcases e with e | e
      · exact .inl e
      · exact .inr (.inr (.inr e)))⟩
    · exact (h2.chg hc (by rintro (e | e) <;> omega))
    · exact (h3.chg hc (by rintro (e | e) <;> omega))
    · simp only [Sk.adv]; rw [show s.n3 - (i2 + 1) = n' by have := HN.out.2.2; omega]; simpa [Nat.add_assoc, Nat.add_comm, Nat.add_left_comm] using hP
  have HQ := Lib.hid (show ∀ q, s.own q → q < w.heap.size from fun q hq => by
    rcases hq with rfl | rfl | rfl | rfl
    · exact hlt.1
    · exact hlt.2.1
    · exact hlt.2.2.1
    · exact hlt.2.2.2)
  clear hB hP hc HR HT HL HN hlt hap hne hl
  have r0 := H1.out.1.cell 0 rfl
  have r1 := H1.out.1.cell 1 rfl
  have r2 := H1.out.1.cell 2 rfl
  have r3 := H1.out.1.cell 3 rfl
  have r4 := H1.out.1.cell 4 rfl
  have zr := H1.out.1.frozen
  simp only [Sk.adv, Nat.zero_add]
  go_wp2
  have hR4 := (((((H1.out.1.set 0 (.int .u64 (s.y3 i2 0))).set 1 (.int .u64 (s.y3 i2 1))).set 2 (.int .u64 (s.y3 i2 2))).set 3 (.int .u64 (s.y3 i2 3))).set 4 (.bool (s.c3 i2 )))
  have p0 := hR4.cell 0 rfl
  have p1 := hR4.cell 1 rfl
  have p2 := hR4.cell 2 rfl
  have p3 := hR4.cell 3 rfl
  have p4 := hR4.cell 4 rfl
  exact bodyPost_ret (v := .tuple #[.agg #[.int .u64 (s.y3 i2 0), .int .u64 (s.y3 i2 1), .int .u64 (s.y3 i2 2), .int .u64 (s.y3 i2 3), .bool (s.c3 i2 )], .nilIface]) (by simp [results, Tryd.results17, go_sem, p0, p1, p2, p3, p4]) rfl
    ⟨rfl, H1.out.2.1.chg (Chg.of_keep (S := fun q => q = w.heap.size) ((((((Keep.refl w.heap.size w1).set (p := ⟨w.heap.size, 0, none⟩) rfl (.int .u64 (s.y3 i2 0))).set (p := ⟨w.heap.size, 1, none⟩) rfl (.int .u64 (s.y3 i2 1))).set (p := ⟨w.heap.size, 2, none⟩) rfl (.int .u64 (s.y3 i2 2))).set (p := ⟨w.heap.size, 3, none⟩) rfl (.int .u64 (s.y3 i2 3))).set (p := ⟨w.heap.size, 4, none⟩) rfl (.bool (s.c3 i2 ))) rfl) (fun q hq e => by have := HQ.out q hq; omega), (((((H1.out.2.2.set (p := ⟨w.heap.size, 0, none⟩) (.inl (Nat.le_refl _)) (.int .u64 (s.y3 i2 0))).set (p := ⟨w.heap.size, 1, none⟩) (.inl (Nat.le_refl _)) (.int .u64 (s.y3 i2 1))).set (p := ⟨w.heap.size, 2, none⟩) (.inl (Nat.le_refl _)) (.int .u64 (s.y3 i2 2))).set (p := ⟨w.heap.size, 3, none⟩) (.inl (Nat.le_refl _)) (.int .u64 (s.y3 i2 3))).set (p := ⟨w.heap.size, 4, none⟩) (.inl (Nat.le_refl _)) (.bool (s.c3 i2 )))⟩

set_option maxHeartbeats 4000000 in
set_option maxRecDepth 100000 in
theorem ot_none (w : World) (s : Sk) (h : Stk w s) (hn : s.n3 = 0) (hh : Handle w) :
    Calls Tryd.prog 17 #[.pointer (some ⟨s.g, 0, none⟩)] w fun e w' => e = .returned (.tuple #[.agg #[.int .u64 0, .int .u64 0, .int .u64 0, .int .u64 0, .bool false], chain [(⟨#[111, 116, 115]⟩, 0)] 80]) ∧ Below w.heap.size w w' := by
  obtain ⟨v1, v2, v3, h1, h2, h3, h4⟩ := h.ex
  obtain ⟨A, cap, hv⟩ := h4.slice
  rw [hn] at hv
  have hb0 : Below w.heap.size w (w.alloc (.cells #[.int .u64 0, .int .u64 0, .int .u64 0, .int .u64 0, .bool false] 55)) := (Below.refl _ w).alloc (Nat.le_refl _) _
  have HT := Lib.hid (takeO_none (w.alloc (.cells #[.int .u64 0, .int .u64 0, .int .u64 0, .int .u64 0, .bool false] 55)) s.g 2 #[v1, v2, v3] A cap ⟨#[111, 116, 115]⟩ (h1.alloc _) (by rw [hv]; rfl) (hh.below hb0 hh.pos))
  have HR := Lib.hid (And.intro (Blk.new w 55 #[.int .u64 0, .int .u64 0, .int .u64 0, .int .u64 0, .bool false]) hb0)
  clear h h1 h2 h3 h4 hv hn hb0 hh
  go_enter Tryd.func17, Tryd.ntmps17
  go_wp2_with fail
  refine HT.out.mono ?_
  rintro e w1 ⟨rfl, hb⟩
  have H1 := Lib.hid (And.intro (HR.out.1.below hb) (HR.out.2.trans (hb.mono HR.out.2.size)))
  obtain ⟨T0, v0, hT⟩ := chain_iface [(⟨#[111, 116, 115]⟩, 0)] 80
  have HX := Lib.hid hT
  rw [hT]
  clear hb HR HT hT
  have r0 := H1.out.1.cell 0 rfl
  have r1 := H1.out.1.cell 1 rfl
  have r2 := H1.out.1.cell 2 rfl
  have r3 := H1.out.1.cell 3 rfl
  have r4 := H1.out.1.cell 4 rfl
  have zr := H1.out.1.frozen
  go_wp2
  have hR4 := (((((H1.out.1.set 0 (.int .u64 0)).set 1 (.int .u64 0)).set 2 (.int .u64 0)).set 3 (.int .u64 0)).set 4 (.bool false))
  have p0 := hR4.cell 0 rfl
  have p1 := hR4.cell 1 rfl
  have p2 := hR4.cell 2 rfl
  have p3 := hR4.cell 3 rfl
  have p4 := hR4.cell 4 rfl
  exact bodyPost_ret (v := .tuple #[.agg #[.int .u64 0, .int .u64 0, .int .u64 0, .int .u64 0, .bool false], .iface T0 v0]) (by simp [results, Tryd.results17, go_sem, p0, p1, p2, p3, p4]) rfl
    ⟨by rw [HX.out], (((((H1.out.2.setCell (p := ⟨w.heap.size, 0, none⟩) (Nat.le_refl _) (.int .u64 0)).setCell (p := ⟨w.heap.size, 1, none⟩) (Nat.le_refl _) (.int .u64 0)).setCell (p := ⟨w.heap.size, 2, none⟩) (Nat.le_refl _) (.int .u64 0)).setCell (p := ⟨w.heap.size, 3, none⟩) (Nat.le_refl _) (.int .u64 0)).setCell (p := ⟨w.heap.size, 4, none⟩) (Nat.le_refl _) (.bool false))⟩
end Go.Proofs.YtgmlmngnedhllaaDoor
