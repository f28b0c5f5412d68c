/- The laws' common beginning: awake. -/
import Derived.Test.YtgmlmngnedhllaaDoorQD3
import Derived.Test.YtgmlmngnedhllaaDoorEI
import Derived.Laws.StructEq
namespace Go.Proofs.YtgmlmngnedhllaaDoor
open Go.RowKit

theorem Handle.chg {S : Nat → Prop} {w w' : World} (h : Handle w) (hc : Chg S w w') (hs : ¬ S 0) : Handle w' := hc.cell h hs
def lit5 (q : Nat) : Int := (q : Int) + 1
theorem own_lit5 (w : World) : Own (w.alloc (.cells #[.int .u64 1, .int .u64 2, .int .u64 3, .int .u64 4, .int .u64 5] 46)) w.heap.size 5 lit5 := heap_alloc_new w _
theorem lst_lit5 (w : World) : Lst (w.alloc (.cells #[.int .u64 1, .int .u64 2, .int .u64 3, .int .u64 4, .int .u64 5] 46)) (.slice (some ⟨w.heap.size, 0, none⟩) 5 5) 5 lit5 :=
  ⟨_, 5, rfl, by omega, by unfold maxLen; omega, fun h => (by cases h), (At.own (own_lit5 w)).opt⟩
theorem wrap_small (n : Int) (h0 : 0 ≤ n) (h1 : n < 1000) : IntKind.u64.wrap n = n := by rw [u64w]; omega
theorem dealt_lit5 {s0 s1 : Sk} (h : Dealt lit5 1 0 0 s0 s1) : (s0.y1 0 0 = 1 ∧ s0.y1 0 1 = 3 ∧ s0.y1 0 2 = 5) ∧ s1.y1 0 0 = 2 ∧ s1.y1 0 1 = 4 ∧ s1.y1 0 2 = 16 := by
  rw [h.y1, h.z1]
  refine ⟨⟨rfl, rfl, rfl⟩, rfl, rfl, ?_⟩
  show lackT lit5 0 = 16
  unfold lackT
  rw [show lit5 0 + lit5 (0 + 1) = 3 from rfl, show lit5 (0 + 2) + lit5 (0 + 3) = 7 from rfl, show lit5 (0 + 4) = 5 from rfl, wrap_small 3 (by omega) (by omega), wrap_small 7 (by omega) (by omega), wrap_small (3 * 7) (by omega) (by omega), wrap_small _ (by omega) (by omega)]
  rfl
/-- A stock's triple, its numbers known. -/
theorem triple_want (w : World) (s : Sk) (i j k : Nat) (a b c : Int) (h : Stk w (s.adv i j k)) (hn : i < s.n1) (ha : s.y1 i 0 = a) (hb : s.y1 i 1 = b) (hc : s.y1 i 2 = c) :
    Calls Tryd.prog 15 #[.pointer (some ⟨s.g, 0, none⟩)] w fun e w' => e = .returned (.tuple #[tri a b c, .nilIface]) ∧ Stk w' (s.adv (i + 1) j k) ∧ Chg s.own w w' := by
  rw [← ha, ← hb, ← hc]; exact triple_some w s i j k h hn
set_option maxHeartbeats 4000000 in
set_option maxRecDepth 100000 in
theorem awake_any (w : World) (hg : Handle w) : Calls Tryd.prog 8 #[] w fun e w' => e = .returned (.bool true) ∧ Below w.heap.size w w' := by
  have hb0 := (Below.refl w.heap.size w).alloc (Nat.le_refl _) (.cells #[.int .u64 1, .int .u64 2, .int .u64 3, .int .u64 4, .int .u64 5] 46)
  have HL := Lib.hid (load_any _ 5 lit5 _ (lst_lit5 w) (by omega))
  have H0 := Lib.hid (And.intro hg hb0)
  clear hg hb0
  go_enter Tryd.func8, Tryd.ntmps8
  go_wp2_with fail
  refine HL.out.mono ?_
  rintro e w1 ⟨g, h, hg, hh, rfl, hT, hb1⟩
  simp only [World.size_alloc] at hg hh
  have H1 := Lib.hid (And.intro hT (H0.out.2.trans (hb1.mono H0.out.2.size)))
  clear hT hb1 HL
  go_wp2_with fail
  refine (deal_ok w1 g h 5 lit5 1 0 0 H1.out.1 (by omega) (by omega) (by omega) (by omega)).mono ?_
  rintro e w2 ⟨s0, s1, rfl, hD, hA, hS0, hS1, _, hc⟩
  have hsz := H1.out.2.size
  have hb2 : Below w.heap.size w w2 := H1.out.2.trans (hc.below (B := w.heap.size) hsz (fun k e => by omega))
  have hba : Below w2.heap.size w2 (w2.alloc (.cells #[.pointer (some ⟨s0.g, 0, none⟩), .pointer (some ⟨s1.g, 0, none⟩)] 29)) := (Below.refl _ w2).alloc (Nat.le_refl _) _
  have hB : Blk (w2.alloc (.cells #[.pointer (some ⟨s0.g, 0, none⟩), .pointer (some ⟨s1.g, 0, none⟩)] 29)) w2.heap.size 29 #[.pointer (some ⟨s0.g, 0, none⟩), .pointer (some ⟨s1.g, 0, none⟩)] := Blk.new w2 _ _
  have HA := Lib.hid (And.intro hA (And.intro (dealt_lit5 hD) (And.intro hD.a1 (And.intro hD.b1 (And.intro hsz (And.intro (fun q hq => hS0.lt (q := q) hq) (fun q hq => hS1.lt (q := q) hq)))))))
  have H2 := Lib.hid (And.intro (hS0.below hba) (And.intro (hS1.below hba) (And.intro hB (hb2.trans (hba.mono hb2.size)))))
  have p0 := hB.cell 0 rfl
  have p1 := hB.cell 1 rfl
  have hs2 := hb2.size
  clear hD hA hS0 hS1 hc hb2 hba hB hsz H1
  generalize hm : w2.heap.size = m at *
  go_wp2_with fail
  generalize (w2.alloc (.cells #[.pointer (some ⟨s0.g, 0, none⟩), .pointer (some ⟨s1.g, 0, none⟩)] 29)) = w3 at *
  refine (triple_want w3 s0 0 0 0 1 3 5 H2.out.1 (by have := HA.out.2.2.1; omega) HA.out.2.1.1.1 HA.out.2.1.1.2.1 HA.out.2.1.1.2.2).mono ?_
  rintro e w4 ⟨rfl, hS, hc⟩
  have hap := HA.out.1
  have hl0 := HA.out.2.2.2.2.2.1
  have hl1 := HA.out.2.2.2.2.2.2
  have hz := HA.out.2.2.2.2.1
  have h4 : Stk w4 (s0.adv 1 0 0) ∧ Stk w4 (s1.adv 0 0 0) ∧ Blk w4 m 29 #[.pointer (some ⟨s0.g, 0, none⟩), .pointer (some ⟨s1.g, 0, none⟩)] ∧ Below w.heap.size w w4 :=
    ⟨hS, H2.out.2.1.chg hc (fun q hq e => hap.ap q e hq), H2.out.2.2.1.chg hc (fun e => by have := hl0 _ e; omega), H2.out.2.2.2.trans (hc.below H2.out.2.2.2.size fun k e => by have := hap.a0 k e; omega)⟩
  have hba : Below w4.heap.size w4 (w4.alloc (.cells #[.int .u64 1, .int .u64 3, .int .u64 5] 48)) := (Below.refl _ w4).alloc (Nat.le_refl _) _
  have H4 := Lib.hid (And.intro (h4.1.below hba) (And.intro (h4.2.1.below hba) (And.intro (h4.2.2.1.below hba) (And.intro (h4.2.2.2.trans (hba.mono h4.2.2.2.size)) (Blk.new w4 48 #[.int .u64 1, .int .u64 3, .int .u64 5])))))
  have hm4 : m < w4.heap.size := h4.2.2.1.lt
  clear hS hc h4 hba H2 hap hl0 hl1 hz
  have p0 := H4.out.2.2.1.cell 0 rfl
  have p1 := H4.out.2.2.1.cell 1 rfl
  go_wp2_with fail
  generalize (w4.alloc (.cells #[.int .u64 1, .int .u64 3, .int .u64 5] 48)) = w5 at *
  generalize w4.heap.size = m4 at *
  refine (triple_want w5 s1 0 0 0 2 4 16 H4.out.2.1 (by have := HA.out.2.2.2.1; omega) HA.out.2.1.2.1 HA.out.2.1.2.2.1 HA.out.2.1.2.2.2).mono ?_
  rintro e w6 ⟨rfl, hS, hc⟩
  have hap := HA.out.1
  have hl0 := HA.out.2.2.2.2.2.1
  have hl1 := HA.out.2.2.2.2.2.2
  have hz := HA.out.2.2.2.2.1
  have h6 : Stk w6 (s0.adv 1 0 0) ∧ Blk w6 m 29 #[.pointer (some ⟨s0.g, 0, none⟩), .pointer (some ⟨s1.g, 0, none⟩)] ∧ Below w.heap.size w w6 ∧ Blk w6 m4 48 #[.int .u64 1, .int .u64 3, .int .u64 5] :=
    ⟨H4.out.1.chg hc (fun q hq e => hap.ap q hq e), H4.out.2.2.1.chg hc (fun e => by have := hl1 _ e; omega), H4.out.2.2.2.1.trans (hc.below H4.out.2.2.2.1.size fun k e => by have := hap.a1 k e; omega), H4.out.2.2.2.2.chg hc (fun e => by have := hl1 _ e; omega)⟩
  have hba : Below w6.heap.size w6 (w6.alloc (.cells #[.int .u64 2, .int .u64 4, .int .u64 16] 48)) := (Below.refl _ w6).alloc (Nat.le_refl _) _
  have hbw := h6.2.2.1.trans (hba.mono h6.2.2.1.size)
  have H6 := Lib.hid (And.intro (h6.1.below hba) (And.intro (h6.2.1.below hba) (And.intro hbw (And.intro (h6.2.2.2.below hba) (And.intro (Blk.new w6 48 #[.int .u64 2, .int .u64 4, .int .u64 16]) (H0.out.1.below hbw H0.out.1.pos))))))
  clear hS hc h6 hba hbw H4 hap hl0 hl1 hz p0 p1
  have p0 := H6.out.2.1.cell 0 rfl
  have p1 := H6.out.2.1.cell 1 rfl
  go_wp2_with fail
  generalize (w6.alloc (.cells #[.int .u64 2, .int .u64 4, .int .u64 16] 48)) = w7 at *
  generalize w6.heap.size = m6 at *
  refine (triple_none w7 (s0.adv 1 0 0) H6.out.1 (by show s0.n1 - 1 = 0; have := HA.out.2.2.1; omega) H6.out.2.2.2.2.2).mono ?_
  rintro e w8 ⟨rfl, hb8⟩
  have hba : Below w8.heap.size w8 (w8.alloc (.cells #[.int .u64 0, .int .u64 0, .int .u64 0] 48)) := (Below.refl _ w8).alloc (Nat.le_refl _) _
  have hb9 := hb8.trans (hba.mono hb8.size)
  have H8 := Lib.hid (And.intro (H6.out.2.2.2.1.below hb9) (And.intro (H6.out.2.2.2.2.1.below hb9) (H6.out.2.2.1.trans (hb9.mono H6.out.2.2.1.size))))
  obtain ⟨T0, v0, hT⟩ := chain_iface [(⟨#[116, 114, 105, 112, 108, 101, 115]⟩, 0)] 80
  have hfi := fis_chain [(⟨#[116, 114, 105, 112, 108, 101, 115]⟩, 0)] 80 80 (w8.alloc (.cells #[.int .u64 0, .int .u64 0, .int .u64 0] 48))
  rw [hT] at hfi ⊢
  have HF := Lib.hid hfi
  clear hb8 hba hb9 H6 p0 p1 hT hfi
  have a0 := H8.out.1.cell 0 rfl
  have a1 := H8.out.1.cell 1 rfl
  have a2 := H8.out.1.cell 2 rfl
  have b0 := H8.out.2.1.cell 0 rfl
  have b1 := H8.out.2.1.cell 1 rfl
  have b2 := H8.out.2.1.cell 2 rfl
  go_wp2_with fail
  refine HF.out.mono ?_
  rintro e w9 ⟨rfl, h9⟩
  have H9 := Lib.hid (H8.out.2.2.trans (h9.mono H8.out.2.2.size))
  clear h9
  go_wp2
  go_ret
  exact ⟨rfl, H9.out⟩
end Go.Proofs.YtgmlmngnedhllaaDoor
