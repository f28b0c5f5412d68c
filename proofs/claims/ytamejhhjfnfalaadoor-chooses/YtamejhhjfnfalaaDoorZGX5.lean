/- GarbleChooses' walk. -/
import Derived.Test.YtamejhhjfnfalaaDoorZGX0
import Derived.Test.YtamejhhjfnfalaaDoorZGC4
namespace Go.Proofs.YtamejhhjfnfalaaDoor
open Go.RowKit

theorem chgOf {S : Nat → Prop} {w w' : World} (h : Co.Chg S w w') : Chg S w w' := ⟨h.os, h.tape, h.output, h.size, h.block⟩
theorem chgCo {S : Nat → Prop} {w w' : World} (h : Chg S w w') : Co.Chg S w w' := ⟨h.os, h.tape, h.output, h.size, h.block⟩
/-- What holds in the statement that appends an OT to each list. -/
structure Rq (f : Nat → Int) (B L : Nat) (s0 s1 : Co.Sk) (w6 : World) (bx bz k na nb : Nat) (va vb : Value) (w : World) : Prop where
  a : Row w B 71 5 va na (ov (dP f) (dQ f) fun _ => false)
  b : Row w B 71 5 vb nb (ov (dR f) (fun _ => (0, 0)) (dC f))
  d : ∀ q, va.ownBlock = some q → vb.ownBlock ≠ some q
  s : Co.Stk w (s0.adv 0 0 (k + 1))
  t : Co.Stk w (s1.adv 0 0 (k + 1))
  c : Chg (fun q => s0.own q ∨ s1.own q) w6 w
  x : Blk w bx 71 (otC (dP f k) (dQ f k) false)
  y : Blk w bz 71 (otC (dR f k) (0, 0) (dC f k))
  la : na = k → ∀ q, va.ownBlock = some q → q < L
  lb : nb = k → ∀ q, vb.ownBlock = some q → q < L
  lx : L ≤ bx ∧ L ≤ bz ∧ B ≤ w.heap.size ∧ w6.heap.size = B
  o0 : ∀ q, s0.own q → q < B
  o1 : ∀ q, s1.own q → q < B
section
variable {f : Nat → Int} {B L : Nat} {s0 s1 : Co.Sk} {w6 : World} {bx bz k na nb : Nat} {va vb : Value} {w w' : World}
theorem Rq.below (h : Rq f B L s0 s1 w6 bx bz k na nb va vb w) (hb : Below w.heap.size w w') : Rq f B L s0 s1 w6 bx bz k na nb va vb w' :=
  ⟨h.a.below hb, h.b.below hb, h.d, h.s.below hb, h.t.below hb, h.c.trans2 (Chg.ofBelow (S := fun _ => False) hb) (fun _ _ h => h.elim), h.x.below hb h.x.lt, h.y.below hb h.y.lt, h.la, h.lb, ⟨h.lx.1, h.lx.2.1, Nat.le_trans h.lx.2.2.1 hb.size, h.lx.2.2.2⟩, h.o0, h.o1⟩
theorem Rq.appA (h : Rq f B L s0 s1 w6 bx bz k k nb va vb w) (tb : Nat) (ht : Blk w tb 71 (otC (dP f k) (dQ f k) false)) (hk : k < 1000) :
    ∃ g kk w', (∀ ty, (Builtin.append_ #[68, 68] ty #[va, .slice (some ⟨tb, 0, none⟩) 1 1]).run Tryd.prog w = .ok (.slice (some ⟨g, 0, none⟩) (k + 1) kk) w') ∧ Rq f B L s0 s1 w6 bx bz k (k + 1) nb (.slice (some ⟨g, 0, none⟩) (k + 1) kk) vb w' ∧ ∀ q cs, L ≤ q → Blk w q 71 cs → Blk w' q 71 cs := by
  obtain ⟨g, kk, w', hr, hR, hc, ho⟩ := app_ot w B tb va k (dP f) (dQ f) (fun _ => false) h.a ht hk h.lx.2.2.1
  have hown := h.a.own
  have hla := h.la rfl
  refine ⟨g, kk, w', hr, ⟨hR, h.b.chg hc (fun q hq e => h.d q e hq), fun q hq e => ?_, h.s.chg (chgCo hc) (fun q hq e => by have := (hown q e).1; have := h.o0 q hq; omega), h.t.chg (chgCo hc) (fun q hq e => by have := (hown q e).1; have := h.o1 q hq; omega), h.c.trans2 hc (fun q hq e => by have := (hown q e).1; have := h.lx.2.2.2; omega), h.x.chg hc (fun e => by have := hla _ e; have := h.lx.1; omega), h.y.chg hc (fun e => by have := hla _ e; have := h.lx.2.1; omega), fun e => by omega, h.lb, ⟨h.lx.1, h.lx.2.1, Nat.le_trans h.lx.2.2.1 hc.size, h.lx.2.2.2⟩, h.o0, h.o1⟩, fun q cs hq hb => hb.chg hc (fun e => by have := hla _ e; omega)⟩
  obtain rfl : g = q := Option.some.inj hq
  rcases ho with h1 | h1
  · exact h.d g h1 e
  · have := (h.b.own g e).2.1; omega
theorem Rq.appB (h : Rq f B L s0 s1 w6 bx bz k na k va vb w) (tb : Nat) (ht : Blk w tb 71 (otC (dR f k) (0, 0) (dC f k))) (hk : k < 1000) :
    ∃ g kk w', (∀ ty, (Builtin.append_ #[68, 68] ty #[vb, .slice (some ⟨tb, 0, none⟩) 1 1]).run Tryd.prog w = .ok (.slice (some ⟨g, 0, none⟩) (k + 1) kk) w') ∧ Rq f B L s0 s1 w6 bx bz k na (k + 1) va (.slice (some ⟨g, 0, none⟩) (k + 1) kk) w' := by
  obtain ⟨g, kk, w', hr, hR, hc, ho⟩ := app_ot w B tb vb k (dR f) (fun _ => (0, 0)) (dC f) h.b ht hk h.lx.2.2.1
  have hown := h.b.own
  have hla := h.lb rfl
  refine ⟨g, kk, w', hr, ⟨h.a.chg hc (fun q hq e => h.d q hq e), hR, fun q hq e => ?_, h.s.chg (chgCo hc) (fun q hq e => by have := (hown q e).1; have := h.o0 q hq; omega), h.t.chg (chgCo hc) (fun q hq e => by have := (hown q e).1; have := h.o1 q hq; omega), h.c.trans2 hc (fun q hq e => by have := (hown q e).1; have := h.lx.2.2.2; omega), h.x.chg hc (fun e => by have := hla _ e; have := h.lx.1; omega), h.y.chg hc (fun e => by have := hla _ e; have := h.lx.2.1; omega), h.la, fun e => by omega, ⟨h.lx.1, h.lx.2.1, Nat.le_trans h.lx.2.2.1 hc.size, h.lx.2.2.2⟩, h.o0, h.o1⟩⟩
  obtain rfl : g = q := Option.some.inj e
  rcases ho with h1 | h1
  · exact h.d g hq h1
  · have := (h.a.own g hq).2.1; omega
end
theorem repN_wd {z p q : Nat → Lab} {d : Lab} (hz : ∀ i, Garb.Wd (z i)) (hp : ∀ i, Garb.Wd (p i)) (hq : ∀ i, Garb.Wd (q i)) (hd : Garb.Wd d) (a j : Nat) : Garb.Wd (repN z p q d a j) := by
  unfold repN
  split
  · split
    · exact (hz _).add (hq _)
    · exact (hz _).add (hp _)
  · split
    · exact ((hz _).add hd).add (hp _)
    · exact ((hz _).add hd).add (hq _)
theorem Row.full {w : World} {B e s n : Nat} {v : Value} {F : Nat → Value} (h : Row w B e s v n F) (hn : 0 < n) : ∃ g c, v = .slice (some ⟨g, 0, none⟩) n c ∧ AtV w (some ⟨g, 0, none⟩) (n * s) F ∧ n ≤ c := by
  obtain ⟨A, c, rfl, h1, _, h3, h4, _, h5⟩ := h.read
  rcases A with _ | ad
  · have := (h3 rfl).1; omega
  · obtain ⟨_, _, e⟩ := h5 ad rfl
    refine ⟨ad.block, c, ?_, ?_, h1⟩
    · rw [← e]
    · rw [← e]; exact h4
theorem elemL : Tryd.prog.elem 29 = 28 := by kernel_rfl
theorem undL : Tryd.prog.underlying 29 = some (.slice (Tryd.prog.elem 29)) := by rw [elemL]; exact Tryd.underlying29
theorem sizeL (w : World) : (sizeOf (Tryd.prog.elem 29)).run Tryd.prog w = .ok 2 w := by
  rw [elemL]
  have h : (Tryd.prog.info? 28).map (·.size) = some 2 := by kernel_rfl
  cases hq : Tryd.prog.info? 28 with
  | none => simp [hq] at h
  | some i =>
    rw [hq] at h
    simp at h
    simp [sizeOf, typeInfo, hq, h]
def tlL (b o cap : Nat) : Addr := if cap = 1 then ⟨b, o, none⟩ else ⟨b, o + 2, none⟩
theorem run_tailL (w : World) (b o n cap : Nat) :
    (Instr.slice 29 (.slice (some ⟨b, o, none⟩) (n + 1) cap) (some (.int .i64 1)) none none).run Tryd.prog w = .ok (.slice (some (tlL b o cap)) n (cap - 1)) w := by
  have hr := run_slice_l w 29 (some ⟨b, o, none⟩) (n + 1) cap undL .i64 1 (by omega) (by omega)
  rw [sizeL] at hr
  rw [hr]
  unfold tlL
  by_cases h : cap = 1
  · subst h
    simp [Result.andThen, sliced]
  · simp [Result.andThen, sliced, h, Addr.add]
theorem run_makeU (w : World) : (Instr.makeSlice 61 (.int .i64 320) (.int .i64 320)).run Tryd.prog w = .ok (.slice (some ⟨w.heap.size, 0, none⟩) 320 320) (w.alloc (.cells (madeCells #[Value.int .u64 0] 320) 26)) := run_make_row eltU w 320 320 (by omega) (by omega) (by omega)

set_option maxHeartbeats 16000000 in
set_option maxRecDepth 100000 in
theorem chooses_walk (A1 : Option Addr) (nw cw : Nat) (fw : Nat → Int) (x : Nat) (dl : Lab) (Az : Option Addr) (nz cz first : Nat) (zin : Nat → Lab) (w : World) (hh : Handle w) (hw : AtV w A1 nw (wv fw)) (hw0 : A1 = none → nw = 0 ∧ cw = 0) (hf : ∀ i, 0 ≤ fw i ∧ fw i < 18446744073709551616) (hx : x < 18446744073709551616) (hdl : Garb.Wd dl) (hz : AtV w Az (nz * 2) (lv zin)) (hzw : ∀ i, Garb.Wd (zin i)) (hz0 : Az = none → nz = 0 ∧ cz = 0) (hnz : nz ≤ cz) :
    Calls Tryd.prog 6 #[.slice A1 nw cw, .int .u64 (x : Int), keysV dl Az nz cz first] w fun e w' => e = .returned (.bool true) ∧ Below w.heap.size w w' := by
  have X0 := Blk.new w 31 #[.int .u64 (dl.1 : Int), .int .u64 (dl.2 : Int), .slice Az nz cz, .int .u64 (first : Int)]
  have b0 := (Below.refl w.heap.size w).alloc (Nat.le_refl _) (.cells #[.int .u64 (dl.1 : Int), .int .u64 (dl.2 : Int), .slice Az nz cz, .int .u64 (first : Int)] 31)
  have HAw := Lib.hid (awake_any (w.alloc (.cells #[.int .u64 (dl.1 : Int), .int .u64 (dl.2 : Int), .slice Az nz cz, .int .u64 (first : Int)] 31)) (hh.belowS b0))
  have H1 := Lib.hid (show Below w.heap.size w (w.alloc (.cells #[.int .u64 (dl.1 : Int), .int .u64 (dl.2 : Int), .slice Az nz cz, .int .u64 (first : Int)] 31)) ∧ KyB (w.alloc (.cells #[.int .u64 (dl.1 : Int), .int .u64 (dl.2 : Int), .slice Az nz cz, .int .u64 (first : Int)] 31)) w.heap.size dl Az nz cz first ∧ Handle (w.alloc (.cells #[.int .u64 (dl.1 : Int), .int .u64 (dl.2 : Int), .slice Az nz cz, .int .u64 (first : Int)] 31)) from ⟨b0, X0, hh.belowS b0⟩)
  have HA := Lib.hid (And.intro hw (And.intro hw0 (And.intro hz (And.intro hz0 hnz))))
  have HD := Lib.hid (And.intro hf (And.intro hx (And.intro hdl hzw)))
  have HH0 := Lib.hid hh
  clear X0 b0 hh hw hw0 hz hz0 hnz hf hx hdl hzw
  go_enter Tryd.func6, Tryd.ntmps6
  go_wp2_with fail
  refine HAw.out.mono ?_
  rintro e w2 ⟨rfl, hb2⟩
  have h0 := H1.out
  have H2 := Lib.hid (show Below w.heap.size w w2 ∧ KyB w2 w.heap.size dl Az nz cz first ∧ Handle w2 from ⟨h0.1.trans (hb2.mono h0.1.size), h0.2.1.below hb2 h0.2.1.lt, h0.2.2.belowS hb2⟩)
  clear H1 h0 hb2 HAw
  have hmk := run_makeU w2
  have hR2 := made_wd w2 320 320 (by omega) (by unfold maxLen; omega)
  have hbm : Below w2.heap.size w2 (w2.alloc (.cells (madeCells #[Value.int .u64 0] 320) 26)) := (Below.refl _ _).alloc (Nat.le_refl _) _
  obtain ⟨kc, w3, hcp, hR3, hc3⟩ := copy_wd _ w2.heap.size w2.heap.size 320 320 _ A1 nw cw fw hR2 ((HA.out.1.below H2.out.1).below hbm) HA.out.2.1
  have hb3 : Below w2.heap.size w2 w3 := hbm.trans (hc3.below (by simp) fun k e => by omega)
  obtain ⟨f, hff⟩ : ∃ f : Nat → Int, (fun i => if i < nw then fw i else 0) = f := ⟨_, rfl⟩
  have hR3' : Row w3 w2.heap.size 26 1 (.slice (some ⟨w2.heap.size, 0, none⟩) 320 320) 320 (wv f) := hR3.congr fun i _ => by
    rw [← hff]
    unfold wv
    by_cases h : i < nw
    · simp only [if_pos h]
    · simp only [if_neg h]
  have HF := Lib.hid (show ∀ i, 0 ≤ f i ∧ f i < 18446744073709551616 from fun i => by
    rw [← hff]
    show 0 ≤ (if i < nw then fw i else 0) ∧ (if i < nw then fw i else 0) < 18446744073709551616
    split
    · exact HD.out.1 i
    · omega)
  have HLd := Lib.hid (Co.load_any (.slice (some ⟨w2.heap.size, 0, none⟩) 320 320) 320 f w3 hR3'.lst (by omega))
  have h0 := H2.out
  have hbw := h0.1.trans (hb3.mono h0.1.size)
  have H3 := Lib.hid (show Below w.heap.size w w3 ∧ KyB w3 w.heap.size dl Az nz cz first ∧ Handle w3 from ⟨hbw, h0.2.1.below hb3 h0.2.1.lt, h0.2.2.belowS hb3⟩)
  clear hR2 hbm hR3 hc3 hb3 hff hR3' h0 hbw H2
  go_wp2_with fail
  refine HLd.out.mono ?_
  rintro e w4 ⟨gt, gh, hgt, hgh, rfl, hTp, hb4⟩
  have HDl := Lib.hid (show Calls Tryd.prog 27 #[.pointer (some ⟨gt, 0, none⟩), .int .i64 0, .int .i64 0, .int .i64 64] w4 _ from Co.deal_ok w4 gt gh 320 f 0 0 64 hTp (by omega) (by omega) (by omega) (by omega))
  have h0 := H3.out
  have H4 := Lib.hid (show Below w.heap.size w w4 ∧ KyB w4 w.heap.size dl Az nz cz first ∧ Handle w4 ∧ w.heap.size < gt from ⟨h0.1.trans (hb4.mono h0.1.size), h0.2.1.below hb4 h0.2.1.lt, h0.2.2.belowS hb4, by have := h0.2.1.lt; omega⟩)
  clear hgt hgh hTp hb4 h0 H3 HLd hmk hcp
  go_wp2_with fail
  refine HDl.out.mono ?_
  rintro e w5 ⟨s0, s1, rfl, hDt, hAp, hS0, hS1, -, hc5⟩
  have hc5 := chgOf hc5
  have hc5w : Below w.heap.size w w5 := H4.out.1.trans (hc5.below H4.out.1.size fun q e => by have := H4.out.2.2.2; omega)
  have hb6 := (Below.refl w5.heap.size w5).alloc (Nat.le_refl _) (.cells #[.pointer (some ⟨s0.g, 0, none⟩), .pointer (some ⟨s1.g, 0, none⟩)] 63)
  have XS := Blk.new w5 63 #[.pointer (some ⟨s0.g, 0, none⟩), .pointer (some ⟨s1.g, 0, none⟩)]
  have hky := (H4.out.2.1.chg hc5 (by have := H4.out.2.2.2; omega)).below hb6 (H4.out.2.1.chg hc5 (by have := H4.out.2.2.2; omega)).lt
  have hO0 : ∀ (wv : World) (k : Nat), Co.Stk wv (s0.adv 0 0 k) → k < 64 → Calls Tryd.prog 29 #[.pointer (some ⟨s0.g, 0, none⟩)] wv fun e w' => e = .returned (.tuple #[.agg (otC (dP f k) (dQ f k) false), .nilIface]) ∧ Co.Stk w' (s0.adv 0 0 (k + 1)) ∧ Chg s0.own wv w' := fun wv k hs hk => by
    have h := Co.ot_some wv s0 0 0 k hs (by rw [hDt.a3]; exact hk)
    rw [hDt.y3, hDt.c3] at h
    rw [← ot_sent HF.out k]
    exact h.mono fun e w' ⟨h1, h2, h3⟩ => ⟨h1, h2, chgOf h3⟩
  have hO1 : ∀ (wv : World) (k : Nat), Co.Stk wv (s1.adv 0 0 k) → k < 64 → Calls Tryd.prog 29 #[.pointer (some ⟨s1.g, 0, none⟩)] wv fun e w' => e = .returned (.tuple #[.agg (otC (dR f k) (0, 0) (dC f k)), .nilIface]) ∧ Co.Stk w' (s1.adv 0 0 (k + 1)) ∧ Chg s1.own wv w' := fun wv k hs hk => by
    have h := Co.ot_some wv s1 0 0 k hs (by rw [hDt.b3]; exact hk)
    rw [hDt.z3, hDt.d3] at h
    rw [← ot_recv HF.out k]
    exact h.mono fun e w' ⟨h1, h2, h3⟩ => ⟨h1, h2, chgOf h3⟩
  obtain ⟨w6, hw6⟩ : ∃ x, w5.alloc (.cells #[.pointer (some ⟨s0.g, 0, none⟩), .pointer (some ⟨s1.g, 0, none⟩)] 63) = x := ⟨_, rfl⟩
  rw [hw6] at hb6 XS hky
  have hs6 : w6.heap.size = w5.heap.size + 1 := by rw [← hw6]; simp
  have H6 := Lib.hid (show Below w.heap.size w w6 ∧ KyB w6 w.heap.size dl Az nz cz first ∧ Blk w6 w5.heap.size 63 #[.pointer (some ⟨s0.g, 0, none⟩), .pointer (some ⟨s1.g, 0, none⟩)] ∧ (∀ q, s0.own q → w.heap.size < q ∧ q < w5.heap.size) ∧ (∀ q, s1.own q → w.heap.size < q ∧ q < w5.heap.size) ∧ (∀ q, s0.own q → s1.own q → False) ∧ w5.heap.size < w6.heap.size from ⟨hc5w.trans (hb6.mono hc5w.size), hky, XS, fun q hq => ⟨by have h1 := hAp.a0 q hq; have h2 := H4.out.2.1.lt; omega, hS0.lt hq⟩, fun q hq => ⟨by have h1 := hAp.a1 q hq; have h2 := H4.out.2.1.lt; omega, hS1.lt hq⟩, fun q h1 h2 => hAp.ap q h1 h2, by omega⟩)
  have HI0 := Lib.hid (show Co.Stk w6 (s0.adv 0 0 0) ∧ Co.Stk w6 (s1.adv 0 0 0) from ⟨hS0.below hb6, hS1.below hb6⟩)
  have HO0 := Lib.hid hO0
  have HO1 := Lib.hid hO1
  obtain ⟨bs, hbs⟩ : ∃ bs, w5.heap.size = bs := ⟨_, rfl⟩
  rw [hbs] at H6
  have HW6 := Lib.hid (And.intro hw6 hbs)
  clear HDl hDt hAp hS0 hS1 hc5 hc5w hb6 XS hky hO0 hO1 hw6 hs6 hbs H4
  go_wp2
  rw [HW6.out.1, HW6.out.2]
  clear HW6
  have hsz6 := H6.out.2.2.2.2.2.2
  obtain ⟨B, hB⟩ : ∃ B, w6.heap.size = B := ⟨_, rfl⟩
  have HB := Lib.hid hB
  rw [hB] at hsz6
  have HBs := Lib.hid hsz6
  clear hsz6 hB
  go_loopw [10, 11, 12] (fun va' vb' i wr => ∃ k : Nat, ∃ va vb, k ≤ 64 ∧ va = va' ∧ vb = vb' ∧ i = .int .i64 k ∧ Hid (Row wr B 71 5 va k (ov (dP f) (dQ f) fun _ => false) ∧ Row wr B 71 5 vb k (ov (dR f) (fun _ => (0, 0)) (dC f)) ∧ (∀ q, va.ownBlock = some q → vb.ownBlock ≠ some q) ∧ Co.Stk wr (s0.adv 0 0 k) ∧ Co.Stk wr (s1.adv 0 0 k) ∧ Chg (fun q => s0.own q ∨ s1.own q) w6 wr)) (fun _ _ i _ => 64 - (intOf i).toNat)
  case atStart => exact ⟨0, _, _, by omega, rfl, rfl, rfl, Row.nil _ _ _ _ _, Row.nil _ _ _ _ _, (fun q h => by cases h), HI0.out.1, HI0.out.2, Chg.refl _ _⟩
  case round =>
    clear HI0
    obtain ⟨k, va, vb, hk, rfl, rfl, rfl, HI⟩ := hrel
    have hBw : B ≤ wr.heap.size := by have := HI.out.2.2.2.2.2.size; have := HB.out; omega
    by_cases hlt : k < 64
    · have lt1 : (k : Int) < 64 := by omega
      have e1 : IntKind.i64.wrap ((k : Int) + 1) = (k : Int) + 1 := i64_nat _ (by omega) (by omega)
      have HSr := Lib.hid (H6.out.2.2.1.chg HI.out.2.2.2.2.2 (fun h => by have h1 := H6.out.2.2.2.1; have h2 := H6.out.2.2.2.2.1; rcases h with h | h; have := (h1 _ h).2; omega; have := (h2 _ h).2; omega))
      have c0 := HSr.out.cell 0 (v := .pointer (some ⟨s0.g, 0, none⟩)) rfl
      have HC := Lib.hid (HO0.out wr k HI.out.2.2.2.1 hlt)
      have HLt := Lib.hid hlt
      have HBw := Lib.hid hBw
      clear hlt hBw
      go_wp2_with fail
      refine HC.out.mono ?_
      rintro e wa ⟨rfl, hSa, hca⟩
      have hsa := hca.size
      have XA := Blk.new wa 71 (otC (dP f k) (dQ f k) false)
      have hba := (Below.refl wa.heap.size wa).alloc (Nat.le_refl _) (.cells (otC (dP f k) (dQ f k) false) 71)
      have hcA : Chg s0.own wr (wa.alloc (.cells (otC (dP f k) (dQ f k) false) 71)) := hca.trans2 (Chg.ofBelow (S := fun _ => False) hba) (fun q _ h => h.elim)
      have hSr := HSr.out.chg hcA (fun h => by have h1 := (H6.out.2.2.2.1 _ h).2; omega)
      have c1 := hSr.cell 1 (v := .pointer (some ⟨s1.g, 0, none⟩)) rfl
      have hT1 : Co.Stk (wa.alloc (.cells (otC (dP f k) (dQ f k) false) 71)) (s1.adv 0 0 k) := HI.out.2.2.2.2.1.chg (chgCo hcA) (fun q hq h => H6.out.2.2.2.2.2.1 q h hq)
      have HC1 := Lib.hid (HO1.out _ k hT1 HLt.out)
      have HA5 := Lib.hid (show Co.Stk (wa.alloc (.cells (otC (dP f k) (dQ f k) false) 71)) (s0.adv 0 0 (k + 1)) ∧ Blk (wa.alloc (.cells (otC (dP f k) (dQ f k) false) 71)) wa.heap.size 71 (otC (dP f k) (dQ f k) false) ∧ Chg s0.own wr (wa.alloc (.cells (otC (dP f k) (dQ f k) false) 71)) ∧ wr.heap.size ≤ wa.heap.size from ⟨hSa.below hba, XA, hcA, hsa⟩)
      clear hSa hca hsa XA hba hcA hSr hT1 c0 HC
      go_wp2_with fail
      refine HC1.out.mono ?_
      rintro e wb ⟨rfl, hSb, hcb⟩
      have h5 := HA5.out
      have hsb := hcb.size
      have hOb := (Below.refl wb.heap.size wb).alloc (Nat.le_refl _) (.cells (otC (dR f k) (0, 0) (dC f k)) 71)
      have XB := Blk.new wb 71 (otC (dR f k) (0, 0) (dC f k))
      have hL1 := h5.2.2.2
      rw [show (wa.alloc (.cells (otC (dP f k) (dQ f k) false) 71)).heap.size = wa.heap.size + 1 by simp] at hsb
      have hP0 := HI.out.1.own
      have hP1 := HI.out.2.1.own
      have ho0 := H6.out.2.2.2.1
      have ho1 := H6.out.2.2.2.2.1
      have hBs := HBs.out
      have hBw := HBw.out
      have hn0 : ∀ q, va.ownBlock = some q → ¬ s0.own q := fun q hq h => by have := (hP0 q hq).1; have := (ho0 q h).2; omega
      have hn1 : ∀ q, va.ownBlock = some q → ¬ s1.own q := fun q hq h => by have := (hP0 q hq).1; have := (ho1 q h).2; omega
      have hn2 : ∀ q, vb.ownBlock = some q → ¬ s0.own q := fun q hq h => by have := (hP1 q hq).1; have := (ho0 q h).2; omega
      have hn3 : ∀ q, vb.ownBlock = some q → ¬ s1.own q := fun q hq h => by have := (hP1 q hq).1; have := (ho1 q h).2; omega
      have hRq := Lib.hid (show Rq f B wr.heap.size s0 s1 w6 wa.heap.size wb.heap.size k k k va vb (wb.alloc (.cells (otC (dR f k) (0, 0) (dC f k)) 71)) from ⟨((HI.out.1.chg h5.2.2.1 hn0).chg hcb hn1).below hOb, ((HI.out.2.1.chg h5.2.2.1 hn2).chg hcb hn3).below hOb, HI.out.2.2.1, (h5.1.chg (chgCo hcb) (fun q h1 h2 => H6.out.2.2.2.2.2.1 q h1 h2)).below hOb, hSb.below hOb, ((HI.out.2.2.2.2.2.trans2 h5.2.2.1 (fun q _ h => .inl h)).trans2 hcb (fun q _ h => .inr h)).trans2 (Chg.ofBelow (S := fun _ => False) hOb) (fun q _ h => h.elim), (h5.2.1.chg hcb (fun h => by have := (ho1 _ h).2; omega)).below hOb (by have := h5.2.1.lt; omega), XB, fun _ q hq => (hP0 q hq).2.1, fun _ q hq => (hP1 q hq).2.1, ⟨by omega, by omega, by simp; omega, HB.out⟩, fun q h => by have := (ho0 q h).2; omega, fun q h => by have := (ho1 q h).2; omega⟩)
      clear h5 hsb hOb XB hL1 hP0 hP1 ho0 ho1 hBs hBw hn0 hn1 hn2 hn3 hSb hcb HA5 HC1 c1 HI
      go_wp2
      generalize (wb.alloc (.cells (otC (dR f k) (0, 0) (dC f k)) 71)) = w7 at *
      refine wp_region_held_drew (S := fun w' => Blk w' wa.heap.size 71 (otC (dP f k) (dQ f k) false) ∧ Blk w' wb.heap.size 71 (otC (dR f k) (0, 0) (dC f k))) (by kernel_rfl) ⟨hRq.out.x, hRq.out.y⟩ (fun hS => ?_)
      have hq0 := hRq.out.below (drew_below w7)
      clear hRq
      refine htg (i := 0) rfl (va) (by kernel_rfl) (by kernel_rfl) (by kernel_rfl) (fun _ _ _ h => h) (by rfl) hS (fun w' hw' => by go_simp) ?_
      try simp only [Act.put, List.setIfInBounds_toArray, List.set_cons_zero, List.set_cons_succ]
      refine htg (i := 1) rfl (.agg (otC (dP f k) (dQ f k) false)) (by kernel_rfl) (by kernel_rfl) (by kernel_rfl) (fun _ _ _ h => h) (by rfl) hS (fun w' hw' => by have hX := hw'.1; have q0 := Blk.cell hX 0 rfl; have q1 := Blk.cell hX 1 rfl; have q2 := Blk.cell hX 2 rfl; have q3 := Blk.cell hX 3 rfl; have q4 := Blk.cell hX 4 rfl; clear hX; go_simp) ?_
      try simp only [Act.put, List.setIfInBounds_toArray, List.set_cons_zero, List.set_cons_succ]
      refine htg (i := 4) rfl (vb) (by kernel_rfl) (by kernel_rfl) (by kernel_rfl) (fun _ _ _ h => h) (by rfl) hS (fun w' hw' => by go_simp) ?_
      try simp only [Act.put, List.setIfInBounds_toArray, List.set_cons_zero, List.set_cons_succ]
      refine htg (i := 5) rfl (.agg (otC (dR f k) (0, 0) (dC f k))) (by kernel_rfl) (by kernel_rfl) (by kernel_rfl) (fun _ _ _ h => h) (by rfl) hS (fun w' hw' => by have hX := hw'.2; have q0 := Blk.cell hX 0 rfl; have q1 := Blk.cell hX 1 rfl; have q2 := Blk.cell hX 2 rfl; have q3 := Blk.cell hX 3 rfl; have q4 := Blk.cell hX 4 rfl; clear hX; go_simp) ?_
      try simp only [Act.put, List.setIfInBounds_toArray, List.set_cons_zero, List.set_cons_succ]
      refine h2g (i := 2) (i' := 6) (by kernel_rfl) rfl rfl (fun K' hK => ?_) (fun K' hK => ?_)
      · go_simp
        have hb1 := (Below.refl (w7.drew).heap.size (w7.drew)).alloc (Nat.le_refl _) (.cells (otC (dP f k) (dQ f k) false) 71)
        have hq1 := hq0.below hb1
        have ht1 := Blk.new (w7.drew) 71 (otC (dP f k) (dQ f k) false)
        refine hK.out _ _ ⟨hq1.x, hq1.y⟩ ?_
        clear hK K'
        try simp only [Act.put, List.setIfInBounds_toArray, List.set_cons_zero, List.set_cons_succ]
        refine h2g (i := 3) (i' := 6) (by kernel_rfl) rfl rfl (fun K' hK => ?_) (fun K' hK => ?_)
        · obtain ⟨ga, kga, W2, hr, hq2, hkeep⟩ := hq1.appA (w7.drew.heap.size) (ht1) (by have := HLt.out; omega)
          refine wp_append_run _ _ 68 rfl va (.slice (some ⟨w7.drew.heap.size, 0, none⟩) 1 1) (.slice (some ⟨ga, 0, none⟩) (k + 1) kga) W2 rfl rfl (hr _) ?_
          refine hK.out _ _ ⟨hq2.x, hq2.y⟩ ?_
          clear hK K' hr
          try simp only [Act.put, List.setIfInBounds_toArray, List.set_cons_zero, List.set_cons_succ]
          refine h1g (i := 6) (by kernel_rfl) rfl (by rfl) (fun K' hK => ?_)
          go_simp
          have hb3 := (Below.refl (W2).heap.size (W2)).alloc (Nat.le_refl _) (.cells (otC (dR f k) (0, 0) (dC f k)) 71)
          have hq3 := hq2.below hb3
          have ht3 := Blk.new (W2) 71 (otC (dR f k) (0, 0) (dC f k))
          refine hK.out _ _ ⟨hq3.x, hq3.y⟩ ?_
          clear hK K'
          try simp only [Act.put, List.setIfInBounds_toArray, List.set_cons_zero, List.set_cons_succ]
          refine h1g (i := 7) (by kernel_rfl) rfl (by rfl) (fun K' hK => ?_)
          obtain ⟨gb, kgb, We, hr, hqe⟩ := hq3.appB (W2.heap.size) (ht3) (by have := HLt.out; omega)
          refine wp_append_run _ _ 68 rfl vb (.slice (some ⟨W2.heap.size, 0, none⟩) 1 1) (.slice (some ⟨gb, 0, none⟩) (k + 1) kgb) We rfl rfl (hr _) ?_
          refine hK.out _ _ ⟨hqe.x, hqe.y⟩ ?_
          clear hK K' hr
          try simp only [Act.put, List.setIfInBounds_toArray, List.set_cons_zero, List.set_cons_succ]
          refine h1g (i := 8) (by kernel_rfl) rfl (by rfl) (fun K' hK => ?_)
          go_simp
          refine hK.out _ _ ⟨hqe.x, hqe.y⟩ ?_
          clear hK K'
          try simp only [Act.put, List.setIfInBounds_toArray, List.set_cons_zero, List.set_cons_succ]
          refine h1g (i := 9) (by kernel_rfl) rfl (by rfl) (fun K' hK => ?_)
          go_simp
          refine hK.out _ _ ⟨hqe.x, hqe.y⟩ ?_
          clear hK K'
          try simp only [Act.put, List.setIfInBounds_toArray, List.set_cons_zero, List.set_cons_succ]
          refine wpAnyH_done (by kernel_rfl) ?_ _
          have HF := Lib.hid hqe
          clear hqe
          go_wp2
          go_roundw
          case rel => exact ⟨k + 1, _, _, by have := HLt.out; omega, rfl, rfl, by go_num, HF.out.a, HF.out.b, HF.out.d, HF.out.s, HF.out.t, HF.out.c⟩
          case measure => simp [intOf]; have := HLt.out; omega
        · go_simp
          have hb2 := (Below.refl ((w7.drew).alloc (.cells (otC (dP f k) (dQ f k) false) 71)).heap.size ((w7.drew).alloc (.cells (otC (dP f k) (dQ f k) false) 71))).alloc (Nat.le_refl _) (.cells (otC (dR f k) (0, 0) (dC f k)) 71)
          have hq2 := hq1.below hb2
          have ht2 := Blk.new ((w7.drew).alloc (.cells (otC (dP f k) (dQ f k) false) 71)) 71 (otC (dR f k) (0, 0) (dC f k))
          refine hK.out _ _ ⟨hq2.x, hq2.y⟩ ?_
          clear hK K'
          try simp only [Act.put, List.setIfInBounds_toArray, List.set_cons_zero, List.set_cons_succ]
          refine h1g (i := 3) (by kernel_rfl) rfl (by rfl) (fun K' hK => ?_)
          obtain ⟨ga, kga, W3, hr, hq3, hkeep⟩ := hq2.appA (w7.drew.heap.size) ((ht1.below hb2 ht1.lt)) (by have := HLt.out; omega)
          have ht5 := hkeep _ _ (show wr.heap.size ≤ ((w7.drew).alloc (.cells (otC (dP f k) (dQ f k) false) 71)).heap.size by have h1 := hq0.lx.1; have h2 := hq0.x.lt; have h3 : ((w7.drew).alloc (.cells (otC (dP f k) (dQ f k) false) 71)).heap.size = w7.drew.heap.size + 1 := (by simp); omega) ht2
          refine wp_append_run _ _ 68 rfl va (.slice (some ⟨w7.drew.heap.size, 0, none⟩) 1 1) (.slice (some ⟨ga, 0, none⟩) (k + 1) kga) W3 rfl rfl (hr _) ?_
          refine hK.out _ _ ⟨hq3.x, hq3.y⟩ ?_
          clear hK K' hr
          try simp only [Act.put, List.setIfInBounds_toArray, List.set_cons_zero, List.set_cons_succ]
          refine h1g (i := 7) (by kernel_rfl) rfl (by rfl) (fun K' hK => ?_)
          rw [show ((w7.drew).alloc (.cells (otC (dP f k) (dQ f k) false) 71)).heap.size = w7.drew.heap.size + 1 by simp] at ht5
          obtain ⟨gb, kgb, We, hr, hqe⟩ := hq3.appB (w7.drew.heap.size + 1) (ht5) (by have := HLt.out; omega)
          refine wp_append_run _ _ 68 rfl vb (.slice (some ⟨w7.drew.heap.size + 1, 0, none⟩) 1 1) (.slice (some ⟨gb, 0, none⟩) (k + 1) kgb) We rfl rfl (hr _) ?_
          refine hK.out _ _ ⟨hqe.x, hqe.y⟩ ?_
          clear hK K' hr
          try simp only [Act.put, List.setIfInBounds_toArray, List.set_cons_zero, List.set_cons_succ]
          refine h1g (i := 8) (by kernel_rfl) rfl (by rfl) (fun K' hK => ?_)
          go_simp
          refine hK.out _ _ ⟨hqe.x, hqe.y⟩ ?_
          clear hK K'
          try simp only [Act.put, List.setIfInBounds_toArray, List.set_cons_zero, List.set_cons_succ]
          refine h1g (i := 9) (by kernel_rfl) rfl (by rfl) (fun K' hK => ?_)
          go_simp
          refine hK.out _ _ ⟨hqe.x, hqe.y⟩ ?_
          clear hK K'
          try simp only [Act.put, List.setIfInBounds_toArray, List.set_cons_zero, List.set_cons_succ]
          refine wpAnyH_done (by kernel_rfl) ?_ _
          have HF := Lib.hid hqe
          clear hqe
          go_wp2
          go_roundw
          case rel => exact ⟨k + 1, _, _, by have := HLt.out; omega, rfl, rfl, by go_num, HF.out.a, HF.out.b, HF.out.d, HF.out.s, HF.out.t, HF.out.c⟩
          case measure => simp [intOf]; have := HLt.out; omega
      · go_simp
        have hb1 := (Below.refl (w7.drew).heap.size (w7.drew)).alloc (Nat.le_refl _) (.cells (otC (dR f k) (0, 0) (dC f k)) 71)
        have hq1 := hq0.below hb1
        have ht1 := Blk.new (w7.drew) 71 (otC (dR f k) (0, 0) (dC f k))
        refine hK.out _ _ ⟨hq1.x, hq1.y⟩ ?_
        clear hK K'
        try simp only [Act.put, List.setIfInBounds_toArray, List.set_cons_zero, List.set_cons_succ]
        refine h1g (i := 2) (by kernel_rfl) rfl (by rfl) (fun K' hK => ?_)
        go_simp
        have hb2 := (Below.refl ((w7.drew).alloc (.cells (otC (dR f k) (0, 0) (dC f k)) 71)).heap.size ((w7.drew).alloc (.cells (otC (dR f k) (0, 0) (dC f k)) 71))).alloc (Nat.le_refl _) (.cells (otC (dP f k) (dQ f k) false) 71)
        have hq2 := hq1.below hb2
        have ht2 := Blk.new ((w7.drew).alloc (.cells (otC (dR f k) (0, 0) (dC f k)) 71)) 71 (otC (dP f k) (dQ f k) false)
        refine hK.out _ _ ⟨hq2.x, hq2.y⟩ ?_
        clear hK K'
        try simp only [Act.put, List.setIfInBounds_toArray, List.set_cons_zero, List.set_cons_succ]
        rw [show ((w7.drew).alloc (.cells (otC (dR f k) (0, 0) (dC f k)) 71)).heap.size = w7.drew.heap.size + 1 by simp] at ht2
        refine h1g (i := 3) (by kernel_rfl) rfl (by rfl) (fun K' hK => ?_)
        obtain ⟨ga, kga, W3, hr, hq3, hkeep⟩ := hq2.appA (w7.drew.heap.size + 1) (ht2) (by have := HLt.out; omega)
        have ht5 := hkeep _ _ (show wr.heap.size ≤ w7.drew.heap.size by have h1 := hq0.lx.1; have h2 := hq0.x.lt; omega) (ht1.below hb2 ht1.lt)
        refine wp_append_run _ _ 68 rfl va (.slice (some ⟨w7.drew.heap.size + 1, 0, none⟩) 1 1) (.slice (some ⟨ga, 0, none⟩) (k + 1) kga) W3 rfl rfl (hr _) ?_
        refine hK.out _ _ ⟨hq3.x, hq3.y⟩ ?_
        clear hK K' hr
        try simp only [Act.put, List.setIfInBounds_toArray, List.set_cons_zero, List.set_cons_succ]
        refine h1g (i := 7) (by kernel_rfl) rfl (by rfl) (fun K' hK => ?_)
        obtain ⟨gb, kgb, We, hr, hqe⟩ := hq3.appB (w7.drew.heap.size) (ht5) (by have := HLt.out; omega)
        refine wp_append_run _ _ 68 rfl vb (.slice (some ⟨w7.drew.heap.size, 0, none⟩) 1 1) (.slice (some ⟨gb, 0, none⟩) (k + 1) kgb) We rfl rfl (hr _) ?_
        refine hK.out _ _ ⟨hqe.x, hqe.y⟩ ?_
        clear hK K' hr
        try simp only [Act.put, List.setIfInBounds_toArray, List.set_cons_zero, List.set_cons_succ]
        refine h1g (i := 8) (by kernel_rfl) rfl (by rfl) (fun K' hK => ?_)
        go_simp
        refine hK.out _ _ ⟨hqe.x, hqe.y⟩ ?_
        clear hK K'
        try simp only [Act.put, List.setIfInBounds_toArray, List.set_cons_zero, List.set_cons_succ]
        refine h1g (i := 9) (by kernel_rfl) rfl (by rfl) (fun K' hK => ?_)
        go_simp
        refine hK.out _ _ ⟨hqe.x, hqe.y⟩ ?_
        clear hK K'
        try simp only [Act.put, List.setIfInBounds_toArray, List.set_cons_zero, List.set_cons_succ]
        refine wpAnyH_done (by kernel_rfl) ?_ _
        have HF := Lib.hid hqe
        clear hqe
        go_wp2
        go_roundw
        case rel => exact ⟨k + 1, _, _, by have := HLt.out; omega, rfl, rfl, by go_num, HF.out.a, HF.out.b, HF.out.d, HF.out.s, HF.out.t, HF.out.c⟩
        case measure => simp [intOf]; have := HLt.out; omega
    · obtain rfl : k = 64 := by omega
      have lt1 : ¬ ((64 : Nat) : Int) < 64 := by omega
      obtain ⟨wB, hwB⟩ : ∃ y, y = wr := ⟨_, rfl⟩
      subst hwB
      obtain ⟨ga, ca, rfl, hAa, hca⟩ := HI.out.1.full (by omega)
      obtain ⟨gb2, cb, rfl, hAb, hcb⟩ := HI.out.2.1.full (by omega)
      have hc6 := HI.out.2.2.2.2.2
      have hno : ∀ q, (s0.own q ∨ s1.own q) → w.heap.size < q := fun q h => by
        rcases h with h | h
        · exact (H6.out.2.2.2.1 q h).1
        · exact (H6.out.2.2.2.2.1 q h).1
      have hbw := H6.out.1.trans (hc6.below H6.out.1.size fun q h => Nat.le_of_lt (hno q h))
      have H7 := Lib.hid (show Below w.heap.size w wB ∧ KyB wB w.heap.size dl Az nz cz first ∧ AtV wB (some ⟨ga, 0, none⟩) (64 * 5) (ov (dP f) (dQ f) fun _ => false) ∧ AtV wB (some ⟨gb2, 0, none⟩) (64 * 5) (ov (dR f) (fun _ => (0, 0)) (dC f)) from ⟨hbw, H6.out.2.1.chg hc6 (fun h => by have := hno _ h; omega), hAa, hAb⟩)
      have HCp := Lib.hid (show 64 ≤ ca ∧ 64 ≤ cb from ⟨hca, hcb⟩)
      have hZe := Lib.hid (zeros_any wB dl Az nz cz first zin 64 (HA.out.2.2.1.below hbw) HA.out.2.2.2.2 HA.out.2.2.2.1 (by omega))
      have k0 := H7.out.2.1.cell 0 (v := .int .u64 (dl.1 : Int)) rfl
      have k1 := H7.out.2.1.cell 1 (v := .int .u64 (dl.2 : Int)) rfl
      have k2 := H7.out.2.1.cell 2 (v := .slice Az nz cz) rfl
      have k3 := H7.out.2.1.cell 3 (v := .int .u64 (first : Int)) rfl
      clear hlt hk hBw hAa hca hAb hcb hc6 hno hbw HI H6 HO0 HO1
      go_wp2_with fail
      refine hZe.out.mono ?_
      rintro e w8 ⟨gz, kz, rfl, hgz, hRz, hb8⟩
      rw [show (64 : Int).toNat = 64 from rfl] at hRz ⊢
      obtain ⟨z, hzz⟩ : ∃ z, zkc nz zin = z := ⟨_, rfl⟩
      have hZa : AtV w8 (some ⟨gz, 0, none⟩) (64 * 2) (lv z) := hzz ▸ hRz.atv.congr (lv_congr fun i hi => zkc_eq (by omega))
      have HZw := Lib.hid (show ∀ i, Garb.Wd (z i) from fun i => hzz ▸ zkc_wd HD.out.2.2.2 i)
      have h0 := H7.out
      have H8 := Lib.hid (show Below w.heap.size w w8 ∧ KyB w8 w.heap.size dl Az nz cz first ∧ AtV w8 (some ⟨ga, 0, none⟩) (64 * 5) (ov (dP f) (dQ f) fun _ => false) ∧ AtV w8 (some ⟨gb2, 0, none⟩) (64 * 5) (ov (dR f) (fun _ => (0, 0)) (dC f)) ∧ AtV w8 (some ⟨gz, 0, none⟩) (64 * 2) (lv z) from ⟨h0.1.trans (hb8.mono h0.1.size), h0.2.1.below hb8 h0.2.1.lt, h0.2.2.1.below hb8, h0.2.2.2.below hb8, hZa⟩)
      have HKz := Lib.hid hRz.le
      have HAk := Lib.hid (ask_ok w8 (some ⟨gb2, 0, none⟩) cb x (dR f) (fun _ => (0, 0)) (dC f) H8.out.2.2.2.1 HD.out.2.1)
      clear hgz hRz hb8 hzz hZa h0 H7 hZe k0 k1 k2 k3
      go_wp2_with fail
      refine HAk.out.mono ?_
      rintro e w9 ⟨rfl, hb9⟩
      obtain ⟨a, haa⟩ : ∃ a, askN x (dC f) 64 = a := ⟨_, rfl⟩
      have HAa := Lib.hid haa
      have Hal := Lib.hid (show a < 18446744073709551616 from haa ▸ askN_lt x (dC f) HD.out.2.1 64 (Nat.le_refl _))
      rw [haa]
      have h0 := H8.out
      have H9 := Lib.hid (show Below w.heap.size w w9 ∧ KyB w9 w.heap.size dl Az nz cz first ∧ AtV w9 (some ⟨ga, 0, none⟩) (64 * 5) (ov (dP f) (dQ f) fun _ => false) ∧ AtV w9 (some ⟨gb2, 0, none⟩) (64 * 5) (ov (dR f) (fun _ => (0, 0)) (dC f)) ∧ AtV w9 (some ⟨gz, 0, none⟩) (64 * 2) (lv z) from ⟨h0.1.trans (hb9.mono h0.1.size), h0.2.1.below hb9 h0.2.1.lt, h0.2.2.1.below hb9, h0.2.2.2.1.below hb9, h0.2.2.2.2.below hb9⟩)
      have k0 := H9.out.2.1.cell 0 (v := .int .u64 (dl.1 : Int)) rfl
      have k1 := H9.out.2.1.cell 1 (v := .int .u64 (dl.2 : Int)) rfl
      have HRp := Lib.hid (reply_ok w9 ga ca gz kz (dP f) (dQ f) z (fun _ => false) dl a H9.out.2.2.1 H9.out.2.2.2.2 (dP_wd HF.out) (dQ_wd HF.out) HZw.out HD.out.2.2.1 Hal.out)
      clear hb9 haa h0 H8 HAk
      go_wp2_with fail
      refine HRp.out.mono ?_
      rintro e w10 ⟨gr, cr, rfl, hRr, hb10⟩
      have h0 := H9.out
      have H10 := Lib.hid (show Below w.heap.size w w10 ∧ KyB w10 w.heap.size dl Az nz cz first ∧ AtV w10 (some ⟨ga, 0, none⟩) (64 * 5) (ov (dP f) (dQ f) fun _ => false) ∧ AtV w10 (some ⟨gb2, 0, none⟩) (64 * 5) (ov (dR f) (fun _ => (0, 0)) (dC f)) ∧ AtV w10 (some ⟨gz, 0, none⟩) (64 * 2) (lv z) ∧ AtV w10 (some ⟨gr, 0, none⟩) (128 * 2) (lv (repN z (dP f) (dQ f) dl a)) from ⟨h0.1.trans (hb10.mono h0.1.size), h0.2.1.below hb10 h0.2.1.lt, h0.2.2.1.below hb10, h0.2.2.2.1.below hb10, h0.2.2.2.2.below hb10, hRr.atv⟩)
      have HKr := Lib.hid hRr.le
      have HPk := Lib.hid (pick_ok w10 gb2 cb gr cr (dR f) (fun _ => (0, 0)) (repN z (dP f) (dQ f) dl a) (dC f) x H10.out.2.2.2.1 H10.out.2.2.2.2.2 (dR_wd HF.out) (repN_wd HZw.out (dP_wd HF.out) (dQ_wd HF.out) HD.out.2.2.1 a) HD.out.2.1)
      clear hRr hb10 h0 H9 HRp k0 k1
      go_wp2_with fail
      refine HPk.out.mono ?_
      rintro e w11 ⟨rfl, hRl, hb11⟩
      obtain ⟨gl, hgl⟩ : ∃ gl, w10.heap.size = gl := ⟨_, rfl⟩
      rw [hgl] at hRl ⊢
      have h0 := H10.out
      have H11 := Lib.hid (show Below w.heap.size w w11 ∧ KyB w11 w.heap.size dl Az nz cz first ∧ AtV w11 (some ⟨ga, 0, none⟩) (64 * 5) (ov (dP f) (dQ f) fun _ => false) ∧ AtV w11 (some ⟨gb2, 0, none⟩) (64 * 5) (ov (dR f) (fun _ => (0, 0)) (dC f)) ∧ AtV w11 (some ⟨gz, 0, none⟩) (64 * 2) (lv z) ∧ AtV w11 (some ⟨gr, 0, none⟩) (128 * 2) (lv (repN z (dP f) (dQ f) dl a)) ∧ AtV w11 (some ⟨gl, 0, none⟩) (64 * 2) (lv (pickN (repN z (dP f) (dQ f) dl a) (dR f) x)) from ⟨h0.1.trans (hb11.mono h0.1.size), h0.2.1.below hb11 h0.2.1.lt, h0.2.2.1.below hb11, h0.2.2.2.1.below hb11, h0.2.2.2.2.1.below hb11, h0.2.2.2.2.2.below hb11, hRl.atv⟩)
      have k0 := H11.out.2.1.cell 0 (v := .int .u64 (dl.1 : Int)) rfl
      have k1 := H11.out.2.1.cell 1 (v := .int .u64 (dl.2 : Int)) rfl
      have HRr := Lib.hid (rreply_ok w11 ga ca gz kz (dP f) (dQ f) z (fun _ => false) dl a H11.out.2.2.1 H11.out.2.2.2.2.1 (dP_wd HF.out) (dQ_wd HF.out) HZw.out HD.out.2.2.1 Hal.out)
      clear hRl hb11 hgl h0 H10 HPk
      go_wp2_with fail
      refine HRr.out.mono ?_
      rintro e w12 ⟨v12, rfl, hR12, hb12⟩
      obtain ⟨g12, c12, rfl, hA12, -⟩ := hR12.full (by omega)
      have HSm := Lib.hid (same_yes w12 (some ⟨gr, 0, none⟩) 128 cr (repN z (dP f) (dQ f) dl a) (some ⟨g12, 0, none⟩) c12 (H11.out.2.2.2.2.2.1.below hb12) hA12 (by unfold maxLen; omega))
      have HB12 := Lib.hid hb12
      clear hR12 hA12 hb12 HRr k0 k1
      go_wp2_with fail
      refine HSm.out.mono ?_
      rintro e w13 ⟨rfl, hb13⟩
      have hb := HB12.out.trans (hb13.mono HB12.out.size)
      have h0 := H11.out
      have H13 := Lib.hid (show Below w.heap.size w w13 ∧ KyB w13 w.heap.size dl Az nz cz first ∧ AtV w13 (some ⟨ga, 0, none⟩) (64 * 5) (ov (dP f) (dQ f) fun _ => false) ∧ AtV w13 (some ⟨gb2, 0, none⟩) (64 * 5) (ov (dR f) (fun _ => (0, 0)) (dC f)) ∧ AtV w13 (some ⟨gz, 0, none⟩) (64 * 2) (lv z) ∧ AtV w13 (some ⟨gr, 0, none⟩) (128 * 2) (lv (repN z (dP f) (dQ f) dl a)) ∧ AtV w13 (some ⟨gl, 0, none⟩) (64 * 2) (lv (pickN (repN z (dP f) (dQ f) dl a) (dR f) x)) from ⟨h0.1.trans (hb.mono h0.1.size), h0.2.1.below hb h0.2.1.lt, h0.2.2.1.below hb, h0.2.2.2.1.below hb, h0.2.2.2.2.1.below hb, h0.2.2.2.2.2.1.below hb, h0.2.2.2.2.2.2.below hb⟩)
      clear hb13 hb h0 H11 HSm HB12
      go_wp2
      go_loopw [115] (fun i wr => ∃ k : Nat, k ≤ 64 ∧ i = .int .i64 k ∧ Hid (Below w13.heap.size w13 wr)) (fun i _ => 64 - (intOf i).toNat)
      case atStart => exact ⟨0, by omega, rfl, Below.refl _ _⟩
      case round =>
        obtain ⟨k, hk, rfl, HI⟩ := hrel
        by_cases hlt : k < 64
        · have lt1 : (k : Int) < 64 := by omega
          have lt0 : (0 : Int) ≤ (k : Int) := by omega
          have e1 : IntKind.i64.wrap ((k : Int) + 1) = (k : Int) + 1 := i64_nat _ (by omega) (by omega)
          have hb := HI.out
          have h0 := H13.out
          obtain ⟨_, e9, ae, hae, -, -, -, -, c4, -⟩ := (h0.2.2.2.1.below hb).ot k hlt
          cases e9
          rw [Addr.add_mid, Nat.zero_add] at hae
          subst hae
          have HK := Lib.hid (show KyB wr w.heap.size dl Az nz cz first ∧ AtV wr (some ⟨gz, 0, none⟩) (64 * 2) (lv z) ∧ AtV wr (some ⟨gl, 0, none⟩) (64 * 2) (lv (pickN (repN z (dP f) (dQ f) dl a) (dR f) x)) ∧ pickN (repN z (dP f) (dQ f) dl a) (dR f) x k = Garb.lab Garb.nadd (z k) dl (x.testBit k) ∧ a.testBit k = (x.testBit k != dC f k) from ⟨h0.2.1.below hb h0.2.1.lt, h0.2.2.2.2.1.below hb, h0.2.2.2.2.2.2.below hb, by rw [← HAa.out]; exact picked f z dl x k hlt, by rw [← HAa.out, askN_bit, show decide (k < 64) = true by simpa using hlt, Bool.true_and]⟩)
          have HLt := Lib.hid hlt
          have HBx := Lib.hid (rbit_any (x : Int) k)
          have HBa := Lib.hid (rbit_any (a : Int) k)
          have HBw := Lib.hid hb
          have x00 : bits .xor .u64 0 0 = 0 := Ae.bits_xor 0 0 (by decide) (by decide)
          have x01 : bits .xor .u64 0 1 = 1 := Ae.bits_xor 0 1 (by decide) (by decide)
          have x10 : bits .xor .u64 1 0 = 1 := Ae.bits_xor 1 0 (by decide) (by decide)
          have x11 : bits .xor .u64 1 1 = 0 := Ae.bits_xor 1 1 (by decide) (by decide)
          obtain ⟨c, hc⟩ : ∃ c, dC f k = c := ⟨_, rfl⟩
          obtain ⟨v, hv⟩ : ∃ v, x.testBit k = v := ⟨_, rfl⟩
          obtain ⟨u, hu⟩ : ∃ u, a.testBit k = u := ⟨_, rfl⟩
          rw [hc] at c4
          rw [hc, hv, hu] at HK
          have HU := Lib.hid (show bitI (a : Int) k = u from hu)
          have HV := Lib.hid (show bitI (x : Int) k = v from hv)
          clear hlt hb h0 hk HI hc hv hu
          cases c with
          | false =>
            cases v with
            | false =>
              obtain rfl : u = false := HK.out.2.2.2.2
              go_wp2
              clear c4
              refine wp_region_held_drew (S := fun w' => Below wr.heap.size wr w') (by kernel_rfl) (drew_below wr) (fun hS => ?_)
              refine htg (i := 0) rfl (.slice (some ⟨gl, 0, none⟩) 64 64) (by kernel_rfl) (by kernel_rfl) (by kernel_rfl) (fun _ _ _ h => h) (by rfl) hS (fun w' hw' => by go_simp) ?_
              try simp only [Act.put, List.setIfInBounds_toArray, List.set_cons_zero, List.set_cons_succ]
              refine htg (i := 1) rfl (.int .i64 (k : Int)) (by kernel_rfl) (by kernel_rfl) (by kernel_rfl) (fun _ _ _ h => h) (by rfl) hS (fun w' hw' => by go_simp) ?_
              try simp only [Act.put, List.setIfInBounds_toArray, List.set_cons_zero, List.set_cons_succ]
              refine htg (i := 2) rfl (.pointer (some ⟨gl, k * 2, none⟩)) (by kernel_rfl) (by kernel_rfl) (by kernel_rfl) (fun _ _ _ h => h) (by rfl) hS (fun w' hw' => by have lt2 : (k : Int) < 64 := (by have := HLt.out; omega); have lt3 : (0 : Int) ≤ (k : Int) := (by omega); go_simp) ?_
              try simp only [Act.put, List.setIfInBounds_toArray, List.set_cons_zero, List.set_cons_succ]
              refine htg (i := 3) rfl (labL (Garb.lab Garb.nadd (z k) dl false)) (by kernel_rfl) (by kernel_rfl) (by kernel_rfl) (fun _ _ _ h => h) (by rfl) hS (fun w' hw' => by have hX := HK.out.2.2.1.below hw'; obtain ⟨_, e9, ae, hae, q0, q1, -⟩ := hX.lab k HLt.out; cases e9; rw [Addr.add_mid, Nat.zero_add] at hae; subst hae; clear hX; rw [HK.out.2.2.2.1] at q0 q1; go_simp) ?_
              try simp only [Act.put, List.setIfInBounds_toArray, List.set_cons_zero, List.set_cons_succ]
              refine htg (i := 4) rfl (.slice (some ⟨gz, 0, none⟩) 64 kz) (by kernel_rfl) (by kernel_rfl) (by kernel_rfl) (fun _ _ _ h => h) (by rfl) hS (fun w' hw' => by go_simp) ?_
              try simp only [Act.put, List.setIfInBounds_toArray, List.set_cons_zero, List.set_cons_succ]
              refine htg (i := 5) rfl (.int .i64 (k : Int)) (by kernel_rfl) (by kernel_rfl) (by kernel_rfl) (fun _ _ _ h => h) (by rfl) hS (fun w' hw' => by go_simp) ?_
              try simp only [Act.put, List.setIfInBounds_toArray, List.set_cons_zero, List.set_cons_succ]
              refine htg (i := 6) rfl (.pointer (some ⟨gz, k * 2, none⟩)) (by kernel_rfl) (by kernel_rfl) (by kernel_rfl) (fun _ _ _ h => h) (by rfl) hS (fun w' hw' => by have lt2 : (k : Int) < 64 := (by have := HLt.out; omega); have lt3 : (0 : Int) ≤ (k : Int) := (by omega); go_simp) ?_
              try simp only [Act.put, List.setIfInBounds_toArray, List.set_cons_zero, List.set_cons_succ]
              refine htg (i := 7) rfl (labL (z k)) (by kernel_rfl) (by kernel_rfl) (by kernel_rfl) (fun _ _ _ h => h) (by rfl) hS (fun w' hw' => by have hX := HK.out.2.1.below hw'; obtain ⟨_, e9, ae, hae, q0, q1, -⟩ := hX.lab k HLt.out; cases e9; rw [Addr.add_mid, Nat.zero_add] at hae; subst hae; clear hX; go_simp) ?_
              try simp only [Act.put, List.setIfInBounds_toArray, List.set_cons_zero, List.set_cons_succ]
              refine htg (i := 8) rfl (.pointer (some ⟨w.heap.size, 0, none⟩)) (by kernel_rfl) (by kernel_rfl) (by kernel_rfl) (fun _ _ _ h => h) (by rfl) hS (fun w' hw' => by go_simp) ?_
              try simp only [Act.put, List.setIfInBounds_toArray, List.set_cons_zero, List.set_cons_succ]
              refine htg (i := 9) rfl (labL dl) (by kernel_rfl) (by kernel_rfl) (by kernel_rfl) (fun _ _ _ h => h) (by rfl) hS (fun w' hw' => by have hX := Blk.below HK.out.1 hw' (Blk.lt HK.out.1); have q0 := Blk.cell hX 0 rfl; have q1 := Blk.cell hX 1 rfl; clear hX; go_simp) ?_
              try simp only [Act.put, List.setIfInBounds_toArray, List.set_cons_zero, List.set_cons_succ]
              refine htg (i := 10) rfl (.int .u64 (x : Int)) (by kernel_rfl) (by kernel_rfl) (by kernel_rfl) (fun _ _ _ h => h) (by rfl) hS (fun w' hw' => by go_simp) ?_
              try simp only [Act.put, List.setIfInBounds_toArray, List.set_cons_zero, List.set_cons_succ]
              refine htg (i := 11) rfl (.int .i64 (k : Int)) (by kernel_rfl) (by kernel_rfl) (by kernel_rfl) (fun _ _ _ h => h) (by rfl) hS (fun w' hw' => by go_simp) ?_
              try simp only [Act.put, List.setIfInBounds_toArray, List.set_cons_zero, List.set_cons_succ]
              refine h1g (i := 12) (by kernel_rfl) rfl (by rfl) (fun K' hK => ?_)
              go_simp
              have hbt := HBx.out wr.drew (by omega) (by have := HD.out.2.1; omega) HLt.out
              rw [HV.out] at hbt
              refine hbt.mono ?_
              rintro e _ ⟨rfl, rfl⟩
              refine hK.out _ _ hS ?_
              clear hK K' hbt
              try simp only
              refine htg (i := 13) rfl (.bool false) (by kernel_rfl) (by kernel_rfl) (by kernel_rfl) (fun _ _ _ h => h) (by rfl) hS (fun w' hw' => by go_simp) ?_
              try simp only [Act.put, List.setIfInBounds_toArray, List.set_cons_zero, List.set_cons_succ]
              refine h1g (i := 14) (by kernel_rfl) rfl (by rfl) (fun K' hK => ?_)
              go_simp
              refine (label_any (z k) dl false wr.drew (HZw.out k) HD.out.2.2.1).mono ?_
              rintro e w14 ⟨rfl, hb14⟩
              have hS := hS.trans (hb14.mono hS.size)
              refine hK.out _ _ hS ?_
              clear hK K'
              try simp only [Act.put, List.setIfInBounds_toArray, List.set_cons_zero, List.set_cons_succ]
              refine htg (i := 15) rfl (.bool false) (by kernel_rfl) (by kernel_rfl) (by kernel_rfl) (fun _ _ _ h => h) (by rfl) hS (fun w' hw' => by have hq := Ae.run_eql_lab; go_simp) ?_
              try simp only [Act.put, List.setIfInBounds_toArray, List.set_cons_zero, List.set_cons_succ]
              refine htg (i := 16) rfl (.bool false) (by kernel_rfl) (by kernel_rfl) (by kernel_rfl) (fun _ _ _ h => h) (by rfl) hS (fun w' hw' => by go_simp) ?_
              try simp only [Act.put, List.setIfInBounds_toArray, List.set_cons_zero, List.set_cons_succ]
              refine htg (i := 17) rfl (.int .u64 (a : Int)) (by kernel_rfl) (by kernel_rfl) (by kernel_rfl) (fun _ _ _ h => h) (by rfl) hS (fun w' hw' => by go_simp) ?_
              try simp only [Act.put, List.setIfInBounds_toArray, List.set_cons_zero, List.set_cons_succ]
              refine htg (i := 18) rfl (.int .i64 (k : Int)) (by kernel_rfl) (by kernel_rfl) (by kernel_rfl) (fun _ _ _ h => h) (by rfl) hS (fun w' hw' => by go_simp) ?_
              try simp only [Act.put, List.setIfInBounds_toArray, List.set_cons_zero, List.set_cons_succ]
              refine htg (i := 20) rfl (.int .u64 (x : Int)) (by kernel_rfl) (by kernel_rfl) (by kernel_rfl) (fun _ _ _ h => h) (by rfl) hS (fun w' hw' => by go_simp) ?_
              try simp only [Act.put, List.setIfInBounds_toArray, List.set_cons_zero, List.set_cons_succ]
              refine htg (i := 21) rfl (.int .i64 (k : Int)) (by kernel_rfl) (by kernel_rfl) (by kernel_rfl) (fun _ _ _ h => h) (by rfl) hS (fun w' hw' => by go_simp) ?_
              try simp only [Act.put, List.setIfInBounds_toArray, List.set_cons_zero, List.set_cons_succ]
              refine htg (i := 23) rfl (.int .u64 0) (by kernel_rfl) (by kernel_rfl) (by kernel_rfl) (fun _ _ _ h => h) (by rfl) hS (fun w' hw' => by go_simp) ?_
              try simp only [Act.put, List.setIfInBounds_toArray, List.set_cons_zero, List.set_cons_succ]
              refine h1g (i := 19) (by kernel_rfl) rfl (by rfl) (fun K' hK => ?_)
              go_simp
              have hbt := HBa.out w14 (by omega) (by have := Hal.out; omega) HLt.out
              rw [HU.out] at hbt
              refine hbt.mono ?_
              rintro e _ ⟨rfl, rfl⟩
              refine hK.out _ _ hS ?_
              clear hK K' hbt
              try simp only
              refine h1g (i := 22) (by kernel_rfl) rfl (by rfl) (fun K' hK => ?_)
              go_simp
              have hbt := HBx.out w14 (by omega) (by have := HD.out.2.1; omega) HLt.out
              rw [HV.out] at hbt
              refine hbt.mono ?_
              rintro e _ ⟨rfl, rfl⟩
              refine hK.out _ _ hS ?_
              clear hK K' hbt
              try simp only
              refine htg (i := 24) rfl (.int .u64 0) (by kernel_rfl) (by kernel_rfl) (by kernel_rfl) (fun _ _ _ h => h) (by rfl) hS (fun w' hw' => by go_simp) ?_
              try simp only [Act.put, List.setIfInBounds_toArray, List.set_cons_zero, List.set_cons_succ]
              refine htg (i := 25) rfl (.bool false) (by kernel_rfl) (by kernel_rfl) (by kernel_rfl) (fun _ _ _ h => h) (by rfl) hS (fun w' hw' => by go_simp) ?_
              try simp only [Act.put, List.setIfInBounds_toArray, List.set_cons_zero, List.set_cons_succ]
              refine htg (i := 26) rfl (.bool false) (by kernel_rfl) (by kernel_rfl) (by kernel_rfl) (fun _ _ _ h => h) (by rfl) hS (fun w' hw' => by go_simp) ?_
              try simp only [Act.put, List.setIfInBounds_toArray, List.set_cons_zero, List.set_cons_succ]
              refine wpAnyH_done (by kernel_rfl) ?_ _
              have HF2 := Lib.hid (HBw.out.trans (hS.mono HBw.out.size))
              clear hS hb14
              go_wp2
              go_roundw
              case rel => exact ⟨k + 1, by have := HLt.out; omega, by go_num, HF2.out⟩
              case measure => simp [intOf]; have := HLt.out; omega
            | true =>
              obtain rfl : u = true := HK.out.2.2.2.2
              go_wp2
              clear c4
              refine wp_region_held_drew (S := fun w' => Below wr.heap.size wr w') (by kernel_rfl) (drew_below wr) (fun hS => ?_)
              refine htg (i := 0) rfl (.slice (some ⟨gl, 0, none⟩) 64 64) (by kernel_rfl) (by kernel_rfl) (by kernel_rfl) (fun _ _ _ h => h) (by rfl) hS (fun w' hw' => by go_simp) ?_
              try simp only [Act.put, List.setIfInBounds_toArray, List.set_cons_zero, List.set_cons_succ]
              refine htg (i := 1) rfl (.int .i64 (k : Int)) (by kernel_rfl) (by kernel_rfl) (by kernel_rfl) (fun _ _ _ h => h) (by rfl) hS (fun w' hw' => by go_simp) ?_
              try simp only [Act.put, List.setIfInBounds_toArray, List.set_cons_zero, List.set_cons_succ]
              refine htg (i := 2) rfl (.pointer (some ⟨gl, k * 2, none⟩)) (by kernel_rfl) (by kernel_rfl) (by kernel_rfl) (fun _ _ _ h => h) (by rfl) hS (fun w' hw' => by have lt2 : (k : Int) < 64 := (by have := HLt.out; omega); have lt3 : (0 : Int) ≤ (k : Int) := (by omega); go_simp) ?_
              try simp only [Act.put, List.setIfInBounds_toArray, List.set_cons_zero, List.set_cons_succ]
              refine htg (i := 3) rfl (labL (Garb.lab Garb.nadd (z k) dl true)) (by kernel_rfl) (by kernel_rfl) (by kernel_rfl) (fun _ _ _ h => h) (by rfl) hS (fun w' hw' => by have hX := HK.out.2.2.1.below hw'; obtain ⟨_, e9, ae, hae, q0, q1, -⟩ := hX.lab k HLt.out; cases e9; rw [Addr.add_mid, Nat.zero_add] at hae; subst hae; clear hX; rw [HK.out.2.2.2.1] at q0 q1; go_simp) ?_
              try simp only [Act.put, List.setIfInBounds_toArray, List.set_cons_zero, List.set_cons_succ]
              refine htg (i := 4) rfl (.slice (some ⟨gz, 0, none⟩) 64 kz) (by kernel_rfl) (by kernel_rfl) (by kernel_rfl) (fun _ _ _ h => h) (by rfl) hS (fun w' hw' => by go_simp) ?_
              try simp only [Act.put, List.setIfInBounds_toArray, List.set_cons_zero, List.set_cons_succ]
              refine htg (i := 5) rfl (.int .i64 (k : Int)) (by kernel_rfl) (by kernel_rfl) (by kernel_rfl) (fun _ _ _ h => h) (by rfl) hS (fun w' hw' => by go_simp) ?_
              try simp only [Act.put, List.setIfInBounds_toArray, List.set_cons_zero, List.set_cons_succ]
              refine htg (i := 6) rfl (.pointer (some ⟨gz, k * 2, none⟩)) (by kernel_rfl) (by kernel_rfl) (by kernel_rfl) (fun _ _ _ h => h) (by rfl) hS (fun w' hw' => by have lt2 : (k : Int) < 64 := (by have := HLt.out; omega); have lt3 : (0 : Int) ≤ (k : Int) := (by omega); go_simp) ?_
              try simp only [Act.put, List.setIfInBounds_toArray, List.set_cons_zero, List.set_cons_succ]
              refine htg (i := 7) rfl (labL (z k)) (by kernel_rfl) (by kernel_rfl) (by kernel_rfl) (fun _ _ _ h => h) (by rfl) hS (fun w' hw' => by have hX := HK.out.2.1.below hw'; obtain ⟨_, e9, ae, hae, q0, q1, -⟩ := hX.lab k HLt.out; cases e9; rw [Addr.add_mid, Nat.zero_add] at hae; subst hae; clear hX; go_simp) ?_
              try simp only [Act.put, List.setIfInBounds_toArray, List.set_cons_zero, List.set_cons_succ]
              refine htg (i := 8) rfl (.pointer (some ⟨w.heap.size, 0, none⟩)) (by kernel_rfl) (by kernel_rfl) (by kernel_rfl) (fun _ _ _ h => h) (by rfl) hS (fun w' hw' => by go_simp) ?_
              try simp only [Act.put, List.setIfInBounds_toArray, List.set_cons_zero, List.set_cons_succ]
              refine htg (i := 9) rfl (labL dl) (by kernel_rfl) (by kernel_rfl) (by kernel_rfl) (fun _ _ _ h => h) (by rfl) hS (fun w' hw' => by have hX := Blk.below HK.out.1 hw' (Blk.lt HK.out.1); have q0 := Blk.cell hX 0 rfl; have q1 := Blk.cell hX 1 rfl; clear hX; go_simp) ?_
              try simp only [Act.put, List.setIfInBounds_toArray, List.set_cons_zero, List.set_cons_succ]
              refine htg (i := 10) rfl (.int .u64 (x : Int)) (by kernel_rfl) (by kernel_rfl) (by kernel_rfl) (fun _ _ _ h => h) (by rfl) hS (fun w' hw' => by go_simp) ?_
              try simp only [Act.put, List.setIfInBounds_toArray, List.set_cons_zero, List.set_cons_succ]
              refine htg (i := 11) rfl (.int .i64 (k : Int)) (by kernel_rfl) (by kernel_rfl) (by kernel_rfl) (fun _ _ _ h => h) (by rfl) hS (fun w' hw' => by go_simp) ?_
              try simp only [Act.put, List.setIfInBounds_toArray, List.set_cons_zero, List.set_cons_succ]
              refine h1g (i := 12) (by kernel_rfl) rfl (by rfl) (fun K' hK => ?_)
              go_simp
              have hbt := HBx.out wr.drew (by omega) (by have := HD.out.2.1; omega) HLt.out
              rw [HV.out] at hbt
              refine hbt.mono ?_
              rintro e _ ⟨rfl, rfl⟩
              refine hK.out _ _ hS ?_
              clear hK K' hbt
              try simp only
              refine htg (i := 13) rfl (.bool true) (by kernel_rfl) (by kernel_rfl) (by kernel_rfl) (fun _ _ _ h => h) (by rfl) hS (fun w' hw' => by go_simp) ?_
              try simp only [Act.put, List.setIfInBounds_toArray, List.set_cons_zero, List.set_cons_succ]
              refine h1g (i := 14) (by kernel_rfl) rfl (by rfl) (fun K' hK => ?_)
              go_simp
              refine (label_any (z k) dl true wr.drew (HZw.out k) HD.out.2.2.1).mono ?_
              rintro e w14 ⟨rfl, hb14⟩
              have hS := hS.trans (hb14.mono hS.size)
              refine hK.out _ _ hS ?_
              clear hK K'
              try simp only [Act.put, List.setIfInBounds_toArray, List.set_cons_zero, List.set_cons_succ]
              refine htg (i := 15) rfl (.bool false) (by kernel_rfl) (by kernel_rfl) (by kernel_rfl) (fun _ _ _ h => h) (by rfl) hS (fun w' hw' => by have hq := Ae.run_eql_lab; go_simp) ?_
              try simp only [Act.put, List.setIfInBounds_toArray, List.set_cons_zero, List.set_cons_succ]
              refine htg (i := 16) rfl (.bool false) (by kernel_rfl) (by kernel_rfl) (by kernel_rfl) (fun _ _ _ h => h) (by rfl) hS (fun w' hw' => by go_simp) ?_
              try simp only [Act.put, List.setIfInBounds_toArray, List.set_cons_zero, List.set_cons_succ]
              refine htg (i := 17) rfl (.int .u64 (a : Int)) (by kernel_rfl) (by kernel_rfl) (by kernel_rfl) (fun _ _ _ h => h) (by rfl) hS (fun w' hw' => by go_simp) ?_
              try simp only [Act.put, List.setIfInBounds_toArray, List.set_cons_zero, List.set_cons_succ]
              refine htg (i := 18) rfl (.int .i64 (k : Int)) (by kernel_rfl) (by kernel_rfl) (by kernel_rfl) (fun _ _ _ h => h) (by rfl) hS (fun w' hw' => by go_simp) ?_
              try simp only [Act.put, List.setIfInBounds_toArray, List.set_cons_zero, List.set_cons_succ]
              refine htg (i := 20) rfl (.int .u64 (x : Int)) (by kernel_rfl) (by kernel_rfl) (by kernel_rfl) (fun _ _ _ h => h) (by rfl) hS (fun w' hw' => by go_simp) ?_
              try simp only [Act.put, List.setIfInBounds_toArray, List.set_cons_zero, List.set_cons_succ]
              refine htg (i := 21) rfl (.int .i64 (k : Int)) (by kernel_rfl) (by kernel_rfl) (by kernel_rfl) (fun _ _ _ h => h) (by rfl) hS (fun w' hw' => by go_simp) ?_
              try simp only [Act.put, List.setIfInBounds_toArray, List.set_cons_zero, List.set_cons_succ]
              refine htg (i := 23) rfl (.int .u64 0) (by kernel_rfl) (by kernel_rfl) (by kernel_rfl) (fun _ _ _ h => h) (by rfl) hS (fun w' hw' => by go_simp) ?_
              try simp only [Act.put, List.setIfInBounds_toArray, List.set_cons_zero, List.set_cons_succ]
              refine h1g (i := 19) (by kernel_rfl) rfl (by rfl) (fun K' hK => ?_)
              go_simp
              have hbt := HBa.out w14 (by omega) (by have := Hal.out; omega) HLt.out
              rw [HU.out] at hbt
              refine hbt.mono ?_
              rintro e _ ⟨rfl, rfl⟩
              refine hK.out _ _ hS ?_
              clear hK K' hbt
              try simp only
              refine h1g (i := 22) (by kernel_rfl) rfl (by rfl) (fun K' hK => ?_)
              go_simp
              have hbt := HBx.out w14 (by omega) (by have := HD.out.2.1; omega) HLt.out
              rw [HV.out] at hbt
              refine hbt.mono ?_
              rintro e _ ⟨rfl, rfl⟩
              refine hK.out _ _ hS ?_
              clear hK K' hbt
              try simp only
              refine htg (i := 24) rfl (.int .u64 1) (by kernel_rfl) (by kernel_rfl) (by kernel_rfl) (fun _ _ _ h => h) (by rfl) hS (fun w' hw' => by go_simp) ?_
              try simp only [Act.put, List.setIfInBounds_toArray, List.set_cons_zero, List.set_cons_succ]
              refine htg (i := 25) rfl (.bool false) (by kernel_rfl) (by kernel_rfl) (by kernel_rfl) (fun _ _ _ h => h) (by rfl) hS (fun w' hw' => by go_simp) ?_
              try simp only [Act.put, List.setIfInBounds_toArray, List.set_cons_zero, List.set_cons_succ]
              refine htg (i := 26) rfl (.bool false) (by kernel_rfl) (by kernel_rfl) (by kernel_rfl) (fun _ _ _ h => h) (by rfl) hS (fun w' hw' => by go_simp) ?_
              try simp only [Act.put, List.setIfInBounds_toArray, List.set_cons_zero, List.set_cons_succ]
              refine wpAnyH_done (by kernel_rfl) ?_ _
              have HF2 := Lib.hid (HBw.out.trans (hS.mono HBw.out.size))
              clear hS hb14
              go_wp2
              go_roundw
              case rel => exact ⟨k + 1, by have := HLt.out; omega, by go_num, HF2.out⟩
              case measure => simp [intOf]; have := HLt.out; omega
          | true =>
            cases v with
            | false =>
              obtain rfl : u = true := HK.out.2.2.2.2
              go_wp2
              clear c4
              refine wp_region_held_drew (S := fun w' => Below wr.heap.size wr w') (by kernel_rfl) (drew_below wr) (fun hS => ?_)
              refine htg (i := 0) rfl (.slice (some ⟨gl, 0, none⟩) 64 64) (by kernel_rfl) (by kernel_rfl) (by kernel_rfl) (fun _ _ _ h => h) (by rfl) hS (fun w' hw' => by go_simp) ?_
              try simp only [Act.put, List.setIfInBounds_toArray, List.set_cons_zero, List.set_cons_succ]
              refine htg (i := 1) rfl (.int .i64 (k : Int)) (by kernel_rfl) (by kernel_rfl) (by kernel_rfl) (fun _ _ _ h => h) (by rfl) hS (fun w' hw' => by go_simp) ?_
              try simp only [Act.put, List.setIfInBounds_toArray, List.set_cons_zero, List.set_cons_succ]
              refine htg (i := 2) rfl (.pointer (some ⟨gl, k * 2, none⟩)) (by kernel_rfl) (by kernel_rfl) (by kernel_rfl) (fun _ _ _ h => h) (by rfl) hS (fun w' hw' => by have lt2 : (k : Int) < 64 := (by have := HLt.out; omega); have lt3 : (0 : Int) ≤ (k : Int) := (by omega); go_simp) ?_
              try simp only [Act.put, List.setIfInBounds_toArray, List.set_cons_zero, List.set_cons_succ]
              refine htg (i := 3) rfl (labL (Garb.lab Garb.nadd (z k) dl false)) (by kernel_rfl) (by kernel_rfl) (by kernel_rfl) (fun _ _ _ h => h) (by rfl) hS (fun w' hw' => by have hX := HK.out.2.2.1.below hw'; obtain ⟨_, e9, ae, hae, q0, q1, -⟩ := hX.lab k HLt.out; cases e9; rw [Addr.add_mid, Nat.zero_add] at hae; subst hae; clear hX; rw [HK.out.2.2.2.1] at q0 q1; go_simp) ?_
              try simp only [Act.put, List.setIfInBounds_toArray, List.set_cons_zero, List.set_cons_succ]
              refine htg (i := 4) rfl (.slice (some ⟨gz, 0, none⟩) 64 kz) (by kernel_rfl) (by kernel_rfl) (by kernel_rfl) (fun _ _ _ h => h) (by rfl) hS (fun w' hw' => by go_simp) ?_
              try simp only [Act.put, List.setIfInBounds_toArray, List.set_cons_zero, List.set_cons_succ]
              refine htg (i := 5) rfl (.int .i64 (k : Int)) (by kernel_rfl) (by kernel_rfl) (by kernel_rfl) (fun _ _ _ h => h) (by rfl) hS (fun w' hw' => by go_simp) ?_
              try simp only [Act.put, List.setIfInBounds_toArray, List.set_cons_zero, List.set_cons_succ]
              refine htg (i := 6) rfl (.pointer (some ⟨gz, k * 2, none⟩)) (by kernel_rfl) (by kernel_rfl) (by kernel_rfl) (fun _ _ _ h => h) (by rfl) hS (fun w' hw' => by have lt2 : (k : Int) < 64 := (by have := HLt.out; omega); have lt3 : (0 : Int) ≤ (k : Int) := (by omega); go_simp) ?_
              try simp only [Act.put, List.setIfInBounds_toArray, List.set_cons_zero, List.set_cons_succ]
              refine htg (i := 7) rfl (labL (z k)) (by kernel_rfl) (by kernel_rfl) (by kernel_rfl) (fun _ _ _ h => h) (by rfl) hS (fun w' hw' => by have hX := HK.out.2.1.below hw'; obtain ⟨_, e9, ae, hae, q0, q1, -⟩ := hX.lab k HLt.out; cases e9; rw [Addr.add_mid, Nat.zero_add] at hae; subst hae; clear hX; go_simp) ?_
              try simp only [Act.put, List.setIfInBounds_toArray, List.set_cons_zero, List.set_cons_succ]
              refine htg (i := 8) rfl (.pointer (some ⟨w.heap.size, 0, none⟩)) (by kernel_rfl) (by kernel_rfl) (by kernel_rfl) (fun _ _ _ h => h) (by rfl) hS (fun w' hw' => by go_simp) ?_
              try simp only [Act.put, List.setIfInBounds_toArray, List.set_cons_zero, List.set_cons_succ]
              refine htg (i := 9) rfl (labL dl) (by kernel_rfl) (by kernel_rfl) (by kernel_rfl) (fun _ _ _ h => h) (by rfl) hS (fun w' hw' => by have hX := Blk.below HK.out.1 hw' (Blk.lt HK.out.1); have q0 := Blk.cell hX 0 rfl; have q1 := Blk.cell hX 1 rfl; clear hX; go_simp) ?_
              try simp only [Act.put, List.setIfInBounds_toArray, List.set_cons_zero, List.set_cons_succ]
              refine htg (i := 10) rfl (.int .u64 (x : Int)) (by kernel_rfl) (by kernel_rfl) (by kernel_rfl) (fun _ _ _ h => h) (by rfl) hS (fun w' hw' => by go_simp) ?_
              try simp only [Act.put, List.setIfInBounds_toArray, List.set_cons_zero, List.set_cons_succ]
              refine htg (i := 11) rfl (.int .i64 (k : Int)) (by kernel_rfl) (by kernel_rfl) (by kernel_rfl) (fun _ _ _ h => h) (by rfl) hS (fun w' hw' => by go_simp) ?_
              try simp only [Act.put, List.setIfInBounds_toArray, List.set_cons_zero, List.set_cons_succ]
              refine h1g (i := 12) (by kernel_rfl) rfl (by rfl) (fun K' hK => ?_)
              go_simp
              have hbt := HBx.out wr.drew (by omega) (by have := HD.out.2.1; omega) HLt.out
              rw [HV.out] at hbt
              refine hbt.mono ?_
              rintro e _ ⟨rfl, rfl⟩
              refine hK.out _ _ hS ?_
              clear hK K' hbt
              try simp only
              refine htg (i := 13) rfl (.bool false) (by kernel_rfl) (by kernel_rfl) (by kernel_rfl) (fun _ _ _ h => h) (by rfl) hS (fun w' hw' => by go_simp) ?_
              try simp only [Act.put, List.setIfInBounds_toArray, List.set_cons_zero, List.set_cons_succ]
              refine h1g (i := 14) (by kernel_rfl) rfl (by rfl) (fun K' hK => ?_)
              go_simp
              refine (label_any (z k) dl false wr.drew (HZw.out k) HD.out.2.2.1).mono ?_
              rintro e w14 ⟨rfl, hb14⟩
              have hS := hS.trans (hb14.mono hS.size)
              refine hK.out _ _ hS ?_
              clear hK K'
              try simp only [Act.put, List.setIfInBounds_toArray, List.set_cons_zero, List.set_cons_succ]
              refine htg (i := 15) rfl (.bool false) (by kernel_rfl) (by kernel_rfl) (by kernel_rfl) (fun _ _ _ h => h) (by rfl) hS (fun w' hw' => by have hq := Ae.run_eql_lab; go_simp) ?_
              try simp only [Act.put, List.setIfInBounds_toArray, List.set_cons_zero, List.set_cons_succ]
              refine htg (i := 16) rfl (.bool false) (by kernel_rfl) (by kernel_rfl) (by kernel_rfl) (fun _ _ _ h => h) (by rfl) hS (fun w' hw' => by go_simp) ?_
              try simp only [Act.put, List.setIfInBounds_toArray, List.set_cons_zero, List.set_cons_succ]
              refine htg (i := 17) rfl (.int .u64 (a : Int)) (by kernel_rfl) (by kernel_rfl) (by kernel_rfl) (fun _ _ _ h => h) (by rfl) hS (fun w' hw' => by go_simp) ?_
              try simp only [Act.put, List.setIfInBounds_toArray, List.set_cons_zero, List.set_cons_succ]
              refine htg (i := 18) rfl (.int .i64 (k : Int)) (by kernel_rfl) (by kernel_rfl) (by kernel_rfl) (fun _ _ _ h => h) (by rfl) hS (fun w' hw' => by go_simp) ?_
              try simp only [Act.put, List.setIfInBounds_toArray, List.set_cons_zero, List.set_cons_succ]
              refine htg (i := 20) rfl (.int .u64 (x : Int)) (by kernel_rfl) (by kernel_rfl) (by kernel_rfl) (fun _ _ _ h => h) (by rfl) hS (fun w' hw' => by go_simp) ?_
              try simp only [Act.put, List.setIfInBounds_toArray, List.set_cons_zero, List.set_cons_succ]
              refine htg (i := 21) rfl (.int .i64 (k : Int)) (by kernel_rfl) (by kernel_rfl) (by kernel_rfl) (fun _ _ _ h => h) (by rfl) hS (fun w' hw' => by go_simp) ?_
              try simp only [Act.put, List.setIfInBounds_toArray, List.set_cons_zero, List.set_cons_succ]
              refine htg (i := 23) rfl (.int .u64 1) (by kernel_rfl) (by kernel_rfl) (by kernel_rfl) (fun _ _ _ h => h) (by rfl) hS (fun w' hw' => by go_simp) ?_
              try simp only [Act.put, List.setIfInBounds_toArray, List.set_cons_zero, List.set_cons_succ]
              refine h1g (i := 19) (by kernel_rfl) rfl (by rfl) (fun K' hK => ?_)
              go_simp
              have hbt := HBa.out w14 (by omega) (by have := Hal.out; omega) HLt.out
              rw [HU.out] at hbt
              refine hbt.mono ?_
              rintro e _ ⟨rfl, rfl⟩
              refine hK.out _ _ hS ?_
              clear hK K' hbt
              try simp only
              refine h1g (i := 22) (by kernel_rfl) rfl (by rfl) (fun K' hK => ?_)
              go_simp
              have hbt := HBx.out w14 (by omega) (by have := HD.out.2.1; omega) HLt.out
              rw [HV.out] at hbt
              refine hbt.mono ?_
              rintro e _ ⟨rfl, rfl⟩
              refine hK.out _ _ hS ?_
              clear hK K' hbt
              try simp only
              refine htg (i := 24) rfl (.int .u64 1) (by kernel_rfl) (by kernel_rfl) (by kernel_rfl) (fun _ _ _ h => h) (by rfl) hS (fun w' hw' => by go_simp) ?_
              try simp only [Act.put, List.setIfInBounds_toArray, List.set_cons_zero, List.set_cons_succ]
              refine htg (i := 25) rfl (.bool false) (by kernel_rfl) (by kernel_rfl) (by kernel_rfl) (fun _ _ _ h => h) (by rfl) hS (fun w' hw' => by go_simp) ?_
              try simp only [Act.put, List.setIfInBounds_toArray, List.set_cons_zero, List.set_cons_succ]
              refine htg (i := 26) rfl (.bool false) (by kernel_rfl) (by kernel_rfl) (by kernel_rfl) (fun _ _ _ h => h) (by rfl) hS (fun w' hw' => by go_simp) ?_
              try simp only [Act.put, List.setIfInBounds_toArray, List.set_cons_zero, List.set_cons_succ]
              refine wpAnyH_done (by kernel_rfl) ?_ _
              have HF2 := Lib.hid (HBw.out.trans (hS.mono HBw.out.size))
              clear hS hb14
              go_wp2
              go_roundw
              case rel => exact ⟨k + 1, by have := HLt.out; omega, by go_num, HF2.out⟩
              case measure => simp [intOf]; have := HLt.out; omega
            | true =>
              obtain rfl : u = false := HK.out.2.2.2.2
              go_wp2
              clear c4
              refine wp_region_held_drew (S := fun w' => Below wr.heap.size wr w') (by kernel_rfl) (drew_below wr) (fun hS => ?_)
              refine htg (i := 0) rfl (.slice (some ⟨gl, 0, none⟩) 64 64) (by kernel_rfl) (by kernel_rfl) (by kernel_rfl) (fun _ _ _ h => h) (by rfl) hS (fun w' hw' => by go_simp) ?_
              try simp only [Act.put, List.setIfInBounds_toArray, List.set_cons_zero, List.set_cons_succ]
              refine htg (i := 1) rfl (.int .i64 (k : Int)) (by kernel_rfl) (by kernel_rfl) (by kernel_rfl) (fun _ _ _ h => h) (by rfl) hS (fun w' hw' => by go_simp) ?_
              try simp only [Act.put, List.setIfInBounds_toArray, List.set_cons_zero, List.set_cons_succ]
              refine htg (i := 2) rfl (.pointer (some ⟨gl, k * 2, none⟩)) (by kernel_rfl) (by kernel_rfl) (by kernel_rfl) (fun _ _ _ h => h) (by rfl) hS (fun w' hw' => by have lt2 : (k : Int) < 64 := (by have := HLt.out; omega); have lt3 : (0 : Int) ≤ (k : Int) := (by omega); go_simp) ?_
              try simp only [Act.put, List.setIfInBounds_toArray, List.set_cons_zero, List.set_cons_succ]
              refine htg (i := 3) rfl (labL (Garb.lab Garb.nadd (z k) dl true)) (by kernel_rfl) (by kernel_rfl) (by kernel_rfl) (fun _ _ _ h => h) (by rfl) hS (fun w' hw' => by have hX := HK.out.2.2.1.below hw'; obtain ⟨_, e9, ae, hae, q0, q1, -⟩ := hX.lab k HLt.out; cases e9; rw [Addr.add_mid, Nat.zero_add] at hae; subst hae; clear hX; rw [HK.out.2.2.2.1] at q0 q1; go_simp) ?_
              try simp only [Act.put, List.setIfInBounds_toArray, List.set_cons_zero, List.set_cons_succ]
              refine htg (i := 4) rfl (.slice (some ⟨gz, 0, none⟩) 64 kz) (by kernel_rfl) (by kernel_rfl) (by kernel_rfl) (fun _ _ _ h => h) (by rfl) hS (fun w' hw' => by go_simp) ?_
              try simp only [Act.put, List.setIfInBounds_toArray, List.set_cons_zero, List.set_cons_succ]
              refine htg (i := 5) rfl (.int .i64 (k : Int)) (by kernel_rfl) (by kernel_rfl) (by kernel_rfl) (fun _ _ _ h => h) (by rfl) hS (fun w' hw' => by go_simp) ?_
              try simp only [Act.put, List.setIfInBounds_toArray, List.set_cons_zero, List.set_cons_succ]
              refine htg (i := 6) rfl (.pointer (some ⟨gz, k * 2, none⟩)) (by kernel_rfl) (by kernel_rfl) (by kernel_rfl) (fun _ _ _ h => h) (by rfl) hS (fun w' hw' => by have lt2 : (k : Int) < 64 := (by have := HLt.out; omega); have lt3 : (0 : Int) ≤ (k : Int) := (by omega); go_simp) ?_
              try simp only [Act.put, List.setIfInBounds_toArray, List.set_cons_zero, List.set_cons_succ]
              refine htg (i := 7) rfl (labL (z k)) (by kernel_rfl) (by kernel_rfl) (by kernel_rfl) (fun _ _ _ h => h) (by rfl) hS (fun w' hw' => by have hX := HK.out.2.1.below hw'; obtain ⟨_, e9, ae, hae, q0, q1, -⟩ := hX.lab k HLt.out; cases e9; rw [Addr.add_mid, Nat.zero_add] at hae; subst hae; clear hX; go_simp) ?_
              try simp only [Act.put, List.setIfInBounds_toArray, List.set_cons_zero, List.set_cons_succ]
              refine htg (i := 8) rfl (.pointer (some ⟨w.heap.size, 0, none⟩)) (by kernel_rfl) (by kernel_rfl) (by kernel_rfl) (fun _ _ _ h => h) (by rfl) hS (fun w' hw' => by go_simp) ?_
              try simp only [Act.put, List.setIfInBounds_toArray, List.set_cons_zero, List.set_cons_succ]
              refine htg (i := 9) rfl (labL dl) (by kernel_rfl) (by kernel_rfl) (by kernel_rfl) (fun _ _ _ h => h) (by rfl) hS (fun w' hw' => by have hX := Blk.below HK.out.1 hw' (Blk.lt HK.out.1); have q0 := Blk.cell hX 0 rfl; have q1 := Blk.cell hX 1 rfl; clear hX; go_simp) ?_
              try simp only [Act.put, List.setIfInBounds_toArray, List.set_cons_zero, List.set_cons_succ]
              refine htg (i := 10) rfl (.int .u64 (x : Int)) (by kernel_rfl) (by kernel_rfl) (by kernel_rfl) (fun _ _ _ h => h) (by rfl) hS (fun w' hw' => by go_simp) ?_
              try simp only [Act.put, List.setIfInBounds_toArray, List.set_cons_zero, List.set_cons_succ]
              refine htg (i := 11) rfl (.int .i64 (k : Int)) (by kernel_rfl) (by kernel_rfl) (by kernel_rfl) (fun _ _ _ h => h) (by rfl) hS (fun w' hw' => by go_simp) ?_
              try simp only [Act.put, List.setIfInBounds_toArray, List.set_cons_zero, List.set_cons_succ]
              refine h1g (i := 12) (by kernel_rfl) rfl (by rfl) (fun K' hK => ?_)
              go_simp
              have hbt := HBx.out wr.drew (by omega) (by have := HD.out.2.1; omega) HLt.out
              rw [HV.out] at hbt
              refine hbt.mono ?_
              rintro e _ ⟨rfl, rfl⟩
              refine hK.out _ _ hS ?_
              clear hK K' hbt
              try simp only
              refine htg (i := 13) rfl (.bool true) (by kernel_rfl) (by kernel_rfl) (by kernel_rfl) (fun _ _ _ h => h) (by rfl) hS (fun w' hw' => by go_simp) ?_
              try simp only [Act.put, List.setIfInBounds_toArray, List.set_cons_zero, List.set_cons_succ]
              refine h1g (i := 14) (by kernel_rfl) rfl (by rfl) (fun K' hK => ?_)
              go_simp
              refine (label_any (z k) dl true wr.drew (HZw.out k) HD.out.2.2.1).mono ?_
              rintro e w14 ⟨rfl, hb14⟩
              have hS := hS.trans (hb14.mono hS.size)
              refine hK.out _ _ hS ?_
              clear hK K'
              try simp only [Act.put, List.setIfInBounds_toArray, List.set_cons_zero, List.set_cons_succ]
              refine htg (i := 15) rfl (.bool false) (by kernel_rfl) (by kernel_rfl) (by kernel_rfl) (fun _ _ _ h => h) (by rfl) hS (fun w' hw' => by have hq := Ae.run_eql_lab; go_simp) ?_
              try simp only [Act.put, List.setIfInBounds_toArray, List.set_cons_zero, List.set_cons_succ]
              refine htg (i := 16) rfl (.bool false) (by kernel_rfl) (by kernel_rfl) (by kernel_rfl) (fun _ _ _ h => h) (by rfl) hS (fun w' hw' => by go_simp) ?_
              try simp only [Act.put, List.setIfInBounds_toArray, List.set_cons_zero, List.set_cons_succ]
              refine htg (i := 17) rfl (.int .u64 (a : Int)) (by kernel_rfl) (by kernel_rfl) (by kernel_rfl) (fun _ _ _ h => h) (by rfl) hS (fun w' hw' => by go_simp) ?_
              try simp only [Act.put, List.setIfInBounds_toArray, List.set_cons_zero, List.set_cons_succ]
              refine htg (i := 18) rfl (.int .i64 (k : Int)) (by kernel_rfl) (by kernel_rfl) (by kernel_rfl) (fun _ _ _ h => h) (by rfl) hS (fun w' hw' => by go_simp) ?_
              try simp only [Act.put, List.setIfInBounds_toArray, List.set_cons_zero, List.set_cons_succ]
              refine htg (i := 20) rfl (.int .u64 (x : Int)) (by kernel_rfl) (by kernel_rfl) (by kernel_rfl) (fun _ _ _ h => h) (by rfl) hS (fun w' hw' => by go_simp) ?_
              try simp only [Act.put, List.setIfInBounds_toArray, List.set_cons_zero, List.set_cons_succ]
              refine htg (i := 21) rfl (.int .i64 (k : Int)) (by kernel_rfl) (by kernel_rfl) (by kernel_rfl) (fun _ _ _ h => h) (by rfl) hS (fun w' hw' => by go_simp) ?_
              try simp only [Act.put, List.setIfInBounds_toArray, List.set_cons_zero, List.set_cons_succ]
              refine htg (i := 23) rfl (.int .u64 1) (by kernel_rfl) (by kernel_rfl) (by kernel_rfl) (fun _ _ _ h => h) (by rfl) hS (fun w' hw' => by go_simp) ?_
              try simp only [Act.put, List.setIfInBounds_toArray, List.set_cons_zero, List.set_cons_succ]
              refine h1g (i := 19) (by kernel_rfl) rfl (by rfl) (fun K' hK => ?_)
              go_simp
              have hbt := HBa.out w14 (by omega) (by have := Hal.out; omega) HLt.out
              rw [HU.out] at hbt
              refine hbt.mono ?_
              rintro e _ ⟨rfl, rfl⟩
              refine hK.out _ _ hS ?_
              clear hK K' hbt
              try simp only
              refine h1g (i := 22) (by kernel_rfl) rfl (by rfl) (fun K' hK => ?_)
              go_simp
              have hbt := HBx.out w14 (by omega) (by have := HD.out.2.1; omega) HLt.out
              rw [HV.out] at hbt
              refine hbt.mono ?_
              rintro e _ ⟨rfl, rfl⟩
              refine hK.out _ _ hS ?_
              clear hK K' hbt
              try simp only
              refine htg (i := 24) rfl (.int .u64 0) (by kernel_rfl) (by kernel_rfl) (by kernel_rfl) (fun _ _ _ h => h) (by rfl) hS (fun w' hw' => by go_simp) ?_
              try simp only [Act.put, List.setIfInBounds_toArray, List.set_cons_zero, List.set_cons_succ]
              refine htg (i := 25) rfl (.bool false) (by kernel_rfl) (by kernel_rfl) (by kernel_rfl) (fun _ _ _ h => h) (by rfl) hS (fun w' hw' => by go_simp) ?_
              try simp only [Act.put, List.setIfInBounds_toArray, List.set_cons_zero, List.set_cons_succ]
              refine htg (i := 26) rfl (.bool false) (by kernel_rfl) (by kernel_rfl) (by kernel_rfl) (fun _ _ _ h => h) (by rfl) hS (fun w' hw' => by go_simp) ?_
              try simp only [Act.put, List.setIfInBounds_toArray, List.set_cons_zero, List.set_cons_succ]
              refine wpAnyH_done (by kernel_rfl) ?_ _
              have HF2 := Lib.hid (HBw.out.trans (hS.mono HBw.out.size))
              clear hS hb14
              go_wp2
              go_roundw
              case rel => exact ⟨k + 1, by have := HLt.out; omega, by go_num, HF2.out⟩
              case measure => simp [intOf]; have := HLt.out; omega
        · obtain rfl : k = 64 := by omega
          have lt1 : ¬ ((64 : Nat) : Int) < 64 := by omega
          have hb := HI.out
          have h0 := H13.out
          have H14 := Lib.hid (show Below w.heap.size w wr ∧ KyB wr w.heap.size dl Az nz cz first from ⟨h0.1.trans (hb.mono h0.1.size), h0.2.1.below hb h0.2.1.lt⟩)
          have hrt : (Instr.slice 68 (.slice (some ⟨gb2, 0, none⟩) 64 cb) (some (.int .i64 1)) none none).run Tryd.prog wr = .ok (.slice (some (Co.tlO gb2 0 cb)) 63 (cb - 1)) wr := Co.run_tailO wr gb2 0 63 cb
          have HAn := Lib.hid (ask_no wr (some (Co.tlO gb2 0 cb)) 63 (cb - 1) x (HH0.out.belowS H14.out.1) (by omega))
          clear hb h0 hlt hk HI
          go_wp2_with fail
          refine HAn.out.mono ?_
          rintro e w15 ⟨⟨p1, a1, rfl⟩, hb15⟩
          obtain ⟨T1, y1, hT1⟩ := chain_iface [(p1, a1)] 1
          have HI1 := Lib.hid (fun wx => fis_chain [(p1, a1)] 1 1 wx)
          rw [hT1] at HI1 ⊢
          have H15 := Lib.hid (show Below w.heap.size w w15 ∧ KyB w15 w.heap.size dl Az nz cz first from ⟨H14.out.1.trans (hb15.mono H14.out.1.size), H14.out.2.below hb15 H14.out.2.lt⟩)
          clear hT1 hb15 hrt HAn H14
          go_wp2
          refine wp_region_held_drew (S := fun w' => Below w15.heap.size w15 w') (by kernel_rfl) (drew_below w15) (fun hS => ?_)
          refine htg (i := 0) rfl (.slice (some ⟨ga, 0, none⟩) 64 ca) (by kernel_rfl) (by kernel_rfl) (by kernel_rfl) (fun _ _ _ h => h) (by rfl) hS (fun w' hw' => by go_simp) ?_
          try simp only [Act.put, List.setIfInBounds_toArray, List.set_cons_zero, List.set_cons_succ]
          refine htg (i := 1) rfl (.int .u64 (a : Int)) (by kernel_rfl) (by kernel_rfl) (by kernel_rfl) (fun _ _ _ h => h) (by rfl) hS (fun w' hw' => by go_simp) ?_
          try simp only [Act.put, List.setIfInBounds_toArray, List.set_cons_zero, List.set_cons_succ]
          refine htg (i := 2) rfl (.slice (some ⟨gz, 0, none⟩) 64 kz) (by kernel_rfl) (by kernel_rfl) (by kernel_rfl) (fun _ _ _ h => h) (by rfl) hS (fun w' hw' => by go_simp) ?_
          try simp only [Act.put, List.setIfInBounds_toArray, List.set_cons_zero, List.set_cons_succ]
          refine htg (i := 3) rfl (.slice (some (tlL gz 0 kz)) 63 (kz - 1)) (by kernel_rfl) (by kernel_rfl) (by kernel_rfl) (fun _ _ _ h => h) (by rfl) hS (fun w' hw' => by have hrt : (Instr.slice 29 (.slice (some ⟨gz, 0, none⟩) 64 kz) (some (.int .i64 1)) none none).run Tryd.prog w' = .ok (.slice (some (tlL gz 0 kz)) 63 (kz - 1)) w' := run_tailL w' gz 0 63 kz; go_simp) ?_
          try simp only [Act.put, List.setIfInBounds_toArray, List.set_cons_zero, List.set_cons_succ]
          refine htg (i := 4) rfl (.pointer (some ⟨w.heap.size, 0, none⟩)) (by kernel_rfl) (by kernel_rfl) (by kernel_rfl) (fun _ _ _ h => h) (by rfl) hS (fun w' hw' => by go_simp) ?_
          try simp only [Act.put, List.setIfInBounds_toArray, List.set_cons_zero, List.set_cons_succ]
          refine htg (i := 5) rfl (labL dl) (by kernel_rfl) (by kernel_rfl) (by kernel_rfl) (fun _ _ _ h => h) (by rfl) hS (fun w' hw' => by have hX := Blk.below H15.out.2 hw' (Blk.lt H15.out.2); have q0 := Blk.cell hX 0 rfl; have q1 := Blk.cell hX 1 rfl; clear hX; go_simp) ?_
          try simp only [Act.put, List.setIfInBounds_toArray, List.set_cons_zero, List.set_cons_succ]
          refine h1g (i := 6) (by kernel_rfl) rfl (by rfl) (fun K' hK => ?_)
          go_simp
          have hbd := H15.out.1.trans (hS.mono H15.out.1.size)
          refine (reply_no w15.drew (some ⟨ga, 0, none⟩) ca a (some (tlL gz 0 kz)) 63 (kz - 1) dl (HH0.out.belowS hbd) (by omega)).mono ?_
          rintro e w16 ⟨⟨p2, a2, rfl⟩, hb16⟩
          obtain ⟨T2, y2, hT2⟩ := chain_iface [(p2, a2)] 1
          have HI2 := Lib.hid (fun wx => fis_chain [(p2, a2)] 1 1 wx)
          rw [hT2] at HI2 ⊢
          have hS := hS.trans (hb16.mono hS.size)
          refine hK.out _ _ hS ?_
          clear hK K' hT2 hbd
          try simp only [Act.put, List.setIfInBounds_toArray, List.set_cons_zero, List.set_cons_succ]
          refine htg (i := 7) rfl (.tuple #[.slice none 0 0, .iface T2 y2]) (by kernel_rfl) (by kernel_rfl) (by kernel_rfl) (fun _ _ _ h => h) (by rfl) hS (fun w' hw' => by go_simp) ?_
          try simp only [Act.put, List.setIfInBounds_toArray, List.set_cons_zero, List.set_cons_succ]
          refine htg (i := 8) rfl (.slice none 0 0) (by kernel_rfl) (by kernel_rfl) (by kernel_rfl) (fun _ _ _ h => h) (by rfl) hS (fun w' hw' => by go_simp) ?_
          try simp only [Act.put, List.setIfInBounds_toArray, List.set_cons_zero, List.set_cons_succ]
          refine htg (i := 9) rfl (.iface T2 y2) (by kernel_rfl) (by kernel_rfl) (by kernel_rfl) (fun _ _ _ h => h) (by rfl) hS (fun w' hw' => by go_simp) ?_
          try simp only [Act.put, List.setIfInBounds_toArray, List.set_cons_zero, List.set_cons_succ]
          refine htg (i := 10) rfl (.iface T2 y2) (by kernel_rfl) (by kernel_rfl) (by kernel_rfl) (fun _ _ _ h => h) (by rfl) hS (fun w' hw' => by go_simp) ?_
          try simp only [Act.put, List.setIfInBounds_toArray, List.set_cons_zero, List.set_cons_succ]
          refine wpAnyH_done (by kernel_rfl) ?_ _
          have H16 := Lib.hid (H15.out.1.trans (hS.mono H15.out.1.size))
          clear hS hb16 H15
          have hrt2 : (Instr.slice 29 (.slice (some ⟨gr, 0, none⟩) 128 cr) (some (.int .i64 1)) none none).run Tryd.prog w16 = .ok (.slice (some (tlL gr 0 cr)) 127 (cr - 1)) w16 := run_tailL w16 gr 0 127 cr
          have HPn := Lib.hid (pick_no w16 (some ⟨gb2, 0, none⟩) cb x (some (tlL gr 0 cr)) 127 (cr - 1) (HH0.out.belowS H16.out) (by omega))
          go_wp2_with fail
          refine HPn.out.mono ?_
          rintro e w17 ⟨⟨p3, a3, rfl⟩, hb17⟩
          obtain ⟨T3, y3, hT3⟩ := chain_iface [(p3, a3)] 1
          have HI3 := Lib.hid (fun wx => fis_chain [(p3, a3)] 1 1 wx)
          rw [hT3] at HI3 ⊢
          have HB := Lib.hid (H16.out.trans (hb17.mono H16.out.size))
          clear hT3 hb17 hrt2 HPn H16
          go_wp2_with fail
          refine (HI1.out w17).mono ?_
          rintro e w18 ⟨rfl, hb18⟩
          have HB18 := Lib.hid (HB.out.trans (hb18.mono HB.out.size))
          clear hb18 HB
          go_wp2_with fail
          refine (HI2.out w18).mono ?_
          rintro e w19 ⟨rfl, hb19⟩
          have HB19 := Lib.hid (HB18.out.trans (hb19.mono HB18.out.size))
          clear hb19 HB18
          go_wp2_with fail
          refine (HI3.out w19).mono ?_
          rintro e w20 ⟨rfl, hb20⟩
          have HB20 := Lib.hid (HB19.out.trans (hb20.mono HB19.out.size))
          clear hb20 HB19
          go_wp2
          go_ret
          exact ⟨rfl, HB20.out⟩
end Go.Proofs.YtamejhhjfnfalaaDoor
