/- Contracts of garble's Eval: too few or too many tables; a circuit evaluated. -/
import Derived.Test.YtamejhhjfnfalaaDoorZGA4
import Derived.Test.YtamejhhjfnfalaaDoorZGA5
import Derived.Test.YtamejhhjfnfalaaDoorMH
namespace Go.Proofs.YtamejhhjfnfalaaDoor
open Go.RowKit
open Rely (upd)

/-- Eval's own boxes. -/
theorem gev_boxes (w : World) (N : Int) (Ag : Option Addr) (n cg : Nat) (Ao : Option Addr) (m co : Nat) (At : Option Addr) (nT ct first : Nat) (w1 : World) (hw : ((w.alloc (.cells #[.int .i64 N, .slice Ag n cg, .slice Ao m co] 25)).alloc (.cells #[.slice At nT ct] 29)).alloc (.cells #[.int .u64 (first : Int)] 26) = w1) :
    Below w.heap.size w w1 ∧ circB w1 w.heap.size N Ag n cg Ao m co ∧ Blk w1 (w.heap.size + 1) 29 #[.slice At nT ct] ∧ Blk w1 (w.heap.size + 1 + 1) 26 #[.int .u64 (first : Int)] ∧ w1.heap.size = w.heap.size + 1 + 1 + 1 := by
  subst hw
  have X0 := Blk.new w 25 #[.int .i64 N, .slice Ag n cg, .slice Ao m co]
  have b0 := (Below.refl w.heap.size w).alloc (Nat.le_refl _) (.cells #[.int .i64 N, .slice Ag n cg, .slice Ao m co] 25)
  have X1 := Blk.new (w.alloc (.cells #[.int .i64 N, .slice Ag n cg, .slice Ao m co] 25)) 29 #[.slice At nT ct]
  have b1 := b0.alloc b0.size (.cells #[.slice At nT ct] 29)
  have X2 := Blk.new ((w.alloc (.cells #[.int .i64 N, .slice Ag n cg, .slice Ao m co] 25)).alloc (.cells #[.slice At nT ct] 29)) 26 #[.int .u64 (first : Int)]
  simp only [World.size_alloc] at X1 X2
  exact ⟨b1.alloc b1.size _, (X0.alloc _).alloc _, X1.alloc _, X2, by simp⟩
/-- The wires' labels that are evaluated. -/
abbrev evlH (H : Lab → Nat → Lab) (first N : Nat) (lin tab : Nat → Lab) (y : Nat → Nat → Int) : Nat → Nat → Lab := Garb.evl Garb.nadd Garb.ncol H (Garb.tw first) (Garb.tw1 first) N lin tab y
/-- What the closure keeps: what it captured, so many tables used. -/
def EInv (first : Nat) (y : Nat → Nat → Int) (bf bu bt bc gx : Nat) (At : Option Addr) (nT ct : Nat) (tab : Nat → Lab) (B0 : Nat) (w : World) (k g : Nat) : Prop :=
  g = bu ∧ Gv w bf bu bt bc gx first At nT ct tab (2 * Circ.ands y k) ∧ bf < B0 ∧ bt < B0 ∧ bc < B0 ∧ gx < B0 ∧ ∀ ad, At = some ad → 0 < nT * 2 → ad.block < B0
set_option maxRecDepth 100000 in
theorem eclo_clo (H : Lab → Nat → Lab) (hH : Hs H) (first N n : Nat) (lin tab : Nat → Lab) (y : Nat → Nat → Int) (hl : ∀ q, Garb.Wd (lin q)) (ht : ∀ q, Garb.Wd (tab q)) (hn : n ≤ 4096) (bf bu bt bc gx : Nat) (At : Option Addr) (nT ct B0 : Nat) (hT : nT = 2 * Circ.ands y n) :
    Clo 52 #[.pointer (some ⟨bf, 0, none⟩), .pointer (some ⟨bu, 0, none⟩), .pointer (some ⟨bt, 0, none⟩), .pointer (some ⟨bc, 0, none⟩)] n y (evlH H first N lin tab y) (fun k => Garb.andE Garb.nadd Garb.ncol H (evlH H first N lin tab y k (y k 1).toNat) (evlH H first N lin tab y k (y k 2).toNat) (tab (2 * Circ.ands y k)) (tab (2 * Circ.ands y k + 1)) (Garb.tw first (Circ.ands y k)) (Garb.tw1 first (Circ.ands y k))) B0 (fun _ => False) (EInv first y bf bu bt bc gx At nT ct tab B0) where
  call k w g a b hk h2 ha hb hB h := by
    obtain ⟨rfl, hG, hq⟩ := h
    have hw := Garb.evl_wd hH.wd (Garb.tw_lt first) (Garb.tw1_lt first) N lin tab y hl ht k
    have hs : Circ.ands y (k + 1) = Circ.ands y k + 1 := by rw [Garb.ands_succ, if_pos h2]
    obtain ⟨j, hj⟩ : ∃ j, n = k + 1 + j := ⟨n - (k + 1), by omega⟩
    have hm := Garb.ands_mono y (k + 1) j
    rw [← hj] at hm
    have hle := Circ.ands_le y n
    refine (eclo_any H hH w bf g bt bc gx first (Circ.ands y k) At nT ct tab (evlH H first N lin tab y k a) (evlH H first N lin tab y k b) hG (hw a) (hw b) ht (by omega) (by omega)).mono ?_
    rintro e w' ⟨rfl, hG', hc⟩
    refine ⟨g, ?_, ⟨rfl, by rw [hs]; exact hG', hq⟩, .inl rfl, hc.mono fun q _ hq => .inl hq⟩
    rw [ha, hb, Int.toNat_natCast, Int.toNat_natCast]
  enter args w := by go_simp
  skip k w g hk h2 h := by
    have hs : Circ.ands y (k + 1) = Circ.ands y k := by rw [Garb.ands_succ, if_neg h2]
    obtain ⟨h1, hG, hq⟩ := h
    exact ⟨h1, by rw [hs]; exact hG, hq⟩
  keep k w w' g S h hc hS := by
    obtain ⟨rfl, hG, hq⟩ := h
    exact ⟨rfl, ⟨hG.f.chg hc (fun h => by have := (hS _ h).1; omega), hG.u.chg hc (fun h => (hS _ h).2 rfl), hG.t.chg hc (fun h => by have := (hS _ h).1; omega), hG.c.chg hc (fun h => by have := (hS _ h).1; omega), hG.x.chg hc (fun h => by have := (hS _ h).1; omega), hG.a.chg hc (fun ad e hn h => by have := (hS _ h).1; have := hq.2.2.2.2 ad e hn; omega), hG.s⟩, hq⟩
  low q h := h.elim
  lt k w g h := by
    obtain ⟨rfl, hG, hq⟩ := h
    exact hG.u.lt
set_option maxHeartbeats 8000000 in
set_option maxRecDepth 100000 in
theorem geval_tabs (w : World) (N : Int) (Ag : Option Addr) (n cg : Nat) (y : Nat → Nat → Int) (Ao : Option Addr) (m co : Nat) (o : Nat → Int) (A : Option Addr) (K c : Nat) (At : Option Addr) (nT ct first : Nat) (hh : Handle w) (hg : AtV w Ag (n * 3) (gv y)) (ho : AtV w Ao m (iv o)) (hn : n ≤ 4096) (hm : m ≤ maxLen) (hG : Circ.Good N n y m o) (hK : (K : Int) = N) (hT : nT ≠ 2 * Circ.ands y n) :
    Calls Tryd.prog 21 #[circV N Ag n cg Ao m co, .slice A K c, .slice At nT ct, .int .u64 (first : Int)] w (EvBad 100 w) := by
  obtain ⟨w1, hw1⟩ : ∃ x, ((w.alloc (.cells #[.int .i64 N, .slice Ag n cg, .slice Ao m co] 25)).alloc (.cells #[.slice At nT ct] 29)).alloc (.cells #[.int .u64 (first : Int)] 26) = x := ⟨_, rfl⟩
  obtain ⟨b1, X0, X1, X2, hs⟩ := gev_boxes w N Ag n cg Ao m co At nT ct first w1 hw1
  have hh1 := hh.below b1 hh.pos
  have HC := Lib.hid (gfits_ok (cg := cg) (co := co) (s := ⟨#[108, 97, 98, 101, 108, 115]⟩) (A := A) (K := K) (c := c) hh1 (hg.below b1) (ho.below b1) (by unfold maxLen; omega) hm hG hK)
  have H1 := Lib.hid (show Below w.heap.size w w1 ∧ circB w1 w.heap.size N Ag n cg Ao m co ∧ Blk w1 (w.heap.size + 1) 29 #[.slice At nT ct] ∧ Blk w1 (w.heap.size + 1 + 1) 26 #[.int .u64 (first : Int)] ∧ Handle w1 from ⟨b1, X0, X1, X2, hh1⟩)
  have c0 := X0.cell 0 (v := .int .i64 N) rfl
  have c1 := X0.cell 1 (v := .slice Ag n cg) rfl
  have c2 := X0.cell 2 (v := .slice Ao m co) rfl
  obtain ⟨E, hE⟩ : ∃ E, 2 * Circ.ands y n = E := ⟨_, rfl⟩
  have hle := Circ.ands_le y n

  have e0 : IntKind.i64.wrap (2 * ((Circ.ands y n : Nat) : Int)) = (E : Int) := by rw [i64_nat _ (by omega) (by omega)]; omega
  have k1 : ((nT : Int) != (E : Int)) = true := by rw [bne_iff_ne]; omega
  have k2 : ¬ (nT : Int) = (E : Int) := by omega
  have k3 : ¬ nT = E := by omega
  have HA := Lib.hid (And.intro hg ho)
  have HG := Lib.hid (show True ∧ True ∧ True ∧ n ≤ maxLen from ⟨trivial, trivial, trivial, by unfold maxLen; omega⟩)
  clear hh hg ho hG hK hT hE hle b1 X0 X1 X2 hs hh1 hn hm
  unfold EvBad
  rw [← hw1] at HC H1 c0 c1 c2
  clear hw1
  go_enter Tryd.func21, Tryd.ntmps21
  go_wp2_with fail
  refine HC.out.mono ?_
  rintro e w2 ⟨rfl, hb2⟩
  clear c0 c1 c2 HC
  have h0 := H1.out
  have H2 := Lib.hid (show Below w.heap.size w w2 ∧ circB w2 w.heap.size N Ag n cg Ao m co ∧ Blk w2 (w.heap.size + 1) 29 #[.slice At nT ct] ∧ Blk w2 (w.heap.size + 1 + 1) 26 #[.int .u64 (first : Int)] ∧ Handle w2 from ⟨h0.1.trans (hb2.mono h0.1.size), h0.2.1.below hb2 h0.2.1.lt, h0.2.2.1.below hb2 h0.2.2.1.lt, h0.2.2.2.1.below hb2 h0.2.2.2.1.lt, h0.2.2.2.2.belowS hb2⟩)
  clear H1 h0 hb2
  go_wp2_with fail

  refine Rely.region (G := Nat) (vs := [fun _ => .slice At nT ct, fun _ => .int .i64 (nT : Int), fun _ => circV N Ag n cg Ao m co, fun _ => .int .i64 ((Circ.ands y n : Nat) : Int), fun _ => .int .i64 (E : Int), fun _ => .bool true]) (F := fun _ _ w' => Below w2.heap.size w2 w') (by kernel_rfl) (by kernel_rfl) rfl (fun _ => 0) (drew_below w2) ?hsteps ?hend
  case hsteps =>
    refine Rely.Steps.cons (fun L γ ev wv hL hE hF hC hCf hO hV => ?_) ?_
    · clear hL
      have v6 : ev (.tmp 6) = .pointer (some ⟨w.heap.size + 1, 0, none⟩) := (hO 6 (by kernel_rfl)).trans rfl
      clear hE hO hV
      have hX := Blk.below H2.out.2.2.1 hF (Blk.lt H2.out.2.2.1)
      have q0 := Blk.cell hX 0 rfl
      have HF := Lib.hid hF
      clear hX hF
      exact Rely.Good.value 0 (u := .slice At nT ct) (by go_simp) (fun _ _ => rfl) HF.out
    refine Rely.Steps.cons (fun L γ ev wv hL hE hF hC hCf hO hV => ?_) ?_
    · clear hL
      have hL0 : L 0 = true := hE _ (Array.mem_of_getElem? (i := 0) rfl) rfl
      have v20 : ev (.tmp 20) = .slice At nT ct := hV 0 20 hL0 rfl
      clear hE hO hV
      exact Rely.Good.value 0 (u := .int .i64 (nT : Int)) (by go_simp) (fun _ _ => rfl) hF
    refine Rely.Steps.cons (fun L γ ev wv hL hE hF hC hCf hO hV => ?_) ?_
    · clear hL
      have v4 : ev (.tmp 4) = .pointer (some ⟨w.heap.size, 0, none⟩) := (hO 4 (by kernel_rfl)).trans rfl
      clear hE hO hV
      have hX := Blk.below H2.out.2.1 hF (Blk.lt H2.out.2.1)
      have q0 := Blk.cell hX 0 rfl
      have q1 := Blk.cell hX 1 rfl
      have q2 := Blk.cell hX 2 rfl
      have HF := Lib.hid hF
      clear hX hF
      exact Rely.Good.value 0 (u := circV N Ag n cg Ao m co) (by go_simp) (fun _ _ => rfl) HF.out
    refine Rely.Steps.cons (fun L γ ev wv hL hE hF hC hCf hO hV => ?_) ?_
    · clear hL
      have hL2 : L 2 = true := hE _ (Array.mem_of_getElem? (i := 0) rfl) rfl
      have v22 : ev (.tmp 22) = circV N Ag n cg Ao m co := hV 2 22 hL2 rfl
      clear hE hO hV
      have HF := Lib.hid hF
      clear hF
      exact Rely.Good.enter (f := 26) (args := #[circV N Ag n cg Ao m co]) (by go_simp) ((ands_any wv N Ag n cg y Ao m co ((HA.out.1.below H2.out.1).below HF.out) HG.out.2.2.2).mono fun e w3 hc => ⟨0, _, hc.1, fun _ _ => rfl, HF.out.trans (hc.2.mono HF.out.size)⟩)
    refine Rely.Steps.cons (fun L γ ev wv hL hE hF hC hCf hO hV => ?_) ?_
    · clear hL
      have hL3 : L 3 = true := hE _ (Array.mem_of_getElem? (i := 0) rfl) rfl
      have v23 : ev (.tmp 23) = .int .i64 ((Circ.ands y n : Nat) : Int) := hV 3 23 hL3 rfl
      clear hE hO hV
      exact Rely.Good.value 0 (u := .int .i64 (E : Int)) (by go_simp) (fun _ _ => rfl) hF
    refine Rely.Steps.cons (fun L γ ev wv hL hE hF hC hCf hO hV => ?_) ?_
    · clear hL
      have hL1 : L 1 = true := hE _ (Array.mem_of_getElem? (i := 0) rfl) rfl
      have v21 : ev (.tmp 21) = .int .i64 (nT : Int) := hV 1 21 hL1 rfl
      have hL4 : L 4 = true := hE _ (Array.mem_of_getElem? (i := 1) rfl) rfl
      have v24 : ev (.tmp 24) = .int .i64 (E : Int) := hV 4 24 hL4 rfl
      clear hE hO hV
      exact Rely.Good.value 0 (u := .bool true) (by go_simp) (fun _ _ => rfl) hF
    exact Rely.Steps.nil
  case hend =>
    intro γ w3 hF
    have h0 := H2.out
    have X0 := h0.2.1.below hF h0.2.1.lt
    have X1 := h0.2.2.1.below hF h0.2.2.1.lt
    have hb := hF
    have q0 := X1.cell 0 (v := .slice At nT ct) rfl
    have hW := wrap_bare 100 (nT : Int) ⟨#[116, 97, 98, 108, 101, 115]⟩ w3 (h0.2.2.2.2.belowS hb)
    have HW := Lib.hid hW
    have HB := Lib.hid (h0.1.trans (hb.mono h0.1.size))
    clear hF hb h0 X0 X1 hW H2 e0 k1 k2 k3
    simp only [Rely.fin, Act.put, List.setIfInBounds_toArray, List.set_cons_zero, List.set_cons_succ]
    go_wp2_with fail
    refine HW.out.mono ?_
    rintro e w4 ⟨rfl, hb4⟩
    have HB4 := Lib.hid (HB.out.trans (hb4.mono HB.out.size))
    clear hb4
    obtain ⟨T, x, hT⟩ := chain_iface [(⟨#[116, 97, 98, 108, 101, 115]⟩, (nT : Int))] 100
    have HT := Lib.hid hT
    rw [hT]
    clear hT
    go_wp2
    go_ret2
    exact ⟨⟨_, _, by rw [HT.out]; rfl⟩, HB4.out⟩
/-- What Eval answers of a circuit. -/
def GeAns (H : Lab → Nat → Lab) (first N n : Nat) (lin tab : Nat → Lab) (y : Nat → Nat → Int) (m : Nat) (o : Nat → Int) (w : World) (e : Ending) (w' : World) : Prop :=
  ∃ go, e = .returned (.tuple #[.slice (some ⟨go, 0, none⟩) m m, .nilIface]) ∧ Row w' w.heap.size 28 2 (.slice (some ⟨go, 0, none⟩) m m) m (lv fun i => evlH H first N lin tab y n (o i).toNat) ∧ Below w.heap.size w w'
set_option maxHeartbeats 8000000 in
set_option maxRecDepth 100000 in
theorem geval_ok (H : Lab → Nat → Lab) (hH : Hs H) (w : World) (N : Nat) (Ag : Option Addr) (n cg : Nat) (y : Nat → Nat → Int) (Ao : Option Addr) (m co : Nat) (o : Nat → Int) (A : Option Addr) (c : Nat) (At : Option Addr) (nT ct first : Nat) (lin tab : Nat → Lab) (hh : Handle w) (hg : AtV w Ag (n * 3) (gv y)) (ho : AtV w Ao m (iv o)) (hz : AtV w A (N * 2) (lv lin)) (hz0 : A = none → N = 0 ∧ c = 0) (hta : AtV w At (nT * 2) (lv tab)) (hG : Circ.Good N n y m o) (hT : nT = 2 * Circ.ands y n) (hl : ∀ q, Garb.Wd (lin q)) (htw : ∀ q, Garb.Wd (tab q)) :
    Calls Tryd.prog 21 #[circV N Ag n cg Ao m co, .slice A N c, .slice At nT ct, .int .u64 (first : Int)] w (GeAns H first N n lin tab y m o w) := by
  have hn := hG.g
  have hm := hG.u
  obtain ⟨w1, hw1⟩ : ∃ x, ((w.alloc (.cells #[.int .i64 (N : Int), .slice Ag n cg, .slice Ao m co] 25)).alloc (.cells #[.slice At nT ct] 29)).alloc (.cells #[.int .u64 (first : Int)] 26) = x := ⟨_, rfl⟩
  obtain ⟨b1, X0, X1, X2, hs⟩ := gev_boxes w N Ag n cg Ao m co At nT ct first w1 hw1
  have hh1 := hh.below b1 hh.pos
  have HC := Lib.hid (gfits_ok (cg := cg) (co := co) (s := ⟨#[108, 97, 98, 101, 108, 115]⟩) (A := A) (K := N) (c := c) hh1 (hg.below b1) (ho.below b1) (by unfold maxLen; omega) (by unfold maxLen; omega) hG rfl)
  have H1 := Lib.hid (show Below w.heap.size w w1 ∧ circB w1 w.heap.size N Ag n cg Ao m co ∧ Blk w1 (w.heap.size + 1) 29 #[.slice At nT ct] ∧ Blk w1 (w.heap.size + 1 + 1) 26 #[.int .u64 (first : Int)] ∧ Handle w1 from ⟨b1, X0, X1, X2, hh1⟩)
  have c0 := X0.cell 0 (v := .int .i64 (N : Int)) rfl
  have c1 := X0.cell 1 (v := .slice Ag n cg) rfl
  have c2 := X0.cell 2 (v := .slice Ao m co) rfl
  obtain ⟨E, hE⟩ : ∃ E, 2 * Circ.ands y n = E := ⟨_, rfl⟩
  have hle := Circ.ands_le y n

  have e0 : IntKind.i64.wrap (2 * ((Circ.ands y n : Nat) : Int)) = (E : Int) := by rw [i64_nat _ (by omega) (by omega)]; omega
  obtain rfl : nT = E := by omega
  have k1 : ((nT : Int) != (nT : Int)) = false := by simp
  have HA := Lib.hid (And.intro hg (And.intro ho (And.intro hz (And.intro hz0 hta))))
  have HG := Lib.hid (show Circ.Good N n y m o ∧ n ≤ 4096 ∧ nT = 2 * Circ.ands y n ∧ n ≤ maxLen from ⟨hG, hn, hT, by unfold maxLen; omega⟩)
  have HD := Lib.hid (And.intro hH (And.intro hl htw))
  clear hh hg ho hz hz0 hta hG hT hE hle b1 X0 X1 X2 hs hh1 hn hm hH hl htw
  rw [← hw1] at HC H1 c0 c1 c2
  clear hw1
  go_enter Tryd.func21, Tryd.ntmps21
  go_wp2_with fail
  refine HC.out.mono ?_
  rintro e w2 ⟨rfl, hb2⟩
  clear c0 c1 c2 HC
  have h0 := H1.out
  have H2 := Lib.hid (show Below w.heap.size w w2 ∧ circB w2 w.heap.size N Ag n cg Ao m co ∧ Blk w2 (w.heap.size + 1) 29 #[.slice At nT ct] ∧ Blk w2 (w.heap.size + 1 + 1) 26 #[.int .u64 (first : Int)] ∧ Handle w2 from ⟨h0.1.trans (hb2.mono h0.1.size), h0.2.1.below hb2 h0.2.1.lt, h0.2.2.1.below hb2 h0.2.2.1.lt, h0.2.2.2.1.below hb2 h0.2.2.2.1.lt, h0.2.2.2.2.belowS hb2⟩)
  clear H1 h0 hb2
  go_wp2_with fail

  refine Rely.region (G := Nat) (vs := [fun _ => .slice At nT ct, fun _ => .int .i64 (nT : Int), fun _ => circV N Ag n cg Ao m co, fun _ => .int .i64 ((Circ.ands y n : Nat) : Int), fun _ => .int .i64 (nT : Int), fun _ => .bool false]) (F := fun _ _ w' => Below w2.heap.size w2 w') (by kernel_rfl) (by kernel_rfl) rfl (fun _ => 0) (drew_below w2) ?hsteps ?hend
  case hsteps =>
    refine Rely.Steps.cons (fun L γ ev wv hL hE hF hC hCf hO hV => ?_) ?_
    · clear hL
      have v6 : ev (.tmp 6) = .pointer (some ⟨w.heap.size + 1, 0, none⟩) := (hO 6 (by kernel_rfl)).trans rfl
      clear hE hO hV
      have hX := Blk.below H2.out.2.2.1 hF (Blk.lt H2.out.2.2.1)
      have q0 := Blk.cell hX 0 rfl
      have HF := Lib.hid hF
      clear hX hF
      exact Rely.Good.value 0 (u := .slice At nT ct) (by go_simp) (fun _ _ => rfl) HF.out
    refine Rely.Steps.cons (fun L γ ev wv hL hE hF hC hCf hO hV => ?_) ?_
    · clear hL
      have hL0 : L 0 = true := hE _ (Array.mem_of_getElem? (i := 0) rfl) rfl
      have v20 : ev (.tmp 20) = .slice At nT ct := hV 0 20 hL0 rfl
      clear hE hO hV
      exact Rely.Good.value 0 (u := .int .i64 (nT : Int)) (by go_simp) (fun _ _ => rfl) hF
    refine Rely.Steps.cons (fun L γ ev wv hL hE hF hC hCf hO hV => ?_) ?_
    · clear hL
      have v4 : ev (.tmp 4) = .pointer (some ⟨w.heap.size, 0, none⟩) := (hO 4 (by kernel_rfl)).trans rfl
      clear hE hO hV
      have hX := Blk.below H2.out.2.1 hF (Blk.lt H2.out.2.1)
      have q0 := Blk.cell hX 0 rfl
      have q1 := Blk.cell hX 1 rfl
      have q2 := Blk.cell hX 2 rfl
      have HF := Lib.hid hF
      clear hX hF
      exact Rely.Good.value 0 (u := circV N Ag n cg Ao m co) (by go_simp) (fun _ _ => rfl) HF.out
    refine Rely.Steps.cons (fun L γ ev wv hL hE hF hC hCf hO hV => ?_) ?_
    · clear hL
      have hL2 : L 2 = true := hE _ (Array.mem_of_getElem? (i := 0) rfl) rfl
      have v22 : ev (.tmp 22) = circV N Ag n cg Ao m co := hV 2 22 hL2 rfl
      clear hE hO hV
      have HF := Lib.hid hF
      clear hF
      exact Rely.Good.enter (f := 26) (args := #[circV N Ag n cg Ao m co]) (by go_simp) ((ands_any wv N Ag n cg y Ao m co ((HA.out.1.below H2.out.1).below HF.out) HG.out.2.2.2).mono fun e w3 hc => ⟨0, _, hc.1, fun _ _ => rfl, HF.out.trans (hc.2.mono HF.out.size)⟩)
    refine Rely.Steps.cons (fun L γ ev wv hL hE hF hC hCf hO hV => ?_) ?_
    · clear hL
      have hL3 : L 3 = true := hE _ (Array.mem_of_getElem? (i := 0) rfl) rfl
      have v23 : ev (.tmp 23) = .int .i64 ((Circ.ands y n : Nat) : Int) := hV 3 23 hL3 rfl
      clear hE hO hV
      exact Rely.Good.value 0 (u := .int .i64 (nT : Int)) (by go_simp) (fun _ _ => rfl) hF
    refine Rely.Steps.cons (fun L γ ev wv hL hE hF hC hCf hO hV => ?_) ?_
    · clear hL
      have hL1 : L 1 = true := hE _ (Array.mem_of_getElem? (i := 0) rfl) rfl
      have v21 : ev (.tmp 21) = .int .i64 (nT : Int) := hV 1 21 hL1 rfl
      have hL4 : L 4 = true := hE _ (Array.mem_of_getElem? (i := 1) rfl) rfl
      have v24 : ev (.tmp 24) = .int .i64 (nT : Int) := hV 4 24 hL4 rfl
      clear hE hO hV
      exact Rely.Good.value 0 (u := .bool false) (by go_simp) (fun _ _ => rfl) hF
    exact Rely.Steps.nil
  case hend =>
    intro γ w3 hF
    have h0 := H2.out
    have X0 := h0.2.1.below hF h0.2.1.lt
    have X1 := h0.2.2.1.below hF h0.2.2.1.lt
    have hb := hF
    have X2 := h0.2.2.2.1.below hb h0.2.2.2.1.lt
    have H3 := Lib.hid (show Below w.heap.size w w3 ∧ circB w3 w.heap.size N Ag n cg Ao m co ∧ Blk w3 (w.heap.size + 1) 29 #[.slice At nT ct] ∧ Blk w3 (w.heap.size + 1 + 1) 26 #[.int .u64 (first : Int)] from ⟨h0.1.trans (hb.mono h0.1.size), X0, X1, X2⟩)
    clear hF hb h0 X0 X1 X2 H2 e0 k1
    simp only [Rely.fin, Act.put, List.setIfInBounds_toArray, List.set_cons_zero, List.set_cons_succ]
    go_wp2_with fail
    refine (fixed_fx w3).mono ?_
    rintro e w4 ⟨gx, rfl, hgx, hx, hb4⟩
    have h0 := H3.out
    have hba := ((Below.refl w4.heap.size w4).alloc (Nat.le_refl _) (.cells #[.pointer (some ⟨gx, 0, none⟩)] 88)).alloc (by simp) (.cells #[.int .i64 0] 3)
    have hb5 := hb4.trans (hba.mono hb4.size)
    have X0 := h0.2.1.below hb5 h0.2.1.lt
    have X1 := h0.2.2.1.below hb5 h0.2.2.1.lt
    have X2 := h0.2.2.2.below hb5 h0.2.2.2.lt
    have XC := (Blk.new w4 88 #[.pointer (some ⟨gx, 0, none⟩)]).alloc (.cells #[.int .i64 0] 3)
    have XU := Blk.new (w4.alloc (.cells #[.pointer (some ⟨gx, 0, none⟩)] 88)) 3 #[.int .i64 0]
    simp only [World.size_alloc] at XU
    have hbw := h0.1.trans (hb5.mono h0.1.size)
    have c0 := X0.cell 0 (v := .int .i64 (N : Int)) rfl
    have c1 := X0.cell 1 (v := .slice Ag n cg) rfl
    have c2 := X0.cell 2 (v := .slice Ao m co) rfl
    have hxl := hx.lt
    have H5 := Lib.hid (And.intro hbw (And.intro X0 (And.intro X1 (And.intro X2 (And.intro XC (And.intro (hx.below hba) XU))))))
    have HS := Lib.hid (show w.heap.size + 1 + 1 < w4.heap.size ∧ gx < w4.heap.size by have := h0.2.2.2.lt; have := hb4.size; omega)
    clear H3 h0 hgx hx hb4 hba hb5 X0 X1 X2 XC XU hbw hxl
    go_wp2_with fail
    clear c0 c1 c2
    generalize ((w4.alloc (.cells #[.pointer (some ⟨gx, 0, none⟩)] 88)).alloc (.cells #[.int .i64 0] 3)) = w5 at *
    obtain ⟨hbw, X0, X1, X2, XC, XX, XU⟩ := H5.out
    have hl5 := XU.lt
    have hcl := eclo_clo H HD.out.1 first N n lin tab y HD.out.2.1 HD.out.2.2 HG.out.2.1 (w.heap.size + 1 + 1) (w4.heap.size + 1) (w.heap.size + 1) w4.heap.size gx At nT ct w5.heap.size HG.out.2.2.1
    have hI : EInv first y (w.heap.size + 1 + 1) (w4.heap.size + 1) (w.heap.size + 1) w4.heap.size gx At nT ct tab w5.heap.size w5 0 (w4.heap.size + 1) := ⟨rfl, ⟨X2, XU, X1, XC, XX, HA.out.2.2.2.2.below hbw, fun ad e hn => by have := AtV.lt HA.out.2.2.2.2 ad e hn; have := HS.out; omega⟩, by have := HS.out; omega, by have := HS.out; omega, by omega, by have := HS.out; omega, fun ad e hn => by have := AtV.lt HA.out.2.2.2.2 ad e hn; have := HS.out; omega⟩
    have HT := Lib.hid (through_any w5 N Ag n cg y Ao m co o A c lin (0, 0) 52 _ _ _ _ _ (w4.heap.size + 1) (HA.out.1.below hbw) (HA.out.2.1.below hbw) (HA.out.2.2.1.below hbw) HA.out.2.2.2.1 HG.out.1 hcl hI (fun q _ => rfl) (fun k _ q => by rw [Garb.nat_xr.zero]; rfl) (Garb.evl_wd HD.out.1.wd (Garb.tw_lt first) (Garb.tw1_lt first) N lin tab y HD.out.2.1 HD.out.2.2) Garb.Wd.zero (fun ad e hn h => by have := AtV.lt HA.out.1 ad e hn; have := HS.out; rcases h with h | h; omega; exact h) (fun ad e hn h => by have := AtV.lt HA.out.2.1 ad e hn; have := HS.out; rcases h with h | h; omega; exact h))
    have HW := Lib.hid hbw
    clear hbw X0 X1 X2 XC XX XU hl5 hcl hI H5
    refine HT.out.mono ?_
    rintro e w9 ⟨go, g', rfl, hgo, hRo, _, hg', hc9⟩
    have hsw := HW.out.size
    have HF := Lib.hid (show Row w9 w.heap.size 28 2 (.slice (some ⟨go, 0, none⟩) m m) m (lv fun i => evlH H first N lin tab y n (o i).toNat) ∧ Below w.heap.size w w9 from ⟨hRo.mono fun q hq => by
      obtain rfl : go = q := Option.some.inj hq
      omega, HW.out.trans (hc9.below hsw fun q hq => by
        rcases hq with h | h
        · have := HS.out; omega
        · exact h.elim)⟩)
    clear hgo hRo hg' hc9 hsw HT
    go_wp2
    go_ret2
    exact ⟨go, rfl, HF.out.1, HF.out.2⟩
end Go.Proofs.YtamejhhjfnfalaaDoor
