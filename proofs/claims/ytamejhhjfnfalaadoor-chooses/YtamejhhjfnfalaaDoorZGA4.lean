/- Contract of the function that Eval hands on: an And gate's label, of two labels and the next two tables. -/
import Derived.Test.YtamejhhjfnfalaaDoorMH
import Derived.Test.YtamejhhjfnfalaaDoorMG
namespace Go.Proofs.YtamejhhjfnfalaaDoor
open Go.RowKit
open Rely (upd)

/-- What evaluating's closure captures: where the tweaks begin, how many tables are used, the tables, the cipher. -/
structure Gv (w : World) (bf bu bt bc g first : Nat) (At : Option Addr) (nT ct : Nat) (tab : Nat → Lab) (used : Nat) : Prop where
  f : Blk w bf 26 #[.int .u64 (first : Int)]
  u : Blk w bu 3 #[.int .i64 (used : Int)]
  t : Blk w bt 29 #[.slice At nT ct]
  c : Blk w bc 88 #[.pointer (some ⟨g, 0, none⟩)]
  x : Fx w g
  a : AtV w At (nT * 2) (lv tab)
  s : ∀ ad, At = some ad → 0 < nT * 2 → ad.block ≠ bu
section
variable {w w' : World} {bf bu bt bc g first : Nat} {At : Option Addr} {nT ct : Nat} {tab : Nat → Lab} {used used' : Nat}
theorem Gv.below (h : Gv w bf bu bt bc g first At nT ct tab used) (hb : Below w.heap.size w w') : Gv w' bf bu bt bc g first At nT ct tab used :=
  ⟨h.f.below hb h.f.lt, h.u.below hb h.u.lt, h.t.below hb h.t.lt, h.c.below hb h.c.lt, h.x.below hb, h.a.below hb, h.s⟩
theorem Gv.neX (h : Gv w bf bu bt bc g first At nT ct tab used) : g ≠ bu := fun e => by
  subst e
  have h1 : w.heap[g]? = some (.cells _ 3 (0, 0)) := h.u
  have h2 : w.heap[g]? = some (.cells _ 176 (0, 0)) := h.x
  rw [h1] at h2
  injection h2 with h2
  injection h2 with _ h2
  exact absurd h2 (by decide)
theorem Gv.chg (h : Gv w bf bu bt bc g first At nT ct tab used) {S : Nat → Prop} (hc : Chg S w w') (hS : ∀ q, q < w.heap.size → S q → q = bu) (hu : Blk w' bu 3 #[.int .i64 (used' : Int)]) : Gv w' bf bu bt bc g first At nT ct tab used' :=
  ⟨h.f.chg hc (fun e => Blk.ne h.f h.u (by decide) (hS _ h.f.lt e)), hu, h.t.chg hc (fun e => Blk.ne h.t h.u (by decide) (hS _ h.t.lt e)), h.c.chg hc (fun e => Blk.ne h.c h.u (by decide) (hS _ h.c.lt e)), h.x.chg hc (fun e => h.neX (hS _ h.x.lt e)), h.a.chg hc (fun ad e hn hs => h.s ad e hn (hS _ (AtV.lt h.a ad e hn) hs)), h.s⟩
end
set_option maxHeartbeats 16000000 in
set_option maxRecDepth 100000 in
theorem eclo_any (H : Lab → Nat → Lab) (hH : Hs H) (w : World) (bf bu bt bc g first j : Nat) (At : Option Addr) (nT ct : Nat) (tab : Nat → Lab) (x y : Lab) (hG : Gv w bf bu bt bc g first At nT ct tab (2 * j)) (hx : Garb.Wd x) (hy : Garb.Wd y) (htab : ∀ i, Garb.Wd (tab i)) (hj : 2 * j + 1 < nT) (hn : nT ≤ 1000000) :
    Calls Tryd.prog 52 #[labL x, labL y, .pointer (some ⟨bf, 0, none⟩), .pointer (some ⟨bu, 0, none⟩), .pointer (some ⟨bt, 0, none⟩), .pointer (some ⟨bc, 0, none⟩)] w fun e w' =>
      e = .returned (labL (Garb.andE Garb.nadd Garb.ncol H x y (tab (2 * j)) (tab (2 * j + 1)) (Garb.tw first j) (Garb.tw1 first j))) ∧ Gv w' bf bu bt bc g first At nT ct tab (2 * (j + 1)) ∧ Chg (fun q => q = bu) w w' := by
  have hbu := hG.u.lt
  obtain ⟨s, hs⟩ : ∃ s, Garb.tw first j = s := ⟨_, rfl⟩
  obtain ⟨t, ht⟩ : ∃ t, Garb.tw1 first j = t := ⟨_, rfl⟩
  have hsl := hs ▸ Garb.tw_lt first j
  have htl := ht ▸ Garb.tw1_lt first j
  obtain ⟨J, hJ⟩ : ∃ J, 2 * j = J := ⟨_, rfl⟩
  obtain ⟨K, hK⟩ : ∃ K, J + 1 = K := ⟨_, rfl⟩
  obtain ⟨G, hGe⟩ : ∃ q, tab J = q := ⟨_, rfl⟩
  obtain ⟨E, hEe⟩ : ∃ q, tab K = q := ⟨_, rfl⟩
  obtain ⟨hA, hAe⟩ : ∃ q, H x s = q := ⟨_, rfl⟩
  obtain ⟨hB, hBe⟩ : ∃ q, H y t = q := ⟨_, rfl⟩
  obtain ⟨u, ue⟩ : ∃ q, Garb.nadd E x = q := ⟨_, rfl⟩
  obtain ⟨r, re⟩ : ∃ q, Garb.nadd (Garb.plus Garb.nadd hA (Garb.ncol x) G) (Garb.plus Garb.nadd hB (Garb.ncol y) u) = q := ⟨_, rfl⟩
  have wG := hGe ▸ htab J
  have wE := hEe ▸ htab K
  have whA := hAe ▸ hH.wd x s hx hsl
  have whB := hBe ▸ hH.wd y t hy htl
  have wu := ue ▸ wE.add hx
  have hr : Garb.andE Garb.nadd Garb.ncol H x y (tab (2 * j)) (tab (2 * j + 1)) (Garb.tw first j) (Garb.tw1 first j) = r := by
    rw [hs, ht, hJ, hK, hGe, hEe, ← re, ← ue, ← hAe, ← hBe]
    rfl
  have hJ2 : 2 * (j + 1) = J + 2 := by omega
  rw [hr, hJ2]
  rw [hJ] at hG
  obtain ⟨ad, rfl, ae, hae, q0, q1, hblk⟩ := hG.a.lab J (by omega)
  obtain ⟨ad', e', ae2, hae2, q2, q3, hblk2⟩ := hG.a.lab K (by omega)
  cases e'
  rw [hGe] at q0 q1
  rw [hEe] at q2 q3
  have e2 : IntKind.u64.wrap ((first : Int) + (J : Int)) = (s : Int) := by rw [u64w, ← hs, ← hJ]; unfold Garb.tw; omega
  have e1 : IntKind.u64.wrap (J : Int) = (J : Int) := by rw [u64w]; omega
  have e3 : IntKind.u64.wrap ((s : Int) + 1) = (t : Int) := by rw [u64w, ← ht, ← hs]; unfold Garb.tw1; omega
  have e5 : IntKind.i64.wrap ((J : Int) + 1) = (K : Int) := by rw [i64_nat _ (by omega) (by omega)]; omega
  have e6 : IntKind.i64.wrap ((J : Int) + 2) = (J : Int) + 2 := by rw [i64_nat _ (by omega) (by omega)]
  have l1 : (J : Int) < (nT : Int) := by omega
  have l2 : (K : Int) < (nT : Int) := by omega
  have HQ := Lib.hid (And.intro hH (And.intro (And.intro hAe hBe) (And.intro (And.intro ue re) (And.intro hsl htl))))
  have HW := Lib.hid (And.intro hx (And.intro hy (And.intro whA (And.intro whB (And.intro wG (And.intro wE wu))))))
  have HT := Lib.hid (And.intro q0 (And.intro q1 (And.intro q2 q3)))
  have X0 := Blk.new w 28 #[.int .u64 (x.1 : Int), .int .u64 (x.2 : Int)]
  have b0 := (Below.refl w.heap.size w).alloc (Nat.le_refl _) (.cells #[.int .u64 (x.1 : Int), .int .u64 (x.2 : Int)] 28)
  have X1 := Blk.new (w.alloc (.cells #[.int .u64 (x.1 : Int), .int .u64 (x.2 : Int)] 28)) 28 #[.int .u64 (y.1 : Int), .int .u64 (y.2 : Int)]
  have b1 := b0.alloc b0.size (.cells #[.int .u64 (y.1 : Int), .int .u64 (y.2 : Int)] 28)
  have X2 := Blk.new ((w.alloc (.cells #[.int .u64 (x.1 : Int), .int .u64 (x.2 : Int)] 28)).alloc (.cells #[.int .u64 (y.1 : Int), .int .u64 (y.2 : Int)] 28)) 28 #[.int .u64 0, .int .u64 0]
  have b2 := b1.alloc b1.size zeroL
  have Y0 := (X0.alloc (.cells #[.int .u64 (y.1 : Int), .int .u64 (y.2 : Int)] 28)).alloc zeroL
  simp only [World.size_alloc] at X1 X2
  have Y1 := X1.alloc zeroL
  have G2 := hG.below b2
  have cf := G2.f.cell 0 (v := .int .u64 (first : Int)) rfl
  have cu := G2.u.cell 0 (v := .int .i64 (J : Int)) rfl
  have hsz : w.heap.size + 1 + 1 < (((w.alloc (.cells #[.int .u64 (x.1 : Int), .int .u64 (x.2 : Int)] 28)).alloc (.cells #[.int .u64 (y.1 : Int), .int .u64 (y.2 : Int)] 28)).alloc zeroL).heap.size := by simp
  have H1 := Lib.hid (And.intro b2 (And.intro G2 (And.intro (show LbB _ w.heap.size x from Y0) (And.intro (show LbB _ (w.heap.size + 1) y from Y1) (And.intro (show LbB _ (w.heap.size + 1 + 1) (0, 0) from X2) hsz)))))
  have HC0 := Lib.hid (show bf < w.heap.size ∧ bu < w.heap.size ∧ bt < w.heap.size ∧ bc < w.heap.size ∧ g < w.heap.size ∧ ∀ ad', some ad = some ad' → 0 < nT * 2 → ad'.block < w.heap.size from ⟨hG.f.lt, hG.u.lt, hG.t.lt, hG.c.lt, hG.x.lt, AtV.lt hG.a⟩)
  have HB := Lib.hid (show J < nT ∧ K < nT by omega)
  have HE := Lib.hid (And.intro hGe hEe)
  clear X0 X1 X2 b0 b1 b2 Y0 Y1 G2 hG hsz hr hs ht hJ hK hGe hEe hAe hBe ue re wG wE whA whB wu hJ2 q0 q1 q2 q3 hblk hblk2 hH hx hy htab hj hn hsl htl
  go_enter Tryd.func52, Tryd.ntmps52
  go_wp2
  clear cf cu e1 e2
  generalize (((w.alloc (.cells #[.int .u64 (x.1 : Int), .int .u64 (x.2 : Int)] 28)).alloc (.cells #[.int .u64 (y.1 : Int), .int .u64 (y.2 : Int)] 28)).alloc zeroL) = w1 at *
  refine Rely.region (G := Nat) (vs := [fun _ => .slice (some ad) nT ct, fun _ => .int .i64 (J : Int), fun _ => .pointer (some ae), fun _ => labL G, fun _ => .slice (some ad) nT ct, fun _ => .int .i64 (J : Int), fun _ => .int .i64 (K : Int), fun _ => .pointer (some ae2), fun _ => labL E, fun g => .pointer (some ⟨g, 0, none⟩), fun g => .pointer (some ⟨g, 0, none⟩), fun _ => undef, fun _ => undef]) (F := fun L γ w' => FN w1 [(9, 11), (10, 12)] (fun i => if i = 9 then G else E) L γ w') (by kernel_rfl) (by kernel_rfl) rfl (fun _ => 0) (FN.start w1 _ (drew_below w1) _) ?hsteps ?hend
  case hsteps =>
    refine Rely.Steps.cons (fun L γ ev wv hL hE hF hC hCf hO hV => ?_) ?_
    · clear hL
      have v4 : ev (.tmp 4) = .pointer (some ⟨bt, 0, none⟩) := (hO 4 (by kernel_rfl)).trans rfl
      clear hE hO hV
      have hX := Blk.below H1.out.2.1.t hF.b (Blk.lt H1.out.2.1.t)
      have q0 := Blk.cell hX 0 rfl
      have HF := Lib.hid hF
      clear hX hF
      exact Rely.Good.value 0 (u := .slice (some ad) nT ct) (by go_simp) (fun _ _ => rfl) (HF.out.same 0 0 (by decide))
    refine Rely.Steps.cons (fun L γ ev wv hL hE hF hC hCf hO hV => ?_) ?_
    · clear hL
      have v3 : ev (.tmp 3) = .pointer (some ⟨bu, 0, none⟩) := (hO 3 (by kernel_rfl)).trans rfl
      clear hE hO hV
      have hX := Blk.below H1.out.2.1.u hF.b (Blk.lt H1.out.2.1.u)
      have q0 := Blk.cell hX 0 rfl
      have HF := Lib.hid hF
      clear hX hF
      exact Rely.Good.value 0 (u := .int .i64 (J : Int)) (by go_simp) (fun _ _ => rfl) (HF.out.same 1 0 (by decide))
    refine Rely.Steps.cons (fun L γ ev wv hL hE hF hC hCf hO hV => ?_) ?_
    · clear hL
      have hL0 : L 0 = true := hE _ (Array.mem_of_getElem? (i := 0) rfl) rfl
      have v16 : ev (.tmp 16) = .slice (some ad) nT ct := hV 0 16 hL0 rfl
      have hL1 : L 1 = true := hE _ (Array.mem_of_getElem? (i := 1) rfl) rfl
      have v17 : ev (.tmp 17) = .int .i64 (J : Int) := hV 1 17 hL1 rfl
      clear hE hO hV
      exact Rely.Good.value 0 (u := .pointer (some ae)) (by go_simp) (fun _ _ => rfl) (hF.same 2 0 (by decide))
    refine Rely.Steps.cons (fun L γ ev wv hL hE hF hC hCf hO hV => ?_) ?_
    · clear hL
      have hL2 : L 2 = true := hE _ (Array.mem_of_getElem? (i := 0) rfl) rfl
      have v18 : ev (.tmp 18) = .pointer (some ae) := hV 2 18 hL2 rfl
      clear hE hO hV
      have hA := H1.out.2.1.below hF.b
      obtain ⟨ad1, z1, ae1, z2, q0, q1, z3⟩ := hA.a.lab J (by have := HB.out; omega)
      cases z1
      rw [hae] at z2
      subst z2
      rw [HE.out.1] at q0 q1
      have HF := Lib.hid hF
      clear hF hA z3
      exact Rely.Good.value 0 (u := labL G) (by go_simp) (fun _ _ => rfl) (HF.out.same 3 0 (by decide))
    refine Rely.Steps.cons (fun L γ ev wv hL hE hF hC hCf hO hV => ?_) ?_
    · clear hL
      have v4 : ev (.tmp 4) = .pointer (some ⟨bt, 0, none⟩) := (hO 4 (by kernel_rfl)).trans rfl
      clear hE hO hV
      have hX := Blk.below H1.out.2.1.t hF.b (Blk.lt H1.out.2.1.t)
      have q0 := Blk.cell hX 0 rfl
      have HF := Lib.hid hF
      clear hX hF
      exact Rely.Good.value 0 (u := .slice (some ad) nT ct) (by go_simp) (fun _ _ => rfl) (HF.out.same 4 0 (by decide))
    refine Rely.Steps.cons (fun L γ ev wv hL hE hF hC hCf hO hV => ?_) ?_
    · clear hL
      have v3 : ev (.tmp 3) = .pointer (some ⟨bu, 0, none⟩) := (hO 3 (by kernel_rfl)).trans rfl
      clear hE hO hV
      have hX := Blk.below H1.out.2.1.u hF.b (Blk.lt H1.out.2.1.u)
      have q0 := Blk.cell hX 0 rfl
      have HF := Lib.hid hF
      clear hX hF
      exact Rely.Good.value 0 (u := .int .i64 (J : Int)) (by go_simp) (fun _ _ => rfl) (HF.out.same 5 0 (by decide))
    refine Rely.Steps.cons (fun L γ ev wv hL hE hF hC hCf hO hV => ?_) ?_
    · clear hL
      have hL5 : L 5 = true := hE _ (Array.mem_of_getElem? (i := 0) rfl) rfl
      have v21 : ev (.tmp 21) = .int .i64 (J : Int) := hV 5 21 hL5 rfl
      clear hE hO hV
      exact Rely.Good.value 0 (u := .int .i64 (K : Int)) (by go_simp) (fun _ _ => rfl) (hF.same 6 0 (by decide))
    refine Rely.Steps.cons (fun L γ ev wv hL hE hF hC hCf hO hV => ?_) ?_
    · clear hL
      have hL4 : L 4 = true := hE _ (Array.mem_of_getElem? (i := 0) rfl) rfl
      have v20 : ev (.tmp 20) = .slice (some ad) nT ct := hV 4 20 hL4 rfl
      have hL6 : L 6 = true := hE _ (Array.mem_of_getElem? (i := 1) rfl) rfl
      have v22 : ev (.tmp 22) = .int .i64 (K : Int) := hV 6 22 hL6 rfl
      clear hE hO hV
      exact Rely.Good.value 0 (u := .pointer (some ae2)) (by go_simp) (fun _ _ => rfl) (hF.same 7 0 (by decide))
    refine Rely.Steps.cons (fun L γ ev wv hL hE hF hC hCf hO hV => ?_) ?_
    · clear hL
      have hL7 : L 7 = true := hE _ (Array.mem_of_getElem? (i := 0) rfl) rfl
      have v23 : ev (.tmp 23) = .pointer (some ae2) := hV 7 23 hL7 rfl
      clear hE hO hV
      have hA := H1.out.2.1.below hF.b
      obtain ⟨ad1, z1, ae1, z2, q0, q1, z3⟩ := hA.a.lab K (by have := HB.out; omega)
      cases z1
      rw [hae2] at z2
      subst z2
      rw [HE.out.2] at q0 q1
      have HF := Lib.hid hF
      clear hF hA z3
      exact Rely.Good.value 0 (u := labL E) (by go_simp) (fun _ _ => rfl) (HF.out.same 8 0 (by decide))
    refine Rely.Steps.cons (fun L γ ev wv hL hE hF hC hCf hO hV => ?_) ?_
    · skip
      clear hE hO hV
      exact Rely.Good.value wv.heap.size (u := .pointer (some ⟨wv.heap.size, 0, none⟩)) (by go_simp) (fun _ _ => rfl) (hF.alloc rfl (i := 9) (s := 11) (by simp) hL)
    refine Rely.Steps.cons (fun L γ ev wv hL hE hF hC hCf hO hV => ?_) ?_
    · skip
      clear hE hO hV
      exact Rely.Good.value wv.heap.size (u := .pointer (some ⟨wv.heap.size, 0, none⟩)) (by go_simp) (fun _ _ => rfl) (hF.alloc rfl (i := 10) (s := 12) (by simp) hL)
    refine Rely.Steps.cons (fun L γ ev wv hL hE hF hC hCf hO hV => ?_) ?_
    · clear hL
      have hL9 : L 9 = true := hE _ (Array.mem_of_getElem? (i := 0) rfl) rfl
      have v10 : ev (.tmp 10) = .pointer (some ⟨(γ 9), 0, none⟩) := hV 9 10 hL9 rfl
      have hL3 : L 3 = true := hE _ (Array.mem_of_getElem? (i := 1) rfl) rfl
      have v19 : ev (.tmp 19) = labL G := hV 3 19 hL3 rfl
      clear hE hO hV
      obtain ⟨y0, hX⟩ := hF.ready (i := 9) (s := 11) (by simp) hL9
      have HF := Lib.hid hF
      clear hF
      have q0 := Blk.cell hX 0 rfl
      have q1 := Blk.cell hX 1 rfl
      have qf := Blk.frozen hX
      clear hX
      exact Rely.Good.skip 0 (w' := stL wv (γ 9) G) (by go_simp) rfl (HF.out.put rfl 0 (i := 9) (by simp) hL9)
    refine Rely.Steps.cons (fun L γ ev wv hL hE hF hC hCf hO hV => ?_) ?_
    · clear hL
      have hL10 : L 10 = true := hE _ (Array.mem_of_getElem? (i := 0) rfl) rfl
      have v11 : ev (.tmp 11) = .pointer (some ⟨(γ 10), 0, none⟩) := hV 10 11 hL10 rfl
      have hL8 : L 8 = true := hE _ (Array.mem_of_getElem? (i := 1) rfl) rfl
      have v24 : ev (.tmp 24) = labL E := hV 8 24 hL8 rfl
      clear hE hO hV
      obtain ⟨y0, hX⟩ := hF.ready (i := 10) (s := 12) (by simp) hL10
      have HF := Lib.hid hF
      clear hF
      have q0 := Blk.cell hX 0 rfl
      have q1 := Blk.cell hX 1 rfl
      have qf := Blk.frozen hX
      clear hX
      exact Rely.Good.skip 0 (w' := stL wv (γ 10) E) (by go_simp) rfl (HF.out.put rfl 0 (i := 10) (by simp) hL10)
    exact Rely.Steps.nil
  case hend =>
    intro γ w2 hF
    have n9 := hF.new (9, 11) (by simp) rfl
    have m9 : LbB w2 (γ 9) G := n9.2
    have n10 := hF.new (10, 12) (by simp) rfl
    have m10 : LbB w2 (γ 10) E := n10.2
    have hb := hF.b
    have H2 := Lib.hid (And.intro (H1.out.1.trans (hb.mono H1.out.1.size)) (And.intro (H1.out.2.1.below hb) (And.intro (Blk.below H1.out.2.2.1 hb (Blk.lt H1.out.2.2.1)) (And.intro (Blk.below H1.out.2.2.2.1 hb (Blk.lt H1.out.2.2.2.1)) (And.intro (Blk.below H1.out.2.2.2.2.1 hb (Blk.lt H1.out.2.2.2.2.1)) (And.intro (Nat.lt_of_lt_of_le H1.out.2.2.2.2.2 hb.size) (And.intro m9 (And.intro (show w.heap.size + 1 + 1 < γ 9 from Nat.lt_of_lt_of_le H1.out.2.2.2.2.2 n9.1) (And.intro m10 (show w.heap.size + 1 + 1 < γ 10 from Nat.lt_of_lt_of_le H1.out.2.2.2.2.2 n10.1))))))))))
    clear hF hb n9 m9 n10 m10 H1
    simp only [Rely.fin, Act.put, List.setIfInBounds_toArray, List.set_cons_zero, List.set_cons_succ]
    generalize γ 9 = gG at *
    generalize γ 10 = gE at *
    have qu := H2.out.2.1.u.cell 0 (v := .int .i64 (J : Int)) rfl
    have quf := H2.out.2.1.u.frozen
    have hc3 := (Chg.refl (fun q => q = bu) w2).set (p := ⟨bu, 0, none⟩) (.inr rfl) (.int .i64 ((J : Int) + 2))
    have G3 := H2.out.2.1.chg hc3 (fun q _ e => e) (show Blk _ bu 3 #[.int .i64 ((J + 2 : Nat) : Int)] from H2.out.2.1.u.set 0 (.int .i64 ((J : Int) + 2)))
    have hcw : Chg (fun q => q = bu) w _ := (Chg.ofBelow H2.out.1).trans hc3
    have H3 := Lib.hid (And.intro hcw (And.intro G3 (And.intro (Blk.chg H2.out.2.2.1 hc3 (by omega)) (And.intro (Blk.chg H2.out.2.2.2.1 hc3 (by omega)) (And.intro (Blk.chg H2.out.2.2.2.2.1 hc3 (by omega)) (And.intro (Nat.lt_of_lt_of_le H2.out.2.2.2.2.2.1 hc3.size) (And.intro (Blk.chg H2.out.2.2.2.2.2.2.1 hc3 (by have := H2.out.2.2.2.2.2.2.2.1; omega)) (And.intro H2.out.2.2.2.2.2.2.2.1 (And.intro (Blk.chg H2.out.2.2.2.2.2.2.2.2.1 hc3 (by have := H2.out.2.2.2.2.2.2.2.2.2; omega)) H2.out.2.2.2.2.2.2.2.2.2)))))))))
    clear hc3 G3 hcw H2
    go_wp2
    clear qu quf e6
    generalize w2.setCell ⟨bu, 0, none⟩ (.int .i64 ((J : Int) + 2)) = w3 at *
    refine Rely.region (G := Nat) (vs := [fun _ => labL x, fun _ => .pointer (some ⟨g, 0, none⟩), fun _ => labL x, fun _ => .int .u64 (s : Int), fun _ => labL hA, fun _ => labL G, fun _ => halfV x hA G, fun _ => labL y, fun _ => .pointer (some ⟨g, 0, none⟩), fun _ => labL y, fun _ => .int .u64 (s : Int), fun _ => .int .u64 (t : Int), fun _ => labL hB, fun _ => labL E, fun _ => labL x, fun _ => labL u, fun _ => halfV y hB u, fun _ => labL r, fun _ => undef]) (F := fun L _ w' => FO w3 (w.heap.size + 1 + 1) 18 r (0, 0) L w') (by kernel_rfl) (by kernel_rfl) rfl (fun _ => 0) (FO.start w3 _ (drew_below w3) H3.out.2.2.2.2.1) ?hsteps ?hend
    case hsteps =>
      refine Rely.Steps.cons (fun L γ ev wv hL hE hF hC hCf hO hV => ?_) ?_
      · clear hL
        have v6 : ev (.tmp 6) = .pointer (some ⟨w.heap.size, 0, none⟩) := (hO 6 (by kernel_rfl)).trans rfl
        clear hE hO hV
        have hX := Blk.chg H3.out.2.2.1 hF.c (by omega)
        have q0 := Blk.cell hX 0 rfl
        have q1 := Blk.cell hX 1 rfl
        have HF := Lib.hid hF
        clear hX hF
        exact Rely.Good.value 0 (u := labL x) (by go_simp) (fun _ _ => rfl) (HF.out.same 0 (by decide))
      refine Rely.Steps.cons (fun L γ ev wv hL hE hF hC hCf hO hV => ?_) ?_
      · clear hL
        have v5 : ev (.tmp 5) = .pointer (some ⟨bc, 0, none⟩) := (hO 5 (by kernel_rfl)).trans rfl
        clear hE hO hV
        have hX := Blk.chg H3.out.2.1.c hF.c (by have := HC0.out; omega)
        have q0 := Blk.cell hX 0 rfl
        have HF := Lib.hid hF
        clear hX hF
        exact Rely.Good.value 0 (u := .pointer (some ⟨g, 0, none⟩)) (by go_simp) (fun _ _ => rfl) (HF.out.same 1 (by decide))
      refine Rely.Steps.cons (fun L γ ev wv hL hE hF hC hCf hO hV => ?_) ?_
      · clear hL
        have v6 : ev (.tmp 6) = .pointer (some ⟨w.heap.size, 0, none⟩) := (hO 6 (by kernel_rfl)).trans rfl
        clear hE hO hV
        have hX := Blk.chg H3.out.2.2.1 hF.c (by omega)
        have q0 := Blk.cell hX 0 rfl
        have q1 := Blk.cell hX 1 rfl
        have HF := Lib.hid hF
        clear hX hF
        exact Rely.Good.value 0 (u := labL x) (by go_simp) (fun _ _ => rfl) (HF.out.same 2 (by decide))
      refine Rely.Steps.cons (fun L γ ev wv hL hE hF hC hCf hO hV => ?_) ?_
      · clear hL
        have v9 : ev (.tmp 9) = .int .u64 (s : Int) := (hO 9 (by kernel_rfl)).trans rfl
        clear hE hO hV
        exact Rely.Good.value 0 (u := .int .u64 (s : Int)) (by go_simp) (fun _ _ => rfl) (hF.same 3 (by decide))
      refine Rely.Steps.cons (fun L γ ev wv hL hE hF hC hCf hO hV => ?_) ?_
      · clear hL
        have hL1 : L 1 = true := hE _ (Array.mem_of_getElem? (i := 0) rfl) rfl
        have v28 : ev (.tmp 28) = .pointer (some ⟨g, 0, none⟩) := hV 1 28 hL1 rfl
        have hL2 : L 2 = true := hE _ (Array.mem_of_getElem? (i := 1) rfl) rfl
        have v29 : ev (.tmp 29) = labL x := hV 2 29 hL2 rfl
        have hL3 : L 3 = true := hE _ (Array.mem_of_getElem? (i := 2) rfl) rfl
        have v30 : ev (.tmp 30) = .int .u64 (s : Int) := hV 3 30 hL3 rfl
        clear hE hO hV
        have hF0 := hF.c
        have HF := Lib.hid hF
        clear hF
        exact Rely.Good.enter (f := 42) (args := #[.pointer (some ⟨g, 0, none⟩), labL x, .int .u64 (s : Int)]) (by go_simp) ((HQ.out.1.code wv g x s (H3.out.2.1.x.chg hF0 (by have := HC0.out; omega)) HW.out.1 HQ.out.2.2.2.1).mono fun e w2 hc => ⟨0, _, hc.1, fun _ _ => by rw [show H x s = hA from HQ.out.2.1.1]; rfl, HF.out.val 4 (by decide) hc.2⟩)
      refine Rely.Steps.cons (fun L γ ev wv hL hE hF hC hCf hO hV => ?_) ?_
      · clear hL
        have v10 : ev (.tmp 10) = .pointer (some ⟨gG, 0, none⟩) := (hO 10 (by kernel_rfl)).trans rfl
        clear hE hO hV
        have hX := Blk.chg H3.out.2.2.2.2.2.2.1 hF.c (by have := H3.out.2.2.2.2.2.2.2.1; omega)
        have q0 := Blk.cell hX 0 rfl
        have q1 := Blk.cell hX 1 rfl
        have HF := Lib.hid hF
        clear hX hF
        exact Rely.Good.value 0 (u := labL G) (by go_simp) (fun _ _ => rfl) (HF.out.same 5 (by decide))
      refine Rely.Steps.cons (fun L γ ev wv hL hE hF hC hCf hO hV => ?_) ?_
      · clear hL
        have hL0 : L 0 = true := hE _ (Array.mem_of_getElem? (i := 0) rfl) rfl
        have v27 : ev (.tmp 27) = labL x := hV 0 27 hL0 rfl
        have hL4 : L 4 = true := hE _ (Array.mem_of_getElem? (i := 1) rfl) rfl
        have v31 : ev (.tmp 31) = labL hA := hV 4 31 hL4 rfl
        have hL5 : L 5 = true := hE _ (Array.mem_of_getElem? (i := 2) rfl) rfl
        have v32 : ev (.tmp 32) = labL G := hV 5 32 hL5 rfl
        clear hE hO hV
        exact Rely.Good.value 0 (u := halfV x hA G) (by go_simp) (fun _ _ => rfl) (hF.same 6 (by decide))
      refine Rely.Steps.cons (fun L γ ev wv hL hE hF hC hCf hO hV => ?_) ?_
      · clear hL
        have v7 : ev (.tmp 7) = .pointer (some ⟨w.heap.size + 1, 0, none⟩) := (hO 7 (by kernel_rfl)).trans rfl
        clear hE hO hV
        have hX := Blk.chg H3.out.2.2.2.1 hF.c (by omega)
        have q0 := Blk.cell hX 0 rfl
        have q1 := Blk.cell hX 1 rfl
        have HF := Lib.hid hF
        clear hX hF
        exact Rely.Good.value 0 (u := labL y) (by go_simp) (fun _ _ => rfl) (HF.out.same 7 (by decide))
      refine Rely.Steps.cons (fun L γ ev wv hL hE hF hC hCf hO hV => ?_) ?_
      · clear hL
        have v5 : ev (.tmp 5) = .pointer (some ⟨bc, 0, none⟩) := (hO 5 (by kernel_rfl)).trans rfl
        clear hE hO hV
        have hX := Blk.chg H3.out.2.1.c hF.c (by have := HC0.out; omega)
        have q0 := Blk.cell hX 0 rfl
        have HF := Lib.hid hF
        clear hX hF
        exact Rely.Good.value 0 (u := .pointer (some ⟨g, 0, none⟩)) (by go_simp) (fun _ _ => rfl) (HF.out.same 8 (by decide))
      refine Rely.Steps.cons (fun L γ ev wv hL hE hF hC hCf hO hV => ?_) ?_
      · clear hL
        have v7 : ev (.tmp 7) = .pointer (some ⟨w.heap.size + 1, 0, none⟩) := (hO 7 (by kernel_rfl)).trans rfl
        clear hE hO hV
        have hX := Blk.chg H3.out.2.2.2.1 hF.c (by omega)
        have q0 := Blk.cell hX 0 rfl
        have q1 := Blk.cell hX 1 rfl
        have HF := Lib.hid hF
        clear hX hF
        exact Rely.Good.value 0 (u := labL y) (by go_simp) (fun _ _ => rfl) (HF.out.same 9 (by decide))
      refine Rely.Steps.cons (fun L γ ev wv hL hE hF hC hCf hO hV => ?_) ?_
      · clear hL
        have v9 : ev (.tmp 9) = .int .u64 (s : Int) := (hO 9 (by kernel_rfl)).trans rfl
        clear hE hO hV
        exact Rely.Good.value 0 (u := .int .u64 (s : Int)) (by go_simp) (fun _ _ => rfl) (hF.same 10 (by decide))
      refine Rely.Steps.cons (fun L γ ev wv hL hE hF hC hCf hO hV => ?_) ?_
      · clear hL
        have hL10 : L 10 = true := hE _ (Array.mem_of_getElem? (i := 0) rfl) rfl
        have v37 : ev (.tmp 37) = .int .u64 (s : Int) := hV 10 37 hL10 rfl
        clear hE hO hV
        exact Rely.Good.value 0 (u := .int .u64 (t : Int)) (by go_simp) (fun _ _ => rfl) (hF.same 11 (by decide))
      refine Rely.Steps.cons (fun L γ ev wv hL hE hF hC hCf hO hV => ?_) ?_
      · clear hL
        have hL8 : L 8 = true := hE _ (Array.mem_of_getElem? (i := 0) rfl) rfl
        have v35 : ev (.tmp 35) = .pointer (some ⟨g, 0, none⟩) := hV 8 35 hL8 rfl
        have hL9 : L 9 = true := hE _ (Array.mem_of_getElem? (i := 1) rfl) rfl
        have v36 : ev (.tmp 36) = labL y := hV 9 36 hL9 rfl
        have hL11 : L 11 = true := hE _ (Array.mem_of_getElem? (i := 2) rfl) rfl
        have v38 : ev (.tmp 38) = .int .u64 (t : Int) := hV 11 38 hL11 rfl
        clear hE hO hV
        have hF0 := hF.c
        have HF := Lib.hid hF
        clear hF
        exact Rely.Good.enter (f := 42) (args := #[.pointer (some ⟨g, 0, none⟩), labL y, .int .u64 (t : Int)]) (by go_simp) ((HQ.out.1.code wv g y t (H3.out.2.1.x.chg hF0 (by have := HC0.out; omega)) HW.out.2.1 HQ.out.2.2.2.2).mono fun e w2 hc => ⟨0, _, hc.1, fun _ _ => by rw [show H y t = hB from HQ.out.2.1.2]; rfl, HF.out.val 12 (by decide) hc.2⟩)
      refine Rely.Steps.cons (fun L γ ev wv hL hE hF hC hCf hO hV => ?_) ?_
      · clear hL
        have v11 : ev (.tmp 11) = .pointer (some ⟨gE, 0, none⟩) := (hO 11 (by kernel_rfl)).trans rfl
        clear hE hO hV
        have hX := Blk.chg H3.out.2.2.2.2.2.2.2.2.1 hF.c (by have := H3.out.2.2.2.2.2.2.2.2.2; omega)
        have q0 := Blk.cell hX 0 rfl
        have q1 := Blk.cell hX 1 rfl
        have HF := Lib.hid hF
        clear hX hF
        exact Rely.Good.value 0 (u := labL E) (by go_simp) (fun _ _ => rfl) (HF.out.same 13 (by decide))
      refine Rely.Steps.cons (fun L γ ev wv hL hE hF hC hCf hO hV => ?_) ?_
      · clear hL
        have v6 : ev (.tmp 6) = .pointer (some ⟨w.heap.size, 0, none⟩) := (hO 6 (by kernel_rfl)).trans rfl
        clear hE hO hV
        have hX := Blk.chg H3.out.2.2.1 hF.c (by omega)
        have q0 := Blk.cell hX 0 rfl
        have q1 := Blk.cell hX 1 rfl
        have HF := Lib.hid hF
        clear hX hF
        exact Rely.Good.value 0 (u := labL x) (by go_simp) (fun _ _ => rfl) (HF.out.same 14 (by decide))
      refine Rely.Steps.cons (fun L γ ev wv hL hE hF hC hCf hO hV => ?_) ?_
      · clear hL
        have hL13 : L 13 = true := hE _ (Array.mem_of_getElem? (i := 0) rfl) rfl
        have v40 : ev (.tmp 40) = labL E := hV 13 40 hL13 rfl
        have hL14 : L 14 = true := hE _ (Array.mem_of_getElem? (i := 1) rfl) rfl
        have v41 : ev (.tmp 41) = labL x := hV 14 41 hL14 rfl
        clear hE hO hV
        have HF := Lib.hid hF
        clear hF
        exact Rely.Good.enter (f := 43) (args := #[labL E, labL x]) (by go_simp) ((xor_lab E x wv HW.out.2.2.2.2.2.1 HW.out.1).mono fun e w2 hc => ⟨0, _, hc.1, fun _ _ => by rw [show Garb.nadd E x = u from HQ.out.2.2.1.1]; rfl, HF.out.val 15 (by decide) hc.2⟩)
      refine Rely.Steps.cons (fun L γ ev wv hL hE hF hC hCf hO hV => ?_) ?_
      · clear hL
        have hL7 : L 7 = true := hE _ (Array.mem_of_getElem? (i := 0) rfl) rfl
        have v34 : ev (.tmp 34) = labL y := hV 7 34 hL7 rfl
        have hL12 : L 12 = true := hE _ (Array.mem_of_getElem? (i := 1) rfl) rfl
        have v39 : ev (.tmp 39) = labL hB := hV 12 39 hL12 rfl
        have hL15 : L 15 = true := hE _ (Array.mem_of_getElem? (i := 2) rfl) rfl
        have v42 : ev (.tmp 42) = labL u := hV 15 42 hL15 rfl
        clear hE hO hV
        exact Rely.Good.value 0 (u := halfV y hB u) (by go_simp) (fun _ _ => rfl) (hF.same 16 (by decide))
      refine Rely.Steps.cons (fun L γ ev wv hL hE hF hC hCf hO hV => ?_) ?_
      · clear hL
        have hL6 : L 6 = true := hE _ (Array.mem_of_getElem? (i := 0) rfl) rfl
        have v33 : ev (.tmp 33) = halfV x hA G := hV 6 33 hL6 rfl
        have hL16 : L 16 = true := hE _ (Array.mem_of_getElem? (i := 1) rfl) rfl
        have v43 : ev (.tmp 43) = halfV y hB u := hV 16 43 hL16 rfl
        clear hE hO hV
        have HF := Lib.hid hF
        clear hF
        exact Rely.Good.enter (f := 44) (args := #[halfV x hA G, halfV y hB u]) (by go_simp) ((join_any x hA G y hB u wv HW.out.1 HW.out.2.2.1 HW.out.2.2.2.2.1 HW.out.2.1 HW.out.2.2.2.1 HW.out.2.2.2.2.2.2).mono fun e w2 hc => ⟨0, _, hc.1, fun _ _ => by rw [show Garb.nadd (Garb.plus Garb.nadd hA (Garb.ncol x) G) (Garb.plus Garb.nadd hB (Garb.ncol y) u) = r from HQ.out.2.2.1.2]; rfl, HF.out.val 17 (by decide) hc.2⟩)
      refine Rely.Steps.cons (fun L γ ev wv hL hE hF hC hCf hO hV => ?_) ?_
      · clear hL
        have v8 : ev (.tmp 8) = .pointer (some ⟨w.heap.size + 1 + 1, 0, none⟩) := (hO 8 (by kernel_rfl)).trans rfl
        have hL17 : L 17 = true := hE _ (Array.mem_of_getElem? (i := 0) rfl) rfl
        have v44 : ev (.tmp 44) = labL r := hV 17 44 hL17 rfl
        clear hE hO hV
        have hX := hF.l
        have HF := Lib.hid hF
        obtain ⟨y0, hy⟩ : ∃ y, (if L 18 = true then r else ((0, 0) : Lab)) = y := ⟨_, rfl⟩
        rw [hy] at hX
        clear hy hF
        have q0 := Blk.cell hX 0 rfl
        have q1 := Blk.cell hX 1 rfl
        have qf := Blk.frozen hX
        clear hX
        exact Rely.Good.skip 0 (w' := stL wv (w.heap.size + 1 + 1) r) (by go_simp) rfl HF.out.put
      exact Rely.Steps.nil
    case hend =>
      intro γ w8 hF
      have hl : LbB w8 (w.heap.size + 1 + 1) r := hF.l
      have hG := H3.out.2.1
      have hc8 : Chg (fun q => q = bu) w w8 := H3.out.1.trans2 hF.c (fun q h1 h2 => by omega)
      have hc := HC0.out
      have hG8 : Gv w8 bf bu bt bc g first (some ad) nT ct tab (J + 2) := ⟨hG.f.chg hF.c (by omega), hG.u.chg hF.c (by omega), hG.t.chg hF.c (by omega), hG.c.chg hF.c (by omega), hG.x.chg hF.c (by omega), hG.a.chg hF.c (fun ad' e' hn e => by have := hc.2.2.2.2.2 ad' e' hn; omega), hG.s⟩
      have HF := Lib.hid (And.intro hl (And.intro hG8 hc8))
      clear hF hl hc8 hG hG8 hc H3
      simp only [Rely.fin, Act.put, List.setIfInBounds_toArray, List.set_cons_zero, List.set_cons_succ]
      go_wp2
      exact bodyPost_ret (v := labL r) (res_labL rfl _ _ _ rfl HF.out.1) rfl ⟨rfl, HF.out.2.1, HF.out.2.2⟩
end Go.Proofs.YtamejhhjfnfalaaDoor
