/- Contracts of garble's and the laws' small functions. No condition beyond those that each theorem states. -/
import Derived.Test.YtamejhhjfnfalaaDoorMG
import Derived.Test.YtamejhhjfnfalaaDoorMV
/- Contracts of garble's half.opened, join. -/
namespace Go.Proofs.YtamejhhjfnfalaaDoor
open Go.RowKit
open Rely (upd)

/-- A half's value. -/
abbrev halfV (l h t : Lab) : Value := .agg #[.int .u64 (l.1 : Int), .int .u64 (l.2 : Int), .int .u64 (h.1 : Int), .int .u64 (h.2 : Int), .int .u64 (t.1 : Int), .int .u64 (t.2 : Int)]
/-- A half in a block of its own. -/
abbrev HfB (w : World) (b : Nat) (l h t : Lab) : Prop := Blk w b 94 #[.int .u64 (l.1 : Int), .int .u64 (l.2 : Int), .int .u64 (h.1 : Int), .int .u64 (h.2 : Int), .int .u64 (t.1 : Int), .int .u64 (t.2 : Int)]
set_option maxHeartbeats 2000000 in
set_option maxRecDepth 100000 in
theorem opened_any (l h t : Lab) (w : World) (hl : Garb.Wd l) (hh : Garb.Wd h) (ht : Garb.Wd t) : Calls Tryd.prog 70 #[halfV l h t] w fun e w' => e = .returned (labL (Garb.plus Garb.nadd h (Garb.ncol l) t)) ∧ Below w.heap.size w w' := by
  have X1 := Blk.new w 94 #[.int .u64 (l.1 : Int), .int .u64 (l.2 : Int), .int .u64 (h.1 : Int), .int .u64 (h.2 : Int), .int .u64 (t.1 : Int), .int .u64 (t.2 : Int)]
  have b1 := (Below.refl w.heap.size w).alloc (Nat.le_refl _) (.cells #[.int .u64 (l.1 : Int), .int .u64 (l.2 : Int), .int .u64 (h.1 : Int), .int .u64 (h.2 : Int), .int .u64 (t.1 : Int), .int .u64 (t.2 : Int)] 94)
  have X2 := Blk.new (w.alloc (.cells #[.int .u64 (l.1 : Int), .int .u64 (l.2 : Int), .int .u64 (h.1 : Int), .int .u64 (h.2 : Int), .int .u64 (t.1 : Int), .int .u64 (t.2 : Int)] 94)) 28 #[.int .u64 0, .int .u64 0]
  have b2 := b1.alloc b1.size zeroL
  have Y1 := X1.alloc zeroL
  simp only [World.size_alloc] at X2
  have H0 := Lib.hid (And.intro b2 (And.intro (show HfB _ w.heap.size l h t from Y1) (show LbB _ (w.heap.size + 1) (0, 0) from X2)))
  have HW := Lib.hid (And.intro hl (And.intro hh ht))
  clear X1 X2 b1 b2 Y1 hl hh ht
  obtain ⟨x, hx⟩ : ∃ x, Garb.plus Garb.nadd h (Garb.ncol l) t = x := ⟨_, rfl⟩
  have HX := Lib.hid hx
  rw [hx]
  clear hx
  go_enter Tryd.func70, Tryd.ntmps70
  go_wp2
  generalize ((w.alloc (.cells #[.int .u64 (l.1 : Int), .int .u64 (l.2 : Int), .int .u64 (h.1 : Int), .int .u64 (h.2 : Int), .int .u64 (t.1 : Int), .int .u64 (t.2 : Int)] 94)).alloc zeroL) = w0 at *
  refine Rely.region (G := Nat) (vs := [fun _ => .pointer (some ⟨w.heap.size, 2, none⟩), fun _ => labL h, fun _ => .pointer (some ⟨w.heap.size, 4, none⟩), fun _ => labL t, fun _ => .pointer (some ⟨w.heap.size, 0, none⟩), fun _ => labL l, fun _ => .bool (Garb.ncol l), fun _ => labL x, fun _ => undef]) (F := fun L _ w' => FO w0 (w.heap.size + 1) 8 x (0, 0) L w') (by kernel_rfl) (by kernel_rfl) rfl (fun _ => 0) (FO.start w0 _ (drew_below w0) H0.out.2.2) ?hsteps ?hend
  case hsteps =>
    refine Rely.Steps.cons (fun L γ ev wv hL hE hF hC hCf hO hV => ?_) ?_
    · clear hL
      have v1 : ev (.tmp 1) = .pointer (some ⟨w.heap.size, 0, none⟩) := (hO 1 (by kernel_rfl)).trans rfl
      clear hE hO hV
      exact Rely.Good.value 0 (u := .pointer (some ⟨w.heap.size, 2, none⟩)) (by go_simp) (fun _ _ => rfl) (hF.same 0 (by decide))
    refine Rely.Steps.cons (fun L γ ev wv hL hE hF hC hCf hO hV => ?_) ?_
    · clear hL
      have hL0 : L 0 = true := hE _ (Array.mem_of_getElem? (i := 0) rfl) rfl
      have v3 : ev (.tmp 3) = .pointer (some ⟨w.heap.size, 2, none⟩) := hV 0 3 hL0 rfl
      clear hE hO hV
      have hX := Blk.chg H0.out.2.1 hF.c (by omega)
      have q0 := Blk.cell hX 2 rfl
      have q1 := Blk.cell hX 3 rfl
      have HF := Lib.hid hF
      clear hX hF
      exact Rely.Good.value 0 (u := labL h) (by go_simp) (fun _ _ => rfl) (HF.out.same 1 (by decide))
    refine Rely.Steps.cons (fun L γ ev wv hL hE hF hC hCf hO hV => ?_) ?_
    · clear hL
      have v1 : ev (.tmp 1) = .pointer (some ⟨w.heap.size, 0, none⟩) := (hO 1 (by kernel_rfl)).trans rfl
      clear hE hO hV
      exact Rely.Good.value 0 (u := .pointer (some ⟨w.heap.size, 4, none⟩)) (by go_simp) (fun _ _ => rfl) (hF.same 2 (by decide))
    refine Rely.Steps.cons (fun L γ ev wv hL hE hF hC hCf hO hV => ?_) ?_
    · clear hL
      have hL2 : L 2 = true := hE _ (Array.mem_of_getElem? (i := 0) rfl) rfl
      have v5 : ev (.tmp 5) = .pointer (some ⟨w.heap.size, 4, none⟩) := hV 2 5 hL2 rfl
      clear hE hO hV
      have hX := Blk.chg H0.out.2.1 hF.c (by omega)
      have q0 := Blk.cell hX 4 rfl
      have q1 := Blk.cell hX 5 rfl
      have HF := Lib.hid hF
      clear hX hF
      exact Rely.Good.value 0 (u := labL t) (by go_simp) (fun _ _ => rfl) (HF.out.same 3 (by decide))
    refine Rely.Steps.cons (fun L γ ev wv hL hE hF hC hCf hO hV => ?_) ?_
    · clear hL
      have v1 : ev (.tmp 1) = .pointer (some ⟨w.heap.size, 0, none⟩) := (hO 1 (by kernel_rfl)).trans rfl
      clear hE hO hV
      exact Rely.Good.value 0 (u := .pointer (some ⟨w.heap.size, 0, none⟩)) (by go_simp) (fun _ _ => rfl) (hF.same 4 (by decide))
    refine Rely.Steps.cons (fun L γ ev wv hL hE hF hC hCf hO hV => ?_) ?_
    · clear hL
      have hL4 : L 4 = true := hE _ (Array.mem_of_getElem? (i := 0) rfl) rfl
      have v7 : ev (.tmp 7) = .pointer (some ⟨w.heap.size, 0, none⟩) := hV 4 7 hL4 rfl
      clear hE hO hV
      have hX := Blk.chg H0.out.2.1 hF.c (by omega)
      have q0 := Blk.cell hX 0 rfl
      have q1 := Blk.cell hX 1 rfl
      have HF := Lib.hid hF
      clear hX hF
      exact Rely.Good.value 0 (u := labL l) (by go_simp) (fun _ _ => rfl) (HF.out.same 5 (by decide))
    refine Rely.Steps.cons (fun L γ ev wv hL hE hF hC hCf hO hV => ?_) ?_
    · clear hL
      have hL5 : L 5 = true := hE _ (Array.mem_of_getElem? (i := 0) rfl) rfl
      have v8 : ev (.tmp 8) = labL l := hV 5 8 hL5 rfl
      clear hE hO hV
      have HF := Lib.hid hF
      clear hF
      exact Rely.Good.enter (f := 37) (args := #[labL l]) (by go_simp) (((fun wv => coloured_any l wv) wv).mono fun e w2 hc => ⟨0, _, hc.1, fun _ _ => rfl, HF.out.val 6 (by decide) hc.2⟩)
    refine Rely.Steps.cons (fun L γ ev wv hL hE hF hC hCf hO hV => ?_) ?_
    · clear hL
      have hL1 : L 1 = true := hE _ (Array.mem_of_getElem? (i := 0) rfl) rfl
      have v4 : ev (.tmp 4) = labL h := hV 1 4 hL1 rfl
      have hL3 : L 3 = true := hE _ (Array.mem_of_getElem? (i := 1) rfl) rfl
      have v6 : ev (.tmp 6) = labL t := hV 3 6 hL3 rfl
      have hL6 : L 6 = true := hE _ (Array.mem_of_getElem? (i := 2) rfl) rfl
      have v9 : ev (.tmp 9) = .bool (Garb.ncol l) := hV 6 9 hL6 rfl
      clear hE hO hV
      have HF := Lib.hid hF
      clear hF
      exact Rely.Good.enter (f := 20) (args := #[labL h, labL t, .bool (Garb.ncol l)]) (by go_simp) (((fun wv => label_any h t (Garb.ncol l) wv HW.out.2.1 HW.out.2.2) wv).mono fun e w2 hc => ⟨0, _, hc.1, fun _ _ => by rw [show Garb.lab Garb.nadd h t (Garb.ncol l) = x from HX.out]; rfl, HF.out.val 7 (by decide) hc.2⟩)
    refine Rely.Steps.cons (fun L γ ev wv hL hE hF hC hCf hO hV => ?_) ?_
    · clear hL
      have v2 : ev (.tmp 2) = .pointer (some ⟨w.heap.size + 1, 0, none⟩) := (hO 2 (by kernel_rfl)).trans rfl
      have hL7 : L 7 = true := hE _ (Array.mem_of_getElem? (i := 0) rfl) rfl
      have v10 : ev (.tmp 10) = labL x := hV 7 10 hL7 rfl
      clear hE hO hV
      have hX := hF.l
      have HF := Lib.hid hF
      obtain ⟨y, hy⟩ : ∃ y, (if L 8 = true then x else ((0, 0) : Lab)) = y := ⟨_, rfl⟩
      rw [hy] at hX
      clear hy hF
      have q0 := Blk.cell hX 0 rfl
      have q1 := Blk.cell hX 1 rfl
      have qf := Blk.frozen hX
      clear hX
      exact Rely.Good.skip 0 (w' := stL wv (w.heap.size + 1) x) (by go_simp) rfl HF.out.put
    exact Rely.Steps.nil
  case hend =>
    intro γ w2 hF
    have HF := Lib.hid (And.intro (show LbB w2 (w.heap.size + 1) x from hF.l) (H0.out.1.trans (hF.c.below H0.out.1.size (by rintro q rfl; omega))))
    clear hF
    simp only [Rely.fin, Act.put, List.setIfInBounds_toArray, List.set_cons_zero, List.set_cons_succ]
    go_wp2
    exact bodyPost_ret (v := labL x) (res_labL rfl _ _ _ rfl HF.out.1) rfl ⟨rfl, HF.out.2⟩
set_option maxHeartbeats 2000000 in
set_option maxRecDepth 100000 in
theorem join_any (l h t l2 h2 t2 : Lab) (w : World) (hl : Garb.Wd l) (hh : Garb.Wd h) (ht : Garb.Wd t) (hl2 : Garb.Wd l2) (hh2 : Garb.Wd h2) (ht2 : Garb.Wd t2) : Calls Tryd.prog 44 #[halfV l h t, halfV l2 h2 t2] w fun e w' => e = .returned (labL (Garb.nadd (Garb.plus Garb.nadd h (Garb.ncol l) t) (Garb.plus Garb.nadd h2 (Garb.ncol l2) t2))) ∧ Below w.heap.size w w' := by
  have X1 := Blk.new w 94 (halfV l h t).cells
  have b1 := (Below.refl w.heap.size w).alloc (Nat.le_refl _) (.cells (halfV l h t).cells 94)
  have X2 := Blk.new (w.alloc (.cells (halfV l h t).cells 94)) 94 (halfV l2 h2 t2).cells
  have b2 := b1.alloc b1.size (.cells (halfV l2 h2 t2).cells 94)
  have X3 := Blk.new ((w.alloc (.cells (halfV l h t).cells 94)).alloc (.cells (halfV l2 h2 t2).cells 94)) 28 #[.int .u64 0, .int .u64 0]
  have b3 := b2.alloc b2.size zeroL
  have Y1 := (X1.alloc (.cells (halfV l2 h2 t2).cells 94)).alloc zeroL
  simp only [World.size_alloc] at X2 X3
  have Y2 := X2.alloc zeroL
  have H0 := Lib.hid (And.intro b3 (And.intro (show HfB _ w.heap.size l h t from Y1) (And.intro (show HfB _ (w.heap.size + 1) l2 h2 t2 from Y2) (show LbB _ (w.heap.size + 1 + 1) (0, 0) from X3))))
  have HW := Lib.hid (And.intro hl (And.intro hh (And.intro ht (And.intro hl2 (And.intro hh2 ht2)))))
  clear X1 X2 X3 b1 b2 b3 Y1 Y2 hl hh ht hl2 hh2 ht2
  obtain ⟨y, hy⟩ : ∃ y, Garb.plus Garb.nadd h (Garb.ncol l) t = y := ⟨_, rfl⟩
  obtain ⟨y2, hy2⟩ : ∃ y, Garb.plus Garb.nadd h2 (Garb.ncol l2) t2 = y := ⟨_, rfl⟩
  have HY := Lib.hid (And.intro hy (And.intro hy2 (And.intro (show Garb.Wd y from hy ▸ HW.out.2.1.plus _ HW.out.2.2.1) (show Garb.Wd y2 from hy2 ▸ HW.out.2.2.2.2.1.plus _ HW.out.2.2.2.2.2))))
  rw [hy, hy2]
  obtain ⟨x, hx⟩ : ∃ x, Garb.nadd y y2 = x := ⟨_, rfl⟩
  have HX := Lib.hid hx
  rw [hx]
  clear hx hy hy2
  go_enter Tryd.func44, Tryd.ntmps44
  go_wp2
  simp only [Value.cells] at H0
  generalize (((w.alloc (.cells #[.int .u64 (l.1 : Int), .int .u64 (l.2 : Int), .int .u64 (h.1 : Int), .int .u64 (h.2 : Int), .int .u64 (t.1 : Int), .int .u64 (t.2 : Int)] 94)).alloc (.cells #[.int .u64 (l2.1 : Int), .int .u64 (l2.2 : Int), .int .u64 (h2.1 : Int), .int .u64 (h2.2 : Int), .int .u64 (t2.1 : Int), .int .u64 (t2.2 : Int)] 94)).alloc zeroL) = w0 at *
  refine Rely.region (G := Nat) (vs := [fun _ => halfV l h t, fun _ => labL y, fun _ => halfV l2 h2 t2, fun _ => labL y2, fun _ => labL x, fun _ => undef]) (F := fun L _ w' => FO w0 (w.heap.size + 1 + 1) 5 x (0, 0) L w') (by kernel_rfl) (by kernel_rfl) rfl (fun _ => 0) (FO.start w0 _ (drew_below w0) H0.out.2.2.2) ?hsteps ?hend
  case hsteps =>
    refine Rely.Steps.cons (fun L γ ev wv hL hE hF hC hCf hO hV => ?_) ?_
    · clear hL
      have v2 : ev (.tmp 2) = .pointer (some ⟨w.heap.size, 0, none⟩) := (hO 2 (by kernel_rfl)).trans rfl
      clear hE hO hV
      have hX := Blk.chg H0.out.2.1 hF.c (by omega)
      have q0 := Blk.cell hX 0 rfl
      have q1 := Blk.cell hX 1 rfl
      have q2 := Blk.cell hX 2 rfl
      have q3 := Blk.cell hX 3 rfl
      have q4 := Blk.cell hX 4 rfl
      have q5 := Blk.cell hX 5 rfl
      have HF := Lib.hid hF
      clear hX hF
      exact Rely.Good.value 0 (u := halfV l h t) (by go_simp) (fun _ _ => rfl) (HF.out.same 0 (by decide))
    refine Rely.Steps.cons (fun L γ ev wv hL hE hF hC hCf hO hV => ?_) ?_
    · clear hL
      have hL0 : L 0 = true := hE _ (Array.mem_of_getElem? (i := 0) rfl) rfl
      have v5 : ev (.tmp 5) = halfV l h t := hV 0 5 hL0 rfl
      clear hE hO hV
      have HF := Lib.hid hF
      clear hF
      exact Rely.Good.enter (f := 70) (args := #[halfV l h t]) (by go_simp) (((fun wv => opened_any l h t wv HW.out.1 HW.out.2.1 HW.out.2.2.1) wv).mono fun e w2 hc => ⟨0, _, hc.1, fun _ _ => by rw [show Garb.plus Garb.nadd h (Garb.ncol l) t = y from HY.out.1]; rfl, HF.out.val 1 (by decide) hc.2⟩)
    refine Rely.Steps.cons (fun L γ ev wv hL hE hF hC hCf hO hV => ?_) ?_
    · clear hL
      have v3 : ev (.tmp 3) = .pointer (some ⟨w.heap.size + 1, 0, none⟩) := (hO 3 (by kernel_rfl)).trans rfl
      clear hE hO hV
      have hX := Blk.chg H0.out.2.2.1 hF.c (by omega)
      have q0 := Blk.cell hX 0 rfl
      have q1 := Blk.cell hX 1 rfl
      have q2 := Blk.cell hX 2 rfl
      have q3 := Blk.cell hX 3 rfl
      have q4 := Blk.cell hX 4 rfl
      have q5 := Blk.cell hX 5 rfl
      have HF := Lib.hid hF
      clear hX hF
      exact Rely.Good.value 0 (u := halfV l2 h2 t2) (by go_simp) (fun _ _ => rfl) (HF.out.same 2 (by decide))
    refine Rely.Steps.cons (fun L γ ev wv hL hE hF hC hCf hO hV => ?_) ?_
    · clear hL
      have hL2 : L 2 = true := hE _ (Array.mem_of_getElem? (i := 0) rfl) rfl
      have v7 : ev (.tmp 7) = halfV l2 h2 t2 := hV 2 7 hL2 rfl
      clear hE hO hV
      have HF := Lib.hid hF
      clear hF
      exact Rely.Good.enter (f := 70) (args := #[halfV l2 h2 t2]) (by go_simp) (((fun wv => opened_any l2 h2 t2 wv HW.out.2.2.2.1 HW.out.2.2.2.2.1 HW.out.2.2.2.2.2) wv).mono fun e w2 hc => ⟨0, _, hc.1, fun _ _ => by rw [show Garb.plus Garb.nadd h2 (Garb.ncol l2) t2 = y2 from HY.out.2.1]; rfl, HF.out.val 3 (by decide) hc.2⟩)
    refine Rely.Steps.cons (fun L γ ev wv hL hE hF hC hCf hO hV => ?_) ?_
    · clear hL
      have hL1 : L 1 = true := hE _ (Array.mem_of_getElem? (i := 0) rfl) rfl
      have v6 : ev (.tmp 6) = labL y := hV 1 6 hL1 rfl
      have hL3 : L 3 = true := hE _ (Array.mem_of_getElem? (i := 1) rfl) rfl
      have v8 : ev (.tmp 8) = labL y2 := hV 3 8 hL3 rfl
      clear hE hO hV
      have HF := Lib.hid hF
      clear hF
      exact Rely.Good.enter (f := 43) (args := #[labL y, labL y2]) (by go_simp) (((fun wv => xor_lab y y2 wv HY.out.2.2.1 HY.out.2.2.2) wv).mono fun e w2 hc => ⟨0, _, hc.1, fun _ _ => by rw [show Garb.nadd y y2 = x from HX.out]; rfl, HF.out.val 4 (by decide) hc.2⟩)
    refine Rely.Steps.cons (fun L γ ev wv hL hE hF hC hCf hO hV => ?_) ?_
    · clear hL
      have v4 : ev (.tmp 4) = .pointer (some ⟨w.heap.size + 1 + 1, 0, none⟩) := (hO 4 (by kernel_rfl)).trans rfl
      have hL4 : L 4 = true := hE _ (Array.mem_of_getElem? (i := 0) rfl) rfl
      have v9 : ev (.tmp 9) = labL x := hV 4 9 hL4 rfl
      clear hE hO hV
      have hX := hF.l
      have HF := Lib.hid hF
      obtain ⟨y, hy⟩ : ∃ y, (if L 5 = true then x else ((0, 0) : Lab)) = y := ⟨_, rfl⟩
      rw [hy] at hX
      clear hy hF
      have q0 := Blk.cell hX 0 rfl
      have q1 := Blk.cell hX 1 rfl
      have qf := Blk.frozen hX
      clear hX
      exact Rely.Good.skip 0 (w' := stL wv (w.heap.size + 1 + 1) x) (by go_simp) rfl HF.out.put
    exact Rely.Steps.nil
  case hend =>
    intro γ w2 hF
    have HF := Lib.hid (And.intro (show LbB w2 (w.heap.size + 1 + 1) x from hF.l) (H0.out.1.trans (hF.c.below H0.out.1.size (by rintro q rfl; omega))))
    clear hF
    simp only [Rely.fin, Act.put, List.setIfInBounds_toArray, List.set_cons_zero, List.set_cons_succ]
    go_wp2
    exact bodyPost_ret (v := labL x) (res_labL rfl _ _ _ rfl HF.out.1) rfl ⟨rfl, HF.out.2⟩
end Go.Proofs.YtamejhhjfnfalaaDoor

/- Contracts of garble's fits, and of Garble where it refuses. -/
namespace Go.Proofs.YtamejhhjfnfalaaDoor
open Go.RowKit

/-- What fits answers: nil just where it is a circuit with a label for each input. -/
def FtAns (N : Int) (n : Nat) (y : Nat → Nat → Int) (m : Nat) (o : Nat → Int) (K : Nat) (w : World) (e : Ending) (w' : World) : Prop :=
  (Circ.Good N n y m o ∧ (K : Int) = N ∧ e = .returned .nilIface ∨ ¬ Circ.Good N n y m o ∧ (∃ p a, e = .returned (chain [(p, a)] 90)) ∨ Circ.Good N n y m o ∧ (K : Int) ≠ N ∧ ∃ p a, e = .returned (chain [(p, a)] 1)) ∧ Below w.heap.size w w'
set_option maxHeartbeats 2000000 in
set_option maxRecDepth 100000 in
theorem gfits_any (w : World) (N : Int) (Ag : Option Addr) (n cg : Nat) (y : Nat → Nat → Int) (Ao : Option Addr) (m co : Nat) (o : Nat → Int) (s : ByteArray) (A : Option Addr) (K c : Nat) (hh : Handle w) (hg : AtV w Ag (n * 3) (gv y)) (ho : AtV w Ao m (iv o)) (hn : n ≤ maxLen) (hm : m ≤ maxLen) :
    Calls Tryd.prog 36 #[circV N Ag n cg Ao m co, .string s, .slice A K c] w (FtAns N n y m o K w) := by
  have hb0 := (Below.refl w.heap.size w).alloc (Nat.le_refl _) (.cells #[.int .i64 N, .slice Ag n cg, .slice Ao m co] 25)
  have HX := Blk.new w 25 #[.int .i64 N, .slice Ag n cg, .slice Ao m co]
  have hlt := HX.lt
  have H0 := Lib.hid (And.intro hb0 (And.intro HX (hh.below hb0 hh.pos)))
  by_cases hG : Circ.Good N n y m o
  · have HC := Lib.hid (check_ok (cg := cg) (co := co) (hh.below hb0 hh.pos) (hg.below hb0) (ho.below hb0) hn hm hG)
    have HG := Lib.hid hG
    clear hh hg ho hn hm hG hb0 HX
    by_cases hK : (K : Int) = N
    · have k2 : ((K : Int) == N) = true := by simpa using hK
      have k3 : ((K : Int) != N) = false := by simpa using hK
      have HK := Lib.hid hK
      clear hK
      go_enter Tryd.func36, Tryd.ntmps36
      go_wp2_with fail
      refine HC.out.mono ?_
      rintro e w1 ⟨rfl, hb1⟩
      have HX1 := H0.out.2.1.below hb1 hlt
      have c0 := HX1.cell 0 (v := .int .i64 N) rfl
      have HB1 := Lib.hid (H0.out.1.trans (hb1.mono H0.out.1.size))
      clear hb1 HX1
      go_wp2
      go_ret
      exact ⟨.inl ⟨HG.out, HK.out, rfl⟩, HB1.out⟩
    · have k1 : ¬ (K : Int) = N := hK
      have k2 : ((K : Int) == N) = false := by simpa using hK
      have k3 : ((K : Int) != N) = true := by simpa using hK
      have HK := Lib.hid hK
      clear hK
      go_enter Tryd.func36, Tryd.ntmps36
      go_wp2_with fail
      refine HC.out.mono ?_
      rintro e w1 ⟨rfl, hb1⟩
      have HX1 := H0.out.2.1.below hb1 hlt
      have c0 := HX1.cell 0 (v := .int .i64 N) rfl
      have HB1 := Lib.hid (H0.out.1.trans (hb1.mono H0.out.1.size))
      have HW := Lib.hid (wrap_bare 1 (K : Int) s w1 (H0.out.2.2.below hb1 H0.out.2.2.pos))
      clear hb1 HX1
      go_wp2_with fail
      refine HW.out.mono ?_
      rintro e w2 ⟨rfl, hb2⟩
      have HB := Lib.hid (HB1.out.trans (hb2.mono HB1.out.size))
      clear hb2
      obtain ⟨T, x, hT⟩ := chain_iface [(s, (K : Int))] 1
      have HT := Lib.hid hT
      rw [hT]
      clear hT
      go_wp2
      go_ret
      exact ⟨.inr (.inr ⟨HG.out, HK.out, _, _, by rw [HT.out]; rfl⟩), HB.out⟩
  · have HC := Lib.hid (check_bad (cg := cg) (co := co) (hh.below hb0 hh.pos) (hg.below hb0) (ho.below hb0) hn hm hG)
    have HG := Lib.hid hG
    clear hh hg ho hn hm hG hb0 HX
    go_enter Tryd.func36, Tryd.ntmps36
    go_wp2_with fail
    refine HC.out.mono ?_
    rintro e w1 ⟨⟨p, a, rfl⟩, hb1⟩
    have HB := Lib.hid (H0.out.1.trans (hb1.mono H0.out.1.size))
    clear hb1
    obtain ⟨T, x, hT⟩ := chain_iface [(p, a)] 90
    have HT := Lib.hid hT
    rw [hT]
    clear hT
    go_wp2
    go_ret
    exact ⟨.inr (.inl ⟨HG.out, p, a, by rw [HT.out]; rfl⟩), HB.out⟩
/-- What Garble answers where it refuses. -/
def GrBad (code : Int) (w : World) (e : Ending) (w' : World) : Prop := (∃ p a, e = .returned (.tuple #[.slice none 0 0, .slice none 0 0, chain [(p, a)] code])) ∧ Below w.heap.size w w'
def EvBad (code : Int) (w : World) (e : Ending) (w' : World) : Prop := (∃ p a, e = .returned (.tuple #[.slice none 0 0, chain [(p, a)] code])) ∧ Below w.heap.size w w'
/-- A refusal of fits. -/
def FtBad (code : Int) (w : World) (e : Ending) (w' : World) : Prop := (∃ p a, e = .returned (chain [(p, a)] code)) ∧ Below w.heap.size w w'
theorem gfits_bad {w : World} {N : Int} {Ag : Option Addr} {n cg : Nat} {y : Nat → Nat → Int} {Ao : Option Addr} {m co : Nat} {o : Nat → Int} {s : ByteArray} {A : Option Addr} {K c : Nat} (hh : Handle w) (hg : AtV w Ag (n * 3) (gv y)) (ho : AtV w Ao m (iv o)) (hn : n ≤ maxLen) (hm : m ≤ maxLen) (hG : ¬ Circ.Good N n y m o) :
    Calls Tryd.prog 36 #[circV N Ag n cg Ao m co, .string s, .slice A K c] w (FtBad 90 w) :=
  (gfits_any w N Ag n cg y Ao m co o s A K c hh hg ho hn hm).mono fun e w' h => by
    rcases h.1 with h1 | h1 | h1
    · exact absurd h1.1 hG
    · exact ⟨h1.2, h.2⟩
    · exact absurd h1.1 hG
theorem gfits_len {w : World} {N : Int} {Ag : Option Addr} {n cg : Nat} {y : Nat → Nat → Int} {Ao : Option Addr} {m co : Nat} {o : Nat → Int} {s : ByteArray} {A : Option Addr} {K c : Nat} (hh : Handle w) (hg : AtV w Ag (n * 3) (gv y)) (ho : AtV w Ao m (iv o)) (hn : n ≤ maxLen) (hm : m ≤ maxLen) (hG : Circ.Good N n y m o) (hK : (K : Int) ≠ N) :
    Calls Tryd.prog 36 #[circV N Ag n cg Ao m co, .string s, .slice A K c] w (FtBad 1 w) :=
  (gfits_any w N Ag n cg y Ao m co o s A K c hh hg ho hn hm).mono fun e w' h => by
    rcases h.1 with h1 | h1 | h1
    · exact absurd h1.2.1 hK
    · exact absurd hG h1.1
    · exact ⟨h1.2.2, h.2⟩
theorem gfits_ok {w : World} {N : Int} {Ag : Option Addr} {n cg : Nat} {y : Nat → Nat → Int} {Ao : Option Addr} {m co : Nat} {o : Nat → Int} {s : ByteArray} {A : Option Addr} {K c : Nat} (hh : Handle w) (hg : AtV w Ag (n * 3) (gv y)) (ho : AtV w Ao m (iv o)) (hn : n ≤ maxLen) (hm : m ≤ maxLen) (hG : Circ.Good N n y m o) (hK : (K : Int) = N) :
    Calls Tryd.prog 36 #[circV N Ag n cg Ao m co, .string s, .slice A K c] w fun e w' => e = .returned .nilIface ∧ Below w.heap.size w w' :=
  (gfits_any w N Ag n cg y Ao m co o s A K c hh hg ho hn hm).mono fun e w' h => by
    rcases h.1 with h1 | h1 | h1
    · exact ⟨h1.2.2, h.2⟩
    · exact absurd hG h1.1
    · exact absurd hK h1.2.1
/-- Garble's own boxes. -/
theorem gar_boxes (w : World) (N : Int) (Ag : Option Addr) (n cg : Nat) (Ao : Option Addr) (m co : Nat) (d : Lab) (first : Nat) (w1 : World) (hw : ((w.alloc (.cells #[.int .i64 N, .slice Ag n cg, .slice Ao m co] 25)).alloc (.cells #[.int .u64 (d.1 : Int), .int .u64 (d.2 : Int)] 28)).alloc (.cells #[.int .u64 (first : Int)] 26) = w1) :
    Below w.heap.size w w1 ∧ circB w1 w.heap.size N Ag n cg Ao m co ∧ LbB w1 (w.heap.size + 1) d ∧ Blk w1 (w.heap.size + 1 + 1) 26 #[.int .u64 (first : Int)] ∧ w1.heap.size = w.heap.size + 1 + 1 + 1 := by
  subst hw
  have X0 := Blk.new w 25 #[.int .i64 N, .slice Ag n cg, .slice Ao m co]
  have b0 := (Below.refl w.heap.size w).alloc (Nat.le_refl _) (.cells #[.int .i64 N, .slice Ag n cg, .slice Ao m co] 25)
  have X1 := Blk.new (w.alloc (.cells #[.int .i64 N, .slice Ag n cg, .slice Ao m co] 25)) 28 #[.int .u64 (d.1 : Int), .int .u64 (d.2 : Int)]
  have b1 := b0.alloc b0.size (.cells #[.int .u64 (d.1 : Int), .int .u64 (d.2 : Int)] 28)
  have X2 := Blk.new ((w.alloc (.cells #[.int .i64 N, .slice Ag n cg, .slice Ao m co] 25)).alloc (.cells #[.int .u64 (d.1 : Int), .int .u64 (d.2 : Int)] 28)) 26 #[.int .u64 (first : Int)]
  simp only [World.size_alloc] at X1 X2
  exact ⟨b1.alloc b1.size _, (X0.alloc _).alloc _, X1.alloc _, X2, by simp⟩
set_option maxHeartbeats 2000000 in
set_option maxRecDepth 100000 in
theorem garble_fit (code : Int) (w : World) (N : Int) (Ag : Option Addr) (n cg : Nat) (Ao : Option Addr) (m co : Nat) (d : Lab) (A : Option Addr) (K c first : Nat)
    (hF : ∀ w1, Below w.heap.size w w1 → Calls Tryd.prog 36 #[circV N Ag n cg Ao m co, .string ⟨#[122, 101, 114, 111, 115]⟩, .slice A K c] w1 (FtBad code w1)) :
    Calls Tryd.prog 11 #[circV N Ag n cg Ao m co, labL d, .slice A K c, .int .u64 (first : Int)] w (GrBad code w) := by
  obtain ⟨w1, hw1⟩ : ∃ x, ((w.alloc (.cells #[.int .i64 N, .slice Ag n cg, .slice Ao m co] 25)).alloc (.cells #[.int .u64 (d.1 : Int), .int .u64 (d.2 : Int)] 28)).alloc (.cells #[.int .u64 (first : Int)] 26) = x := ⟨_, rfl⟩
  obtain ⟨b1, X0, X1, X2, hs⟩ := gar_boxes w N Ag n cg Ao m co d first w1 hw1
  have HC := Lib.hid (hF w1 b1)
  have HB1 := Lib.hid b1
  rw [← hw1] at HC HB1
  clear hF b1 X1 X2 hs X0
  clear hw1
  unfold GrBad
  go_enter Tryd.func11, Tryd.ntmps11
  go_wp2_with fail
  refine HC.out.mono ?_
  rintro e w2 ⟨⟨p, a, rfl⟩, hb2⟩
  have HB := Lib.hid (HB1.out.trans (hb2.mono HB1.out.size))
  clear hb2
  obtain ⟨T, x, hT⟩ := chain_iface [(p, a)] code
  have HT := Lib.hid hT
  rw [hT]
  clear hT
  go_wp2
  exact bodyPost_ret (v := .tuple #[.slice none 0 0, .slice none 0 0, .iface T x]) (by simp [results, Tryd.results11, go_sem]) rfl ⟨⟨p, a, by rw [HT.out]⟩, HB.out⟩
set_option maxHeartbeats 2000000 in
set_option maxRecDepth 100000 in
theorem geval_fit (code : Int) (w : World) (N : Int) (Ag : Option Addr) (n cg : Nat) (Ao : Option Addr) (m co : Nat) (A : Option Addr) (K c : Nat) (At : Option Addr) (nT ct first : Nat)
    (hF : ∀ w1, Below w.heap.size w w1 → Calls Tryd.prog 36 #[circV N Ag n cg Ao m co, .string ⟨#[108, 97, 98, 101, 108, 115]⟩, .slice A K c] w1 (FtBad code w1)) :
    Calls Tryd.prog 21 #[circV N Ag n cg Ao m co, .slice A K c, .slice At nT ct, .int .u64 (first : Int)] w (EvBad code w) := by
  have b1 := (((Below.refl w.heap.size w).alloc (Nat.le_refl _) (.cells #[.int .i64 N, .slice Ag n cg, .slice Ao m co] 25)).alloc (by simp) (.cells #[.slice At nT ct] 29)).alloc (by simp; omega) (.cells #[.int .u64 (first : Int)] 26)
  have HC := Lib.hid (hF _ b1)
  have HB1 := Lib.hid b1
  clear hF b1
  unfold EvBad
  go_enter Tryd.func21, Tryd.ntmps21
  go_wp2_with fail
  refine HC.out.mono ?_
  rintro e w2 ⟨⟨p, a, rfl⟩, hb2⟩
  have HB := Lib.hid (HB1.out.trans (hb2.mono HB1.out.size))
  clear hb2
  obtain ⟨T, x, hT⟩ := chain_iface [(p, a)] code
  have HT := Lib.hid hT
  rw [hT]
  clear hT
  go_wp2
  go_ret2
  exact ⟨⟨p, a, by rw [HT.out]; rfl⟩, HB.out⟩
end Go.Proofs.YtamejhhjfnfalaaDoor

/- Contracts of the laws' small functions: the document's Xor, Colour, plus, Colours; garble's Colours; Same where it says yes. -/
namespace Go.Proofs.YtamejhhjfnfalaaDoor
open Go.RowKit

set_option maxHeartbeats 1000000 in
set_option maxRecDepth 100000 in
theorem rxor_lab (a b : Lab) (w : World) (ha : Garb.Wd a) (hb : Garb.Wd b) : Calls Tryd.prog 23 #[labL a, labL b] w fun e w' => e = .returned (labL (Garb.nadd a b)) ∧ Below w.heap.size w w' := by
  have X0 := Blk.new w 28 #[.int .u64 (a.1 : Int), .int .u64 (a.2 : Int)]
  have b0 := (Below.refl w.heap.size w).alloc (Nat.le_refl _) (.cells #[.int .u64 (a.1 : Int), .int .u64 (a.2 : Int)] 28)
  have X1 := Blk.new (w.alloc (.cells #[.int .u64 (a.1 : Int), .int .u64 (a.2 : Int)] 28)) 28 #[.int .u64 (b.1 : Int), .int .u64 (b.2 : Int)]
  have b1 := b0.alloc b0.size (.cells #[.int .u64 (b.1 : Int), .int .u64 (b.2 : Int)] 28)
  have X2 := Blk.new ((w.alloc (.cells #[.int .u64 (a.1 : Int), .int .u64 (a.2 : Int)] 28)).alloc (.cells #[.int .u64 (b.1 : Int), .int .u64 (b.2 : Int)] 28)) 28 #[.int .u64 0, .int .u64 0]
  have b2 := b1.alloc b1.size zeroL
  have Y0 := (X0.alloc (.cells #[.int .u64 (b.1 : Int), .int .u64 (b.2 : Int)] 28)).alloc zeroL
  simp only [World.size_alloc] at X1 X2
  have Y1 := X1.alloc zeroL
  obtain ⟨x, hx⟩ : ∃ x, Garb.nadd a b = x := ⟨_, rfl⟩
  have e1 : bits .xor .u64 (a.1 : Int) (b.1 : Int) = (x.1 : Int) := by rw [Ae.bits_xor _ _ ha.1 hb.1, ← hx]; rfl
  have e2 : bits .xor .u64 (a.2 : Int) (b.2 : Int) = (x.2 : Int) := by rw [Ae.bits_xor _ _ ha.2 hb.2, ← hx]; rfl
  have q0 := Y0.cell 0 (v := .int .u64 (a.1 : Int)) rfl
  have q1 := Y0.cell 1 (v := .int .u64 (a.2 : Int)) rfl
  have q2 := Y1.cell 0 (v := .int .u64 (b.1 : Int)) rfl
  have q3 := Y1.cell 1 (v := .int .u64 (b.2 : Int)) rfl
  have q4 := X2.cell 0 (v := .int .u64 0) rfl
  have q5 := X2.cell 1 (v := .int .u64 0) rfl
  have qf := X2.frozen
  have H := Lib.hid (And.intro b2 (show LbB _ (w.heap.size + 1 + 1) (0, 0) from X2))
  rw [hx]
  clear X0 X1 X2 b0 b1 b2 Y0 Y1 hx ha hb
  obtain ⟨w3, hw3⟩ : ∃ x, ((w.alloc (.cells #[.int .u64 (a.1 : Int), .int .u64 (a.2 : Int)] 28)).alloc (.cells #[.int .u64 (b.1 : Int), .int .u64 (b.2 : Int)] 28)) = x := ⟨_, rfl⟩
  have X4 := Blk.new w3 28 #[.int .u64 (x.1 : Int), .int .u64 (x.2 : Int)]
  have b3 : Below w.heap.size w w3 := by rw [← hw3]; exact ((Below.refl _ w).alloc (Nat.le_refl _) _).alloc (by simp) _
  have hs3 : w3.heap.size = w.heap.size + 1 + 1 := by rw [← hw3]; simp
  rw [hs3] at X4
  have H4 := Lib.hid (And.intro (show LbB _ (w.heap.size + 1 + 1) x from X4) (b3.alloc b3.size (.cells #[.int .u64 (x.1 : Int), .int .u64 (x.2 : Int)] 28)))
  rw [← hw3] at H4
  clear X4 b3 hs3 hw3
  go_enter Tryd.func23, Tryd.ntmps23
  go_wp2
  exact bodyPost_ret (v := labL x) (res_labL rfl _ _ _ rfl H4.out.1) rfl ⟨rfl, H4.out.2⟩
/-- A colour as a number. -/
def colN (a : Lab) : Nat := if Garb.ncol a then 1 else 0
theorem colN_mod (a : Lab) : a.1 % 2 = colN a := by
  unfold colN
  rw [Garb.ncol_mod]
  rcases (show a.1 % 2 = 0 ∨ a.1 % 2 = 1 by omega) with e | e <;> simp [e]
set_option maxHeartbeats 400000 in
theorem rcolour_any (a : Lab) (w : World) : Calls Tryd.prog 49 #[labL a] w fun e w' => e = .returned (.int .u64 (colN a : Int)) ∧ Below w.heap.size w w' := by
  have e1 : Int.tmod (a.1 : Int) 2 = (colN a : Int) := by rw [← colN_mod, Int.tmod_eq_emod_of_nonneg (by omega)]; omega
  have e2 : IntKind.u64.wrap (colN a : Int) = (colN a : Int) := by rw [u64w]; unfold colN; split <;> rfl
  have HB := Lib.hid ((Below.refl w.heap.size w).alloc (Nat.le_refl _) (.cells #[.int .u64 (a.1 : Int), .int .u64 (a.2 : Int)] 28))
  go_enter Tryd.func49, Tryd.ntmps49
  go_wp2
  go_ret
  exact ⟨rfl, HB.out⟩
set_option maxHeartbeats 1000000 in
set_option maxRecDepth 100000 in
theorem rplus_any (z d a : Lab) (w : World) (hz : Garb.Wd z) (hd : Garb.Wd d) : Calls Tryd.prog 48 #[labL z, .int .u64 (colN a : Int), labL d] w fun e w' => e = .returned (labL (Garb.plus Garb.nadd z (Garb.ncol a) d)) ∧ Below w.heap.size w w' := by
  have X1 := Blk.new w 28 #[.int .u64 (z.1 : Int), .int .u64 (z.2 : Int)]
  have b1 := (Below.refl w.heap.size w).alloc (Nat.le_refl _) (.cells #[.int .u64 (z.1 : Int), .int .u64 (z.2 : Int)] 28)
  have X2 := Blk.new (w.alloc (.cells #[.int .u64 (z.1 : Int), .int .u64 (z.2 : Int)] 28)) 28 #[.int .u64 (d.1 : Int), .int .u64 (d.2 : Int)]
  have b2 := b1.alloc b1.size (.cells #[.int .u64 (d.1 : Int), .int .u64 (d.2 : Int)] 28)
  have X3 := Blk.new ((w.alloc (.cells #[.int .u64 (z.1 : Int), .int .u64 (z.2 : Int)] 28)).alloc (.cells #[.int .u64 (d.1 : Int), .int .u64 (d.2 : Int)] 28)) 28 #[.int .u64 0, .int .u64 0]
  have b3 := b2.alloc b2.size zeroL
  have X4 := Blk.new ((w.alloc (.cells #[.int .u64 (z.1 : Int), .int .u64 (z.2 : Int)] 28)).alloc (.cells #[.int .u64 (d.1 : Int), .int .u64 (d.2 : Int)] 28)) 28 #[.int .u64 (z.1 : Int), .int .u64 (z.2 : Int)]
  simp only [World.size_alloc] at X2 X3 X4
  have HZ := Lib.hid (And.intro X4 (b2.alloc b2.size (.cells #[.int .u64 (z.1 : Int), .int .u64 (z.2 : Int)] 28)))
  have Y1 := (X1.alloc (.cells #[.int .u64 (d.1 : Int), .int .u64 (d.2 : Int)] 28)).alloc zeroL
  have Y2 := X2.alloc zeroL
  have H3 := Lib.hid (And.intro b3 (show LbB _ (w.heap.size + 1 + 1) (0, 0) from X3))
  have y10 := Y1.cell 0 (v := .int .u64 (z.1 : Int)) rfl
  have y11 := Y1.cell 1 (v := .int .u64 (z.2 : Int)) rfl
  have y20 := Y2.cell 0 (v := .int .u64 (d.1 : Int)) rfl
  have y21 := Y2.cell 1 (v := .int .u64 (d.2 : Int)) rfl
  have y30 := X3.cell 0 (v := .int .u64 0) rfl
  have y31 := X3.cell 1 (v := .int .u64 0) rfl
  have yf := X3.frozen
  have HW := Lib.hid (And.intro hz hd)
  clear X1 X2 X3 X4 b1 b2 b3 Y1 Y2 hz hd
  unfold colN
  cases Garb.ncol a with
  | false =>
    show Calls Tryd.prog 48 #[labL z, .int .u64 0, labL d] w _
    go_enter Tryd.func48, Tryd.ntmps48
    go_wp2
    exact bodyPost_ret (v := labL z) (res_labL rfl _ _ _ rfl HZ.out.1) rfl ⟨rfl, HZ.out.2⟩
  | true =>
    show Calls Tryd.prog 48 #[labL z, .int .u64 1, labL d] w _
    go_enter Tryd.func48, Tryd.ntmps48
    go_wp2_with fail
    refine (rxor_lab z d _ HW.out.1 HW.out.2).mono ?_
    rintro e w1 ⟨rfl, hb1⟩
    have HX : LbB w1 (w.heap.size + 1 + 1) (0, 0) := Blk.below H3.out.2 hb1 (Blk.lt H3.out.2)
    have q0 := Blk.cell HX 0 rfl
    have q1 := Blk.cell HX 1 rfl
    have qf := Blk.frozen HX
    have HF := Lib.hid (And.intro HX (H3.out.1.trans (hb1.mono H3.out.1.size)))
    clear HX hb1
    go_wp2
    exact bodyPost_ret (v := labL (Garb.nadd z d)) (res_labL rfl _ _ _ rfl (LbB.st HF.out.1 (Garb.nadd z d))) rfl ⟨rfl, stL_below HF.out.2 (by omega) _⟩
theorem shl_bit (k : Nat) (hk : k < 64) : 2 ^ k < 2 ^ 64 := Nat.pow_lt_pow_right (by omega) hk
set_option maxHeartbeats 2000000 in
set_option maxRecDepth 100000 in
theorem colours_any (w : World) (A : Option Addr) (n c : Nat) (L : Nat → Lab) (hA : AtV w A (n * 2) (lv L)) :
    Calls Tryd.prog 24 #[.slice A n c] w fun e w' => e = .returned (.int .u64 (wordN (fun i => Garb.ncol (L i)) (min n 64) : Int)) ∧ w = w' := by
  obtain ⟨M, hM⟩ : ∃ M, min n 64 = M := ⟨_, rfl⟩
  obtain ⟨f, hf⟩ : ∃ f : Nat → Bool, (fun i => Garb.ncol (L i)) = f := ⟨_, rfl⟩
  have m1 : (if (64 : Int) < (n : Int) then (64 : Int) else (n : Int)) = (M : Int) := by split <;> omega
  have m2 : (if 64 < n then (64 : Int) else (n : Int)) = (M : Int) := by split <;> omega
  have HM := Lib.hid (show M ≤ n ∧ M ≤ 64 by omega)
  rw [hM, hf]
  have HA := Lib.hid hA
  have Hf := Lib.hid hf
  clear hM hA hf
  go_enter Tryd.func24, Tryd.ntmps24
  go_wp2
  clear m1 m2
  go_loopw [3, 8] (fun x i wr => ∃ k : Nat, k ≤ M ∧ x = .int .u64 (wordN f k : Int) ∧ i = .int .i64 k ∧ Hid (w = wr)) (fun _ i _ => M - (intOf i).toNat)
  case atStart => exact ⟨0, Nat.zero_le _, rfl, rfl, rfl⟩
  case round =>
    obtain ⟨k, hk, rfl, rfl, HI⟩ := hrel
    obtain rfl := HI.out
    by_cases hlt : k < M
    · obtain ⟨ad, rfl, ae, hae, ca, cb, hblk⟩ := HA.out.lab k (by have := HM.out; omega)
      have lt1 : (k : Int) < (M : Int) := by omega
      have lt2 : (k : Int) < (n : Int) := by have := HM.out; omega
      have lt0 : (0 : Int) ≤ (k : Int) := by omega
      have e1 : IntKind.i64.wrap ((k : Int) + 1) = (k : Int) + 1 := i64_nat _ (by omega) (by have := HM.out; omega)
      have hp : 2 ^ k < 2 ^ 64 := shl_bit k (by have := HM.out; omega)
      have ep : ((2 ^ k : Nat) : Int) = (2 : Int) ^ k := by push_cast; rfl
      have hmin : min k 64 = k := by have := HM.out; omega
      have e4 := or_next (wordN f k) k (wordN_lt f k) (by have := HM.out; omega)
      have hcol : bits .and .u64 ((L k).1 : Int) 1 = (colN (L k) : Int) := by rw [Ae.and_one, ← colN_mod]; omega
      obtain ⟨p, hpp⟩ : ∃ p, 2 ^ k = p := ⟨_, rfl⟩
      have hfk : f k = Garb.ncol (L k) := by rw [← Hf.out]
      have HD := Lib.hid (show wordN f (k + 1) = if f k then wordN f k + p else wordN f k by rw [← hpp]; rfl)
      have hwl := wordN_lt f k
      rw [hpp] at e4 hp ep hwl
      have HLt := Lib.hid hlt
      unfold colN at hcol
      rw [← hfk] at hcol
      clear hlt hblk hfk
      cases hf : f k with
      | false =>
        rw [hf] at hcol
        have hcol : bits .and .u64 ((L k).1 : Int) 1 = 0 := hcol
        have e2 : IntKind.u64.wrap (0 * (2 : Int) ^ k) = 0 := by rw [Int.zero_mul]; rfl
        have e3 : bits .or .u64 (wordN f k : Int) 0 = (wordN f k : Int) := by
          have h1 := Ae.bits_or (wordN f k) 0 (by omega) (by omega)
          rw [Nat.or_zero] at h1
          exact h1
        have HE := Lib.hid (show wordN f (k + 1) = wordN f k by rw [HD.out, hf]; rfl)
        clear hf hp ep hwl hpp e4
        go_wp2
        go_roundw
        case rel => exact ⟨k + 1, by have := HLt.out; omega, by rw [HE.out], by go_num, Lib.hid trivial⟩
        case measure => simp [intOf]; have := HLt.out; omega
      | true =>
        rw [hf] at hcol
        have hcol : bits .and .u64 ((L k).1 : Int) 1 = 1 := hcol
        have e2 : IntKind.u64.wrap (1 * (2 : Int) ^ k) = (p : Int) := by rw [Int.one_mul, ← ep, u64w]; omega
        have e5 : IntKind.u64.wrap ((2 : Int) ^ k) = (p : Int) := by rw [← ep, u64w]; omega
        have e6 : IntKind.u64.wrap ((2 : Int) ^ (min k 64)) = (p : Int) := by rw [hmin]; exact e5
        have HE := Lib.hid (show wordN f (k + 1) = wordN f k + p by rw [HD.out, hf]; rfl)
        clear hf hp ep hwl hpp hmin
        go_wp2
        go_roundw
        case rel => exact ⟨k + 1, by have := HLt.out; omega, by rw [HE.out, Int.natCast_add], by go_num, Lib.hid trivial⟩
        case measure => simp [intOf]; have := HLt.out; omega
    · obtain rfl : k = M := by omega
      have lt1 : ¬ (k : Int) < (k : Int) := by omega
      clear hlt hk
      go_wp2
      go_ret
      exact ⟨rfl, rfl⟩
end Go.Proofs.YtamejhhjfnfalaaDoor
