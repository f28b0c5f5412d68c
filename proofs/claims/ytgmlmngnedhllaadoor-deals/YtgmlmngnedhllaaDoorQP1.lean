/- Piles in memory; the contracts of pile's take. -/
import Derived.Test.YtgmlmngnedhllaaDoorQO
import Derived.Laws.Slices
namespace Go.Proofs.YtgmlmngnedhllaaDoor
open Go.RowKit

/-- A pile of n things, its cells in block b. -/
def PilT (w : World) (b : Nat) (v : Value) (n : Nat) (y : Nat → Nat → Int) : Prop :=
  ∃ o cap cur, v = .slice (some ⟨b, o, none⟩) n cap ∧ Blk w b 48 cur ∧ n ≤ cap ∧ cap ≤ maxLen ∧ o + cap * 3 ≤ cur.size ∧ ∀ i, i < n → cur[o + i * 3 + 0]? = some (.int .u64 (y i 0)) ∧ cur[o + i * 3 + 1]? = some (.int .u64 (y i 1)) ∧ cur[o + i * 3 + 2]? = some (.int .u64 (y i 2))
section
variable {w w' : World} {b : Nat} {v : Value} {n : Nat} {y : Nat → Nat → Int}
theorem PilT.heap (h : PilT w b v n y) (hb : w'.heap[b]? = w.heap[b]?) : PilT w' b v n y := by
  obtain ⟨o, cap, cur, h1, h2, h3⟩ := h
  exact ⟨o, cap, cur, h1, hb.trans h2, h3⟩
theorem PilT.lt (h : PilT w b v n y) : b < w.heap.size := by
  obtain ⟨o, cap, cur, h1, h2, h3⟩ := h
  exact h2.lt
theorem PilT.chg {S : Nat → Prop} (h : PilT w b v n y) (hc : Chg S w w') (hs : ¬ S b) : PilT w' b v n y := h.heap (hc.block b h.lt hs)
theorem PilT.blk (h : PilT w b v n y) : ∃ cur, Blk w b 48 cur := by
  obtain ⟨o, cap, cur, h1, h2, h3⟩ := h
  exact ⟨cur, h2⟩
theorem PilT.slice (h : PilT w b v n y) : ∃ A cap, v = .slice A n cap := by
  obtain ⟨o, cap, cur, h1, h2, h3⟩ := h
  exact ⟨_, _, h1⟩
end
theorem elemT : Tryd.prog.elem 34 = 48 := by kernel_rfl
theorem undT : Tryd.prog.underlying 34 = some (.slice (Tryd.prog.elem 34)) := by rw [elemT]; exact Tryd.underlying34
theorem sizeT (w : World) : (sizeOf (Tryd.prog.elem 34)).run Tryd.prog w = .ok 3 w := by
  rw [elemT]
  have h : (Tryd.prog.info? 48).map (·.size) = some 3 := by kernel_rfl
  cases hq : Tryd.prog.info? 48 with
  | none => simp [hq] at h
  | some i =>
    rw [hq] at h
    simp at h
    simp [sizeOf, typeInfo, hq, h]
def tlT (b o cap : Nat) : Addr := if cap = 1 then ⟨b, o, none⟩ else ⟨b, o + 3, none⟩
theorem run_tailT (w : World) (b o n cap : Nat) :
    (Instr.slice 34 (.slice (some ⟨b, o, none⟩) (n + 1) cap) (some (.int .i64 1)) none none).run Tryd.prog w = .ok (.slice (some (tlT b o cap)) n (cap - 1)) w := by
  have hr := run_slice_l w 34 (some ⟨b, o, none⟩) (n + 1) cap undT .i64 1 (by omega) (by omega)
  rw [sizeT] at hr
  rw [hr]
  unfold tlT
  by_cases h : cap = 1
  · subst h
    simp [Result.andThen, sliced]
  · simp [Result.andThen, sliced, h, Addr.add]
/-- What is left behind a take. -/
theorem PilT.cut {w' : World} {b o cap n : Nat} {cur cur' : Array Value} {y : Nat → Nat → Int} (h3 : n + 1 ≤ cap) (h4 : cap ≤ maxLen) (h5 : o + cap * 3 ≤ cur.size) (h6 : ∀ i, i < n + 1 → cur[o + i * 3 + 0]? = some (.int .u64 (y i 0)) ∧ cur[o + i * 3 + 1]? = some (.int .u64 (y i 1)) ∧ cur[o + i * 3 + 2]? = some (.int .u64 (y i 2)))
    (hw : Blk w' b 48 cur') (hs : cur'.size = cur.size) (he : ∀ q, o + 3 ≤ q → cur'[q]? = cur[q]?) : PilT w' b (.slice (some (tlT b o cap)) n (cap - 1)) n (fun i => y (i + 1)) := by
  unfold tlT
  by_cases h : cap = 1
  · subst h
    obtain rfl : n = 0 := by omega
    exact ⟨o, 0, cur', by simp, hw, Nat.le_refl _, Nat.zero_le _, by omega, fun i hi => absurd hi (by omega)⟩
  · refine ⟨o + 3, cap - 1, cur', by rw [if_neg h], hw, by omega, by omega, by omega, fun i hi => ?_⟩
    have := h6 (i + 1) (by omega)
    refine ⟨?_, ?_, ?_⟩
    · rw [he _ (by omega), show o + 3 + i * 3 + 0 = o + (i + 1) * 3 + 0 by omega]; exact this.1
    · rw [he _ (by omega), show o + 3 + i * 3 + 1 = o + (i + 1) * 3 + 1 by omega]; exact this.2.1
    · rw [he _ (by omega), show o + 3 + i * 3 + 2 = o + (i + 1) * 3 + 2 by omega]; exact this.2.2
set_option maxHeartbeats 4000000 in
set_option maxRecDepth 100000 in
theorem takeT_some (w : World) (g j b : Nat) (cs : Array Value) (v : Value) (n : Nat) (y : Nat → Nat → Int) (name : ByteArray) (hs : Blk w g 81 cs) (hj : cs[j]? = some v) (hp : PilT w b v (n + 1) y) :
    Calls Tryd.prog 30 #[.pointer (some ⟨g, j, none⟩), .string name] w fun e w' => e = .returned (.tuple #[.agg #[.int .u64 (y 0 0), .int .u64 (y 0 1), .int .u64 (y 0 2)], .nilIface]) ∧ ∃ v', Blk w' g 81 (cs.setIfInBounds j v') ∧ PilT w' b v' n (fun i => y (i + 1)) ∧ Chg (fun q => q = g ∨ q = b) w w' := by
  obtain ⟨o, cap, cur, rfl, hb, h3, h4, h5, h6⟩ := hp
  have hgb : g ≠ b := fun e => by
    subst e
    have := hs.symm.trans hb
    injection this with this
    injection this with _ e2
    exact absurd e2 (by decide)
  have hjs : j < cs.size := (Array.getElem?_eq_some_iff.1 hj).1
  have e0 := h6 0 (by omega)
  simp only [Nat.zero_mul, Nat.add_zero] at e0
  have hlg := hs.lt
  have hlb := hb.lt
  have cg : ((w.alloc (.cells #[.int .u64 0, .int .u64 0, .int .u64 0] 48)).alloc (.cells #[.int .u64 0, .int .u64 0, .int .u64 0] 48)).cell? ⟨g, j, none⟩ = some (.slice (some ⟨b, o, none⟩) (n + 1) cap) := ((hs.alloc _).alloc _).cell j hj
  have cb0 : ((w.alloc (.cells #[.int .u64 0, .int .u64 0, .int .u64 0] 48)).alloc (.cells #[.int .u64 0, .int .u64 0, .int .u64 0] 48)).cell? ⟨b, o, none⟩ = some (.int .u64 (y 0 0)) := ((hb.alloc _).alloc _).cell (o) e0.1
  have cb1 : ((w.alloc (.cells #[.int .u64 0, .int .u64 0, .int .u64 0] 48)).alloc (.cells #[.int .u64 0, .int .u64 0, .int .u64 0] 48)).cell? ⟨b, o + 1, none⟩ = some (.int .u64 (y 0 1)) := ((hb.alloc _).alloc _).cell (o + 1) e0.2.1
  have cb2 : ((w.alloc (.cells #[.int .u64 0, .int .u64 0, .int .u64 0] 48)).alloc (.cells #[.int .u64 0, .int .u64 0, .int .u64 0] 48)).cell? ⟨b, o + 2, none⟩ = some (.int .u64 (y 0 2)) := ((hb.alloc _).alloc _).cell (o + 2) e0.2.2
  have l1 : (0 : Int) < (n : Int) + 1 := by omega
  have l2 : ¬ ((n : Int) + 1 = 0) := by omega
  have hR : Blk (((w.alloc (.cells #[.int .u64 0, .int .u64 0, .int .u64 0] 48)).alloc (.cells #[.int .u64 0, .int .u64 0, .int .u64 0] 48)).alloc (.cells #[.int .u64 (y 0 0), .int .u64 (y 0 1), .int .u64 (y 0 2)] 48)) w.heap.size 48 #[.int .u64 0, .int .u64 0, .int .u64 0] := ((Blk.new w _ _).alloc _).alloc _
  have hN : Blk (((w.alloc (.cells #[.int .u64 0, .int .u64 0, .int .u64 0] 48)).alloc (.cells #[.int .u64 0, .int .u64 0, .int .u64 0] 48)).alloc (.cells #[.int .u64 (y 0 0), .int .u64 (y 0 1), .int .u64 (y 0 2)] 48)) (w.heap.size + 1) 48 #[.int .u64 0, .int .u64 0, .int .u64 0] := by
    have := (Blk.new (w.alloc (.cells #[.int .u64 0, .int .u64 0, .int .u64 0] 48)) 48 #[.int .u64 0, .int .u64 0, .int .u64 0]).alloc (.cells #[.int .u64 (y 0 0), .int .u64 (y 0 1), .int .u64 (y 0 2)] 48)
    rwa [World.size_alloc] at this
  have hX : Blk (((w.alloc (.cells #[.int .u64 0, .int .u64 0, .int .u64 0] 48)).alloc (.cells #[.int .u64 0, .int .u64 0, .int .u64 0] 48)).alloc (.cells #[.int .u64 (y 0 0), .int .u64 (y 0 1), .int .u64 (y 0 2)] 48)) (w.heap.size + 1 + 1) 48 #[.int .u64 (y 0 0), .int .u64 (y 0 1), .int .u64 (y 0 2)] := by
    have := Blk.new ((w.alloc (.cells #[.int .u64 0, .int .u64 0, .int .u64 0] 48)).alloc (.cells #[.int .u64 0, .int .u64 0, .int .u64 0] 48)) 48 #[.int .u64 (y 0 0), .int .u64 (y 0 1), .int .u64 (y 0 2)]
    rwa [World.size_alloc, World.size_alloc] at this
  have hC : Chg (fun q => q = g ∨ q = b) w (((w.alloc (.cells #[.int .u64 0, .int .u64 0, .int .u64 0] 48)).alloc (.cells #[.int .u64 0, .int .u64 0, .int .u64 0] 48)).alloc (.cells #[.int .u64 (y 0 0), .int .u64 (y 0 1), .int .u64 (y 0 2)] 48)) := (((Chg.refl _ w).alloc _).alloc _).alloc _
  have HD := Lib.hid (And.intro hR (And.intro hN (And.intro hX (And.intro (((hs.alloc _).alloc _).alloc _ : Blk (((w.alloc (.cells #[.int .u64 0, .int .u64 0, .int .u64 0] 48)).alloc (.cells #[.int .u64 0, .int .u64 0, .int .u64 0] 48)).alloc (.cells #[.int .u64 (y 0 0), .int .u64 (y 0 1), .int .u64 (y 0 2)] 48)) g _ cs) (And.intro (((hb.alloc _).alloc _).alloc _ : Blk (((w.alloc (.cells #[.int .u64 0, .int .u64 0, .int .u64 0] 48)).alloc (.cells #[.int .u64 0, .int .u64 0, .int .u64 0] 48)).alloc (.cells #[.int .u64 (y 0 0), .int .u64 (y 0 1), .int .u64 (y 0 2)] 48)) b _ cur) hC)))))
  have HP := Lib.hid (And.intro h3 (And.intro h4 (And.intro h5 (And.intro h6 (And.intro hj (And.intro hjs hgb))))))
  have HE := Lib.hid e0
  clear hR hN hX hC hs hb h3 h4 h5 h6 e0 hj hjs
  go_enter Tryd.func30, Tryd.ntmps30
  go_wp2
  clear cg cb0 cb1 cb2 hgb
  generalize (((w.alloc (.cells #[.int .u64 0, .int .u64 0, .int .u64 0] 48)).alloc (.cells #[.int .u64 0, .int .u64 0, .int .u64 0] 48)).alloc (.cells #[.int .u64 (y 0 0), .int .u64 (y 0 1), .int .u64 (y 0 2)] 48)) = w0 at *
  have cg := HD.out.2.2.2.1.cell j HP.out.2.2.2.2.1
  have n0 := HD.out.2.1.cell 0 rfl
  have n1 := HD.out.2.1.cell 1 rfl
  have n2 := HD.out.2.1.cell 2 rfl
  go_still_tail 6, (by kernel_rfl)
  change wpList _ _ _ _ _ (World.drew _)
  have H1 := Lib.hid (And.intro HD.out.1.drew (And.intro HD.out.2.1.drew (And.intro HD.out.2.2.1.drew (And.intro HD.out.2.2.2.1.drew (And.intro HD.out.2.2.2.2.1.drew HD.out.2.2.2.2.2.drew)))))
  clear HD cg n0 n1 n2
  generalize w0.drew = w1 at *
  have e0 := HE.out
  have cb0 : w1.cell? ⟨b, o, none⟩ = some (.int .u64 (y 0 0)) := H1.out.2.2.2.2.1.cell (o) e0.1
  have cb1 : w1.cell? ⟨b, o + 1, none⟩ = some (.int .u64 (y 0 1)) := H1.out.2.2.2.2.1.cell (o + 1) e0.2.1
  have cb2 : w1.cell? ⟨b, o + 2, none⟩ = some (.int .u64 (y 0 2)) := H1.out.2.2.2.2.1.cell (o + 2) e0.2.2
  clear e0
  have cg := H1.out.2.2.2.1.cell j HP.out.2.2.2.2.1
  have zg := H1.out.2.2.2.1.frozen j
  have zb := H1.out.2.2.2.2.1.frozen
  have hgb := HP.out.2.2.2.2.2.2
  have hbg : b ≠ g := fun e => hgb e.symm
  have hsl := fun wx => run_tailT wx b o n cap
  have H3 := Lib.hid (And.intro ((((H1.out.1.far (p := ⟨b, o, none⟩) (by show w.heap.size ≠ b; omega) (.int .u64 0)).far (p := ⟨b, o + 1, none⟩) (by show w.heap.size ≠ b; omega) (.int .u64 0)).far (p := ⟨b, o + 2, none⟩) (by show w.heap.size ≠ b; omega) (.int .u64 0)).far (p := ⟨g, j, none⟩) (by show w.heap.size ≠ g; omega) (.slice (some (tlT b o cap)) n (cap - 1))) (And.intro ((((H1.out.2.2.1.far (p := ⟨b, o, none⟩) (by show w.heap.size + 1 + 1 ≠ b; omega) (.int .u64 0)).far (p := ⟨b, o + 1, none⟩) (by show w.heap.size + 1 + 1 ≠ b; omega) (.int .u64 0)).far (p := ⟨b, o + 2, none⟩) (by show w.heap.size + 1 + 1 ≠ b; omega) (.int .u64 0)).far (p := ⟨g, j, none⟩) (by show w.heap.size + 1 + 1 ≠ g; omega) (.slice (some (tlT b o cap)) n (cap - 1))) (And.intro ((((H1.out.2.2.2.1.far (p := ⟨b, o, none⟩) (hgb) (.int .u64 0)).far (p := ⟨b, o + 1, none⟩) (hgb) (.int .u64 0)).far (p := ⟨b, o + 2, none⟩) (hgb) (.int .u64 0)).set j (.slice (some (tlT b o cap)) n (cap - 1))) (And.intro ((((H1.out.2.2.2.2.1.set (o) (.int .u64 0)).set (o + 1) (.int .u64 0)).set (o + 2) (.int .u64 0)).far (p := ⟨g, j, none⟩) hbg (.slice (some (tlT b o cap)) n (cap - 1))) ((((H1.out.2.2.2.2.2.set (p := ⟨b, o, none⟩) (.inr (.inr rfl)) (.int .u64 0)).set (p := ⟨b, o + 1, none⟩) (.inr (.inr rfl)) (.int .u64 0)).set (p := ⟨b, o + 2, none⟩) (.inr (.inr rfl)) (.int .u64 0)).set (p := ⟨g, j, none⟩) (.inr (.inl rfl)) (.slice (some (tlT b o cap)) n (cap - 1)))))))
  have x0 := H3.out.2.1.cell 0 rfl
  have r0 := H3.out.1.cell 0 rfl
  have x1 := H3.out.2.1.cell 1 rfl
  have r1 := H3.out.1.cell 1 rfl
  have x2 := H3.out.2.1.cell 2 rfl
  have r2 := H3.out.1.cell 2 rfl
  have zr := H3.out.1.frozen
  go_wp2
  have hR4 := (((H3.out.1.set 0 (.int .u64 (y 0 0))).set 1 (.int .u64 (y 0 1))).set 2 (.int .u64 (y 0 2)))
  have p0 := hR4.cell 0 rfl
  have p1 := hR4.cell 1 rfl
  have p2 := hR4.cell 2 rfl
  refine bodyPost_ret (v := .tuple #[.agg #[.int .u64 (y 0 0), .int .u64 (y 0 1), .int .u64 (y 0 2)], .nilIface]) (by simp [results, Tryd.results30, go_sem, p0, p1, p2]) rfl ⟨rfl, .slice (some (tlT b o cap)) n (cap - 1), (((H3.out.2.2.1.far (p := ⟨w.heap.size, 0, none⟩) (by show g ≠ w.heap.size; omega) (.int .u64 (y 0 0))).far (p := ⟨w.heap.size, 1, none⟩) (by show g ≠ w.heap.size; omega) (.int .u64 (y 0 1))).far (p := ⟨w.heap.size, 2, none⟩) (by show g ≠ w.heap.size; omega) (.int .u64 (y 0 2))), ?_, (((H3.out.2.2.2.2.set (p := ⟨w.heap.size, 0, none⟩) (.inl (Nat.le_refl _)) (.int .u64 (y 0 0))).set (p := ⟨w.heap.size, 1, none⟩) (.inl (Nat.le_refl _)) (.int .u64 (y 0 1))).set (p := ⟨w.heap.size, 2, none⟩) (.inl (Nat.le_refl _)) (.int .u64 (y 0 2)))⟩
  refine PilT.cut HP.out.1 HP.out.2.1 HP.out.2.2.1 HP.out.2.2.2.1 ((((H3.out.2.2.2.1.far (p := ⟨w.heap.size, 0, none⟩) (by show b ≠ w.heap.size; omega) (.int .u64 (y 0 0))).far (p := ⟨w.heap.size, 1, none⟩) (by show b ≠ w.heap.size; omega) (.int .u64 (y 0 1))).far (p := ⟨w.heap.size, 2, none⟩) (by show b ≠ w.heap.size; omega) (.int .u64 (y 0 2)))) (by simp) (fun q hq => ?_)
  simp only [Array.getElem?_setIfInBounds]
  rw [if_neg (by omega), if_neg (by omega), if_neg (by omega)]
set_option maxHeartbeats 4000000 in
set_option maxRecDepth 100000 in
theorem takeT_none (w : World) (g j : Nat) (cs : Array Value) (A : Option Addr) (cap : Nat) (name : ByteArray) (hs : Blk w g 81 cs) (hj : cs[j]? = some (.slice A 0 cap)) (hh : Handle w) :
    Calls Tryd.prog 30 #[.pointer (some ⟨g, j, none⟩), .string name] w fun e w' => e = .returned (.tuple #[.agg #[.int .u64 0, .int .u64 0, .int .u64 0], chain [(name, 0)] 80]) ∧ Below w.heap.size w w' := by
  have cg : ((w.alloc (.cells #[.int .u64 0, .int .u64 0, .int .u64 0] 48)).alloc (.cells #[.int .u64 0, .int .u64 0, .int .u64 0] 48)).cell? ⟨g, j, none⟩ = some (.slice A 0 cap) := ((hs.alloc _).alloc _).cell j hj
  have hR : Blk ((w.alloc (.cells #[.int .u64 0, .int .u64 0, .int .u64 0] 48)).alloc (.cells #[.int .u64 0, .int .u64 0, .int .u64 0] 48)) w.heap.size 48 #[.int .u64 0, .int .u64 0, .int .u64 0] := (Blk.new w _ _).alloc _
  have hN : Blk ((w.alloc (.cells #[.int .u64 0, .int .u64 0, .int .u64 0] 48)).alloc (.cells #[.int .u64 0, .int .u64 0, .int .u64 0] 48)) (w.heap.size + 1) 48 #[.int .u64 0, .int .u64 0, .int .u64 0] := by
    have := Blk.new (w.alloc (.cells #[.int .u64 0, .int .u64 0, .int .u64 0] 48)) 48 #[.int .u64 0, .int .u64 0, .int .u64 0]
    rwa [World.size_alloc] at this
  have hb : Below w.heap.size w ((w.alloc (.cells #[.int .u64 0, .int .u64 0, .int .u64 0] 48)).alloc (.cells #[.int .u64 0, .int .u64 0, .int .u64 0] 48)) := ((Below.refl _ w).alloc (Nat.le_refl _) _).alloc (by simp) _
  have HD := Lib.hid (And.intro hR.drew (And.intro hN.drew (And.intro hb.drew (hh.below hb.drew hh.pos))))
  clear hR hN hb hs hj hh
  go_enter Tryd.func30, Tryd.ntmps30
  go_wp2
  clear cg
  generalize ((w.alloc (.cells #[.int .u64 0, .int .u64 0, .int .u64 0] 48)).alloc (.cells #[.int .u64 0, .int .u64 0, .int .u64 0] 48)) = w0 at *
  refine region_z 5 (fun w' => w'.cell? ⟨w.heap.size + 1, 0, none⟩ = some (.int .u64 0) ∧ w'.cell? ⟨w.heap.size + 1, 1, none⟩ = some (.int .u64 0) ∧ w'.cell? ⟨w.heap.size + 1, 2, none⟩ = some (.int .u64 0)) (by kernel_rfl) ?_
  generalize w0.drew = w1 at *
  have hS : (fun w' : World => w'.cell? ⟨w.heap.size + 1, 0, none⟩ = some (.int .u64 0) ∧ w'.cell? ⟨w.heap.size + 1, 1, none⟩ = some (.int .u64 0) ∧ w'.cell? ⟨w.heap.size + 1, 2, none⟩ = some (.int .u64 0)) w1 := ⟨HD.out.2.1.cell 0 rfl, HD.out.2.1.cell 1 rfl, HD.out.2.1.cell 2 rfl⟩
  refine zt [5] (i := 0) rfl (.agg #[.int .u64 0, .int .u64 0, .int .u64 0]) (by kernel_rfl) (by kernel_rfl) (by kernel_rfl) (by kernel_rfl) (fun _ _ _ h => h) hS (fun w' d => by obtain ⟨d0, d1, d2⟩ := d; go_simp) ?_
  try simp only [Act.put, List.setIfInBounds_toArray, List.set_cons_zero, List.set_cons_succ]
  refine zt [5] (i := 1) rfl (.iface 41 (.int .i64 80)) (by kernel_rfl) (by kernel_rfl) (by kernel_rfl) (by kernel_rfl) (fun _ _ _ h => h) hS (fun w' d => by go_simp) ?_
  try simp only [Act.put, List.setIfInBounds_toArray, List.set_cons_zero, List.set_cons_succ]
  refine zt [5] (i := 2) rfl (.string name) (by kernel_rfl) (by kernel_rfl) (by kernel_rfl) (by kernel_rfl) (fun _ _ _ h => h) hS (fun w' d => by go_simp) ?_
  try simp only [Act.put, List.setIfInBounds_toArray, List.set_cons_zero, List.set_cons_succ]
  refine z1 (i := 3) (by kernel_rfl) rfl (fun K hK => ?_)
  go_simp
  refine (wrap_bare 80 0 name w1 HD.out.2.2.2).mono ?_
  rintro e w2 ⟨rfl, hb2⟩
  have H2 := Lib.hid (And.intro (HD.out.1.below hb2) (And.intro (HD.out.2.1.below hb2) (HD.out.2.2.1.trans (hb2.mono HD.out.2.2.1.size))))
  obtain ⟨T0, v0, hT⟩ := chain_iface [(name, 0)] 80
  have HT := Lib.hid hT
  rw [hT]
  clear hb2 HD hS hT
  refine hK.out _ _ (.inr ⟨H2.out.2.1.cell 0 rfl, H2.out.2.1.cell 1 rfl, H2.out.2.1.cell 2 rfl⟩) ?_
  clear hK K
  try simp only [Act.put, List.setIfInBounds_toArray, List.set_cons_zero, List.set_cons_succ]
  have b0 := H2.out.1.cell 0 rfl
  have b1 := H2.out.1.cell 1 rfl
  have b2 := H2.out.1.cell 2 rfl
  have zb := H2.out.1.frozen
  refine z1 (i := 4) (by kernel_rfl) rfl (fun K hK => ?_)
  go_simp
  have H3 := Lib.hid (And.intro (((H2.out.1.set 0 (.int .u64 0)).set 1 (.int .u64 0)).set 2 (.int .u64 0)) (And.intro (((H2.out.2.1.far (p := ⟨w.heap.size, 0, none⟩) (by show w.heap.size + 1 ≠ w.heap.size; omega) (.int .u64 0)).far (p := ⟨w.heap.size, 1, none⟩) (by show w.heap.size + 1 ≠ w.heap.size; omega) (.int .u64 0)).far (p := ⟨w.heap.size, 2, none⟩) (by show w.heap.size + 1 ≠ w.heap.size; omega) (.int .u64 0)) (((H2.out.2.2.setCell (p := ⟨w.heap.size, 0, none⟩) (Nat.le_refl _) (.int .u64 0)).setCell (p := ⟨w.heap.size, 1, none⟩) (Nat.le_refl _) (.int .u64 0)).setCell (p := ⟨w.heap.size, 2, none⟩) (Nat.le_refl _) (.int .u64 0))))
  clear b0 b1 b2 zb H2
  generalize (((w2.setCell ⟨w.heap.size, 0, none⟩ (.int .u64 0)).setCell ⟨w.heap.size, 1, none⟩ (.int .u64 0)).setCell ⟨w.heap.size, 2, none⟩ (.int .u64 0)) = w3 at *
  refine hK.out _ _ (.inr ⟨H3.out.2.1.cell 0 rfl, H3.out.2.1.cell 1 rfl, H3.out.2.1.cell 2 rfl⟩) ?_
  clear hK K
  try simp only [Act.put, List.setIfInBounds_toArray, List.set_cons_zero, List.set_cons_succ]
  refine z1 (i := 5) (by kernel_rfl) rfl (fun K hK => ?_)
  go_simp
  refine hK.out _ _ (.inl rfl) ?_
  clear hK K
  refine wpAnyZ_done (by kernel_rfl) ?_ _
  go_wp2
  have p0 := H3.out.1.cell 0 rfl
  have p1 := H3.out.1.cell 1 rfl
  have p2 := H3.out.1.cell 2 rfl
  refine bodyPost_ret (v := .tuple #[.agg #[.int .u64 0, .int .u64 0, .int .u64 0], .iface T0 v0]) (by simp [results, Tryd.results30, go_sem, p0, p1, p2]) rfl ⟨by rw [HT.out], H3.out.2.2⟩

/-- A pile of n things, its cells in block b. -/
def PilO (w : World) (b : Nat) (v : Value) (n : Nat) (y : Nat → Nat → Int) (c : Nat → Bool) : Prop :=
  ∃ o cap cur, v = .slice (some ⟨b, o, none⟩) n cap ∧ Blk w b 55 cur ∧ n ≤ cap ∧ cap ≤ maxLen ∧ o + cap * 5 ≤ cur.size ∧ ∀ i, i < n → cur[o + i * 5 + 0]? = some (.int .u64 (y i 0)) ∧ cur[o + i * 5 + 1]? = some (.int .u64 (y i 1)) ∧ cur[o + i * 5 + 2]? = some (.int .u64 (y i 2)) ∧ cur[o + i * 5 + 3]? = some (.int .u64 (y i 3)) ∧ cur[o + i * 5 + 4]? = some (.bool (c i))
section
variable {w w' : World} {b : Nat} {v : Value} {n : Nat} {y : Nat → Nat → Int} {c : Nat → Bool}
theorem PilO.heap (h : PilO w b v n y c) (hb : w'.heap[b]? = w.heap[b]?) : PilO w' b v n y c := by
  obtain ⟨o, cap, cur, h1, h2, h3⟩ := h
  exact ⟨o, cap, cur, h1, hb.trans h2, h3⟩
theorem PilO.lt (h : PilO w b v n y c) : b < w.heap.size := by
  obtain ⟨o, cap, cur, h1, h2, h3⟩ := h
  exact h2.lt
theorem PilO.chg {S : Nat → Prop} (h : PilO w b v n y c) (hc : Chg S w w') (hs : ¬ S b) : PilO w' b v n y c := h.heap (hc.block b h.lt hs)
theorem PilO.blk (h : PilO w b v n y c) : ∃ cur, Blk w b 55 cur := by
  obtain ⟨o, cap, cur, h1, h2, h3⟩ := h
  exact ⟨cur, h2⟩
theorem PilO.slice (h : PilO w b v n y c) : ∃ A cap, v = .slice A n cap := by
  obtain ⟨o, cap, cur, h1, h2, h3⟩ := h
  exact ⟨_, _, h1⟩
end
theorem elemO : Tryd.prog.elem 35 = 55 := by kernel_rfl
theorem undO : Tryd.prog.underlying 35 = some (.slice (Tryd.prog.elem 35)) := by rw [elemO]; exact Tryd.underlying35
theorem sizeO (w : World) : (sizeOf (Tryd.prog.elem 35)).run Tryd.prog w = .ok 5 w := by
  rw [elemO]
  have h : (Tryd.prog.info? 55).map (·.size) = some 5 := by kernel_rfl
  cases hq : Tryd.prog.info? 55 with
  | none => simp [hq] at h
  | some i =>
    rw [hq] at h
    simp at h
    simp [sizeOf, typeInfo, hq, h]
def tlO (b o cap : Nat) : Addr := if cap = 1 then ⟨b, o, none⟩ else ⟨b, o + 5, none⟩
theorem run_tailO (w : World) (b o n cap : Nat) :
    (Instr.slice 35 (.slice (some ⟨b, o, none⟩) (n + 1) cap) (some (.int .i64 1)) none none).run Tryd.prog w = .ok (.slice (some (tlO b o cap)) n (cap - 1)) w := by
  have hr := run_slice_l w 35 (some ⟨b, o, none⟩) (n + 1) cap undO .i64 1 (by omega) (by omega)
  rw [sizeO] at hr
  rw [hr]
  unfold tlO
  by_cases h : cap = 1
  · subst h
    simp [Result.andThen, sliced]
  · simp [Result.andThen, sliced, h, Addr.add]
/-- What is left behind a take. -/
theorem PilO.cut {w' : World} {b o cap n : Nat} {cur cur' : Array Value} {y : Nat → Nat → Int} {c : Nat → Bool} (h3 : n + 1 ≤ cap) (h4 : cap ≤ maxLen) (h5 : o + cap * 5 ≤ cur.size) (h6 : ∀ i, i < n + 1 → cur[o + i * 5 + 0]? = some (.int .u64 (y i 0)) ∧ cur[o + i * 5 + 1]? = some (.int .u64 (y i 1)) ∧ cur[o + i * 5 + 2]? = some (.int .u64 (y i 2)) ∧ cur[o + i * 5 + 3]? = some (.int .u64 (y i 3)) ∧ cur[o + i * 5 + 4]? = some (.bool (c i)))
    (hw : Blk w' b 55 cur') (hs : cur'.size = cur.size) (he : ∀ q, o + 5 ≤ q → cur'[q]? = cur[q]?) : PilO w' b (.slice (some (tlO b o cap)) n (cap - 1)) n (fun i => y (i + 1)) (fun i => c (i + 1)) := by
  unfold tlO
  by_cases h : cap = 1
  · subst h
    obtain rfl : n = 0 := by omega
    exact ⟨o, 0, cur', by simp, hw, Nat.le_refl _, Nat.zero_le _, by omega, fun i hi => absurd hi (by omega)⟩
  · refine ⟨o + 5, cap - 1, cur', by rw [if_neg h], hw, by omega, by omega, by omega, fun i hi => ?_⟩
    have := h6 (i + 1) (by omega)
    refine ⟨?_, ?_, ?_, ?_, ?_⟩
    · rw [he _ (by omega), show o + 5 + i * 5 + 0 = o + (i + 1) * 5 + 0 by omega]; exact this.1
    · rw [he _ (by omega), show o + 5 + i * 5 + 1 = o + (i + 1) * 5 + 1 by omega]; exact this.2.1
    · rw [he _ (by omega), show o + 5 + i * 5 + 2 = o + (i + 1) * 5 + 2 by omega]; exact this.2.2.1
    · rw [he _ (by omega), show o + 5 + i * 5 + 3 = o + (i + 1) * 5 + 3 by omega]; exact this.2.2.2.1
    · rw [he _ (by omega), show o + 5 + i * 5 + 4 = o + (i + 1) * 5 + 4 by omega]; exact this.2.2.2.2
set_option maxHeartbeats 4000000 in
set_option maxRecDepth 100000 in
theorem takeO_some (w : World) (g j b : Nat) (cs : Array Value) (v : Value) (n : Nat) (y : Nat → Nat → Int) (c : Nat → Bool) (name : ByteArray) (hs : Blk w g 81 cs) (hj : cs[j]? = some v) (hp : PilO w b v (n + 1) y c) :
    Calls Tryd.prog 31 #[.pointer (some ⟨g, j, none⟩), .string name] w fun e w' => e = .returned (.tuple #[.agg #[.int .u64 (y 0 0), .int .u64 (y 0 1), .int .u64 (y 0 2), .int .u64 (y 0 3), .bool (c 0)], .nilIface]) ∧ ∃ v', Blk w' g 81 (cs.setIfInBounds j v') ∧ PilO w' b v' n (fun i => y (i + 1)) (fun i => c (i + 1)) ∧ Chg (fun q => q = g ∨ q = b) w w' := by
  obtain ⟨o, cap, cur, rfl, hb, h3, h4, h5, h6⟩ := hp
  have hgb : g ≠ b := fun e => by
    subst e
    have := hs.symm.trans hb
    injection this with this
    injection this with _ e2
    exact absurd e2 (by decide)
  have hjs : j < cs.size := (Array.getElem?_eq_some_iff.1 hj).1
  have e0 := h6 0 (by omega)
  simp only [Nat.zero_mul, Nat.add_zero] at e0
  have hlg := hs.lt
  have hlb := hb.lt
  have cg : ((w.alloc (.cells #[.int .u64 0, .int .u64 0, .int .u64 0, .int .u64 0, .bool false] 55)).alloc (.cells #[.int .u64 0, .int .u64 0, .int .u64 0, .int .u64 0, .bool false] 55)).cell? ⟨g, j, none⟩ = some (.slice (some ⟨b, o, none⟩) (n + 1) cap) := ((hs.alloc _).alloc _).cell j hj
  have cb0 : ((w.alloc (.cells #[.int .u64 0, .int .u64 0, .int .u64 0, .int .u64 0, .bool false] 55)).alloc (.cells #[.int .u64 0, .int .u64 0, .int .u64 0, .int .u64 0, .bool false] 55)).cell? ⟨b, o, none⟩ = some (.int .u64 (y 0 0)) := ((hb.alloc _).alloc _).cell (o) e0.1
  have cb1 : ((w.alloc (.cells #[.int .u64 0, .int .u64 0, .int .u64 0, .int .u64 0, .bool false] 55)).alloc (.cells #[.int .u64 0, .int .u64 0, .int .u64 0, .int .u64 0, .bool false] 55)).cell? ⟨b, o + 1, none⟩ = some (.int .u64 (y 0 1)) := ((hb.alloc _).alloc _).cell (o + 1) e0.2.1
  have cb2 : ((w.alloc (.cells #[.int .u64 0, .int .u64 0, .int .u64 0, .int .u64 0, .bool false] 55)).alloc (.cells #[.int .u64 0, .int .u64 0, .int .u64 0, .int .u64 0, .bool false] 55)).cell? ⟨b, o + 2, none⟩ = some (.int .u64 (y 0 2)) := ((hb.alloc _).alloc _).cell (o + 2) e0.2.2.1
  have cb3 : ((w.alloc (.cells #[.int .u64 0, .int .u64 0, .int .u64 0, .int .u64 0, .bool false] 55)).alloc (.cells #[.int .u64 0, .int .u64 0, .int .u64 0, .int .u64 0, .bool false] 55)).cell? ⟨b, o + 3, none⟩ = some (.int .u64 (y 0 3)) := ((hb.alloc _).alloc _).cell (o + 3) e0.2.2.2.1
  have cb4 : ((w.alloc (.cells #[.int .u64 0, .int .u64 0, .int .u64 0, .int .u64 0, .bool false] 55)).alloc (.cells #[.int .u64 0, .int .u64 0, .int .u64 0, .int .u64 0, .bool false] 55)).cell? ⟨b, o + 4, none⟩ = some (.bool (c 0)) := ((hb.alloc _).alloc _).cell (o + 4) e0.2.2.2.2
  have l1 : (0 : Int) < (n : Int) + 1 := by omega
  have l2 : ¬ ((n : Int) + 1 = 0) := by omega
  have hR : Blk (((w.alloc (.cells #[.int .u64 0, .int .u64 0, .int .u64 0, .int .u64 0, .bool false] 55)).alloc (.cells #[.int .u64 0, .int .u64 0, .int .u64 0, .int .u64 0, .bool false] 55)).alloc (.cells #[.int .u64 (y 0 0), .int .u64 (y 0 1), .int .u64 (y 0 2), .int .u64 (y 0 3), .bool (c 0)] 55)) w.heap.size 55 #[.int .u64 0, .int .u64 0, .int .u64 0, .int .u64 0, .bool false] := ((Blk.new w _ _).alloc _).alloc _
  have hN : Blk (((w.alloc (.cells #[.int .u64 0, .int .u64 0, .int .u64 0, .int .u64 0, .bool false] 55)).alloc (.cells #[.int .u64 0, .int .u64 0, .int .u64 0, .int .u64 0, .bool false] 55)).alloc (.cells #[.int .u64 (y 0 0), .int .u64 (y 0 1), .int .u64 (y 0 2), .int .u64 (y 0 3), .bool (c 0)] 55)) (w.heap.size + 1) 55 #[.int .u64 0, .int .u64 0, .int .u64 0, .int .u64 0, .bool false] := by
    have := (Blk.new (w.alloc (.cells #[.int .u64 0, .int .u64 0, .int .u64 0, .int .u64 0, .bool false] 55)) 55 #[.int .u64 0, .int .u64 0, .int .u64 0, .int .u64 0, .bool false]).alloc (.cells #[.int .u64 (y 0 0), .int .u64 (y 0 1), .int .u64 (y 0 2), .int .u64 (y 0 3), .bool (c 0)] 55)
    rwa [World.size_alloc] at this
  have hX : Blk (((w.alloc (.cells #[.int .u64 0, .int .u64 0, .int .u64 0, .int .u64 0, .bool false] 55)).alloc (.cells #[.int .u64 0, .int .u64 0, .int .u64 0, .int .u64 0, .bool false] 55)).alloc (.cells #[.int .u64 (y 0 0), .int .u64 (y 0 1), .int .u64 (y 0 2), .int .u64 (y 0 3), .bool (c 0)] 55)) (w.heap.size + 1 + 1) 55 #[.int .u64 (y 0 0), .int .u64 (y 0 1), .int .u64 (y 0 2), .int .u64 (y 0 3), .bool (c 0)] := by
    have := Blk.new ((w.alloc (.cells #[.int .u64 0, .int .u64 0, .int .u64 0, .int .u64 0, .bool false] 55)).alloc (.cells #[.int .u64 0, .int .u64 0, .int .u64 0, .int .u64 0, .bool false] 55)) 55 #[.int .u64 (y 0 0), .int .u64 (y 0 1), .int .u64 (y 0 2), .int .u64 (y 0 3), .bool (c 0)]
    rwa [World.size_alloc, World.size_alloc] at this
  have hC : Chg (fun q => q = g ∨ q = b) w (((w.alloc (.cells #[.int .u64 0, .int .u64 0, .int .u64 0, .int .u64 0, .bool false] 55)).alloc (.cells #[.int .u64 0, .int .u64 0, .int .u64 0, .int .u64 0, .bool false] 55)).alloc (.cells #[.int .u64 (y 0 0), .int .u64 (y 0 1), .int .u64 (y 0 2), .int .u64 (y 0 3), .bool (c 0)] 55)) := (((Chg.refl _ w).alloc _).alloc _).alloc _
  have HD := Lib.hid (And.intro hR (And.intro hN (And.intro hX (And.intro (((hs.alloc _).alloc _).alloc _ : Blk (((w.alloc (.cells #[.int .u64 0, .int .u64 0, .int .u64 0, .int .u64 0, .bool false] 55)).alloc (.cells #[.int .u64 0, .int .u64 0, .int .u64 0, .int .u64 0, .bool false] 55)).alloc (.cells #[.int .u64 (y 0 0), .int .u64 (y 0 1), .int .u64 (y 0 2), .int .u64 (y 0 3), .bool (c 0)] 55)) g _ cs) (And.intro (((hb.alloc _).alloc _).alloc _ : Blk (((w.alloc (.cells #[.int .u64 0, .int .u64 0, .int .u64 0, .int .u64 0, .bool false] 55)).alloc (.cells #[.int .u64 0, .int .u64 0, .int .u64 0, .int .u64 0, .bool false] 55)).alloc (.cells #[.int .u64 (y 0 0), .int .u64 (y 0 1), .int .u64 (y 0 2), .int .u64 (y 0 3), .bool (c 0)] 55)) b _ cur) hC)))))
  have HP := Lib.hid (And.intro h3 (And.intro h4 (And.intro h5 (And.intro h6 (And.intro hj (And.intro hjs hgb))))))
  have HE := Lib.hid e0
  clear hR hN hX hC hs hb h3 h4 h5 h6 e0 hj hjs
  go_enter Tryd.func31, Tryd.ntmps31
  go_wp2
  clear cg cb0 cb1 cb2 cb3 cb4 hgb
  generalize (((w.alloc (.cells #[.int .u64 0, .int .u64 0, .int .u64 0, .int .u64 0, .bool false] 55)).alloc (.cells #[.int .u64 0, .int .u64 0, .int .u64 0, .int .u64 0, .bool false] 55)).alloc (.cells #[.int .u64 (y 0 0), .int .u64 (y 0 1), .int .u64 (y 0 2), .int .u64 (y 0 3), .bool (c 0)] 55)) = w0 at *
  have cg := HD.out.2.2.2.1.cell j HP.out.2.2.2.2.1
  have n0 := HD.out.2.1.cell 0 rfl
  have n1 := HD.out.2.1.cell 1 rfl
  have n2 := HD.out.2.1.cell 2 rfl
  have n3 := HD.out.2.1.cell 3 rfl
  have n4 := HD.out.2.1.cell 4 rfl
  go_still_tail 6, (by kernel_rfl)
  change wpList _ _ _ _ _ (World.drew _)
  have H1 := Lib.hid (And.intro HD.out.1.drew (And.intro HD.out.2.1.drew (And.intro HD.out.2.2.1.drew (And.intro HD.out.2.2.2.1.drew (And.intro HD.out.2.2.2.2.1.drew HD.out.2.2.2.2.2.drew)))))
  clear HD cg n0 n1 n2 n3 n4
  generalize w0.drew = w1 at *
  have e0 := HE.out
  have cb0 : w1.cell? ⟨b, o, none⟩ = some (.int .u64 (y 0 0)) := H1.out.2.2.2.2.1.cell (o) e0.1
  have cb1 : w1.cell? ⟨b, o + 1, none⟩ = some (.int .u64 (y 0 1)) := H1.out.2.2.2.2.1.cell (o + 1) e0.2.1
  have cb2 : w1.cell? ⟨b, o + 2, none⟩ = some (.int .u64 (y 0 2)) := H1.out.2.2.2.2.1.cell (o + 2) e0.2.2.1
  have cb3 : w1.cell? ⟨b, o + 3, none⟩ = some (.int .u64 (y 0 3)) := H1.out.2.2.2.2.1.cell (o + 3) e0.2.2.2.1
  have cb4 : w1.cell? ⟨b, o + 4, none⟩ = some (.bool (c 0)) := H1.out.2.2.2.2.1.cell (o + 4) e0.2.2.2.2
  clear e0
  have cg := H1.out.2.2.2.1.cell j HP.out.2.2.2.2.1
  have zg := H1.out.2.2.2.1.frozen j
  have zb := H1.out.2.2.2.2.1.frozen
  have hgb := HP.out.2.2.2.2.2.2
  have hbg : b ≠ g := fun e => hgb e.symm
  have hsl := fun wx => run_tailO wx b o n cap
  have H3 := Lib.hid (And.intro ((((((H1.out.1.far (p := ⟨b, o, none⟩) (by show w.heap.size ≠ b; omega) (.int .u64 0)).far (p := ⟨b, o + 1, none⟩) (by show w.heap.size ≠ b; omega) (.int .u64 0)).far (p := ⟨b, o + 2, none⟩) (by show w.heap.size ≠ b; omega) (.int .u64 0)).far (p := ⟨b, o + 3, none⟩) (by show w.heap.size ≠ b; omega) (.int .u64 0)).far (p := ⟨b, o + 4, none⟩) (by show w.heap.size ≠ b; omega) (.bool false)).far (p := ⟨g, j, none⟩) (by show w.heap.size ≠ g; omega) (.slice (some (tlO b o cap)) n (cap - 1))) (And.intro ((((((H1.out.2.2.1.far (p := ⟨b, o, none⟩) (by show w.heap.size + 1 + 1 ≠ b; omega) (.int .u64 0)).far (p := ⟨b, o + 1, none⟩) (by show w.heap.size + 1 + 1 ≠ b; omega) (.int .u64 0)).far (p := ⟨b, o + 2, none⟩) (by show w.heap.size + 1 + 1 ≠ b; omega) (.int .u64 0)).far (p := ⟨b, o + 3, none⟩) (by show w.heap.size + 1 + 1 ≠ b; omega) (.int .u64 0)).far (p := ⟨b, o + 4, none⟩) (by show w.heap.size + 1 + 1 ≠ b; omega) (.bool false)).far (p := ⟨g, j, none⟩) (by show w.heap.size + 1 + 1 ≠ g; omega) (.slice (some (tlO b o cap)) n (cap - 1))) (And.intro ((((((H1.out.2.2.2.1.far (p := ⟨b, o, none⟩) (hgb) (.int .u64 0)).far (p := ⟨b, o + 1, none⟩) (hgb) (.int .u64 0)).far (p := ⟨b, o + 2, none⟩) (hgb) (.int .u64 0)).far (p := ⟨b, o + 3, none⟩) (hgb) (.int .u64 0)).far (p := ⟨b, o + 4, none⟩) (hgb) (.bool false)).set j (.slice (some (tlO b o cap)) n (cap - 1))) (And.intro ((((((H1.out.2.2.2.2.1.set (o) (.int .u64 0)).set (o + 1) (.int .u64 0)).set (o + 2) (.int .u64 0)).set (o + 3) (.int .u64 0)).set (o + 4) (.bool false)).far (p := ⟨g, j, none⟩) hbg (.slice (some (tlO b o cap)) n (cap - 1))) ((((((H1.out.2.2.2.2.2.set (p := ⟨b, o, none⟩) (.inr (.inr rfl)) (.int .u64 0)).set (p := ⟨b, o + 1, none⟩) (.inr (.inr rfl)) (.int .u64 0)).set (p := ⟨b, o + 2, none⟩) (.inr (.inr rfl)) (.int .u64 0)).set (p := ⟨b, o + 3, none⟩) (.inr (.inr rfl)) (.int .u64 0)).set (p := ⟨b, o + 4, none⟩) (.inr (.inr rfl)) (.bool false)).set (p := ⟨g, j, none⟩) (.inr (.inl rfl)) (.slice (some (tlO b o cap)) n (cap - 1)))))))
  have x0 := H3.out.2.1.cell 0 rfl
  have r0 := H3.out.1.cell 0 rfl
  have x1 := H3.out.2.1.cell 1 rfl
  have r1 := H3.out.1.cell 1 rfl
  have x2 := H3.out.2.1.cell 2 rfl
  have r2 := H3.out.1.cell 2 rfl
  have x3 := H3.out.2.1.cell 3 rfl
  have r3 := H3.out.1.cell 3 rfl
  have x4 := H3.out.2.1.cell 4 rfl
  have r4 := H3.out.1.cell 4 rfl
  have zr := H3.out.1.frozen
  go_wp2
  have hR4 := (((((H3.out.1.set 0 (.int .u64 (y 0 0))).set 1 (.int .u64 (y 0 1))).set 2 (.int .u64 (y 0 2))).set 3 (.int .u64 (y 0 3))).set 4 (.bool (c 0)))
  have p0 := hR4.cell 0 rfl
  have p1 := hR4.cell 1 rfl
  have p2 := hR4.cell 2 rfl
  have p3 := hR4.cell 3 rfl
  have p4 := hR4.cell 4 rfl
  refine bodyPost_ret (v := .tuple #[.agg #[.int .u64 (y 0 0), .int .u64 (y 0 1), .int .u64 (y 0 2), .int .u64 (y 0 3), .bool (c 0)], .nilIface]) (by simp [results, Tryd.results31, go_sem, p0, p1, p2, p3, p4]) rfl ⟨rfl, .slice (some (tlO b o cap)) n (cap - 1), (((((H3.out.2.2.1.far (p := ⟨w.heap.size, 0, none⟩) (by show g ≠ w.heap.size; omega) (.int .u64 (y 0 0))).far (p := ⟨w.heap.size, 1, none⟩) (by show g ≠ w.heap.size; omega) (.int .u64 (y 0 1))).far (p := ⟨w.heap.size, 2, none⟩) (by show g ≠ w.heap.size; omega) (.int .u64 (y 0 2))).far (p := ⟨w.heap.size, 3, none⟩) (by show g ≠ w.heap.size; omega) (.int .u64 (y 0 3))).far (p := ⟨w.heap.size, 4, none⟩) (by show g ≠ w.heap.size; omega) (.bool (c 0))), ?_, (((((H3.out.2.2.2.2.set (p := ⟨w.heap.size, 0, none⟩) (.inl (Nat.le_refl _)) (.int .u64 (y 0 0))).set (p := ⟨w.heap.size, 1, none⟩) (.inl (Nat.le_refl _)) (.int .u64 (y 0 1))).set (p := ⟨w.heap.size, 2, none⟩) (.inl (Nat.le_refl _)) (.int .u64 (y 0 2))).set (p := ⟨w.heap.size, 3, none⟩) (.inl (Nat.le_refl _)) (.int .u64 (y 0 3))).set (p := ⟨w.heap.size, 4, none⟩) (.inl (Nat.le_refl _)) (.bool (c 0)))⟩
  refine PilO.cut HP.out.1 HP.out.2.1 HP.out.2.2.1 HP.out.2.2.2.1 ((((((H3.out.2.2.2.1.far (p := ⟨w.heap.size, 0, none⟩) (by show b ≠ w.heap.size; omega) (.int .u64 (y 0 0))).far (p := ⟨w.heap.size, 1, none⟩) (by show b ≠ w.heap.size; omega) (.int .u64 (y 0 1))).far (p := ⟨w.heap.size, 2, none⟩) (by show b ≠ w.heap.size; omega) (.int .u64 (y 0 2))).far (p := ⟨w.heap.size, 3, none⟩) (by show b ≠ w.heap.size; omega) (.int .u64 (y 0 3))).far (p := ⟨w.heap.size, 4, none⟩) (by show b ≠ w.heap.size; omega) (.bool (c 0)))) (by simp) (fun q hq => ?_)
  simp only [Array.getElem?_setIfInBounds]
  rw [if_neg (by omega), if_neg (by omega), if_neg (by omega), if_neg (by omega), if_neg (by omega)]
set_option maxHeartbeats 4000000 in
set_option maxRecDepth 100000 in
theorem takeO_none (w : World) (g j : Nat) (cs : Array Value) (A : Option Addr) (cap : Nat) (name : ByteArray) (hs : Blk w g 81 cs) (hj : cs[j]? = some (.slice A 0 cap)) (hh : Handle w) :
    Calls Tryd.prog 31 #[.pointer (some ⟨g, j, none⟩), .string name] w fun e w' => e = .returned (.tuple #[.agg #[.int .u64 0, .int .u64 0, .int .u64 0, .int .u64 0, .bool false], chain [(name, 0)] 80]) ∧ Below w.heap.size w w' := by
  have cg : ((w.alloc (.cells #[.int .u64 0, .int .u64 0, .int .u64 0, .int .u64 0, .bool false] 55)).alloc (.cells #[.int .u64 0, .int .u64 0, .int .u64 0, .int .u64 0, .bool false] 55)).cell? ⟨g, j, none⟩ = some (.slice A 0 cap) := ((hs.alloc _).alloc _).cell j hj
  have hR : Blk ((w.alloc (.cells #[.int .u64 0, .int .u64 0, .int .u64 0, .int .u64 0, .bool false] 55)).alloc (.cells #[.int .u64 0, .int .u64 0, .int .u64 0, .int .u64 0, .bool false] 55)) w.heap.size 55 #[.int .u64 0, .int .u64 0, .int .u64 0, .int .u64 0, .bool false] := (Blk.new w _ _).alloc _
  have hN : Blk ((w.alloc (.cells #[.int .u64 0, .int .u64 0, .int .u64 0, .int .u64 0, .bool false] 55)).alloc (.cells #[.int .u64 0, .int .u64 0, .int .u64 0, .int .u64 0, .bool false] 55)) (w.heap.size + 1) 55 #[.int .u64 0, .int .u64 0, .int .u64 0, .int .u64 0, .bool false] := by
    have := Blk.new (w.alloc (.cells #[.int .u64 0, .int .u64 0, .int .u64 0, .int .u64 0, .bool false] 55)) 55 #[.int .u64 0, .int .u64 0, .int .u64 0, .int .u64 0, .bool false]
    rwa [World.size_alloc] at this
  have hb : Below w.heap.size w ((w.alloc (.cells #[.int .u64 0, .int .u64 0, .int .u64 0, .int .u64 0, .bool false] 55)).alloc (.cells #[.int .u64 0, .int .u64 0, .int .u64 0, .int .u64 0, .bool false] 55)) := ((Below.refl _ w).alloc (Nat.le_refl _) _).alloc (by simp) _
  have HD := Lib.hid (And.intro hR.drew (And.intro hN.drew (And.intro hb.drew (hh.below hb.drew hh.pos))))
  clear hR hN hb hs hj hh
  go_enter Tryd.func31, Tryd.ntmps31
  go_wp2
  clear cg
  generalize ((w.alloc (.cells #[.int .u64 0, .int .u64 0, .int .u64 0, .int .u64 0, .bool false] 55)).alloc (.cells #[.int .u64 0, .int .u64 0, .int .u64 0, .int .u64 0, .bool false] 55)) = w0 at *
  refine region_z 5 (fun w' => w'.cell? ⟨w.heap.size + 1, 0, none⟩ = some (.int .u64 0) ∧ w'.cell? ⟨w.heap.size + 1, 1, none⟩ = some (.int .u64 0) ∧ w'.cell? ⟨w.heap.size + 1, 2, none⟩ = some (.int .u64 0) ∧ w'.cell? ⟨w.heap.size + 1, 3, none⟩ = some (.int .u64 0) ∧ w'.cell? ⟨w.heap.size + 1, 4, none⟩ = some (.bool false)) (by kernel_rfl) ?_
  generalize w0.drew = w1 at *
  have hS : (fun w' : World => w'.cell? ⟨w.heap.size + 1, 0, none⟩ = some (.int .u64 0) ∧ w'.cell? ⟨w.heap.size + 1, 1, none⟩ = some (.int .u64 0) ∧ w'.cell? ⟨w.heap.size + 1, 2, none⟩ = some (.int .u64 0) ∧ w'.cell? ⟨w.heap.size + 1, 3, none⟩ = some (.int .u64 0) ∧ w'.cell? ⟨w.heap.size + 1, 4, none⟩ = some (.bool false)) w1 := ⟨HD.out.2.1.cell 0 rfl, HD.out.2.1.cell 1 rfl, HD.out.2.1.cell 2 rfl, HD.out.2.1.cell 3 rfl, HD.out.2.1.cell 4 rfl⟩
  refine zt [5] (i := 0) rfl (.agg #[.int .u64 0, .int .u64 0, .int .u64 0, .int .u64 0, .bool false]) (by kernel_rfl) (by kernel_rfl) (by kernel_rfl) (by kernel_rfl) (fun _ _ _ h => h) hS (fun w' d => by obtain ⟨d0, d1, d2, d3, d4⟩ := d; go_simp) ?_
  try simp only [Act.put, List.setIfInBounds_toArray, List.set_cons_zero, List.set_cons_succ]
  refine zt [5] (i := 1) rfl (.iface 41 (.int .i64 80)) (by kernel_rfl) (by kernel_rfl) (by kernel_rfl) (by kernel_rfl) (fun _ _ _ h => h) hS (fun w' d => by go_simp) ?_
  try simp only [Act.put, List.setIfInBounds_toArray, List.set_cons_zero, List.set_cons_succ]
  refine zt [5] (i := 2) rfl (.string name) (by kernel_rfl) (by kernel_rfl) (by kernel_rfl) (by kernel_rfl) (fun _ _ _ h => h) hS (fun w' d => by go_simp) ?_
  try simp only [Act.put, List.setIfInBounds_toArray, List.set_cons_zero, List.set_cons_succ]
  refine z1 (i := 3) (by kernel_rfl) rfl (fun K hK => ?_)
  go_simp
  refine (wrap_bare 80 0 name w1 HD.out.2.2.2).mono ?_
  rintro e w2 ⟨rfl, hb2⟩
  have H2 := Lib.hid (And.intro (HD.out.1.below hb2) (And.intro (HD.out.2.1.below hb2) (HD.out.2.2.1.trans (hb2.mono HD.out.2.2.1.size))))
  obtain ⟨T0, v0, hT⟩ := chain_iface [(name, 0)] 80
  have HT := Lib.hid hT
  rw [hT]
  clear hb2 HD hS hT
  refine hK.out _ _ (.inr ⟨H2.out.2.1.cell 0 rfl, H2.out.2.1.cell 1 rfl, H2.out.2.1.cell 2 rfl, H2.out.2.1.cell 3 rfl, H2.out.2.1.cell 4 rfl⟩) ?_
  clear hK K
  try simp only [Act.put, List.setIfInBounds_toArray, List.set_cons_zero, List.set_cons_succ]
  have b0 := H2.out.1.cell 0 rfl
  have b1 := H2.out.1.cell 1 rfl
  have b2 := H2.out.1.cell 2 rfl
  have b3 := H2.out.1.cell 3 rfl
  have b4 := H2.out.1.cell 4 rfl
  have zb := H2.out.1.frozen
  refine z1 (i := 4) (by kernel_rfl) rfl (fun K hK => ?_)
  go_simp
  have H3 := Lib.hid (And.intro (((((H2.out.1.set 0 (.int .u64 0)).set 1 (.int .u64 0)).set 2 (.int .u64 0)).set 3 (.int .u64 0)).set 4 (.bool false)) (And.intro (((((H2.out.2.1.far (p := ⟨w.heap.size, 0, none⟩) (by show w.heap.size + 1 ≠ w.heap.size; omega) (.int .u64 0)).far (p := ⟨w.heap.size, 1, none⟩) (by show w.heap.size + 1 ≠ w.heap.size; omega) (.int .u64 0)).far (p := ⟨w.heap.size, 2, none⟩) (by show w.heap.size + 1 ≠ w.heap.size; omega) (.int .u64 0)).far (p := ⟨w.heap.size, 3, none⟩) (by show w.heap.size + 1 ≠ w.heap.size; omega) (.int .u64 0)).far (p := ⟨w.heap.size, 4, none⟩) (by show w.heap.size + 1 ≠ w.heap.size; omega) (.bool false)) (((((H2.out.2.2.setCell (p := ⟨w.heap.size, 0, none⟩) (Nat.le_refl _) (.int .u64 0)).setCell (p := ⟨w.heap.size, 1, none⟩) (Nat.le_refl _) (.int .u64 0)).setCell (p := ⟨w.heap.size, 2, none⟩) (Nat.le_refl _) (.int .u64 0)).setCell (p := ⟨w.heap.size, 3, none⟩) (Nat.le_refl _) (.int .u64 0)).setCell (p := ⟨w.heap.size, 4, none⟩) (Nat.le_refl _) (.bool false))))
  clear b0 b1 b2 b3 b4 zb H2
  generalize (((((w2.setCell ⟨w.heap.size, 0, none⟩ (.int .u64 0)).setCell ⟨w.heap.size, 1, none⟩ (.int .u64 0)).setCell ⟨w.heap.size, 2, none⟩ (.int .u64 0)).setCell ⟨w.heap.size, 3, none⟩ (.int .u64 0)).setCell ⟨w.heap.size, 4, none⟩ (.bool false)) = w3 at *
  refine hK.out _ _ (.inr ⟨H3.out.2.1.cell 0 rfl, H3.out.2.1.cell 1 rfl, H3.out.2.1.cell 2 rfl, H3.out.2.1.cell 3 rfl, H3.out.2.1.cell 4 rfl⟩) ?_
  clear hK K
  try simp only [Act.put, List.setIfInBounds_toArray, List.set_cons_zero, List.set_cons_succ]
  refine z1 (i := 5) (by kernel_rfl) rfl (fun K hK => ?_)
  go_simp
  refine hK.out _ _ (.inl rfl) ?_
  clear hK K
  refine wpAnyZ_done (by kernel_rfl) ?_ _
  go_wp2
  have p0 := H3.out.1.cell 0 rfl
  have p1 := H3.out.1.cell 1 rfl
  have p2 := H3.out.1.cell 2 rfl
  have p3 := H3.out.1.cell 3 rfl
  have p4 := H3.out.1.cell 4 rfl
  refine bodyPost_ret (v := .tuple #[.agg #[.int .u64 0, .int .u64 0, .int .u64 0, .int .u64 0, .bool false], .iface T0 v0]) (by simp [results, Tryd.results31, go_sem, p0, p1, p2, p3, p4]) rfl ⟨by rw [HT.out], H3.out.2.2⟩
end Go.Proofs.YtgmlmngnedhllaaDoor
