/- The contracts of corr's draw, splitTriple, splitBits, splitOT. -/
import Derived.Test.YtgmlmngnedhllaaDoorQT
import Derived.Test.YtgmlmngnedhllaaDoorBQ1
namespace Go.Proofs.YtgmlmngnedhllaaDoor
open Go.RowKit

abbrev tri (a b c : Int) : Value := .agg #[.int .u64 a, .int .u64 b, .int .u64 c]
abbrev otv (a b c d : Int) (k : Bool) : Value := .agg #[.int .u64 a, .int .u64 b, .int .u64 c, .int .u64 d, .bool k]
abbrev fiv (x : Nat → Int) : Array Value := #[.int .u64 (x 0), .int .u64 (x 1), .int .u64 (x 2), .int .u64 (x 3), .int .u64 (x 4)]
/-- Block b is just these cells, of type t, none of them fixed. -/
def Blk (w : World) (b t : Nat) (cs : Array Value) : Prop := w.heap[b]? = some (.cells cs t (0, 0))
section
variable {w w' : World} {b t : Nat} {cs : Array Value}
theorem Blk.lt (h : Blk w b t cs) : b < w.heap.size := (Array.getElem?_eq_some_iff.1 h).1
theorem Blk.cell (h : Blk w b t cs) (i : Nat) {v : Value} (hv : cs[i]? = some v) : w.cell? ⟨b, i, none⟩ = some v := by rw [cell_of_row w b i _ t (0, 0) h]; exact hv
theorem Blk.frozen (h : Blk w b t cs) (i : Nat) : w.frozen? ⟨b, i, none⟩ = false := by unfold Blk at h; simp [World.frozen?, h]
theorem Blk.set (h : Blk w b t cs) (i : Nat) (v : Value) : Blk (w.setCell ⟨b, i, none⟩ v) b t (cs.setIfInBounds i v) := by unfold Blk at h ⊢; simp [World.setCell, Array.getElem?_modify, h]
theorem Blk.far (h : Blk w b t cs) {p : Addr} (hp : b ≠ p.block) (u : Value) : Blk (w.setCell p u) b t cs := (Below.heap_setCell w p u b hp).trans h
theorem Blk.alloc (h : Blk w b t cs) (o : Obj) : Blk (w.alloc o) b t cs := (Below.heap_alloc w o b h.lt).trans h
theorem Blk.drew (h : Blk w b t cs) : Blk w.drew b t cs := h
theorem Blk.below (h : Blk w b t cs) (hb : Below w.heap.size w w') : Blk w' b t cs := (hb.block b h.lt).trans h
theorem Blk.chg {S : Nat → Prop} (h : Blk w b t cs) (hc : Chg S w w') (hs : ¬ S b) : Blk w' b t cs := (hc.block b h.lt hs).trans h
theorem Blk.new (w : World) (t : Nat) (cs : Array Value) : Blk (w.alloc (.cells cs t)) w.heap.size t cs := heap_alloc_new w _
end
/-- Block b is five words. -/
def Fv (w : World) (b : Nat) (x : Nat → Int) : Prop := w.heap[b]? = some (.cells (fiv x) 74 (0, 0))
section
variable {w w' : World} {b : Nat} {x : Nat → Int}
theorem Fv.lt (h : Fv w b x) : b < w.heap.size := (Array.getElem?_eq_some_iff.1 h).1
theorem Fv.c0 (h : Fv w b x) : w.cell? ⟨b, 0, none⟩ = some (.int .u64 (x 0)) := by rw [cell_of_row w b 0 _ 74 (0, 0) h]; rfl
theorem Fv.c1 (h : Fv w b x) : w.cell? ⟨b, 1, none⟩ = some (.int .u64 (x 1)) := by rw [cell_of_row w b 1 _ 74 (0, 0) h]; rfl
theorem Fv.c2 (h : Fv w b x) : w.cell? ⟨b, 2, none⟩ = some (.int .u64 (x 2)) := by rw [cell_of_row w b 2 _ 74 (0, 0) h]; rfl
theorem Fv.c3 (h : Fv w b x) : w.cell? ⟨b, 3, none⟩ = some (.int .u64 (x 3)) := by rw [cell_of_row w b 3 _ 74 (0, 0) h]; rfl
theorem Fv.c4 (h : Fv w b x) : w.cell? ⟨b, 4, none⟩ = some (.int .u64 (x 4)) := by rw [cell_of_row w b 4 _ 74 (0, 0) h]; rfl
theorem Fv.frozen (h : Fv w b x) (i : Nat) : w.frozen? ⟨b, i, none⟩ = false := by unfold Fv at h; simp [World.frozen?, h]
theorem Fv.keep {k : Nat} (h : Fv w b x) (hk : Keep k w w') (hg : b ≠ k) : Fv w' b x := (hk.block b h.lt hg).trans h
theorem Fv.cell (h : Fv w b x) (k : Nat) (hk : k < 5) : w.cell? ⟨b, k, none⟩ = some (.int .u64 (x k)) := by
  rcases (show k = 0 ∨ k = 1 ∨ k = 2 ∨ k = 3 ∨ k = 4 by omega) with rfl | rfl | rfl | rfl | rfl
  · exact h.c0
  · exact h.c1
  · exact h.c2
  · exact h.c3
  · exact h.c4
theorem Fv.set (h : Fv w b x) (k : Nat) (hk : k < 5) (y : Int) : Fv (w.setCell ⟨b, k, none⟩ (.int .u64 y)) b (fun q => if q = k then y else x q) := by
  unfold Fv at h ⊢
  rcases (show k = 0 ∨ k = 1 ∨ k = 2 ∨ k = 3 ∨ k = 4 by omega) with rfl | rfl | rfl | rfl | rfl <;> simp [World.setCell, Array.getElem?_modify, h, fiv]
theorem Fv.congr {y : Nat → Int} (h : Fv w b x) (hx : ∀ q, q < 5 → x q = y q) : Fv w b y := by
  unfold Fv fiv at h ⊢
  rw [h, hx 0 (by omega), hx 1 (by omega), hx 2 (by omega), hx 3 (by omega), hx 4 (by omega)]
end
theorem Keep.alloc {g : Nat} {w w' : World} (h : Keep g w w') (o : Obj) : Keep g w (w'.alloc o) :=
  h.trans (Keep.of_below ((Below.refl w'.heap.size w').alloc (Nat.le_refl _) o) (Nat.le_refl _))
theorem Keep.fresh {g : Nat} {w w' : World} (h : Keep g w w') {p : Addr} (hp : w.heap.size ≤ p.block) (v : Value) : Keep g w (w'.setCell p v) :=
  ⟨h.os, h.tape, h.output, by have := h.size; simpa [World.setCell] using this, fun k hk hg => (Below.heap_setCell w' p v k (by omega)).trans (h.block k hk hg)⟩
theorem Tap.keep {w w' : World} {g h k N u : Nat} {f : Nat → Int} (ht : Tap w g h N f u) (hk : Keep k w w') (h1 : g ≠ k) (h2 : h ≠ k) : Tap w' g h N f u := ht.heap (hk.block _ ht.lt h1) (hk.block _ ht.src_lt h2)

set_option maxHeartbeats 2000000 in
set_option maxRecDepth 100000 in
theorem draw_any (w : World) (g h N : Nat) (f : Nat → Int) (u : Nat) (ht : Tap w g h N f u) (hu : u + 5 ≤ N) :
    Calls Tryd.prog 24 #[.pointer (some ⟨g, 0, none⟩)] w fun e w' => e = .returned (.agg (fiv fun q => f (u + q))) ∧ Tap w' g h N f (u + 5) ∧ Keep g w w' := by
  have hlg := ht.lt
  have hlh := ht.src_lt
  have hb0 : Below w.heap.size w ((w.alloc (.cells (fiv fun _ => 0) 74)).alloc (.cells (fiv fun _ => 0) 74)) := ((Below.refl _ w).alloc (Nat.le_refl _) _).alloc (by simp) _
  have ha : Fv (w.alloc (.cells (fiv fun _ => 0) 74)) w.heap.size (fun _ => 0) := heap_alloc_new w _
  have ha1 : Fv ((w.alloc (.cells (fiv fun _ => 0) 74)).alloc (.cells (fiv fun _ => 0) 74)) w.heap.size (fun _ => 0) := (Below.heap_alloc _ _ _ ha.lt).trans ha
  have hb : Fv ((w.alloc (.cells (fiv fun _ => 0) 74)).alloc (.cells (fiv fun _ => 0) 74)) (w.heap.size + 1) (fun _ => 0) := by
    have := heap_alloc_new (w.alloc (.cells (fiv fun _ => 0) 74)) (.cells (fiv fun _ => 0) 74)
    rwa [World.size_alloc] at this
  have H0 := Lib.hid (And.intro (ht.below hb0) (And.intro ha1 (And.intro hb (And.intro (Keep.of_below (g := g) hb0 (Nat.le_refl _)) hu))))
  clear ht hu ha hb ha1 hb0
  go_enter Tryd.func24, Tryd.ntmps24
  go_wp2
  go_loopw [5] (fun i wr => ∃ k : Nat, k ≤ 5 ∧ i = .int .i64 k ∧ Hid (Tap wr g h N f (u + k) ∧ Fv wr w.heap.size (fun _ => 0) ∧ Fv wr (w.heap.size + 1) (fun q => if q < k then f (u + q) else 0) ∧ Keep g w wr)) (fun i _ => 5 - (intOf i).toNat)
  case atStart => exact ⟨0, by omega, rfl, H0.out.1, H0.out.2.1, H0.out.2.2.1.congr fun q _ => by simp, H0.out.2.2.2.1⟩
  case round =>
    obtain ⟨k, hk, rfl, HI⟩ := hrel
    have hu := H0.out.2.2.2.2
    by_cases hlt : k < 5
    · have e1 : IntKind.i64.wrap ((k : Int) + 1) = (k : Int) + 1 := i64_nat _ (by omega) (by omega)
      go_wp2_with fail
      refine (next_some _ g h N f (u + k) HI.out.1 (by omega)).mono ?_
      rintro e w1 ⟨rfl, h1, h2⟩
      have hb1 := HI.out.2.2.1.keep h2 (by omega)
      have ha1 := HI.out.2.1.keep h2 (by omega)
      have ck := hb1.cell k hlt
      have fk := hb1.frozen k
      have H1 := Lib.hid (And.intro h1 (And.intro ha1 (And.intro (hb1.set k hlt (f (u + k))) (HI.out.2.2.2.trans h2))))
      have hs1 := h2.size
      have hs2 := HI.out.2.2.2.size
      clear h1 h2 hb1 ha1 HI
      go_wp2
      go_roundw
      case rel =>
        refine ⟨k + 1, by omega, by go_num, H1.out.1.keep ((Keep.refl (w.heap.size + 1) w1).set (p := ⟨w.heap.size + 1, k, none⟩) rfl _) (by omega) (by omega), (Below.heap_setCell _ _ _ _ (by show w.heap.size ≠ w.heap.size + 1; omega)).trans H1.out.2.1, H1.out.2.2.1.congr fun q hq => ?_, Keep.fresh H1.out.2.2.2 (by show _ ≤ w.heap.size + 1; omega) _⟩
        by_cases e : q = k
        · subst e; rw [if_pos rfl, if_pos (by omega)]
        · rw [if_neg e]
          by_cases e2 : q < k
          · rw [if_pos e2, if_pos (by omega)]
          · rw [if_neg e2, if_neg (by omega)]
      case measure => simp [intOf]; omega
    · obtain rfl : k = 5 := by omega
      have hf := HI.out.2.2.1.congr (y := fun q => f (u + q)) (fun q hq => by rw [if_pos hq])
      have c0 := hf.c0
      have c1 := hf.c1
      have c2 := hf.c2
      have c3 := hf.c3
      have c4 := hf.c4
      have hr := HI.out.2.1
      have z0 := hr.frozen 0
      have z1 := hr.frozen 1
      have z2 := hr.frozen 2
      have z3 := hr.frozen 3
      have z4 := hr.frozen 4
      have r0 := hr.c0
      have r1 := hr.c1
      have r2 := hr.c2
      have r3 := hr.c3
      have r4 := hr.c4
      have HF := Lib.hid hr
      clear hf hr
      go_wp2
      have hs := ((((((HF.out.set 0 (by omega) (f u)).set 1 (by omega) (f (u + 1))).set 2 (by omega) (f (u + 2))).set 3 (by omega) (f (u + 3))).set 4 (by omega) (f (u + 4)))).congr (y := fun q => f (u + q)) (fun q hq => by
        rcases (show q = 0 ∨ q = 1 ∨ q = 2 ∨ q = 3 ∨ q = 4 by omega) with rfl | rfl | rfl | rfl | rfl <;> simp)
      have s0 := hs.c0
      have s1 := hs.c1
      have s2 := hs.c2
      have s3 := hs.c3
      have s4 := hs.c4
      simp only [Nat.add_zero] at s0
      have hK : Keep w.heap.size wr (((((wr.setCell ⟨w.heap.size, 0, none⟩ (.int .u64 (f u))).setCell ⟨w.heap.size, 1, none⟩ (.int .u64 (f (u + 1)))).setCell ⟨w.heap.size, 2, none⟩ (.int .u64 (f (u + 2)))).setCell ⟨w.heap.size, 3, none⟩ (.int .u64 (f (u + 3)))).setCell ⟨w.heap.size, 4, none⟩ (.int .u64 (f (u + 4)))) :=
        (((((Keep.refl w.heap.size wr).set (p := ⟨w.heap.size, 0, none⟩) rfl _).set (p := ⟨w.heap.size, 1, none⟩) rfl _).set (p := ⟨w.heap.size, 2, none⟩) rfl _).set (p := ⟨w.heap.size, 3, none⟩) rfl _).set (p := ⟨w.heap.size, 4, none⟩) rfl _
      refine bodyPost_ret (v := .agg (fiv fun q => f (u + q))) (by simp [results, Tryd.results24, go_sem, s0, s1, s2, s3, s4, fiv]) rfl ⟨rfl, HI.out.1.keep hK (by omega) (by omega), ?_⟩
      exact Keep.fresh (Keep.fresh (Keep.fresh (Keep.fresh (Keep.fresh HI.out.2.2.2 (Nat.le_refl _) _) (Nat.le_refl _) _) (Nat.le_refl _) _) (Nat.le_refl _) _) (Nat.le_refl _) _
set_option maxHeartbeats 4000000 in
set_option maxRecDepth 100000 in
theorem splitT_any (w : World) (x : Nat → Int) :
    Calls Tryd.prog 23 #[.agg (fiv x)] w fun e w' => e = .returned (.tuple #[tri (x 0) (x 2) (x 4), tri (x 1) (x 3) (IntKind.u64.wrap (IntKind.u64.wrap (IntKind.u64.wrap (x 0 + x 1) * IntKind.u64.wrap (x 2 + x 3)) - x 4))]) ∧ Below w.heap.size w w' := by
  go_enter Tryd.func23, Tryd.ntmps23
  go_wp2
  have hF : Blk (((w.alloc (.cells (fiv x) 74)).alloc (.cells #[.int .u64 0, .int .u64 0, .int .u64 0] 48)).alloc (.cells #[.int .u64 0, .int .u64 0, .int .u64 0] 48)) w.heap.size 74 (fiv x) := ((Blk.new w _ _).alloc _).alloc _
  have hA : Blk (((w.alloc (.cells (fiv x) 74)).alloc (.cells #[.int .u64 0, .int .u64 0, .int .u64 0] 48)).alloc (.cells #[.int .u64 0, .int .u64 0, .int .u64 0] 48)) (w.heap.size + 1) 48 #[.int .u64 0, .int .u64 0, .int .u64 0] := by
    have := (Blk.new (w.alloc (.cells (fiv x) 74)) 48 #[.int .u64 0, .int .u64 0, .int .u64 0]).alloc (.cells #[.int .u64 0, .int .u64 0, .int .u64 0] 48)
    rwa [World.size_alloc] at this
  have hB : Blk (((w.alloc (.cells (fiv x) 74)).alloc (.cells #[.int .u64 0, .int .u64 0, .int .u64 0] 48)).alloc (.cells #[.int .u64 0, .int .u64 0, .int .u64 0] 48)) (w.heap.size + 1 + 1) 48 #[.int .u64 0, .int .u64 0, .int .u64 0] := by
    have := Blk.new ((w.alloc (.cells (fiv x) 74)).alloc (.cells #[.int .u64 0, .int .u64 0, .int .u64 0] 48)) 48 #[.int .u64 0, .int .u64 0, .int .u64 0]
    rwa [World.size_alloc, World.size_alloc] at this
  have hb : Below w.heap.size w (((w.alloc (.cells (fiv x) 74)).alloc (.cells #[.int .u64 0, .int .u64 0, .int .u64 0] 48)).alloc (.cells #[.int .u64 0, .int .u64 0, .int .u64 0] 48)) := (((Below.refl _ w).alloc (Nat.le_refl _) _).alloc (by simp) _).alloc (by simp; omega) _
  have HD := Lib.hid (And.intro hF.drew (And.intro hA.drew (And.intro hB.drew hb.drew)))
  clear hF hA hB hb
  generalize (((w.alloc (.cells (fiv x) 74)).alloc (.cells #[.int .u64 0, .int .u64 0, .int .u64 0] 48)).alloc (.cells #[.int .u64 0, .int .u64 0, .int .u64 0] 48)) = w0 at *
  refine region_z 17 (fun w' => w'.cell? ⟨w.heap.size, 0, none⟩ = some (.int .u64 (x 0)) ∧ w'.cell? ⟨w.heap.size, 1, none⟩ = some (.int .u64 (x 1)) ∧ w'.cell? ⟨w.heap.size, 2, none⟩ = some (.int .u64 (x 2)) ∧ w'.cell? ⟨w.heap.size, 3, none⟩ = some (.int .u64 (x 3)) ∧ w'.cell? ⟨w.heap.size, 4, none⟩ = some (.int .u64 (x 4))) (by kernel_rfl) ?_
  generalize w0.drew = w1 at *
  have hS : (fun w' => w'.cell? ⟨w.heap.size, 0, none⟩ = some (.int .u64 (x 0)) ∧ w'.cell? ⟨w.heap.size, 1, none⟩ = some (.int .u64 (x 1)) ∧ w'.cell? ⟨w.heap.size, 2, none⟩ = some (.int .u64 (x 2)) ∧ w'.cell? ⟨w.heap.size, 3, none⟩ = some (.int .u64 (x 3)) ∧ w'.cell? ⟨w.heap.size, 4, none⟩ = some (.int .u64 (x 4))) w1 := ⟨HD.out.1.cell 0 rfl, HD.out.1.cell 1 rfl, HD.out.1.cell 2 rfl, HD.out.1.cell 3 rfl, HD.out.1.cell 4 rfl⟩
  refine zt [17] (i := 0) rfl (.pointer (some ⟨w.heap.size, 0, none⟩)) (by kernel_rfl) (by kernel_rfl) (by kernel_rfl) (by kernel_rfl) (fun _ _ _ h => h) hS (fun w' d1 => by obtain ⟨d1, d2, d3, d4, d5⟩ := d1; go_simp) ?_
  try simp only [Act.put, List.setIfInBounds_toArray, List.set_cons_zero, List.set_cons_succ]
  refine zt [17] (i := 1) rfl (.int .u64 (x 0)) (by kernel_rfl) (by kernel_rfl) (by kernel_rfl) (by kernel_rfl) (fun _ _ _ h => h) hS (fun w' d1 => by obtain ⟨d1, d2, d3, d4, d5⟩ := d1; go_simp) ?_
  try simp only [Act.put, List.setIfInBounds_toArray, List.set_cons_zero, List.set_cons_succ]
  refine zt [17] (i := 2) rfl (.pointer (some ⟨w.heap.size, 2, none⟩)) (by kernel_rfl) (by kernel_rfl) (by kernel_rfl) (by kernel_rfl) (fun _ _ _ h => h) hS (fun w' d1 => by obtain ⟨d1, d2, d3, d4, d5⟩ := d1; go_simp) ?_
  try simp only [Act.put, List.setIfInBounds_toArray, List.set_cons_zero, List.set_cons_succ]
  refine zt [17] (i := 3) rfl (.int .u64 (x 2)) (by kernel_rfl) (by kernel_rfl) (by kernel_rfl) (by kernel_rfl) (fun _ _ _ h => h) hS (fun w' d1 => by obtain ⟨d1, d2, d3, d4, d5⟩ := d1; go_simp) ?_
  try simp only [Act.put, List.setIfInBounds_toArray, List.set_cons_zero, List.set_cons_succ]
  refine zt [17] (i := 4) rfl (.pointer (some ⟨w.heap.size, 4, none⟩)) (by kernel_rfl) (by kernel_rfl) (by kernel_rfl) (by kernel_rfl) (fun _ _ _ h => h) hS (fun w' d1 => by obtain ⟨d1, d2, d3, d4, d5⟩ := d1; go_simp) ?_
  try simp only [Act.put, List.setIfInBounds_toArray, List.set_cons_zero, List.set_cons_succ]
  refine zt [17] (i := 5) rfl (.int .u64 (x 4)) (by kernel_rfl) (by kernel_rfl) (by kernel_rfl) (by kernel_rfl) (fun _ _ _ h => h) hS (fun w' d1 => by obtain ⟨d1, d2, d3, d4, d5⟩ := d1; go_simp) ?_
  try simp only [Act.put, List.setIfInBounds_toArray, List.set_cons_zero, List.set_cons_succ]
  refine zt [17] (i := 6) rfl (tri (x 0) (x 2) (x 4)) (by kernel_rfl) (by kernel_rfl) (by kernel_rfl) (by kernel_rfl) (fun _ _ _ h => h) hS (fun w' d1 => by obtain ⟨d1, d2, d3, d4, d5⟩ := d1; go_simp) ?_
  try simp only [Act.put, List.setIfInBounds_toArray, List.set_cons_zero, List.set_cons_succ]
  refine zt [17] (i := 7) rfl (.pointer (some ⟨w.heap.size, 1, none⟩)) (by kernel_rfl) (by kernel_rfl) (by kernel_rfl) (by kernel_rfl) (fun _ _ _ h => h) hS (fun w' d1 => by obtain ⟨d1, d2, d3, d4, d5⟩ := d1; go_simp) ?_
  try simp only [Act.put, List.setIfInBounds_toArray, List.set_cons_zero, List.set_cons_succ]
  refine zt [17] (i := 8) rfl (.int .u64 (x 1)) (by kernel_rfl) (by kernel_rfl) (by kernel_rfl) (by kernel_rfl) (fun _ _ _ h => h) hS (fun w' d1 => by obtain ⟨d1, d2, d3, d4, d5⟩ := d1; go_simp) ?_
  try simp only [Act.put, List.setIfInBounds_toArray, List.set_cons_zero, List.set_cons_succ]
  refine zt [17] (i := 9) rfl (.pointer (some ⟨w.heap.size, 3, none⟩)) (by kernel_rfl) (by kernel_rfl) (by kernel_rfl) (by kernel_rfl) (fun _ _ _ h => h) hS (fun w' d1 => by obtain ⟨d1, d2, d3, d4, d5⟩ := d1; go_simp) ?_
  try simp only [Act.put, List.setIfInBounds_toArray, List.set_cons_zero, List.set_cons_succ]
  refine zt [17] (i := 10) rfl (.int .u64 (x 3)) (by kernel_rfl) (by kernel_rfl) (by kernel_rfl) (by kernel_rfl) (fun _ _ _ h => h) hS (fun w' d1 => by obtain ⟨d1, d2, d3, d4, d5⟩ := d1; go_simp) ?_
  try simp only [Act.put, List.setIfInBounds_toArray, List.set_cons_zero, List.set_cons_succ]
  refine zt [17] (i := 11) rfl (.int .u64 (IntKind.u64.wrap (IntKind.u64.wrap (x 0 + x 1) * IntKind.u64.wrap (x 2 + x 3)))) (by kernel_rfl) (by kernel_rfl) (by kernel_rfl) (by kernel_rfl) (fun _ _ _ h => h) hS (fun w' d1 => by obtain ⟨d1, d2, d3, d4, d5⟩ := d1; go_simp) ?_
  try simp only [Act.put, List.setIfInBounds_toArray, List.set_cons_zero, List.set_cons_succ]
  refine zt [17] (i := 12) rfl (.pointer (some ⟨w.heap.size, 4, none⟩)) (by kernel_rfl) (by kernel_rfl) (by kernel_rfl) (by kernel_rfl) (fun _ _ _ h => h) hS (fun w' d1 => by obtain ⟨d1, d2, d3, d4, d5⟩ := d1; go_simp) ?_
  try simp only [Act.put, List.setIfInBounds_toArray, List.set_cons_zero, List.set_cons_succ]
  refine zt [17] (i := 13) rfl (.int .u64 (x 4)) (by kernel_rfl) (by kernel_rfl) (by kernel_rfl) (by kernel_rfl) (fun _ _ _ h => h) hS (fun w' d1 => by obtain ⟨d1, d2, d3, d4, d5⟩ := d1; go_simp) ?_
  try simp only [Act.put, List.setIfInBounds_toArray, List.set_cons_zero, List.set_cons_succ]
  refine zt [17] (i := 14) rfl (.int .u64 (IntKind.u64.wrap (IntKind.u64.wrap (IntKind.u64.wrap (x 0 + x 1) * IntKind.u64.wrap (x 2 + x 3)) - x 4))) (by kernel_rfl) (by kernel_rfl) (by kernel_rfl) (by kernel_rfl) (fun _ _ _ h => h) hS (fun w' d1 => by obtain ⟨d1, d2, d3, d4, d5⟩ := d1; go_simp) ?_
  try simp only [Act.put, List.setIfInBounds_toArray, List.set_cons_zero, List.set_cons_succ]
  refine zt [17] (i := 15) rfl (tri (x 1) (x 3) (IntKind.u64.wrap (IntKind.u64.wrap (IntKind.u64.wrap (x 0 + x 1) * IntKind.u64.wrap (x 2 + x 3)) - x 4))) (by kernel_rfl) (by kernel_rfl) (by kernel_rfl) (by kernel_rfl) (fun _ _ _ h => h) hS (fun w' d1 => by obtain ⟨d1, d2, d3, d4, d5⟩ := d1; go_simp) ?_
  try simp only [Act.put, List.setIfInBounds_toArray, List.set_cons_zero, List.set_cons_succ]
  have a0 := HD.out.2.1.cell 0 rfl
  have a1 := HD.out.2.1.cell 1 rfl
  have a2 := HD.out.2.1.cell 2 rfl
  have za := HD.out.2.1.frozen
  refine z1 (i := 16) (by kernel_rfl) rfl (fun K hK => ?_)
  go_simp
  have H2 := Lib.hid (And.intro (((HD.out.1.far (p := ⟨w.heap.size + 1, 0, none⟩) (by show w.heap.size ≠ w.heap.size + 1; omega) (.int .u64 (x 0))).far (p := ⟨w.heap.size + 1, 1, none⟩) (by show w.heap.size ≠ w.heap.size + 1; omega) (.int .u64 (x 2))).far (p := ⟨w.heap.size + 1, 2, none⟩) (by show w.heap.size ≠ w.heap.size + 1; omega) (.int .u64 (x 4))) (And.intro (((HD.out.2.1.set 0 (.int .u64 (x 0))).set 1 (.int .u64 (x 2))).set 2 (.int .u64 (x 4))) (And.intro (((HD.out.2.2.1.far (p := ⟨w.heap.size + 1, 0, none⟩) (by show w.heap.size + 1 + 1 ≠ w.heap.size + 1; omega) (.int .u64 (x 0))).far (p := ⟨w.heap.size + 1, 1, none⟩) (by show w.heap.size + 1 + 1 ≠ w.heap.size + 1; omega) (.int .u64 (x 2))).far (p := ⟨w.heap.size + 1, 2, none⟩) (by show w.heap.size + 1 + 1 ≠ w.heap.size + 1; omega) (.int .u64 (x 4))) (((HD.out.2.2.2.setCell (p := ⟨w.heap.size + 1, 0, none⟩) (by show w.heap.size ≤ w.heap.size + 1; omega) (.int .u64 (x 0))).setCell (p := ⟨w.heap.size + 1, 1, none⟩) (by show w.heap.size ≤ w.heap.size + 1; omega) (.int .u64 (x 2))).setCell (p := ⟨w.heap.size + 1, 2, none⟩) (by show w.heap.size ≤ w.heap.size + 1; omega) (.int .u64 (x 4))))))
  clear a0 a1 a2 za HD hS
  generalize (((w1.setCell ⟨w.heap.size + 1, 0, none⟩ (.int .u64 (x 0))).setCell ⟨w.heap.size + 1, 1, none⟩ (.int .u64 (x 2))).setCell ⟨w.heap.size + 1, 2, none⟩ (.int .u64 (x 4))) = w2 at *
  have hS : (fun w' => w'.cell? ⟨w.heap.size, 0, none⟩ = some (.int .u64 (x 0)) ∧ w'.cell? ⟨w.heap.size, 1, none⟩ = some (.int .u64 (x 1)) ∧ w'.cell? ⟨w.heap.size, 2, none⟩ = some (.int .u64 (x 2)) ∧ w'.cell? ⟨w.heap.size, 3, none⟩ = some (.int .u64 (x 3)) ∧ w'.cell? ⟨w.heap.size, 4, none⟩ = some (.int .u64 (x 4))) w2 := ⟨H2.out.1.cell 0 rfl, H2.out.1.cell 1 rfl, H2.out.1.cell 2 rfl, H2.out.1.cell 3 rfl, H2.out.1.cell 4 rfl⟩
  refine hK.out _ _ (.inr hS) ?_
  clear hK K
  try simp only [Act.put, List.setIfInBounds_toArray, List.set_cons_zero, List.set_cons_succ]
  have b0 := H2.out.2.2.1.cell 0 rfl
  have b1 := H2.out.2.2.1.cell 1 rfl
  have b2 := H2.out.2.2.1.cell 2 rfl
  have zb := H2.out.2.2.1.frozen
  refine z1 (i := 17) (by kernel_rfl) rfl (fun K hK => ?_)
  go_simp
  refine hK.out _ _ (.inl rfl) ?_
  clear hK K
  refine wpAnyZ_done (by kernel_rfl) ?_ _
  go_wp2
  have hA3 := (((H2.out.2.1.far (p := ⟨w.heap.size + 1 + 1, 0, none⟩) (by show w.heap.size + 1 ≠ w.heap.size + 1 + 1; omega) (.int .u64 (x 1))).far (p := ⟨w.heap.size + 1 + 1, 1, none⟩) (by show w.heap.size + 1 ≠ w.heap.size + 1 + 1; omega) (.int .u64 (x 3))).far (p := ⟨w.heap.size + 1 + 1, 2, none⟩) (by show w.heap.size + 1 ≠ w.heap.size + 1 + 1; omega) (.int .u64 (IntKind.u64.wrap (IntKind.u64.wrap (IntKind.u64.wrap (x 0 + x 1) * IntKind.u64.wrap (x 2 + x 3)) - x 4))))
  have hB3 := (((H2.out.2.2.1.set 0 (.int .u64 (x 1))).set 1 (.int .u64 (x 3))).set 2 (.int .u64 (IntKind.u64.wrap (IntKind.u64.wrap (IntKind.u64.wrap (x 0 + x 1) * IntKind.u64.wrap (x 2 + x 3)) - x 4))))
  have p0 := hA3.cell 0 rfl
  have q0 := hB3.cell 0 rfl
  have p1 := hA3.cell 1 rfl
  have q1 := hB3.cell 1 rfl
  have p2 := hA3.cell 2 rfl
  have q2 := hB3.cell 2 rfl
  exact bodyPost_ret (v := .tuple #[tri (x 0) (x 2) (x 4), tri (x 1) (x 3) (IntKind.u64.wrap (IntKind.u64.wrap (IntKind.u64.wrap (x 0 + x 1) * IntKind.u64.wrap (x 2 + x 3)) - x 4))]) (by simp [results, Tryd.results23, go_sem, p0, q0, p1, q1, p2, q2]) rfl
    ⟨rfl, (((H2.out.2.2.2.setCell (p := ⟨w.heap.size + 1 + 1, 0, none⟩) (by show w.heap.size ≤ w.heap.size + 1 + 1; omega) (.int .u64 (x 1))).setCell (p := ⟨w.heap.size + 1 + 1, 1, none⟩) (by show w.heap.size ≤ w.heap.size + 1 + 1; omega) (.int .u64 (x 3))).setCell (p := ⟨w.heap.size + 1 + 1, 2, none⟩) (by show w.heap.size ≤ w.heap.size + 1 + 1; omega) (.int .u64 (IntKind.u64.wrap (IntKind.u64.wrap (IntKind.u64.wrap (x 0 + x 1) * IntKind.u64.wrap (x 2 + x 3)) - x 4))))⟩
set_option maxHeartbeats 4000000 in
set_option maxRecDepth 100000 in
theorem splitB_any (w : World) (x : Nat → Int) :
    Calls Tryd.prog 26 #[.agg (fiv x)] w fun e w' => e = .returned (.tuple #[tri (x 0) (x 2) (x 4), tri (x 1) (x 3) (bits .xor .u64 (bits .and .u64 (bits .xor .u64 (x 0) (x 1)) (bits .xor .u64 (x 2) (x 3))) (x 4))]) ∧ Below w.heap.size w w' := by
  go_enter Tryd.func26, Tryd.ntmps26
  go_wp2
  have hF : Blk (((w.alloc (.cells (fiv x) 74)).alloc (.cells #[.int .u64 0, .int .u64 0, .int .u64 0] 48)).alloc (.cells #[.int .u64 0, .int .u64 0, .int .u64 0] 48)) w.heap.size 74 (fiv x) := ((Blk.new w _ _).alloc _).alloc _
  have hA : Blk (((w.alloc (.cells (fiv x) 74)).alloc (.cells #[.int .u64 0, .int .u64 0, .int .u64 0] 48)).alloc (.cells #[.int .u64 0, .int .u64 0, .int .u64 0] 48)) (w.heap.size + 1) 48 #[.int .u64 0, .int .u64 0, .int .u64 0] := by
    have := (Blk.new (w.alloc (.cells (fiv x) 74)) 48 #[.int .u64 0, .int .u64 0, .int .u64 0]).alloc (.cells #[.int .u64 0, .int .u64 0, .int .u64 0] 48)
    rwa [World.size_alloc] at this
  have hB : Blk (((w.alloc (.cells (fiv x) 74)).alloc (.cells #[.int .u64 0, .int .u64 0, .int .u64 0] 48)).alloc (.cells #[.int .u64 0, .int .u64 0, .int .u64 0] 48)) (w.heap.size + 1 + 1) 48 #[.int .u64 0, .int .u64 0, .int .u64 0] := by
    have := Blk.new ((w.alloc (.cells (fiv x) 74)).alloc (.cells #[.int .u64 0, .int .u64 0, .int .u64 0] 48)) 48 #[.int .u64 0, .int .u64 0, .int .u64 0]
    rwa [World.size_alloc, World.size_alloc] at this
  have hb : Below w.heap.size w (((w.alloc (.cells (fiv x) 74)).alloc (.cells #[.int .u64 0, .int .u64 0, .int .u64 0] 48)).alloc (.cells #[.int .u64 0, .int .u64 0, .int .u64 0] 48)) := (((Below.refl _ w).alloc (Nat.le_refl _) _).alloc (by simp) _).alloc (by simp; omega) _
  have HD := Lib.hid (And.intro hF.drew (And.intro hA.drew (And.intro hB.drew hb.drew)))
  clear hF hA hB hb
  generalize (((w.alloc (.cells (fiv x) 74)).alloc (.cells #[.int .u64 0, .int .u64 0, .int .u64 0] 48)).alloc (.cells #[.int .u64 0, .int .u64 0, .int .u64 0] 48)) = w0 at *
  refine region_z 17 (fun w' => w'.cell? ⟨w.heap.size, 0, none⟩ = some (.int .u64 (x 0)) ∧ w'.cell? ⟨w.heap.size, 1, none⟩ = some (.int .u64 (x 1)) ∧ w'.cell? ⟨w.heap.size, 2, none⟩ = some (.int .u64 (x 2)) ∧ w'.cell? ⟨w.heap.size, 3, none⟩ = some (.int .u64 (x 3)) ∧ w'.cell? ⟨w.heap.size, 4, none⟩ = some (.int .u64 (x 4))) (by kernel_rfl) ?_
  generalize w0.drew = w1 at *
  have hS : (fun w' => w'.cell? ⟨w.heap.size, 0, none⟩ = some (.int .u64 (x 0)) ∧ w'.cell? ⟨w.heap.size, 1, none⟩ = some (.int .u64 (x 1)) ∧ w'.cell? ⟨w.heap.size, 2, none⟩ = some (.int .u64 (x 2)) ∧ w'.cell? ⟨w.heap.size, 3, none⟩ = some (.int .u64 (x 3)) ∧ w'.cell? ⟨w.heap.size, 4, none⟩ = some (.int .u64 (x 4))) w1 := ⟨HD.out.1.cell 0 rfl, HD.out.1.cell 1 rfl, HD.out.1.cell 2 rfl, HD.out.1.cell 3 rfl, HD.out.1.cell 4 rfl⟩
  refine zt [17] (i := 0) rfl (.pointer (some ⟨w.heap.size, 0, none⟩)) (by kernel_rfl) (by kernel_rfl) (by kernel_rfl) (by kernel_rfl) (fun _ _ _ h => h) hS (fun w' d1 => by obtain ⟨d1, d2, d3, d4, d5⟩ := d1; go_simp) ?_
  try simp only [Act.put, List.setIfInBounds_toArray, List.set_cons_zero, List.set_cons_succ]
  refine zt [17] (i := 1) rfl (.int .u64 (x 0)) (by kernel_rfl) (by kernel_rfl) (by kernel_rfl) (by kernel_rfl) (fun _ _ _ h => h) hS (fun w' d1 => by obtain ⟨d1, d2, d3, d4, d5⟩ := d1; go_simp) ?_
  try simp only [Act.put, List.setIfInBounds_toArray, List.set_cons_zero, List.set_cons_succ]
  refine zt [17] (i := 2) rfl (.pointer (some ⟨w.heap.size, 2, none⟩)) (by kernel_rfl) (by kernel_rfl) (by kernel_rfl) (by kernel_rfl) (fun _ _ _ h => h) hS (fun w' d1 => by obtain ⟨d1, d2, d3, d4, d5⟩ := d1; go_simp) ?_
  try simp only [Act.put, List.setIfInBounds_toArray, List.set_cons_zero, List.set_cons_succ]
  refine zt [17] (i := 3) rfl (.int .u64 (x 2)) (by kernel_rfl) (by kernel_rfl) (by kernel_rfl) (by kernel_rfl) (fun _ _ _ h => h) hS (fun w' d1 => by obtain ⟨d1, d2, d3, d4, d5⟩ := d1; go_simp) ?_
  try simp only [Act.put, List.setIfInBounds_toArray, List.set_cons_zero, List.set_cons_succ]
  refine zt [17] (i := 4) rfl (.pointer (some ⟨w.heap.size, 4, none⟩)) (by kernel_rfl) (by kernel_rfl) (by kernel_rfl) (by kernel_rfl) (fun _ _ _ h => h) hS (fun w' d1 => by obtain ⟨d1, d2, d3, d4, d5⟩ := d1; go_simp) ?_
  try simp only [Act.put, List.setIfInBounds_toArray, List.set_cons_zero, List.set_cons_succ]
  refine zt [17] (i := 5) rfl (.int .u64 (x 4)) (by kernel_rfl) (by kernel_rfl) (by kernel_rfl) (by kernel_rfl) (fun _ _ _ h => h) hS (fun w' d1 => by obtain ⟨d1, d2, d3, d4, d5⟩ := d1; go_simp) ?_
  try simp only [Act.put, List.setIfInBounds_toArray, List.set_cons_zero, List.set_cons_succ]
  refine zt [17] (i := 6) rfl (tri (x 0) (x 2) (x 4)) (by kernel_rfl) (by kernel_rfl) (by kernel_rfl) (by kernel_rfl) (fun _ _ _ h => h) hS (fun w' d1 => by obtain ⟨d1, d2, d3, d4, d5⟩ := d1; go_simp) ?_
  try simp only [Act.put, List.setIfInBounds_toArray, List.set_cons_zero, List.set_cons_succ]
  refine zt [17] (i := 7) rfl (.pointer (some ⟨w.heap.size, 1, none⟩)) (by kernel_rfl) (by kernel_rfl) (by kernel_rfl) (by kernel_rfl) (fun _ _ _ h => h) hS (fun w' d1 => by obtain ⟨d1, d2, d3, d4, d5⟩ := d1; go_simp) ?_
  try simp only [Act.put, List.setIfInBounds_toArray, List.set_cons_zero, List.set_cons_succ]
  refine zt [17] (i := 8) rfl (.int .u64 (x 1)) (by kernel_rfl) (by kernel_rfl) (by kernel_rfl) (by kernel_rfl) (fun _ _ _ h => h) hS (fun w' d1 => by obtain ⟨d1, d2, d3, d4, d5⟩ := d1; go_simp) ?_
  try simp only [Act.put, List.setIfInBounds_toArray, List.set_cons_zero, List.set_cons_succ]
  refine zt [17] (i := 9) rfl (.pointer (some ⟨w.heap.size, 3, none⟩)) (by kernel_rfl) (by kernel_rfl) (by kernel_rfl) (by kernel_rfl) (fun _ _ _ h => h) hS (fun w' d1 => by obtain ⟨d1, d2, d3, d4, d5⟩ := d1; go_simp) ?_
  try simp only [Act.put, List.setIfInBounds_toArray, List.set_cons_zero, List.set_cons_succ]
  refine zt [17] (i := 10) rfl (.int .u64 (x 3)) (by kernel_rfl) (by kernel_rfl) (by kernel_rfl) (by kernel_rfl) (fun _ _ _ h => h) hS (fun w' d1 => by obtain ⟨d1, d2, d3, d4, d5⟩ := d1; go_simp) ?_
  try simp only [Act.put, List.setIfInBounds_toArray, List.set_cons_zero, List.set_cons_succ]
  refine zt [17] (i := 11) rfl (.int .u64 (bits .and .u64 (bits .xor .u64 (x 0) (x 1)) (bits .xor .u64 (x 2) (x 3)))) (by kernel_rfl) (by kernel_rfl) (by kernel_rfl) (by kernel_rfl) (fun _ _ _ h => h) hS (fun w' d1 => by obtain ⟨d1, d2, d3, d4, d5⟩ := d1; go_simp) ?_
  try simp only [Act.put, List.setIfInBounds_toArray, List.set_cons_zero, List.set_cons_succ]
  refine zt [17] (i := 12) rfl (.pointer (some ⟨w.heap.size, 4, none⟩)) (by kernel_rfl) (by kernel_rfl) (by kernel_rfl) (by kernel_rfl) (fun _ _ _ h => h) hS (fun w' d1 => by obtain ⟨d1, d2, d3, d4, d5⟩ := d1; go_simp) ?_
  try simp only [Act.put, List.setIfInBounds_toArray, List.set_cons_zero, List.set_cons_succ]
  refine zt [17] (i := 13) rfl (.int .u64 (x 4)) (by kernel_rfl) (by kernel_rfl) (by kernel_rfl) (by kernel_rfl) (fun _ _ _ h => h) hS (fun w' d1 => by obtain ⟨d1, d2, d3, d4, d5⟩ := d1; go_simp) ?_
  try simp only [Act.put, List.setIfInBounds_toArray, List.set_cons_zero, List.set_cons_succ]
  refine zt [17] (i := 14) rfl (.int .u64 (bits .xor .u64 (bits .and .u64 (bits .xor .u64 (x 0) (x 1)) (bits .xor .u64 (x 2) (x 3))) (x 4))) (by kernel_rfl) (by kernel_rfl) (by kernel_rfl) (by kernel_rfl) (fun _ _ _ h => h) hS (fun w' d1 => by obtain ⟨d1, d2, d3, d4, d5⟩ := d1; go_simp) ?_
  try simp only [Act.put, List.setIfInBounds_toArray, List.set_cons_zero, List.set_cons_succ]
  refine zt [17] (i := 15) rfl (tri (x 1) (x 3) (bits .xor .u64 (bits .and .u64 (bits .xor .u64 (x 0) (x 1)) (bits .xor .u64 (x 2) (x 3))) (x 4))) (by kernel_rfl) (by kernel_rfl) (by kernel_rfl) (by kernel_rfl) (fun _ _ _ h => h) hS (fun w' d1 => by obtain ⟨d1, d2, d3, d4, d5⟩ := d1; go_simp) ?_
  try simp only [Act.put, List.setIfInBounds_toArray, List.set_cons_zero, List.set_cons_succ]
  have a0 := HD.out.2.1.cell 0 rfl
  have a1 := HD.out.2.1.cell 1 rfl
  have a2 := HD.out.2.1.cell 2 rfl
  have za := HD.out.2.1.frozen
  refine z1 (i := 16) (by kernel_rfl) rfl (fun K hK => ?_)
  go_simp
  have H2 := Lib.hid (And.intro (((HD.out.1.far (p := ⟨w.heap.size + 1, 0, none⟩) (by show w.heap.size ≠ w.heap.size + 1; omega) (.int .u64 (x 0))).far (p := ⟨w.heap.size + 1, 1, none⟩) (by show w.heap.size ≠ w.heap.size + 1; omega) (.int .u64 (x 2))).far (p := ⟨w.heap.size + 1, 2, none⟩) (by show w.heap.size ≠ w.heap.size + 1; omega) (.int .u64 (x 4))) (And.intro (((HD.out.2.1.set 0 (.int .u64 (x 0))).set 1 (.int .u64 (x 2))).set 2 (.int .u64 (x 4))) (And.intro (((HD.out.2.2.1.far (p := ⟨w.heap.size + 1, 0, none⟩) (by show w.heap.size + 1 + 1 ≠ w.heap.size + 1; omega) (.int .u64 (x 0))).far (p := ⟨w.heap.size + 1, 1, none⟩) (by show w.heap.size + 1 + 1 ≠ w.heap.size + 1; omega) (.int .u64 (x 2))).far (p := ⟨w.heap.size + 1, 2, none⟩) (by show w.heap.size + 1 + 1 ≠ w.heap.size + 1; omega) (.int .u64 (x 4))) (((HD.out.2.2.2.setCell (p := ⟨w.heap.size + 1, 0, none⟩) (by show w.heap.size ≤ w.heap.size + 1; omega) (.int .u64 (x 0))).setCell (p := ⟨w.heap.size + 1, 1, none⟩) (by show w.heap.size ≤ w.heap.size + 1; omega) (.int .u64 (x 2))).setCell (p := ⟨w.heap.size + 1, 2, none⟩) (by show w.heap.size ≤ w.heap.size + 1; omega) (.int .u64 (x 4))))))
  clear a0 a1 a2 za HD hS
  generalize (((w1.setCell ⟨w.heap.size + 1, 0, none⟩ (.int .u64 (x 0))).setCell ⟨w.heap.size + 1, 1, none⟩ (.int .u64 (x 2))).setCell ⟨w.heap.size + 1, 2, none⟩ (.int .u64 (x 4))) = w2 at *
  have hS : (fun w' => w'.cell? ⟨w.heap.size, 0, none⟩ = some (.int .u64 (x 0)) ∧ w'.cell? ⟨w.heap.size, 1, none⟩ = some (.int .u64 (x 1)) ∧ w'.cell? ⟨w.heap.size, 2, none⟩ = some (.int .u64 (x 2)) ∧ w'.cell? ⟨w.heap.size, 3, none⟩ = some (.int .u64 (x 3)) ∧ w'.cell? ⟨w.heap.size, 4, none⟩ = some (.int .u64 (x 4))) w2 := ⟨H2.out.1.cell 0 rfl, H2.out.1.cell 1 rfl, H2.out.1.cell 2 rfl, H2.out.1.cell 3 rfl, H2.out.1.cell 4 rfl⟩
  refine hK.out _ _ (.inr hS) ?_
  clear hK K
  try simp only [Act.put, List.setIfInBounds_toArray, List.set_cons_zero, List.set_cons_succ]
  have b0 := H2.out.2.2.1.cell 0 rfl
  have b1 := H2.out.2.2.1.cell 1 rfl
  have b2 := H2.out.2.2.1.cell 2 rfl
  have zb := H2.out.2.2.1.frozen
  refine z1 (i := 17) (by kernel_rfl) rfl (fun K hK => ?_)
  go_simp
  refine hK.out _ _ (.inl rfl) ?_
  clear hK K
  refine wpAnyZ_done (by kernel_rfl) ?_ _
  go_wp2
  have hA3 := (((H2.out.2.1.far (p := ⟨w.heap.size + 1 + 1, 0, none⟩) (by show w.heap.size + 1 ≠ w.heap.size + 1 + 1; omega) (.int .u64 (x 1))).far (p := ⟨w.heap.size + 1 + 1, 1, none⟩) (by show w.heap.size + 1 ≠ w.heap.size + 1 + 1; omega) (.int .u64 (x 3))).far (p := ⟨w.heap.size + 1 + 1, 2, none⟩) (by show w.heap.size + 1 ≠ w.heap.size + 1 + 1; omega) (.int .u64 (bits .xor .u64 (bits .and .u64 (bits .xor .u64 (x 0) (x 1)) (bits .xor .u64 (x 2) (x 3))) (x 4))))
  have hB3 := (((H2.out.2.2.1.set 0 (.int .u64 (x 1))).set 1 (.int .u64 (x 3))).set 2 (.int .u64 (bits .xor .u64 (bits .and .u64 (bits .xor .u64 (x 0) (x 1)) (bits .xor .u64 (x 2) (x 3))) (x 4))))
  have p0 := hA3.cell 0 rfl
  have q0 := hB3.cell 0 rfl
  have p1 := hA3.cell 1 rfl
  have q1 := hB3.cell 1 rfl
  have p2 := hA3.cell 2 rfl
  have q2 := hB3.cell 2 rfl
  exact bodyPost_ret (v := .tuple #[tri (x 0) (x 2) (x 4), tri (x 1) (x 3) (bits .xor .u64 (bits .and .u64 (bits .xor .u64 (x 0) (x 1)) (bits .xor .u64 (x 2) (x 3))) (x 4))]) (by simp [results, Tryd.results26, go_sem, p0, q0, p1, q1, p2, q2]) rfl
    ⟨rfl, (((H2.out.2.2.2.setCell (p := ⟨w.heap.size + 1 + 1, 0, none⟩) (by show w.heap.size ≤ w.heap.size + 1 + 1; omega) (.int .u64 (x 1))).setCell (p := ⟨w.heap.size + 1 + 1, 1, none⟩) (by show w.heap.size ≤ w.heap.size + 1 + 1; omega) (.int .u64 (x 3))).setCell (p := ⟨w.heap.size + 1 + 1, 2, none⟩) (by show w.heap.size ≤ w.heap.size + 1 + 1; omega) (.int .u64 (bits .xor .u64 (bits .and .u64 (bits .xor .u64 (x 0) (x 1)) (bits .xor .u64 (x 2) (x 3))) (x 4))))⟩
end Go.Proofs.YtgmlmngnedhllaaDoor
