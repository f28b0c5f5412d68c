/- The contract of corr's splitOT. -/
import Derived.Test.YtgmlmngnedhllaaDoorQS
namespace Go.Proofs.YtgmlmngnedhllaaDoor
open Go.RowKit

theorem and_one_mod (a : Int) : bits .and .u64 a 1 = a % 2 := by
  show IntKind.u64.wrap ((BitVec.ofInt 64 a &&& BitVec.ofInt 64 1).toNat : Int) = _
  have h1 : (BitVec.ofInt 64 1).toNat = 1 := by decide
  rw [BitVec.toNat_and, h1, Nat.and_one_is_mod, BitVec.toNat_ofInt, u64w]
  omega
theorem and_one (a : Int) : bits .and .u64 a 1 = 0 ∨ bits .and .u64 a 1 = 1 := by
  rw [and_one_mod]; omega
set_option maxHeartbeats 4000000 in
set_option maxRecDepth 100000 in
theorem splitO_any0 (w : World) (x : Nat → Int) (hk : bits .and .u64 (x 4) 1 = 0) :
    Calls Tryd.prog 27 #[.agg (fiv x)] w fun e w' => e = .returned (.tuple #[otv (x 0) (x 1) (x 2) (x 3) false, otv (x 0) (x 1) 0 0 false]) ∧ Below w.heap.size w w' := by
  go_enter Tryd.func27, Tryd.ntmps27
  go_wp2
  have hL : Blk ((((w.alloc (.cells (fiv x) 74)).alloc (.cells #[.int .u64 0, .int .u64 0, .int .u64 0, .int .u64 0, .bool false] 55)).alloc (.cells #[.int .u64 0, .int .u64 0, .int .u64 0, .int .u64 0, .bool false] 55)).alloc (.cells #[.int .u64 (x 0), .int .u64 (x 1), .int .u64 (x 2), .int .u64 (x 3)] 53)) (w.heap.size + 1 + 1 + 1) 53 #[.int .u64 (x 0), .int .u64 (x 1), .int .u64 (x 2), .int .u64 (x 3)] := by
    have := Blk.new (((w.alloc (.cells (fiv x) 74)).alloc (.cells #[.int .u64 0, .int .u64 0, .int .u64 0, .int .u64 0, .bool false] 55)).alloc (.cells #[.int .u64 0, .int .u64 0, .int .u64 0, .int .u64 0, .bool false] 55)) 53 #[.int .u64 (x 0), .int .u64 (x 1), .int .u64 (x 2), .int .u64 (x 3)]
    rwa [World.size_alloc, World.size_alloc, World.size_alloc] at this
  have hA : Blk ((((w.alloc (.cells (fiv x) 74)).alloc (.cells #[.int .u64 0, .int .u64 0, .int .u64 0, .int .u64 0, .bool false] 55)).alloc (.cells #[.int .u64 0, .int .u64 0, .int .u64 0, .int .u64 0, .bool false] 55)).alloc (.cells #[.int .u64 (x 0), .int .u64 (x 1), .int .u64 (x 2), .int .u64 (x 3)] 53)) (w.heap.size + 1) 55 #[.int .u64 0, .int .u64 0, .int .u64 0, .int .u64 0, .bool false] := by
    have := ((Blk.new (w.alloc (.cells (fiv x) 74)) 55 #[.int .u64 0, .int .u64 0, .int .u64 0, .int .u64 0, .bool false]).alloc (.cells #[.int .u64 0, .int .u64 0, .int .u64 0, .int .u64 0, .bool false] 55)).alloc (.cells #[.int .u64 (x 0), .int .u64 (x 1), .int .u64 (x 2), .int .u64 (x 3)] 53)
    rwa [World.size_alloc] at this
  have hB : Blk ((((w.alloc (.cells (fiv x) 74)).alloc (.cells #[.int .u64 0, .int .u64 0, .int .u64 0, .int .u64 0, .bool false] 55)).alloc (.cells #[.int .u64 0, .int .u64 0, .int .u64 0, .int .u64 0, .bool false] 55)).alloc (.cells #[.int .u64 (x 0), .int .u64 (x 1), .int .u64 (x 2), .int .u64 (x 3)] 53)) (w.heap.size + 1 + 1) 55 #[.int .u64 0, .int .u64 0, .int .u64 0, .int .u64 0, .bool false] := by
    have := (Blk.new ((w.alloc (.cells (fiv x) 74)).alloc (.cells #[.int .u64 0, .int .u64 0, .int .u64 0, .int .u64 0, .bool false] 55)) 55 #[.int .u64 0, .int .u64 0, .int .u64 0, .int .u64 0, .bool false]).alloc (.cells #[.int .u64 (x 0), .int .u64 (x 1), .int .u64 (x 2), .int .u64 (x 3)] 53)
    rwa [World.size_alloc, World.size_alloc] at this
  have hb : Below w.heap.size w ((((w.alloc (.cells (fiv x) 74)).alloc (.cells #[.int .u64 0, .int .u64 0, .int .u64 0, .int .u64 0, .bool false] 55)).alloc (.cells #[.int .u64 0, .int .u64 0, .int .u64 0, .int .u64 0, .bool false] 55)).alloc (.cells #[.int .u64 (x 0), .int .u64 (x 1), .int .u64 (x 2), .int .u64 (x 3)] 53)) := ((((Below.refl _ w).alloc (Nat.le_refl _) _).alloc (by simp) _).alloc (by simp; omega) _).alloc (by simp; omega) _
  have HD := Lib.hid (And.intro hL.drew (And.intro hA.drew (And.intro hB.drew hb.drew)))
  clear hL hA hB hb
  generalize ((((w.alloc (.cells (fiv x) 74)).alloc (.cells #[.int .u64 0, .int .u64 0, .int .u64 0, .int .u64 0, .bool false] 55)).alloc (.cells #[.int .u64 0, .int .u64 0, .int .u64 0, .int .u64 0, .bool false] 55)).alloc (.cells #[.int .u64 (x 0), .int .u64 (x 1), .int .u64 (x 2), .int .u64 (x 3)] 53)) = w0 at *
  refine region_z 10 (fun w' => w'.cell? ⟨w.heap.size + 1 + 1 + 1, 0, none⟩ = some (.int .u64 (x 0)) ∧ w'.cell? ⟨w.heap.size + 1 + 1 + 1, 1, none⟩ = some (.int .u64 (x 1)) ∧ w'.cell? ⟨w.heap.size + 1 + 1 + 1, 2, none⟩ = some (.int .u64 (x 2)) ∧ w'.cell? ⟨w.heap.size + 1 + 1 + 1, 3, none⟩ = some (.int .u64 (x 3))) (by kernel_rfl) ?_
  generalize w0.drew = w1 at *
  have hS : (fun w' => w'.cell? ⟨w.heap.size + 1 + 1 + 1, 0, none⟩ = some (.int .u64 (x 0)) ∧ w'.cell? ⟨w.heap.size + 1 + 1 + 1, 1, none⟩ = some (.int .u64 (x 1)) ∧ w'.cell? ⟨w.heap.size + 1 + 1 + 1, 2, none⟩ = some (.int .u64 (x 2)) ∧ w'.cell? ⟨w.heap.size + 1 + 1 + 1, 3, none⟩ = some (.int .u64 (x 3))) w1 := ⟨HD.out.1.cell 0 rfl, HD.out.1.cell 1 rfl, HD.out.1.cell 2 rfl, HD.out.1.cell 3 rfl⟩
  refine zt [10] (i := 0) rfl (.agg #[.int .u64 (x 0), .int .u64 (x 1), .int .u64 (x 2), .int .u64 (x 3)]) (by kernel_rfl) (by kernel_rfl) (by kernel_rfl) (by kernel_rfl) (fun _ _ _ h => h) hS (fun w' d1 => by obtain ⟨d1, d2, d3, d4⟩ := d1; go_simp) ?_
  try simp only [Act.put, List.setIfInBounds_toArray, List.set_cons_zero, List.set_cons_succ]
  refine zt [10] (i := 1) rfl (otv (x 0) (x 1) (x 2) (x 3) false) (by kernel_rfl) (by kernel_rfl) (by kernel_rfl) (by kernel_rfl) (fun _ _ _ h => h) hS (fun w' d1 => by obtain ⟨d1, d2, d3, d4⟩ := d1; go_simp) ?_
  try simp only [Act.put, List.setIfInBounds_toArray, List.set_cons_zero, List.set_cons_succ]
  refine zt [10] (i := 2) rfl (.int .u64 0) (by kernel_rfl) (by kernel_rfl) (by kernel_rfl) (by kernel_rfl) (fun _ _ _ h => h) hS (fun w' d1 => by obtain ⟨d1, d2, d3, d4⟩ := d1; go_simp) ?_
  try simp only [Act.put, List.setIfInBounds_toArray, List.set_cons_zero, List.set_cons_succ]
  refine zt [10] (i := 3) rfl (.pointer (some ⟨w.heap.size + 1 + 1 + 1, 0, none⟩)) (by kernel_rfl) (by kernel_rfl) (by kernel_rfl) (by kernel_rfl) (fun _ _ _ h => h) hS (fun w' d1 => by obtain ⟨d1, d2, d3, d4⟩ := d1; go_simp) ?_
  try simp only [Act.put, List.setIfInBounds_toArray, List.set_cons_zero, List.set_cons_succ]
  refine zt [10] (i := 4) rfl (.agg #[.int .u64 (x 0), .int .u64 (x 1)]) (by kernel_rfl) (by kernel_rfl) (by kernel_rfl) (by kernel_rfl) (fun _ _ _ h => h) hS (fun w' d1 => by obtain ⟨d1, d2, d3, d4⟩ := d1; go_simp) ?_
  try simp only [Act.put, List.setIfInBounds_toArray, List.set_cons_zero, List.set_cons_succ]
  refine zt [10] (i := 5) rfl (.agg #[.int .u64 (x 0), .int .u64 (x 1), .int .u64 0, .int .u64 0]) (by kernel_rfl) (by kernel_rfl) (by kernel_rfl) (by kernel_rfl) (fun _ _ _ h => h) hS (fun w' d1 => by obtain ⟨d1, d2, d3, d4⟩ := d1; go_simp) ?_
  try simp only [Act.put, List.setIfInBounds_toArray, List.set_cons_zero, List.set_cons_succ]
  refine zt [10] (i := 6) rfl (.int .u64 0) (by kernel_rfl) (by kernel_rfl) (by kernel_rfl) (by kernel_rfl) (fun _ _ _ h => h) hS (fun w' d1 => by obtain ⟨d1, d2, d3, d4⟩ := d1; go_simp) ?_
  try simp only [Act.put, List.setIfInBounds_toArray, List.set_cons_zero, List.set_cons_succ]
  refine zt [10] (i := 7) rfl (.bool false) (by kernel_rfl) (by kernel_rfl) (by kernel_rfl) (by kernel_rfl) (fun _ _ _ h => h) hS (fun w' d1 => by obtain ⟨d1, d2, d3, d4⟩ := d1; go_simp) ?_
  try simp only [Act.put, List.setIfInBounds_toArray, List.set_cons_zero, List.set_cons_succ]
  refine zt [10] (i := 8) rfl (otv (x 0) (x 1) 0 0 false) (by kernel_rfl) (by kernel_rfl) (by kernel_rfl) (by kernel_rfl) (fun _ _ _ h => h) hS (fun w' d1 => by obtain ⟨d1, d2, d3, d4⟩ := d1; go_simp) ?_
  try simp only [Act.put, List.setIfInBounds_toArray, List.set_cons_zero, List.set_cons_succ]
  have a0 := HD.out.2.1.cell 0 rfl
  have a1 := HD.out.2.1.cell 1 rfl
  have a2 := HD.out.2.1.cell 2 rfl
  have a3 := HD.out.2.1.cell 3 rfl
  have a4 := HD.out.2.1.cell 4 rfl
  have za := HD.out.2.1.frozen
  refine z1 (i := 9) (by kernel_rfl) rfl (fun K hK => ?_)
  go_simp
  have H2 := Lib.hid (And.intro (((((HD.out.1.far (p := ⟨w.heap.size + 1, 0, none⟩) (by show w.heap.size + 1 + 1 + 1 ≠ w.heap.size + 1; omega) (.int .u64 (x 0))).far (p := ⟨w.heap.size + 1, 1, none⟩) (by show w.heap.size + 1 + 1 + 1 ≠ w.heap.size + 1; omega) (.int .u64 (x 1))).far (p := ⟨w.heap.size + 1, 2, none⟩) (by show w.heap.size + 1 + 1 + 1 ≠ w.heap.size + 1; omega) (.int .u64 (x 2))).far (p := ⟨w.heap.size + 1, 3, none⟩) (by show w.heap.size + 1 + 1 + 1 ≠ w.heap.size + 1; omega) (.int .u64 (x 3))).far (p := ⟨w.heap.size + 1, 4, none⟩) (by show w.heap.size + 1 + 1 + 1 ≠ w.heap.size + 1; omega) (.bool false)) (And.intro (((((HD.out.2.1.set 0 (.int .u64 (x 0))).set 1 (.int .u64 (x 1))).set 2 (.int .u64 (x 2))).set 3 (.int .u64 (x 3))).set 4 (.bool false)) (And.intro (((((HD.out.2.2.1.far (p := ⟨w.heap.size + 1, 0, none⟩) (by show w.heap.size + 1 + 1 ≠ w.heap.size + 1; omega) (.int .u64 (x 0))).far (p := ⟨w.heap.size + 1, 1, none⟩) (by show w.heap.size + 1 + 1 ≠ w.heap.size + 1; omega) (.int .u64 (x 1))).far (p := ⟨w.heap.size + 1, 2, none⟩) (by show w.heap.size + 1 + 1 ≠ w.heap.size + 1; omega) (.int .u64 (x 2))).far (p := ⟨w.heap.size + 1, 3, none⟩) (by show w.heap.size + 1 + 1 ≠ w.heap.size + 1; omega) (.int .u64 (x 3))).far (p := ⟨w.heap.size + 1, 4, none⟩) (by show w.heap.size + 1 + 1 ≠ w.heap.size + 1; omega) (.bool false)) (((((HD.out.2.2.2.setCell (p := ⟨w.heap.size + 1, 0, none⟩) (by show w.heap.size ≤ w.heap.size + 1; omega) (.int .u64 (x 0))).setCell (p := ⟨w.heap.size + 1, 1, none⟩) (by show w.heap.size ≤ w.heap.size + 1; omega) (.int .u64 (x 1))).setCell (p := ⟨w.heap.size + 1, 2, none⟩) (by show w.heap.size ≤ w.heap.size + 1; omega) (.int .u64 (x 2))).setCell (p := ⟨w.heap.size + 1, 3, none⟩) (by show w.heap.size ≤ w.heap.size + 1; omega) (.int .u64 (x 3))).setCell (p := ⟨w.heap.size + 1, 4, none⟩) (by show w.heap.size ≤ w.heap.size + 1; omega) (.bool false)))))
  clear a0 a1 a2 a3 a4 za HD hS
  generalize (((((w1.setCell ⟨w.heap.size + 1, 0, none⟩ (.int .u64 (x 0))).setCell ⟨w.heap.size + 1, 1, none⟩ (.int .u64 (x 1))).setCell ⟨w.heap.size + 1, 2, none⟩ (.int .u64 (x 2))).setCell ⟨w.heap.size + 1, 3, none⟩ (.int .u64 (x 3))).setCell ⟨w.heap.size + 1, 4, none⟩ (.bool false)) = w2 at *
  have hS : (fun w' => w'.cell? ⟨w.heap.size + 1 + 1 + 1, 0, none⟩ = some (.int .u64 (x 0)) ∧ w'.cell? ⟨w.heap.size + 1 + 1 + 1, 1, none⟩ = some (.int .u64 (x 1)) ∧ w'.cell? ⟨w.heap.size + 1 + 1 + 1, 2, none⟩ = some (.int .u64 (x 2)) ∧ w'.cell? ⟨w.heap.size + 1 + 1 + 1, 3, none⟩ = some (.int .u64 (x 3))) w2 := ⟨H2.out.1.cell 0 rfl, H2.out.1.cell 1 rfl, H2.out.1.cell 2 rfl, H2.out.1.cell 3 rfl⟩
  refine hK.out _ _ (.inr hS) ?_
  clear hK K
  try simp only [Act.put, List.setIfInBounds_toArray, List.set_cons_zero, List.set_cons_succ]
  have b0 := H2.out.2.2.1.cell 0 rfl
  have b1 := H2.out.2.2.1.cell 1 rfl
  have b2 := H2.out.2.2.1.cell 2 rfl
  have b3 := H2.out.2.2.1.cell 3 rfl
  have b4 := H2.out.2.2.1.cell 4 rfl
  have zb := H2.out.2.2.1.frozen
  refine z1 (i := 10) (by kernel_rfl) rfl (fun K hK => ?_)
  go_simp
  refine hK.out _ _ (.inl rfl) ?_
  clear hK K
  refine wpAnyZ_done (by kernel_rfl) ?_ _
  go_wp2
  have hA3 := (((((H2.out.2.1.far (p := ⟨w.heap.size + 1 + 1, 0, none⟩) (by show w.heap.size + 1 ≠ w.heap.size + 1 + 1; omega) (.int .u64 (x 0))).far (p := ⟨w.heap.size + 1 + 1, 1, none⟩) (by show w.heap.size + 1 ≠ w.heap.size + 1 + 1; omega) (.int .u64 (x 1))).far (p := ⟨w.heap.size + 1 + 1, 2, none⟩) (by show w.heap.size + 1 ≠ w.heap.size + 1 + 1; omega) (.int .u64 0)).far (p := ⟨w.heap.size + 1 + 1, 3, none⟩) (by show w.heap.size + 1 ≠ w.heap.size + 1 + 1; omega) (.int .u64 0)).far (p := ⟨w.heap.size + 1 + 1, 4, none⟩) (by show w.heap.size + 1 ≠ w.heap.size + 1 + 1; omega) (.bool false))
  have hB3 := (((((H2.out.2.2.1.set 0 (.int .u64 (x 0))).set 1 (.int .u64 (x 1))).set 2 (.int .u64 0)).set 3 (.int .u64 0)).set 4 (.bool false))
  have p0 := hA3.cell 0 rfl
  have q0 := hB3.cell 0 rfl
  have p1 := hA3.cell 1 rfl
  have q1 := hB3.cell 1 rfl
  have p2 := hA3.cell 2 rfl
  have q2 := hB3.cell 2 rfl
  have p3 := hA3.cell 3 rfl
  have q3 := hB3.cell 3 rfl
  have p4 := hA3.cell 4 rfl
  have q4 := hB3.cell 4 rfl
  exact bodyPost_ret (v := .tuple #[otv (x 0) (x 1) (x 2) (x 3) false, otv (x 0) (x 1) 0 0 false]) (by simp [results, Tryd.results27, go_sem, p0, q0, p1, q1, p2, q2, p3, q3, p4, q4]) rfl
    ⟨rfl, (((((H2.out.2.2.2.setCell (p := ⟨w.heap.size + 1 + 1, 0, none⟩) (by show w.heap.size ≤ w.heap.size + 1 + 1; omega) (.int .u64 (x 0))).setCell (p := ⟨w.heap.size + 1 + 1, 1, none⟩) (by show w.heap.size ≤ w.heap.size + 1 + 1; omega) (.int .u64 (x 1))).setCell (p := ⟨w.heap.size + 1 + 1, 2, none⟩) (by show w.heap.size ≤ w.heap.size + 1 + 1; omega) (.int .u64 0)).setCell (p := ⟨w.heap.size + 1 + 1, 3, none⟩) (by show w.heap.size ≤ w.heap.size + 1 + 1; omega) (.int .u64 0)).setCell (p := ⟨w.heap.size + 1 + 1, 4, none⟩) (by show w.heap.size ≤ w.heap.size + 1 + 1; omega) (.bool false))⟩
set_option maxHeartbeats 4000000 in
set_option maxRecDepth 100000 in
theorem splitO_any1 (w : World) (x : Nat → Int) (hk : bits .and .u64 (x 4) 1 = 1) :
    Calls Tryd.prog 27 #[.agg (fiv x)] w fun e w' => e = .returned (.tuple #[otv (x 0) (x 1) (x 2) (x 3) false, otv (x 2) (x 3) 0 0 true]) ∧ Below w.heap.size w w' := by
  go_enter Tryd.func27, Tryd.ntmps27
  go_wp2
  have hL : Blk ((((w.alloc (.cells (fiv x) 74)).alloc (.cells #[.int .u64 0, .int .u64 0, .int .u64 0, .int .u64 0, .bool false] 55)).alloc (.cells #[.int .u64 0, .int .u64 0, .int .u64 0, .int .u64 0, .bool false] 55)).alloc (.cells #[.int .u64 (x 0), .int .u64 (x 1), .int .u64 (x 2), .int .u64 (x 3)] 53)) (w.heap.size + 1 + 1 + 1) 53 #[.int .u64 (x 0), .int .u64 (x 1), .int .u64 (x 2), .int .u64 (x 3)] := by
    have := Blk.new (((w.alloc (.cells (fiv x) 74)).alloc (.cells #[.int .u64 0, .int .u64 0, .int .u64 0, .int .u64 0, .bool false] 55)).alloc (.cells #[.int .u64 0, .int .u64 0, .int .u64 0, .int .u64 0, .bool false] 55)) 53 #[.int .u64 (x 0), .int .u64 (x 1), .int .u64 (x 2), .int .u64 (x 3)]
    rwa [World.size_alloc, World.size_alloc, World.size_alloc] at this
  have hA : Blk ((((w.alloc (.cells (fiv x) 74)).alloc (.cells #[.int .u64 0, .int .u64 0, .int .u64 0, .int .u64 0, .bool false] 55)).alloc (.cells #[.int .u64 0, .int .u64 0, .int .u64 0, .int .u64 0, .bool false] 55)).alloc (.cells #[.int .u64 (x 0), .int .u64 (x 1), .int .u64 (x 2), .int .u64 (x 3)] 53)) (w.heap.size + 1) 55 #[.int .u64 0, .int .u64 0, .int .u64 0, .int .u64 0, .bool false] := by
    have := ((Blk.new (w.alloc (.cells (fiv x) 74)) 55 #[.int .u64 0, .int .u64 0, .int .u64 0, .int .u64 0, .bool false]).alloc (.cells #[.int .u64 0, .int .u64 0, .int .u64 0, .int .u64 0, .bool false] 55)).alloc (.cells #[.int .u64 (x 0), .int .u64 (x 1), .int .u64 (x 2), .int .u64 (x 3)] 53)
    rwa [World.size_alloc] at this
  have hB : Blk ((((w.alloc (.cells (fiv x) 74)).alloc (.cells #[.int .u64 0, .int .u64 0, .int .u64 0, .int .u64 0, .bool false] 55)).alloc (.cells #[.int .u64 0, .int .u64 0, .int .u64 0, .int .u64 0, .bool false] 55)).alloc (.cells #[.int .u64 (x 0), .int .u64 (x 1), .int .u64 (x 2), .int .u64 (x 3)] 53)) (w.heap.size + 1 + 1) 55 #[.int .u64 0, .int .u64 0, .int .u64 0, .int .u64 0, .bool false] := by
    have := (Blk.new ((w.alloc (.cells (fiv x) 74)).alloc (.cells #[.int .u64 0, .int .u64 0, .int .u64 0, .int .u64 0, .bool false] 55)) 55 #[.int .u64 0, .int .u64 0, .int .u64 0, .int .u64 0, .bool false]).alloc (.cells #[.int .u64 (x 0), .int .u64 (x 1), .int .u64 (x 2), .int .u64 (x 3)] 53)
    rwa [World.size_alloc, World.size_alloc] at this
  have hb : Below w.heap.size w ((((w.alloc (.cells (fiv x) 74)).alloc (.cells #[.int .u64 0, .int .u64 0, .int .u64 0, .int .u64 0, .bool false] 55)).alloc (.cells #[.int .u64 0, .int .u64 0, .int .u64 0, .int .u64 0, .bool false] 55)).alloc (.cells #[.int .u64 (x 0), .int .u64 (x 1), .int .u64 (x 2), .int .u64 (x 3)] 53)) := ((((Below.refl _ w).alloc (Nat.le_refl _) _).alloc (by simp) _).alloc (by simp; omega) _).alloc (by simp; omega) _
  have HD := Lib.hid (And.intro hL.drew (And.intro hA.drew (And.intro hB.drew hb.drew)))
  clear hL hA hB hb
  generalize ((((w.alloc (.cells (fiv x) 74)).alloc (.cells #[.int .u64 0, .int .u64 0, .int .u64 0, .int .u64 0, .bool false] 55)).alloc (.cells #[.int .u64 0, .int .u64 0, .int .u64 0, .int .u64 0, .bool false] 55)).alloc (.cells #[.int .u64 (x 0), .int .u64 (x 1), .int .u64 (x 2), .int .u64 (x 3)] 53)) = w0 at *
  refine region_z 10 (fun w' => w'.cell? ⟨w.heap.size + 1 + 1 + 1, 0, none⟩ = some (.int .u64 (x 0)) ∧ w'.cell? ⟨w.heap.size + 1 + 1 + 1, 1, none⟩ = some (.int .u64 (x 1)) ∧ w'.cell? ⟨w.heap.size + 1 + 1 + 1, 2, none⟩ = some (.int .u64 (x 2)) ∧ w'.cell? ⟨w.heap.size + 1 + 1 + 1, 3, none⟩ = some (.int .u64 (x 3))) (by kernel_rfl) ?_
  generalize w0.drew = w1 at *
  have hS : (fun w' => w'.cell? ⟨w.heap.size + 1 + 1 + 1, 0, none⟩ = some (.int .u64 (x 0)) ∧ w'.cell? ⟨w.heap.size + 1 + 1 + 1, 1, none⟩ = some (.int .u64 (x 1)) ∧ w'.cell? ⟨w.heap.size + 1 + 1 + 1, 2, none⟩ = some (.int .u64 (x 2)) ∧ w'.cell? ⟨w.heap.size + 1 + 1 + 1, 3, none⟩ = some (.int .u64 (x 3))) w1 := ⟨HD.out.1.cell 0 rfl, HD.out.1.cell 1 rfl, HD.out.1.cell 2 rfl, HD.out.1.cell 3 rfl⟩
  refine zt [10] (i := 0) rfl (.agg #[.int .u64 (x 0), .int .u64 (x 1), .int .u64 (x 2), .int .u64 (x 3)]) (by kernel_rfl) (by kernel_rfl) (by kernel_rfl) (by kernel_rfl) (fun _ _ _ h => h) hS (fun w' d1 => by obtain ⟨d1, d2, d3, d4⟩ := d1; go_simp) ?_
  try simp only [Act.put, List.setIfInBounds_toArray, List.set_cons_zero, List.set_cons_succ]
  refine zt [10] (i := 1) rfl (otv (x 0) (x 1) (x 2) (x 3) false) (by kernel_rfl) (by kernel_rfl) (by kernel_rfl) (by kernel_rfl) (fun _ _ _ h => h) hS (fun w' d1 => by obtain ⟨d1, d2, d3, d4⟩ := d1; go_simp) ?_
  try simp only [Act.put, List.setIfInBounds_toArray, List.set_cons_zero, List.set_cons_succ]
  refine zt [10] (i := 2) rfl (.int .u64 1) (by kernel_rfl) (by kernel_rfl) (by kernel_rfl) (by kernel_rfl) (fun _ _ _ h => h) hS (fun w' d1 => by obtain ⟨d1, d2, d3, d4⟩ := d1; go_simp) ?_
  try simp only [Act.put, List.setIfInBounds_toArray, List.set_cons_zero, List.set_cons_succ]
  refine zt [10] (i := 3) rfl (.pointer (some ⟨w.heap.size + 1 + 1 + 1, 2, none⟩)) (by kernel_rfl) (by kernel_rfl) (by kernel_rfl) (by kernel_rfl) (fun _ _ _ h => h) hS (fun w' d1 => by obtain ⟨d1, d2, d3, d4⟩ := d1; go_simp) ?_
  try simp only [Act.put, List.setIfInBounds_toArray, List.set_cons_zero, List.set_cons_succ]
  refine zt [10] (i := 4) rfl (.agg #[.int .u64 (x 2), .int .u64 (x 3)]) (by kernel_rfl) (by kernel_rfl) (by kernel_rfl) (by kernel_rfl) (fun _ _ _ h => h) hS (fun w' d1 => by obtain ⟨d1, d2, d3, d4⟩ := d1; go_simp) ?_
  try simp only [Act.put, List.setIfInBounds_toArray, List.set_cons_zero, List.set_cons_succ]
  refine zt [10] (i := 5) rfl (.agg #[.int .u64 (x 2), .int .u64 (x 3), .int .u64 0, .int .u64 0]) (by kernel_rfl) (by kernel_rfl) (by kernel_rfl) (by kernel_rfl) (fun _ _ _ h => h) hS (fun w' d1 => by obtain ⟨d1, d2, d3, d4⟩ := d1; go_simp) ?_
  try simp only [Act.put, List.setIfInBounds_toArray, List.set_cons_zero, List.set_cons_succ]
  refine zt [10] (i := 6) rfl (.int .u64 1) (by kernel_rfl) (by kernel_rfl) (by kernel_rfl) (by kernel_rfl) (fun _ _ _ h => h) hS (fun w' d1 => by obtain ⟨d1, d2, d3, d4⟩ := d1; go_simp) ?_
  try simp only [Act.put, List.setIfInBounds_toArray, List.set_cons_zero, List.set_cons_succ]
  refine zt [10] (i := 7) rfl (.bool true) (by kernel_rfl) (by kernel_rfl) (by kernel_rfl) (by kernel_rfl) (fun _ _ _ h => h) hS (fun w' d1 => by obtain ⟨d1, d2, d3, d4⟩ := d1; go_simp) ?_
  try simp only [Act.put, List.setIfInBounds_toArray, List.set_cons_zero, List.set_cons_succ]
  refine zt [10] (i := 8) rfl (otv (x 2) (x 3) 0 0 true) (by kernel_rfl) (by kernel_rfl) (by kernel_rfl) (by kernel_rfl) (fun _ _ _ h => h) hS (fun w' d1 => by obtain ⟨d1, d2, d3, d4⟩ := d1; go_simp) ?_
  try simp only [Act.put, List.setIfInBounds_toArray, List.set_cons_zero, List.set_cons_succ]
  have a0 := HD.out.2.1.cell 0 rfl
  have a1 := HD.out.2.1.cell 1 rfl
  have a2 := HD.out.2.1.cell 2 rfl
  have a3 := HD.out.2.1.cell 3 rfl
  have a4 := HD.out.2.1.cell 4 rfl
  have za := HD.out.2.1.frozen
  refine z1 (i := 9) (by kernel_rfl) rfl (fun K hK => ?_)
  go_simp
  have H2 := Lib.hid (And.intro (((((HD.out.1.far (p := ⟨w.heap.size + 1, 0, none⟩) (by show w.heap.size + 1 + 1 + 1 ≠ w.heap.size + 1; omega) (.int .u64 (x 0))).far (p := ⟨w.heap.size + 1, 1, none⟩) (by show w.heap.size + 1 + 1 + 1 ≠ w.heap.size + 1; omega) (.int .u64 (x 1))).far (p := ⟨w.heap.size + 1, 2, none⟩) (by show w.heap.size + 1 + 1 + 1 ≠ w.heap.size + 1; omega) (.int .u64 (x 2))).far (p := ⟨w.heap.size + 1, 3, none⟩) (by show w.heap.size + 1 + 1 + 1 ≠ w.heap.size + 1; omega) (.int .u64 (x 3))).far (p := ⟨w.heap.size + 1, 4, none⟩) (by show w.heap.size + 1 + 1 + 1 ≠ w.heap.size + 1; omega) (.bool false)) (And.intro (((((HD.out.2.1.set 0 (.int .u64 (x 0))).set 1 (.int .u64 (x 1))).set 2 (.int .u64 (x 2))).set 3 (.int .u64 (x 3))).set 4 (.bool false)) (And.intro (((((HD.out.2.2.1.far (p := ⟨w.heap.size + 1, 0, none⟩) (by show w.heap.size + 1 + 1 ≠ w.heap.size + 1; omega) (.int .u64 (x 0))).far (p := ⟨w.heap.size + 1, 1, none⟩) (by show w.heap.size + 1 + 1 ≠ w.heap.size + 1; omega) (.int .u64 (x 1))).far (p := ⟨w.heap.size + 1, 2, none⟩) (by show w.heap.size + 1 + 1 ≠ w.heap.size + 1; omega) (.int .u64 (x 2))).far (p := ⟨w.heap.size + 1, 3, none⟩) (by show w.heap.size + 1 + 1 ≠ w.heap.size + 1; omega) (.int .u64 (x 3))).far (p := ⟨w.heap.size + 1, 4, none⟩) (by show w.heap.size + 1 + 1 ≠ w.heap.size + 1; omega) (.bool false)) (((((HD.out.2.2.2.setCell (p := ⟨w.heap.size + 1, 0, none⟩) (by show w.heap.size ≤ w.heap.size + 1; omega) (.int .u64 (x 0))).setCell (p := ⟨w.heap.size + 1, 1, none⟩) (by show w.heap.size ≤ w.heap.size + 1; omega) (.int .u64 (x 1))).setCell (p := ⟨w.heap.size + 1, 2, none⟩) (by show w.heap.size ≤ w.heap.size + 1; omega) (.int .u64 (x 2))).setCell (p := ⟨w.heap.size + 1, 3, none⟩) (by show w.heap.size ≤ w.heap.size + 1; omega) (.int .u64 (x 3))).setCell (p := ⟨w.heap.size + 1, 4, none⟩) (by show w.heap.size ≤ w.heap.size + 1; omega) (.bool false)))))
  clear a0 a1 a2 a3 a4 za HD hS
  generalize (((((w1.setCell ⟨w.heap.size + 1, 0, none⟩ (.int .u64 (x 0))).setCell ⟨w.heap.size + 1, 1, none⟩ (.int .u64 (x 1))).setCell ⟨w.heap.size + 1, 2, none⟩ (.int .u64 (x 2))).setCell ⟨w.heap.size + 1, 3, none⟩ (.int .u64 (x 3))).setCell ⟨w.heap.size + 1, 4, none⟩ (.bool false)) = w2 at *
  have hS : (fun w' => w'.cell? ⟨w.heap.size + 1 + 1 + 1, 0, none⟩ = some (.int .u64 (x 0)) ∧ w'.cell? ⟨w.heap.size + 1 + 1 + 1, 1, none⟩ = some (.int .u64 (x 1)) ∧ w'.cell? ⟨w.heap.size + 1 + 1 + 1, 2, none⟩ = some (.int .u64 (x 2)) ∧ w'.cell? ⟨w.heap.size + 1 + 1 + 1, 3, none⟩ = some (.int .u64 (x 3))) w2 := ⟨H2.out.1.cell 0 rfl, H2.out.1.cell 1 rfl, H2.out.1.cell 2 rfl, H2.out.1.cell 3 rfl⟩
  refine hK.out _ _ (.inr hS) ?_
  clear hK K
  try simp only [Act.put, List.setIfInBounds_toArray, List.set_cons_zero, List.set_cons_succ]
  have b0 := H2.out.2.2.1.cell 0 rfl
  have b1 := H2.out.2.2.1.cell 1 rfl
  have b2 := H2.out.2.2.1.cell 2 rfl
  have b3 := H2.out.2.2.1.cell 3 rfl
  have b4 := H2.out.2.2.1.cell 4 rfl
  have zb := H2.out.2.2.1.frozen
  refine z1 (i := 10) (by kernel_rfl) rfl (fun K hK => ?_)
  go_simp
  refine hK.out _ _ (.inl rfl) ?_
  clear hK K
  refine wpAnyZ_done (by kernel_rfl) ?_ _
  go_wp2
  have hA3 := (((((H2.out.2.1.far (p := ⟨w.heap.size + 1 + 1, 0, none⟩) (by show w.heap.size + 1 ≠ w.heap.size + 1 + 1; omega) (.int .u64 (x 2))).far (p := ⟨w.heap.size + 1 + 1, 1, none⟩) (by show w.heap.size + 1 ≠ w.heap.size + 1 + 1; omega) (.int .u64 (x 3))).far (p := ⟨w.heap.size + 1 + 1, 2, none⟩) (by show w.heap.size + 1 ≠ w.heap.size + 1 + 1; omega) (.int .u64 0)).far (p := ⟨w.heap.size + 1 + 1, 3, none⟩) (by show w.heap.size + 1 ≠ w.heap.size + 1 + 1; omega) (.int .u64 0)).far (p := ⟨w.heap.size + 1 + 1, 4, none⟩) (by show w.heap.size + 1 ≠ w.heap.size + 1 + 1; omega) (.bool true))
  have hB3 := (((((H2.out.2.2.1.set 0 (.int .u64 (x 2))).set 1 (.int .u64 (x 3))).set 2 (.int .u64 0)).set 3 (.int .u64 0)).set 4 (.bool true))
  have p0 := hA3.cell 0 rfl
  have q0 := hB3.cell 0 rfl
  have p1 := hA3.cell 1 rfl
  have q1 := hB3.cell 1 rfl
  have p2 := hA3.cell 2 rfl
  have q2 := hB3.cell 2 rfl
  have p3 := hA3.cell 3 rfl
  have q3 := hB3.cell 3 rfl
  have p4 := hA3.cell 4 rfl
  have q4 := hB3.cell 4 rfl
  exact bodyPost_ret (v := .tuple #[otv (x 0) (x 1) (x 2) (x 3) false, otv (x 2) (x 3) 0 0 true]) (by simp [results, Tryd.results27, go_sem, p0, q0, p1, q1, p2, q2, p3, q3, p4, q4]) rfl
    ⟨rfl, (((((H2.out.2.2.2.setCell (p := ⟨w.heap.size + 1 + 1, 0, none⟩) (by show w.heap.size ≤ w.heap.size + 1 + 1; omega) (.int .u64 (x 2))).setCell (p := ⟨w.heap.size + 1 + 1, 1, none⟩) (by show w.heap.size ≤ w.heap.size + 1 + 1; omega) (.int .u64 (x 3))).setCell (p := ⟨w.heap.size + 1 + 1, 2, none⟩) (by show w.heap.size ≤ w.heap.size + 1 + 1; omega) (.int .u64 0)).setCell (p := ⟨w.heap.size + 1 + 1, 3, none⟩) (by show w.heap.size ≤ w.heap.size + 1 + 1; omega) (.int .u64 0)).setCell (p := ⟨w.heap.size + 1 + 1, 4, none⟩) (by show w.heap.size ≤ w.heap.size + 1 + 1; omega) (.bool true))⟩
end Go.Proofs.YtgmlmngnedhllaaDoor
