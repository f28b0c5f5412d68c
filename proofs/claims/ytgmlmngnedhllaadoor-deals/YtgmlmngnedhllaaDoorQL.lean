/- Lists of triples and OTs that are only read; the contracts of pileOf and Load. -/
import Derived.Test.YtgmlmngnedhllaaDoorQX1a
namespace Go.Proofs.YtgmlmngnedhllaaDoor
open Go.RowKit

section
variable {P : Program}
/-- copy of whole things, k cells each, into a row of the call's own. -/
theorem run_copy_rowk (w : World) (k : Nat) (dT sT ty elem : TypeId) (g n dCap : Nat) (a : Addr) (sCap : Nat) (cur : Array Value) (t : TypeId) (cs : List Value)
    (hu : P.underlying dT = some (.slice elem)) (hs : (P.info? elem).map (·.size) = some k)
    (hg : w.heap[g]? = some (.cells cur t (0, 0))) (hn : cs.length = n * k)
    (hsrc : ∀ j v, cs[j]? = some v → w.cell? (a.add j) = some v) (hfit : cs.length ≤ cur.size) (h1 : ∀ v ∈ cs, v.oneCell' = true) :
    (Builtin.copy_ #[dT, sT] ty #[.slice (some ⟨g, 0, none⟩) n dCap, .slice (some a) n sCap]).run P w =
      .ok (goInt n) (w.setRow g (cs ++ cur.toList.drop cs.length).toArray) := by
  have hl := run_loadCells_list (P := P) w a cs hsrc
  have hst := run_storeCells_at P g 0 t cs 0 cur w hg (by simpa using hfit) h1
  cases hq : P.info? elem with
  | none => simp [hq] at hs
  | some i =>
    have hi : i.size = k := by simpa [hq] using hs
    simp at hst
    simp [Builtin.copy_, run_underlying hu, Builtin.lenOf, Builtin.firstCells, sizeOf, typeInfo, hq, hi, ← hn, hl, hst]
end

/-- A list of things that is only read. -/
def AtT (w : World) (A : Option Addr) (n : Nat) (y : Nat → Nat → Int) : Prop := ∀ i, i < n → ∃ ad : Addr, A = some ad ∧ w.cell? (ad.add (i * 3 + 0)) = some (.int .u64 (y i 0)) ∧ w.cell? (ad.add (i * 3 + 1)) = some (.int .u64 (y i 1)) ∧ w.cell? (ad.add (i * 3 + 2)) = some (.int .u64 (y i 2))
theorem AtT.below {w w' : World} {A : Option Addr} {n : Nat} {y : Nat → Nat → Int} (h : AtT w A n y) (hb : Below w.heap.size w w') : AtT w' A n y := fun i hi => by
  obtain ⟨ad, e, hc⟩ := h i hi
  exact ⟨ad, e, (hb.cell (World.block_lt_of_cell? _ _ hc.1)).trans hc.1, (hb.cell (World.block_lt_of_cell? _ _ hc.2.1)).trans hc.2.1, (hb.cell (World.block_lt_of_cell? _ _ hc.2.2)).trans hc.2.2⟩
/-- The cells of such a list, in a row. -/
def flatT (n : Nat) (y : Nat → Nat → Int) : List Value := (List.range (n * 3)).map (fun q => if q % 3 = 0 then .int .u64 (y (q / 3) 0) else if q % 3 = 1 then .int .u64 (y (q / 3) 1) else .int .u64 (y (q / 3) 2))
theorem flatT_get (n : Nat) (y : Nat → Nat → Int) (i : Nat) (hi : i < n) : (flatT n y)[i * 3 + 0]? = some (.int .u64 (y i 0)) ∧ (flatT n y)[i * 3 + 1]? = some (.int .u64 (y i 1)) ∧ (flatT n y)[i * 3 + 2]? = some (.int .u64 (y i 2)) := by
  have h : ∀ j, j < 3 → i * 3 + j < n * 3 ∧ (i * 3 + j) % 3 = j ∧ (i * 3 + j) / 3 = i := fun j hj => ⟨by omega, by omega, by omega⟩
  refine ⟨?_, ?_, ?_⟩
  · obtain ⟨h1, h2, h3⟩ := h 0 (by omega); unfold flatT; rw [List.getElem?_map, List.getElem?_range h1]; simp only [Option.map_some, h2, h3]; simp
  · obtain ⟨h1, h2, h3⟩ := h 1 (by omega); unfold flatT; rw [List.getElem?_map, List.getElem?_range h1]; simp only [Option.map_some, h2, h3]; simp
  · obtain ⟨h1, h2, h3⟩ := h 2 (by omega); unfold flatT; rw [List.getElem?_map, List.getElem?_range h1]; simp only [Option.map_some, h2, h3]; simp
theorem flatT_length (n : Nat) (y : Nat → Nat → Int) : (flatT n y).length = n * 3 := by simp [flatT]
theorem flatT_one (n : Nat) (y : Nat → Nat → Int) : ∀ u ∈ flatT n y, u.oneCell' = true := by
  intro u hu
  simp only [flatT, List.mem_map] at hu
  obtain ⟨q, _, rfl⟩ := hu
  rcases (show q % 3 = 0 ∨ q % 3 = 1 ∨ q % 3 = 2 by omega) with h | h | h <;> simp [h, Value.oneCell']
theorem AtT.flat {w : World} {ad : Addr} {n : Nat} {y : Nat → Nat → Int} (h : AtT w (some ad) n y) : ∀ j u, (flatT n y)[j]? = some u → w.cell? (ad.add j) = some u := by
  intro q u hu
  have hq : q < n * 3 := by
    have := (List.getElem?_eq_some_iff.1 hu).1
    rwa [flatT_length] at this
  have hi : q / 3 < n := by omega
  have hg := flatT_get n y (q / 3) hi
  obtain ⟨ad', e, hc⟩ := h (q / 3) hi
  cases e
  rcases (show q % 3 = 0 ∨ q % 3 = 1 ∨ q % 3 = 2 by omega) with h | h | h
  · rw [show q = q / 3 * 3 + 0 by omega] at hu ⊢; rw [hg.1] at hu; rw [← Option.some.inj hu]; exact hc.1
  · rw [show q = q / 3 * 3 + 1 by omega] at hu ⊢; rw [hg.2.1] at hu; rw [← Option.some.inj hu]; exact hc.2.1
  · rw [show q = q / 3 * 3 + 2 by omega] at hu ⊢; rw [hg.2.2] at hu; rw [← Option.some.inj hu]; exact hc.2.2
theorem RowT.ofFlat {w : World} {b n : Nat} {y : Nat → Nat → Int} (h : Blk w b 48 (flatT n y).toArray) : RowT w b n n y :=
  ⟨_, h, by simp [flatT_length], fun i hi => by have := flatT_get n y i hi; simpa using this⟩
set_option maxHeartbeats 2000000 in
set_option maxRecDepth 100000 in
theorem pileT_any (w : World) (A : Option Addr) (n cp : Nat) (y : Nat → Nat → Int) (hA : AtT w A n y) (h0 : A = none → n = 0 ∧ cp = 0) (hn : n ≤ 1000000) :
    Calls Tryd.prog 32 #[.slice A n cp] w fun e w' => ∃ b, w.heap.size ≤ b ∧ e = .returned (.agg #[.slice (some ⟨b, 0, none⟩) n n]) ∧ RowT w' b n n y ∧ Below w.heap.size w w' := by
  obtain ⟨i0, hi, hz0, hz1, hz2⟩ := infoT
  have hmk := run_make (P := Tryd.prog) (w.alloc (.cells #[.slice none 0 0] 77)) 34 48 i0 (.agg #[.int .u64 0, .int .u64 0, .int .u64 0]) Tryd.underlying34 hi hz0 .i64 .i64 (n : Int) (n : Int) (by omega) (by omega) (by rw [hz2]; omega) (by omega)
  rw [hz1, Int.toNat_natCast, World.size_alloc] at hmk
  have hsz : (madeCells (Value.agg #[.int .u64 0, .int .u64 0, .int .u64 0]).cells (n * 3)).size = n * 3 := by simp [madeCells]
  obtain ⟨made, hmd⟩ : ∃ m, m = madeCells (Value.agg #[.int .u64 0, .int .u64 0, .int .u64 0]).cells (n * 3) := ⟨_, rfl⟩
  rw [← hmd] at hmk hsz
  have hi1 : (Tryd.prog.info? 48).map (·.size) = some 3 := by rw [hi]; simp [hz1]
  clear hmd hz0 hz1 hz2
  have hM : Blk (((w.alloc (.cells #[.slice none 0 0] 77)).alloc (.cells made 48)).alloc (.cells #[.slice (some ⟨w.heap.size + 1, 0, none⟩) n n] 77)) (w.heap.size + 1) 48 made := by
    have := (Blk.new (w.alloc (.cells #[.slice none 0 0] 77)) 48 made).alloc (.cells #[.slice (some ⟨w.heap.size + 1, 0, none⟩) n n] 77)
    rwa [World.size_alloc] at this
  have hR : Blk (((w.alloc (.cells #[.slice none 0 0] 77)).alloc (.cells made 48)).alloc (.cells #[.slice (some ⟨w.heap.size + 1, 0, none⟩) n n] 77)) w.heap.size 77 #[.slice none 0 0] := ((Blk.new w _ _).alloc _).alloc _
  have hX : Blk (((w.alloc (.cells #[.slice none 0 0] 77)).alloc (.cells made 48)).alloc (.cells #[.slice (some ⟨w.heap.size + 1, 0, none⟩) n n] 77)) (w.heap.size + 1 + 1) 77 #[.slice (some ⟨w.heap.size + 1, 0, none⟩) n n] := by
    have := Blk.new ((w.alloc (.cells #[.slice none 0 0] 77)).alloc (.cells made 48)) 77 #[.slice (some ⟨w.heap.size + 1, 0, none⟩) n n]
    rwa [World.size_alloc, World.size_alloc] at this
  have hb : Below w.heap.size w (((w.alloc (.cells #[.slice none 0 0] 77)).alloc (.cells made 48)).alloc (.cells #[.slice (some ⟨w.heap.size + 1, 0, none⟩) n n] 77)) := (((Below.refl _ w).alloc (Nat.le_refl _) _).alloc (by simp) _).alloc (by simp; omega) _
  have hcp : ∃ kk w2, (∀ ty, (Builtin.copy_ #[34, 34] ty #[.slice (some ⟨w.heap.size + 1, 0, none⟩) n n, .slice A n cp]).run Tryd.prog (((w.alloc (.cells #[.slice none 0 0] 77)).alloc (.cells made 48)).alloc (.cells #[.slice (some ⟨w.heap.size + 1, 0, none⟩) n n] 77)) = .ok (goInt kk) w2) ∧
      RowT w2 (w.heap.size + 1) n n y ∧ Blk w2 w.heap.size 77 #[.slice none 0 0] ∧ Blk w2 (w.heap.size + 1 + 1) 77 #[.slice (some ⟨w.heap.size + 1, 0, none⟩) n n] ∧ Below w.heap.size w w2 := by
    rcases A with _ | ad
    · obtain ⟨rfl, rfl⟩ := h0 rfl
      exact ⟨0, _, fun ty => run_copy_nil Tryd.prog _ 34 34 ty 48 _ _ _ Tryd.underlying34 (by rw [hi1]; rfl), ⟨made, hM, hsz, fun i hi => absurd hi (by omega)⟩, hR, hX, hb⟩
    · refine ⟨_, _, fun ty => run_copy_rowk (((w.alloc (.cells #[.slice none 0 0] 77)).alloc (.cells made 48)).alloc (.cells #[.slice (some ⟨w.heap.size + 1, 0, none⟩) n n] 77)) 3 34 34 ty 48 (w.heap.size + 1) n n ad cp made 48 (flatT n y) Tryd.underlying34 hi1 hM (flatT_length n y) (hA.below hb).flat (by rw [flatT_length, hsz]; exact Nat.le_refl _) (flatT_one n y), RowT.ofFlat ?_, (setRow_other _ _ _ _ (by omega)).trans hR, (setRow_other _ _ _ _ (by omega)).trans hX, Below.row hb (by omega) _⟩
      unfold Blk
      rw [setRow_heap _ _ _ _ _ _ hM, List.drop_eq_nil_of_le (by rw [flatT_length]; simp [hsz]), List.append_nil]
  obtain ⟨kk, w2, hcp, hRow, hR2, hX2, hb2⟩ := hcp
  have cx : (((w.alloc (.cells #[.slice none 0 0] 77)).alloc (.cells made 48)).alloc (.cells #[.slice (some ⟨w.heap.size + 1, 0, none⟩) n n] 77)).cell? ⟨w.heap.size + 1 + 1, 0, none⟩ = some (.slice (some ⟨w.heap.size + 1, 0, none⟩) n n) := hX.cell 0 rfl
  have cx2 := hX2.cell 0 rfl
  have cr2 := hR2.cell 0 rfl
  have zr2 := hR2.frozen 0
  have HH := Lib.hid (And.intro hRow (And.intro hR2 hb2))
  clear hM hR hX hb hRow hR2 hX2 hb2 hA h0 hi hi1 hsz
  go_enter Tryd.func32, Tryd.ntmps32
  go_wp2
  have p0 := (HH.out.2.1.set 0 (.slice (some ⟨w.heap.size + 1, 0, none⟩) n n)).cell 0 rfl
  exact bodyPost_ret (v := .agg #[.slice (some ⟨w.heap.size + 1, 0, none⟩) n n]) (by simp [results, Tryd.results32, go_sem, p0]) rfl
    ⟨w.heap.size + 1, by omega, rfl, HH.out.1.heap (Below.heap_setCell _ _ _ _ (by show w.heap.size + 1 ≠ w.heap.size; omega)), HH.out.2.2.setCell (Nat.le_refl _) _⟩

/-- A list of things that is only read. -/
def AtO3 (w : World) (A : Option Addr) (n : Nat) (y : Nat → Nat → Int) (c : Nat → Bool) : Prop := ∀ i, i < n → ∃ ad : Addr, A = some ad ∧ w.cell? (ad.add (i * 5 + 0)) = some (.int .u64 (y i 0)) ∧ w.cell? (ad.add (i * 5 + 1)) = some (.int .u64 (y i 1)) ∧ w.cell? (ad.add (i * 5 + 2)) = some (.int .u64 (y i 2)) ∧ w.cell? (ad.add (i * 5 + 3)) = some (.int .u64 (y i 3)) ∧ w.cell? (ad.add (i * 5 + 4)) = some (.bool (c i))
theorem AtO3.below {w w' : World} {A : Option Addr} {n : Nat} {y : Nat → Nat → Int} {c : Nat → Bool} (h : AtO3 w A n y c) (hb : Below w.heap.size w w') : AtO3 w' A n y c := fun i hi => by
  obtain ⟨ad, e, hc⟩ := h i hi
  exact ⟨ad, e, (hb.cell (World.block_lt_of_cell? _ _ hc.1)).trans hc.1, (hb.cell (World.block_lt_of_cell? _ _ hc.2.1)).trans hc.2.1, (hb.cell (World.block_lt_of_cell? _ _ hc.2.2.1)).trans hc.2.2.1, (hb.cell (World.block_lt_of_cell? _ _ hc.2.2.2.1)).trans hc.2.2.2.1, (hb.cell (World.block_lt_of_cell? _ _ hc.2.2.2.2)).trans hc.2.2.2.2⟩
/-- The cells of such a list, in a row. -/
def flatO (n : Nat) (y : Nat → Nat → Int) (c : Nat → Bool) : List Value := (List.range (n * 5)).map (fun q => if q % 5 = 0 then .int .u64 (y (q / 5) 0) else if q % 5 = 1 then .int .u64 (y (q / 5) 1) else if q % 5 = 2 then .int .u64 (y (q / 5) 2) else if q % 5 = 3 then .int .u64 (y (q / 5) 3) else .bool (c (q / 5)))
theorem flatO_get (n : Nat) (y : Nat → Nat → Int) (c : Nat → Bool) (i : Nat) (hi : i < n) : (flatO n y c)[i * 5 + 0]? = some (.int .u64 (y i 0)) ∧ (flatO n y c)[i * 5 + 1]? = some (.int .u64 (y i 1)) ∧ (flatO n y c)[i * 5 + 2]? = some (.int .u64 (y i 2)) ∧ (flatO n y c)[i * 5 + 3]? = some (.int .u64 (y i 3)) ∧ (flatO n y c)[i * 5 + 4]? = some (.bool (c i)) := by
  have h : ∀ j, j < 5 → i * 5 + j < n * 5 ∧ (i * 5 + j) % 5 = j ∧ (i * 5 + j) / 5 = i := fun j hj => ⟨by omega, by omega, by omega⟩
  refine ⟨?_, ?_, ?_, ?_, ?_⟩
  · obtain ⟨h1, h2, h3⟩ := h 0 (by omega); unfold flatO; rw [List.getElem?_map, List.getElem?_range h1]; simp only [Option.map_some, h2, h3]; simp
  · obtain ⟨h1, h2, h3⟩ := h 1 (by omega); unfold flatO; rw [List.getElem?_map, List.getElem?_range h1]; simp only [Option.map_some, h2, h3]; simp
  · obtain ⟨h1, h2, h3⟩ := h 2 (by omega); unfold flatO; rw [List.getElem?_map, List.getElem?_range h1]; simp only [Option.map_some, h2, h3]; simp
  · obtain ⟨h1, h2, h3⟩ := h 3 (by omega); unfold flatO; rw [List.getElem?_map, List.getElem?_range h1]; simp only [Option.map_some, h2, h3]; simp
  · obtain ⟨h1, h2, h3⟩ := h 4 (by omega); unfold flatO; rw [List.getElem?_map, List.getElem?_range h1]; simp only [Option.map_some, h2, h3]; simp
theorem flatO_length (n : Nat) (y : Nat → Nat → Int) (c : Nat → Bool) : (flatO n y c).length = n * 5 := by simp [flatO]
theorem flatO_one (n : Nat) (y : Nat → Nat → Int) (c : Nat → Bool) : ∀ u ∈ flatO n y c, u.oneCell' = true := by
  intro u hu
  simp only [flatO, List.mem_map] at hu
  obtain ⟨q, _, rfl⟩ := hu
  rcases (show q % 5 = 0 ∨ q % 5 = 1 ∨ q % 5 = 2 ∨ q % 5 = 3 ∨ q % 5 = 4 by omega) with h | h | h | h | h <;> simp [h, Value.oneCell']
theorem AtO3.flat {w : World} {ad : Addr} {n : Nat} {y : Nat → Nat → Int} {c : Nat → Bool} (h : AtO3 w (some ad) n y c) : ∀ j u, (flatO n y c)[j]? = some u → w.cell? (ad.add j) = some u := by
  intro q u hu
  have hq : q < n * 5 := by
    have := (List.getElem?_eq_some_iff.1 hu).1
    rwa [flatO_length] at this
  have hi : q / 5 < n := by omega
  have hg := flatO_get n y c (q / 5) hi
  obtain ⟨ad', e, hc⟩ := h (q / 5) hi
  cases e
  rcases (show q % 5 = 0 ∨ q % 5 = 1 ∨ q % 5 = 2 ∨ q % 5 = 3 ∨ q % 5 = 4 by omega) with h | h | h | h | h
  · rw [show q = q / 5 * 5 + 0 by omega] at hu ⊢; rw [hg.1] at hu; rw [← Option.some.inj hu]; exact hc.1
  · rw [show q = q / 5 * 5 + 1 by omega] at hu ⊢; rw [hg.2.1] at hu; rw [← Option.some.inj hu]; exact hc.2.1
  · rw [show q = q / 5 * 5 + 2 by omega] at hu ⊢; rw [hg.2.2.1] at hu; rw [← Option.some.inj hu]; exact hc.2.2.1
  · rw [show q = q / 5 * 5 + 3 by omega] at hu ⊢; rw [hg.2.2.2.1] at hu; rw [← Option.some.inj hu]; exact hc.2.2.2.1
  · rw [show q = q / 5 * 5 + 4 by omega] at hu ⊢; rw [hg.2.2.2.2] at hu; rw [← Option.some.inj hu]; exact hc.2.2.2.2
theorem RowO.ofFlat {w : World} {b n : Nat} {y : Nat → Nat → Int} {c : Nat → Bool} (h : Blk w b 55 (flatO n y c).toArray) : RowO w b n n y c :=
  ⟨_, h, by simp [flatO_length], fun i hi => by have := flatO_get n y c i hi; simpa using this⟩
set_option maxHeartbeats 2000000 in
set_option maxRecDepth 100000 in
theorem pileO_any (w : World) (A : Option Addr) (n cp : Nat) (y : Nat → Nat → Int) (c : Nat → Bool) (hA : AtO3 w A n y c) (h0 : A = none → n = 0 ∧ cp = 0) (hn : n ≤ 1000000) :
    Calls Tryd.prog 33 #[.slice A n cp] w fun e w' => ∃ b, w.heap.size ≤ b ∧ e = .returned (.agg #[.slice (some ⟨b, 0, none⟩) n n]) ∧ RowO w' b n n y c ∧ Below w.heap.size w w' := by
  obtain ⟨i0, hi, hz0, hz1, hz2⟩ := infoO
  have hmk := run_make (P := Tryd.prog) (w.alloc (.cells #[.slice none 0 0] 79)) 35 55 i0 (.agg #[.int .u64 0, .int .u64 0, .int .u64 0, .int .u64 0, .bool false]) Tryd.underlying35 hi hz0 .i64 .i64 (n : Int) (n : Int) (by omega) (by omega) (by rw [hz2]; omega) (by omega)
  rw [hz1, Int.toNat_natCast, World.size_alloc] at hmk
  have hsz : (madeCells (Value.agg #[.int .u64 0, .int .u64 0, .int .u64 0, .int .u64 0, .bool false]).cells (n * 5)).size = n * 5 := by simp [madeCells]
  obtain ⟨made, hmd⟩ : ∃ m, m = madeCells (Value.agg #[.int .u64 0, .int .u64 0, .int .u64 0, .int .u64 0, .bool false]).cells (n * 5) := ⟨_, rfl⟩
  rw [← hmd] at hmk hsz
  have hi1 : (Tryd.prog.info? 55).map (·.size) = some 5 := by rw [hi]; simp [hz1]
  clear hmd hz0 hz1 hz2
  have hM : Blk (((w.alloc (.cells #[.slice none 0 0] 79)).alloc (.cells made 55)).alloc (.cells #[.slice (some ⟨w.heap.size + 1, 0, none⟩) n n] 79)) (w.heap.size + 1) 55 made := by
    have := (Blk.new (w.alloc (.cells #[.slice none 0 0] 79)) 55 made).alloc (.cells #[.slice (some ⟨w.heap.size + 1, 0, none⟩) n n] 79)
    rwa [World.size_alloc] at this
  have hR : Blk (((w.alloc (.cells #[.slice none 0 0] 79)).alloc (.cells made 55)).alloc (.cells #[.slice (some ⟨w.heap.size + 1, 0, none⟩) n n] 79)) w.heap.size 79 #[.slice none 0 0] := ((Blk.new w _ _).alloc _).alloc _
  have hX : Blk (((w.alloc (.cells #[.slice none 0 0] 79)).alloc (.cells made 55)).alloc (.cells #[.slice (some ⟨w.heap.size + 1, 0, none⟩) n n] 79)) (w.heap.size + 1 + 1) 79 #[.slice (some ⟨w.heap.size + 1, 0, none⟩) n n] := by
    have := Blk.new ((w.alloc (.cells #[.slice none 0 0] 79)).alloc (.cells made 55)) 79 #[.slice (some ⟨w.heap.size + 1, 0, none⟩) n n]
    rwa [World.size_alloc, World.size_alloc] at this
  have hb : Below w.heap.size w (((w.alloc (.cells #[.slice none 0 0] 79)).alloc (.cells made 55)).alloc (.cells #[.slice (some ⟨w.heap.size + 1, 0, none⟩) n n] 79)) := (((Below.refl _ w).alloc (Nat.le_refl _) _).alloc (by simp) _).alloc (by simp; omega) _
  have hcp : ∃ kk w2, (∀ ty, (Builtin.copy_ #[35, 35] ty #[.slice (some ⟨w.heap.size + 1, 0, none⟩) n n, .slice A n cp]).run Tryd.prog (((w.alloc (.cells #[.slice none 0 0] 79)).alloc (.cells made 55)).alloc (.cells #[.slice (some ⟨w.heap.size + 1, 0, none⟩) n n] 79)) = .ok (goInt kk) w2) ∧
      RowO w2 (w.heap.size + 1) n n y c ∧ Blk w2 w.heap.size 79 #[.slice none 0 0] ∧ Blk w2 (w.heap.size + 1 + 1) 79 #[.slice (some ⟨w.heap.size + 1, 0, none⟩) n n] ∧ Below w.heap.size w w2 := by
    rcases A with _ | ad
    · obtain ⟨rfl, rfl⟩ := h0 rfl
      exact ⟨0, _, fun ty => run_copy_nil Tryd.prog _ 35 35 ty 55 _ _ _ Tryd.underlying35 (by rw [hi1]; rfl), ⟨made, hM, hsz, fun i hi => absurd hi (by omega)⟩, hR, hX, hb⟩
    · refine ⟨_, _, fun ty => run_copy_rowk (((w.alloc (.cells #[.slice none 0 0] 79)).alloc (.cells made 55)).alloc (.cells #[.slice (some ⟨w.heap.size + 1, 0, none⟩) n n] 79)) 5 35 35 ty 55 (w.heap.size + 1) n n ad cp made 55 (flatO n y c) Tryd.underlying35 hi1 hM (flatO_length n y c) (hA.below hb).flat (by rw [flatO_length, hsz]; exact Nat.le_refl _) (flatO_one n y c), RowO.ofFlat ?_, (setRow_other _ _ _ _ (by omega)).trans hR, (setRow_other _ _ _ _ (by omega)).trans hX, Below.row hb (by omega) _⟩
      unfold Blk
      rw [setRow_heap _ _ _ _ _ _ hM, List.drop_eq_nil_of_le (by rw [flatO_length]; simp [hsz]), List.append_nil]
  obtain ⟨kk, w2, hcp, hRow, hR2, hX2, hb2⟩ := hcp
  have cx : (((w.alloc (.cells #[.slice none 0 0] 79)).alloc (.cells made 55)).alloc (.cells #[.slice (some ⟨w.heap.size + 1, 0, none⟩) n n] 79)).cell? ⟨w.heap.size + 1 + 1, 0, none⟩ = some (.slice (some ⟨w.heap.size + 1, 0, none⟩) n n) := hX.cell 0 rfl
  have cx2 := hX2.cell 0 rfl
  have cr2 := hR2.cell 0 rfl
  have zr2 := hR2.frozen 0
  have HH := Lib.hid (And.intro hRow (And.intro hR2 hb2))
  clear hM hR hX hb hRow hR2 hX2 hb2 hA h0 hi hi1 hsz
  go_enter Tryd.func33, Tryd.ntmps33
  go_wp2
  have p0 := (HH.out.2.1.set 0 (.slice (some ⟨w.heap.size + 1, 0, none⟩) n n)).cell 0 rfl
  exact bodyPost_ret (v := .agg #[.slice (some ⟨w.heap.size + 1, 0, none⟩) n n]) (by simp [results, Tryd.results33, go_sem, p0]) rfl
    ⟨w.heap.size + 1, by omega, rfl, HH.out.1.heap (Below.heap_setCell _ _ _ _ (by show w.heap.size + 1 ≠ w.heap.size; omega)), HH.out.2.2.setCell (Nat.le_refl _) _⟩

set_option maxHeartbeats 2000000 in
set_option maxRecDepth 100000 in
theorem cload_any (w : World) (A1 A2 A3 : Option Addr) (n1 n2 n3 p1 p2 p3 : Nat) (y1 y2 y3 : Nat → Nat → Int) (c3 : Nat → Bool) (a1 : AtT w A1 n1 y1) (a2 : AtT w A2 n2 y2) (a3 : AtO3 w A3 n3 y3 c3) (z1 : A1 = none → n1 = 0 ∧ p1 = 0) (z2 : A2 = none → n2 = 0 ∧ p2 = 0) (z3 : A3 = none → n3 = 0 ∧ p3 = 0) (h1 : n1 ≤ 1000000) (h2 : n2 ≤ 1000000) (h3 : n3 ≤ 1000000) :
    Calls Tryd.prog 18 #[.slice A1 n1 p1, .slice A2 n2 p2, .slice A3 n3 p3] w fun e w' => ∃ s : Sk, e = .returned (.pointer (some ⟨s.g, 0, none⟩)) ∧ (s.n1 = n1 ∧ s.n2 = n2 ∧ s.n3 = n3 ∧ s.y1 = y1 ∧ s.y2 = y2 ∧ s.y3 = y3 ∧ s.c3 = c3) ∧ (∀ q, s.own q → w.heap.size ≤ q) ∧ Stk w' s ∧ Below w.heap.size w w' := by
  have H0 := Lib.hid (And.intro h1 (And.intro h2 (And.intro h3 (And.intro a1 (And.intro a2 (And.intro a3 (And.intro z1 (And.intro z2 z3))))))))
  clear h1 h2 h3 a1 a2 a3 z1 z2 z3
  go_enter Tryd.func18, Tryd.ntmps18
  go_wp2_with fail
  refine (pileT_any w A1 n1 p1 y1 H0.out.2.2.2.1 H0.out.2.2.2.2.2.2.1 H0.out.1).mono ?_
  rintro e w1 ⟨b1, hb1, rfl, hr1, hw1⟩
  have H1 := Lib.hid (And.intro hb1 (And.intro hr1 hw1))
  clear hb1 hr1 hw1
  go_wp2_with fail
  refine (pileT_any w1 A2 n2 p2 y2 (H0.out.2.2.2.2.1.below H1.out.2.2) H0.out.2.2.2.2.2.2.2.1 H0.out.2.1).mono ?_
  rintro e w2 ⟨b2, hb2, rfl, hr2, hw2⟩
  have H2 := Lib.hid (And.intro hb2 (And.intro hr2 hw2))
  clear hb2 hr2 hw2
  go_wp2_with fail
  refine (pileO_any w2 A3 n3 p3 y3 c3 (H0.out.2.2.2.2.2.1.below (H1.out.2.2.trans (H2.out.2.2.mono H1.out.2.2.size))) H0.out.2.2.2.2.2.2.2.2 H0.out.2.2.1).mono ?_
  rintro e w3 ⟨b3, hb3, rfl, hr3, hw3⟩
  have H3 := Lib.hid (And.intro hb3 (And.intro hr3 hw3))
  clear hb3 hr3 hw3
  go_wp2
  go_ret
  obtain ⟨hb1, hr1, hw1⟩ := H1.out
  obtain ⟨hb2, hr2, hw2⟩ := H2.out
  obtain ⟨hb3, hr3, hw3⟩ := H3.out
  have l1 := hr1.lt
  have l2 := hr2.lt
  have l3 := hr3.lt
  have z1 := hw1.size
  have z2 := hw2.size
  have z3 := hw3.size
  have k1 := H0.out.1
  have k2 := H0.out.2.1
  have k3 := H0.out.2.2.1
  refine ⟨⟨w3.heap.size, b1, b2, b3, n1, n2, n3, y1, y2, y3, c3⟩, rfl, ⟨rfl, rfl, rfl, rfl, rfl, rfl, rfl⟩, fun q hq => ?_, ⟨⟨_, _, _, Blk.new w3 _ _, ?_, ?_, ?_⟩, ?_⟩, ?_⟩
  · have hq' : q = w3.heap.size ∨ q = b1 ∨ q = b2 ∨ q = b3 := hq
    omega
  · exact RowT.pile (hr1.heap ((Below.heap_alloc w3 _ b1 (by omega)).trans ((hw3.block b1 (by omega)).trans (hw2.block b1 (by omega))))) (by omega)
  · exact RowT.pile (hr2.heap ((Below.heap_alloc w3 _ b2 (by omega)).trans (hw3.block b2 (by omega)))) (by omega)
  · exact RowO.pile (hr3.heap (Below.heap_alloc w3 _ b3 (by omega))) (by omega)
  · show b1 ≠ b2
    omega
  · exact (hw1.trans ((hw2.mono (by omega)).trans (hw3.mono (by omega)))).alloc (by omega) _
end Go.Proofs.YtgmlmngnedhllaaDoor
