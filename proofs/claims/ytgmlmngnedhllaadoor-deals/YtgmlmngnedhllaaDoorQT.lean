/- A loaded tape in memory; the contracts of tape's Load, take, Next, Used, Left. -/
import Derived.Test.YtgmlmngnedhllaaDoorQW
import Derived.Test.YtgmlmngnedhllaaDoorE5
namespace Go.Proofs.YtgmlmngnedhllaaDoor
open Go.RowKit

/-- Block g is a tape's four cells. -/
def Tp (w : World) (g : Nat) (p : Option Addr) (s : Value) (u l : Int) : Prop := w.heap[g]? = some (.cells #[.pointer p, s, .int .i64 u, .int .i64 l] 69 (0, 0))
section
variable {w w' : World} {g : Nat} {p : Option Addr} {s : Value} {u l : Int}
theorem Tp.lt (h : Tp w g p s u l) : g < w.heap.size := (Array.getElem?_eq_some_iff.1 h).1
theorem Tp.c0 (h : Tp w g p s u l) : w.cell? ⟨g, 0, none⟩ = some (.pointer p) := by rw [cell_of_row w g 0 _ 69 (0, 0) h]; rfl
theorem Tp.c1 (h : Tp w g p s u l) : w.cell? ⟨g, 1, none⟩ = some s := by rw [cell_of_row w g 1 _ 69 (0, 0) h]; rfl
theorem Tp.c2 (h : Tp w g p s u l) : w.cell? ⟨g, 2, none⟩ = some (.int .i64 u) := by rw [cell_of_row w g 2 _ 69 (0, 0) h]; rfl
theorem Tp.c3 (h : Tp w g p s u l) : w.cell? ⟨g, 3, none⟩ = some (.int .i64 l) := by rw [cell_of_row w g 3 _ 69 (0, 0) h]; rfl
theorem Tp.frozen (h : Tp w g p s u l) (i : Nat) : w.frozen? ⟨g, i, none⟩ = false := by unfold Tp at h; simp [World.frozen?, h]
theorem Tp.set (h : Tp w g p s u l) (u' l' : Int) : Tp ((w.setCell ⟨g, 2, none⟩ (.int .i64 u')).setCell ⟨g, 3, none⟩ (.int .i64 l')) g p s u' l' := by
  unfold Tp at h ⊢
  simp [World.setCell, Array.getElem?_modify, h]
theorem Tp.keep {k : Nat} (h : Tp w g p s u l) (hk : Keep k w w') (hg : g ≠ k) : Tp w' g p s u l := (hk.block g h.lt hg).trans h
theorem Tp.new (w : World) (p : Option Addr) (s : Value) (u l : Int) : Tp (w.alloc (.cells #[.pointer p, s, .int .i64 u, .int .i64 l] 69)) w.heap.size p s u l := heap_alloc_new w _
end

/-- A tape in block g that was loaded, its words in block h: the words f, N of them, u used up. -/
def Tap (w : World) (g h N : Nat) (f : Nat → Int) (u : Nat) : Prop :=
  g ≠ h ∧ u ≤ N ∧ N < 9223372036854775807 ∧ ∃ c, Tp w g none (.slice (some ⟨h, 0, none⟩) N c) (u : Int) ((N : Int) - (u : Int)) ∧ Own w h N f
section
variable {w w' : World} {g h k N u : Nat} {f f' : Nat → Int}
theorem Tap.heap (ht : Tap w g h N f u) (h1 : w'.heap[g]? = w.heap[g]?) (h2 : w'.heap[h]? = w.heap[h]?) : Tap w' g h N f u := by
  obtain ⟨a, b, c, d, e, i⟩ := ht
  exact ⟨a, b, c, d, h1.trans e, h2.trans i⟩
theorem Tap.lt (ht : Tap w g h N f u) : g < w.heap.size := by
  obtain ⟨_, _, _, _, d, _⟩ := ht
  exact d.lt
theorem Tap.src_lt (ht : Tap w g h N f u) : h < w.heap.size := by
  obtain ⟨_, _, _, _, _, d⟩ := ht
  exact d.lt
theorem Tap.chg {S : Nat → Prop} (ht : Tap w g h N f u) (hc : Chg S w w') (h1 : ¬ S g) (h2 : ¬ S h) : Tap w' g h N f u := ht.heap (hc.block _ ht.lt h1) (hc.block _ ht.src_lt h2)
theorem Tap.below (ht : Tap w g h N f u) (hb : Below w.heap.size w w') : Tap w' g h N f u := ht.heap (hb.block _ ht.lt) (hb.block _ ht.src_lt)
theorem Tap.congr (ht : Tap w g h N f u) (hf : ∀ i, i < N → f i = f' i) : Tap w g h N f' u := by
  obtain ⟨a, b, c, d, e, i⟩ := ht
  exact ⟨a, b, c, d, e, i.congr hf⟩
end

/-- What take leaves. -/
def Took (g h N : Nat) (f : Nat → Int) (u : Nat) (w : World) (e : Ending) (w' : World) : Prop :=
  e = .returned (.int .u64 (f u)) ∧ Tap w' g h N f (u + 1) ∧ Keep g w w'
set_option maxHeartbeats 1000000 in
set_option maxRecDepth 100000 in
theorem take_any (w : World) (g h N : Nat) (f : Nat → Int) (u : Nat) (ht : Tap w g h N f u) (hu : u < N) :
    Calls Tryd.prog 48 #[.pointer (some ⟨g, 0, none⟩)] w (Took g h N f u w) := by
  obtain ⟨hgh, _, hN, c, hT, hS⟩ := ht
  have c0 := hT.c0
  have c1 := hT.c1
  have c2 := hT.c2
  have c3 := hT.c3
  have z2 := hT.frozen 2
  have z3 := hT.frozen 3
  have hT2 := hT.set ((u : Int) + 1) ((N : Int) - u - 1)
  have hK2 := ((Keep.refl g w).set (p := ⟨g, 2, none⟩) rfl (.int .i64 ((u : Int) + 1))).set (p := ⟨g, 3, none⟩) rfl (.int .i64 ((N : Int) - u - 1))
  have e1 : IntKind.i64.wrap ((u : Int) + 1) = (u : Int) + 1 := i64_nat _ (by omega) (by omega)
  have e2 : IntKind.i64.wrap ((N : Int) - u - 1) = (N : Int) - u - 1 := i64_nat _ (by omega) (by omega)
  have hS2 : Own _ h N f := (hK2.block h hS.lt (fun e => hgh e.symm)).trans hS
  have HH := Lib.hid (And.intro hT2 (And.intro hK2 hS2))
  have d0 := hT2.c0
  have d1 := hT2.c1
  have ca := hS2.cell u hu
  have lt1 : (u : Int) < (N : Int) := by omega
  have lt0 : (0 : Int) ≤ (u : Int) := by omega
  clear hT hS hS2 hT2 hK2
  go_enter Tryd.func48, Tryd.ntmps48
  go_wp2
  go_ret
  refine ⟨rfl, ⟨hgh, by omega, hN, c, ?_, HH.out.2.2⟩, HH.out.2.1⟩
  rw [show ((u + 1 : Nat) : Int) = (u : Int) + 1 by omega, show (N : Int) - ((u : Int) + 1) = (N : Int) - u - 1 by omega]
  exact HH.out.1
set_option maxHeartbeats 1000000 in
theorem next_some (w : World) (g h N : Nat) (f : Nat → Int) (u : Nat) (ht : Tap w g h N f u) (hu : u < N) :
    Calls Tryd.prog 39 #[.pointer (some ⟨g, 0, none⟩)] w fun e w' => e = .returned (.tuple #[.int .u64 (f u), .nilIface]) ∧ Tap w' g h N f (u + 1) ∧ Keep g w w' := by
  have HT := Lib.hid (take_any w g h N f u ht hu)
  obtain ⟨_, _, _, c, hT, _⟩ := ht
  have c3 := hT.c3
  have l1 : ¬ ((N : Int) - (u : Int) < 1) := by omega
  clear hT
  go_enter Tryd.func39, Tryd.ntmps39
  go_wp2_with fail
  refine HT.out.mono ?_
  rintro e w1 ⟨rfl, h1, h2⟩
  have HH := Lib.hid (And.intro h1 h2)
  clear h1 h2
  go_wp2
  go_ret2
  exact ⟨rfl, HH.out.1, HH.out.2⟩
set_option maxHeartbeats 400000 in
theorem used_any (w : World) (g h N : Nat) (f : Nat → Int) (u : Nat) (ht : Tap w g h N f u) :
    Calls Tryd.prog 13 #[.pointer (some ⟨g, 0, none⟩)] w fun e w' => e = .returned (.int .i64 (u : Int)) ∧ w = w' := by
  obtain ⟨_, _, _, c, hT, _⟩ := ht
  have c2 := hT.c2
  clear hT
  go_enter Tryd.func13, Tryd.ntmps13
  go_wp2
  go_ret
  exact ⟨rfl, rfl⟩
set_option maxHeartbeats 400000 in
theorem left_any (w : World) (g h N : Nat) (f : Nat → Int) (u : Nat) (ht : Tap w g h N f u) :
    Calls Tryd.prog 36 #[.pointer (some ⟨g, 0, none⟩)] w fun e w' => e = .returned (.int .i64 ((N : Int) - (u : Int))) ∧ w = w' := by
  obtain ⟨_, _, _, c, hT, _⟩ := ht
  have c3 := hT.c3
  clear hT
  go_enter Tryd.func36, Tryd.ntmps36
  go_wp2
  go_ret
  exact ⟨rfl, rfl⟩
/-- A new tape. -/
def NewT (N : Nat) (f : Nat → Int) (w : World) (e : Ending) (w' : World) : Prop :=
  ∃ g h, w.heap.size ≤ g ∧ w.heap.size ≤ h ∧ e = .returned (.pointer (some ⟨g, 0, none⟩)) ∧ Tap w' g h N f 0 ∧ Below w.heap.size w w'
theorem made_words (n : Nat) : madeCells (Value.int .u64 0).cells (n * 1) = (wordsOf n fun _ => 0).toArray := by
  rw [Nat.mul_one]
  apply Array.ext
  · simp [madeCells, wordsOf]
  · intro i h1 h2
    simp [madeCells, wordsOf, Value.cells, Nat.mod_one]
theorem run_makeWords (w : World) (n : Nat) (h : n * 8 ≤ 140737488355328) :
    (Instr.makeSlice 22 (.int .i64 (n : Int)) (.int .i64 (n : Int))).run Tryd.prog w = .ok (.slice (some ⟨w.heap.size, 0, none⟩) n n) (w.alloc (.cells (wordsOf n fun _ => 0).toArray 46)) := by
  obtain ⟨i0, hi, hz0, hz1, hz2⟩ := infoW
  have := run_make (P := Tryd.prog) w 22 46 i0 (.int .u64 0) Tryd.underlying22 hi hz0 .i64 .i64 n n (by omega) (by omega) (by rw [hz2]; omega) (by omega)
  rw [hz1, Int.toNat_natCast, made_words] at this
  exact this
set_option maxHeartbeats 1000000 in
set_option maxRecDepth 100000 in
theorem load_any (v : Value) (n : Nat) (f : Nat → Int) (w : World) (hv : Lst w v n f) (hn : n * 8 ≤ 140737488355328) :
    Calls Tryd.prog 9 #[v] w (NewT n f w) := by
  have hmk := run_makeWords w n hn
  have hO : Own (w.alloc (.cells (wordsOf n fun _ => 0).toArray 46)) w.heap.size n (fun _ => 0) := heap_alloc_new w _
  have hb : Below w.heap.size w (w.alloc (.cells (wordsOf n fun _ => 0).toArray 46)) := (Below.refl _ _).alloc (Nat.le_refl _) _
  have hi1 : (Tryd.prog.info? 46).map (·.size) = some 1 := by
    obtain ⟨i0, hi, _, hz1, _⟩ := infoW
    rw [hi]; simp [hz1]
  obtain ⟨A, c, rfl, hnc, hcm, hnil, hA⟩ := hv
  have hcp : ∃ k w2, (∀ ty, (Builtin.copy_ #[22, 22] ty #[.slice (some ⟨w.heap.size, 0, none⟩) n n, .slice A n c]).run Tryd.prog (w.alloc (.cells (wordsOf n fun _ => 0).toArray 46)) = .ok (goInt k) w2) ∧
      Own w2 w.heap.size n f ∧ Below w.heap.size w w2 := by
    rcases A with _ | ad
    · obtain rfl := hnil rfl
      obtain rfl : n = 0 := by omega
      exact ⟨0, _, fun ty => run_copy_nil Tryd.prog _ 22 22 ty 46 _ _ _ Tryd.underlying22 (by rw [hi1]; rfl), hO.congr fun q hq => absurd hq (by omega), hb⟩
    · refine ⟨_, _, fun ty => run_copy_row Tryd.prog _ 22 22 ty 46 w.heap.size 0 n n ad n c (wordsOf n fun _ => 0).toArray 46 (wordsOf n f) Tryd.underlying22 hi1 hO (by rw [wordsOf_length]; simp) ?_ ?_ (words_one n f), ?_, ?_⟩
      · intro j u hu
        have hj : j < n := by
          have := (List.getElem?_eq_some_iff.1 hu).1
          rwa [wordsOf_length] at this
        rw [wordsOf_get _ _ _ hj] at hu
        obtain ⟨ad', e, hc⟩ := hA j hj
        cases e
        rw [← hu, World.cell?_alloc_lt w _ _ (World.block_lt_of_cell? _ _ hc)]
        exact hc
      · rw [wordsOf_length]; simp [wordsOf_length]
      · unfold Own
        rw [setRow_heap _ _ _ _ _ _ hO]
        simp only [List.take_zero, List.nil_append, Nat.zero_add, wordsOf_length]
        rw [List.drop_eq_nil_of_le (by simp [wordsOf_length]), List.append_nil]
      · exact Below.row hb (Nat.le_refl _) _
  obtain ⟨k, w2, hcp, hO2, hb2⟩ := hcp
  have hlt := hO2.lt
  have FN := Lib.hid (show NewT n f w (.returned (.pointer (some ⟨w2.heap.size, 0, none⟩))) (w2.alloc (.cells #[.pointer none, .slice (some ⟨w.heap.size, 0, none⟩) n n, .int .i64 0, .int .i64 (n : Int)] 69)) by
    refine ⟨w2.heap.size, w.heap.size, hb2.size, Nat.le_refl _, rfl, ⟨by omega, by omega, by omega, n, ?_, hO2.alloc _⟩, hb2.alloc hb2.size _⟩
    have := Tp.new w2 none (.slice (some ⟨w.heap.size, 0, none⟩) n n) 0 (n : Int)
    rw [show (n : Int) - ((0 : Nat) : Int) = (n : Int) by omega]
    exact this)
  clear hO hb hO2 hb2 hi1 hA hnil hnc hcm hlt
  go_enter Tryd.func9, Tryd.ntmps9
  go_wp2
  go_ret
  exact FN.out
end Go.Proofs.YtgmlmngnedhllaaDoor
