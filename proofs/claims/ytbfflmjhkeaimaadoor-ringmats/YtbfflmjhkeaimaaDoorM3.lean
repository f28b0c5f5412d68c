/- The laws' helpers on lists of nine words: Words, square, times, turned. -/
import Derived.Test.YtbfflmjhkeaimaaDoorA1
import Derived.Laws.CopyRow
namespace Go.Proofs.YtbfflmjhkeaimaaDoor
open Go.RowKit

/-- Words that are read from an address on, if there are any. -/
def AtO (w : World) (A : Option Addr) (n : Nat) (f : Nat → Int) : Prop := ∀ i, i < n → ∃ ad, A = some ad ∧ w.cell? (ad.add i) = some (.int .u64 (f i))
theorem At.opt {w : World} {ad : Addr} {n : Nat} {f : Nat → Int} (h : At w ad n f) : AtO w (some ad) n f := fun i hi => ⟨ad, rfl, h i hi⟩
theorem AtO.none {w : World} {A : Option Addr} {f : Nat → Int} : AtO w A 0 f := fun i hi => absurd hi (by omega)

set_option maxHeartbeats 1000000 in
theorem words_same (A B : Option Addr) (n c c' : Nat) (f g : Nat → Int) (w : World) (hn : n ≤ maxLen) (hA : AtO w A n f) (hB : AtO w B n g) (he : ∀ i, i < n → f i = g i) :
    Calls Tryd.prog 19 #[.slice A n c, .slice B n c'] w fun e w' => e = .returned (.bool true) ∧ Below w.heap.size w w' := by
  have HA := Lib.hid hA
  have HB := Lib.hid hB
  have HE := Lib.hid he
  clear hA hB he
  unfold maxLen at hn
  go_enter Tryd.func19, Tryd.ntmps19
  go_wp2
  go_loopw [13] (fun t wr => ∃ k : Nat, k ≤ n ∧ t = .int .i64 k ∧ Hid (wr.heap = w.heap ∧ wr.tape = w.tape ∧ wr.os = w.os ∧ wr.output = w.output)) (fun t _ => n - (intOf t).toNat)
  case atStart => exact ⟨0, by omega, rfl, rfl, rfl, rfl, rfl⟩
  case round =>
    obtain ⟨k, hk, rfl, HW⟩ := hrel
    by_cases hlt : k < n
    · obtain ⟨aa, eA, cA⟩ := HA.out k hlt
      obtain ⟨ba, eB, cB⟩ := HB.out k hlt
      subst eA eB
      have c1 : wr.cell? (aa.add k) = some (.int .u64 (g k)) := by rw [← HE.out k hlt, ← cA]; simp only [World.cell?, HW.out.1]
      have c2 : wr.cell? (ba.add k) = some (.int .u64 (g k)) := by rw [← cB]; simp only [World.cell?, HW.out.1]
      clear cA cB
      go_wp2
      go_quiet (fail)
      go_wp2
      go_roundw
      case rel => exact ⟨k + 1, by omega, by go_num, HW.out⟩
      case measure => simp [intOf]; omega
    · go_wp2
      go_ret
      exact ⟨rfl, HW.out.2.2.1, HW.out.2.1, HW.out.2.2.2, by rw [HW.out.1]; exact Nat.le_refl _, fun i _ => by rw [HW.out.1]⟩

/-- A list that came in: nil, or words from an address on. -/
def In (w : World) (v : Value) (n : Nat) (f : Nat → Int) : Prop :=
  (v = .slice none 0 0 ∧ n = 0) ∨ ∃ ad c, v = .slice (some ad) n c ∧ At w ad n f
/-- A new list of n words. -/
def NewList (n : Nat) (f : Nat → Int) (w : World) (e : Ending) (w' : World) : Prop :=
  ∃ g, w.heap.size ≤ g ∧ e = .returned (.slice (some ⟨g, 0, none⟩) n n) ∧ Own w' g n f ∧ Below w.heap.size w w'
theorem setRow_below (w : World) (g : Nat) (cs : Array Value) : Below g w (w.setRow g cs) :=
  ⟨rfl, rfl, rfl, by simp [World.setRow], fun k hk => by simp only [World.setRow, Array.getElem?_modify]; rw [if_neg (by omega)]⟩
theorem take_words (n m : Nat) (f : Nat → Int) (N : Nat) (h : Nat.min n m = N) (hm : m = 9) :
    wordsOf N f ++ (wordsOf 9 fun _ => 0).drop N = wordsOf 9 (fun i => if i < n then f i else 0) := by
  subst hm
  have hN : N ≤ 9 := by rw [← h]; exact Nat.min_le_right _ _
  apply List.ext_getElem?
  intro i
  rcases Nat.lt_or_ge i N with hi | hi
  · rw [List.getElem?_append_left (by rw [wordsOf_length]; exact hi), wordsOf_get _ _ _ hi, wordsOf_get _ _ _ (by omega), if_pos (by have := Nat.min_le_left n 9; have e : Nat.min n 9 = N := h; simp only [Nat.min_def] at e; split at e <;> omega)]
  · rw [List.getElem?_append_right (by rw [wordsOf_length]; exact hi), wordsOf_length, List.getElem?_drop, show N + (i - N) = i by omega]
    rcases Nat.lt_or_ge i 9 with h9 | h9
    · rw [wordsOf_get _ _ _ h9, wordsOf_get _ _ _ h9, if_neg (by have e : Nat.min n 9 = N := h; simp only [Nat.min_def] at e; split at e <;> omega)]
    · simp only [wordsOf, List.getElem?_map]
      simp [Nat.not_lt.2 h9]
set_option maxHeartbeats 1000000 in
set_option maxRecDepth 100000 in
theorem square_any (v : Value) (n : Nat) (f : Nat → Int) (w : World) (h : In w v n f) :
    Calls Tryd.prog 26 #[v] w (NewList 9 (fun i => if i < n then f i else 0) w) := by
  have hmk : (Instr.makeSlice 28 (.int .i64 9) (.int .i64 9)).run Tryd.prog w = .ok (.slice (some ⟨w.heap.size, 0, none⟩) 9 9) (w.alloc (.cells (wordsOf 9 fun _ => 0).toArray 22)) := run_makeWords w 9 (by omega)
  have hO : Own (w.alloc (.cells (wordsOf 9 fun _ => 0).toArray 22)) w.heap.size 9 (fun _ => 0) := heap_alloc_new w _
  have hb : Below w.heap.size w (w.alloc (.cells (wordsOf 9 fun _ => 0).toArray 22)) := (Below.refl _ _).alloc (Nat.le_refl _) _
  have hi1 : (Tryd.prog.info? 22).map (·.size) = some 1 := by
    obtain ⟨i0, hi, _, hz1, _⟩ := info_parts Tryd.info22
    rw [hi]; simp [hz1]
  have hcp : ∃ k w2, (∀ ty, (Builtin.copy_ #[28, 28] ty #[.slice (some ⟨w.heap.size, 0, none⟩) 9 9, v]).run Tryd.prog (w.alloc (.cells (wordsOf 9 fun _ => 0).toArray 22)) = .ok (goInt k) w2) ∧
      Own w2 w.heap.size 9 (fun i => if i < n then f i else 0) ∧ Below w.heap.size w w2 := by
    rcases h with ⟨rfl, rfl⟩ | ⟨ad, c, rfl, hA⟩
    · exact ⟨0, _, fun ty => run_copy_nil Tryd.prog _ 28 28 ty 22 _ _ _ Tryd.underlying28 (by rw [hi1]; rfl), hO.congr fun q _ => by simp, hb⟩
    · refine ⟨_, _, fun ty => run_copy_row Tryd.prog _ 28 28 ty 22 w.heap.size 0 9 9 ad n c (wordsOf 9 fun _ => 0).toArray 22 (wordsOf (Nat.min n 9) f) Tryd.underlying28 hi1 hO (by rw [wordsOf_length]) ?_ ?_ ?_, ?_, ?_⟩
      · intro j u hu
        have hj : j < Nat.min n 9 := by
          have := (List.getElem?_eq_some_iff.1 hu).1
          rwa [wordsOf_length] at this
        rw [wordsOf_get _ _ _ hj] at hu
        have hc := hA j (Nat.lt_of_lt_of_le hj (Nat.min_le_left _ _))
        rw [← hu, World.cell?_alloc_lt w _ _ (World.block_lt_of_cell? _ _ hc)]
        exact hc
      · rw [wordsOf_length]; simp [wordsOf_length]; exact Nat.min_le_right _ _
      · intro u hu
        simp only [wordsOf, List.mem_map] at hu
        obtain ⟨_, _, rfl⟩ := hu
        rfl
      · unfold Own
        rw [setRow_heap _ _ _ _ _ _ hO]
        simp only [List.take_zero, List.nil_append, Nat.zero_add, wordsOf_length]
        rw [take_words n 9 f _ rfl rfl]
      · exact hb.trans (setRow_below _ _ _)
  obtain ⟨k, w2, hcp, hO2, hb2⟩ := hcp
  have H := Lib.hid (And.intro hO2 hb2)
  clear hO hb hO2 hb2 hi1 h
  go_enter Tryd.func26, Tryd.ntmps26
  go_wp2
  go_ret
  exact ⟨w.heap.size, Nat.le_refl _, rfl, H.out.1, H.out.2⟩
set_option maxHeartbeats 1000000 in
theorem times_any (ga gb : Nat) (f g : Nat → Int) (w : World) (hA : Own w ga 9 f) (hB : Own w gb 9 g) :
    Calls Tryd.prog 27 #[.slice (some ⟨ga, 0, none⟩) 9 9, .slice (some ⟨gb, 0, none⟩) 9 9] w (NewList 9 (prodF f g 3 3) w) := by
  have hm := mat_ok 3 3 3 9 9 f g ⟨ga, 0, none⟩ ⟨gb, 0, none⟩ w (by omega) (by omega) (by omega) (At.own hA) (At.own hB) hA.lt hB.lt (by omega)
  have HM := Lib.hid hm
  clear hm hA hB
  go_enter Tryd.func27, Tryd.ntmps27
  go_wp2_with fail
  refine HM.out.mono ?_
  rintro e w1 ⟨gg, hg, rfl, hO, hb⟩
  have H := Lib.hid (And.intro hO hb)
  clear hO hb
  go_wp2
  go_ret
  exact ⟨gg, hg, rfl, H.out.1, H.out.2⟩
end Go.Proofs.YtbfflmjhkeaimaaDoor
