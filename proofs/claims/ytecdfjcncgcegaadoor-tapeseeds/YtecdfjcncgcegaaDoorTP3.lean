/- The contracts of tape's New and Load. -/
import Derived.Test.YtecdfjcncgcegaaDoorTP2
namespace Go.Proofs.YtecdfjcncgcegaaDoor
open Go.RowKit

theorem cnt_low (n : Int) (h : n < 0) : cnt n = 0 := by unfold cnt; omega
theorem cnt_high (n : Int) (h : 1048576 < n) : cnt n = 1048576 := by unfold cnt; omega
theorem cnt_mid (n : Int) (h0 : 0 ≤ n) (h1 : n ≤ 1048576) : (cnt n : Int) = n := by unfold cnt; omega
theorem cnt_le (n : Int) : cnt n ≤ 1048576 := by unfold cnt; omega

set_option maxHeartbeats 1000000 in
set_option maxRecDepth 100000 in
theorem tnew_any (key : Nat → Nat) (n : Int) (w : World) (hk : ∀ i, key i < 256) :
    Calls Tryd.prog 11 #[.agg (bys 16 key), .int .i64 n] w (NewT (cnt n) (fun i => (wordN (Aes.ks key) i : Int)) w) := by
  have h1 := OwnB.new w 16 30 key
  have hb0 := (Below.refl w.heap.size w).alloc (Nat.le_refl _) (.cells (bys 16 key) 30)
  have HN := Lib.hid (new_any key (w.alloc (.cells (bys 16 key) 30)) hk)
  have HK := Lib.hid (And.intro hk hb0)
  clear hk hb0
  go_enter Tryd.func11, Tryd.ntmps11
  go_wp2_with (refine ld_row 30 16 _ Tryd.underlying30 Tryd.info30 rfl _ rfl _ rfl h1 ?_)
  refine HN.out.mono ?_
  rintro e w1 ⟨gc, hgc, rfl, hC, hb1⟩
  have hbw := HK.out.2.trans (hb1.mono HK.out.2.size)
  have hlt : gc < w1.heap.size := OwnB.lt hC
  simp only [World.size_alloc] at hgc
  have HH := Lib.hid (And.intro hC hbw)
  have fin : ∀ N : Nat, N ≤ 1048576 → NewT N (fun i => (wordN (Aes.ks key) i : Int)) w (.returned (.pointer (some ⟨w1.heap.size, 0, none⟩))) (w1.alloc (.cells #[.pointer (some ⟨gc, 0, none⟩), .slice none 0 0, .int .i64 0, .int .i64 (N : Int)] 51)) := by
    intro N hN
    refine ⟨w1.heap.size, gc, hbw.size, by omega, by simp; omega, rfl, ⟨by omega, by omega, by omega, _, _, ?_, .inl ⟨Aes.ks key, rfl, rfl, OwnB.alloc hC _, Aes.ks_lt key HK.out.1, fun i _ => rfl⟩⟩, hbw.alloc hbw.size _⟩
    have := Tp.new w1 (some ⟨gc, 0, none⟩) (.slice none 0 0) 0 (N : Int)
    rw [show (N : Int) - ((0 : Nat) : Int) = (N : Int) by omega]
    exact this
  have FN := Lib.hid fin
  clear hC hb1 hbw h1 fin HN
  by_cases hn : n < 0
  · have HE := Lib.hid (cnt_low n hn)
    go_wp2
    go_ret
    rw [HE.out]
    exact FN.out 0 (by omega)
  · by_cases hm : 1048576 < n
    · have HE := Lib.hid (cnt_high n hm)
      go_wp2
      go_ret
      rw [HE.out]
      exact FN.out 1048576 (by omega)
    · have HE := Lib.hid (cnt_mid n (by omega) (by omega))
      go_wp2
      go_ret
      have := FN.out (cnt n) (cnt_le n)
      rw [HE.out] at this
      exact this

theorem made_words (n : Nat) : madeCells (Value.int .u64 0).cells (n * 1) = (wordsOf n fun _ => 0).toArray := by
  rw [Nat.mul_one]
  apply Array.ext
  · simp [madeCells, wordsOf]
  · intro i h1 h2
    simp [madeCells, wordsOf, Value.cells, Nat.mod_one]
theorem run_makeWords (w : World) (n : Nat) (h : n * 8 ≤ 140737488355328) :
    (Instr.makeSlice 22 (.int .i64 (n : Int)) (.int .i64 (n : Int))).run Tryd.prog w = .ok (.slice (some ⟨w.heap.size, 0, none⟩) n n) (w.alloc (.cells (wordsOf n fun _ => 0).toArray 27)) := by
  obtain ⟨i0, hi, hz0, hz1, hz2⟩ := infoW
  have := run_make (P := Tryd.prog) w 22 27 i0 (.int .u64 0) Tryd.underlying22 hi hz0 .i64 .i64 n n (by omega) (by omega) (by rw [hz2]; omega) (by omega)
  rw [hz1, Int.toNat_natCast, made_words] at this
  exact this
set_option maxHeartbeats 1000000 in
set_option maxRecDepth 100000 in
theorem load_any (v : Value) (n : Nat) (f : Nat → Int) (w : World) (hv : Lst w v n f) (hn : n * 8 ≤ 140737488355328) :
    Calls Tryd.prog 8 #[v] w (NewT n f w) := by
  have hmk := run_makeWords w n hn
  have hO : Own (w.alloc (.cells (wordsOf n fun _ => 0).toArray 27)) w.heap.size n (fun _ => 0) := heap_alloc_new w _
  have hb : Below w.heap.size w (w.alloc (.cells (wordsOf n fun _ => 0).toArray 27)) := (Below.refl _ _).alloc (Nat.le_refl _) _
  have hi1 : (Tryd.prog.info? 27).map (·.size) = some 1 := by
    obtain ⟨i0, hi, _, hz1, _⟩ := infoW
    rw [hi]; simp [hz1]
  obtain ⟨A, c, rfl, hnc, hcm, hnil, hA⟩ := hv
  have hcp : ∃ k w2, (∀ ty, (Builtin.copy_ #[22, 22] ty #[.slice (some ⟨w.heap.size, 0, none⟩) n n, .slice A n c]).run Tryd.prog (w.alloc (.cells (wordsOf n fun _ => 0).toArray 27)) = .ok (goInt k) w2) ∧
      Own w2 w.heap.size n f ∧ Below w.heap.size w w2 := by
    rcases A with _ | ad
    · obtain rfl := hnil rfl
      obtain rfl : n = 0 := by omega
      exact ⟨0, _, fun ty => run_copy_nil Tryd.prog _ 22 22 ty 27 _ _ _ Tryd.underlying22 (by rw [hi1]; rfl), hO.congr fun q hq => absurd hq (by omega), hb⟩
    · refine ⟨_, _, fun ty => run_copy_row Tryd.prog _ 22 22 ty 27 w.heap.size 0 n n ad n c (wordsOf n fun _ => 0).toArray 27 (wordsOf n f) Tryd.underlying22 hi1 hO (by rw [wordsOf_length]; simp) ?_ ?_ (words_one n f), ?_, ?_⟩
      · intro j u hu
        have hj : j < n := by
          have := (List.getElem?_eq_some_iff.1 hu).1
          rwa [wordsOf_length] at this
        rw [wordsOf_get _ _ _ hj] at hu
        obtain ⟨ad', e, hc⟩ := hA j hj
        cases e
        rw [← hu, World.cell?_alloc_lt w _ _ (World.block_lt_of_cell? _ _ hc)]
        exact hc
      · rw [wordsOf_length]; simp [wordsOf_length]
      · unfold Own
        rw [setRow_heap _ _ _ _ _ _ hO]
        simp only [List.take_zero, List.nil_append, Nat.zero_add, wordsOf_length]
        rw [List.drop_eq_nil_of_le (by simp [wordsOf_length]), List.append_nil]
      · exact Below.row hb (Nat.le_refl _) _
  obtain ⟨k, w2, hcp, hO2, hb2⟩ := hcp
  have hlt := hO2.lt
  have FN := Lib.hid (show NewT n f w (.returned (.pointer (some ⟨w2.heap.size, 0, none⟩))) (w2.alloc (.cells #[.pointer none, .slice (some ⟨w.heap.size, 0, none⟩) n n, .int .i64 0, .int .i64 (n : Int)] 51)) by
    refine ⟨w2.heap.size, w.heap.size, hb2.size, Nat.le_refl _, by simp; omega, rfl, ⟨by omega, by omega, by omega, _, _, ?_, .inr ⟨⟨w.heap.size, 0, none⟩, n, rfl, rfl, rfl, At.own (hO2.alloc _)⟩⟩, hb2.alloc hb2.size _⟩
    have := Tp.new w2 none (.slice (some ⟨w.heap.size, 0, none⟩) n n) 0 (n : Int)
    rw [show (n : Int) - ((0 : Nat) : Int) = (n : Int) by omega]
    exact this)
  clear hO hb hO2 hb2 hi1 hA hnil hnc hcm hlt
  go_enter Tryd.func8, Tryd.ntmps8
  go_wp2
  go_ret
  exact FN.out
end Go.Proofs.YtecdfjcncgcegaaDoor
