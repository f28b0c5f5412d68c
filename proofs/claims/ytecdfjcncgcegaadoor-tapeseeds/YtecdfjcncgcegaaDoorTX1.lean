/- TapeReads' walk. -/
import Derived.Test.YtecdfjcncgcegaaDoorTP4
namespace Go.Proofs.YtecdfjcncgcegaaDoor
open Go.RowKit

theorem empty_own (w : World) : (w.alloc (.cells #[] 27)).ownsRow w.heap.size 27 1 (.slice (some ⟨w.heap.size, 0, none⟩) 0 0) 0 (wordsOf 0 fun _ => 0) :=
  ⟨rfl, .inr ⟨w.heap.size, 0, #[], rfl, Nat.le_refl _, heap_alloc_new w _, Nat.le_refl _, Nat.zero_le _, rfl, rfl⟩⟩
/-- Block g has room for n words. -/
def Room (w : World) (g n : Nat) : Prop := ∃ cur, w.heap[g]? = some (.cells cur 27 (0, 0)) ∧ n ≤ cur.size
theorem Room.cell {w : World} {g n : Nat} (h : Room w g n) (i : Nat) (hi : i < n) : ∃ v, w.cell? ⟨g, i, none⟩ = some v := by
  obtain ⟨cur, h1, h2⟩ := h
  exact ⟨cur[i]'(by omega), by rw [cell_of_row w g i cur 27 (0, 0) h1, Array.getElem?_eq_getElem (by omega)]⟩
theorem Room.frozen {w : World} {g n : Nat} (h : Room w g n) (i : Nat) : w.frozen? ⟨g, i, none⟩ = false := by
  obtain ⟨cur, h1, h2⟩ := h
  simp [World.frozen?, h1]
theorem Room.set {w : World} {g n : Nat} (h : Room w g n) (i : Nat) (v : Value) : Room (w.setCell ⟨g, i, none⟩ v) g n := by
  obtain ⟨cur, h1, h2⟩ := h
  refine ⟨cur.setIfInBounds i v, ?_, by simpa using h2⟩
  simp [World.setCell, Array.getElem?_modify, h1]
theorem Room.below {w w' : World} {g n : Nat} (h : Room w g n) {B : Nat} (hb : Below B w w') (hg : g < B) : Room w' g n := by
  obtain ⟨cur, h1, h2⟩ := h
  exact ⟨cur, (hb.block g hg).trans h1, h2⟩
theorem AtO.block_lt {w : World} {A : Option Addr} {n : Nat} {f : Nat → Int} (h : AtO w A n f) : ∀ ad, A = some ad → 0 < n → ad.block < w.heap.size := fun ad e hn => by
  obtain ⟨ad', e', hc⟩ := h 0 hn
  rw [e] at e'
  cases e'
  have := World.block_lt_of_cell? _ _ hc
  simpa [Addr.add] using this
theorem AtI.block_lt {w : World} {A : Option Addr} {n : Nat} {f : Nat → Int} (h : AtI w A n f) : ∀ ad, A = some ad → 0 < n → ad.block < w.heap.size := fun ad e hn => by
  obtain ⟨ad', e', hc⟩ := h 0 hn
  rw [e] at e'
  cases e'
  have := World.block_lt_of_cell? _ _ hc
  simpa [Addr.add] using this
/-- What reads wants, of two lists that lay there when the law began. -/
theorem reads_of (g h N M B : Nat) (f sc : Nat → Int) (A : Option Addr) (C : Option Addr) (c d : Nat) (w w1 : World) (ht : Tap w1 g h N f 0) (hB : B ≤ g) (hw : w.heap.size = B) (hb : Below B w w1) (hh : Handle w)
    (hA : AtO w A N f) (hC : AtI w C M sc) (hM : M ≤ maxLen) :
    Calls Tryd.prog 9 #[.pointer (some ⟨g, 0, none⟩), .slice A N c, .slice C M d] w1 fun e w' => e = .returned (.bool true) ∧ Keep g w1 w' ∧ Below B w w' := by
  subst hw
  have hp := hh.pos
  refine (reads_any g h N M f sc A C c d w1 ht (hh.below hb hp) (by omega) (hA.below hb) (fun ad e hn => by have := hA.block_lt ad e hn; omega) (hC.below hb) (fun ad e hn => by have := hC.block_lt ad e hn; omega) hM).mono ?_
  rintro e w' ⟨he, hk⟩
  exact ⟨he, hk, hk.below hb hB hb.size⟩

set_option maxHeartbeats 2000000 in
set_option maxRecDepth 100000 in
theorem reads_walk (A C : Option Addr) (n c M d : Nat) (f sc : Nat → Int) (w : World) (hh : Handle w) (hA : AtO w A n f) (hAn : A = none → n = 0 ∧ c = 0) (hC : AtI w C M sc) (hn : n * 8 ≤ 140737488355328) (hM : M ≤ maxLen) :
    Calls Tryd.prog 3 #[.slice A n c, .slice C M d] w fun e w' => e = .returned (.bool true) ∧ Below w.heap.size w w' := by
  have H0 := Lib.hid (And.intro hh (And.intro hA (And.intro hAn (And.intro hC (And.intro hn hM)))))
  clear hh hA hAn hC hn hM
  go_enter Tryd.func3, Tryd.ntmps3
  go_wp2_with fail
  refine (awake_any _ H0.out.1).mono ?_
  rintro e w1 ⟨rfl, hb1⟩
  have hb2 : Below w1.heap.size w1 (w1.alloc (.cells #[] 27)) := (Below.refl _ _).alloc (Nat.le_refl _) _
  have hb12 := hb1.trans (hb2.mono hb1.size)
  obtain ⟨v3, w3, hr, ho, hb3⟩ := append_own (w1.alloc (.cells #[] 27)) w1.heap.size _ 0 n (fun _ => 0) f A c (empty_own w1) (H0.out.2.1.below hb12) H0.out.2.2.1 (by have := H0.out.2.2.2.2.1; omega) (by simp)
  rw [Nat.zero_add, wordsOf_congr (f := fun i => if i < 0 then (0 : Int) else f (i - 0)) (g := f) (fun q _ => by simp)] at ho
  have hb13 := hb12.trans (hb3.mono hb1.size)
  have HL := Lib.hid (load_any v3 n f w3 (own_lst ho) H0.out.2.2.2.2.1)
  have hroom : (v3 = .slice none 0 0 ∧ n = 0) ∨ ∃ g2 cap, v3 = .slice (some ⟨g2, 0, none⟩) n cap ∧ w1.heap.size ≤ g2 ∧ Room w3 g2 n := by
    rcases ho.2 with h | ⟨g2, cap, cur, e1, e2, e3, e4, _, e5, _⟩
    · exact .inl h
    · exact .inr ⟨g2, cap, e1, e2, cur, e3, by rw [e5]; omega⟩
  have HR := Lib.hid hr
  have H1 := Lib.hid hb13
  have hs1 := hb1.size
  clear hb1 hb2 hb12 hr ho hb3 hb13
  go_wp2_with (at_builtin; refine wpList_append_run rfl _ _ 22 rfl _ _ v3 w3 rfl rfl HR.out ?_)
  refine HL.out.mono ?_
  rintro e w4 ⟨g, h, hg, hh, _, rfl, hT, hb4⟩
  have hb14 := H1.out.trans (hb4.mono H1.out.size)
  have hs3 := H1.out.size
  rcases hroom with ⟨rfl, rfl⟩ | ⟨g2, cap, rfl, hg2, hrm⟩
  · have H4 := Lib.hid (And.intro hT hb14)
    clear hT hb4 hb14 HL HR H1
    go_wp2
    go_loopw [17] (fun i wr => i = .int .i64 0 ∧ wr = w4) (fun _ _ => 0)
    case atStart => exact ⟨rfl, rfl⟩
    case round =>
      obtain ⟨rfl, rfl⟩ := hrel
      go_wp2_with fail
      refine (reads_of g h 0 M _ f sc A C c d w _ H4.out.1 (by omega) rfl H4.out.2 H0.out.1 H0.out.2.1 H0.out.2.2.2.1 H0.out.2.2.2.2.2).mono ?_
      rintro e w5 ⟨rfl, _, hb5⟩
      have HB := Lib.hid hb5
      clear hb5
      go_wp2
      go_ret
      exact ⟨rfl, HB.out⟩
  · have hlt2 : g2 < w3.heap.size := by
      obtain ⟨cur, h1, _⟩ := hrm
      exact (Array.getElem?_eq_some_iff.1 h1).1
    have H4 := Lib.hid (And.intro hT (And.intro hb14 (hrm.below hb4 hlt2)))
    clear hT hb4 hb14 HL HR hrm
    go_wp2
    go_loopw [17] (fun i wr => ∃ k : Nat, k ≤ n ∧ i = .int .i64 k ∧ Hid (Room wr g2 n ∧ Keep g2 w4 wr)) (fun i _ => n - (intOf i).toNat)
    case atStart => exact ⟨0, by omega, rfl, H4.out.2.2, Keep.refl _ _⟩
    case round =>
      obtain ⟨k, hk, rfl, HI⟩ := hrel
      have hn := H0.out.2.2.2.2.1
      by_cases hlt : k < n
      · obtain ⟨x, cx⟩ := HI.out.1.cell k hlt
        have fx := HI.out.1.frozen k
        have e1 : IntKind.i64.wrap ((k : Int) + 1) = (k : Int) + 1 := i64_nat _ (by omega) (by omega)
        go_wp2
        go_roundw
        case rel => exact ⟨k + 1, by omega, by go_num, HI.out.1.set _ _, HI.out.2.set rfl _⟩
        case measure => simp [intOf]; omega
      · go_wp2_with fail
        refine (reads_of g h n M _ f sc A C c d w _ (H4.out.1.keep HI.out.2 (by omega) (by omega)) (by omega) rfl (HI.out.2.below H4.out.2.1 (by omega) H4.out.2.1.size) H0.out.1 H0.out.2.1 H0.out.2.2.2.1 H0.out.2.2.2.2.2).mono ?_
        rintro e w5 ⟨rfl, _, hb5⟩
        have HB := Lib.hid hb5
        clear hb5
        go_wp2
        go_ret
        exact ⟨rfl, HB.out⟩
end Go.Proofs.YtecdfjcncgcegaaDoor
