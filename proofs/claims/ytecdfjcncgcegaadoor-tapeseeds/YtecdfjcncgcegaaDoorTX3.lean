/- The document's Words; TapeSeeds' walk. -/
import Derived.Test.YtecdfjcncgcegaaDoorTX1
import Derived.Test.YtecdfjcncgcegaaDoorAR7
namespace Go.Proofs.YtecdfjcncgcegaaDoor
open Go.RowKit

theorem own_below {w w' : World} {base n : Nat} {v : Value} {xs : List Value} (h : w.ownsRow base 27 1 v n xs) (hb : Below w.heap.size w w') : w'.ownsRow base 27 1 v n xs := by
  refine ⟨h.1, ?_⟩
  rcases h.2 with h0 | ⟨g, cap, cur, h1, h2, h3, h4⟩
  · exact .inl h0
  · exact .inr ⟨g, cap, cur, h1, h2, (hb.block g (Array.getElem?_eq_some_iff.1 h3).1).trans h3, h4⟩
/-- What Words holds to, round by round. -/
def WIn (w : World) (f : Nat → Int) (v : Value) (k : Nat) (wr : World) : Prop := wr.ownsRow w.heap.size 27 1 v k (wordsOf k f) ∧ Below w.heap.size w wr
theorem WIn.next {w wr w' : World} {f : Nat → Int} {k : Nat} {v : Value} (h : WIn w f v k wr) (hb : Below wr.heap.size wr w') : WIn w f v k w' :=
  ⟨own_below h.1 hb, h.2.trans (hb.mono h.2.size)⟩
theorem WIn.fin {w0 w wr : World} {f : Nat → Int} {k N : Nat} {v : Value} (h : WIn w f v k wr) (hN : k = N) (hb : Below w0.heap.size w0 w) : Lst wr v N f ∧ Below w0.heap.size w0 wr :=
  ⟨by rw [← hN]; exact own_lst h.1, hb.trans (h.2.mono hb.size)⟩
theorem one_word (w : World) (x : Int) : AtO (w.alloc (.cells #[.int .u64 x] 27)) (some ⟨w.heap.size, 0, none⟩) 1 (fun _ => x) := fun q hq => ⟨_, rfl, by
  obtain rfl : q = 0 := by omega
  simp [Addr.add]⟩
set_option maxHeartbeats 2000000 in
set_option maxRecDepth 100000 in
theorem words_any (key : Nat → Nat) (n : Int) (g0 : Nat) (w : World) (hk : ∀ i, key i < 256) (hA : AtB w ⟨g0, 0, none⟩ 16 key) (f : Nat → Int) (hf : ∀ i, f i = (wordN (Aes.ks key) i : Int)) :
    Calls Tryd.prog 10 #[.slice (some ⟨g0, 0, none⟩) 16 16, .int .i64 n] w fun e w' => ∃ v, e = .returned v ∧ Lst w' v (cnt n) f ∧ Below w.heap.size w w' := by
  have HN := Lib.hid (rnew_any key g0 16 w hk hA ⟨Nat.le_refl _, by decide⟩)
  have HW := Lib.hid (fun g c gb cb n w hC hn => (rword_any key g c gb cb n w hC hk hn).mono fun e w' (h : e = .returned (.int .u64 (wordN (Aes.ks key) n : Int)) ∧ Below w.heap.size w w') => show e = .returned (.int .u64 (f n)) ∧ Below w.heap.size w w' from ⟨by rw [h.1, hf], h.2⟩)
  clear hf hA hk
  have hle := cnt_le n
  go_enter Tryd.func10, Tryd.ntmps10
  go_wp2_with fail
  refine HN.out.mono ?_
  rintro e w1 ⟨g, c, gb, cb, rfl, hC, hb1⟩
  clear HN
  have HC := Lib.hid (And.intro hC hb1)
  clear hC hb1
  go_wp2
  have hb2 : Below w1.heap.size w1 (w1.alloc (.cells #[sl8 g 176 c, sl8 gb 256 cb] 53)) := (Below.refl _ _).alloc (Nat.le_refl _) _
  generalize hWL : w1.alloc (.cells #[sl8 g 176 c, sl8 gb 256 cb] 53) = wL at hb2
  have hCB : CB wL w1.heap.size (sl8 g 176 c) (sl8 gb 256 cb) := by rw [← hWL]; exact heap_alloc_new w1 _
  have HS := Lib.hid (And.intro hCB (And.intro (HC.out.1.below hb2) (HC.out.2.trans (hb2.mono HC.out.2.size))))
  clear hb2 HC hCB hWL
  go_loopw [6, 7] (fun v i wr => ∃ k : Nat, k ≤ cnt n ∧ i = .int .i64 k ∧ Hid (WIn wL f v k wr)) (fun _ i _ => cnt n - (intOf i).toNat)
  case atStart => exact ⟨0, by omega, rfl, ⟨rfl, .inl ⟨rfl, rfl⟩⟩, Below.refl _ _⟩
  case round =>
    obtain ⟨k, hk, rfl, HI⟩ := hrel
    by_cases hlt : k < cnt n
    · have q1 : (k : Int) < n := by unfold cnt at hlt; omega
      have q2 : (k : Int) < 1048576 := by omega
      have e1 : IntKind.i64.wrap ((k : Int) + 1) = (k : Int) + 1 := i64_nat _ (by omega) (by omega)
      have e2 : IntKind.u64.wrap (k : Int) = (k : Int) := u64_of_nat k (by omega)
      have hcb : CB wr w1.heap.size (sl8 g 176 c) (sl8 gb 256 cb) := (HI.out.2.block _ HS.out.1.lt).trans HS.out.1
      have c0 := hcb.cell0
      have c1 := hcb.cell1
      clear hcb
      go_wp2_with fail
      refine (HW.out g c gb cb k _ (HS.out.2.1.below HI.out.2) (by omega)).mono ?_
      rintro e w2 ⟨rfl, hb2⟩
      have h2 := HI.out.next hb2
      have hb3 : Below w2.heap.size w2 (w2.alloc (.cells #[.int .u64 (f k)] 27)) := (Below.refl _ _).alloc (Nat.le_refl _) _
      have h3 := h2.next hb3
      obtain ⟨v4, w4, hr, ho, hb4⟩ := append_own (w2.alloc (.cells #[.int .u64 (f k)] 27)) wL.heap.size _ k 1 f (fun _ => f k) (some ⟨w2.heap.size, 0, none⟩) 1 h3.1 (one_word w2 (f k)) (fun h => by cases h) (by omega) h3.2.size
      rw [wordsOf_congr (f := fun i => if i < k then f i else f k) (g := f) (fun q hq => by by_cases h : q < k; rw [if_pos h]; rw [if_neg h, show q = k by omega])] at ho
      have H4 := Lib.hid (show WIn wL f v4 (k + 1) w4 from ⟨ho, h3.2.trans hb4⟩)
      have HR := Lib.hid hr
      clear hr ho hb4 h3 hb3 h2 hb2 c0 c1
      go_wp2_with (at_builtin; refine wpList_append_run rfl _ _ 22 rfl _ _ v4 w4 rfl rfl HR.out ?_)
      go_roundw
      case rel => exact ⟨k + 1, by omega, by go_num, H4.out⟩
      case measure => simp [intOf]; omega
    · obtain ⟨N, hN⟩ : ∃ N, N = cnt n := ⟨_, rfl⟩
      obtain rfl : k = N := by omega
      have HF := Lib.hid (HI.out.fin hN HS.out.2.2)
      have hq : (k : Int) < n → ¬ (k : Int) < 1048576 := by rw [hN]; unfold cnt; omega
      clear hN hk hlt HI hle
      by_cases q1 : (k : Int) < n
      · have q2 := hq q1
        clear hq
        go_wp2
        go_ret
        exact ⟨_, rfl, HF.out⟩
      · clear hq
        go_wp2
        go_ret
        exact ⟨_, rfl, HF.out⟩
/-- What the law asks of n. -/
theorem tmod40 (n : Int) : ∃ x : Int, n.tmod 40 = x ∧ x < 40 := ⟨_, rfl, by have := Int.tmod_lt_of_pos n (show (0 : Int) < 40 by omega); omega⟩
set_option maxHeartbeats 2000000 in
set_option maxRecDepth 100000 in
theorem seeds_walk (key : Nat → Nat) (n : Int) (C : Option Addr) (M d : Nat) (sc : Nat → Int) (w : World) (hk : ∀ i, key i < 256) (hh : Handle w) (hC : AtI w C M sc) (hM : M ≤ maxLen) :
    Calls Tryd.prog 4 #[.agg (bys 16 key), .int .i64 n, .slice C M d] w fun e w' => e = .returned (.bool true) ∧ Below w.heap.size w w' := by
  have hb0 := (Below.refl w.heap.size w).alloc (Nat.le_refl _) (.cells (bys 16 key) 30)
  have HA := Lib.hid (awake_any _ (hh.below hb0 hh.pos))
  have H0 := Lib.hid (And.intro (show OwnB (w.alloc (.cells (bys 16 key) 30)) w.heap.size 16 30 key from OwnB.new w 16 30 key) (And.intro hb0 (And.intro hh (And.intro hC hM))))
  obtain ⟨x, hx, hx4⟩ := tmod40 n
  obtain ⟨f, hf⟩ : ∃ f : Nat → Int, ∀ i, f i = (wordN (Aes.ks key) i : Int) := ⟨_, fun _ => rfl⟩
  have hN : ∀ w, Calls Tryd.prog 11 #[.agg (bys 16 key), .int .i64 x] w (NewT (cnt x) f w) := fun w => by
    have := tnew_any key x w hk
    rwa [show (fun i => (wordN (Aes.ks key) i : Int)) = f from funext fun i => (hf i).symm] at this
  have HN := Lib.hid (And.intro hN (fun g0 w hA => words_any key x g0 w hk hA f hf))
  obtain ⟨N, hcN⟩ : ∃ N, cnt x = N := ⟨_, rfl⟩
  have hN40 : N < 40 := by rw [← hcN]; unfold cnt; omega
  rw [hcN] at HN
  clear hb0 hh hk hf hN hcN hC hM
  go_enter Tryd.func4, Tryd.ntmps4
  go_wp2_with fail
  refine HA.out.mono ?_
  rintro e w1 ⟨rfl, hb1⟩
  have h1 : OwnB w1 w.heap.size 16 30 key := H0.out.1.below hb1 (by simp)
  have H1 := Lib.hid (And.intro h1 (And.intro (H0.out.2.1.trans (hb1.mono H0.out.2.1.size)) H0.out.2.2))
  clear hb1 H0 HA h1
  go_wp2_with fail
  refine (HN.out.2 _ _ (AtB.own H1.out.1)).mono ?_
  rintro e w2 ⟨v, rfl, hL, hb2⟩
  obtain ⟨A, c, rfl, hc1, hc2, hc3, hA⟩ := hL
  have h2 : OwnB w2 w.heap.size 16 30 key := H1.out.1.below hb2 H1.out.1.lt
  have hb02 := H1.out.2.1.trans (hb2.mono H1.out.2.1.size)
  have H2 := Lib.hid (show AtO w2 A N f ∧ Below w.heap.size w w2 ∧ Handle w2 ∧ AtI w2 C M sc ∧ M ≤ maxLen from ⟨hA, hb02, H1.out.2.2.1.below hb02 H1.out.2.2.1.pos, H1.out.2.2.2.1.below hb02, H1.out.2.2.2.2⟩)
  clear hb2 H1 hb02 hA
  go_wp2_with (refine ld_row 30 16 _ Tryd.underlying30 Tryd.info30 rfl _ rfl _ rfl h2 ?_)
  refine (HN.out.1 _).mono ?_
  rintro e w3 ⟨g, h, hg, hh, _, rfl, hT, hb3⟩
  have H3 := Lib.hid (And.intro hT hb3)
  clear hT hb3 h2
  go_wp2_with fail
  refine (reads_of g h N M _ f sc A C c d w2 _ H3.out.1 hg rfl H3.out.2 H2.out.2.2.1 H2.out.1 H2.out.2.2.2.1 H2.out.2.2.2.2).mono ?_
  rintro e w4 ⟨rfl, _, hb4⟩
  have H4 := Lib.hid (show AtO w4 A N f ∧ Below w.heap.size w w4 ∧ Handle w4 ∧ AtI w4 C M sc ∧ M ≤ maxLen from ⟨H2.out.1.below hb4, H2.out.2.1.trans (hb4.mono H2.out.2.1.size), H2.out.2.2.1.below hb4 H2.out.2.2.1.pos, H2.out.2.2.2.1.below hb4, H2.out.2.2.2.2⟩)
  clear hb4 H3 H2 hg hh
  go_wp2_with fail
  refine (load_any _ N f _ ⟨A, c, rfl, hc1, hc2, hc3, H4.out.1⟩ (by omega)).mono ?_
  rintro e w5 ⟨g, h, hg, hh, _, rfl, hT, hb5⟩
  have H5 := Lib.hid (And.intro hT hb5)
  clear hT hb5
  go_wp2_with fail
  refine (reads_of g h N M _ f sc A C c d w4 _ H5.out.1 hg rfl H5.out.2 H4.out.2.2.1 H4.out.1 H4.out.2.2.2.1 H4.out.2.2.2.2).mono ?_
  rintro e w6 ⟨rfl, _, hb6⟩
  have H6 := Lib.hid (H4.out.2.1.trans (hb6.mono H4.out.2.1.size))
  clear hb6
  go_wp2
  go_ret
  exact ⟨rfl, H6.out⟩
end Go.Proofs.YtecdfjcncgcegaaDoor
