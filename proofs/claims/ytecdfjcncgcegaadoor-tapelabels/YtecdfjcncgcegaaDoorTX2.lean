/- TapeLabels' walk. -/
import Derived.Test.YtecdfjcncgcegaaDoorTX0
import Derived.Test.YtecdfjcncgcegaaDoorAQ0
namespace Go.Proofs.YtecdfjcncgcegaaDoor
open Go.RowKit

theorem left_val (w : World) (g h N : Nat) (f : Nat → Int) (u : Nat) (x : Int) (ht : Tap w g h N f u) (hx : (N : Int) - (u : Int) = x) :
    Calls Tryd.prog 13 #[.pointer (some ⟨g, 0, none⟩)] w fun e w' => e = .returned (.int .i64 x) ∧ w = w' :=
  (left_any w g h N f u ht).mono fun _ _ ⟨h, h'⟩ => ⟨by rw [h, hx], h'⟩
/-- Two tapes of one seed, N words and L words, u used up of each. -/
def Two (w : World) (N L : Nat) (f : Nat → Int) (ga ha gb hb u : Nat) (w' : World) : Prop :=
  Tap w' ga ha N f u ∧ Tap w' gb hb L f u ∧ Below w.heap.size w w' ∧ ga ≠ gb ∧ hb ≠ ga ∧ ha ≠ gb ∧ w.heap.size ≤ ga ∧ w.heap.size ≤ gb
theorem cnt_nat (N : Nat) (h : N ≤ 1048576) : cnt (N : Int) = N := by
  have := cnt_mid (N : Int) (by omega) (by omega)
  omega
/-- What the law holds to while the tapes are made. -/
def Seed (w : World) (key : Nat → Nat) (w' : World) : Prop := OwnB w' w.heap.size 16 30 key ∧ Below w.heap.size w w'
theorem Seed.next {w w1 w2 : World} {key : Nat → Nat} (h : Seed w key w1) (hb : Below w1.heap.size w1 w2) : Seed w key w2 :=
  ⟨h.1.below hb h.1.lt, h.2.trans (hb.mono h.2.size)⟩
/-- The two tapes' making, the seed's words behind a name. -/
theorem made (key : Nat → Nat) (hk : ∀ i, key i < 256) (N M : Nat) (h : N < 30) (h' : M < 30) : ∃ f : Nat → Int, (∀ w, Calls Tryd.prog 11 #[.agg (bys 16 key), .int .i64 (N : Int)] w (NewT N f w)) ∧
    (∀ w, Calls Tryd.prog 11 #[.agg (bys 16 key), .int .i64 ((N : Int) + (M : Int))] w (NewT (N + M) f w)) :=
  ⟨_, fun w => by have := tnew_any key (N : Int) w hk; rwa [cnt_nat N (by omega)] at this,
    fun w => by have := tnew_any key ((N : Int) + (M : Int)) w hk; rwa [← Int.natCast_add, cnt_nat (N + M) (by omega), Int.natCast_add] at this⟩
theorem two_new {w w1 w2 : World} {f : Nat → Int} {N L ga ha : Nat} {e : Ending} (h1 : w.heap.size ≤ ga) (h3 : ha < w1.heap.size) (ht : Tap w1 ga ha N f 0) (hb1 : Below w.heap.size w w1)
    (h : NewT L f w1 e w2) : ∃ gb hb, e = .returned (.pointer (some ⟨gb, 0, none⟩)) ∧ Two w N L f ga ha gb hb 0 w2 ∧ Two w L N f gb hb ga ha 0 w2 := by
  obtain ⟨gb, hb, g1, g2, g3, rfl, g5, g6⟩ := h
  have hlt := ht.lt
  have hs := hb1.size
  have ht' := ht.below g6
  have hb' := hb1.trans (g6.mono hs)
  exact ⟨gb, hb, rfl, ⟨ht', g5, hb', by omega, by omega, by omega, by omega, by omega⟩, ⟨g5, ht', hb', by omega, by omega, by omega, by omega, by omega⟩⟩

/-- What a tape has left, as its cell says. -/
def leftOf (w : World) (g : Nat) : Nat := match w.cell? ⟨g, 3, none⟩ with | some v => (intOf v).toNat | none => 0
theorem Tap.leftOf {w : World} {g h N u : Nat} {f : Nat → Int} (ht : Tap w g h N f u) : leftOf w g = N - u := by
  obtain ⟨_, hu, _, p, s, hT, _⟩ := ht
  unfold Proofs.YtecdfjcncgcegaaDoor.leftOf
  rw [hT.c3]
  simp only [intOf]
  omega
theorem two_a {w w1 w2 : World} {N L ga ha gb hb u v : Nat} {f : Nat → Int} (h : Two w N L f ga ha gb hb u w1) (ht : Tap w2 ga ha N f v) (hk : Keep ga w1 w2) :
    Tap w2 ga ha N f v ∧ Tap w2 gb hb L f u ∧ Below w.heap.size w w2 :=
  ⟨ht, h.2.1.keep hk (fun e => h.2.2.2.1 e.symm) h.2.2.2.2.1, hk.below h.2.2.1 h.2.2.2.2.2.2.1 h.2.2.1.size⟩
theorem tmod2_le (N : Nat) : (N : Int).tmod 2 = ((N % 2 : Nat) : Int) := by rw [Int.tmod_eq_emod_of_nonneg (by omega)]; omega
theorem idx30 (x : Int) : ∃ N : Nat, N < 30 ∧ wrap64 ((IntKind.u64.wrap x).tmod 30) = (N : Int) := by
  have h : wrap64 ((IntKind.u64.wrap x).tmod 30) = x % 18446744073709551616 % 30 := by
    rw [u64w, Int.tmod_eq_emod_of_nonneg (by omega)]
    unfold wrap64
    omega
  exact ⟨(x % 18446744073709551616 % 30).toNat, by omega, by omega⟩

set_option maxHeartbeats 2000000 in
set_option maxRecDepth 100000 in
theorem labels_walk (key : Nat → Nat) (n m : Int) (w : World) (hk : ∀ i, key i < 256) (hg : Handle w) :
    Calls Tryd.prog 6 #[.agg (bys 16 key), .int .i64 n, .int .i64 m] w fun e w' => e = .returned (.bool true) ∧ Below w.heap.size w w' := by
  have hb0 := (Below.refl w.heap.size w).alloc (Nat.le_refl _) (.cells (bys 16 key) 30)
  have HA := Lib.hid (awake_any _ (hg.below hb0 hg.pos))
  have H0 := Lib.hid (And.intro (show Seed w key (w.alloc (.cells (bys 16 key) 30)) from ⟨OwnB.new w 16 30 key, hb0⟩) hk)
  clear hb0 hg hk
  obtain ⟨N, hN, eN⟩ := idx30 n
  obtain ⟨M, hM, eM⟩ := idx30 m
  go_enter Tryd.func6, Tryd.ntmps6
  go_wp2_with fail
  refine HA.out.mono ?_
  rintro e w1 ⟨rfl, hb1⟩
  have H1 := Lib.hid (And.intro (H0.out.1.next (hb1.mono (Nat.le_refl _))) H0.out.2)
  clear hb1 H0 HA
  go_wp2
  rw [eN, eM]
  have e1 : IntKind.i64.wrap ((N : Int) + (M : Int)) = (N : Int) + (M : Int) := i64_nat _ (by omega) (by omega)
  obtain ⟨f, hf1, hf2⟩ := made key H1.out.2 N M hN hM
  have HN := Lib.hid (And.intro hf1 hf2)
  clear hf1 hf2
  clear eN eM
  refine wp_region_held_drew (S := fun w' => Seed w key w') (by kernel_rfl) ⟨H1.out.1.1, H1.out.1.2.drew⟩ (fun hHeld => ?_)
  refine wpAnyH_take (i := 0) (v := .agg (bys 16 key)) rfl (by kernel_rfl) (by kernel_rfl) (by kernel_rfl) (fun _ _ _ h => h) (yl_row 30 16 _ Tryd.underlying30 Tryd.info30 rfl _ rfl _ rfl (fun _ h => h.1)) hHeld ?_
  refine wpAnyH_take (i := 1) (v := .int .i64 N) rfl (by kernel_rfl) (by kernel_rfl) (by kernel_rfl) (fun _ _ _ h => h) (.inl ⟨rfl, fun w' hw' => by go_simp⟩) hHeld ?_
  refine wpAnyH_take (i := 3) (v := .agg (bys 16 key)) rfl (by kernel_rfl) (by kernel_rfl) (by kernel_rfl) (fun _ _ _ h => h) (yl_row 30 16 _ Tryd.underlying30 Tryd.info30 rfl _ rfl _ rfl (fun _ h => h.1)) hHeld ?_
  refine wpAnyH_take (i := 4) (v := .int .i64 N) rfl (by kernel_rfl) (by kernel_rfl) (by kernel_rfl) (fun _ _ _ h => h) (.inl ⟨rfl, fun w' hw' => by go_simp⟩) hHeld ?_
  refine wpAnyH_take (i := 5) (v := .int .i64 M) rfl (by kernel_rfl) (by kernel_rfl) (by kernel_rfl) (fun _ _ _ h => h) (.inl ⟨rfl, fun w' hw' => by go_simp⟩) hHeld ?_
  simp only [List.getElem_toArray, List.getElem_cons_succ, List.getElem_cons_zero, Act.put, List.setIfInBounds_toArray, List.set_cons_zero, List.set_cons_succ]
  refine wpAnyH_take (i := 6) (v := .int .i64 ((N : Int) + (M : Int))) rfl (by kernel_rfl) (by kernel_rfl) (by kernel_rfl) (fun _ _ _ h => h) (.inl ⟨rfl, fun w' hw' => by go_simp⟩) hHeld ?_
  refine wpAnyH_ready (rs := [2]) (by kernel_rfl) (by simp) ?_
  refine AllReadyH.cons rfl (fun K hK => ?_) AllReadyH.nil
  rw [if_pos (by rfl)]
  go_simp
  refine (HN.out.1 _).mono ?_
  rintro e w2 ⟨ga, ha, g1, g2, g3, rfl, hTa, hb2⟩
  have hS2 := hHeld.next hb2
  have hsz := hHeld.2.size
  refine hK.out _ _ hS2 (fun hHeld2 => ?_)
  clear hK K hHeld hb2
  refine wpAnyH_ready (rs := [7]) (by kernel_rfl) (by simp) ?_
  refine AllReadyH.cons rfl (fun K hK => ?_) AllReadyH.nil
  rw [if_pos (by rfl)]
  go_simp
  refine (HN.out.2 _).mono ?_
  rintro e w3 hnew
  obtain ⟨gb, hb, rfl, hT, _⟩ := two_new (N := N) (by omega) g3 hTa hHeld2.2 hnew
  have hS3 : Seed w key w3 := by
    obtain ⟨_, _, _, _, _, _, _, h6⟩ := hnew
    exact hHeld2.next h6
  refine hK.out _ _ hS3 (fun hHeld3 => ?_)
  have HT := Lib.hid hT
  clear hK K hHeld2 hnew hT hTa hS2 hS3
  refine wpAnyH_take (i := 8) (v := .pointer (some ⟨ga, 0, none⟩)) rfl (by kernel_rfl) (by kernel_rfl) (by kernel_rfl) (fun _ _ _ h => h) (.inl ⟨rfl, fun w' hw' => by go_simp⟩) hHeld3 ?_
  refine wpAnyH_take (i := 9) (v := .pointer (some ⟨gb, 0, none⟩)) rfl (by kernel_rfl) (by kernel_rfl) (by kernel_rfl) (fun _ _ _ h => h) (.inl ⟨rfl, fun w' hw' => by go_simp⟩) hHeld3 ?_
  refine wpAnyH_done (by kernel_rfl) ?_ _
  clear hHeld3 g1 g2 g3 hsz HN H1
  simp only [List.getElem_toArray, List.getElem_cons_succ, List.getElem_cons_zero, Act.put, List.setIfInBounds_toArray, List.set_cons_zero, List.set_cons_succ]
  go_wp2
  have e2 : IntKind.i64.wrap ((M : Int) + (N : Int).tmod 2) = (M : Int) + (N : Int).tmod 2 := by rw [tmod2_le]; exact i64_nat _ (by omega) (by omega)
  go_loopw [12] (fun _ wr => ∃ k : Nat, 2 * k ≤ N ∧ Hid (Two w N (N + M) f ga ha gb hb (2 * k) wr)) (fun _ wr => leftOf wr ga)
  case atStart => exact ⟨0, by omega, HT.out⟩
  case round =>
    obtain ⟨k, hk, HR⟩ := hrel
    clear HT
    by_cases hlt : 2 * k + 2 ≤ N
    · obtain ⟨x, hx, hx2⟩ : ∃ x : Int, (N : Int) - ((2 * k : Nat) : Int) = x ∧ 2 ≤ x := ⟨_, rfl, by omega⟩
      go_wp2_with fail
      refine (left_val _ ga ha N f (2 * k) x HR.out.1 hx).mono ?_
      rintro e w4 ⟨rfl, rfl⟩
      go_wp2_with fail
      refine (label_some _ ga ha N f (2 * k) HR.out.1 (by omega)).mono ?_
      rintro e w5 ⟨rfl, h1, h2⟩
      have H5 := Lib.hid (two_a HR.out h1 h2)
      clear h1 h2
      go_wp2_with fail
      generalize hW6 : w5.alloc (.cells #[.int .u64 (f (2 * k)), .int .u64 (f (2 * k + 1))] 39) = w6
      have hL : Lbl w6 w5.heap.size (f (2 * k)) (f (2 * k + 1)) := by rw [← hW6]; exact Lbl.new w5 _ _
      have hb6 : Below w5.heap.size w5 w6 := by rw [← hW6]; exact below_lab w5 _ _
      have H6 := Lib.hid (show Tap w6 ga ha N f (2 * k + 2) ∧ Tap w6 gb hb (N + M) f (2 * k) ∧ Below w.heap.size w w6 ∧ Lbl w6 w5.heap.size (f (2 * k)) (f (2 * k + 1)) ∧ gb ≠ w5.heap.size from ⟨H5.out.1.below hb6, H5.out.2.1.below hb6, H5.out.2.2.trans (hb6.mono H5.out.2.2.size), hL, by have := H5.out.2.1.lt; omega⟩)
      clear hW6 hL hb6 H5
      refine (next_some _ gb hb (N + M) f (2 * k) H6.out.2.1 (by omega)).mono ?_
      rintro e w7 ⟨rfl, h1, h2⟩
      have H7 := Lib.hid (show Tap w7 ga ha N f (2 * k + 2) ∧ Tap w7 gb hb (N + M) f (2 * k + 1) ∧ Below w.heap.size w w7 ∧ Lbl w7 w5.heap.size (f (2 * k)) (f (2 * k + 1)) from ⟨H6.out.1.keep h2 HR.out.2.2.2.1 HR.out.2.2.2.2.2.1, h1, h2.below H6.out.2.2.1 HR.out.2.2.2.2.2.2.2 H6.out.2.2.1.size, lbl_keep H6.out.2.2.2.1 h2 (fun e => H6.out.2.2.2.2 e.symm)⟩)
      clear h1 h2
      go_wp2_with fail
      refine (next_some _ gb hb (N + M) f (2 * k + 1) H7.out.2.1 (by omega)).mono ?_
      rintro e w8 ⟨rfl, h1, h2⟩
      have hL := lbl_keep H7.out.2.2.2 h2 (fun e => H6.out.2.2.2.2 e.symm)
      have H8 := Lib.hid (show Two w N (N + M) f ga ha gb hb (2 * (k + 1)) w8 from ⟨H7.out.1.keep h2 HR.out.2.2.2.1 HR.out.2.2.2.2.2.1, h1, h2.below H7.out.2.2.1 HR.out.2.2.2.2.2.2.2 H7.out.2.2.1.size, HR.out.2.2.2⟩)
      have HM := Lib.hid (show leftOf w8 ga < leftOf wr ga by rw [H8.out.1.leftOf, HR.out.1.leftOf]; omega)
      have l0 := hL.cell0
      have l1 := hL.cell1
      clear h1 h2 hL H7 H6 HR
      have f5 := fun w => run_eql_lab w (f (2 * k)) (f (2 * k + 1)) (f (2 * k)) (f (2 * k + 1))
      go_wp2
      go_roundw
      case rel => exact ⟨k + 1, by omega, H8.out⟩
      case measure => exact HM.out
    · obtain ⟨x, hx, hx2, hx3⟩ : ∃ x : Int, (N : Int) - ((2 * k : Nat) : Int) = x ∧ ¬ 2 ≤ x ∧ x = (N : Int).tmod 2 := ⟨_, rfl, by omega, by rw [tmod2_le]; omega⟩
      have HX := Lib.hid (show ((N + M : Nat) : Int) - ((2 * k : Nat) : Int) = (M : Int) + (N : Int).tmod 2 by omega)
      have HY := Lib.hid (show (N : Int) - ((2 * k : Nat) : Int) = (N : Int).tmod 2 by omega)
      clear hx3
      go_wp2_with fail
      refine (left_val _ ga ha N f (2 * k) x HR.out.1 hx).mono ?_
      rintro e w4 ⟨rfl, rfl⟩
      go_wp2_with fail
      refine (left_val _ ga ha N f (2 * k) _ HR.out.1 HY.out).mono ?_
      rintro e w4 ⟨rfl, rfl⟩
      go_wp2_with fail
      refine (left_val _ gb hb (N + M) f (2 * k) _ HR.out.2.1 HX.out).mono ?_
      rintro e w4 ⟨rfl, rfl⟩
      go_wp2_with fail
      refine (used_any _ ga ha N f (2 * k) HR.out.1).mono ?_
      rintro e w4 ⟨rfl, rfl⟩
      go_wp2_with fail
      refine (used_any _ gb hb (N + M) f (2 * k) HR.out.2.1).mono ?_
      rintro e w4 ⟨rfl, rfl⟩
      go_wp2
      go_ret
      exact ⟨rfl, HR.out.2.2.1⟩
end Go.Proofs.YtecdfjcncgcegaaDoor
