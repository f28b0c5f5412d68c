/- WireNumbers' walk. -/
import Derived.Test.YtoeohodajoibjaaDoorWT3
import Derived.Test.YtoeohodajoibjaaDoorWX1
namespace Go.Proofs.YtoeohodajoibjaaDoor
open Go.RowKit

/-- WireNumbers behind the number: what is read. -/
theorem pr_eq (p : Nat × Nat) : pr p = .tuple #[.int .i64 (p.1 : Int), .int .i64 (p.2 : Int)] := rfl
set_option maxHeartbeats 2000000 in
set_option maxRecDepth 100000 in
theorem numbers_walk (z : Int) (A : Option Addr) (L c : Nat) (f : Nat → Nat) (w : World) (hg : Handle w) (hA : AtBO w A L f) (h0 : A = none → L = 0 ∧ c = 0) (hL : L ≤ 140737488355328) (hLc : L ≤ c) (hf : ∀ i, f i < 256) :
    Calls Tryd.prog 3 #[.int .i64 z, .slice A L c] w fun e w' => e = .returned (.bool true) ∧ Below w.heap.size w w' := by
  have HA := Lib.hid (And.intro hA (And.intro h0 (And.intro hf (And.intro hLc hL))))
  have HG := Lib.hid hg
  clear hA h0 hf hg hLc hL
  go_enter Tryd.func3, Tryd.ntmps3
  go_wp2_with fail
  refine (awake_any w).mono ?_
  rintro e w1 ⟨rfl, hb1⟩
  have H1 := Lib.hid (And.intro hb1 (HG.out.below hb1 HG.out.pos))
  clear hb1
  by_cases hz : z < 0 ∨ 4294967295 < z
  · have HZ := Lib.hid hz
    go_wp2_with fail
    refine (number_bad z w1 H1.out.2 HZ.out).mono ?_
    rintro e w2 ⟨rfl, hb2⟩
    have H2 := Lib.hid (And.intro (H1.out.1.trans (hb2.mono H1.out.1.size)) (H1.out.2.below hb2 H1.out.2.pos))
    have HC := Lib.hid (code_chain [(sNumber, z)] 1 w2 H2.out.2)
    obtain ⟨T, v, hT⟩ := chain_iface [(sNumber, z)] 1
    rw [hT] at HC ⊢
    clear hT hb2 H1
    by_cases hz0 : z < 0
    · clear hz
      go_wp2_with fail
      refine HC.out.mono ?_
      rintro e w3 ⟨rfl, hb3⟩
      have H3 := Lib.hid (H2.out.1.trans (hb3.mono H2.out.1.size))
      clear hb3 H2 HC
      obtain ⟨g9, k9, w4, hr, ho, hb4⟩ := copyB w3 A L c f (HA.out.1.below H3.out) HA.out.2.1 HA.out.2.2.2.2
      have HQ := Lib.hid hr
      have H4 := Lib.hid (And.intro ho (And.intro (H3.out.trans (hb4.mono H3.out.size)) (HA.out.1.below (H3.out.trans (hb4.mono H3.out.size)))))
      clear hr ho hb4 H3
      go_wp2_with (at_builtin; refine wpList_append_run rfl _ _ 22 rfl _ _ _ w4 rfl rfl HQ.out ?_)
      refine (take_any _ L k9 f w4 H4.out.1.lt.2.2.2.2.opt (by have := HA.out.2.2.2.2; unfold maxLen; omega) HA.out.2.2.1).mono ?_
      rintro e w6 ⟨rfl, rfl⟩
      go_wp2_with fail
      refine (rtake_any _ L c f w4 H4.out.2.2 HA.out.2.2.2.1 (by have := HA.out.2.2.2.2; unfold maxLen; omega) HA.out.2.2.1).mono ?_
      rintro e w7 ⟨rfl, hb7⟩
      have H7 := Lib.hid (H4.out.2.1.trans (hb7.mono H4.out.2.1.size))
      clear hb7 H4 HQ
      go_wp2
      go_ret
      exact ⟨rfl, H7.out⟩
    · have hz1 : (4294967295 : Int) < z := by omega
      clear hz
      go_wp2_with fail
      refine HC.out.mono ?_
      rintro e w3 ⟨rfl, hb3⟩
      have H3 := Lib.hid (H2.out.1.trans (hb3.mono H2.out.1.size))
      clear hb3 H2 HC
      obtain ⟨g9, k9, w4, hr, ho, hb4⟩ := copyB w3 A L c f (HA.out.1.below H3.out) HA.out.2.1 HA.out.2.2.2.2
      have HQ := Lib.hid hr
      have H4 := Lib.hid (And.intro ho (And.intro (H3.out.trans (hb4.mono H3.out.size)) (HA.out.1.below (H3.out.trans (hb4.mono H3.out.size)))))
      clear hr ho hb4 H3
      go_wp2_with (at_builtin; refine wpList_append_run rfl _ _ 22 rfl _ _ _ w4 rfl rfl HQ.out ?_)
      refine (take_any _ L k9 f w4 H4.out.1.lt.2.2.2.2.opt (by have := HA.out.2.2.2.2; unfold maxLen; omega) HA.out.2.2.1).mono ?_
      rintro e w6 ⟨rfl, rfl⟩
      go_wp2_with fail
      refine (rtake_any _ L c f w4 H4.out.2.2 HA.out.2.2.2.1 (by have := HA.out.2.2.2.2; unfold maxLen; omega) HA.out.2.2.1).mono ?_
      rintro e w7 ⟨rfl, hb7⟩
      have H7 := Lib.hid (H4.out.2.1.trans (hb7.mono H4.out.2.1.size))
      clear hb7 H4 HQ
      go_wp2
      go_ret
      exact ⟨rfl, H7.out⟩
  · obtain ⟨N, rfl⟩ := Int.eq_ofNat_of_zero_le (show 0 ≤ z by omega)
    have HN := Lib.hid (show N ≤ 4294967295 by omega)
    have n0 : decide ((N : Int) < 0) = false := decide_eq_false (by omega)
    have n1 : decide ((4294967295 : Int) < (N : Int)) = false := decide_eq_false (by omega)
    clear hz
    go_wp2_with fail
    refine (number_ok N w1 HN.out).mono ?_
    rintro e w2 ⟨b, cb, rfl, ho, hb2⟩
    have H2 := Lib.hid (And.intro (H1.out.1.trans (hb2.mono H1.out.1.size)) (And.intro ho.lt.2.2.2.2 ho.lt.2.1))
    clear hb2 ho H1
    go_wp2
    refine wp_region_held_drew (S := fun w' => Below w2.heap.size w2 w') (by kernel_rfl) ((Below.refl _ _).drew) (fun hHeld => ?_)
    refine wpAnyH_take (i := 0) (v := .nilIface) rfl (by kernel_rfl) (by kernel_rfl) (by kernel_rfl) (fun _ _ _ h => h) (.inl ⟨rfl, fun w' hw' => by go_simp⟩) hHeld ?_
    refine wpAnyH_take (i := 1) (v := .bool false) rfl (by kernel_rfl) (by kernel_rfl) (by kernel_rfl) (fun _ _ _ h => h) (.inl ⟨rfl, fun w' hw' => by go_simp⟩) hHeld ?_
    simp only [List.getElem_toArray, List.getElem_cons_succ, List.getElem_cons_zero, Act.put, List.setIfInBounds_toArray, List.set_cons_zero, List.set_cons_succ]
    refine wpAnyH_take (i := 2) (v := .bool false) rfl (by kernel_rfl) (by kernel_rfl) (by kernel_rfl) (fun _ _ _ h => h) (.inl ⟨rfl, fun w' hw' => by go_simp⟩) hHeld ?_
    refine wpAnyH_take (i := 3) (v := sl8 b (Wire.nlen N) cb) rfl (by kernel_rfl) (by kernel_rfl) (by kernel_rfl) (fun _ _ _ h => h) (.inl ⟨rfl, fun w' hw' => by go_simp⟩) hHeld ?_
    refine wpAnyH_take (i := 4) (v := .string (strB (Wire.nlen N) (Wire.nat7 N))) rfl (by kernel_rfl) (by kernel_rfl) (by kernel_rfl) (fun _ _ _ h => h) (.inl ⟨rfl, fun w' hw' => by have := conv_B w' ⟨b, 0, none⟩ (Wire.nlen N) cb (Wire.nat7 N) (AtB.below H2.out.2.1 hw') (Wire.nat7_lt N); go_simp⟩) hHeld ?_
    simp only [List.getElem_toArray, List.getElem_cons_succ, List.getElem_cons_zero, Act.put, List.setIfInBounds_toArray, List.set_cons_zero, List.set_cons_succ]
    refine wpAnyH_take (i := 5) (v := .int .i64 (N : Int)) rfl (by kernel_rfl) (by kernel_rfl) (by kernel_rfl) (fun _ _ _ h => h) (.inl ⟨rfl, fun w' hw' => by go_simp⟩) hHeld ?_
    simp only [List.getElem_toArray, List.getElem_cons_succ, List.getElem_cons_zero, Act.put, List.setIfInBounds_toArray, List.set_cons_zero, List.set_cons_succ]
    refine wpAnyH_ready (rs := [6]) (by kernel_rfl) (by simp) ?_
    refine AllReadyH.cons rfl (fun K hK => ?_) AllReadyH.nil
    rw [if_pos (by rfl)]
    go_simp
    refine (rnumber_any N _ HN.out).mono ?_
    rintro e w5 ⟨g, k5, rfl, hO, hb5⟩
    have hS5 : Below w2.heap.size w2 w5 := hHeld.trans (hb5.mono hHeld.size)
    refine hK.out _ _ hS5 (fun hHeld2 => ?_)
    clear hK K hHeld hb5 hS5
    have hcv := conv_B w5 ⟨g, 0, none⟩ (Wire.nlen N) k5 (Wire.nat7 N) hO.lt.2.2.2.2 (Wire.nat7_lt N)
    clear hO
    generalize strB (Wire.nlen N) (Wire.nat7 N) = s1 at hcv ⊢
    refine wpAnyH_ready (rs := [7]) (by kernel_rfl) (by simp) ?_
    refine AllReadyH.cons rfl (fun K hK => ?_) AllReadyH.nil
    rw [if_pos (by rfl)]
    go_simp
    refine hK.out _ _ hHeld2 (fun hHeld3 => ?_)
    clear hK K hHeld2 hcv
    refine wpAnyH_take (i := 8) (v := .bool false) rfl (by kernel_rfl) (by kernel_rfl) (by kernel_rfl) (fun _ _ _ h => h) (.inl ⟨rfl, fun w' hw' => by go_simp⟩) hHeld3 ?_
    refine wpAnyH_take (i := 9) (v := .bool false) rfl (by kernel_rfl) (by kernel_rfl) (by kernel_rfl) (fun _ _ _ h => h) (.inl ⟨rfl, fun w' hw' => by rfl⟩) hHeld3 ?_
    refine wpAnyH_done (by kernel_rfl) ?_ _
    simp only [List.getElem_toArray, List.getElem_cons_succ, List.getElem_cons_zero, Act.put, List.setIfInBounds_toArray, List.set_cons_zero, List.set_cons_succ]
    have H3 := Lib.hid (H2.out.1.trans (hHeld3.mono H2.out.1.size))
    clear hHeld3 H2 n0 n1
    generalize w5 = w3 at H3 ⊢
    obtain ⟨g9, k9, w4, hr, ho, hb4⟩ := copyB w3 A L c f (HA.out.1.below H3.out) HA.out.2.1 HA.out.2.2.2.2
    have HQ := Lib.hid hr
    have H4 := Lib.hid (And.intro ho (And.intro (H3.out.trans (hb4.mono H3.out.size)) (HA.out.1.below (H3.out.trans (hb4.mono H3.out.size)))))
    clear hr ho hb4 H3
    go_wp2_with (at_builtin; refine wpList_append_run rfl _ _ 22 rfl _ _ _ w4 rfl rfl HQ.out ?_)
    refine (take_any _ L k9 f w4 H4.out.1.lt.2.2.2.2.opt (by have := HA.out.2.2.2.2; unfold maxLen; omega) HA.out.2.2.1).mono ?_
    rintro e w6 ⟨rfl, rfl⟩
    go_wp2_with fail
    refine (rtake_any _ L c f w4 H4.out.2.2 HA.out.2.2.2.1 (by have := HA.out.2.2.2.2; unfold maxLen; omega) HA.out.2.2.1).mono ?_
    rintro e w7 ⟨rfl, hb7⟩
    have H7 := Lib.hid (H4.out.2.1.trans (hb7.mono H4.out.2.1.size))
    clear hb7 H4 HQ
    go_wp2
    go_ret
    exact ⟨rfl, H7.out⟩
end Go.Proofs.YtoeohodajoibjaaDoor
