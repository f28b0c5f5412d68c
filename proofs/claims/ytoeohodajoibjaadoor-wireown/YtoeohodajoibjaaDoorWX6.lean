/- WireCodes' walk. -/
import Derived.Test.YtoeohodajoibjaaDoorWX5
namespace Go.Proofs.YtoeohodajoibjaaDoor
open Go.RowKit

theorem empty_ownW (w : World) (f : Nat → Int) : (w.alloc (.cells #[] 46)).ownsRow w.heap.size 46 1 (sl8 w.heap.size 0 0) 0 (wordsOf 0 f) :=
  World.ownsRow_made w #[] 0 (Nat.le_refl _) (Nat.zero_le _) rfl
set_option maxRecDepth 100000 in
/-- append([]uint64{}, b...) -/
theorem copyW (w : World) (A : Option Addr) (n c : Nat) (f : Nat → Int) (hA : AtO w A n f) (h0 : A = none → n = 0 ∧ c = 0) (hn : n * 8 ≤ 140737488355328) :
    ∃ v w', (Builtin.append_ #[34, 34] 34 #[sl8 w.heap.size 0 0, .slice A n c]).run Tryd.prog (w.alloc (.cells #[] 46)) = .ok v w' ∧ w'.ownsRow w.heap.size 46 1 v n (wordsOf n f) ∧ Below w.heap.size w w' := by
  have hb : Below w.heap.size w (w.alloc (.cells #[] 46)) := (Below.refl _ _).alloc (Nat.le_refl _) _
  obtain ⟨v', w', hr, ho, hb2⟩ := append_own (w.alloc (.cells #[] 46)) w.heap.size (sl8 w.heap.size 0 0) 0 n f f A c (empty_ownW w f) (hA.below hb) h0 (by omega) (by simp)
  rw [Nat.zero_add] at ho
  refine ⟨v', w', hr, ?_, hb.trans hb2⟩
  rw [wordsOf_congr (f := f) (g := fun i => if i < 0 then f i else f (i - 0)) (fun i _ => by rw [if_neg (by omega), Nat.sub_zero])]
  exact ho
/-- A message's bytes are read back. -/
theorem enc_back (r n : Nat) (ws : Nat → Nat) (hr : r ≤ 4294967295) (hn : n ≤ 65536) (hw : ∀ i, ws i < 18446744073709551616) :
    Wire.fits (Wire.encB r n ws) (Wire.encLen r n) ∧ (Wire.hd (Wire.encB r n ws) (Wire.encLen r n)).1 = r ∧ (Wire.cn (Wire.encB r n ws) (Wire.encLen r n)).1 = n ∧ ∀ i, i < n → decW (Wire.encB r n ws) (Wire.off (Wire.encB r n ws) (Wire.encLen r n)) i = (ws i : Int) := by
  obtain ⟨h1, h2, h3⟩ := Wire.enc_reads r n ws (Wire.encB r n ws) (Wire.encLen r n) hr hn (Nat.le_refl _) (fun _ _ => rfl)
  have hp := Wire.nlen_pos r
  have hq := Wire.nlen_pos n
  have hl : Wire.encLen r n = Wire.nlen r + Wire.nlen n + 8 * n := rfl
  refine ⟨?_, by rw [h1], by rw [h2], fun i hi => ?_⟩
  · unfold Wire.fits
    rw [h1, h2, h3]
    simp only
    omega
  · rw [h3]
    unfold decW
    rw [Wire.enc_word r n ws (Wire.encB r n ws) (fun i _ => hw i) (fun _ _ => rfl) i hi]
set_option maxHeartbeats 4000000 in
set_option maxRecDepth 100000 in
theorem codes_walk (z : Int) (A : Option Addr) (n c : Nat) (ws : Nat → Nat) (w : World) (hg : Handle w) (hA : AtO w A n (fun i => (ws i : Int))) (h0 : A = none → n = 0 ∧ c = 0) (hn8 : n * 8 ≤ 140737488355328) (hw : ∀ i, ws i < 18446744073709551616) :
    Calls Tryd.prog 4 #[msg z (.slice A n c)] w fun e w' => e = .returned (.bool true) ∧ Below w.heap.size w w' := by
  have HA := Lib.hid (And.intro hA (And.intro h0 (And.intro hn8 hw)))
  have HG := Lib.hid hg
  have HM0 := Lib.hid (show Below w.heap.size w (w.alloc (.cells #[.int .i64 z, .slice A n c] 36)) ∧ Msg (w.alloc (.cells #[.int .i64 z, .slice A n c] 36)) w.heap.size z (.slice A n c) from ⟨(Below.refl _ _).alloc (Nat.le_refl _) _, Msg.new w z _⟩)
  clear hA h0 hn8 hw hg
  go_enter Tryd.func4, Tryd.ntmps4
  go_wp2_with fail
  generalize w.alloc (.cells #[.int .i64 z, .slice A n c] 36) = w0 at HM0 ⊢
  refine (awake_any w0).mono ?_
  rintro e w1 ⟨rfl, hb1⟩
  have hM1 := HM0.out.2.below hb1 HM0.out.2.lt
  have hB1 := HM0.out.1.trans (hb1.mono HM0.out.1.size)
  obtain ⟨v2, w2, hr2, ho2, hb2⟩ := copyW w1 A n c _ (HA.out.1.below hB1) HA.out.2.1 HA.out.2.2.1
  obtain ⟨A2, c2, rfl, hnc2, hm2, hA2n, hA2⟩ := own_lst ho2
  have a1 := hM1.cell1
  have a1' : (w1.alloc (.cells #[] 46)).cell? ⟨w.heap.size, 1, none⟩ = some (.slice A n c) := (hM1.alloc _).cell1
  have hM2 := hM1.below hb2 hM1.lt
  have b0 := hM2.cell0
  have HQ := Lib.hid hr2
  have H2 := Lib.hid (And.intro (hB1.trans (hb2.mono hB1.size)) (And.intro hM2 hA2))
  clear hb1 hM1 hB1 hr2 ho2 hb2 hnc2 hm2 hA2n hA2 hM2 HM0
  go_wp2_with (at_builtin; refine wpList_append_run rfl _ _ 34 rfl (sl8 w1.heap.size 0 0) (.slice A n c) (.slice A2 n c2) w2 rfl rfl HQ.out ?_)
  clear a1 a1' b0 HQ
  by_cases hz : z < 0 ∨ 4294967295 < z
  · refine (encode_round z _ ⟨A2, n, c2, rfl⟩ w2 (HG.out.below H2.out.1 HG.out.pos) hz).mono ?_
    rintro e w3 ⟨ps, rfl, hb3⟩
    have hM3 := H2.out.2.1.below hb3 H2.out.2.1.lt
    have b0 := hM3.cell0
    have H3 := Lib.hid (H2.out.1.trans (hb3.mono H2.out.1.size))
    have HC := Lib.hid (code_chain ps 1 w3 (HG.out.below H3.out HG.out.pos))
    obtain ⟨T, u, hT⟩ := chain_iface ps 1
    rw [hT] at HC ⊢
    clear hM3 hb3 hT H2
    by_cases hz0 : z < 0
    · have d0 : decide (z < 0) = true := decide_eq_true hz0
      clear hz hz0
      go_wp2_with fail
      refine HC.out.mono ?_
      rintro e w4 ⟨rfl, hb4⟩
      have H4 := Lib.hid (H3.out.trans (hb4.mono H3.out.size))
      clear hb4
      go_wp2
      go_ret
      exact ⟨rfl, H4.out⟩
    · have d0 : decide (z < 0) = false := decide_eq_false hz0
      have d1 : decide ((4294967295 : Int) < z) = true := decide_eq_true (by omega)
      clear hz hz0
      go_wp2_with fail
      refine HC.out.mono ?_
      rintro e w4 ⟨rfl, hb4⟩
      have H4 := Lib.hid (H3.out.trans (hb4.mono H3.out.size))
      clear hb4
      go_wp2
      go_ret
      exact ⟨rfl, H4.out⟩
  · obtain ⟨r, rfl⟩ := Int.eq_ofNat_of_zero_le (show 0 ≤ z by omega)
    have HR := Lib.hid (show True ∧ r ≤ 4294967295 from ⟨trivial, by omega⟩)
    have d0 : decide ((r : Int) < 0) = false := decide_eq_false (by omega)
    have d1 : decide ((4294967295 : Int) < (r : Int)) = false := decide_eq_false (by omega)
    clear hz
    by_cases hbig : 65536 < n
    · refine (encode_long r A2 n c2 w2 (HG.out.below H2.out.1 HG.out.pos) HR.out.2 hbig).mono ?_
      rintro e w3 ⟨ps, rfl, hb3⟩
      have hM3 := H2.out.2.1.below hb3 H2.out.2.1.lt
      have b0 := hM3.cell0
      have H3 := Lib.hid (H2.out.1.trans (hb3.mono H2.out.1.size))
      have HC := Lib.hid (code_chain ps 3 w3 (HG.out.below H3.out HG.out.pos))
      obtain ⟨T, u, hT⟩ := chain_iface ps 3
      rw [hT] at HC ⊢
      have hbig1 : (65536 : Int) < (n : Int) := by omega
      clear hM3 hb3 hT H2 hbig
      go_wp2_with fail
      refine HC.out.mono ?_
      rintro e w4 ⟨rfl, hb4⟩
      have H4 := Lib.hid (H3.out.trans (hb4.mono H3.out.size))
      clear hb4
      go_wp2
      go_ret
      exact ⟨rfl, H4.out⟩
    · have HN := Lib.hid (show True ∧ n ≤ 65536 from ⟨trivial, by omega⟩)
      have hbig1 : decide ((65536 : Int) < (n : Int)) = false := decide_eq_false (by omega)
      have hbig2 : decide (65536 < n) = false := decide_eq_false hbig
      clear hbig
      refine (encode_ok r A2 n c2 ws w2 H2.out.2.2 HR.out.2 HN.out.2).mono ?_
      rintro e w3 ⟨gb, kb, rfl, ho3, hb3⟩
      have hM3 := H2.out.2.1.below hb3 H2.out.2.1.lt
      have b0 := hM3.cell0
      have H3 := Lib.hid (And.intro (H2.out.1.trans (hb3.mono H2.out.1.size)) (And.intro hM3 (And.intro ho3.lt.2.2.2.2 (And.intro ho3.lt.2.1 ho3.lt.2.2.1))))
      have HEB := Lib.hid (enc_back r n ws HR.out.2 HN.out.2 HA.out.2.2.2)
      obtain ⟨la, hla⟩ : ∃ z, z = Wire.encLen r n := ⟨_, rfl⟩
      have hlam : la ≤ maxLen := by
        have h1 := Wire.nlen_most r HR.out.2
        have h2 := Wire.nlen_most n (by have := HN.out.2; omega)
        have h3 := HN.out.2
        rw [hla]; unfold Wire.encLen maxLen; omega
      rw [← hla] at H3 HEB ⊢
      have HLA := Lib.hid (And.intro hla hlam)
      clear hM3 hb3 ho3 H2 hla hlam
      go_wp2_with fail
      clear b0
      refine (decode_any _ la kb _ w3 (HG.out.below H3.out.1 HG.out.pos) H3.out.2.2.1.opt H3.out.2.2.2.2 HLA.out.2 (Wire.encB_lt r n ws)).mono ?_
      rintro e w5 hD
      obtain ⟨gw, rfl, hW, hgw, hb5⟩ := hD.1 HEB.out.1
      rw [HEB.out.2.1, HEB.out.2.2.1]
      rw [HEB.out.2.2.1] at hW
      have hWs : Own w5 gw n (fun i => (ws i : Int)) := hW.congr HEB.out.2.2.2
      have hb6 : Below w5.heap.size w5 (w5.alloc (.cells #[.int .i64 (r : Int), .slice (some ⟨gw, 0, none⟩) n n] 36)) := (Below.refl _ _).alloc (Nat.le_refl _) _
      have hX := Msg.new w5 (r : Int) (.slice (some ⟨gw, 0, none⟩) n n)
      have hb36 := hb5.trans (hb6.mono hb5.size)
      have H6 := Lib.hid (And.intro (H3.out.1.trans (hb36.mono H3.out.1.size)) (And.intro (H3.out.2.1.below hb36 H3.out.2.1.lt) (And.intro (AtB.below H3.out.2.2.1 hb36) (And.intro hX (hWs.below hb6 hWs.lt)))))
      clear hD hW hgw hb5 hWs hb6 hX hb36 H3 d0 d1 hbig1 hbig2
      go_wp2
      generalize w5.alloc (.cells #[.int .i64 (r : Int), .slice (some ⟨gw, 0, none⟩) n n] 36) = w6 at H6 ⊢
      refine wp_region_held_drew (S := fun w' => Below w6.heap.size w6 w') (by kernel_rfl) ((Below.refl _ _).drew) (fun hHeld => ?_)
      have HAW := Lib.hid (HA.out.1.below H6.out.1)
      refine wpAnyH_take (i := 0) (v := .nilIface) rfl (by kernel_rfl) (by kernel_rfl) (by kernel_rfl) (fun _ _ _ h => h) (.inl ⟨rfl, fun w' hw' => by go_simp⟩) hHeld ?_
      refine wpAnyH_take (i := 1) (v := .bool true) rfl (by kernel_rfl) (by kernel_rfl) (by kernel_rfl) (fun _ _ _ h => h) (.inl ⟨rfl, fun w' hw' => by go_simp⟩) hHeld ?_
      try simp only [List.getElem_toArray, List.getElem_cons_succ, List.getElem_cons_zero, Act.put, List.setIfInBounds_toArray, List.set_cons_zero, List.set_cons_succ]
      refine wpAnyH_take (i := 2) (v := .bool true) rfl (by kernel_rfl) (by kernel_rfl) (by kernel_rfl) (fun _ _ _ h => h) (.inl ⟨rfl, fun w' hw' => by go_simp⟩) hHeld ?_
      refine wpAnyH_take (i := 3) (v := .nilIface) rfl (by kernel_rfl) (by kernel_rfl) (by kernel_rfl) (fun _ _ _ h => h) (.inl ⟨rfl, fun w' hw' => by go_simp⟩) hHeld ?_
      try simp only [List.getElem_toArray, List.getElem_cons_succ, List.getElem_cons_zero, Act.put, List.setIfInBounds_toArray, List.set_cons_zero, List.set_cons_succ]
      refine wpAnyH_take (i := 4) (v := .bool true) rfl (by kernel_rfl) (by kernel_rfl) (by kernel_rfl) (fun _ _ _ h => h) (.inl ⟨rfl, fun w' hw' => by go_simp⟩) hHeld ?_
      refine wpAnyH_take (i := 5) (v := .bool true) rfl (by kernel_rfl) (by kernel_rfl) (by kernel_rfl) (fun _ _ _ h => h) (.inl ⟨rfl, fun w' hw' => by rfl⟩) hHeld ?_
      try simp only [List.getElem_toArray, List.getElem_cons_succ, List.getElem_cons_zero, Act.put, List.setIfInBounds_toArray, List.set_cons_zero, List.set_cons_succ]
      refine wpAnyH_take (i := 6) (v := .bool true) rfl (by kernel_rfl) (by kernel_rfl) (by kernel_rfl) (fun _ _ _ h => h) (.inl ⟨rfl, fun w' hw' => by go_simp⟩) hHeld ?_
      refine wpAnyH_take (i := 7) (v := sl8 gb la kb) rfl (by kernel_rfl) (by kernel_rfl) (by kernel_rfl) (fun _ _ _ h => h) (.inl ⟨rfl, fun w' hw' => by go_simp⟩) hHeld ?_
      try simp only [List.getElem_toArray, List.getElem_cons_succ, List.getElem_cons_zero, Act.put, List.setIfInBounds_toArray, List.set_cons_zero, List.set_cons_succ]
      refine wpAnyH_take (i := 8) (v := .string (strB la (Wire.encB r n ws))) rfl (by kernel_rfl) (by kernel_rfl) (by kernel_rfl) (fun _ _ _ h => h) (.inl ⟨rfl, fun w' hw' => by have := conv_B w' ⟨gb, 0, none⟩ la kb _ (AtB.below H6.out.2.2.1 hw') (Wire.encB_lt r n ws); go_simp⟩) hHeld ?_
      refine wpAnyH_take (i := 9) (v := .pointer (some ⟨w.heap.size, 0, none⟩)) rfl (by kernel_rfl) (by kernel_rfl) (by kernel_rfl) (fun _ _ _ h => h) (.inl ⟨rfl, fun w' hw' => by go_simp⟩) hHeld ?_
      try simp only [List.getElem_toArray, List.getElem_cons_succ, List.getElem_cons_zero, Act.put, List.setIfInBounds_toArray, List.set_cons_zero, List.set_cons_succ]
      refine wpAnyH_take (i := 10) (v := .int .i64 (r : Int)) rfl (by kernel_rfl) (by kernel_rfl) (by kernel_rfl) (fun _ _ _ h => h) (.inl ⟨rfl, fun w' hw' => by have a0 := (H6.out.2.1.below hw' H6.out.2.1.lt).cell0; have a1 := (H6.out.2.1.below hw' H6.out.2.1.lt).cell1; go_simp⟩) hHeld ?_
      refine wpAnyH_take (i := 11) (v := .pointer (some ⟨w.heap.size, 1, none⟩)) rfl (by kernel_rfl) (by kernel_rfl) (by kernel_rfl) (fun _ _ _ h => h) (.inl ⟨rfl, fun w' hw' => by go_simp⟩) hHeld ?_
      try simp only [List.getElem_toArray, List.getElem_cons_succ, List.getElem_cons_zero, Act.put, List.setIfInBounds_toArray, List.set_cons_zero, List.set_cons_succ]
      refine wpAnyH_take (i := 12) (v := .slice A n c) rfl (by kernel_rfl) (by kernel_rfl) (by kernel_rfl) (fun _ _ _ h => h) (.inl ⟨rfl, fun w' hw' => by have a0 := (H6.out.2.1.below hw' H6.out.2.1.lt).cell0; have a1 := (H6.out.2.1.below hw' H6.out.2.1.lt).cell1; go_simp⟩) hHeld ?_
      try simp only [List.getElem_toArray, List.getElem_cons_succ, List.getElem_cons_zero, Act.put, List.setIfInBounds_toArray, List.set_cons_zero, List.set_cons_succ]
      refine wpAnyH_ready (rs := [13]) (by kernel_rfl) (by simp) ?_
      refine AllReadyH.cons rfl (fun K hK => ?_) AllReadyH.nil
      rw [if_pos (by rfl)]
      go_simp
      refine (rencode_any r A n c ws _ (HAW.out.below hHeld) HA.out.2.2.2 HR.out.2 HN.out.2).mono ?_
      rintro e w7 ⟨g7, k7, rfl, hO, hb7⟩
      rw [← HLA.out.1] at hO ⊢
      have hS7 : Below w6.heap.size w6 w7 := hHeld.trans (hb7.mono hHeld.size)
      refine hK.out _ _ hS7 (fun hHeld2 => ?_)
      clear hK K hHeld hb7 hS7
      have hcv := conv_B w7 ⟨g7, 0, none⟩ la k7 (Wire.encB r n ws) hO.lt.2.2.2.2 (Wire.encB_lt r n ws)
      clear hO
      generalize strB la (Wire.encB r n ws) = s1 at hcv ⊢
      refine wpAnyH_ready (rs := [14]) (by kernel_rfl) (by simp) ?_
      refine AllReadyH.cons rfl (fun K hK => ?_) AllReadyH.nil
      rw [if_pos (by rfl)]
      go_simp
      refine hK.out _ _ hHeld2 (fun hHeld3 => ?_)
      clear hK K hHeld2 hcv
      try simp only [List.getElem_toArray, List.getElem_cons_succ, List.getElem_cons_zero, Act.put, List.setIfInBounds_toArray, List.set_cons_zero, List.set_cons_succ]
      refine wpAnyH_take (i := 15) (v := .bool true) rfl (by kernel_rfl) (by kernel_rfl) (by kernel_rfl) (fun _ _ _ h => h) (.inl ⟨rfl, fun w' hw' => by go_simp⟩) hHeld3 ?_
      refine wpAnyH_take (i := 16) (v := .bool true) rfl (by kernel_rfl) (by kernel_rfl) (by kernel_rfl) (fun _ _ _ h => h) (.inl ⟨rfl, fun w' hw' => by rfl⟩) hHeld3 ?_
      try simp only [List.getElem_toArray, List.getElem_cons_succ, List.getElem_cons_zero, Act.put, List.setIfInBounds_toArray, List.set_cons_zero, List.set_cons_succ]
      refine wpAnyH_take (i := 17) (v := .bool true) rfl (by kernel_rfl) (by kernel_rfl) (by kernel_rfl) (fun _ _ _ h => h) (.inl ⟨rfl, fun w' hw' => by go_simp⟩) hHeld3 ?_
      refine wpAnyH_take (i := 18) (v := .pointer (some ⟨w5.heap.size, 0, none⟩)) rfl (by kernel_rfl) (by kernel_rfl) (by kernel_rfl) (fun _ _ _ h => h) (.inl ⟨rfl, fun w' hw' => by go_simp⟩) hHeld3 ?_
      try simp only [List.getElem_toArray, List.getElem_cons_succ, List.getElem_cons_zero, Act.put, List.setIfInBounds_toArray, List.set_cons_zero, List.set_cons_succ]
      refine wpAnyH_take (i := 19) (v := .int .i64 (r : Int)) rfl (by kernel_rfl) (by kernel_rfl) (by kernel_rfl) (fun _ _ _ h => h) (.inl ⟨rfl, fun w' hw' => by have a0 := (H6.out.2.2.2.1.below hw' H6.out.2.2.2.1.lt).cell0; have a1 := (H6.out.2.2.2.1.below hw' H6.out.2.2.2.1.lt).cell1; go_simp⟩) hHeld3 ?_
      refine wpAnyH_take (i := 20) (v := .pointer (some ⟨w.heap.size, 0, none⟩)) rfl (by kernel_rfl) (by kernel_rfl) (by kernel_rfl) (fun _ _ _ h => h) (.inl ⟨rfl, fun w' hw' => by go_simp⟩) hHeld3 ?_
      try simp only [List.getElem_toArray, List.getElem_cons_succ, List.getElem_cons_zero, Act.put, List.setIfInBounds_toArray, List.set_cons_zero, List.set_cons_succ]
      refine wpAnyH_take (i := 21) (v := .int .i64 (r : Int)) rfl (by kernel_rfl) (by kernel_rfl) (by kernel_rfl) (fun _ _ _ h => h) (.inl ⟨rfl, fun w' hw' => by have a0 := (H6.out.2.1.below hw' H6.out.2.1.lt).cell0; have a1 := (H6.out.2.1.below hw' H6.out.2.1.lt).cell1; go_simp⟩) hHeld3 ?_
      refine wpAnyH_take (i := 22) (v := .bool true) rfl (by kernel_rfl) (by kernel_rfl) (by kernel_rfl) (fun _ _ _ h => h) (.inl ⟨rfl, fun w' hw' => by go_simp⟩) hHeld3 ?_
      try simp only [List.getElem_toArray, List.getElem_cons_succ, List.getElem_cons_zero, Act.put, List.setIfInBounds_toArray, List.set_cons_zero, List.set_cons_succ]
      refine wpAnyH_take (i := 23) (v := .bool true) rfl (by kernel_rfl) (by kernel_rfl) (by kernel_rfl) (fun _ _ _ h => h) (.inl ⟨rfl, fun w' hw' => by rfl⟩) hHeld3 ?_
      refine wpAnyH_take (i := 24) (v := .bool true) rfl (by kernel_rfl) (by kernel_rfl) (by kernel_rfl) (fun _ _ _ h => h) (.inl ⟨rfl, fun w' hw' => by go_simp⟩) hHeld3 ?_
      try simp only [List.getElem_toArray, List.getElem_cons_succ, List.getElem_cons_zero, Act.put, List.setIfInBounds_toArray, List.set_cons_zero, List.set_cons_succ]
      refine wpAnyH_take (i := 25) (v := .pointer (some ⟨w5.heap.size, 1, none⟩)) rfl (by kernel_rfl) (by kernel_rfl) (by kernel_rfl) (fun _ _ _ h => h) (.inl ⟨rfl, fun w' hw' => by go_simp⟩) hHeld3 ?_
      refine wpAnyH_take (i := 26) (v := .slice (some ⟨gw, 0, none⟩) n n) rfl (by kernel_rfl) (by kernel_rfl) (by kernel_rfl) (fun _ _ _ h => h) (.inl ⟨rfl, fun w' hw' => by have a0 := (H6.out.2.2.2.1.below hw' H6.out.2.2.2.1.lt).cell0; have a1 := (H6.out.2.2.2.1.below hw' H6.out.2.2.2.1.lt).cell1; go_simp⟩) hHeld3 ?_
      try simp only [List.getElem_toArray, List.getElem_cons_succ, List.getElem_cons_zero, Act.put, List.setIfInBounds_toArray, List.set_cons_zero, List.set_cons_succ]
      refine wpAnyH_take (i := 27) (v := .pointer (some ⟨w.heap.size, 1, none⟩)) rfl (by kernel_rfl) (by kernel_rfl) (by kernel_rfl) (fun _ _ _ h => h) (.inl ⟨rfl, fun w' hw' => by go_simp⟩) hHeld3 ?_
      refine wpAnyH_take (i := 28) (v := .slice A n c) rfl (by kernel_rfl) (by kernel_rfl) (by kernel_rfl) (fun _ _ _ h => h) (.inl ⟨rfl, fun w' hw' => by have a0 := (H6.out.2.1.below hw' H6.out.2.1.lt).cell0; have a1 := (H6.out.2.1.below hw' H6.out.2.1.lt).cell1; go_simp⟩) hHeld3 ?_
      try simp only [List.getElem_toArray, List.getElem_cons_succ, List.getElem_cons_zero, Act.put, List.setIfInBounds_toArray, List.set_cons_zero, List.set_cons_succ]
      refine wpAnyH_ready (rs := [29]) (by kernel_rfl) (by simp) ?_
      refine AllReadyH.cons rfl (fun K hK => ?_) AllReadyH.nil
      rw [if_pos (by rfl)]
      go_simp
      refine (words_any _ A n n n c (fun i => (ws i : Int)) (fun i => (ws i : Int)) w7 (by have := HN.out.2; unfold maxLen; omega) (At.own (H6.out.2.2.2.2.below hHeld3 H6.out.2.2.2.2.lt)).opt (HAW.out.below hHeld3)).mono ?_
      rintro e w8 ⟨b, rfl, hb, hb8⟩
      obtain rfl : b = true := hb.2 ⟨rfl, fun _ _ => rfl⟩
      have hS8 : Below w6.heap.size w6 w8 := hHeld3.trans (hb8.mono hHeld3.size)
      refine hK.out _ _ hS8 (fun hHeld4 => ?_)
      clear hK K hHeld3 hb hb8 hS8
      try simp only [List.getElem_toArray, List.getElem_cons_succ, List.getElem_cons_zero, Act.put, List.setIfInBounds_toArray, List.set_cons_zero, List.set_cons_succ]
      refine wpAnyH_take (i := 30) (v := .bool true) rfl (by kernel_rfl) (by kernel_rfl) (by kernel_rfl) (fun _ _ _ h => h) (.inl ⟨rfl, fun w' hw' => by rfl⟩) hHeld4 ?_
      refine wpAnyH_take (i := 31) (v := .bool true) rfl (by kernel_rfl) (by kernel_rfl) (by kernel_rfl) (fun _ _ _ h => h) (.inl ⟨rfl, fun w' hw' => by rfl⟩) hHeld4 ?_
      refine wpAnyH_done (by kernel_rfl) ?_ _
      try simp only [List.getElem_toArray, List.getElem_cons_succ, List.getElem_cons_zero, Act.put, List.setIfInBounds_toArray, List.set_cons_zero, List.set_cons_succ]
      have H8 := Lib.hid (H6.out.1.trans (hHeld4.mono H6.out.1.size))
      clear hHeld4 H6
      go_wp2
      go_ret
      exact ⟨rfl, H8.out⟩
end Go.Proofs.YtoeohodajoibjaaDoor
