/- Contracts of the document's own Hash and Fixed. -/
import Derived.Test.YtngghmjjeckmpaaAR7
import Derived.Test.YtngghmjjeckmpaaAB9
namespace Go.Proofs.Ytngghmjjeckmpaa
open Go.RowKit

/-- What the document's Hash holds: the cipher, the result's cell, the doubled label. -/
def HS (w : World) (g c gb cb gs x y : Nat) (wr : World) : Prop := CW w g c gb cb wr ∧ (∃ p q, Lbl wr (w.heap.size + 2) p q) ∧ Lbl wr gs x y ∧ w.heap.size + 2 < gs
theorem HS.next {w w1 w2 : World} {g c gb cb gs x y : Nat} (h : HS w g c gb cb gs x y w1) {B : Nat} (hb : Below B w1 w2) (hB : gs < B) : HS w g c gb cb gs x y w2 := by
  obtain ⟨h0, ⟨p, q, h1⟩, h2, h3⟩ := h
  exact ⟨h0.next hb (by omega), ⟨p, q, (hb.block _ (by omega)).trans h1⟩, (hb.block _ hB).trans h2, h3⟩
theorem HS.lt {w w1 : World} {g c gb cb gs x y : Nat} (h : HS w g c gb cb gs x y w1) : gs < w1.heap.size := h.2.2.1.lt
theorem HS.drew {w w1 : World} {g c gb cb gs x y : Nat} (h : HS w g c gb cb gs x y w1) : HS w g c gb cb gs x y w1.drew := ⟨h.1.drew, h.2⟩
theorem HS.ends {w w1 : World} {g c gb cb gs x y : Nat} (h : HS w g c gb cb gs x y w1) (u v : Int) : HS w g c gb cb gs x y ((w1.setCell ⟨w.heap.size + 2, 0, none⟩ (.int .u64 u)).setCell ⟨w.heap.size + 2, 1, none⟩ (.int .u64 v)) ∧ Lbl ((w1.setCell ⟨w.heap.size + 2, 0, none⟩ (.int .u64 u)).setCell ⟨w.heap.size + 2, 1, none⟩ (.int .u64 v)) (w.heap.size + 2) u v := by
  obtain ⟨h0, ⟨p, q, h1⟩, h2, h3⟩ := h
  have hl := (h1.set0 u).set1 v
  exact ⟨⟨⟨(h0.1.setCell (by simp) _).setCell (by simp) _, (h0.2.far (by simp) _).far (by simp) _⟩, ⟨u, v, hl⟩, (h2.far (by simp; omega) _).far (by simp; omega) _, h3⟩, hl⟩
theorem OR.next {w w' : World} {base g n c : Nat} {f : Nat → Nat} (h : OR w base (sl8 g n c) n f) (hb : Below w.heap.size w w') : OR w' base (sl8 g n c) n f :=
  OR.keep (d := w.heap.size) h ⟨hb.os, hb.tape, hb.output, hb.size, fun k hk _ => hb.block k hk⟩ (by have := (OR.lt h).2.1; omega)
theorem rdoubleN_any (a b x y : Nat) (w : World) (h0 : a < 18446744073709551616) (h1 : b < 18446744073709551616) (hx : dloN a b = x) (hy : dhiN a b = y) :
    Calls Try.prog 35 #[labN a b] w fun e w' => e = .returned (labN x y) ∧ Below w.heap.size w w' :=
  (rdouble_any a b w (by omega) (by omega) (by omega) (by omega)).mono fun _ _ ⟨h, hb⟩ => ⟨by rw [h, dlo_nat, dhi_nat, hx, hy], hb⟩
theorem wholeN (g o c : Nat) (f : Nat → Nat) (P : Nat) (w : World) (hA : AtB w ⟨g, o, none⟩ 8 f) (hf : ∀ i, f i < 256) (hP : Aes.psum f 0 8 = P) :
    Calls Try.prog 33 #[.slice (some ⟨g, o, none⟩) 8 c] w fun e w' => e = .returned (.int .u64 (P : Int)) ∧ w = w' := by
  subst hP
  exact whole_any g o c f w hA hf
set_option maxHeartbeats 1000000 in
set_option maxRecDepth 100000 in
theorem rhash_any (key : Nat → Nat) (g c gb cb a b t : Nat) (w : World) (hC : RCi w key g c gb cb) (hk : ∀ i, key i < 256) (ha : a < 18446744073709551616) (hb : b < 18446744073709551616) (ht : t < 18446744073709551616) :
    Calls Try.prog 17 #[rci g c gb cb, labN a b, .int .u64 (t : Int)] w fun e w' => e = .returned (labN (hashA (Aes.ks key) a b t) (hashB (Aes.ks key) a b t)) ∧ Below w.heap.size w w' := by
  have HC := Lib.hid hC
  have HK := Lib.hid hk
  have HB := Lib.hid (And.intro ha (And.intro hb ht))
  obtain ⟨d0, hd0⟩ : ∃ x, dloN a b = x := ⟨_, rfl⟩
  obtain ⟨s1, hs1e⟩ : ∃ x, hs1 a b = x := ⟨_, rfl⟩
  obtain ⟨s0, hs0e⟩ : ∃ x, hs0 a b t = x := ⟨_, rfl⟩
  obtain ⟨P0, hP0⟩ : ∃ x, Aes.psum (Aes.enc (Aes.ks key) (Aes.labB s0 s1)) 0 8 = x := ⟨_, rfl⟩
  obtain ⟨P1, hP1⟩ : ∃ x, Aes.psum (Aes.enc (Aes.ks key) (Aes.labB s0 s1)) 8 8 = x := ⟨_, rfl⟩
  obtain ⟨A, hA⟩ : ∃ x, hashA (Aes.ks key) a b t = x := ⟨_, rfl⟩
  obtain ⟨B, hB⟩ : ∃ x, hashB (Aes.ks key) a b t = x := ⟨_, rfl⟩
  have ls0 : s0 < 18446744073709551616 := hs0e ▸ hs0_lt ht
  have ls1 : s1 < 18446744073709551616 := hs1e ▸ hs1_lt ha
  have hE := enc_lt (Aes.ks_lt key hk) (Aes.labB_lt s0 s1)
  have x1 : bits .xor .u64 (d0 : Int) (t : Int) = (s0 : Int) := by
    have := bits_xor (dloN a b) t (dloN_lt a b) ht
    rw [← hd0, this, ← hs0e]; rfl
  have x2 : bits .xor .u64 (s0 : Int) (P0 : Int) = (A : Int) := by
    rw [bits_xor s0 P0 ls0 (hP0 ▸ psum8_lt _ _ hE), ← hA]; unfold hashA; rw [hs0e, hs1e, hP0, Nat.xor_comm]
  have x3 : bits .xor .u64 (s1 : Int) (P1 : Int) = (B : Int) := by
    rw [bits_xor s1 P1 ls1 (hP1 ▸ psum8_lt _ _ hE), ← hB]; unfold hashB; rw [hs0e, hs1e, hP1, Nat.xor_comm]
  rw [hA, hB]
  have HP := Lib.hid (And.intro hP0 hP1)
  have HEl := Lib.hid hE
  have HD := Lib.hid (And.intro hd0 hs1e)
  have HL := Lib.hid (And.intro ls0 ls1)
  clear hC hk ha hb ht hd0 hs1e hs0e hP0 hP1 hA hB ls0 ls1 hE
  go_enter Try.func17, Try.ntmps17
  go_wp2_with fail
  refine (rdoubleN_any a b d0 s1 _ HB.out.1 HB.out.2.1 HD.out.1 HD.out.2).mono ?_
  rintro e w1 ⟨rfl, hb1⟩
  have H1 := Lib.hid (show CW w g c gb cb w1 ∧ Lbl w1 (w.heap.size + 2) 0 0 by
    have q0 := CW.start w g c gb cb
    have q1 := (q0.next ((Below.refl _ _).alloc (Nat.le_refl _) (.cells #[.int .u64 (a : Int), .int .u64 (b : Int)] 38)) (by simp))
    have q2 := (q1.next ((Below.refl _ _).alloc (Nat.le_refl _) (.cells #[.int .u64 0, .int .u64 0] 38)) (by simp; omega))
    have q3 := Lbl.new ((w.alloc (.cells #[sl8 g 176 c, sl8 gb 256 cb] 30)).alloc (.cells #[.int .u64 (a : Int), .int .u64 (b : Int)] 38)) 0 0
    simp only [World.size_alloc] at q3
    exact ⟨q2.next hb1 q2.lt, (hb1.block _ q3.lt).trans q3⟩)
  have hlt : w.heap.size + 2 < w1.heap.size := H1.out.2.lt
  have hL := Lbl.new w1 (d0 : Int) (s1 : Int)
  have c0 := hL.cell0
  have c1 := hL.frozen 0
  clear hb1
  go_wp2
  have H3 := Lib.hid (show HS w g c gb cb w1.heap.size s0 s1 (w1.alloc (.cells #[.int .u64 (s0 : Int), .int .u64 (s1 : Int)] 38)) by
    obtain ⟨⟨q0, q1⟩, q2⟩ := H1.out
    exact ⟨⟨q0.alloc q0.size _, q1.alloc _⟩, ⟨0, 0, q2.alloc _⟩, Lbl.new w1 _ _, hlt⟩)
  clear H1 c0 c1 hL x1
  generalize (w1.alloc (.cells #[.int .u64 (s0 : Int), .int .u64 (s1 : Int)] 38)) = w2 at H3 ⊢
  generalize w1.heap.size = gs at H3 hlt ⊢
  refine wp_region_held_drew (S := HS w g c gb cb gs s0 s1) (by kernel_rfl) H3.out.drew (fun hHeld => ?_)
  clear H3
  refine wpAnyH_take (i := 0) (v := rci g c gb cb) rfl (by kernel_rfl) (by kernel_rfl) (by kernel_rfl) (fun _ _ _ h => h) (.inl ⟨rfl, fun w' hw' => by have a0 := hw'.1.2.cell0; have a1 := hw'.1.2.cell1; go_simp⟩) hHeld ?_
  refine wpAnyH_take (i := 1) (v := .pointer (some ⟨gs, 0, none⟩)) rfl (by kernel_rfl) (by kernel_rfl) (by kernel_rfl) (fun _ _ _ h => h) (.inl ⟨rfl, fun w' hw' => by go_simp⟩) hHeld ?_
  refine wpAnyH_take (i := 2) (v := .int .u64 (s0 : Int)) rfl (by kernel_rfl) (by kernel_rfl) (by kernel_rfl) (fun _ _ _ h => h) (.inl ⟨rfl, fun w' hw' => by have a0 := hw'.2.2.1.cell0; go_simp⟩) hHeld ?_
  refine wpAnyH_take (i := 4) (v := .pointer (some ⟨gs, 1, none⟩)) rfl (by kernel_rfl) (by kernel_rfl) (by kernel_rfl) (fun _ _ _ h => h) (.inl ⟨rfl, fun w' hw' => by go_simp⟩) hHeld ?_
  refine wpAnyH_take (i := 5) (v := .int .u64 (s1 : Int)) rfl (by kernel_rfl) (by kernel_rfl) (by kernel_rfl) (fun _ _ _ h => h) (.inl ⟨rfl, fun w' hw' => by have a0 := hw'.2.2.1.cell1; go_simp⟩) hHeld ?_
  refine wpAnyH_ready (rs := [3]) (by kernel_rfl) (by simp) ?_
  refine AllReadyH.cons rfl (fun K hK => ?_) AllReadyH.nil
  rw [if_pos (by rfl)]
  go_simp
  refine (eight_any s0 _ HL.out.1).mono ?_
  rintro e w3 ⟨gv, cv, rfl, hO, hb⟩
  have hl := hHeld.lt
  have hS := hHeld.next hb hHeld.lt
  refine hK.out _ _ hS (fun hHeld2 => ?_)
  have hsz := hb.size
  clear hK K hS hb hHeld
  refine wpAnyH_ready (rs := [6]) (by kernel_rfl) (by simp) ?_
  refine AllReadyH.cons rfl (fun K hK => ?_) AllReadyH.nil
  rw [if_pos (by rfl)]
  go_simp
  refine (eight_any s1 _ HL.out.2).mono ?_
  rintro e w4 ⟨gz, cz, rfl, hO2, hb⟩
  have hS := hHeld2.next hb hHeld2.lt
  have hO := hO.next hb
  refine hK.out _ _ hS (fun hHeld3 => ?_)
  have hsz2 := hb.size
  clear hK K hS hb hHeld2
  obtain ⟨gw, cw, w5, hr, ha5, hb5⟩ := append_block _ _ _ _ _ cz s0 s1 _ hO (OR.lt hO2).2.2.2.2 (fun _ => rfl) (by omega)
  have hS5 := hHeld3.next hb5 hl
  refine wpAnyH_ready (rs := [7]) (by kernel_rfl) (by simp) ?_
  refine AllReadyH.cons rfl (fun K hK => ?_) AllReadyH.nil
  refine step_append_eq rfl _ _ 27 rfl _ _ _ w5 rfl rfl hr ?_
  refine hK.out _ _ hS5 (fun hHeld4 => ?_)
  clear hK K hr hO hO2 hS5 hb5 hl hsz hsz2 hHeld3
  refine wpAnyH_ready (rs := [8]) (by kernel_rfl) (by simp) ?_
  refine AllReadyH.cons rfl (fun K hK => ?_) AllReadyH.nil
  rw [if_pos (by rfl)]
  go_simp
  refine (renc_any key _ g c gb cb _ 0 cw _ (HC.out.below hHeld4.1.1) ha5 HK.out (Aes.labB_lt s0 s1)).mono ?_
  rintro e w6 ⟨gr, rfl, hO, hb6⟩
  have hS6 := hHeld4.next hb6 hHeld4.lt
  refine hK.out _ _ hS6 (fun hHeld5 => ?_)
  clear hK K hHeld4 hb6 hS6 ha5
  refine wpAnyH_take (i := 9) (v := mk16 gr) rfl (by kernel_rfl) (by kernel_rfl) (by kernel_rfl) (fun _ _ _ h => h) (.inl ⟨rfl, fun w' hw' => by rfl⟩) hHeld5 ?_
  refine wpAnyH_done (by kernel_rfl) ?_ _
  have HW := Lib.hid (And.intro hHeld5 hO)
  clear hHeld5 hO
  simp only [List.getElem_toArray, List.getElem_cons_succ, List.getElem_cons_zero, Act.put, List.setIfInBounds_toArray, List.set_cons_zero, List.set_cons_succ]
  go_wp2
  refine wp_region_held_drew (S := HS w g c gb cb gs s0 s1) (by kernel_rfl) HW.out.1.drew (fun hHeld => ?_)
  refine wpAnyH_take (i := 0) (v := .pointer (some ⟨gs, 0, none⟩)) rfl (by kernel_rfl) (by kernel_rfl) (by kernel_rfl) (fun _ _ _ h => h) (.inl ⟨rfl, fun w' hw' => by go_simp⟩) hHeld ?_
  refine wpAnyH_take (i := 1) (v := .int .u64 (s0 : Int)) rfl (by kernel_rfl) (by kernel_rfl) (by kernel_rfl) (fun _ _ _ h => h) (.inl ⟨rfl, fun w' hw' => by have a0 := hw'.2.2.1.cell0; go_simp⟩) hHeld ?_
  refine wpAnyH_take (i := 2) (v := mk16 gr) rfl (by kernel_rfl) (by kernel_rfl) (by kernel_rfl) (fun _ _ _ h => h) (.inl ⟨rfl, fun w' hw' => by rfl⟩) hHeld ?_
  refine wpAnyH_take (i := 3) (v := .slice (some ⟨gr, 0, none⟩) 8 16) rfl (by kernel_rfl) (by kernel_rfl) (by kernel_rfl) (fun _ _ _ h => h) (.inl ⟨rfl, fun w' hw' => by go_simp⟩) hHeld ?_
  refine wpAnyH_take (i := 6) (v := .pointer (some ⟨gs, 1, none⟩)) rfl (by kernel_rfl) (by kernel_rfl) (by kernel_rfl) (fun _ _ _ h => h) (.inl ⟨rfl, fun w' hw' => by go_simp⟩) hHeld ?_
  refine wpAnyH_take (i := 7) (v := .int .u64 (s1 : Int)) rfl (by kernel_rfl) (by kernel_rfl) (by kernel_rfl) (fun _ _ _ h => h) (.inl ⟨rfl, fun w' hw' => by have a0 := hw'.2.2.1.cell1; go_simp⟩) hHeld ?_
  refine wpAnyH_take (i := 8) (v := mk16 gr) rfl (by kernel_rfl) (by kernel_rfl) (by kernel_rfl) (fun _ _ _ h => h) (.inl ⟨rfl, fun w' hw' => by rfl⟩) hHeld ?_
  refine wpAnyH_take (i := 9) (v := .slice (some ⟨gr, 8, none⟩) 8 8) rfl (by kernel_rfl) (by kernel_rfl) (by kernel_rfl) (fun _ _ _ h => h) (.inl ⟨rfl, fun w' hw' => by go_simp⟩) hHeld ?_
  refine wpAnyH_ready (rs := [4]) (by kernel_rfl) (by simp) ?_
  refine AllReadyH.cons rfl (fun K hK => ?_) AllReadyH.nil
  rw [if_pos (by rfl)]
  go_simp
  refine (wholeN gr 0 16 _ P0 _ (mk16_lo gr (OwnB.drew HW.out.2)) HEl.out HP.out.1).mono ?_
  rintro e w7 ⟨rfl, rfl⟩
  refine hK.out _ _ hHeld (fun _ => ?_)
  clear hK K
  refine wpAnyH_take (i := 5) (v := .int .u64 (A : Int)) rfl (by kernel_rfl) (by kernel_rfl) (by kernel_rfl) (fun _ _ _ h => h) (.inl ⟨rfl, fun w' hw' => by go_simp⟩) hHeld ?_
  refine wpAnyH_ready (rs := [10]) (by kernel_rfl) (by simp) ?_
  refine AllReadyH.cons rfl (fun K hK => ?_) AllReadyH.nil
  rw [if_pos (by rfl)]
  go_simp
  refine (wholeN gr 8 8 _ P1 _ (mk16_hi gr (OwnB.drew HW.out.2)) (fun i => HEl.out _) ((psum_shift _).trans HP.out.2)).mono ?_
  rintro e w7 ⟨rfl, rfl⟩
  refine hK.out _ _ hHeld (fun _ => ?_)
  clear hK K
  refine wpAnyH_take (i := 11) (v := .int .u64 (B : Int)) rfl (by kernel_rfl) (by kernel_rfl) (by kernel_rfl) (fun _ _ _ h => h) (.inl ⟨rfl, fun w' hw' => by go_simp⟩) hHeld ?_
  refine wpAnyH_take (i := 12) (v := labN A B) rfl (by kernel_rfl) (by kernel_rfl) (by kernel_rfl) (fun _ _ _ h => h) (.inl ⟨rfl, fun w' hw' => by go_simp⟩) hHeld ?_
  obtain ⟨p, q, hl⟩ := hHeld.2.1
  have c0 : w6.drew.cell? ⟨w.heap.size + 1 + 1, 0, none⟩ = some (.int .u64 p) := hl.cell0
  have c1 : w6.drew.cell? ⟨w.heap.size + 1 + 1, 1, none⟩ = some (.int .u64 q) := hl.cell1
  have f0 : w6.drew.frozen? ⟨w.heap.size + 1 + 1, 0, none⟩ = false := hl.frozen 0
  have f1 : w6.drew.frozen? ⟨w.heap.size + 1 + 1, 1, none⟩ = false := hl.frozen 1
  clear hl
  generalize w6.drew = w7 at hHeld c0 c1 f0 f1 ⊢
  refine wpAnyH_ready (rs := [13]) (by kernel_rfl) (by simp) ?_
  refine AllReadyH.cons rfl (fun K hK => ?_) AllReadyH.nil
  rw [if_pos (by rfl)]
  go_simp
  refine hK.out _ _ (HS.ends hHeld _ _).1 (fun _ => ?_)
  clear hK K c0 c1 f0 f1
  refine wpAnyH_done (by kernel_rfl) ?_ _
  have HF := Lib.hid (HS.ends hHeld A B)
  clear hHeld HW
  go_wp2
  exact bodyPost_ret (v := labN A B) (res_lab rfl _ _ _ rfl HF.out.2) rfl ⟨rfl, HF.out.1.1.1⟩
theorem AtB.far {w : World} {ad : Addr} {n : Nat} {f : Nat → Nat} (h : AtB w ad n f) {p : Addr} (hp : p.block ≠ ad.block) (u : Value) : AtB (w.setCell p u) ad n f := fun j hj => by
  have hb : (ad.add j).block = ad.block := by unfold Addr.add; split <;> rfl
  rw [World.cell?_setCell_other _ _ _ _ (fun e => hp (by rw [← hb, ← e]))]
  exact h j hj
theorem RCi.far {w : World} {key : Nat → Nat} {g c gb cb g0 : Nat} (h : RCi w key g c gb cb) {y : Value} (hc : CB w g0 nil8 y) (u v : Value) : RCi ((w.setCell ⟨g0, 0, none⟩ u).setCell ⟨g0, 1, none⟩ v) key g c gb cb := by
  have n1 : g0 ≠ g := by
    rintro rfl
    have := h.1 0 (by omega)
    rw [Addr.add_mid, Nat.zero_add, hc.cell0] at this
    cases this
  have n2 : g0 ≠ gb := by
    rintro rfl
    have := h.2.1 0 (by omega)
    rw [Addr.add_mid, Nat.zero_add, hc.cell0] at this
    cases this
  exact ⟨(h.1.far n1 _).far n1 _, (h.2.1.far n2 _).far n2 _, h.2.2⟩
theorem kf_list : bys 16 kf = #[.int .u8 0, .int .u8 1, .int .u8 2, .int .u8 3, .int .u8 4, .int .u8 5, .int .u8 6, .int .u8 7, .int .u8 8, .int .u8 9, .int .u8 10, .int .u8 11, .int .u8 12, .int .u8 13, .int .u8 14, .int .u8 15] := by rfl
theorem kf_any : ∃ k : Nat → Nat, k = kf ∧ (∀ i, k i < 256) ∧ bys 16 k = #[.int .u8 0, .int .u8 1, .int .u8 2, .int .u8 3, .int .u8 4, .int .u8 5, .int .u8 6, .int .u8 7, .int .u8 8, .int .u8 9, .int .u8 10, .int .u8 11, .int .u8 12, .int .u8 13, .int .u8 14, .int .u8 15] := ⟨kf, rfl, kf_lt, kf_list⟩
set_option maxHeartbeats 1000000 in
set_option maxRecDepth 100000 in
theorem rfixed_any (w : World) : Calls Try.prog 18 #[] w (RNewE w kf) := by
  obtain ⟨k, hkf, hk, hl⟩ := kf_any
  rw [← hkf]
  have h0 : Below w.heap.size w ((w.alloc (.cells #[nil8, nil8] 30)).alloc (.cells (bys 16 k) 5)) := ((Below.refl _ _).alloc (Nat.le_refl _) _).alloc (by simp) _
  have h1 := AtB.own (OwnB.new (w.alloc (.cells #[nil8, nil8] 30)) 16 5 k)
  have h2 := (CB.new w nil8 nil8).alloc (.cells (bys 16 k) 5)
  rw [hl] at h0 h1 h2
  simp only [World.size_alloc] at h1
  have H := Lib.hid (And.intro h0 (And.intro h1 h2))
  have HK := Lib.hid hk
  clear h0 h1 h2 hkf hk hl
  go_enter Try.func18, Try.ntmps18
  go_wp2_with fail
  refine (rnew_any k _ 16 _ HK.out H.out.2.1 ⟨Nat.le_refl _, by decide⟩).mono ?_
  rintro e w3 ⟨g, c, gb, cb, rfl, hC, hb⟩
  have hb' : Below w.heap.size w w3 := H.out.1.trans (hb.mono (by simp; omega))
  have hcb : CB w3 w.heap.size nil8 nil8 := H.out.2.2.below hb (by simp; omega)
  have c0 := hcb.cell0
  have c1 := hcb.cell1
  have f0 := hcb.frozen 0
  have f1 := hcb.frozen 1
  have H3 := Lib.hid (And.intro hC (And.intro hb' hcb))
  clear hC hb hb' hcb H
  go_wp2
  exact bodyPost_ret (v := rci g c gb cb) (results_cell_row rfl _ _ w.heap.size _ _ _ _ rfl ((H3.out.2.2.set0 _).set1 _) Try.underlying30 rfl infoRC) rfl ⟨g, c, gb, cb, rfl, H3.out.1.far H3.out.2.2 _ _, (H3.out.2.1.setCell (by simp) _).setCell (by simp) _⟩
end Go.Proofs.Ytngghmjjeckmpaa
