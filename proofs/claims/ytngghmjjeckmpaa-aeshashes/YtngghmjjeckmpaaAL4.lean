/- Contracts of aes' Word and Hash. -/
import Derived.Test.YtngghmjjeckmpaaAL3
import Derived.Test.YtngghmjjeckmpaaAB7
import Derived.Test.YtngghmjjeckmpaaAB4
namespace Go.Proofs.Ytngghmjjeckmpaa
open Go.RowKit

/-- The word n of a stream. -/
def wordN (k : Nat → Nat) (n : Nat) : Nat := Aes.psum (Aes.enc k (Aes.labB (n / 2) 0)) (8 * (n % 2)) 8
theorem psum8_lt (f : Nat → Nat) (o : Nat) (hf : ∀ i, f i < 256) : Aes.psum f o 8 < 18446744073709551616 := Aes.psum_lt f o hf 8
theorem enc_lt {k f : Nat → Nat} (hk : ∀ i, k i < 256) (hf : ∀ i, f i < 256) (i : Nat) : Aes.enc k f i < 256 := encGo_lt hk hf 10 i
abbrev labN (a b : Nat) : Value := .agg #[.int .u64 (a : Int), .int .u64 (b : Int)]
theorem blockOf_zero (a : Nat) (w : World) (ha : a < 18446744073709551616) :
    Calls Try.prog 31 #[.agg #[.int .u64 (a : Int), .int .u64 0]] w fun e w' => e = .returned (.agg (bys 16 (Aes.labB a 0))) ∧ Below w.heap.size w w' := blockOf_any a 0 w ha (by omega)
theorem idx0 (w : World) (x y : Int) : (Instr.index 38 (.agg #[.int .u64 x, .int .u64 y]) (.int .u64 0)).run Try.prog w = .ok (.int .u64 x) w := by
  obtain ⟨i0, hi, _, hz1, _⟩ := info_parts Try.info33
  have hs : (sizeOf 33).run Try.prog w = .ok 1 w := by simp [sizeOf, typeInfo, hi, hz1]
  simp [Instr.index, go_sem, run_underlying Try.underlying38, hs]
theorem idx1 (w : World) (x y : Int) : (Instr.index 38 (.agg #[.int .u64 x, .int .u64 y]) (.int .u64 1)).run Try.prog w = .ok (.int .u64 y) w := by
  obtain ⟨i0, hi, _, hz1, _⟩ := info_parts Try.info33
  have hs : (sizeOf 33).run Try.prog w = .ok 1 w := by simp [sizeOf, typeInfo, hi, hz1]
  simp [Instr.index, go_sem, run_underlying Try.underlying38, hs]
set_option maxHeartbeats 1000000 in
set_option maxRecDepth 100000 in
theorem word_any (g : Nat) (k : Nat → Nat) (n : Nat) (w : World) (hc : Ciph w g k) (hk : ∀ i, k i < 256) (hn : n < 18446744073709551616) :
    Calls Try.prog 13 #[.pointer (some ⟨g, 0, none⟩), .int .u64 (n : Int)] w fun e w' => e = .returned (.int .u64 (wordN k n : Int)) ∧ Below w.heap.size w w' := by
  obtain ⟨m, hm⟩ : ∃ m, m = n / 2 := ⟨_, rfl⟩
  have e1 : (n : Int) / 2 = (m : Int) := by omega
  have HM := Lib.hid hm
  have HG := Lib.hid hc
  have HK := Lib.hid hk
  have hm2 : m < 18446744073709551616 := by omega
  clear hm hc hk
  by_cases h0 : n % 2 = 0
  · have e2 : (n : Int) % 2 = 0 := by omega
    have i0 := idx0
    have H0 := Lib.hid h0
    clear h0
    go_enter Try.func13, Try.ntmps13
    go_wp2_with fail
    refine (blockOf_zero m _ hm2).mono ?_
    rintro e w1 ⟨rfl, hb1⟩
    have HC1 : Ciph w1 g k := OwnB.below HG.out hb1 (OwnB.lt HG.out)
    go_wp2_with fail
    refine (encrypt_any g k _ _ HC1 (Aes.labB_lt m 0) HK.out).mono ?_
    rintro e w2 ⟨rfl, hb2⟩
    go_wp2_with fail
    refine (labelOf_any _ _ (enc_lt HK.out (Aes.labB_lt m 0))).mono ?_
    rintro e w3 ⟨rfl, hb3⟩
    have HB := Lib.hid ((hb1.trans (hb2.mono hb1.size)).trans (hb3.mono (hb1.trans (hb2.mono hb1.size)).size))
    clear hb1 hb2 hb3 HC1
    go_wp2
    go_ret
    exact ⟨ret_int (by unfold wordN; rw [H0.out, ← HM.out]), HB.out⟩
  · have e2 : (n : Int) % 2 = 1 := by omega
    have i1 := idx1
    have H0 := Lib.hid (show n % 2 = 1 by omega)
    clear h0
    go_enter Try.func13, Try.ntmps13
    go_wp2_with fail
    refine (blockOf_zero m _ hm2).mono ?_
    rintro e w1 ⟨rfl, hb1⟩
    have HC1 : Ciph w1 g k := OwnB.below HG.out hb1 (OwnB.lt HG.out)
    go_wp2_with fail
    refine (encrypt_any g k _ _ HC1 (Aes.labB_lt m 0) HK.out).mono ?_
    rintro e w2 ⟨rfl, hb2⟩
    go_wp2_with fail
    refine (labelOf_any _ _ (enc_lt HK.out (Aes.labB_lt m 0))).mono ?_
    rintro e w3 ⟨rfl, hb3⟩
    have HB := Lib.hid ((hb1.trans (hb2.mono hb1.size)).trans (hb3.mono (hb1.trans (hb2.mono hb1.size)).size))
    clear hb1 hb2 hb3 HC1
    go_wp2
    go_ret
    exact ⟨ret_int (by unfold wordN; rw [H0.out, ← HM.out]), HB.out⟩
theorem xorN_any (a0 a1 b0 b1 x y : Nat) (w : World) (h0 : a0 < 18446744073709551616) (h1 : a1 < 18446744073709551616) (k0 : b0 < 18446744073709551616) (k1 : b1 < 18446744073709551616) (hx : a0 ^^^ b0 = x) (hy : a1 ^^^ b1 = y) :
    Calls Try.prog 34 #[labN a0 a1, labN b0 b1] w fun e w' => e = .returned (labN x y) ∧ Below w.heap.size w w' :=
  (xor_any a0 a1 b0 b1 w).mono fun _ _ ⟨h, hb⟩ => ⟨by rw [h, bits_xor _ _ h0 k0, bits_xor _ _ h1 k1, hx, hy], hb⟩
theorem xorZ_any (a0 a1 b0 x y : Nat) (w : World) (h0 : a0 < 18446744073709551616) (h1 : a1 < 18446744073709551616) (k0 : b0 < 18446744073709551616) (hx : a0 ^^^ b0 = x) (hy : a1 = y) :
    Calls Try.prog 34 #[labN a0 a1, .agg #[.int .u64 (b0 : Int), .int .u64 0]] w fun e w' => e = .returned (labN x y) ∧ Below w.heap.size w w' :=
  xorN_any a0 a1 b0 0 x y w h0 h1 k0 (by omega) hx (by rw [Nat.xor_zero]; exact hy)
theorem doubleN_any (a b x y : Nat) (w : World) (h0 : a < 18446744073709551616) (h1 : b < 18446744073709551616) (hx : dloN a b = x) (hy : dhiN a b = y) :
    Calls Try.prog 19 #[labN a b] w fun e w' => e = .returned (labN x y) ∧ Below w.heap.size w w' :=
  (double_any a b w (by omega) (by omega) (by omega) (by omega)).mono fun _ _ ⟨h, hb⟩ => ⟨by rw [h, dlo_nat, dhi_nat, hx, hy], hb⟩
/-- What is encrypted for a hash. -/
def hs0 (a b t : Nat) : Nat := dloN a b ^^^ t
def hs1 (a b : Nat) : Nat := dhiN a b
theorem hs0_lt {a b t : Nat} (ht : t < 18446744073709551616) : hs0 a b t < 18446744073709551616 := xor_lt (dloN_lt a b) ht
theorem hs1_lt {a b : Nat} (ha : a < 18446744073709551616) : hs1 a b < 18446744073709551616 := dhiN_lt a b ha
/-- The two words of a hash. -/
def hashA (k : Nat → Nat) (a b t : Nat) : Nat := Aes.psum (Aes.enc k (Aes.labB (hs0 a b t) (hs1 a b))) 0 8 ^^^ hs0 a b t
def hashB (k : Nat → Nat) (a b t : Nat) : Nat := Aes.psum (Aes.enc k (Aes.labB (hs0 a b t) (hs1 a b))) 8 8 ^^^ hs1 a b
/-- Hash's own memory behind its first statement. -/
def HM (w : World) (g7 x y : Nat) (wr : World) : Prop := Below w.heap.size w wr ∧ Lbl wr g7 x y ∧ (∃ p q, Lbl wr (w.heap.size + 1) p q)
theorem HM.next {w w1 w2 : World} {g7 x y : Nat} (h : HM w g7 x y w1) (hb : Below w1.heap.size w1 w2) : HM w g7 x y w2 :=
  ⟨h.1.trans (hb.mono h.1.size), (hb.block _ h.2.1.lt).trans h.2.1, h.2.2.elim fun p ⟨q, hl⟩ => ⟨p, q, (hb.block _ hl.lt).trans hl⟩⟩
theorem HM.drew {w w1 : World} {g7 x y : Nat} (h : HM w g7 x y w1) : HM w g7 x y w1.drew := ⟨h.1.drew, h.2.1, h.2.2⟩
theorem HM.ciph {w w1 : World} {g7 x y g : Nat} {k : Nat → Nat} {p : Prop} (h : p ∧ Hid (HM w g7 x y w1)) (hc : Ciph w g k) : Ciph w1 g k := OwnB.below hc h.2.out.1 (OwnB.lt hc)
theorem HM.cells {w wr : World} {g7 x y : Nat} (h : HM w g7 x y wr) : (wr.cell? ⟨g7, 0, none⟩ = some (.int .u64 (x : Int)) ∧ wr.cell? ⟨g7, 1, none⟩ = some (.int .u64 (y : Int)) ∧ wr.cell? ⟨w.heap.size + 1, 0, none⟩ = some (cellV wr (w.heap.size + 1) 0) ∧ wr.cell? ⟨w.heap.size + 1, 1, none⟩ = some (cellV wr (w.heap.size + 1) 1) ∧ wr.frozen? ⟨w.heap.size + 1, 0, none⟩ = false ∧ wr.frozen? ⟨w.heap.size + 1, 1, none⟩ = false) ∧ Hid (HM w g7 x y wr) := by
  obtain ⟨h0, h1, p, q, h2⟩ := h
  exact ⟨⟨h1.cell0, h1.cell1, by unfold cellV; rw [h2.cell0]; rfl, by unfold cellV; rw [h2.cell1]; rfl, h2.frozen 0, h2.frozen 1⟩, h0, h1, p, q, h2⟩
theorem HM.step {w w1 w2 : World} {g7 x y : Nat} {p : Prop} (hb : Hid (Below w1.heap.size w1 w2)) (h : p ∧ Hid (HM w g7 x y w1)) : (w2.cell? ⟨g7, 0, none⟩ = some (.int .u64 (x : Int)) ∧ w2.cell? ⟨g7, 1, none⟩ = some (.int .u64 (y : Int)) ∧ w2.cell? ⟨w.heap.size + 1, 0, none⟩ = some (cellV w2 (w.heap.size + 1) 0) ∧ w2.cell? ⟨w.heap.size + 1, 1, none⟩ = some (cellV w2 (w.heap.size + 1) 1) ∧ w2.frozen? ⟨w.heap.size + 1, 0, none⟩ = false ∧ w2.frozen? ⟨w.heap.size + 1, 1, none⟩ = false) ∧ Hid (HM w g7 x y w2) :=
  (h.2.out.next hb.out).cells
theorem HM.sets {w w1 : World} {g7 x y : Nat} {p : Prop} (h : p ∧ Hid (HM w g7 x y w1)) (hg : w.heap.size + 1 < g7) (u v : Int) : HM w g7 x y ((w1.setCell ⟨w.heap.size + 1, 0, none⟩ (.int .u64 u)).setCell ⟨w.heap.size + 1, 1, none⟩ (.int .u64 v)) := by
  obtain ⟨h0, h1, p, q, h2⟩ := h.2.out
  exact ⟨(h0.setCell (by simp) _).setCell (by simp) _, (h1.far (by simp; omega) _).far (by simp; omega) _, u, v, (h2.set0 u).set1 v⟩
theorem HM.made {w w1 : World} {g7 x y : Nat} {p : Prop} {u v : Int} (h : p ∧ Hid (HM w g7 x y ((w1.setCell ⟨w.heap.size + 1, 0, none⟩ (.int .u64 u)).setCell ⟨w.heap.size + 1, 1, none⟩ (.int .u64 v)))) :
    Lbl ((w1.setCell ⟨w.heap.size + 1, 0, none⟩ (.int .u64 u)).setCell ⟨w.heap.size + 1, 1, none⟩ (.int .u64 v)) (w.heap.size + 1) u v ∧ Below w.heap.size w ((w1.setCell ⟨w.heap.size + 1, 0, none⟩ (.int .u64 u)).setCell ⟨w.heap.size + 1, 1, none⟩ (.int .u64 v)) := by
  obtain ⟨h0, h1, a, b, h2⟩ := h.2.out
  have ne : (⟨w.heap.size + 1, 1, none⟩ : Addr) ≠ ⟨w.heap.size + 1, 0, none⟩ := fun e => by injection e; omega
  have v1 := cell_set_eq h2.cell1
  have v0 := h2.cell0
  rw [World.cell?_setCell_other _ _ _ _ ne] at v0
  have v0 := cell_set_eq v0
  injection v1 with _ e1
  injection v0 with _ e0
  subst e1 e0
  exact ⟨h2, h0⟩
theorem infoLab : (Try.prog.info? 38).map (·.size) = some 2 := by kernel_rfl
/-- What a call answers that has a label for its result. -/
theorem res_lab {fn : Func} {p : Tmp} (hr : fn.results = #[.cell p 38]) (tmps : Array Value) (w : World) (g : Nat) {x y : Int} (hp : tmps.getD p undef = .pointer (some ⟨g, 0, none⟩)) (h : Lbl w g x y) : (results fn tmps).run Try.prog w = .ok (lab x y) w :=
  results_cell_row hr tmps w g _ _ _ _ hp h Try.underlying38 rfl infoLab
set_option maxHeartbeats 2000000 in
set_option maxRecDepth 100000 in
theorem hash_any (g : Nat) (k : Nat → Nat) (a b t : Nat) (w : World) (hc : Ciph w g k) (hk : ∀ i, k i < 256) (ha : a < 18446744073709551616) (hb : b < 18446744073709551616) (ht : t < 18446744073709551616) :
    Calls Try.prog 16 #[.pointer (some ⟨g, 0, none⟩), labN a b, .int .u64 (t : Int)] w fun e w' => e = .returned (labN (hashA k a b t) (hashB k a b t)) ∧ Below w.heap.size w w' := by
  have HG := Lib.hid hc
  have HK := Lib.hid hk
  have HB := Lib.hid (And.intro ha (And.intro hb ht))
  have h1 := ((Lbl.new w a b).alloc (.cells #[.int .u64 0, .int .u64 0] 38))
  have h2 := Lbl.new (w.alloc (.cells #[.int .u64 (a : Int), .int .u64 (b : Int)] 38)) 0 0
  simp only [World.size_alloc] at h2
  have h3 := ((Below.refl w.heap.size w).alloc (Nat.le_refl _) (.cells #[.int .u64 (a : Int), .int .u64 (b : Int)] 38)).alloc (by simp) (.cells #[.int .u64 0, .int .u64 0] 38)
  have H0 := Lib.hid (And.intro h1 (And.intro h2 h3))
  clear hc hk ha hb ht h1 h2 h3
  go_enter Try.func16, Try.ntmps16
  go_wp2_with fail
  refine (doubleN_any a b (dloN a b) (hs1 a b) _ HB.out.1 HB.out.2.1 rfl rfl).mono ?_
  rintro e w1 ⟨rfl, hb1⟩
  have H1 := Lib.hid (show Below w.heap.size w w1 ∧ Lbl w1 (w.heap.size + 1) 0 0 from ⟨H0.out.2.2.trans (hb1.mono H0.out.2.2.size), (hb1.block _ H0.out.2.1.lt).trans H0.out.2.1⟩)
  clear hb1 H0
  go_wp2_with fail
  refine (xorZ_any (dloN a b) (hs1 a b) t (hs0 a b t) (hs1 a b) _ (dloN_lt _ _) (hs1_lt HB.out.1) HB.out.2.2 rfl rfl).mono ?_
  rintro e w2 ⟨rfl, hb2⟩
  have H2 := Lib.hid (show Below w.heap.size w w2 ∧ Lbl w2 (w.heap.size + 1) 0 0 from ⟨H1.out.1.trans (hb2.mono H1.out.1.size), (hb2.block _ H1.out.2.lt).trans H1.out.2⟩)
  have hlt : w.heap.size + 1 < w2.heap.size := H2.out.2.lt
  clear hb2 H1
  go_wp2
  have H3 := Lib.hid (show HM w w2.heap.size (hs0 a b t) (hs1 a b) (w2.alloc (.cells #[.int .u64 (hs0 a b t : Int), .int .u64 (hs1 a b : Int)] 38)) from
    ⟨H2.out.1.alloc (by omega) _, Lbl.new w2 _ _, 0, 0, H2.out.2.alloc _⟩)
  clear H2
  generalize (w2.alloc (.cells #[.int .u64 (hs0 a b t : Int), .int .u64 (hs1 a b : Int)] 38)) = w3 at H3 ⊢
  generalize w2.heap.size = g7 at H3 hlt ⊢
  go_region_held3 (fun w' => (w'.cell? ⟨g7, 0, none⟩ = some (.int .u64 (hs0 a b t : Int)) ∧ w'.cell? ⟨g7, 1, none⟩ = some (.int .u64 (hs1 a b : Int)) ∧ w'.cell? ⟨w.heap.size + 1, 0, none⟩ = some (cellV w' (w.heap.size + 1) 0) ∧ w'.cell? ⟨w.heap.size + 1, 1, none⟩ = some (cellV w' (w.heap.size + 1) 1) ∧ w'.frozen? ⟨w.heap.size + 1, 0, none⟩ = false ∧ w'.frozen? ⟨w.heap.size + 1, 1, none⟩ = false) ∧ Hid (HM w g7 (hs0 a b t) (hs1 a b) w')) (first | exact HM.cells (HM.drew H3.out) | exact HM.step (by assumption) (by assumption) | exact HM.cells (HM.sets (by assumption) hlt _ _))
    (first
      | (go_at_call 31; refine (blockOf_any (hs0 a b t) (hs1 a b) _ (hs0_lt HB.out.2.2) (hs1_lt HB.out.1)).mono ?_; rintro e w4 ⟨rfl, hb4⟩; have HB4 := Lib.hid hb4; clear hb4)
      | (go_at_call 10; refine (encrypt_any g k _ _ (HM.ciph (by assumption) HG.out) (Aes.labB_lt _ _) HK.out).mono ?_; rintro e w4 ⟨rfl, hb4⟩; have HB4 := Lib.hid hb4; clear hb4)
      | (go_at_call 30; refine (labelOf_any _ _ (enc_lt HK.out (Aes.labB_lt _ _))).mono ?_; rintro e w4 ⟨rfl, hb4⟩; have HB4 := Lib.hid hb4; clear hb4)
      | (go_at_call 34; refine (xorN_any _ _ (hs0 a b t) (hs1 a b) (hashA k a b t) (hashB k a b t) _ (psum8_lt _ _ (enc_lt HK.out (Aes.labB_lt _ _))) (psum8_lt _ _ (enc_lt HK.out (Aes.labB_lt _ _))) (hs0_lt HB.out.2.2) (hs1_lt HB.out.1) rfl rfl).mono ?_; rintro e w4 ⟨rfl, hb4⟩; have HB4 := Lib.hid hb4; clear hb4))
  go_wp2
  rename_i hh
  exact bodyPost_ret (v := labN (hashA k a b t) (hashB k a b t)) (res_lab rfl _ _ _ rfl (HM.made hh).1) rfl ⟨rfl, (HM.made hh).2⟩
end Go.Proofs.Ytngghmjjeckmpaa
