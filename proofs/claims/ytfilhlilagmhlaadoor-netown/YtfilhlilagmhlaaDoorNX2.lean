/- NetOrder's walk. -/
import Derived.Test.YtfilhlilagmhlaaDoorNX1
import Derived.Laws.BytesArg
namespace Go.Proofs.YtfilhlilagmhlaaDoor
open Go.RowKit

theorem conv_BO (w : World) (A : Option Addr) (n c : Nat) (f : Nat → Nat) (h : AtBO w A n f) (hf : ∀ i, f i < 256) (h0 : A = none → n = 0 ∧ c = 0) : (convert 32 9 (.slice A n c)).run Tryd.prog w = .ok (.string (strB n f)) w := by
  rcases A with _ | ad
  · obtain ⟨rfl, rfl⟩ := h0 rfl
    exact run_convert_bytes_nil w 32 5 Tryd.underlying32 (by kernel_rfl) 0 0 9 (by kernel_rfl)
  · exact conv_B w ad n c f (fun i hi => by
      obtain ⟨ad', e, hc⟩ := h i hi
      cases e
      exact hc) hf
/-- A list of byte lists that came in: their texts. -/
def Frs (w : World) (A : Option Addr) (N : Nat) (text : Nat → ByteArray) : Prop :=
  ∀ i, i < N → ∃ ad g n c f, A = some ad ∧ w.cell? (ad.add i) = some (.slice g n c) ∧ AtBO w g n f ∧ (∀ j, f j < 256) ∧ n ≤ 140737488355328 ∧ (g = none → n = 0 ∧ c = 0) ∧ strB n f = text i
theorem Frs.below {w w' : World} {A : Option Addr} {N : Nat} {text : Nat → ByteArray} (h : Frs w A N text) (hb : Below w.heap.size w w') : Frs w' A N text := fun i hi => by
  obtain ⟨ad, g, n, c, f, h1, h2, h3, h4⟩ := h i hi
  exact ⟨ad, g, n, c, f, h1, (hb.cell (World.block_lt_of_cell? _ _ h2)).trans h2, h3.below hb, h4⟩
/-- The texts' first i. -/
def firsts (text : Nat → ByteArray) (i : Nat) : List ByteArray := (List.range i).map text
theorem firsts_len (text : Nat → ByteArray) (i : Nat) : (firsts text i).length = i := by simp [firsts]
theorem firsts_succ (text : Nat → ByteArray) (i : Nat) : firsts text i ++ [text i] = firsts text (i + 1) := by simp [firsts, List.range_succ]
theorem firsts_get (text : Nat → ByteArray) (i j : Nat) (h : j < i) : (firsts text i)[j]? = some (text j) := by simp [firsts, h]
/-- What is still under way when i has come up, l being lost. -/
def pos (l i : Nat) : Nat := if i ≤ l then i else i - 1
def rest (text : Nat → ByteArray) (M l i : Nat) : List ByteArray := ((firsts text M).eraseIdx l).drop (pos l i)
theorem rest_zero (text : Nat → ByteArray) (M l : Nat) : rest text M l 0 = (firsts text M).eraseIdx l := by simp [rest, pos]
theorem rest_lost (text : Nat → ByteArray) (M l : Nat) : rest text M l (l + 1) = rest text M l l := by
  unfold rest pos
  rw [if_neg (by omega), if_pos (Nat.le_refl _), Nat.add_sub_cancel]
theorem rest_end (text : Nat → ByteArray) (M l : Nat) (hl : l < M) : rest text M l M = [] := by
  unfold rest pos
  rw [if_neg (by omega)]
  exact List.drop_eq_nil_of_le (by rw [List.length_eraseIdx, firsts_len, if_pos hl]; omega)
theorem rest_get (text : Nat → ByteArray) (M l i : Nat) (hi : i < M) (hne : i ≠ l) : (rest text M l i)[0]? = some (text i) := by
  unfold rest
  rw [List.getElem?_drop, Nat.add_zero, List.getElem?_eraseIdx]
  unfold pos
  by_cases h : i ≤ l
  · rw [if_pos h, if_pos (by omega)]; exact firsts_get _ _ _ hi
  · rw [if_neg h, if_neg (by omega), show i - 1 + 1 = i by omega]; exact firsts_get _ _ _ hi
theorem rest_next (text : Nat → ByteArray) (M l i : Nat) (hne : i ≠ l) : (rest text M l i).eraseIdx 0 = rest text M l (i + 1) := by
  unfold rest
  rw [List.eraseIdx_zero, List.tail_drop]
  congr 1
  unfold pos
  by_cases h : i ≤ l
  · rw [if_pos h, if_pos (by omega)]
  · rw [if_neg h, if_neg (by omega)]; omega
theorem upd_upd (T : Txt) (k : Nat) (a b : List ByteArray) : upd (upd T k a) k b = upd T k b := by
  funext q
  unfold upd
  split <;> rfl
def T0 : Txt := fun _ => []
set_option maxHeartbeats 8000000 in
set_option maxRecDepth 100000 in
theorem order_walk (A : Option Addr) (N c : Nat) (text : Nat → ByteArray) (z1 z2 : Int) (w : World) (hg : Handle w) (hA : Frs w A N text) :
    Calls Tryd.prog 6 #[.slice A N c, .int .i64 z1, .int .i64 z2] w fun e w' => e = .returned (.bool true) ∧ Below w.heap.size w w' := by
  have HG := Lib.hid hg
  have HA := Lib.hid hA
  obtain ⟨k, hk, e1, e1'⟩ := umod z1 2 (by omega) (by omega)
  have e3 : IntKind.u64.wrap (k : Int) = (k : Int) := by rw [u64w]; omega
  have e4 : IntKind.i64.wrap (k : Int) = (k : Int) := i64_nat _ (by omega) (by omega)
  obtain ⟨M, hM⟩ : ∃ M, M = min N 64 := ⟨_, rfl⟩
  have m1 : min (N : Int) 64 = (M : Int) := by omega
  have HK := Lib.hid (show True ∧ k < 2 ∧ M ≤ N ∧ M ≤ 64 from ⟨trivial, by omega, by omega, by omega⟩)
  clear hg hA hk hM
  go_enter Tryd.func6, Tryd.ntmps6
  go_wp2_with fail
  refine (new_any w).mono ?_
  rintro e w1 ⟨rfl, hw1⟩
  have hN : Net (w.alloc (.cells #[.slice none 0 0, .slice none 0 0] 55)) w.heap.size w.heap.size T0 := net_new w
  have hB : Below w.heap.size w (w.alloc (.cells #[.slice none 0 0, .slice none 0 0] 55)) := (Below.refl _ _).alloc (Nat.le_refl _) _
  rw [← hw1] at hN hB
  have H1 := Lib.hid (And.intro hN hB)
  clear hw1 hN hB
  go_wp2_with fail
  refine (awake_any w1 (HG.out.below H1.out.2 HG.out.pos)).mono ?_
  rintro e w2 ⟨rfl, hb2⟩
  have hT : T0 = upd T0 k (firsts text 0) := by funext q; unfold upd; split <;> rfl
  have H2 := Lib.hid (show Net w2 w.heap.size w.heap.size (upd T0 k (firsts text 0)) ∧ Below w.heap.size w w2 from ⟨hT ▸ H1.out.1.below hb2, H1.out.2.trans (hb2.mono H1.out.2.size)⟩)
  clear H1 hb2 hT
  go_wp2
  clear e1 e1' e3 e4 m1
  go_loopw [9] (fun q wr => ∃ j : Nat, q = .int .i64 j ∧ Hid (True ∧ j ≤ M) ∧ Hid (Net wr w.heap.size w.heap.size (upd T0 k (firsts text j)) ∧ Below w.heap.size w wr)) (fun q _ => M - (intOf q).toNat)
  case atStart => exact ⟨0, rfl, ⟨trivial, by omega⟩, H2⟩
  case round =>
    clear H2
    obtain ⟨j, rfl, HJ, HI⟩ := hrel
    by_cases hlt : j < M
    · have hlt1 : (j : Int) < (M : Int) := by omega
      have hlt2 : (j : Int) < (N : Int) := by have := HK.out.2.2.1; omega
      have e7 : IntKind.i64.wrap ((j : Int) + 1) = (j : Int) + 1 := i64_nat _ (by omega) (by have := HK.out.2.2.2; omega)
      obtain ⟨ad, g, n, d, f, rfl, hc0, hcA, hf, hn, _, htx⟩ := (HA.out.below HI.out.2) j (by have := HK.out.2.2.1; omega)
      have HF := Lib.hid (And.intro hcA (And.intro hf (And.intro hn htx)))
      have HLt := Lib.hid (And.intro trivial hlt)
      clear hlt hcA hf hn htx
      go_wp2_with fail
      clear hc0 hlt2
      refine (nsend_ok (k := k) g n d f HI.out.1 HK.out.2.1 (by rw [upd_same, firsts_len]; have := HLt.out.2; have := HK.out.2.2.2; omega) HF.out.1 HF.out.2.1 HF.out.2.2.1 HI.out.2.size).mono ?_
      rintro e w3 ⟨rfl, hN3, hst⟩
      rw [upd_same, upd_upd, HF.out.2.2.2, firsts_succ] at hN3
      have HN := Lib.hid (And.intro hN3 (HI.out.2.trans hst.below))
      clear hN3 hst HI HF
      go_wp2
      go_roundw
      case rel => exact ⟨j + 1, rfl, ⟨trivial, HLt.out.2⟩, HN⟩
      case measure => have := HLt.out.2; simp [intOf]; omega
    · obtain rfl : j = M := by have := HJ.out.2; omega
      have hlt1 : decide ((j : Int) < (j : Int)) = false := decide_eq_false (by omega)
      clear hlt
      obtain ⟨w3, hw3⟩ : ∃ z, z = wr := ⟨_, rfl⟩
      subst hw3
      by_cases h0 : j = 0
      · have k0 : ((j : Int) == 0) = true := by rw [h0]; rfl
        have HZ := Lib.hid h0
        clear h0
        go_wp2_with fail
        have hcl := nlen_ok (k := k) HI.out.1 HK.out.2.1
        rw [upd_same, firsts_len, HZ.out] at hcl
        refine hcl.mono ?_
        rintro e w4 ⟨rfl, rfl⟩
        clear hcl
        go_wp2
        go_ret
        exact ⟨rfl, HI.out.2⟩
      · have k0 : ((j : Int) == 0) = false := by simp; omega
        obtain ⟨l, hl, e5, e5'⟩ := umod z2 (j : Int) (by omega) (by have := HK.out.2.2.2; omega)
        have e8 : IntKind.u64.wrap (j : Int) = (j : Int) := by have := HK.out.2.2.2; rw [u64w]; omega
        have e8' : (j : Int) % 18446744073709551616 = (j : Int) := by have := HK.out.2.2.2; omega
        have e6 : IntKind.u64.wrap (l : Int) = (l : Int) := by have := HK.out.2.2.2; rw [u64w]; omega
        have e7 : IntKind.i64.wrap (l : Int) = (l : Int) := i64_nat _ (by omega) (by have := HK.out.2.2.2; omega)
        have k1 : ¬ (j : Int) = 0 := by omega
        have HL := Lib.hid (show True ∧ l < j from ⟨trivial, by omega⟩)
        clear h0 hl
        go_wp2_with fail
        clear e5 e5' e8 e8' e6 e7 k1 k0
        refine (ndrop_ok (k := k) (i := l) HI.out.1 HK.out.2.1 (by rw [upd_same, firsts_len]; exact HL.out.2) HI.out.2.size).mono ?_
        rintro e w4 ⟨rfl, hN4, hst⟩
        rw [upd_same, upd_upd, ← rest_zero] at hN4
        have H4 := Lib.hid (And.intro hN4 (HI.out.2.trans hst.below))
        clear hN4 hst HI
        go_wp2
        go_loopw [10] (fun q wr => ∃ i : Nat, q = .int .i64 i ∧ Hid (True ∧ i ≤ j) ∧ Hid (Net wr w.heap.size w.heap.size (upd T0 k (rest text j l i)) ∧ Below w.heap.size w wr)) (fun q _ => j - (intOf q).toNat)
        case atStart => exact ⟨0, rfl, ⟨trivial, by omega⟩, H4⟩
        case round =>
          clear H4
          obtain ⟨i, rfl, HJ2, HI⟩ := hrel
          by_cases hlt : i < j
          · have hlt2 : (i : Int) < (j : Int) := by omega
            have e7 : IntKind.i64.wrap ((i : Int) + 1) = (i : Int) + 1 := i64_nat _ (by omega) (by have := HK.out.2.2.2; omega)
            have HLt := Lib.hid (And.intro trivial hlt)
            clear hlt
            by_cases hil : i = l
            · have k2 : ((i : Int) == (l : Int)) = true := by rw [hil]; simp
              have HN := Lib.hid (show Net wr w.heap.size w.heap.size (upd T0 k (rest text j l (i + 1))) ∧ Below w.heap.size w wr from ⟨by have := HI.out.1; rw [hil] at this ⊢; rw [rest_lost]; exact this, HI.out.2⟩)
              clear hil HI
              go_wp2
              go_roundw
              case rel => exact ⟨i + 1, rfl, ⟨trivial, HLt.out.2⟩, HN⟩
              case measure => have := HLt.out.2; simp [intOf]; omega
            · have k2 : ((i : Int) == (l : Int)) = false := by simp; omega
              have HIL := Lib.hid (And.intro trivial hil)
              clear hil
              go_wp2_with fail
              refine (ndeliver_ok (k := k) (i := 0) (t := text i) HI.out.1 HK.out.2.1 (by rw [upd_same]; exact rest_get text j l i HLt.out.2 HIL.out.2) HI.out.2.size).mono ?_
              rintro e w5 ⟨⟨b, n, f, rfl, hT⟩, hN5, hst⟩
              rw [upd_same, upd_upd, rest_next text j l i HIL.out.2] at hN5
              have HN := Lib.hid (And.intro hN5 (HI.out.2.trans hst.below))
              clear hN5 hst HI
              have hlt3 : (i : Int) < (N : Int) := by have := HK.out.2.2.1; have := HLt.out.2; omega
              obtain ⟨ad, g, n2, d2, f2, rfl, hc0, hcA, hf2, _, hnil, htx⟩ := (HA.out.below HN.out.2) i (by have := HK.out.2.2.1; have := HLt.out.2; omega)
              have hcv : ∀ q, (convert 32 9 (sl8 b n n)).run Tryd.prog (w5.drewN q) = .ok (.string (text i)) (w5.drewN q) := fun q => TxtAt.conv (w := w5.drewN q) hT n
              have hcv2 : ∀ q, (convert 32 9 (.slice g n2 d2)).run Tryd.prog (w5.drewN q) = .ok (.string (text i)) (w5.drewN q) := fun q => by rw [← htx]; exact conv_BO (w5.drewN q) g n2 d2 f2 hcA hf2 hnil
              clear hT hcA hf2 hnil htx
              go_wp2
              go_quiet (fail)
              clear hcv hcv2 hc0 hlt3
              go_wp2
              go_roundw
              case rel => exact ⟨i + 1, rfl, ⟨trivial, HLt.out.2⟩, HN.out.1.below ⟨rfl, rfl, rfl, Nat.le_refl _, fun _ _ => rfl⟩, HN.out.2.trans ⟨rfl, rfl, rfl, Nat.le_refl _, fun _ _ => rfl⟩⟩
              case measure => have := HLt.out.2; simp [intOf]; omega
          · obtain rfl : i = j := by have := HJ2.out.2; omega
            have hlt2 : decide ((i : Int) < (i : Int)) = false := decide_eq_false (by omega)
            clear hlt
            have hN := HI.out.1
            rw [rest_end text i l HL.out.2] at hN
            go_wp2_with fail
            refine (deliver_bad _ _ _ 4 wr (nfind_none (k := k) 0 hN HK.out.2.1 (HG.out.below HI.out.2 HG.out.pos) (by rw [upd_same]; exact .inr (by simp)))).mono ?_
            rintro e w5 ⟨ps, rfl, hb5⟩
            have H5 := Lib.hid (HI.out.2.trans (hb5.mono HI.out.2.size))
            clear hN hb5 HI
            go_wp2_with fail
            refine (fis_chain ps 4 4 w5).mono ?_
            rintro e w6 ⟨rfl, hb6⟩
            have H6 := Lib.hid (H5.out.trans (hb6.mono H5.out.size))
            clear hb6
            go_wp2
            go_ret
            exact ⟨rfl, H6.out⟩
end Go.Proofs.YtfilhlilagmhlaaDoor
