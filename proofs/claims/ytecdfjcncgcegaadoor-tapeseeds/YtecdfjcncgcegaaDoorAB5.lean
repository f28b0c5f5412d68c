/- Contracts of aes' addKey, replaced, mixed. -/
import Derived.Test.YtecdfjcncgcegaaDoorAB3
namespace Go.Proofs.YtecdfjcncgcegaaDoor
open Go.RowKit

/-- Two blocks of the call's own behind w. -/
def In2 (w : World) (N t : Nat) (f0 f1 : Nat → Nat) (wr : World) : Prop :=
  Below w.heap.size w wr ∧ OwnB wr w.heap.size N t f0 ∧ OwnB wr (w.heap.size + 1) N t f1
theorem In2.start (w : World) (N t : Nat) (f0 f1 : Nat → Nat) : In2 w N t f0 f1 ((w.alloc (.cells (bys N f0) t)).alloc (.cells (bys N f1) t)) := by
  refine ⟨((Below.refl _ _).alloc (Nat.le_refl _) _).alloc (by simp) _, (OwnB.new w N t f0).alloc _, ?_⟩
  have := OwnB.new (w.alloc (.cells (bys N f0) t)) N t f1
  simp only [World.size_alloc] at this
  exact this
theorem In2.drew {w wr : World} {N t : Nat} {f0 f1 : Nat → Nat} (h : In2 w N t f0 f1 wr) : In2 w N t f0 f1 wr.drew := ⟨h.1.drew, h.2.1, h.2.2⟩
/-- The first i places turned. -/
def upTo (i : Nat) (g f : Nat → Nat) (q : Nat) : Nat := if q < i then g q else f q
theorem upTo_at (i : Nat) (g f : Nat → Nat) : upTo i g f i = f i := if_neg (by omega)
theorem upTo_step (i : Nat) (g f : Nat → Nat) (q : Nat) : (if q = i then g i else upTo i g f q) = upTo (i + 1) g f q := by
  unfold upTo
  by_cases h : q = i
  · subst h; rw [if_pos rfl, if_pos (by omega)]
  · rw [if_neg h]
    by_cases h' : q < i
    · rw [if_pos h', if_pos (by omega)]
    · rw [if_neg h', if_neg (by omega)]
theorem upTo_full (N : Nat) (g f : Nat → Nat) (q : Nat) (h : q < N) : upTo N g f q = g q := if_pos h
set_option maxHeartbeats 1000000 in
set_option maxRecDepth 100000 in
theorem addKey_any (g : Nat) (k f : Nat → Nat) (n : Nat) (w : World) (hc : Ciph w g k) (hf : ∀ i, f i < 256) (hk : ∀ i, k i < 256) (hn : n ≤ 10) :
    Calls Tryd.prog 47 #[.pointer (some ⟨g, 0, none⟩), .agg (bys 16 f), .int .i64 (n : Int)] w fun e w' => e = .returned (.agg (bys 16 fun i => f i ^^^ k (16 * n + i))) ∧ Below w.heap.size w w' := by
  have HF := Lib.hid (And.intro hf hk)
  have HG := Lib.hid hc
  clear hf hc hk
  go_enter Tryd.func47, Tryd.ntmps47
  go_wp2
  go_loopw [8] (fun t wr => ∃ i : Nat, i ≤ 16 ∧ t = .int .i64 i ∧ In2 w 16 30 (upTo i (fun q => f q ^^^ k (16 * n + q)) f) (fun _ => 0) wr) (fun t _ => 16 - (intOf t).toNat)
  case atStart => exact ⟨0, by omega, rfl, In2.start w 16 30 f (fun _ => 0)⟩
  case round =>
    obtain ⟨i, hi, rfl, H⟩ := hrel
    have hgl := HG.out.lt
    by_cases hlt : i < 16
    · obtain ⟨d, hd⟩ : ∃ d, d = i / 4 := ⟨_, rfl⟩
      obtain ⟨r, hr⟩ : ∃ r, r = i % 4 := ⟨_, rfl⟩
      have c1 : wr.cell? ⟨w.heap.size, i, none⟩ = some (.int .u8 (f i : Int)) := by rw [H.2.1.cell i hlt, upTo_at]
      have c3 := H.2.1.frozen i
      have c4 : wr.cell? ⟨g, 256 + (4 * n + d) * 4 + r, none⟩ = some (.int .u8 (k (16 * n + i) : Int)) := by
        have := Ciph.key (OwnB.below HG.out H.1 hgl) (16 * n + i) (by omega)
        rw [show 256 + (4 * n + d) * 4 + r = 256 + (16 * n + i) by omega]; exact this
      have e1 : (i : Int) < 16 := by omega
      have e2 : IntKind.i64.wrap (4 * (n : Int)) = 4 * (n : Int) := i64_nat _ (by omega) (by omega)
      have e3 : IntKind.i64.wrap ((i : Int) / 4) = (d : Int) := by rw [i64_nat _ (by omega) (by omega)]; omega
      have e4 : (i : Int).tmod 4 = (r : Int) := by rw [Int.tmod_eq_emod_of_nonneg (by omega)]; omega
      have e5 : IntKind.i64.wrap (4 * (n : Int) + (d : Int)) = 4 * (n : Int) + (d : Int) := i64_nat _ (by omega) (by omega)
      have e6 : (0 : Int) ≤ 4 * (n : Int) + (d : Int) := by omega
      have e7 : 4 * (n : Int) + (d : Int) < 44 := by omega
      have e8 : (4 * (n : Int) + (d : Int)).toNat = 4 * n + d := by omega
      have e9 : (r : Int) < 4 := by omega
      have HX := Lib.hid (bits8_xor (f i) (k (16 * n + i)) (HF.out.1 i) (HF.out.2 _))
      have HH := Lib.hid H
      have HM := Lib.hid (And.intro hd hr)
      clear H hd hr
      go_wp2
      go_still_tail 18, (by kernel_rfl)
      change wpList _ _ _ _ _ wr.drew
      have HE := Lib.hid (In2.drew HH.out)
      have c1' : wr.drew.cell? ⟨w.heap.size, i, none⟩ = some (.int .u8 (f i : Int)) := c1
      have c3' : wr.drew.frozen? ⟨w.heap.size, i, none⟩ = false := c3
      clear HH c1 c3 c4
      generalize wr.drew = w2 at HE c1' c3' ⊢
      go_wp2
      go_roundw
      case rel =>
        obtain ⟨h0, h1, h2⟩ := HE.out
        exact ⟨i + 1, by omega, by go_num, h0.setCell (by simp) _, by rw [HX.out]; exact (h1.set i _).congr fun q _ => upTo_step i (fun q => f q ^^^ k (16 * n + q)) f q, h2.far (by simp) _⟩
      case measure => simp [intOf]; omega
    · obtain rfl : i = 16 := by omega
      obtain ⟨h0, h1, h2⟩ := H
      have HH := Lib.hid h0
      clear h0
      go_wp2_with (first | (refine ld_row 30 16 _ Tryd.underlying30 Tryd.info30 rfl _ rfl _ rfl h1 ?_) | (refine st_row 30 16 Tryd.info30 rfl _ _ rfl _ rfl rfl h2 ?_))
      exact bodyPost_ret (v := .agg (bys 16 fun i => f i ^^^ k (16 * n + i))) (res_row 30 16 _ Tryd.underlying30 Tryd.info30 rfl _ _ _ rfl (h2.setRow _) fun q hq => upTo_full 16 _ f q hq) rfl ⟨rfl, Below.row HH.out (by omega) _⟩
set_option maxHeartbeats 1000000 in
set_option maxRecDepth 100000 in
theorem replaced_any (g : Nat) (k f : Nat → Nat) (w : World) (hc : Ciph w g k) (hf : ∀ i, f i < 256) :
    Calls Tryd.prog 49 #[.pointer (some ⟨g, 0, none⟩), .agg (bys 16 f)] w fun e w' => e = .returned (.agg (bys 16 (Aes.subs f))) ∧ Below w.heap.size w w' := by
  have HF := Lib.hid hf
  have HG := Lib.hid hc
  clear hf hc
  go_enter Tryd.func49, Tryd.ntmps49
  go_wp2
  go_loopw [7] (fun t wr => ∃ i : Nat, i ≤ 16 ∧ t = .int .i64 i ∧ In3 w 16 30 f (fun _ => 0) (upTo i (Aes.subs f) fun _ => 0) wr) (fun t _ => 16 - (intOf t).toNat)
  case atStart => exact ⟨0, by omega, rfl, In3.start w 16 30 f (fun _ => 0) (fun _ => 0)⟩
  case round =>
    obtain ⟨i, hi, rfl, H⟩ := hrel
    have hgl := HG.out.lt
    by_cases hlt : i < 16
    · obtain ⟨m, hm⟩ : ∃ m, m = Aes.from_ i := ⟨_, rfl⟩
      obtain ⟨r, hr⟩ : ∃ r, r = i % 4 := ⟨_, rfl⟩
      have hm16 : m < 16 := by rw [hm]; exact Aes.from_lt i
      have hmr : (i + 4 * r) % 16 = m := by rw [hm, hr]; unfold Aes.from_; omega
      have c1 := H.2.1.cell m hm16
      have c2 : wr.cell? ⟨w.heap.size + 2, i, none⟩ = some (.int .u8 0) := by rw [H.2.2.2.cell i hlt, upTo_at]; rfl
      have c3 := H.2.2.2.frozen i
      have c4 := Ciph.s (OwnB.below HG.out H.1 hgl) (f m) (HF.out _)
      have c5 : (f m : Int) < 256 := by have := HF.out m; omega
      have e1 : (i : Int) < 16 := by omega
      have e4 : (i : Int).tmod 4 = (r : Int) := by rw [Int.tmod_eq_emod_of_nonneg (by omega)]; omega
      have e2 : IntKind.i64.wrap (4 * (r : Int)) = 4 * (r : Int) := i64_nat _ (by omega) (by omega)
      have e3 : IntKind.i64.wrap ((i : Int) + 4 * (r : Int)) = (i : Int) + 4 * (r : Int) := i64_nat _ (by omega) (by omega)
      have e5 : ((i : Int) + 4 * (r : Int)).tmod 16 = (m : Int) := by rw [Int.tmod_eq_emod_of_nonneg (by omega)]; omega
      have e6 : (m : Int) < 16 := by omega
      have HH := Lib.hid H
      have HM := Lib.hid (And.intro hm hr)
      clear H hm hr hmr
      go_wp2
      go_still_tail 15, (by kernel_rfl)
      change wpList _ _ _ _ _ wr.drew
      have HE := Lib.hid (In3.drew HH.out)
      have c2' : wr.drew.cell? ⟨w.heap.size + 2, i, none⟩ = some (.int .u8 0) := c2
      have c3' : wr.drew.frozen? ⟨w.heap.size + 2, i, none⟩ = false := c3
      clear HH c1 c2 c3 c4
      generalize wr.drew = w2 at HE c2' c3' ⊢
      go_wp2
      go_roundw
      case rel =>
        obtain ⟨h0, h1, h2, h3⟩ := HE.out
        exact ⟨i + 1, by omega, by go_num, h0.setCell (by simp; omega) _, h1.far (by simp; omega) _, h2.far (by simp) _, (h3.set i _).congr fun q _ => by rw [HM.out.1]; exact upTo_step i (Aes.subs f) (fun _ => 0) q⟩
      case measure => simp [intOf]; omega
    · obtain rfl : i = 16 := by omega
      obtain ⟨h0, h1, h2, h3⟩ := H
      have HH := Lib.hid h0
      clear h0
      go_wp2_with (first | (refine ld_row 30 16 _ Tryd.underlying30 Tryd.info30 rfl _ rfl _ rfl h3 ?_) | (refine st_row 30 16 Tryd.info30 rfl _ _ rfl _ rfl rfl h2 ?_))
      exact bodyPost_ret (v := .agg (bys 16 (Aes.subs f))) (res_row 30 16 _ Tryd.underlying30 Tryd.info30 rfl _ _ _ rfl (h2.setRow _) fun q hq => upTo_full 16 _ _ q hq) rfl ⟨rfl, Below.row HH.out (by omega) _⟩
end Go.Proofs.YtecdfjcncgcegaaDoor
