/- Contract of aes' Encrypt. -/
import Derived.Test.YtecdfjcncgcegaaDoorAB6
namespace Go.Proofs.YtecdfjcncgcegaaDoor
open Go.RowKit

theorem encGo_lt {k f : Nat → Nat} (hk : ∀ i, k i < 256) (hf : ∀ i, f i < 256) : ∀ n i, Aes.encGo k f n i < 256
  | 0, i => Aes.byte_xor (hf i) (hk i)
  | n + 1, i => by
    show (if n + 1 < 10 then Aes.mixF (Aes.subs (Aes.encGo k f n)) i else Aes.subs (Aes.encGo k f n) i) ^^^ k (16 * (n + 1) + i) < 256
    refine Aes.byte_xor ?_ (hk _)
    split
    · exact Aes.mixB_lt (Aes.sb_lt _) (Aes.sb_lt _) (Aes.sb_lt _) (Aes.sb_lt _)
    · exact Aes.sb_lt _
/-- What Encrypt has: its two blocks, and the block that is turned. -/
def EN (w : World) (b : Nat) (h : Nat → Nat) (wr : World) : Prop :=
  Below w.heap.size w wr ∧ OwnB wr (w.heap.size + 1) 16 30 (fun _ => 0) ∧ OwnB wr b 16 30 h
theorem EN.next {w w1 w2 : World} {b : Nat} {h : Nat → Nat} (he : EN w b h w1) (hb : Below w1.heap.size w1 w2) : EN w b h w2 :=
  ⟨he.1.trans (hb.mono he.1.size), he.2.1.below hb he.2.1.lt, he.2.2.below hb he.2.2.lt⟩
theorem EN.row {w w1 : World} {b : Nat} {h h' : Nat → Nat} (he : EN w b h w1) (hb : w.heap.size + 1 < b) : EN w b h' (w1.setRow b (bys 16 h')) :=
  ⟨Below.row he.1 (by omega) _, he.2.1.farRow (by omega) _, he.2.2.setRow h'⟩
theorem EN.ciph {w w1 : World} {b g : Nat} {h k : Nat → Nat} (he : EN w b h w1) (hc : Ciph w g k) : Ciph w1 g k := OwnB.below hc he.1 (OwnB.lt hc)
theorem EN.eq {w w1 : World} {b : Nat} {h h' : Nat → Nat} (he : EN w b h w1) (e : ∀ q, h q = h' q) : EN w b h' w1 := ⟨he.1, he.2.1, he.2.2.congr fun q _ => e q⟩
theorem addKey_zero (g : Nat) (k f : Nat → Nat) (w : World) (hc : Ciph w g k) (hf : ∀ i, f i < 256) (hk : ∀ i, k i < 256) :
    Calls Tryd.prog 47 #[.pointer (some ⟨g, 0, none⟩), .agg (bys 16 f), .int .i64 0] w fun e w' => e = .returned (.agg (bys 16 fun i => f i ^^^ k (16 * 0 + i))) ∧ Below w.heap.size w w' := addKey_any g k f 0 w hc hf hk (by omega)
theorem addKey_ten (g : Nat) (k f : Nat → Nat) (w : World) (hc : Ciph w g k) (hf : ∀ i, f i < 256) (hk : ∀ i, k i < 256) :
    Calls Tryd.prog 47 #[.pointer (some ⟨g, 0, none⟩), .agg (bys 16 f), .int .i64 10] w fun e w' => e = .returned (.agg (bys 16 fun i => f i ^^^ k (16 * 10 + i))) ∧ Below w.heap.size w w' := addKey_any g k f 10 w hc hf hk (by omega)
set_option maxHeartbeats 2000000 in
set_option maxRecDepth 100000 in
theorem encrypt_any (g : Nat) (k f : Nat → Nat) (w : World) (hc : Ciph w g k) (hf : ∀ i, f i < 256) (hk : ∀ i, k i < 256) :
    Calls Tryd.prog 43 #[.pointer (some ⟨g, 0, none⟩), .agg (bys 16 f)] w fun e w' => e = .returned (.agg (bys 16 (Aes.enc k f))) ∧ Below w.heap.size w w' := by
  have HF := Lib.hid (And.intro hf hk)
  have HG := Lib.hid hc
  have HI := Lib.hid (In2.start w 16 30 f (fun _ => 0))
  have h1 := HI.out.2.1
  clear hf hc hk
  go_enter Tryd.func43, Tryd.ntmps43
  go_wp2_with (refine ld_row 30 16 _ Tryd.underlying30 Tryd.info30 rfl _ rfl _ rfl h1 ?_)
  refine (addKey_zero g k f _ (OwnB.below HG.out HI.out.1 HG.out.lt) HF.out.1 HF.out.2).mono ?_
  rintro e w1 ⟨rfl, hb⟩
  have hB : Below w.heap.size w w1 := HI.out.1.trans (hb.mono (by simp; omega))
  have hR : OwnB w1 (w.heap.size + 1) 16 30 (fun _ => 0) := HI.out.2.2.below hb HI.out.2.2.lt
  have hg1 := hR.lt
  have h2 := OwnB.new w1 16 30 (fun _ => 0)
  have HE := Lib.hid (show EN w w1.heap.size (Aes.encGo k f 0) ((w1.alloc (.cells (bys 16 fun _ => 0) 30)).setRow w1.heap.size (bys 16 (fun i => f i ^^^ k (16 * 0 + i)))) from
    ⟨Below.row (hB.alloc (by omega) _) (by omega) _, (hR.alloc _).farRow (by omega) _, (h2.setRow _).congr fun q _ => by show _ = f q ^^^ k q; rw [Nat.mul_zero, Nat.zero_add]⟩)
  clear h1 HI hB hR hb
  go_wp2_with (refine st_row 30 16 Tryd.info30 rfl _ _ rfl _ rfl rfl h2 ?_)
  clear h2
  have hg2 := hg1
  clear hg1
  generalize w1.heap.size = b at hg2 HE ⊢
  go_loopw [6] (fun t wr => ∃ n : Nat, n ≤ 9 ∧ t = .int .i64 ((n + 1 : Nat) : Int) ∧ EN w b (Aes.encGo k f n) wr) (fun t _ => 10 - (intOf t).toNat)
  case atStart => exact ⟨0, by omega, rfl, HE.out⟩
  case round =>
    clear HE
    obtain ⟨n, hn, rfl, H⟩ := hrel
    have h3 := H.2.2
    have HH := Lib.hid H
    clear H
    by_cases hlt : n < 9
    · go_wp2_with (refine ld_row 30 16 _ Tryd.underlying30 Tryd.info30 rfl _ rfl _ rfl h3 ?_)
      refine (replaced_any g k _ _ (HH.out.ciph HG.out) (encGo_lt HF.out.2 HF.out.1 n)).mono ?_
      rintro e w2 ⟨rfl, hb⟩
      have H2 := Lib.hid (HH.out.next hb)
      clear h3 HH hb
      go_wp2_with fail
      refine (mixed_any _ _ fun _ => Aes.sb_lt _).mono ?_
      rintro e w3 ⟨rfl, hb⟩
      have H3 := Lib.hid (H2.out.next hb)
      clear H2 hb
      go_wp2_with fail
      refine (addKey_any g k _ (n + 1) _ (H3.out.ciph HG.out) (fun _ => Aes.mixB_lt (Aes.sb_lt _) (Aes.sb_lt _) (Aes.sb_lt _) (Aes.sb_lt _)) HF.out.2 (by omega)).mono ?_
      rintro e w4 ⟨rfl, hb⟩
      have H4 := H3.out.next hb
      have h4 := H4.2.2
      have H5 := Lib.hid H4
      clear H3 hb H4
      go_wp2_with (refine st_row 30 16 Tryd.info30 rfl _ _ rfl _ rfl rfl h4 ?_)
      go_roundw
      case rel =>
        exact ⟨n + 1, by omega, by go_num, EN.eq (EN.row H5.out hg2) fun q => by
          show _ = (if n + 1 < 10 then Aes.mixF (Aes.subs (Aes.encGo k f n)) q else Aes.subs (Aes.encGo k f n) q) ^^^ k (16 * (n + 1) + q)
          rw [if_pos (by omega)]; rfl⟩
      case measure => simp [intOf]; omega
    · obtain rfl : n = 9 := by omega
      go_wp2_with (refine ld_row 30 16 _ Tryd.underlying30 Tryd.info30 rfl _ rfl _ rfl h3 ?_)
      refine (replaced_any g k _ _ (HH.out.ciph HG.out) (encGo_lt HF.out.2 HF.out.1 9)).mono ?_
      rintro e w2 ⟨rfl, hb⟩
      have H2 := Lib.hid (HH.out.next hb)
      clear h3 HH hb
      go_wp2_with fail
      refine (addKey_ten g k _ _ (H2.out.ciph HG.out) (fun _ => Aes.sb_lt _) HF.out.2).mono ?_
      rintro e w4 ⟨rfl, hb⟩
      have H4 := H2.out.next hb
      have h4 := H4.2.1
      have H5 := Lib.hid H4
      clear H2 hb H4
      go_wp2_with (refine st_row 30 16 Tryd.info30 rfl _ _ rfl _ rfl rfl h4 ?_)
      exact bodyPost_ret (v := .agg (bys 16 (Aes.enc k f))) (res_row 30 16 _ Tryd.underlying30 Tryd.info30 rfl _ _ _ rfl (h4.setRow _) fun q hq => rfl) rfl ⟨rfl, Below.row H5.out.1 (by omega) _⟩
end Go.Proofs.YtecdfjcncgcegaaDoor
