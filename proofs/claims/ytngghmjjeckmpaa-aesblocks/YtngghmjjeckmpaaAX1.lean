/- Walk of AesBlocks. -/
import Derived.Test.YtngghmjjeckmpaaAR5
import Derived.Test.YtngghmjjeckmpaaAB9
import Derived.Test.YtngghmjjeckmpaaAQ0
import Derived.Laws.IdiomStrings
namespace Go.Proofs.Ytngghmjjeckmpaa
open Go.RowKit

/-- Sixteen bytes as a text. -/
def strB (f : Nat → Nat) : ByteArray := ⟨((List.range 16).map fun i => UInt8.ofNat (f i)).toArray⟩
theorem conv_B (w : World) (ad : Addr) (cap : Nat) (f : Nat → Nat) (h : AtB w ad 16 f) (hf : ∀ i, f i < 256) : (convert 27 9 (.slice (some ad) 16 cap)).run Try.prog w = .ok (.string (strB f)) w := by
  have := run_convert_bytes_back (P := Try.prog) w 27 9 5 ad cap ((List.range 16).map fun i => UInt8.ofNat (f i)) Try.underlying27 (by kernel_rfl) (by kernel_rfl) (fun j hj => by
    have hj' : j < 16 := by simpa using hj
    rw [h j hj']
    have := hf j
    simp only [List.getElem_map, List.getElem_range]
    rw [show (UInt8.ofNat (f j)).toNat = f j by simp; omega])
  simp only [List.length_map, List.length_range] at this
  exact this

/-- The law's two arguments in memory, and the cipher of the key. -/
def B3 (w : World) (k a : Nat → Nat) (c : Nat) (w' : World) : Prop := In2 w 16 22 k a w' ∧ Ciph w' c (Aes.ks k)
theorem In2.next {w w1 w2 : World} {N t : Nat} {k a : Nat → Nat} (h : In2 w N t k a w1) (hb : Below w1.heap.size w1 w2) : In2 w N t k a w2 := ⟨h.1.trans (hb.mono h.1.size), h.2.1.below hb h.2.1.lt, h.2.2.below hb h.2.2.lt⟩
theorem B3.next {w w1 w2 : World} {k a : Nat → Nat} {c : Nat} (h : B3 w k a c w1) (hb : Below w1.heap.size w1 w2) : B3 w k a c w2 := ⟨h.1.next hb, OwnB.below h.2 hb (OwnB.lt h.2)⟩
set_option maxHeartbeats 1000000 in
set_option maxRecDepth 100000 in
theorem blocks_walk (key f : Nat → Nat) (w : World) (hk : ∀ i, key i < 256) (hf : ∀ i, f i < 256) :
    Calls Try.prog 3 #[.agg (bys 16 key), .agg (bys 16 f)] w fun e w' => e = .returned (.bool true) ∧ Below w.heap.size w w' := by
  have HK := Lib.hid (And.intro hk hf)
  clear hk hf
  have HI := Lib.hid (In2.start w 16 22 key f)
  have h1 := HI.out.2.1
  go_enter Try.func3, Try.ntmps3
  go_wp2_with (refine ld_row 22 16 _ Try.underlying22 Try.info22 rfl _ rfl _ rfl h1 ?_)
  clear h1
  generalize ((w.alloc (.cells (bys 16 key) 22)).alloc (.cells (bys 16 f) 22)) = w0 at HI ⊢
  refine (new_made key _ HK.out.1).mono ?_
  rintro e w1 ⟨gA, rfl, hm⟩
  have HB := Lib.hid (show B3 w key f gA w1 from ⟨HI.out.next hm.2.2, hm.2.1⟩)
  clear hm HI
  go_wp2_with (fail)
  refine (awake_any _).mono ?_
  rintro e w2 ⟨rfl, hb⟩
  have hB := HB.out.next hb
  have h2 := hB.1.2.2
  have HB2 := Lib.hid hB
  clear hb HB hB
  go_wp2_with (refine ld_row 22 16 _ Try.underlying22 Try.info22 rfl _ rfl _ rfl h2 ?_)
  refine (encrypt_any gA (Aes.ks key) f w2 HB2.out.2 HK.out.2 (Aes.ks_lt key HK.out.1)).mono ?_
  rintro e w3 ⟨rfl, hb⟩
  have hB := HB2.out.next hb
  have HE : OwnB ((w3.alloc (.cells (bys 16 fun _ => 0) 22)).setRow w3.heap.size (bys 16 (Aes.enc (Aes.ks key) f))) w3.heap.size 16 22 (Aes.enc (Aes.ks key) f) ∧ In2 w 16 22 key f ((w3.alloc (.cells (bys 16 fun _ => 0) 22)).setRow w3.heap.size (bys 16 (Aes.enc (Aes.ks key) f))) := by
    have hb9 : Below w3.heap.size w3 ((w3.alloc (.cells (bys 16 fun _ => 0) 22)).setRow w3.heap.size (bys 16 (Aes.enc (Aes.ks key) f))) := Below.row ((Below.refl _ _).alloc (Nat.le_refl _) _) (Nat.le_refl _) _
    exact ⟨(OwnB.new w3 16 22 (fun _ => 0)).setRow _, hB.1.next hb9⟩
  have HB3 := Lib.hid HE
  have h3 := OwnB.new w3 16 22 (fun _ => 0)
  clear hb HB2 hB HE h2
  go_wp2_with (refine st_row 22 16 Try.info22 rfl _ _ rfl _ rfl rfl h3 ?_)
  clear h3
  refine wp_region_held_drew (S := fun w' => OwnB w' w3.heap.size 16 22 (Aes.enc (Aes.ks key) f) ∧ In2 w 16 22 key f w') (by kernel_rfl) ⟨HB3.out.1, HB3.out.2.1.drew, HB3.out.2.2⟩ (fun hHeld => ?_)
  have HN := encGo_lt (f := f) (Aes.ks_lt key HK.out.1) HK.out.2 10
  refine wpAnyH_take (i := 0) (v := .slice (some ⟨w3.heap.size, 0, none⟩) 16 16) rfl (by kernel_rfl) (by kernel_rfl) (by kernel_rfl) (fun _ _ _ h => h) (.inl ⟨rfl, fun w' hw' => by go_simp⟩) hHeld ?_
  refine wpAnyH_take (i := 1) (v := .string (strB (Aes.enc (Aes.ks key) f))) rfl (by kernel_rfl) (by kernel_rfl) (by kernel_rfl) (fun _ _ _ h => h) (.inl ⟨rfl, fun w' hw' => by have := conv_B w' ⟨w3.heap.size, 0, none⟩ 16 _ (AtB.own hw'.1) HN; go_simp⟩) hHeld ?_
  refine wpAnyH_take (i := 2) (v := .slice (some ⟨w.heap.size, 0, none⟩) 16 16) rfl (by kernel_rfl) (by kernel_rfl) (by kernel_rfl) (fun _ _ _ h => h) (.inl ⟨rfl, fun w' hw' => by go_simp⟩) hHeld ?_
  refine wpAnyH_take (i := 4) (v := .slice (some ⟨w.heap.size + 1, 0, none⟩) 16 16) rfl (by kernel_rfl) (by kernel_rfl) (by kernel_rfl) (fun _ _ _ h => h) (.inl ⟨rfl, fun w' hw' => by go_simp⟩) hHeld ?_
  refine wpAnyH_ready (rs := [3]) (by kernel_rfl) (by simp) ?_
  refine AllReadyH.cons rfl (fun K hK => ?_) AllReadyH.nil
  rw [if_pos (by rfl)]
  go_simp
  refine (rnew_any key _ 16 _ HK.out.1 (AtB.own hHeld.2.2.1) ⟨Nat.le_refl _, by decide⟩).mono ?_
  rintro e w5 ⟨g, c, gb, cb, rfl, hC, hb5⟩
  have hS5 : OwnB w5 w3.heap.size 16 22 (Aes.enc (Aes.ks key) f) ∧ In2 w 16 22 key f w5 := ⟨hHeld.1.below hb5 hHeld.1.lt, hHeld.2.next hb5⟩
  refine hK.out _ _ hS5 (fun hHeld2 => ?_)
  clear hK K hHeld hb5 HB3
  refine wpAnyH_ready (rs := [5]) (by kernel_rfl) (by simp) ?_
  refine AllReadyH.cons rfl (fun K hK => ?_) AllReadyH.nil
  rw [if_pos (by rfl)]
  go_simp
  refine (renc_any key f g c gb cb _ 0 16 _ hC (AtB.own hHeld2.2.2.2) HK.out.1 HK.out.2).mono ?_
  rintro e w6 ⟨gr, rfl, hO, hb6⟩
  have hS6 : OwnB w6 w3.heap.size 16 22 (Aes.enc (Aes.ks key) f) ∧ In2 w 16 22 key f w6 := ⟨hHeld2.1.below hb6 hHeld2.1.lt, hHeld2.2.next hb6⟩
  refine hK.out _ _ hS6 (fun hHeld3 => ?_)
  clear hK K hHeld2 hb6 hC hS5 hS6
  have hcv := conv_B w6 ⟨gr, 0, none⟩ 16 _ (AtB.own hO) HN
  refine wpAnyH_ready (rs := [6]) (by kernel_rfl) (by simp) ?_
  refine AllReadyH.cons rfl (fun K hK => ?_) AllReadyH.nil
  rw [if_pos (by rfl)]
  go_simp
  refine hK.out _ _ hHeld3 (fun hHeld4 => ?_)
  clear hK K hHeld3 hcv
  refine wpAnyH_take (i := 7) (v := .bool true) rfl (by kernel_rfl) (by kernel_rfl) (by kernel_rfl) (fun _ _ _ h => h) (.inl ⟨rfl, fun w' hw' => by go_simp⟩) hHeld4 ?_
  refine wpAnyH_take (i := 8) (v := .bool true) rfl (by kernel_rfl) (by kernel_rfl) (by kernel_rfl) (fun _ _ _ h => h) (.inl ⟨rfl, fun w _ => rfl⟩) hHeld4 ?_
  refine wpAnyH_done (by kernel_rfl) ?_ _
  have HW := Lib.hid hHeld4.2.1
  clear hHeld4 hO HN
  simp only [List.getElem_toArray, List.getElem_cons_succ, List.getElem_cons_zero, Act.put, List.setIfInBounds_toArray, List.set_cons_zero, List.set_cons_succ]
  go_wp2
  go_ret
  exact ⟨rfl, HW.out⟩
end Go.Proofs.Ytngghmjjeckmpaa
