/- The document's Flip of a frame that there is. -/
import Derived.Test.YtfilhlilagmhlaaDoorNR4
namespace Go.Proofs.YtfilhlilagmhlaaDoor
open Go.RowKit

/-- []byte(t). -/
theorem conv_SB (w : World) (t : ByteArray) : ∃ c wb, (convert 9 32 (.string t)).run Tryd.prog w = .ok (sl8 w.heap.size t.size c) wb ∧ AtB wb ⟨w.heap.size, 0, none⟩ t.size (byteAt t) ∧ (∀ q, q < t.size → wb.frozen? ⟨w.heap.size, q, none⟩ = false) ∧ Below w.heap.size w wb := by
  have hr := run_bytes_of_string (P := Tryd.prog) w 9 32 5 t (by kernel_rfl) Tryd.underlying32 (by kernel_rfl)
  have hh : (w.drew.alloc (.cells (bytesRow t (grownCap w t.size 0 5)) 5 ((bytesRow t (grownCap w t.size 0 5)).size, (bytesRow t (grownCap w t.size 0 5)).size + 1))).heap[w.heap.size]? = some (.cells (bytesRow t (grownCap w t.size 0 5)) 5 ((bytesRow t (grownCap w t.size 0 5)).size, (bytesRow t (grownCap w t.size 0 5)).size + 1)) := heap_alloc_new w.drew _
  have hsz : t.size ≤ (bytesRow t (grownCap w t.size 0 5)).size := by
    unfold bytesRow
    rw [Array.size_append, Array.size_map]
    exact Nat.le_add_right _ _
  refine ⟨_, _, hr, fun i hi => ?_, fun q hq => ?_, ((Below.refl w.heap.size w).drew).alloc (Nat.le_refl _) _⟩
  · rw [Addr.add_mid, Nat.zero_add, cell_of_row _ _ i _ _ _ hh, bytesRow_at t _ i hi]
    have hi' : i < t.data.size := hi
    have e : t.data.toList.getD i 0 = t.data[i] := by rw [List.getD, Array.getElem?_toList, Array.getElem?_eq_getElem hi']; rfl
    unfold byteAt
    rw [e]
  · simp only [World.frozen?, hh]
    rw [Bool.and_eq_false_iff]
    exact .inl (decide_eq_false (by omega))
set_option maxHeartbeats 1000000 in
set_option maxRecDepth 100000 in
theorem rflip_range {w : World} (v : Nat → Value) (T : Txt) (k i : Nat) (z : Int) (t : ByteArray) (h : Rf w v T) (hk : k < 2) (ht : (T k)[i]? = some t) (hz : z < 0 ∨ 8 * (t.size : Int) ≤ z) (hz2 : z < 9223372036854775808) :
    Calls Tryd.prog 18 #[rvf v, .int .i64 (k : Int), .int .i64 (i : Int), .int .i64 z] w (RRes w T 1) := by
  obtain ⟨A0, c0, A1, c1, h0, h1⟩ := h.vals
  obtain ⟨hbx0, hbx1, hbx2, hbx3⟩ := boxed w (v 0) (v 1)
  have hAt := fun w1 hb => rat_ok (w := w1) v T k i t (h.below hb) hk ht
  have HI := Lib.hid (And.intro h (And.intro h0 h1))
  unfold rvf at hAt ⊢
  simp only [h0, h1] at hbx0 hbx1 hbx2 hbx3 hAt ⊢
  generalize (T 0).length = n0 at *
  generalize (T 1).length = n1 at *
  have HB := Lib.hid (And.intro hbx0 (And.intro hbx1 (And.intro hbx2 (And.intro hbx3 hAt))))
  clear h h0 h1 hbx0 hbx1 hbx2 hbx3 hAt ht hk
  obtain ⟨m, hm⟩ : ∃ m, m = t.size := ⟨_, rfl⟩
  by_cases h0 : z < 0
  · clear hz hm
    go_enter Tryd.func18, Tryd.ntmps18
    go_wp2_with fail
    generalize (w.alloc (.cells #[.slice A0 n0 c0, .slice A1 n1 c1] 29)).alloc (.cells #[nilS, nilS] 29) = w0 at *
    refine (HB.out.2.2.2.2 w0 HB.out.2.2.1).mono ?_
    rintro e w1 ⟨rfl, hb1⟩
    have hr0 := HB.out.1.below hb1 HB.out.1.lt
    have hr1 := HB.out.2.1.below hb1 HB.out.2.1.lt
    have a0 := hr0.cell0
    have a1 := hr0.cell1
    have r0 := hr1.cell0
    have r1 := hr1.cell1
    have z0 := hr1.frozen 0
    have z1 := hr1.frozen 1
    have hb := HB.out.2.2.1.trans (hb1.mono HB.out.2.2.1.size)
    have HE := Lib.hid (And.intro (laid_same 1 HI.out.1 hb hr1 HI.out.2.1 HI.out.2.2) (hr1.set (.slice A0 n0 c0) (.slice A1 n1 c1)))
    clear hb1 hr0 hr1 hb HB HI
    go_wp2
    have s0 := HE.out.2.cell0
    have s1 := HE.out.2.cell1
    exact bodyPost_ret (v := .tuple #[rv (.slice A0 n0 c0) (.slice A1 n1 c1), .int .i64 1]) (by simp [results, Tryd.results18, go_sem, s0, s1]) rfl HE.out.1
  · obtain ⟨B, rfl⟩ := Int.eq_ofNat_of_zero_le (show 0 ≤ z by omega)
    obtain ⟨q, hq⟩ : ∃ q, q = B / 8 := ⟨_, rfl⟩
    have k1 : decide ((B : Int) < 0) = false := decide_eq_false h0
    have e2 : (B : Int).tdiv 8 = (q : Int) := by rw [Int.tdiv_eq_ediv_of_nonneg (by omega)]; omega
    have e4 : IntKind.i64.wrap (q : Int) = (q : Int) := i64_nat _ (by omega) (by omega)
    have k2 : (t.size : Int) ≤ (q : Int) := by omega
    clear hz h0 hq hm hz2
    go_enter Tryd.func18, Tryd.ntmps18
    go_wp2_with fail
    generalize (w.alloc (.cells #[.slice A0 n0 c0, .slice A1 n1 c1] 29)).alloc (.cells #[nilS, nilS] 29) = w0 at *
    refine (HB.out.2.2.2.2 w0 HB.out.2.2.1).mono ?_
    rintro e w1 ⟨rfl, hb1⟩
    have hr0 := HB.out.1.below hb1 HB.out.1.lt
    have hr1 := HB.out.2.1.below hb1 HB.out.2.1.lt
    have a0 := hr0.cell0
    have a1 := hr0.cell1
    have r0 := hr1.cell0
    have r1 := hr1.cell1
    have z0 := hr1.frozen 0
    have z1 := hr1.frozen 1
    have hb := HB.out.2.2.1.trans (hb1.mono HB.out.2.2.1.size)
    have HE := Lib.hid (And.intro (laid_same 1 HI.out.1 hb hr1 HI.out.2.1 HI.out.2.2) (hr1.set (.slice A0 n0 c0) (.slice A1 n1 c1)))
    clear hb1 hr0 hr1 hb HB HI
    go_wp2
    have s0 := HE.out.2.cell0
    have s1 := HE.out.2.cell1
    exact bodyPost_ret (v := .tuple #[rv (.slice A0 n0 c0) (.slice A1 n1 c1), .int .i64 1]) (by simp [results, Tryd.results18, go_sem, s0, s1]) rfl HE.out.1
theorem set_own {w : World} {base g c : Nat} {l : List ByteArray} (h : w.ownsRow base 9 1 (.slice (some ⟨g, 0, none⟩) l.length c) l.length (l.map Value.string)) (i : Nat) (t : ByteArray) (hi : i < l.length) :
    (w.setCell ⟨g, i, none⟩ (.string t)).ownsRow base 9 1 (.slice (some ⟨g, 0, none⟩) l.length c) (l.set i t).length ((l.set i t).map Value.string) ∧ w.frozen? ⟨g, i, none⟩ = false ∧ (∃ u, w.cell? ⟨g, i, none⟩ = some (.string u)) ∧ base ≤ g ∧ l.length ≤ c := by
  rcases h.2 with ⟨h0, _⟩ | ⟨g', cap, cur, hv, h1, h2, h3, h4, h5, h6⟩
  · cases h0
  · injection hv with e1 e2 e3
    injection e1 with e1
    injection e1 with e1
    subst e1 e3
    have hic : i < cur.size := by omega
    have hcu : cur[i]? = some (.string l[i]) := by
      have : (cur.toList.take (l.length * 1))[i]? = some (.string l[i]) := by rw [h6, List.getElem?_map, List.getElem?_eq_getElem hi]; rfl
      rw [Nat.mul_one, List.getElem?_take, if_pos hi] at this
      simpa using this
    refine ⟨⟨by simp, .inr ⟨g, c, cur.setIfInBounds i (.string t), by rw [List.length_set], h1, ?_, by rw [List.length_set]; exact h3, h4, by rw [Array.size_setIfInBounds]; exact h5, ?_⟩⟩, by simp [World.frozen?, h2], ⟨_, by rw [cell_of_row w g i cur _ (0, 0) h2]; exact hcu⟩, h1, h3⟩
    · simp [World.setCell, Array.getElem?_modify, h2]
    · apply List.ext_getElem?
      intro j
      rw [List.length_set, Nat.mul_one, List.getElem?_take, List.getElem?_map, List.getElem?_set, Array.getElem?_toList, Array.getElem?_setIfInBounds]
      have hj := congrArg (fun a => a[j]?) h6
      simp only [Nat.mul_one, List.getElem?_take, List.getElem?_map, Array.getElem?_toList] at hj
      by_cases e : i = j
      · subst e
        rw [if_pos hi, if_pos rfl, if_pos hic, if_pos rfl, if_pos hi]
        rfl
      · rw [if_neg e, if_neg e]
        exact hj
set_option maxHeartbeats 8000000 in
set_option maxRecDepth 100000 in
theorem rflip_ok {w : World} (v : Nat → Value) (T : Txt) (k i B : Nat) (t : ByteArray) (h : Rf w v T) (hk : k < 2) (ht : (T k)[i]? = some t) (hsh : (T k).length ≤ 64) (hB : B < 8 * t.size) (hB2 : B < 9223372036854775808) :
    Calls Tryd.prog 18 #[rvf v, .int .i64 (k : Int), .int .i64 (i : Int), .int .i64 (B : Int)] w (RRes w (upd T k ((T k).set i (flipT t B))) 0) := by
  obtain ⟨A0, c0, A1, c1, h0, h1⟩ := h.vals
  obtain ⟨A, c, hA, hAc, _, hnil, hsrc⟩ := (h.strs k hk).slice
  obtain ⟨hbx0, hbx1, hbx2, hbx3⟩ := boxed w (v 0) (v 1)
  have hAt := fun w1 hb => rat_ok (w := w1) v T k i t (h.below hb) hk ht
  have hi : i < (T k).length := (List.getElem?_eq_some_iff.1 ht).1
  obtain ⟨n, hn⟩ : ∃ n, n = (T k).length := ⟨_, rfl⟩
  obtain ⟨sz, hsz⟩ : ∃ sz, sz = t.size := ⟨_, rfl⟩
  obtain ⟨q, hq⟩ : ∃ q, q = B / 8 := ⟨_, rfl⟩
  obtain ⟨r, hr⟩ : ∃ r, r = B % 8 := ⟨_, rfl⟩
  obtain ⟨m, hm⟩ : ∃ m, m = 2 ^ r := ⟨_, rfl⟩
  obtain ⟨y, hy⟩ : ∃ y, y = byteAt t q ^^^ m := ⟨_, rfl⟩
  have hm2 : m < 256 := by
    have : 2 ^ r < 2 ^ 8 := Nat.pow_lt_pow_right (by omega) (by omega)
    rw [hm]; exact this
  have k4 : (k : Int) < 2 := by omega
  have k1 : decide ((B : Int) < 0) = false := decide_eq_false (by omega)
  have e2 : (B : Int).tdiv 8 = (q : Int) := by rw [Int.tdiv_eq_ediv_of_nonneg (by omega)]; omega
  have e3 : (B : Int).tmod 8 = (r : Int) := by rw [Int.tmod_eq_emod_of_nonneg (by omega)]; omega
  have e4 : IntKind.i64.wrap (q : Int) = (q : Int) := i64_nat _ (by omega) (by omega)
  have e5 : IntKind.i64.wrap (r : Int) = (r : Int) := i64_nat _ (by omega) (by omega)
  have e6 := shl1_val r m (by omega) hm
  have e7 := bits8_xor (byteAt t q) m (byteAt_lt t q) hm2
  rw [← hy] at e7
  have k2 : decide ((t.size : Int) ≤ (q : Int)) = false := decide_eq_false (by omega)
  have k3 : decide (t.size ≤ q) = false := decide_eq_false (by omega)
  have k5 : (q : Int) < (sz : Int) := by omega
  have hfl : ∀ j, (if j = q then y else byteAt t j) = flipD (byteAt t) B j := fun j => by
    unfold flipD
    rw [← hq]
    by_cases e : j = q
    · rw [if_pos e, if_pos e, hy, e, hm, hr]
    · rw [if_neg e, if_neg e]
  have HI := Lib.hid (And.intro h (And.intro hk (And.intro hi (And.intro h0 (And.intro h1 (And.intro (show SrcS w A (T k) from hsrc) (And.intro hnil (And.intro hn (And.intro hAc (And.intro hsh (And.intro hfl (And.intro hsz (show True ∧ q < t.size from ⟨trivial, by omega⟩)))))))))))))
  have HA := Lib.hid (And.intro hbx0 hA)
  unfold rvf at hAt ⊢
  simp only [h0, h1] at hbx0 hbx1 hbx2 hbx3 hAt ⊢
  generalize (T 0).length = n0 at *
  generalize (T 1).length = n1 at *
  have HB := Lib.hid (And.intro hbx1 (And.intro hbx2 (And.intro hbx3 (And.intro hAt hbx0))))
  clear h hk hi h0 h1 hA hAc hnil hsrc hbx0 hbx1 hbx2 hbx3 hn ht hAt hsh hB hB2 hq hr hm hy hm2 hfl hsz
  go_enter Tryd.func18, Tryd.ntmps18
  go_wp2_with fail
  refine (HB.out.2.2.2.1 _ HB.out.2.1).mono ?_
  rintro e w1 ⟨rfl, hb1⟩
  have ck : w1.cell? ⟨w.heap.size, k, none⟩ = some (.slice A n c) := by
    have h1 := HA.out.1.cellk k HI.out.2.1
    rw [HA.out.2, ← HI.out.2.2.2.2.2.2.2.1, HI.out.2.2.2.1, HI.out.2.2.2.2.1] at h1
    exact (hb1.cell (World.block_lt_of_cell? _ _ h1)).trans h1
  have hr0 := HB.out.2.2.2.2.below hb1 HB.out.2.2.2.2.lt
  have HW1 := Lib.hid (And.intro hr0 (And.intro (HB.out.1.below hb1 HB.out.1.lt) (And.intro (HB.out.2.1.trans (hb1.mono HB.out.2.1.size)) (show w.heap.size + 2 ≤ w1.heap.size by have := hb1.size; have := HB.out.2.2.1; omega))))
  have HCK := Lib.hid ck
  clear hb1 hr0 HA ck HB
  obtain ⟨d, wb, hcv, hAb, hzb, hbb⟩ := conv_SB w1 t
  rw [← HI.out.2.2.2.2.2.2.2.2.2.2.2.1] at hcv hAb
  have HWb := Lib.hid (And.intro hAb (And.intro hzb hbb))
  have hcq : wb.cell? ⟨w1.heap.size, q, none⟩ = some (.int .u8 (byteAt t q : Int)) := by
    have := AtB.cell hAb q (by rw [HI.out.2.2.2.2.2.2.2.2.2.2.2.1]; exact HI.out.2.2.2.2.2.2.2.2.2.2.2.2.2)
    rwa [Nat.zero_add] at this
  have hzq := hzb q HI.out.2.2.2.2.2.2.2.2.2.2.2.2.2
  clear hAb hzb hbb
  go_wp2
  clear hcv k1 k2 k3
  refine region_z 13 (fun w' => w'.cell? ⟨w1.heap.size, q, none⟩ = some (.int .u8 (byteAt t q : Int))) (by kernel_rfl) ?_
  have hS : wb.drew.cell? ⟨w1.heap.size, q, none⟩ = some (.int .u8 (byteAt t q : Int)) := hcq
  refine zt [13] (i := 0) rfl (sl8 w1.heap.size sz d) (by kernel_rfl) (by kernel_rfl) (by kernel_rfl) (by kernel_rfl) (fun _ _ _ h => h) hS (fun w' d1 => by go_simp) ?_
  try simp only [Act.put, List.setIfInBounds_toArray, List.set_cons_zero, List.set_cons_succ]
  refine zt [13] (i := 1) rfl (.int .i64 (B : Int)) (by kernel_rfl) (by kernel_rfl) (by kernel_rfl) (by kernel_rfl) (fun _ _ _ h => h) hS (fun w' d1 => by go_simp) ?_
  try simp only [Act.put, List.setIfInBounds_toArray, List.set_cons_zero, List.set_cons_succ]
  refine zt [13] (i := 2) rfl (.int .i64 (q : Int)) (by kernel_rfl) (by kernel_rfl) (by kernel_rfl) (by kernel_rfl) (fun _ _ _ h => h) hS (fun w' d1 => by go_simp) ?_
  try simp only [Act.put, List.setIfInBounds_toArray, List.set_cons_zero, List.set_cons_succ]
  refine zt [13] (i := 3) rfl (sl8 w1.heap.size sz d) (by kernel_rfl) (by kernel_rfl) (by kernel_rfl) (by kernel_rfl) (fun _ _ _ h => h) hS (fun w' d1 => by go_simp) ?_
  try simp only [Act.put, List.setIfInBounds_toArray, List.set_cons_zero, List.set_cons_succ]
  refine zt [13] (i := 4) rfl (.int .i64 (B : Int)) (by kernel_rfl) (by kernel_rfl) (by kernel_rfl) (by kernel_rfl) (fun _ _ _ h => h) hS (fun w' d1 => by go_simp) ?_
  try simp only [Act.put, List.setIfInBounds_toArray, List.set_cons_zero, List.set_cons_succ]
  refine zt [13] (i := 5) rfl (.int .i64 (q : Int)) (by kernel_rfl) (by kernel_rfl) (by kernel_rfl) (by kernel_rfl) (fun _ _ _ h => h) hS (fun w' d1 => by go_simp) ?_
  try simp only [Act.put, List.setIfInBounds_toArray, List.set_cons_zero, List.set_cons_succ]
  refine zt [13] (i := 6) rfl (.pointer (some ⟨w1.heap.size, q, none⟩)) (by kernel_rfl) (by kernel_rfl) (by kernel_rfl) (by kernel_rfl) (fun _ _ _ h => h) hS (fun w' d1 => by go_simp) ?_
  try simp only [Act.put, List.setIfInBounds_toArray, List.set_cons_zero, List.set_cons_succ]
  refine zt [13] (i := 7) rfl (.int .u8 (byteAt t q : Int)) (by kernel_rfl) (by kernel_rfl) (by kernel_rfl) (by kernel_rfl) (fun _ _ _ h => h) hS (fun w' d1 => by go_simp) ?_
  try simp only [Act.put, List.setIfInBounds_toArray, List.set_cons_zero, List.set_cons_succ]
  refine zt [13] (i := 8) rfl (.int .i64 (B : Int)) (by kernel_rfl) (by kernel_rfl) (by kernel_rfl) (by kernel_rfl) (fun _ _ _ h => h) hS (fun w' d1 => by go_simp) ?_
  try simp only [Act.put, List.setIfInBounds_toArray, List.set_cons_zero, List.set_cons_succ]
  refine zt [13] (i := 9) rfl (.int .i64 (r : Int)) (by kernel_rfl) (by kernel_rfl) (by kernel_rfl) (by kernel_rfl) (fun _ _ _ h => h) hS (fun w' d1 => by go_simp) ?_
  try simp only [Act.put, List.setIfInBounds_toArray, List.set_cons_zero, List.set_cons_succ]
  refine zt [13] (i := 10) rfl (.int .u8 (m : Int)) (by kernel_rfl) (by kernel_rfl) (by kernel_rfl) (by kernel_rfl) (fun _ _ _ h => h) hS (fun w' d1 => by go_simp) ?_
  try simp only [Act.put, List.setIfInBounds_toArray, List.set_cons_zero, List.set_cons_succ]
  refine zt [13] (i := 11) rfl (.int .u8 (y : Int)) (by kernel_rfl) (by kernel_rfl) (by kernel_rfl) (by kernel_rfl) (fun _ _ _ h => h) hS (fun w' d1 => by go_simp) ?_
  try simp only [Act.put, List.setIfInBounds_toArray, List.set_cons_zero, List.set_cons_succ]
  refine z1 (i := 12) (by kernel_rfl) rfl (fun K hK => ?_)
  go_simp
  refine hK.out _ _ (.inr hS) ?_
  clear hK K
  try simp only [Act.put, List.setIfInBounds_toArray, List.set_cons_zero, List.set_cons_succ]
  refine z1 (i := 13) (by kernel_rfl) rfl (fun K hK => ?_)
  go_simp
  refine hK.out _ _ (.inl rfl) ?_
  clear hK K
  refine wpAnyZ_done (by kernel_rfl) ?_ _
  have hW3 : AtB ((wb.setCell ⟨w1.heap.size, q, none⟩ (.int .u8 (y : Int))).drew) ⟨w1.heap.size, 0, none⟩ sz (flipD (byteAt t) B) ∧ Below w1.heap.size w1 ((wb.setCell ⟨w1.heap.size, q, none⟩ (.int .u8 (y : Int))).drew) := by
    refine ⟨fun j hj => ?_, (HWb.out.2.2.setCell (p := ⟨w1.heap.size, q, none⟩) (Nat.le_refl _) _).drew⟩
    rw [← HI.out.2.2.2.2.2.2.2.2.2.2.1 j, Addr.add_mid, Nat.zero_add]
    have hj0 := HWb.out.1 j hj
    rw [Addr.add_mid, Nat.zero_add] at hj0
    by_cases e : j = q
    · subst e
      rw [if_pos rfl]
      exact World.cell?_setCell_same wb _ _ hj0
    · rw [if_neg e]
      exact (World.cell?_setCell_other wb ⟨w1.heap.size, q, none⟩ ⟨w1.heap.size, j, none⟩ _ (fun h => e (by injection h with _ h2; exact h2.symm))).trans hj0
  have HW3 := Lib.hid hW3
  clear hW3 hcq hzq hS HWb k5 e2 e3 e4 e5 e6 e7
  generalize (wb.setCell ⟨w1.heap.size, q, none⟩ (.int .u8 (y : Int))).drew = w3 at HW3 ⊢
  have hs13 := HW3.out.2.size
  have hck3 : w3.cell? ⟨w.heap.size, k, none⟩ = some (.slice A n c) := (HW3.out.2.cell (p := ⟨w.heap.size, k, none⟩) (World.block_lt_of_cell? _ _ HCK.out)).trans HCK.out
  have ckE : (w3.alloc (.cells #[] 9)).cell? ⟨w.heap.size, k, none⟩ = some (.slice A n c) := by rw [World.cell?_alloc_lt _ _ _ (World.block_lt_of_cell? _ _ hck3)]; exact hck3
  have hbw3 : Below w.heap.size w w3 := HW1.out.2.2.1.trans (HW3.out.2.mono (by have := HW1.out.2.2.2; omega))
  obtain ⟨v1, w4, hr1, own1, hg1⟩ := append_G (w3.alloc (.cells #[] 9)) _ _ [] (T k) A n c (emptyS w3) HI.out.2.2.2.2.2.2.2.1 (HI.out.2.2.2.2.2.1.below (hbw3.alloc hbw3.size _))
    (fun e => by have := (HI.out.2.2.2.2.2.2.1 e).1; have h3 := HI.out.2.2.1; rw [this] at h3; exact absurd h3 (by simp)) (by have := HI.out.2.2.2.2.2.2.2.2.2.1; simp; omega) (by simp)
  rw [List.nil_append] at own1
  have hb34 : Below w3.heap.size w3 w4 := ((Below.refl _ _).alloc (Nat.le_refl w3.heap.size) (.cells #[] 9)).trans (grown_bl hg1 (emptyS w3) (by simp))
  obtain ⟨g, cc, rfl⟩ : ∃ g cc, v1 = .slice (some ⟨g, 0, none⟩) n cc := by
    rw [HI.out.2.2.2.2.2.2.2.1]
    rcases own1.2 with ⟨_, h0⟩ | ⟨g, cap, cur, hv, _⟩
    · have := HI.out.2.2.1; omega
    · exact ⟨g, cap, hv⟩
  have hlen := HI.out.2.2.2.2.2.2.2.1
  have own1' := own1
  rw [hlen] at own1'
  obtain ⟨own2, hz4, ⟨u, hc4⟩, hg4, hnc4⟩ := set_own own1' i (flipT t B) HI.out.2.2.1
  have hcv : (convert 32 9 (sl8 w1.heap.size sz d)).run Tryd.prog w4 = .ok (.string (flipT t B)) w4 := by
    have h1 := conv_B w4 ⟨w1.heap.size, 0, none⟩ sz d _ (HW3.out.1.below hb34) (fun j => flipD_lt (byteAt_lt t) B j)
    rw [HI.out.2.2.2.2.2.2.2.2.2.2.2.1] at h1 ⊢
    exact h1
  have ki : (i : Int) < (n : Int) := by have := HI.out.2.2.1; omega
  have hw4 : Below w1.heap.size w1 (w4.setCell ⟨g, i, none⟩ (.string (flipT t B))) := (HW3.out.2.trans (hb34.mono hs13)).setCell (p := ⟨g, i, none⟩) (by show w1.heap.size ≤ g; omega) _
  have hr05 := HW1.out.1.below hw4 HW1.out.1.lt
  have a0 := hr05.cell0
  have a1 := hr05.cell1
  have HW5 := Lib.hid (And.intro own2 (And.intro hw4 (And.intro (HW1.out.2.1.below hw4 HW1.out.2.1.lt) (HW1.out.2.2.1.trans (hw4.mono (by have := HW1.out.2.2.2; omega))))))
  have HQ1 := Lib.hid hr1
  clear hr1 own1 own1' own2 hg1 hb34 hbw3 hck3 hg4 hnc4 hlen hw4 hr05 hs13 HW3 HCK
  go_wp2_with (at_builtin; refine wpList_append_run rfl _ _ 26 rfl (.slice (some ⟨w3.heap.size, 0, none⟩) 0 0) (.slice A n c) (.slice (some ⟨g, 0, none⟩) n cc) w4 rfl rfl HQ1.out ?_)
  clear HQ1 ckE hz4 hc4 hcv ki a0 a1
  generalize w4.setCell ⟨g, i, none⟩ (.string (flipT t B)) = w5 at HW5 ⊢
  have hx5 : Strs w5 (.slice (some ⟨g, 0, none⟩) n cc) ((T k).set i (flipT t B)) := by have := Strs.of_own HW5.out.1; rw [← HI.out.2.2.2.2.2.2.2.1] at this; exact this
  have hput := put_any (w := w5) v T k _ (HI.out.1.below HW5.out.2.2.2) HI.out.2.1 ⟨some ⟨g, 0, none⟩, n, cc, rfl⟩
  have hR5 := (HI.out.1.below HW5.out.2.2.2).put k _ ((T k).set i (flipT t B)) hx5
  obtain ⟨B0, d0, B1, d1, hB0, hB1⟩ := hR5.vals
  obtain ⟨m0, hm0⟩ : ∃ m, m = (upd T k ((T k).set i (flipT t B)) 0).length := ⟨_, rfl⟩
  obtain ⟨m1, hm1⟩ : ∃ m, m = (upd T k ((T k).set i (flipT t B)) 1).length := ⟨_, rfl⟩
  rw [← hm0] at hB0
  rw [← hm1] at hB1
  unfold rvf at hput
  rw [HI.out.2.2.2.1, HI.out.2.2.2.2.1, hB0, hB1] at hput
  refine hput.mono ?_
  rintro e w6 ⟨rfl, hb6⟩
  have hr6 := HW5.out.2.2.1.below hb6 HW5.out.2.2.1.lt
  have r0 := hr6.cell0
  have r1 := hr6.cell1
  have z0 := hr6.frozen 0
  have z1 := hr6.frozen 1
  have HE := Lib.hid (And.intro (put_res 0 HI.out.1 HW5.out.2.2.2 hx5 hb6 hr6 hB0 hB1) ((hr6.set (.slice B0 m0 d0) (.slice B1 m1 d1))))
  clear hput hR5 hB0 hB1 hm0 hm1 hx5 hb6 hr6 HW5 HW1 HI
  go_wp2
  have s0 := HE.out.2.cell0
  have s1 := HE.out.2.cell1
  exact bodyPost_ret (v := .tuple #[rv (.slice B0 m0 d0) (.slice B1 m1 d1), .int .i64 0]) (by simp [results, Tryd.results18, go_sem, s0, s1]) rfl HE.out.1
end Go.Proofs.YtfilhlilagmhlaaDoor
