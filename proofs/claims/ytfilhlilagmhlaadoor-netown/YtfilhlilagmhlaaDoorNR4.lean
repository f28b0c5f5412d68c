/- The document's Deliver of a frame that there is. -/
import Derived.Test.YtfilhlilagmhlaaDoorNR3
namespace Go.Proofs.YtfilhlilagmhlaaDoor
open Go.RowKit

theorem elemS : Tryd.prog.elem 26 = 9 := by kernel_rfl
theorem sizeS (w : World) : (sizeOf (Tryd.prog.elem 26)).run Tryd.prog w = .ok 1 w := by
  obtain ⟨i0, hi, _, hz1, _⟩ := infoS
  rw [elemS]
  simp [sizeOf, typeInfo, hi, hz1]
theorem undS : Tryd.prog.underlying 26 = some (.slice (Tryd.prog.elem 26)) := by rw [elemS]; exact Tryd.underlying26
theorem run_tailS (w : World) (A : Option Addr) (n c i : Nat) (hl : i < n) :
    (Instr.slice 26 (.slice A n c) (some (.int .i64 ((i : Int) + 1))) none none).run Tryd.prog w = .ok (.slice (tl A c (i + 1)) (n - (i + 1)) (c - (i + 1))) w := by
  have hr := run_slice_l w 26 A n c undS .i64 ((i : Int) + 1) (by omega) (by omega)
  rw [sizeS] at hr
  rw [hr]
  have e : ((i : Int) + 1).toNat = i + 1 := by omega
  simp only [Result.andThen, sliced, e, Nat.mul_one]
  rfl
theorem run_headS (w : World) (A : Option Addr) (n c h : Nat) (hc : h ≤ c) :
    (Instr.slice 26 (.slice A n c) none (some (.int .i64 (h : Int))) none).run Tryd.prog w = .ok (.slice A h c) w := by
  have hr := run_slice_h w 26 A n c undS .i64 (h : Int) (by omega) (by omega)
  rw [sizeS] at hr
  rw [hr]
  simp only [Result.andThen, sliced, Int.toNat_natCast, Nat.sub_zero, Nat.zero_mul]
  rcases A with _ | ad
  · simp
  · simp [Addr.add]
theorem SrcS.take {w : World} {A : Option Addr} {l : List ByteArray} (h : SrcS w A l) (i : Nat) : SrcS w A (l.take i) := fun j t ht => by
  rw [List.getElem?_take] at ht
  split at ht
  · exact h j t ht
  · cases ht
theorem SrcS.drop {w : World} {A : Option Addr} {l : List ByteArray} {c : Nat} (h : SrcS w A l) (i : Nat) (hc : l.length ≤ c) : SrcS w (tl A c i) (l.drop i) := fun j t ht => by
  rw [List.getElem?_drop] at ht
  obtain ⟨ad, rfl, hcl⟩ := h _ t ht
  have hlt := (List.getElem?_eq_some_iff.1 ht).1
  refine ⟨ad.add i, ?_, by rw [add_add]; exact hcl⟩
  unfold tl
  rw [if_neg (by omega)]
  rfl
set_option maxHeartbeats 8000000 in
set_option maxRecDepth 100000 in
theorem rdeliver_ok {w : World} (v : Nat → Value) (T : Txt) (k i : Nat) (t : ByteArray) (h : Rf w v T) (hk : k < 2) (ht : (T k)[i]? = some t) (hsh : (T k).length ≤ 64) :
    Calls Tryd.prog 20 #[rvf v, .int .i64 (k : Int), .int .i64 (i : Int)] w (RRes3 w (upd T k ((T k).eraseIdx i)) t 0) := by
  obtain ⟨A0, c0, A1, c1, h0, h1⟩ := h.vals
  obtain ⟨A, c, hA, hAc, _, hnil, hsrc⟩ := (h.strs k hk).slice
  obtain ⟨hbx0, hbx1, hbx2, hbx3⟩ := boxed w (v 0) (v 1)
  have hAt := fun w1 hb => rat_ok (w := w1) v T k i t (h.below hb) hk ht
  have hi : i < (T k).length := (List.getElem?_eq_some_iff.1 ht).1
  obtain ⟨n, hn⟩ : ∃ n, n = (T k).length := ⟨_, rfl⟩
  have hsl := fun w => run_headS w A n c i (by omega)
  have hsl2 := fun w => run_tailS w A n c i (by omega)
  have k4 : (k : Int) < 2 := by omega
  have e1 : IntKind.i64.wrap ((i : Int) + 1) = (i : Int) + 1 := i64_nat _ (by omega) (by omega)
  have HI := Lib.hid (And.intro h (And.intro hk (And.intro hi (And.intro h0 (And.intro h1 (And.intro (show SrcS w A (T k) from hsrc) (And.intro hnil (And.intro hn (And.intro hAc hsh)))))))))
  have HA := Lib.hid (And.intro hbx0 hA)
  unfold rvf at hAt ⊢
  simp only [h0, h1] at hbx0 hbx1 hbx2 hbx3 hAt ⊢
  generalize (T 0).length = n0 at *
  generalize (T 1).length = n1 at *
  have HB := Lib.hid (And.intro hbx1 (And.intro hbx2 (And.intro hbx3 (And.intro hAt hbx0))))
  clear h hk hi h0 h1 hA hAc hnil hsrc hbx0 hbx1 hbx2 hbx3 hn ht hAt hsh
  go_enter Tryd.func20, Tryd.ntmps20
  go_wp2_with fail
  refine (HB.out.2.2.2.1 _ HB.out.2.1).mono ?_
  rintro e w1 ⟨rfl, hb1⟩
  have ck : w1.cell? ⟨w.heap.size, k, none⟩ = some (.slice A n c) := by
    have h1 := HA.out.1.cellk k HI.out.2.1
    rw [HA.out.2, ← HI.out.2.2.2.2.2.2.2.1, HI.out.2.2.2.1, HI.out.2.2.2.2.1] at h1
    exact (hb1.cell (World.block_lt_of_cell? _ _ h1)).trans h1
  have hr0 := HB.out.2.2.2.2.below hb1 HB.out.2.2.2.2.lt
  have HW1 := Lib.hid (And.intro hr0 (And.intro (HB.out.1.below hb1 HB.out.1.lt) (And.intro (HB.out.2.1.trans (hb1.mono HB.out.2.1.size)) (show w.heap.size + 2 ≤ w1.heap.size by have := hb1.size; have := HB.out.2.2.1; omega))))
  have HCK := Lib.hid ck
  have ckE : (w1.alloc (.cells #[] 9)).cell? ⟨w.heap.size, k, none⟩ = some (.slice A n c) := by rw [World.cell?_alloc_lt _ _ _ (World.block_lt_of_cell? _ _ ck)]; exact ck
  clear hb1 hr0 HA ck
  have hS1 := (HI.out.2.2.2.2.2.1.below (HW1.out.2.2.1.trans ((Below.refl _ _).alloc (by have := HW1.out.2.2.2; omega) (.cells #[] 9)))).take i
  obtain ⟨v1, w2, hr1, own1, hg1⟩ := append_G (w1.alloc (.cells #[] 9)) _ _ [] ((T k).take i) A i c (emptyS w1) (by rw [List.length_take]; have := HI.out.2.2.1; omega) hS1
    (fun e => by have := (HI.out.2.2.2.2.2.2.1 e).1; have h3 := HI.out.2.2.1; rw [this] at h3; exact absurd h3 (by simp)) (by rw [List.length_take]; have := HI.out.2.2.2.2.2.2.2.2.2; simp; omega) (by simp)
  rw [List.nil_append] at own1
  have hb12 : Below w1.heap.size w1 w2 := ((Below.refl _ _).alloc (Nat.le_refl w1.heap.size) (.cells #[] 9)).trans (grown_bl hg1 (emptyS w1) (by simp))
  have HQ1 := Lib.hid hr1
  have HW2 := Lib.hid (And.intro own1 hb12)
  clear hr1 own1 hg1 hb12 hS1
  go_wp2_with (at_builtin; refine wpList_append_run rfl _ _ 26 rfl (.slice (some ⟨w1.heap.size, 0, none⟩) 0 0) (.slice A i c) v1 w2 rfl rfl HQ1.out ?_)
  clear HQ1 ckE hsl
  have ck2 : w2.cell? ⟨w.heap.size, k, none⟩ = some (.slice A n c) := (HW2.out.2.cell (p := ⟨w.heap.size, k, none⟩) (World.block_lt_of_cell? _ _ HCK.out)).trans HCK.out
  have hr02 := HW1.out.1.below HW2.out.2 HW1.out.1.lt
  have hr12 := HW1.out.2.1.below HW2.out.2 HW1.out.2.1.lt
  have HC := Lib.hid (show ∀ w' : World, Below (w.heap.size + 1) w2 w' → w'.cell? ⟨w.heap.size, 0, none⟩ = some (.slice A0 n0 c0) ∧ w'.cell? ⟨w.heap.size, 1, none⟩ = some (.slice A1 n1 c1) ∧ w'.cell? ⟨w.heap.size, k, none⟩ = some (.slice A n c) from fun w' hb =>
    ⟨(hb.cell (p := ⟨w.heap.size, 0, none⟩) (Nat.lt_succ_self _)).trans hr02.cell0, (hb.cell (p := ⟨w.heap.size, 1, none⟩) (Nat.lt_succ_self _)).trans hr02.cell1, (hb.cell (p := ⟨w.heap.size, k, none⟩) (Nat.lt_succ_self _)).trans ck2⟩)
  have HB2 := Lib.hid (And.intro hr12 (And.intro (HW1.out.2.2.1.trans (HW2.out.2.mono (by have := HW1.out.2.2.2; omega))) (show w.heap.size + 2 ≤ w1.heap.size ∧ w1.heap.size ≤ w2.heap.size from ⟨HW1.out.2.2.2, HW2.out.2.size⟩)))
  have HO1 := Lib.hid HW2.out.1
  clear ck2 hr02 hr12 HW1 HW2 HCK HB
  refine wp_region_held_drew (S := fun w' => Below (w.heap.size + 1) w2 w') (by kernel_rfl) ((Below.refl _ _).drew) (fun hHeld => ?_)
  have HD := Lib.hid (show Below w2.heap.size w2 w2.drew ∧ w2.drew.heap.size = w2.heap.size ∧ w2.drew.heap = w2.heap from ⟨(Below.refl _ _).drew, rfl, rfl⟩)
  generalize w2.drew = wd at hHeld HD ⊢
  refine ht (i := 0) rfl (.agg #[.slice A0 n0 c0, .slice A1 n1 c1]) (by kernel_rfl) (by kernel_rfl) (by kernel_rfl) (fun _ _ _ h => h) hHeld (fun w' hw' => by obtain ⟨d0, d1, dk⟩ := HC.out w' hw'; go_simp) ?_
  try simp only [Act.put, List.setIfInBounds_toArray, List.set_cons_zero, List.set_cons_succ]
  refine ht (i := 1) rfl (.int .i64 (k : Int)) (by kernel_rfl) (by kernel_rfl) (by kernel_rfl) (fun _ _ _ h => h) hHeld (fun w' hw' => by go_simp) ?_
  try simp only [Act.put, List.setIfInBounds_toArray, List.set_cons_zero, List.set_cons_succ]
  refine ht (i := 2) rfl (v1) (by kernel_rfl) (by kernel_rfl) (by kernel_rfl) (fun _ _ _ h => h) hHeld (fun w' hw' => by go_simp) ?_
  try simp only [Act.put, List.setIfInBounds_toArray, List.set_cons_zero, List.set_cons_succ]
  refine ht (i := 3) rfl (.int .i64 (k : Int)) (by kernel_rfl) (by kernel_rfl) (by kernel_rfl) (fun _ _ _ h => h) hHeld (fun w' hw' => by go_simp) ?_
  try simp only [Act.put, List.setIfInBounds_toArray, List.set_cons_zero, List.set_cons_succ]
  refine ht (i := 4) rfl (.pointer (some ⟨w.heap.size, 0, none⟩)) (by kernel_rfl) (by kernel_rfl) (by kernel_rfl) (fun _ _ _ h => h) hHeld (fun w' hw' => by go_simp) ?_
  try simp only [Act.put, List.setIfInBounds_toArray, List.set_cons_zero, List.set_cons_succ]
  refine ht (i := 5) rfl (.pointer (some ⟨w.heap.size, k, none⟩)) (by kernel_rfl) (by kernel_rfl) (by kernel_rfl) (fun _ _ _ h => h) hHeld (fun w' hw' => by go_simp) ?_
  try simp only [Act.put, List.setIfInBounds_toArray, List.set_cons_zero, List.set_cons_succ]
  refine ht (i := 6) rfl (.slice A n c) (by kernel_rfl) (by kernel_rfl) (by kernel_rfl) (fun _ _ _ h => h) hHeld (fun w' hw' => by obtain ⟨d0, d1, dk⟩ := HC.out w' hw'; go_simp) ?_
  try simp only [Act.put, List.setIfInBounds_toArray, List.set_cons_zero, List.set_cons_succ]
  refine ht (i := 7) rfl (.int .i64 (i : Int)) (by kernel_rfl) (by kernel_rfl) (by kernel_rfl) (fun _ _ _ h => h) hHeld (fun w' hw' => by go_simp) ?_
  try simp only [Act.put, List.setIfInBounds_toArray, List.set_cons_zero, List.set_cons_succ]
  refine ht (i := 8) rfl (.int .i64 ((i : Int) + 1)) (by kernel_rfl) (by kernel_rfl) (by kernel_rfl) (fun _ _ _ h => h) hHeld (fun w' hw' => by go_simp) ?_
  try simp only [Act.put, List.setIfInBounds_toArray, List.set_cons_zero, List.set_cons_succ]
  refine ht (i := 9) rfl (.slice (tl A c (i + 1)) (n - (i + 1)) (c - (i + 1))) (by kernel_rfl) (by kernel_rfl) (by kernel_rfl) (fun _ _ _ h => h) hHeld (fun w' hw' => by go_simp) ?_
  try simp only [Act.put, List.setIfInBounds_toArray, List.set_cons_zero, List.set_cons_succ]
  refine ht (i := 12) rfl (.string t) (by kernel_rfl) (by kernel_rfl) (by kernel_rfl) (fun _ _ _ h => h) hHeld (fun w' hw' => by go_simp) ?_
  try simp only [Act.put, List.setIfInBounds_toArray, List.set_cons_zero, List.set_cons_succ]
  refine ht (i := 13) rfl (.int .i64 0) (by kernel_rfl) (by kernel_rfl) (by kernel_rfl) (fun _ _ _ h => h) hHeld (fun w' hw' => by go_simp) ?_
  try simp only [Act.put, List.setIfInBounds_toArray, List.set_cons_zero, List.set_cons_succ]
  clear hHeld
  have hOd : wd.ownsRow w1.heap.size 9 1 v1 ((T k).take i).length (((T k).take i).map Value.string) := own_bl HO1.out (HD.out.1)
  have hSd := (HI.out.2.2.2.2.2.1.below (HB2.out.2.1.trans (HD.out.1.mono (by have := HB2.out.2.2; omega)))).drop (i + 1) HI.out.2.2.2.2.2.2.2.2.1
  obtain ⟨v2, w4, hr2, own2, hg2⟩ := append_G wd _ v1 ((T k).take i) ((T k).drop (i + 1)) (tl A c (i + 1)) (n - (i + 1)) (c - (i + 1)) hOd (by rw [List.length_drop, HI.out.2.2.2.2.2.2.2.1]) hSd
    (fun e => by
      have h3 := HI.out.2.2.1
      have h4 := HI.out.2.2.2.2.2.2.2.1
      have h5 := HI.out.2.2.2.2.2.2.2.2.1
      rcases A with _ | ad
      · have := (HI.out.2.2.2.2.2.2.1 rfl).1; rw [this] at h3; exact absurd h3 (by simp)
      · unfold tl at e
        split at e
        · cases e
        · cases e) (by rw [List.length_take, List.length_drop]; have := HI.out.2.2.2.2.2.2.2.2.2; omega) (by have := HD.out.2.1; have := HB2.out.2.2; omega)
  rw [eraseIdx_cut] at own2
  have HB4 := Lib.hid (show Below w1.heap.size w2 w4 from (HD.out.1.mono HB2.out.2.2.2).trans (grown_bl hg2 hOd (by have := HD.out.2.1; have := HB2.out.2.2; omega)))
  have HQ2 := Lib.hid hr2
  have HO2 := Lib.hid own2
  clear hr2 own2 hg2 hOd hSd HO1
  refine h1 (i := 10) (by kernel_rfl) rfl (fun K hK => ?_)
  refine wp_append_run _ _ 26 rfl v1 (.slice (tl A c (i + 1)) (n - (i + 1)) (c - (i + 1))) v2 w4 rfl rfl HQ2.out ?_
  refine hK.out _ _ (HB4.out.mono (by have := HB2.out.2.2; omega)) ?_
  clear hK K HQ2
  try simp only [Act.put, List.setIfInBounds_toArray, List.set_cons_zero, List.set_cons_succ]
  have hb4 : Below w.heap.size w w4 := HB2.out.2.1.trans (HB4.out.mono (by have := HB2.out.2.2; omega))
  have hx4 : Strs w4 v2 ((T k).eraseIdx i) := Strs.of_own HO2.out
  have hput := put_any (w := w4) v T k v2 (HI.out.1.below hb4) HI.out.2.1 (let ⟨A, c, hv, _⟩ := hx4.slice; ⟨A, _, c, hv⟩)
  have hR4 := (HI.out.1.below hb4).put k v2 ((T k).eraseIdx i) hx4
  obtain ⟨B0, d0, B1, d1, hB0, hB1⟩ := hR4.vals
  obtain ⟨m0, hm0⟩ : ∃ m, m = (upd T k ((T k).eraseIdx i) 0).length := ⟨_, rfl⟩
  obtain ⟨m1, hm1⟩ : ∃ m, m = (upd T k ((T k).eraseIdx i) 1).length := ⟨_, rfl⟩
  rw [← hm0] at hB0
  rw [← hm1] at hB1
  unfold rvf at hput
  rw [HI.out.2.2.2.1, HI.out.2.2.2.2.1, hB0, hB1] at hput
  have HPut := Lib.hid hput
  have HX := Lib.hid (And.intro hb4 (And.intro hx4 (And.intro hB0 hB1)))
  clear hput hR4 hB0 hB1 hm0 hm1 hb4 hx4
  refine h1 (i := 11) (by kernel_rfl) rfl (fun K hK => ?_)
  go_simp
  refine HPut.out.mono ?_
  rintro e w5 ⟨rfl, hb5⟩
  have hr5 : RN w5 (w.heap.size + 1) nilS nilS := HB2.out.1.heap ((hb5.block _ (by have := HB4.out.size; have := HB2.out.2.2; omega)).trans (HB4.out.block _ (by have := HB2.out.2.2; omega)))
  have r0 := hr5.cell0
  have r1 := hr5.cell1
  have z0 := hr5.frozen 0
  have z1 := hr5.frozen 1
  have HE := Lib.hid (And.intro (put_res 0 HI.out.1 HX.out.1 HX.out.2.1 hb5 hr5 HX.out.2.2.1 HX.out.2.2.2) ((hr5.set (.slice B0 m0 d0) (.slice B1 m1 d1))))
  have hS5 : Below (w.heap.size + 1) w2 w5 := (HB4.out.mono (by have := HB2.out.2.2; omega)).trans (hb5.mono (by have := HB4.out.size; have := HB2.out.2.2; omega))
  refine hK.out _ _ hS5 ?_
  clear hK K hb5 hr5 HO2 HB4 HI HC HX HPut hsl2 e1
  try simp only [Act.put, List.setIfInBounds_toArray, List.set_cons_zero, List.set_cons_succ]
  refine h1 (i := 14) (by kernel_rfl) rfl (fun K hK => ?_)
  go_simp
  have hS6 := (hS5.setCell (p := ⟨w.heap.size + 1, 0, none⟩) (Nat.le_refl _) (.slice B0 m0 d0)).setCell (p := ⟨w.heap.size + 1, 1, none⟩) (Nat.le_refl _) (.slice B1 m1 d1)
  refine hK.out _ _ hS6 ?_
  clear hK K hS5
  try simp only [Act.put, List.setIfInBounds_toArray, List.set_cons_zero, List.set_cons_succ]
  refine h1 (i := 15) (by kernel_rfl) rfl (fun K hK => ?_)
  go_simp
  refine hK.out _ _ hS6 ?_
  clear hK K
  try simp only [Act.put, List.setIfInBounds_toArray, List.set_cons_zero, List.set_cons_succ]
  refine h1 (i := 16) (by kernel_rfl) rfl (fun K hK => ?_)
  go_simp
  refine hK.out _ _ hS6 ?_
  clear hK K hS6
  refine wpAnyH_done (by kernel_rfl) ?_ _
  try simp only [Act.put, List.setIfInBounds_toArray, List.set_cons_zero, List.set_cons_succ]
  go_wp2
  have s0 := HE.out.2.cell0
  have s1 := HE.out.2.cell1
  refine bodyPost_ret (v := .tuple #[rv (.slice B0 m0 d0) (.slice B1 m1 d1), .string t, .int .i64 0]) (by simp [results, Tryd.results20, go_sem, s0, s1]) rfl ?_
  obtain ⟨v', e', hR, hB⟩ := HE.out.1
  refine ⟨v', ?_, hR, hB⟩
  injection e' with e'
  injection e' with e'
  have e2 := congrArg (fun a => a[0]?) e'
  have e3 : rv (.slice B0 m0 d0) (.slice B1 m1 d1) = rvf v' := by simpa using e2
  rw [e3]
end Go.Proofs.YtfilhlilagmhlaaDoor
