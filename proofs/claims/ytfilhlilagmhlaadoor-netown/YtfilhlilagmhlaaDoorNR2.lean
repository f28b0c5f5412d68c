/- The document's Send. -/
import Derived.Test.YtfilhlilagmhlaaDoorNR1
import Derived.Test.YtfilhlilagmhlaaDoorBQ2
namespace Go.Proofs.YtfilhlilagmhlaaDoor
open Go.RowKit

/-- What the document's calls answer: a net, a number. -/
def RRes (w : World) (T : Txt) (c : Int) (e : Ending) (w' : World) : Prop := ∃ v, e = .returned (.tuple #[rvf v, .int .i64 c]) ∧ Rf w' v T ∧ Below w.heap.size w w'
theorem Rf.vals {w : World} {v : Nat → Value} {T : Txt} (h : Rf w v T) : ∃ A0 c0 A1 c1, v 0 = .slice A0 (T 0).length c0 ∧ v 1 = .slice A1 (T 1).length c1 := by
  obtain ⟨A0, c0, h0, _⟩ := (h.strs 0 (by omega)).slice
  obtain ⟨A1, c1, h1, _⟩ := (h.strs 1 (by omega)).slice
  exact ⟨A0, c0, A1, c1, h0, h1⟩
/-- The net that came in, boxed, and the answer's room behind it. -/
theorem boxed (w : World) (a b : Value) : RN ((w.alloc (.cells #[a, b] 29)).alloc (.cells #[nilS, nilS] 29)) w.heap.size a b ∧ RN ((w.alloc (.cells #[a, b] 29)).alloc (.cells #[nilS, nilS] 29)) (w.heap.size + 1) nilS nilS ∧
    Below w.heap.size w ((w.alloc (.cells #[a, b] 29)).alloc (.cells #[nilS, nilS] 29)) ∧ ((w.alloc (.cells #[a, b] 29)).alloc (.cells #[nilS, nilS] 29)).heap.size = w.heap.size + 2 := by
  refine ⟨(RN.new w a b).alloc _, ?_, ((Below.refl _ _).alloc (Nat.le_refl _) _).alloc (by simp) _, by simp⟩
  have := RN.new (w.alloc (.cells #[a, b] 29)) nilS nilS
  simp only [World.size_alloc] at this
  exact this
theorem RN.cellk {w : World} {g : Nat} {v : Nat → Value} (h : RN w g (v 0) (v 1)) (k : Nat) (hk : k < 2) : w.cell? ⟨g, k, none⟩ = some (v k) := by
  rcases (show k = 0 ∨ k = 1 by omega) with rfl | rfl
  · exact h.cell0
  · exact h.cell1
/-- The answer laid: the same net. -/
theorem same_res {w : World} {v : Nat → Value} {T : Txt} (c : Int) (h : Rf w v T) {w' : World} (hb : Below w.heap.size w w') : RRes w T c (.returned (.tuple #[rvf v, .int .i64 c])) w' := ⟨v, rfl, h.below hb, hb⟩
set_option maxHeartbeats 1000000 in
set_option maxRecDepth 100000 in
theorem rsend_way {w : World} (v : Nat → Value) (T : Txt) (z : Int) (t : ByteArray) (h : Rf w v T) (hz : z < 0 ∨ 2 ≤ z) :
    Calls Tryd.prog 19 #[rvf v, .int .i64 z, .string t] w (RRes w T 1) := by
  obtain ⟨A0, c0, A1, c1, h0, h1⟩ := h.vals
  have HR := Lib.hid (fun w' hb => same_res (w' := w') 1 h hb)
  unfold rvf at HR ⊢
  rw [h0, h1] at HR ⊢
  have hbx := boxed w (.slice A0 (T 0).length c0) (.slice A1 (T 1).length c1)
  generalize (T 0).length = n0 at *
  generalize (T 1).length = n1 at *
  have hr : RN ((w.alloc (.cells #[.slice A0 n0 c0, .slice A1 n1 c1] 29)).alloc (.cells #[.slice A0 n0 c0, .slice A1 n1 c1] 29)) (w.heap.size + 1) (.slice A0 n0 c0) (.slice A1 n1 c1) := by
    have := RN.new (w.alloc (.cells #[.slice A0 n0 c0, .slice A1 n1 c1] 29)) (.slice A0 n0 c0) (.slice A1 n1 c1)
    simp only [World.size_alloc] at this
    exact this
  have s0 := hr.cell0
  have s1 := hr.cell1
  clear h h0 h1 hbx hr
  by_cases hz0 : z < 0
  · clear hz
    go_enter Tryd.func19, Tryd.ntmps19
    go_wp2
    exact bodyPost_ret (v := .tuple #[rv (.slice A0 n0 c0) (.slice A1 n1 c1), .int .i64 1]) (by simp [results, Tryd.results19, go_sem, s0, s1]) rfl (HR.out _ (((Below.refl _ _).alloc (Nat.le_refl _) _).alloc (by simp) _))
  · have k1 : decide (z < 0) = false := decide_eq_false hz0
    have k2 : (1 : Int) < z := by omega
    clear hz hz0
    go_enter Tryd.func19, Tryd.ntmps19
    go_wp2
    exact bodyPost_ret (v := .tuple #[rv (.slice A0 n0 c0) (.slice A1 n1 c1), .int .i64 1]) (by simp [results, Tryd.results19, go_sem, s0, s1]) rfl (HR.out _ (((Below.refl _ _).alloc (Nat.le_refl _) _).alloc (by simp) _))
set_option maxHeartbeats 1000000 in
set_option maxRecDepth 100000 in
theorem rsend_full {w : World} (v : Nat → Value) (T : Txt) (k : Nat) (t : ByteArray) (h : Rf w v T) (hk : k < 2) (hl : (T k).length = 64) :
    Calls Tryd.prog 19 #[rvf v, .int .i64 (k : Int), .string t] w (RRes w T 5) := by
  obtain ⟨A0, c0, A1, c1, h0, h1⟩ := h.vals
  have HR := Lib.hid (fun w' hb => same_res (w' := w') 5 h hb)
  unfold rvf at HR ⊢
  rw [h0, h1] at HR ⊢
  have k1 : decide ((k : Int) < 0) = false := decide_eq_false (by omega)
  have k2 : decide ((1 : Int) < (k : Int)) = false := decide_eq_false (by omega)
  have k3 : decide (1 < k) = false := decide_eq_false (by omega)
  have k5 : (64 : Int) ≤ ((T k).length : Int) := by omega
  have hr : RN ((w.alloc (.cells #[.slice A0 (T 0).length c0, .slice A1 (T 1).length c1] 29)).alloc (.cells #[.slice A0 (T 0).length c0, .slice A1 (T 1).length c1] 29)) (w.heap.size + 1) (.slice A0 (T 0).length c0) (.slice A1 (T 1).length c1) := by
    have := RN.new (w.alloc (.cells #[.slice A0 (T 0).length c0, .slice A1 (T 1).length c1] 29)) (.slice A0 (T 0).length c0) (.slice A1 (T 1).length c1)
    simp only [World.size_alloc] at this
    exact this
  have s0 := hr.cell0
  have s1 := hr.cell1
  clear h h0 h1 hr hl
  rcases (show k = 0 ∨ k = 1 by omega) with rfl | rfl
  all_goals
    clear hk
    generalize (T 0).length = n0 at *
    generalize (T 1).length = n1 at *
    go_enter Tryd.func19, Tryd.ntmps19
    go_wp2
    exact bodyPost_ret (v := .tuple #[rv (.slice A0 n0 c0) (.slice A1 n1 c1), .int .i64 5]) (by simp [results, Tryd.results19, go_sem, s0, s1]) rfl (HR.out _ (((Below.refl _ _).alloc (Nat.le_refl _) _).alloc (by simp) _))
theorem one_src (w : World) (t : ByteArray) : SrcS (w.alloc (.cells #[.string t] 9)) (some ⟨w.heap.size, 0, none⟩) [t] := fun i u hu => by
  rcases i with _ | i
  · have : t = u := by simpa using hu
    subst this
    exact ⟨_, rfl, by simp [Addr.add]⟩
  · simp at hu
theorem own_bl {w w' : World} {base : Nat} {v : Value} {l : List ByteArray} (h : w.ownsRow base 9 1 v l.length (l.map Value.string)) (hb : Below w.heap.size w w') : w'.ownsRow base 9 1 v l.length (l.map Value.string) := by
  refine ⟨h.1, ?_⟩
  rcases h.2 with h0 | ⟨g, cap, cur, rfl, h1, h2, rest⟩
  · exact .inl h0
  · exact .inr ⟨g, cap, cur, rfl, h1, (hb.block g (Array.getElem?_eq_some_iff.1 h2).1).trans h2, rest⟩
/-- append onto a list of texts of the call's own; which block may change. -/
theorem append_G (w : World) (base : Nat) (v : Value) (xs ys : List ByteArray) (A : Option Addr) (m c : Nat) (hown : w.ownsRow base 9 1 v xs.length (xs.map Value.string)) (hm : m = ys.length) (hS : SrcS w A ys) (h0 : A = none → m = 0 ∧ c = 0) (hn : xs.length + ys.length ≤ 1000) (hbase : base ≤ w.heap.size) :
    ∃ v' w', (Builtin.append_ #[26, 26] 26 #[v, .slice A m c]).run Tryd.prog w = .ok v' w' ∧ w'.ownsRow base 9 1 v' (xs ++ ys).length ((xs ++ ys).map Value.string) ∧ w.grownBy w' v.ownBlock := by
  obtain ⟨i0, hi, hz0, hz1, hz2⟩ := infoS
  subst hm
  rcases A with _ | ad
  · obtain ⟨hl, rfl⟩ := h0 rfl
    have hys := List.length_eq_zero_iff.1 hl
    subst hys
    exact ⟨v, w, run_append_owned_none w base 26 26 9 i0 1 Tryd.underlying26 hi _ _ _ hown, by rw [List.append_nil]; exact hown, ⟨rfl, rfl, rfl, Nat.le_refl _, fun _ _ _ => rfl⟩⟩
  · obtain ⟨v', w', hr, h2, h3, _⟩ := run_append_own_at w base 26 26 9 i0 (.string ⟨#[]⟩) 1 16 Tryd.underlying26 hi hz0 hz1 hz2 rfl (by omega) v xs.length _ hown ad ys.length c (ys.map Value.string) (by simp)
      (fun j u hu => by
        rw [List.getElem?_map] at hu
        cases ht : ys[j]? with
        | none => rw [ht] at hu; cases hu
        | some t =>
          rw [ht] at hu
          obtain ⟨ad', e, hc⟩ := hS j t ht
          cases e
          have : Value.string t = u := by simpa using hu
          rw [← this]; exact hc)
      (fun u hu => by obtain ⟨t, _, rfl⟩ := List.mem_map.1 hu; rfl) (by unfold maxLen; omega) (by omega) hbase
    exact ⟨v', w', hr, by rw [List.map_append, List.length_append]; exact h2, h3⟩
theorem grown_bl {w w' : World} {base : Nat} {v : Value} {n : Nat} {xs : List Value} (h : w.grownBy w' v.ownBlock) (ho : w.ownsRow base 9 1 v n xs) (hb : base ≤ w.heap.size) : Below base w w' := by
  refine (Below.refl base w).grown h hb fun k hk => ?_
  rcases ho.2 with ⟨rfl, _⟩ | ⟨g', cap, cur, rfl, hb, _⟩
  · simp [Value.ownBlock] at hk
  · simp [Value.ownBlock] at hk; omega
theorem SrcS.grown {w w' : World} {g : Nat} {l : List ByteArray} {row : Option Nat} (h : SrcS w (some ⟨g, 0, none⟩) l) (hg : w.grownBy w' row) (hr : some g ≠ row) : SrcS w' (some ⟨g, 0, none⟩) l := fun i t ht => by
  obtain ⟨ad, e, hc⟩ := h i t ht
  cases e
  refine ⟨_, rfl, ?_⟩
  rw [Addr.add_mid] at hc ⊢
  rw [World.cell?_of_block (w := w) (hg.block g (World.block_lt_of_cell? _ _ hc) hr)]
  exact hc
theorem Strs.set29 {w : World} {v a b : Value} {l : List ByteArray} {g i : Nat} (h : Strs w v l) (hr : RN w g a b) (x : Value) : Strs (w.setCell ⟨g, i, none⟩ x) v l :=
  h.heap fun b' _ hc => Below.heap_setCell w _ x b' (heap_ne hc hr (by decide))
theorem Rf.set29 {w : World} {v : Nat → Value} {T : Txt} {a b : Value} {g i : Nat} (h : Rf w v T) (hr : RN w g a b) (x : Value) : Rf (w.setCell ⟨g, i, none⟩ x) v T := ⟨fun k hk => (h.strs k hk).set29 hr x⟩
/-- The answer of a call that puts a list: laid in the room behind the boxed net. -/
theorem put_res {w w4 w5 : World} {v : Nat → Value} {T : Txt} {k : Nat} {x B0 B1 a b : Value} {l : List ByteArray} (c : Int) (h : Rf w v T) (hb : Below w.heap.size w w4) (hx : Strs w4 x l) (h5 : Below w4.heap.size w4 w5) (hr : RN w5 (w.heap.size + 1) a b) (e0 : vput v k x 0 = B0) (e1 : vput v k x 1 = B1) :
    RRes w (upd T k l) c (.returned (.tuple #[rv B0 B1, .int .i64 c])) ((w5.setCell ⟨w.heap.size + 1, 0, none⟩ B0).setCell ⟨w.heap.size + 1, 1, none⟩ B1) := by
  have h45 := hb.trans (h5.mono hb.size)
  have hR := ((h.below h45).put k x l (hx.below h5)).set29 (i := 0) hr B0
  refine ⟨vput v k x, by rw [← e0, ← e1], hR.set29 (i := 1) (hr.set0 B0) B1, ?_⟩
  exact (h45.setCell (p := ⟨w.heap.size + 1, 0, none⟩) (Nat.le_succ _) _).setCell (p := ⟨w.heap.size + 1, 1, none⟩) (Nat.le_succ _) _
set_option maxHeartbeats 8000000 in
set_option maxRecDepth 100000 in
theorem rsend_ok {w : World} (v : Nat → Value) (T : Txt) (k : Nat) (t : ByteArray) (h : Rf w v T) (hk : k < 2) (hl : (T k).length < 64) :
    Calls Tryd.prog 19 #[rvf v, .int .i64 (k : Int), .string t] w (RRes w (upd T k (T k ++ [t])) 0) := by
  obtain ⟨A0, c0, A1, c1, h0, h1⟩ := h.vals
  obtain ⟨A, c, hA, hAc, _, hnil, hsrc⟩ := (h.strs k hk).slice
  obtain ⟨hbx0, hbx1, hbx2, hbx3⟩ := boxed w (v 0) (v 1)
  have ck := hbx0.cellk k hk
  have c00 := hbx0.cell0
  have c01 := hbx0.cell1
  obtain ⟨n, hn⟩ : ∃ n, n = (T k).length := ⟨_, rfl⟩
  have k1 : decide ((k : Int) < 0) = false := decide_eq_false (by omega)
  have k2 : decide ((1 : Int) < (k : Int)) = false := decide_eq_false (by omega)
  have k3 : decide (1 < k) = false := decide_eq_false (by omega)
  have k4 : (k : Int) < 2 := by omega
  have k5 : decide ((64 : Int) ≤ (n : Int)) = false := decide_eq_false (by omega)
  have k6 : decide (64 ≤ n) = false := decide_eq_false (by omega)
  have HI := Lib.hid (And.intro h (And.intro hk (And.intro hl (And.intro h0 (And.intro h1 (And.intro (show SrcS w A (T k) from hsrc) (And.intro hnil hn)))))))
  unfold rvf
  rw [hA, ← hn] at ck
  simp only [h0, h1] at ck c00 c01 hbx1 hbx2 hbx3 ⊢
  generalize (T 0).length = n0 at *
  generalize (T 1).length = n1 at *
  have HB := Lib.hid (And.intro hbx1 (And.intro hbx2 hbx3))
  clear h hk hl h0 h1 hA hAc hnil hsrc hbx0 hbx1 hbx2 hbx3 hn
  go_enter Tryd.func19, Tryd.ntmps19
  go_wp2
  clear k1 k2 k3 k5 k6
  generalize (w.alloc (.cells #[.slice A0 n0 c0, .slice A1 n1 c1] 29)).alloc (.cells #[nilS, nilS] 29) = w0 at *
  have hcl : ∀ w' : World, Below (w.heap.size + 1) w0 w' → w'.cell? ⟨w.heap.size, 0, none⟩ = some (.slice A0 n0 c0) ∧ w'.cell? ⟨w.heap.size, 1, none⟩ = some (.slice A1 n1 c1) ∧ w'.cell? ⟨w.heap.size, k, none⟩ = some (.slice A n c) := fun w' hb =>
    ⟨(hb.cell (p := ⟨w.heap.size, 0, none⟩) (Nat.lt_succ_self _)).trans c00, (hb.cell (p := ⟨w.heap.size, 1, none⟩) (Nat.lt_succ_self _)).trans c01, (hb.cell (p := ⟨w.heap.size, k, none⟩) (Nat.lt_succ_self _)).trans ck⟩
  have HCL := Lib.hid hcl
  clear hcl c00 c01 ck
  refine wp_region_held_drew (S := fun w' => Below (w.heap.size + 1) w0 w') (by kernel_rfl) ((Below.refl _ _).drew) (fun hHeld => ?_)
  have HD0 := Lib.hid (show Below w0.heap.size w0 w0.drew ∧ w0.drew.heap.size = w0.heap.size from ⟨(Below.refl _ _).drew, rfl⟩)
  generalize w0.drew = wd at hHeld HD0 ⊢
  refine ht (i := 0) rfl (.agg #[.slice A0 n0 c0, .slice A1 n1 c1]) (by kernel_rfl) (by kernel_rfl) (by kernel_rfl) (fun _ _ _ h => h) hHeld (fun w' hw' => by obtain ⟨d0, d1, dk⟩ := HCL.out w' hw'; go_simp) ?_
  try simp only [Act.put, List.setIfInBounds_toArray, List.set_cons_zero, List.set_cons_succ]
  refine ht (i := 1) rfl (.int .i64 (k : Int)) (by kernel_rfl) (by kernel_rfl) (by kernel_rfl) (fun _ _ _ h => h) hHeld (fun w' hw' => by go_simp) ?_
  try simp only [Act.put, List.setIfInBounds_toArray, List.set_cons_zero, List.set_cons_succ]
  refine ht (i := 3) rfl (.int .i64 (k : Int)) (by kernel_rfl) (by kernel_rfl) (by kernel_rfl) (fun _ _ _ h => h) hHeld (fun w' hw' => by go_simp) ?_
  try simp only [Act.put, List.setIfInBounds_toArray, List.set_cons_zero, List.set_cons_succ]
  refine ht (i := 4) rfl (.pointer (some ⟨w.heap.size, 0, none⟩)) (by kernel_rfl) (by kernel_rfl) (by kernel_rfl) (fun _ _ _ h => h) hHeld (fun w' hw' => by go_simp) ?_
  try simp only [Act.put, List.setIfInBounds_toArray, List.set_cons_zero, List.set_cons_succ]
  refine ht (i := 5) rfl (.pointer (some ⟨w.heap.size, k, none⟩)) (by kernel_rfl) (by kernel_rfl) (by kernel_rfl) (fun _ _ _ h => h) hHeld (fun w' hw' => by go_simp) ?_
  try simp only [Act.put, List.setIfInBounds_toArray, List.set_cons_zero, List.set_cons_succ]
  refine ht (i := 6) rfl (.slice A n c) (by kernel_rfl) (by kernel_rfl) (by kernel_rfl) (fun _ _ _ h => h) hHeld (fun w' hw' => by obtain ⟨d0, d1, dk⟩ := HCL.out w' hw'; go_simp) ?_
  try simp only [Act.put, List.setIfInBounds_toArray, List.set_cons_zero, List.set_cons_succ]
  refine ht (i := 8) rfl (.string t) (by kernel_rfl) (by kernel_rfl) (by kernel_rfl) (fun _ _ _ h => h) hHeld (fun w' hw' => by go_simp) ?_
  try simp only [Act.put, List.setIfInBounds_toArray, List.set_cons_zero, List.set_cons_succ]
  have HSrc := Lib.hid (show ∀ wx, Below w0.heap.size w0 wx → SrcS wx A (T k) from fun wx hb => HI.out.2.2.2.2.2.1.below (HB.out.2.1.trans (hb.mono (by have := HB.out.2.2; omega))))
  have HNl := Lib.hid (show A = none → n = 0 ∧ c = 0 from fun e => ⟨by rw [HI.out.2.2.2.2.2.2.2, (HI.out.2.2.2.2.2.2.1 e).1]; rfl, (HI.out.2.2.2.2.2.2.1 e).2⟩)
  have HLen := Lib.hid (show n = (T k).length ∧ (T k).length < 64 from ⟨HI.out.2.2.2.2.2.2.2, HI.out.2.2.1⟩)
  clear hHeld
  refine h2 (i := 2) (i' := 9) (by kernel_rfl) rfl rfl (fun K hK => ?_) (fun K hK => ?_)
  · have HX1 := Lib.hid (show Below w0.heap.size w0 (wd.alloc (.cells #[] 9)) from HD0.out.1.alloc HD0.out.1.size _)
    have HE0 := Lib.hid (emptyS wd)
    go_simp
    refine hK.out _ _ (HX1.out.mono (by have := HB.out.2.2; omega)) ?_
    clear hK K
    try simp only [Act.put, List.setIfInBounds_toArray, List.set_cons_zero, List.set_cons_succ]
    refine h2 (i := 7) (i' := 9) (by kernel_rfl) rfl rfl (fun K hK => ?_) (fun K hK => ?_)
    · obtain ⟨v1, w2, hr1, own1, hg1⟩ := append_G (wd.alloc (.cells #[] 9)) _ _ [] (T k) A n c HE0.out HLen.out.1 (HSrc.out _ HX1.out) HNl.out (by have := HLen.out.2; simp; omega) (by simp)
      have HQ1 := Lib.hid hr1
      have HB2 := Lib.hid (show Below w0.heap.size w0 w2 from HX1.out.trans ((grown_bl hg1 HE0.out (by simp)).mono HD0.out.1.size))
      rw [List.nil_append] at own1
      have HO1 := Lib.hid (And.intro own1 (show wd.heap.size ≤ w2.heap.size by have := hg1.size; simp at this; omega))
      clear hr1 own1 hg1
      refine wp_append_run _ _ 26 rfl (.slice (some ⟨wd.heap.size, 0, none⟩) 0 0) (.slice A n c) v1 w2 rfl rfl HQ1.out ?_
      refine hK.out _ _ (HB2.out.mono (by have := HB.out.2.2; omega)) ?_
      clear hK K
      try simp only [Act.put, List.setIfInBounds_toArray, List.set_cons_zero, List.set_cons_succ]
      have HX3 := Lib.hid (show Below w0.heap.size w0 (w2.alloc (.cells #[.string t] 9)) from HB2.out.alloc HB2.out.size _)
      obtain ⟨v2, w4, hr2, own2, hg2⟩ := append_G (w2.alloc (.cells #[.string t] 9)) _ v1 (T k) [t] _ 1 1 (own_bl HO1.out.1 ((Below.refl _ _).alloc (Nat.le_refl w2.heap.size) (.cells #[.string t] 9))) rfl (one_src w2 t) (fun h => by cases h) (by have := HLen.out.2; simp; omega) (by have := HO1.out.2; simp; omega)
      have HB4 := Lib.hid (show Below w0.heap.size w0 w4 from HX3.out.trans ((grown_bl hg2 (own_bl HO1.out.1 ((Below.refl _ _).alloc (Nat.le_refl w2.heap.size) (.cells #[.string t] 9))) (by have := HO1.out.2; simp; omega)).mono HD0.out.1.size))
      have HQ2 := Lib.hid hr2
      have HO2 := Lib.hid own2
      clear hr2 own2 hg2 HQ1
      refine h1 (i := 9) (by kernel_rfl) rfl (fun K hK => ?_)
      go_simp
      refine hK.out _ _ (HX3.out.mono (by have := HB.out.2.2; omega)) ?_
      clear hK K
      try simp only [Act.put, List.setIfInBounds_toArray, List.set_cons_zero, List.set_cons_succ]
      refine h1 (i := 10) (by kernel_rfl) rfl (fun K hK => ?_)
      refine wp_append_run _ _ 26 rfl (v1) (.slice (some ⟨w2.heap.size, 0, none⟩) 1 1) v2 w4 rfl rfl HQ2.out ?_
      refine hK.out _ _ (HB4.out.mono (by have := HB.out.2.2; omega)) ?_
      clear hK K
      try simp only [Act.put, List.setIfInBounds_toArray, List.set_cons_zero, List.set_cons_succ]
      clear HX1 HE0 HB2 HO1 HX3 HQ2 HSrc HNl HLen HD0
      have hb4 : Below w.heap.size w w4 := HB.out.2.1.trans (HB4.out.mono (by have := HB.out.2.2; omega))
      have hx4 : Strs w4 v2 (T k ++ [t]) := Strs.of_own HO2.out
      have hput := put_any (w := w4) v T k v2 (HI.out.1.below hb4) HI.out.2.1 (let ⟨A, c, hv, _⟩ := hx4.slice; ⟨A, _, c, hv⟩)
      have hR4 := (HI.out.1.below hb4).put k v2 (T k ++ [t]) hx4
      obtain ⟨B0, d0, B1, d1, hB0, hB1⟩ := hR4.vals
      obtain ⟨m0, hm0⟩ : ∃ m, m = (upd T k (T k ++ [t]) 0).length := ⟨_, rfl⟩
      obtain ⟨m1, hm1⟩ : ∃ m, m = (upd T k (T k ++ [t]) 1).length := ⟨_, rfl⟩
      rw [← hm0] at hB0
      rw [← hm1] at hB1
      unfold rvf at hput
      rw [HI.out.2.2.2.1, HI.out.2.2.2.2.1, hB0, hB1] at hput
      have HPut := Lib.hid hput
      have HX := Lib.hid (And.intro hb4 (And.intro hx4 (And.intro hB0 hB1)))
      clear hput hR4 hB0 hB1 hm0 hm1 hb4 hx4
      refine h1 (i := 11) (by kernel_rfl) rfl (fun K hK => ?_)
      go_simp
      refine HPut.out.mono ?_
      rintro e w5 ⟨rfl, hb5⟩
      have hr5 : RN w5 (w.heap.size + 1) nilS nilS := HB.out.1.heap ((hb5.block _ (by have := HB4.out.size; have := HB.out.2.2; omega)).trans (HB4.out.block _ (by have := HB.out.2.2; omega)))
      have r0 := hr5.cell0
      have r1 := hr5.cell1
      have z0 := hr5.frozen 0
      have z1 := hr5.frozen 1
      have HE := Lib.hid (And.intro (put_res 0 HI.out.1 HX.out.1 HX.out.2.1 hb5 hr5 HX.out.2.2.1 HX.out.2.2.2) ((hr5.set (.slice B0 m0 d0) (.slice B1 m1 d1))))
      have hS5 : Below (w.heap.size + 1) w0 w5 := (HB4.out.mono (by have := HB.out.2.2; omega)).trans (hb5.mono (by have := HB4.out.size; have := HB.out.2.2; omega))
      refine hK.out _ _ hS5 ?_
      clear hK K hb5 hr5 HO2 HB4 HI HCL HX HPut
      try simp only [Act.put, List.setIfInBounds_toArray, List.set_cons_zero, List.set_cons_succ]
      refine h1 (i := 12) (by kernel_rfl) rfl (fun K hK => ?_)
      go_simp
      have hS6 := (hS5.setCell (p := ⟨w.heap.size + 1, 0, none⟩) (Nat.le_refl _) (.slice B0 m0 d0)).setCell (p := ⟨w.heap.size + 1, 1, none⟩) (Nat.le_refl _) (.slice B1 m1 d1)
      refine hK.out _ _ hS6 ?_
      clear hK K hS5
      try simp only [Act.put, List.setIfInBounds_toArray, List.set_cons_zero, List.set_cons_succ]
      refine h1 (i := 13) (by kernel_rfl) rfl (fun K hK => ?_)
      go_simp
      refine hK.out _ _ hS6 ?_
      clear hK K hS6
      refine wpAnyH_done (by kernel_rfl) ?_ _
      try simp only [Act.put, List.setIfInBounds_toArray, List.set_cons_zero, List.set_cons_succ]
      go_wp2
      have s0 := HE.out.2.cell0
      have s1 := HE.out.2.cell1
      exact bodyPost_ret (v := .tuple #[rv (.slice B0 m0 d0) (.slice B1 m1 d1), .int .i64 0]) (by simp [results, Tryd.results19, go_sem, s0, s1]) rfl HE.out.1
    · have HX2 := Lib.hid (show Below w0.heap.size w0 ((wd.alloc (.cells #[] 9)).alloc (.cells #[.string t] 9)) from HX1.out.alloc HX1.out.size _)
      have HE2 := Lib.hid (own_bl (l := []) HE0.out ((Below.refl _ _).alloc (Nat.le_refl (wd.alloc (.cells #[] 9)).heap.size) (.cells #[.string t] 9)))
      obtain ⟨v1, w3, hr1, own1, hg1⟩ := append_G ((wd.alloc (.cells #[] 9)).alloc (.cells #[.string t] 9)) _ _ [] (T k) A n c HE2.out HLen.out.1 (HSrc.out _ HX2.out) HNl.out (by have := HLen.out.2; simp; omega) (by simp; omega)
      have hsr := (one_src (wd.alloc (.cells #[] 9)) t).grown hg1 (by simp [Value.ownBlock])
      rw [List.nil_append] at own1
      have hs3 : wd.heap.size ≤ w3.heap.size := by have := hg1.size; simp at this; omega
      have HB3 := Lib.hid (show Below w0.heap.size w0 w3 from HX2.out.trans ((grown_bl hg1 HE2.out (by simp; omega)).mono HD0.out.1.size))
      obtain ⟨v2, w4, hr2, own2, hg2⟩ := append_G w3 _ v1 (T k) [t] _ 1 1 own1 rfl hsr (fun h => by cases h) (by have := HLen.out.2; simp; omega) hs3
      have HB4 := Lib.hid (show Below w0.heap.size w0 w4 from HB3.out.trans ((grown_bl hg2 own1 hs3).mono HD0.out.1.size))
      simp only [World.size_alloc] at hr2
      have HQ1 := Lib.hid hr1
      have HQ2 := Lib.hid hr2
      have HO2 := Lib.hid own2
      clear hr1 own1 hg1 hsr hs3 hr2 own2 hg2
      go_simp
      refine hK.out _ _ (HX2.out.mono (by have := HB.out.2.2; omega)) ?_
      clear hK K
      try simp only [Act.put, List.setIfInBounds_toArray, List.set_cons_zero, List.set_cons_succ]
      refine h1 (i := 7) (by kernel_rfl) rfl (fun K hK => ?_)
      refine wp_append_run _ _ 26 rfl (.slice (some ⟨wd.heap.size, 0, none⟩) 0 0) (.slice A n c) v1 w3 rfl rfl HQ1.out ?_
      refine hK.out _ _ (HB3.out.mono (by have := HB.out.2.2; omega)) ?_
      clear hK K
      try simp only [Act.put, List.setIfInBounds_toArray, List.set_cons_zero, List.set_cons_succ]
      refine h1 (i := 10) (by kernel_rfl) rfl (fun K hK => ?_)
      refine wp_append_run _ _ 26 rfl (v1) (.slice (some ⟨wd.heap.size + 1, 0, none⟩) 1 1) v2 w4 rfl rfl HQ2.out ?_
      refine hK.out _ _ (HB4.out.mono (by have := HB.out.2.2; omega)) ?_
      clear hK K
      try simp only [Act.put, List.setIfInBounds_toArray, List.set_cons_zero, List.set_cons_succ]
      clear HX1 HX2 HE0 HE2 HB3 HQ1 HQ2 HSrc HNl HLen HD0
      have hb4 : Below w.heap.size w w4 := HB.out.2.1.trans (HB4.out.mono (by have := HB.out.2.2; omega))
      have hx4 : Strs w4 v2 (T k ++ [t]) := Strs.of_own HO2.out
      have hput := put_any (w := w4) v T k v2 (HI.out.1.below hb4) HI.out.2.1 (let ⟨A, c, hv, _⟩ := hx4.slice; ⟨A, _, c, hv⟩)
      have hR4 := (HI.out.1.below hb4).put k v2 (T k ++ [t]) hx4
      obtain ⟨B0, d0, B1, d1, hB0, hB1⟩ := hR4.vals
      obtain ⟨m0, hm0⟩ : ∃ m, m = (upd T k (T k ++ [t]) 0).length := ⟨_, rfl⟩
      obtain ⟨m1, hm1⟩ : ∃ m, m = (upd T k (T k ++ [t]) 1).length := ⟨_, rfl⟩
      rw [← hm0] at hB0
      rw [← hm1] at hB1
      unfold rvf at hput
      rw [HI.out.2.2.2.1, HI.out.2.2.2.2.1, hB0, hB1] at hput
      have HPut := Lib.hid hput
      have HX := Lib.hid (And.intro hb4 (And.intro hx4 (And.intro hB0 hB1)))
      clear hput hR4 hB0 hB1 hm0 hm1 hb4 hx4
      refine h1 (i := 11) (by kernel_rfl) rfl (fun K hK => ?_)
      go_simp
      refine HPut.out.mono ?_
      rintro e w5 ⟨rfl, hb5⟩
      have hr5 : RN w5 (w.heap.size + 1) nilS nilS := HB.out.1.heap ((hb5.block _ (by have := HB4.out.size; have := HB.out.2.2; omega)).trans (HB4.out.block _ (by have := HB.out.2.2; omega)))
      have r0 := hr5.cell0
      have r1 := hr5.cell1
      have z0 := hr5.frozen 0
      have z1 := hr5.frozen 1
      have HE := Lib.hid (And.intro (put_res 0 HI.out.1 HX.out.1 HX.out.2.1 hb5 hr5 HX.out.2.2.1 HX.out.2.2.2) ((hr5.set (.slice B0 m0 d0) (.slice B1 m1 d1))))
      have hS5 : Below (w.heap.size + 1) w0 w5 := (HB4.out.mono (by have := HB.out.2.2; omega)).trans (hb5.mono (by have := HB4.out.size; have := HB.out.2.2; omega))
      refine hK.out _ _ hS5 ?_
      clear hK K hb5 hr5 HO2 HB4 HI HCL HX HPut
      try simp only [Act.put, List.setIfInBounds_toArray, List.set_cons_zero, List.set_cons_succ]
      refine h1 (i := 12) (by kernel_rfl) rfl (fun K hK => ?_)
      go_simp
      have hS6 := (hS5.setCell (p := ⟨w.heap.size + 1, 0, none⟩) (Nat.le_refl _) (.slice B0 m0 d0)).setCell (p := ⟨w.heap.size + 1, 1, none⟩) (Nat.le_refl _) (.slice B1 m1 d1)
      refine hK.out _ _ hS6 ?_
      clear hK K hS5
      try simp only [Act.put, List.setIfInBounds_toArray, List.set_cons_zero, List.set_cons_succ]
      refine h1 (i := 13) (by kernel_rfl) rfl (fun K hK => ?_)
      go_simp
      refine hK.out _ _ hS6 ?_
      clear hK K hS6
      refine wpAnyH_done (by kernel_rfl) ?_ _
      try simp only [Act.put, List.setIfInBounds_toArray, List.set_cons_zero, List.set_cons_succ]
      go_wp2
      have s0 := HE.out.2.cell0
      have s1 := HE.out.2.cell1
      exact bodyPost_ret (v := .tuple #[rv (.slice B0 m0 d0) (.slice B1 m1 d1), .int .i64 0]) (by simp [results, Tryd.results19, go_sem, s0, s1]) rfl HE.out.1
  · have HX1 := Lib.hid (show Below w0.heap.size w0 (wd.alloc (.cells #[.string t] 9)) from HD0.out.1.alloc HD0.out.1.size _)
    have HX2 := Lib.hid (show Below w0.heap.size w0 ((wd.alloc (.cells #[.string t] 9)).alloc (.cells #[] 9)) from HX1.out.alloc HX1.out.size _)
    have oE := emptyS (wd.alloc (.cells #[.string t] 9))
    obtain ⟨v1, w3, hr1, own1, hg1⟩ := append_G ((wd.alloc (.cells #[.string t] 9)).alloc (.cells #[] 9)) _ _ [] (T k) A n c oE HLen.out.1 (HSrc.out _ HX2.out) HNl.out (by have := HLen.out.2; simp; omega) (by simp)
    have hsr := ((one_src wd t).below ((Below.refl _ _).alloc (Nat.le_refl (wd.alloc (.cells #[.string t] 9)).heap.size) (.cells #[] 9))).grown hg1 (by simp [Value.ownBlock])
    rw [List.nil_append] at own1
    have hs3 : (wd.alloc (.cells #[.string t] 9)).heap.size ≤ w3.heap.size := by have := hg1.size; simp at this ⊢; omega
    have HB3 := Lib.hid (show Below w0.heap.size w0 w3 from HX2.out.trans ((grown_bl hg1 oE (by simp)).mono HX1.out.size))
    obtain ⟨v2, w4, hr2, own2, hg2⟩ := append_G w3 _ v1 (T k) [t] _ 1 1 own1 rfl hsr (fun h => by cases h) (by have := HLen.out.2; simp; omega) hs3
    have HB4 := Lib.hid (show Below w0.heap.size w0 w4 from HB3.out.trans ((grown_bl hg2 own1 hs3).mono HX1.out.size))
    simp only [World.size_alloc] at hr1
    have HQ1 := Lib.hid hr1
    have HQ2 := Lib.hid hr2
    have HO2 := Lib.hid own2
    clear hr1 own1 hg1 hsr hs3 hr2 own2 hg2 oE
    go_simp
    refine hK.out _ _ (HX1.out.mono (by have := HB.out.2.2; omega)) ?_
    clear hK K
    try simp only [Act.put, List.setIfInBounds_toArray, List.set_cons_zero, List.set_cons_succ]
    refine h1 (i := 2) (by kernel_rfl) rfl (fun K hK => ?_)
    go_simp
    refine hK.out _ _ (HX2.out.mono (by have := HB.out.2.2; omega)) ?_
    clear hK K
    try simp only [Act.put, List.setIfInBounds_toArray, List.set_cons_zero, List.set_cons_succ]
    refine h1 (i := 7) (by kernel_rfl) rfl (fun K hK => ?_)
    refine wp_append_run _ _ 26 rfl (.slice (some ⟨wd.heap.size + 1, 0, none⟩) 0 0) (.slice A n c) v1 w3 rfl rfl HQ1.out ?_
    refine hK.out _ _ (HB3.out.mono (by have := HB.out.2.2; omega)) ?_
    clear hK K
    try simp only [Act.put, List.setIfInBounds_toArray, List.set_cons_zero, List.set_cons_succ]
    refine h1 (i := 10) (by kernel_rfl) rfl (fun K hK => ?_)
    refine wp_append_run _ _ 26 rfl (v1) (.slice (some ⟨wd.heap.size, 0, none⟩) 1 1) v2 w4 rfl rfl HQ2.out ?_
    refine hK.out _ _ (HB4.out.mono (by have := HB.out.2.2; omega)) ?_
    clear hK K
    try simp only [Act.put, List.setIfInBounds_toArray, List.set_cons_zero, List.set_cons_succ]
    clear HX1 HX2 HB3 HQ1 HQ2 HSrc HNl HLen HD0
    have hb4 : Below w.heap.size w w4 := HB.out.2.1.trans (HB4.out.mono (by have := HB.out.2.2; omega))
    have hx4 : Strs w4 v2 (T k ++ [t]) := Strs.of_own HO2.out
    have hput := put_any (w := w4) v T k v2 (HI.out.1.below hb4) HI.out.2.1 (let ⟨A, c, hv, _⟩ := hx4.slice; ⟨A, _, c, hv⟩)
    have hR4 := (HI.out.1.below hb4).put k v2 (T k ++ [t]) hx4
    obtain ⟨B0, d0, B1, d1, hB0, hB1⟩ := hR4.vals
    obtain ⟨m0, hm0⟩ : ∃ m, m = (upd T k (T k ++ [t]) 0).length := ⟨_, rfl⟩
    obtain ⟨m1, hm1⟩ : ∃ m, m = (upd T k (T k ++ [t]) 1).length := ⟨_, rfl⟩
    rw [← hm0] at hB0
    rw [← hm1] at hB1
    unfold rvf at hput
    rw [HI.out.2.2.2.1, HI.out.2.2.2.2.1, hB0, hB1] at hput
    have HPut := Lib.hid hput
    have HX := Lib.hid (And.intro hb4 (And.intro hx4 (And.intro hB0 hB1)))
    clear hput hR4 hB0 hB1 hm0 hm1 hb4 hx4
    refine h1 (i := 11) (by kernel_rfl) rfl (fun K hK => ?_)
    go_simp
    refine HPut.out.mono ?_
    rintro e w5 ⟨rfl, hb5⟩
    have hr5 : RN w5 (w.heap.size + 1) nilS nilS := HB.out.1.heap ((hb5.block _ (by have := HB4.out.size; have := HB.out.2.2; omega)).trans (HB4.out.block _ (by have := HB.out.2.2; omega)))
    have r0 := hr5.cell0
    have r1 := hr5.cell1
    have z0 := hr5.frozen 0
    have z1 := hr5.frozen 1
    have HE := Lib.hid (And.intro (put_res 0 HI.out.1 HX.out.1 HX.out.2.1 hb5 hr5 HX.out.2.2.1 HX.out.2.2.2) ((hr5.set (.slice B0 m0 d0) (.slice B1 m1 d1))))
    have hS5 : Below (w.heap.size + 1) w0 w5 := (HB4.out.mono (by have := HB.out.2.2; omega)).trans (hb5.mono (by have := HB4.out.size; have := HB.out.2.2; omega))
    refine hK.out _ _ hS5 ?_
    clear hK K hb5 hr5 HO2 HB4 HI HCL HX HPut
    try simp only [Act.put, List.setIfInBounds_toArray, List.set_cons_zero, List.set_cons_succ]
    refine h1 (i := 12) (by kernel_rfl) rfl (fun K hK => ?_)
    go_simp
    have hS6 := (hS5.setCell (p := ⟨w.heap.size + 1, 0, none⟩) (Nat.le_refl _) (.slice B0 m0 d0)).setCell (p := ⟨w.heap.size + 1, 1, none⟩) (Nat.le_refl _) (.slice B1 m1 d1)
    refine hK.out _ _ hS6 ?_
    clear hK K hS5
    try simp only [Act.put, List.setIfInBounds_toArray, List.set_cons_zero, List.set_cons_succ]
    refine h1 (i := 13) (by kernel_rfl) rfl (fun K hK => ?_)
    go_simp
    refine hK.out _ _ hS6 ?_
    clear hK K hS6
    refine wpAnyH_done (by kernel_rfl) ?_ _
    try simp only [Act.put, List.setIfInBounds_toArray, List.set_cons_zero, List.set_cons_succ]
    go_wp2
    have s0 := HE.out.2.cell0
    have s1 := HE.out.2.cell1
    exact bodyPost_ret (v := .tuple #[rv (.slice B0 m0 d0) (.slice B1 m1 d1), .int .i64 0]) (by simp [results, Tryd.results19, go_sem, s0, s1]) rfl HE.out.1
end Go.Proofs.YtfilhlilagmhlaaDoor
