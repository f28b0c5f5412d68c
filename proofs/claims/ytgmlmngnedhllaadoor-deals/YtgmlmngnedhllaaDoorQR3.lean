/- The contract of the document's Deal where the words are enough. -/
import Derived.Test.YtgmlmngnedhllaaDoorQR2
namespace Go.Proofs.YtgmlmngnedhllaaDoor
open Go.RowKit

section
variable {P : Program} {ops : Array Oper} {Q : Exit → Act → World → Prop} {md : Region.Mode} {S : World → Prop} {z : Nat}
/-- The next operation of a statement whose order is fixed yields a value; its slot written out. -/
theorem wl {d : Nat} {op : Op} {ty : TypeId} {pos : String} {af : Array Edge} {rest : List Oper} {a : Act} {w : World} (v : Value) (hv : (execOp a.eval ⟨some d, op, ty, pos, af, none⟩).run P w = .ok (.value v) w) (h : wpList P ops Q rest (a.put (some d) v) w) : wpList P ops Q (⟨some d, op, ty, pos, af, none⟩ :: rest) a w :=
  wpList_plain rfl fun K hK => by
    unfold Oper.wp
    simp only [hv]
    exact hK _ _ h
/-- The next operation does something to the world. -/
theorem wk {d : Option Nat} {op : Op} {ty : TypeId} {pos : String} {af : Array Edge} {rest : List Oper} {a : Act} {w : World} (h : ∀ K : Act → World → Prop, Hid (∀ a w, wpList P ops Q rest a w → K a w) → Oper.wp P ⟨d, op, ty, pos, af, none⟩ a w K Q) : wpList P ops Q (⟨d, op, ty, pos, af, none⟩ :: rest) a w :=
  wpList_plain rfl fun K hK => h K hK
/-- Just two may come up. -/
theorem z2 {i i' : Nat} {d d' : Option Nat} {op op' : Op} {ty ty' : TypeId} {pos pos' : String} {af af' : Array Edge} {fuel : Nat} {listed : Array Bool} {a : Act} {w : World} (hr : Region.ready md ops listed = [i, i']) (hi : ops[i]? = some ⟨d, op, ty, pos, af, none⟩) (hi' : ops[i']? = some ⟨d', op', ty', pos', af', none⟩)
    (h : ∀ K : Act → World → Prop, Hid (∀ a w, (i = z ∨ S w) → wpAnyZ P md ops Q S z fuel (listed.setIfInBounds i true) a w → K a w) → Oper.wp P ⟨d, op, ty, pos, af, none⟩ a w K Q)
    (h' : ∀ K : Act → World → Prop, Hid (∀ a w, (i' = z ∨ S w) → wpAnyZ P md ops Q S z fuel (listed.setIfInBounds i' true) a w → K a w) → Oper.wp P ⟨d', op', ty', pos', af', none⟩ a w K Q) : wpAnyZ P md ops Q S z (fuel + 1) listed a w := by
  refine ⟨fun h0 => (by rw [hr] at h0; cases h0), fun j hj => ?_⟩
  rw [hr] at hj
  have hw : Region.wanted ⟨d, op, ty, pos, af, none⟩ (yielded ops a.tmps) = true := by simp [Region.wanted]
  have hw' : Region.wanted ⟨d', op', ty', pos', af', none⟩ (yielded ops a.tmps) = true := by simp [Region.wanted]
  rcases List.mem_cons.1 hj with rfl | hj
  · unfold wpOp
    simp only [hi, hw, if_true]
    exact .inl (h _ (fun a w h1 h2 => ⟨h1, h2⟩))
  · obtain rfl := List.mem_singleton.1 hj
    unfold wpOp
    simp only [hi', hw', if_true]
    exact .inl (h' _ (fun a w h1 h2 => ⟨h1, h2⟩))
end

set_option maxHeartbeats 16000000 in
set_option maxRecDepth 100000 in
theorem rdeal_ok (A : Option Addr) (len c : Nat) (f : Nat → Int) (n1 n2 n3 : Nat) (w : World) (hA : AtO w A len f) (hf : ∀ i, 0 ≤ f i) (hl : len ≤ 2000) (hn : 5 * (n1 + n2 + n3) ≤ len) :
    Calls Tryd.prog 11 #[.slice A len c, .int .i64 (n1 : Int), .int .i64 (n2 : Int), .int .i64 (n3 : Int)] w (Got w f n1 n2 n3) := by
  have a1 : ¬ ((n1 : Int) < 0) := by omega
  have a2 : ¬ ((n2 : Int) < 0) := by omega
  have a3 : ¬ ((n3 : Int) < 0) := by omega
  have b1 : ¬ ((65536 : Int) < (n1 : Int)) := by omega
  have b2 : ¬ ((65536 : Int) < (n2 : Int)) := by omega
  have b3 : ¬ ((65536 : Int) < (n3 : Int)) := by omega
  have e1 : IntKind.i64.wrap ((n1 : Int) + (n2 : Int)) = (n1 : Int) + (n2 : Int) := i64_nat _ (by omega) (by omega)
  have e2 : IntKind.i64.wrap ((n1 : Int) + (n2 : Int) + (n3 : Int)) = (n1 : Int) + (n2 : Int) + (n3 : Int) := i64_nat _ (by omega) (by omega)
  have e3 : IntKind.i64.wrap (5 * ((n1 : Int) + (n2 : Int) + (n3 : Int))) = 5 * ((n1 : Int) + (n2 : Int) + (n3 : Int)) := i64_nat _ (by omega) (by omega)
  have l1 : ¬ ((len : Int) < 5 * ((n1 : Int) + (n2 : Int) + (n3 : Int))) := by omega
  have hb8 : Below w.heap.size w (w.alloc (.cells #[.slice none 0 0, .slice none 0 0, .slice none 0 0, .slice none 0 0, .slice none 0 0, .slice none 0 0] 38)) := (Below.refl _ w).alloc (Nat.le_refl _) _
  have HN := Lib.hid (And.intro (hA.below hb8) (And.intro hl hn))
  have HF := Lib.hid hf
  have H8 := Lib.hid (And.intro hb8 (Blk.new w 38 #[.slice none 0 0, .slice none 0 0, .slice none 0 0, .slice none 0 0, .slice none 0 0, .slice none 0 0]))
  have HR0 := Lib.hid (Ro.start (w.alloc (.cells #[.slice none 0 0, .slice none 0 0, .slice none 0 0, .slice none 0 0, .slice none 0 0, .slice none 0 0] 38)) (YY f n1 n2) (CC f n1 n2))
  have hm8 : (w.alloc (.cells #[.slice none 0 0, .slice none 0 0, .slice none 0 0, .slice none 0 0, .slice none 0 0, .slice none 0 0] 38)).heap.size = w.heap.size + 1 := by simp
  clear hA hl hn hf hb8
  go_enter Tryd.func11, Tryd.ntmps11
  go_wp2
  clear a1 a2 a3 b1 b2 b3 e1 e2 e3 l1
  generalize (w.alloc (.cells #[.slice none 0 0, .slice none 0 0, .slice none 0 0, .slice none 0 0, .slice none 0 0, .slice none 0 0] 38)) = wB at *
  generalize wB.alloc (.cells #[.slice none 0 0, .slice none 0 0, .slice none 0 0, .slice none 0 0, .slice none 0 0, .slice none 0 0] 38) = w0 at *
  obtain ⟨m, hm⟩ : ∃ x, w.heap.size + 1 = x := ⟨_, rfl⟩
  rw [hm8, hm] at HR0
  rw [hm]
  have HM := Lib.hid (And.intro hm hm8)
  clear hm hm8
  go_loopw [11, 12] (fun v i wr => ∃ k : Nat, k ≤ n1 ∧ i = .int .i64 k ∧ v = .int .i64 ((5 * k : Nat) : Int) ∧ Hid (∃ V, Ro wB m (YY f n1 n2) (CC f n1 n2) V (cnt k 0 0) wr)) (fun _ i _ => n1 - (intOf i).toNat)
  case atStart => exact ⟨0, by omega, rfl, rfl, _, HR0.out⟩
  case round =>
    obtain ⟨k, hk, rfl, rfl, HI⟩ := hrel
    obtain ⟨V, hV⟩ := HI.out
    have HV := Lib.hid hV
    clear HI hV HR0
    by_cases hlt : k < n1
    · focus
        have lt1 : (k : Int) < (n1 : Int) := by omega
        have ek : IntKind.i64.wrap ((k : Int) + 1) = (k : Int) + 1 := i64_nat _ (by omega) (by have := HN.out.2; omega)
        obtain ⟨p, hp⟩ : ∃ p, 5 * k = p := ⟨_, rfl⟩
        have hpl : p + 5 ≤ len := by have := HN.out.2; omega
        obtain ⟨i1, i2, i3, i4, i5, r0, r1, r2, r3, r4, rz⟩ := idx_nums len p hpl HN.out.2.1
        obtain ⟨⟨g1, g2, g3, g4⟩, t1, t2, t3, t4⟩ := idx_nums2 p
        have hAt := HN.out.1.below HV.out.bl
        obtain ⟨ad, rfl, x0⟩ := hAt p (by omega)
        obtain ⟨ad1, h1, x1⟩ := hAt (p + 1) (by omega)
        cases h1
        obtain ⟨ad2, h2, x2⟩ := hAt (p + 2) (by omega)
        cases h2
        obtain ⟨ad3, h3, x3⟩ := hAt (p + 3) (by omega)
        cases h3
        obtain ⟨ad4, h4, x4⟩ := hAt (p + 4) (by omega)
        cases h4
        have y1 := word_forms (by omega) x1
        have y2 := word_forms (by omega) x2
        have y3 := word_forms (by omega) x3
        have y4 := word_forms (by omega) x4
        have HE := Lib.hid (eqs1 f n1 n2 k p hp)
        have HP := Lib.hid hp
        have HB := Lib.hid (And.intro hk hlt)
        have HPL := Lib.hid hpl
        rw [hp]
        clear hp hAt hpl hk hlt
        go_wp2
        go_quiet (fail)
        go_wp2
        have HV1 := Lib.hid (HV.out.new (Below.drewN _ nq))
        generalize wr.drewN nq = w1 at *
        clear x0 x1 x2 x3 x4 y1 y2 y3 y4 HV
        refine region_z 22 (fun w' => Wx w' ad p f m 0 (V 0)) (by kernel_rfl) ?_
        have HD := Lib.hid (HV1.out.new (Below.refl _ w1).drew)
        generalize w1.drew = wd at *
        have hS : (fun w' => Wx w' ad p f m 0 (V 0)) wd := Wx.of (HN.out.1.below HD.out.bl) HPL.out (HD.out.b.cell 0 rfl)
        refine zt [22] (i := 0) rfl (.pointer (some ⟨m, 0, none⟩)) (by kernel_rfl) (by kernel_rfl) (by kernel_rfl) (by kernel_rfl) (fun _ _ _ h => h) hS (fun w' d => by obtain ⟨d0, d1, d2, d3, d4, d5⟩ := d; go_simp) ?_
        try simp only [Act.put, List.setIfInBounds_toArray, List.set_cons_zero, List.set_cons_succ]
        refine zt [22] (i := 1) rfl (.pointer (some ⟨m, 0, none⟩)) (by kernel_rfl) (by kernel_rfl) (by kernel_rfl) (by kernel_rfl) (fun _ _ _ h => h) hS (fun w' d => by obtain ⟨d0, d1, d2, d3, d4, d5⟩ := d; go_simp) ?_
        try simp only [Act.put, List.setIfInBounds_toArray, List.set_cons_zero, List.set_cons_succ]
        refine zt [22] (i := 2) rfl (V 0) (by kernel_rfl) (by kernel_rfl) (by kernel_rfl) (by kernel_rfl) (fun _ _ _ h => h) hS (fun w' d => by obtain ⟨d0, d1, d2, d3, d4, d5⟩ := d; go_simp) ?_
        try simp only [Act.put, List.setIfInBounds_toArray, List.set_cons_zero, List.set_cons_succ]
        refine zt [22] (i := 3) rfl (.slice (some ad) len c) (by kernel_rfl) (by kernel_rfl) (by kernel_rfl) (by kernel_rfl) (fun _ _ _ h => h) hS (fun w' d => by obtain ⟨d0, d1, d2, d3, d4, d5⟩ := d; go_simp) ?_
        try simp only [Act.put, List.setIfInBounds_toArray, List.set_cons_zero, List.set_cons_succ]
        refine zt [22] (i := 4) rfl (.int .i64 (p : Int)) (by kernel_rfl) (by kernel_rfl) (by kernel_rfl) (by kernel_rfl) (fun _ _ _ h => h) hS (fun w' d => by obtain ⟨d0, d1, d2, d3, d4, d5⟩ := d; go_simp) ?_
        try simp only [Act.put, List.setIfInBounds_toArray, List.set_cons_zero, List.set_cons_succ]
        refine zt [22] (i := 5) rfl (.pointer (some (ad.add p))) (by kernel_rfl) (by kernel_rfl) (by kernel_rfl) (by kernel_rfl) (fun _ _ _ h => h) hS (fun w' d => by obtain ⟨d0, d1, d2, d3, d4, d5⟩ := d; go_simp) ?_
        try simp only [Act.put, List.setIfInBounds_toArray, List.set_cons_zero, List.set_cons_succ]
        refine zt [22] (i := 6) rfl (.int .u64 (f p)) (by kernel_rfl) (by kernel_rfl) (by kernel_rfl) (by kernel_rfl) (fun _ _ _ h => h) hS (fun w' d => by obtain ⟨d0, d1, d2, d3, d4, d5⟩ := d; go_simp) ?_
        try simp only [Act.put, List.setIfInBounds_toArray, List.set_cons_zero, List.set_cons_succ]
        refine zt [22] (i := 7) rfl (.slice (some ad) len c) (by kernel_rfl) (by kernel_rfl) (by kernel_rfl) (by kernel_rfl) (fun _ _ _ h => h) hS (fun w' d => by obtain ⟨d0, d1, d2, d3, d4, d5⟩ := d; go_simp) ?_
        try simp only [Act.put, List.setIfInBounds_toArray, List.set_cons_zero, List.set_cons_succ]
        refine zt [22] (i := 8) rfl (.int .i64 (p : Int)) (by kernel_rfl) (by kernel_rfl) (by kernel_rfl) (by kernel_rfl) (fun _ _ _ h => h) hS (fun w' d => by obtain ⟨d0, d1, d2, d3, d4, d5⟩ := d; go_simp) ?_
        try simp only [Act.put, List.setIfInBounds_toArray, List.set_cons_zero, List.set_cons_succ]
        refine zt [22] (i := 9) rfl (.int .i64 ((p : Int) + 2)) (by kernel_rfl) (by kernel_rfl) (by kernel_rfl) (by kernel_rfl) (fun _ _ _ h => h) hS (fun w' d => by obtain ⟨d0, d1, d2, d3, d4, d5⟩ := d; go_simp) ?_
        try simp only [Act.put, List.setIfInBounds_toArray, List.set_cons_zero, List.set_cons_succ]
        refine zt [22] (i := 10) rfl (.pointer (some ⟨ad.block, ad.off + (p + 2), none⟩)) (by kernel_rfl) (by kernel_rfl) (by kernel_rfl) (by kernel_rfl) (fun _ _ _ h => h) hS (fun w' d => by obtain ⟨d0, d1, d2, d3, d4, d5⟩ := d; go_simp) ?_
        try simp only [Act.put, List.setIfInBounds_toArray, List.set_cons_zero, List.set_cons_succ]
        refine zt [22] (i := 11) rfl (.int .u64 (f (p + 2))) (by kernel_rfl) (by kernel_rfl) (by kernel_rfl) (by kernel_rfl) (fun _ _ _ h => h) hS (fun w' d => by obtain ⟨d0, d1, d2, d3, d4, d5⟩ := d; go_simp) ?_
        try simp only [Act.put, List.setIfInBounds_toArray, List.set_cons_zero, List.set_cons_succ]
        refine zt [22] (i := 12) rfl (.slice (some ad) len c) (by kernel_rfl) (by kernel_rfl) (by kernel_rfl) (by kernel_rfl) (fun _ _ _ h => h) hS (fun w' d => by obtain ⟨d0, d1, d2, d3, d4, d5⟩ := d; go_simp) ?_
        try simp only [Act.put, List.setIfInBounds_toArray, List.set_cons_zero, List.set_cons_succ]
        refine zt [22] (i := 13) rfl (.int .i64 (p : Int)) (by kernel_rfl) (by kernel_rfl) (by kernel_rfl) (by kernel_rfl) (fun _ _ _ h => h) hS (fun w' d => by obtain ⟨d0, d1, d2, d3, d4, d5⟩ := d; go_simp) ?_
        try simp only [Act.put, List.setIfInBounds_toArray, List.set_cons_zero, List.set_cons_succ]
        refine zt [22] (i := 14) rfl (.int .i64 ((p : Int) + 4)) (by kernel_rfl) (by kernel_rfl) (by kernel_rfl) (by kernel_rfl) (fun _ _ _ h => h) hS (fun w' d => by obtain ⟨d0, d1, d2, d3, d4, d5⟩ := d; go_simp) ?_
        try simp only [Act.put, List.setIfInBounds_toArray, List.set_cons_zero, List.set_cons_succ]
        refine zt [22] (i := 15) rfl (.pointer (some ⟨ad.block, ad.off + (p + 4), none⟩)) (by kernel_rfl) (by kernel_rfl) (by kernel_rfl) (by kernel_rfl) (fun _ _ _ h => h) hS (fun w' d => by obtain ⟨d0, d1, d2, d3, d4, d5⟩ := d; go_simp) ?_
        try simp only [Act.put, List.setIfInBounds_toArray, List.set_cons_zero, List.set_cons_succ]
        refine zt [22] (i := 16) rfl (.int .u64 (f (p + 4))) (by kernel_rfl) (by kernel_rfl) (by kernel_rfl) (by kernel_rfl) (fun _ _ _ h => h) hS (fun w' d => by obtain ⟨d0, d1, d2, d3, d4, d5⟩ := d; go_simp) ?_
        try simp only [Act.put, List.setIfInBounds_toArray, List.set_cons_zero, List.set_cons_succ]
        refine zt [22] (i := 17) rfl (tri (f p) (f (p + 2)) (f (p + 4))) (by kernel_rfl) (by kernel_rfl) (by kernel_rfl) (by kernel_rfl) (fun _ _ _ h => h) hS (fun w' d => by obtain ⟨d0, d1, d2, d3, d4, d5⟩ := d; go_simp) ?_
        try simp only [Act.put, List.setIfInBounds_toArray, List.set_cons_zero, List.set_cons_succ]
        have HAL := Lib.hid (HD.out.new (((Below.refl _ wd).alloc (Nat.le_refl _) (.cells #[.int .u64 (f p), .int .u64 (f (p + 2)), .int .u64 (f (p + 4))] 48))))
        obtain ⟨A0, c0, wa, hra, hca, hfa, hRa, hBa⟩ := HD.out.addTn 0 (by omega) k rfl (by have := HB.out; have := HN.out.2; omega) (f p) (f (p + 2)) (f (p + 4)) HE.out.1.1 HE.out.1.2.1 HE.out.1.2.2
        have HA := Lib.hid hra
        have HR := Lib.hid (And.intro hRa hBa)
        clear hra hRa hBa
        refine z1 (i := 18) (by kernel_rfl) rfl (fun K hK => ?_)
        go_simp
        refine hK.out _ _ (.inr (Wx.of (HN.out.1.below HAL.out.bl) HPL.out (HAL.out.b.cell 0 rfl))) ?_
        clear hK K
        try simp only [Act.put, List.setIfInBounds_toArray, List.set_cons_zero, List.set_cons_succ]
        refine z1 (i := 19) (by kernel_rfl) rfl (fun K hK => ?_)
        refine wp_append_run _ _ 34 rfl _ _ _ _ rfl rfl HA.out ?_
        refine hK.out _ _ (.inr (Wx.of (HN.out.1.below HR.out.2) HPL.out hca)) ?_
        clear hK K HA HAL
        try simp only [Act.put, List.setIfInBounds_toArray, List.set_cons_zero, List.set_cons_succ]
        refine z1 (i := 20) (by kernel_rfl) rfl (fun K hK => ?_)
        go_simp
        refine hK.out _ _ (.inr (Wx.of (HN.out.1.below HR.out.2) HPL.out hca)) ?_
        clear hK K
        try simp only [Act.put, List.setIfInBounds_toArray, List.set_cons_zero, List.set_cons_succ]
        refine z1 (i := 21) (by kernel_rfl) rfl (fun K hK => ?_)
        go_simp
        refine hK.out _ _ (.inr (Wx.of (HN.out.1.below HR.out.2) HPL.out hca)) ?_
        clear hK K
        try simp only [Act.put, List.setIfInBounds_toArray, List.set_cons_zero, List.set_cons_succ]
        refine z1 (i := 22) (by kernel_rfl) rfl (fun K hK => ?_)
        go_simp
        refine hK.out _ _ (.inl rfl) ?_
        clear hK K
        refine wpAnyZ_done (by kernel_rfl) ?_ _
        clear hS HD HV1 hca hfa
        have HV2 := Lib.hid HR.out.1
        clear HR
        generalize (wa.setCell ⟨m, 0, none⟩ (.slice A0 (k + 1) c0)) = w2 at *
        obtain ⟨V2, hV2⟩ : ∃ x, put6 V 0 (.slice A0 (k + 1) c0) = x := ⟨_, rfl⟩
        have HV3 : Hid (Ro wB m (YY f n1 n2) (CC f n1 n2) V2 (put6 (cnt k 0 0) 0 (k + 1)) w2) := by rw [← hV2]; exact HV2
        clear HV2 hV2
        go_wp2
        refine region_z 27 (fun w' => Wx w' ad p f m 3 (V2 3)) (by kernel_rfl) ?_
        have HD := Lib.hid (HV3.out.new (Below.refl _ w2).drew)
        generalize w2.drew = wd at *
        have hS : (fun w' => Wx w' ad p f m 3 (V2 3)) wd := Wx.of (HN.out.1.below HD.out.bl) HPL.out (HD.out.b.cell 3 rfl)
        refine zt [27] (i := 0) rfl (.pointer (some ⟨m, 3, none⟩)) (by kernel_rfl) (by kernel_rfl) (by kernel_rfl) (by kernel_rfl) (fun _ _ _ h => h) hS (fun w' d => by obtain ⟨d0, d1, d2, d3, d4, d5⟩ := d; go_simp) ?_
        try simp only [Act.put, List.setIfInBounds_toArray, List.set_cons_zero, List.set_cons_succ]
        refine zt [27] (i := 1) rfl (.pointer (some ⟨m, 3, none⟩)) (by kernel_rfl) (by kernel_rfl) (by kernel_rfl) (by kernel_rfl) (fun _ _ _ h => h) hS (fun w' d => by obtain ⟨d0, d1, d2, d3, d4, d5⟩ := d; go_simp) ?_
        try simp only [Act.put, List.setIfInBounds_toArray, List.set_cons_zero, List.set_cons_succ]
        refine zt [27] (i := 2) rfl (V2 3) (by kernel_rfl) (by kernel_rfl) (by kernel_rfl) (by kernel_rfl) (fun _ _ _ h => h) hS (fun w' d => by obtain ⟨d0, d1, d2, d3, d4, d5⟩ := d; go_simp) ?_
        try simp only [Act.put, List.setIfInBounds_toArray, List.set_cons_zero, List.set_cons_succ]
        refine zt [27] (i := 3) rfl (.slice (some ad) len c) (by kernel_rfl) (by kernel_rfl) (by kernel_rfl) (by kernel_rfl) (fun _ _ _ h => h) hS (fun w' d => by obtain ⟨d0, d1, d2, d3, d4, d5⟩ := d; go_simp) ?_
        try simp only [Act.put, List.setIfInBounds_toArray, List.set_cons_zero, List.set_cons_succ]
        refine zt [27] (i := 4) rfl (.int .i64 (p : Int)) (by kernel_rfl) (by kernel_rfl) (by kernel_rfl) (by kernel_rfl) (fun _ _ _ h => h) hS (fun w' d => by obtain ⟨d0, d1, d2, d3, d4, d5⟩ := d; go_simp) ?_
        try simp only [Act.put, List.setIfInBounds_toArray, List.set_cons_zero, List.set_cons_succ]
        refine zt [27] (i := 5) rfl (.int .i64 ((p : Int) + 1)) (by kernel_rfl) (by kernel_rfl) (by kernel_rfl) (by kernel_rfl) (fun _ _ _ h => h) hS (fun w' d => by obtain ⟨d0, d1, d2, d3, d4, d5⟩ := d; go_simp) ?_
        try simp only [Act.put, List.setIfInBounds_toArray, List.set_cons_zero, List.set_cons_succ]
        refine zt [27] (i := 6) rfl (.pointer (some ⟨ad.block, ad.off + (p + 1), none⟩)) (by kernel_rfl) (by kernel_rfl) (by kernel_rfl) (by kernel_rfl) (fun _ _ _ h => h) hS (fun w' d => by obtain ⟨d0, d1, d2, d3, d4, d5⟩ := d; go_simp) ?_
        try simp only [Act.put, List.setIfInBounds_toArray, List.set_cons_zero, List.set_cons_succ]
        refine zt [27] (i := 7) rfl (.int .u64 (f (p + 1))) (by kernel_rfl) (by kernel_rfl) (by kernel_rfl) (by kernel_rfl) (fun _ _ _ h => h) hS (fun w' d => by obtain ⟨d0, d1, d2, d3, d4, d5⟩ := d; go_simp) ?_
        try simp only [Act.put, List.setIfInBounds_toArray, List.set_cons_zero, List.set_cons_succ]
        refine zt [27] (i := 8) rfl (.slice (some ad) len c) (by kernel_rfl) (by kernel_rfl) (by kernel_rfl) (by kernel_rfl) (fun _ _ _ h => h) hS (fun w' d => by obtain ⟨d0, d1, d2, d3, d4, d5⟩ := d; go_simp) ?_
        try simp only [Act.put, List.setIfInBounds_toArray, List.set_cons_zero, List.set_cons_succ]
        refine zt [27] (i := 9) rfl (.int .i64 (p : Int)) (by kernel_rfl) (by kernel_rfl) (by kernel_rfl) (by kernel_rfl) (fun _ _ _ h => h) hS (fun w' d => by obtain ⟨d0, d1, d2, d3, d4, d5⟩ := d; go_simp) ?_
        try simp only [Act.put, List.setIfInBounds_toArray, List.set_cons_zero, List.set_cons_succ]
        refine zt [27] (i := 10) rfl (.int .i64 ((p : Int) + 3)) (by kernel_rfl) (by kernel_rfl) (by kernel_rfl) (by kernel_rfl) (fun _ _ _ h => h) hS (fun w' d => by obtain ⟨d0, d1, d2, d3, d4, d5⟩ := d; go_simp) ?_
        try simp only [Act.put, List.setIfInBounds_toArray, List.set_cons_zero, List.set_cons_succ]
        refine zt [27] (i := 11) rfl (.pointer (some ⟨ad.block, ad.off + (p + 3), none⟩)) (by kernel_rfl) (by kernel_rfl) (by kernel_rfl) (by kernel_rfl) (fun _ _ _ h => h) hS (fun w' d => by obtain ⟨d0, d1, d2, d3, d4, d5⟩ := d; go_simp) ?_
        try simp only [Act.put, List.setIfInBounds_toArray, List.set_cons_zero, List.set_cons_succ]
        refine zt [27] (i := 12) rfl (.int .u64 (f (p + 3))) (by kernel_rfl) (by kernel_rfl) (by kernel_rfl) (by kernel_rfl) (fun _ _ _ h => h) hS (fun w' d => by obtain ⟨d0, d1, d2, d3, d4, d5⟩ := d; go_simp) ?_
        try simp only [Act.put, List.setIfInBounds_toArray, List.set_cons_zero, List.set_cons_succ]
        refine zt [27] (i := 13) rfl (.int .u64 (IntKind.u64.wrap (f p + f (p + 1)))) (by kernel_rfl) (by kernel_rfl) (by kernel_rfl) (by kernel_rfl) (fun _ _ _ h => h) hS (fun w' d => by obtain ⟨d0, d1, d2, d3, d4, d5⟩ := d; go_simp) ?_
        try simp only [Act.put, List.setIfInBounds_toArray, List.set_cons_zero, List.set_cons_succ]
        refine zt [27] (i := 14) rfl (.int .u64 (IntKind.u64.wrap (f (p + 2) + f (p + 3)))) (by kernel_rfl) (by kernel_rfl) (by kernel_rfl) (by kernel_rfl) (fun _ _ _ h => h) hS (fun w' d => by obtain ⟨d0, d1, d2, d3, d4, d5⟩ := d; go_simp) ?_
        try simp only [Act.put, List.setIfInBounds_toArray, List.set_cons_zero, List.set_cons_succ]
        refine zt [27] (i := 15) rfl (.int .u64 (IntKind.u64.wrap (IntKind.u64.wrap (f p + f (p + 1)) * IntKind.u64.wrap (f (p + 2) + f (p + 3))))) (by kernel_rfl) (by kernel_rfl) (by kernel_rfl) (by kernel_rfl) (fun _ _ _ h => h) hS (fun w' d => by obtain ⟨d0, d1, d2, d3, d4, d5⟩ := d; go_simp) ?_
        try simp only [Act.put, List.setIfInBounds_toArray, List.set_cons_zero, List.set_cons_succ]
        refine zt [27] (i := 16) rfl (.slice (some ad) len c) (by kernel_rfl) (by kernel_rfl) (by kernel_rfl) (by kernel_rfl) (fun _ _ _ h => h) hS (fun w' d => by obtain ⟨d0, d1, d2, d3, d4, d5⟩ := d; go_simp) ?_
        try simp only [Act.put, List.setIfInBounds_toArray, List.set_cons_zero, List.set_cons_succ]
        refine zt [27] (i := 17) rfl (.int .i64 (p : Int)) (by kernel_rfl) (by kernel_rfl) (by kernel_rfl) (by kernel_rfl) (fun _ _ _ h => h) hS (fun w' d => by obtain ⟨d0, d1, d2, d3, d4, d5⟩ := d; go_simp) ?_
        try simp only [Act.put, List.setIfInBounds_toArray, List.set_cons_zero, List.set_cons_succ]
        refine zt [27] (i := 18) rfl (.int .i64 ((p : Int) + 4)) (by kernel_rfl) (by kernel_rfl) (by kernel_rfl) (by kernel_rfl) (fun _ _ _ h => h) hS (fun w' d => by obtain ⟨d0, d1, d2, d3, d4, d5⟩ := d; go_simp) ?_
        try simp only [Act.put, List.setIfInBounds_toArray, List.set_cons_zero, List.set_cons_succ]
        refine zt [27] (i := 19) rfl (.pointer (some ⟨ad.block, ad.off + (p + 4), none⟩)) (by kernel_rfl) (by kernel_rfl) (by kernel_rfl) (by kernel_rfl) (fun _ _ _ h => h) hS (fun w' d => by obtain ⟨d0, d1, d2, d3, d4, d5⟩ := d; go_simp) ?_
        try simp only [Act.put, List.setIfInBounds_toArray, List.set_cons_zero, List.set_cons_succ]
        refine zt [27] (i := 20) rfl (.int .u64 (f (p + 4))) (by kernel_rfl) (by kernel_rfl) (by kernel_rfl) (by kernel_rfl) (fun _ _ _ h => h) hS (fun w' d => by obtain ⟨d0, d1, d2, d3, d4, d5⟩ := d; go_simp) ?_
        try simp only [Act.put, List.setIfInBounds_toArray, List.set_cons_zero, List.set_cons_succ]
        refine zt [27] (i := 21) rfl (.int .u64 (IntKind.u64.wrap (IntKind.u64.wrap (IntKind.u64.wrap (f p + f (p + 1)) * IntKind.u64.wrap (f (p + 2) + f (p + 3))) - f (p + 4)))) (by kernel_rfl) (by kernel_rfl) (by kernel_rfl) (by kernel_rfl) (fun _ _ _ h => h) hS (fun w' d => by obtain ⟨d0, d1, d2, d3, d4, d5⟩ := d; go_simp) ?_
        try simp only [Act.put, List.setIfInBounds_toArray, List.set_cons_zero, List.set_cons_succ]
        refine zt [27] (i := 22) rfl (tri (f (p + 1)) (f (p + 3)) (IntKind.u64.wrap (IntKind.u64.wrap (IntKind.u64.wrap (f p + f (p + 1)) * IntKind.u64.wrap (f (p + 2) + f (p + 3))) - f (p + 4)))) (by kernel_rfl) (by kernel_rfl) (by kernel_rfl) (by kernel_rfl) (fun _ _ _ h => h) hS (fun w' d => by obtain ⟨d0, d1, d2, d3, d4, d5⟩ := d; go_simp) ?_
        try simp only [Act.put, List.setIfInBounds_toArray, List.set_cons_zero, List.set_cons_succ]
        have HAL := Lib.hid (HD.out.new (((Below.refl _ wd).alloc (Nat.le_refl _) (.cells #[.int .u64 (f (p + 1)), .int .u64 (f (p + 3)), .int .u64 (IntKind.u64.wrap (IntKind.u64.wrap (IntKind.u64.wrap (f p + f (p + 1)) * IntKind.u64.wrap (f (p + 2) + f (p + 3))) - f (p + 4)))] 48))))
        obtain ⟨A3, c3, wa, hra, hca, hfa, hRa, hBa⟩ := HD.out.addTn 3 (by omega) k rfl (by have := HB.out; have := HN.out.2; omega) (f (p + 1)) (f (p + 3)) (IntKind.u64.wrap (IntKind.u64.wrap (IntKind.u64.wrap (f p + f (p + 1)) * IntKind.u64.wrap (f (p + 2) + f (p + 3))) - f (p + 4))) HE.out.2.1 HE.out.2.2.1 HE.out.2.2.2
        have HA := Lib.hid hra
        have HR := Lib.hid (And.intro hRa hBa)
        clear hra hRa hBa
        refine z1 (i := 23) (by kernel_rfl) rfl (fun K hK => ?_)
        go_simp
        refine hK.out _ _ (.inr (Wx.of (HN.out.1.below HAL.out.bl) HPL.out (HAL.out.b.cell 3 rfl))) ?_
        clear hK K
        try simp only [Act.put, List.setIfInBounds_toArray, List.set_cons_zero, List.set_cons_succ]
        refine z1 (i := 24) (by kernel_rfl) rfl (fun K hK => ?_)
        refine wp_append_run _ _ 34 rfl _ _ _ _ rfl rfl HA.out ?_
        refine hK.out _ _ (.inr (Wx.of (HN.out.1.below HR.out.2) HPL.out hca)) ?_
        clear hK K HA HAL
        try simp only [Act.put, List.setIfInBounds_toArray, List.set_cons_zero, List.set_cons_succ]
        refine z1 (i := 25) (by kernel_rfl) rfl (fun K hK => ?_)
        go_simp
        refine hK.out _ _ (.inr (Wx.of (HN.out.1.below HR.out.2) HPL.out hca)) ?_
        clear hK K
        try simp only [Act.put, List.setIfInBounds_toArray, List.set_cons_zero, List.set_cons_succ]
        refine z1 (i := 26) (by kernel_rfl) rfl (fun K hK => ?_)
        go_simp
        refine hK.out _ _ (.inr (Wx.of (HN.out.1.below HR.out.2) HPL.out hca)) ?_
        clear hK K
        try simp only [Act.put, List.setIfInBounds_toArray, List.set_cons_zero, List.set_cons_succ]
        refine z1 (i := 27) (by kernel_rfl) rfl (fun K hK => ?_)
        go_simp
        refine hK.out _ _ (.inl rfl) ?_
        clear hK K
        refine wpAnyZ_done (by kernel_rfl) ?_ _
        clear hS HD HV3 hca hfa
        have HV4 := Lib.hid HR.out.1
        clear HR
        go_wp2
        go_roundw
        case rel => exact ⟨k + 1, by have := HB.out; omega, by go_num, by have := HP.out; (first | (go_num; done) | (go_num; omega)), _, by have := HV4.out; rw [show put6 (put6 (cnt k 0 0) 0 (k + 1)) 3 (k + 1) = cnt (k + 1) 0 0 from cnt_T k 0 0] at this; exact this⟩
        case measure => have := HB.out; simp [intOf]; omega
    · obtain rfl : n1 = k := by omega
      have lt1 : ¬ ((n1 : Int) < (n1 : Int)) := by omega
      obtain ⟨wA0, hwA0⟩ : ∃ x, x = wr := ⟨_, rfl⟩
      subst hwA0
      have HR1 : Hid (Ro wB m (YY f n1 n2) (CC f n1 n2) V (cnt n1 0 0) wA0) := HV
      clear HV hk hlt
      go_wp2
      go_loopw [11, 15] (fun v i wr => ∃ k : Nat, k ≤ n2 ∧ i = .int .i64 k ∧ v = .int .i64 ((5 * (n1 + k) : Nat) : Int) ∧ Hid (∃ V, Ro wB m (YY f n1 n2) (CC f n1 n2) V (cnt n1 k 0) wr)) (fun _ i _ => n2 - (intOf i).toNat)
      case atStart => exact ⟨0, by omega, rfl, rfl, _, HR1.out⟩
      case round =>
        obtain ⟨k, hk, rfl, rfl, HI⟩ := hrel
        obtain ⟨V, hV⟩ := HI.out
        have HV := Lib.hid hV
        clear HI hV HR1
        by_cases hlt : k < n2
        · focus
            have lt1 : (k : Int) < (n2 : Int) := by omega
            have ek : IntKind.i64.wrap ((k : Int) + 1) = (k : Int) + 1 := i64_nat _ (by omega) (by have := HN.out.2; omega)
            obtain ⟨p, hp⟩ : ∃ p, 5 * (n1 + k) = p := ⟨_, rfl⟩
            have hpl : p + 5 ≤ len := by have := HN.out.2; omega
            obtain ⟨i1, i2, i3, i4, i5, r0, r1, r2, r3, r4, rz⟩ := idx_nums len p hpl HN.out.2.1
            obtain ⟨⟨g1, g2, g3, g4⟩, t1, t2, t3, t4⟩ := idx_nums2 p
            have hAt := HN.out.1.below HV.out.bl
            obtain ⟨ad, rfl, x0⟩ := hAt p (by omega)
            obtain ⟨ad1, h1, x1⟩ := hAt (p + 1) (by omega)
            cases h1
            obtain ⟨ad2, h2, x2⟩ := hAt (p + 2) (by omega)
            cases h2
            obtain ⟨ad3, h3, x3⟩ := hAt (p + 3) (by omega)
            cases h3
            obtain ⟨ad4, h4, x4⟩ := hAt (p + 4) (by omega)
            cases h4
            have y1 := word_forms (by omega) x1
            have y2 := word_forms (by omega) x2
            have y3 := word_forms (by omega) x3
            have y4 := word_forms (by omega) x4
            have HE := Lib.hid (eqs2 f n1 n2 k p hp)
            have HP := Lib.hid hp
            have HB := Lib.hid (And.intro hk hlt)
            have HPL := Lib.hid hpl
            rw [hp]
            clear hp hAt hpl hk hlt
            go_wp2
            go_quiet (fail)
            go_wp2
            have HV1 := Lib.hid (HV.out.new (Below.drewN _ nq))
            generalize wr.drewN nq = w1 at *
            clear x0 x1 x2 x3 x4 y1 y2 y3 y4 HV
            refine region_z 22 (fun w' => Wx w' ad p f m 1 (V 1)) (by kernel_rfl) ?_
            have HD := Lib.hid (HV1.out.new (Below.refl _ w1).drew)
            generalize w1.drew = wd at *
            have hS : (fun w' => Wx w' ad p f m 1 (V 1)) wd := Wx.of (HN.out.1.below HD.out.bl) HPL.out (HD.out.b.cell 1 rfl)
            refine zt [22] (i := 0) rfl (.pointer (some ⟨m, 0, none⟩)) (by kernel_rfl) (by kernel_rfl) (by kernel_rfl) (by kernel_rfl) (fun _ _ _ h => h) hS (fun w' d => by obtain ⟨d0, d1, d2, d3, d4, d5⟩ := d; go_simp) ?_
            try simp only [Act.put, List.setIfInBounds_toArray, List.set_cons_zero, List.set_cons_succ]
            refine zt [22] (i := 1) rfl (.pointer (some ⟨m, 1, none⟩)) (by kernel_rfl) (by kernel_rfl) (by kernel_rfl) (by kernel_rfl) (fun _ _ _ h => h) hS (fun w' d => by obtain ⟨d0, d1, d2, d3, d4, d5⟩ := d; go_simp) ?_
            try simp only [Act.put, List.setIfInBounds_toArray, List.set_cons_zero, List.set_cons_succ]
            refine zt [22] (i := 2) rfl (V 1) (by kernel_rfl) (by kernel_rfl) (by kernel_rfl) (by kernel_rfl) (fun _ _ _ h => h) hS (fun w' d => by obtain ⟨d0, d1, d2, d3, d4, d5⟩ := d; go_simp) ?_
            try simp only [Act.put, List.setIfInBounds_toArray, List.set_cons_zero, List.set_cons_succ]
            refine zt [22] (i := 3) rfl (.slice (some ad) len c) (by kernel_rfl) (by kernel_rfl) (by kernel_rfl) (by kernel_rfl) (fun _ _ _ h => h) hS (fun w' d => by obtain ⟨d0, d1, d2, d3, d4, d5⟩ := d; go_simp) ?_
            try simp only [Act.put, List.setIfInBounds_toArray, List.set_cons_zero, List.set_cons_succ]
            refine zt [22] (i := 4) rfl (.int .i64 (p : Int)) (by kernel_rfl) (by kernel_rfl) (by kernel_rfl) (by kernel_rfl) (fun _ _ _ h => h) hS (fun w' d => by obtain ⟨d0, d1, d2, d3, d4, d5⟩ := d; go_simp) ?_
            try simp only [Act.put, List.setIfInBounds_toArray, List.set_cons_zero, List.set_cons_succ]
            refine zt [22] (i := 5) rfl (.pointer (some (ad.add p))) (by kernel_rfl) (by kernel_rfl) (by kernel_rfl) (by kernel_rfl) (fun _ _ _ h => h) hS (fun w' d => by obtain ⟨d0, d1, d2, d3, d4, d5⟩ := d; go_simp) ?_
            try simp only [Act.put, List.setIfInBounds_toArray, List.set_cons_zero, List.set_cons_succ]
            refine zt [22] (i := 6) rfl (.int .u64 (f p)) (by kernel_rfl) (by kernel_rfl) (by kernel_rfl) (by kernel_rfl) (fun _ _ _ h => h) hS (fun w' d => by obtain ⟨d0, d1, d2, d3, d4, d5⟩ := d; go_simp) ?_
            try simp only [Act.put, List.setIfInBounds_toArray, List.set_cons_zero, List.set_cons_succ]
            refine zt [22] (i := 7) rfl (.slice (some ad) len c) (by kernel_rfl) (by kernel_rfl) (by kernel_rfl) (by kernel_rfl) (fun _ _ _ h => h) hS (fun w' d => by obtain ⟨d0, d1, d2, d3, d4, d5⟩ := d; go_simp) ?_
            try simp only [Act.put, List.setIfInBounds_toArray, List.set_cons_zero, List.set_cons_succ]
            refine zt [22] (i := 8) rfl (.int .i64 (p : Int)) (by kernel_rfl) (by kernel_rfl) (by kernel_rfl) (by kernel_rfl) (fun _ _ _ h => h) hS (fun w' d => by obtain ⟨d0, d1, d2, d3, d4, d5⟩ := d; go_simp) ?_
            try simp only [Act.put, List.setIfInBounds_toArray, List.set_cons_zero, List.set_cons_succ]
            refine zt [22] (i := 9) rfl (.int .i64 ((p : Int) + 2)) (by kernel_rfl) (by kernel_rfl) (by kernel_rfl) (by kernel_rfl) (fun _ _ _ h => h) hS (fun w' d => by obtain ⟨d0, d1, d2, d3, d4, d5⟩ := d; go_simp) ?_
            try simp only [Act.put, List.setIfInBounds_toArray, List.set_cons_zero, List.set_cons_succ]
            refine zt [22] (i := 10) rfl (.pointer (some ⟨ad.block, ad.off + (p + 2), none⟩)) (by kernel_rfl) (by kernel_rfl) (by kernel_rfl) (by kernel_rfl) (fun _ _ _ h => h) hS (fun w' d => by obtain ⟨d0, d1, d2, d3, d4, d5⟩ := d; go_simp) ?_
            try simp only [Act.put, List.setIfInBounds_toArray, List.set_cons_zero, List.set_cons_succ]
            refine zt [22] (i := 11) rfl (.int .u64 (f (p + 2))) (by kernel_rfl) (by kernel_rfl) (by kernel_rfl) (by kernel_rfl) (fun _ _ _ h => h) hS (fun w' d => by obtain ⟨d0, d1, d2, d3, d4, d5⟩ := d; go_simp) ?_
            try simp only [Act.put, List.setIfInBounds_toArray, List.set_cons_zero, List.set_cons_succ]
            refine zt [22] (i := 12) rfl (.slice (some ad) len c) (by kernel_rfl) (by kernel_rfl) (by kernel_rfl) (by kernel_rfl) (fun _ _ _ h => h) hS (fun w' d => by obtain ⟨d0, d1, d2, d3, d4, d5⟩ := d; go_simp) ?_
            try simp only [Act.put, List.setIfInBounds_toArray, List.set_cons_zero, List.set_cons_succ]
            refine zt [22] (i := 13) rfl (.int .i64 (p : Int)) (by kernel_rfl) (by kernel_rfl) (by kernel_rfl) (by kernel_rfl) (fun _ _ _ h => h) hS (fun w' d => by obtain ⟨d0, d1, d2, d3, d4, d5⟩ := d; go_simp) ?_
            try simp only [Act.put, List.setIfInBounds_toArray, List.set_cons_zero, List.set_cons_succ]
            refine zt [22] (i := 14) rfl (.int .i64 ((p : Int) + 4)) (by kernel_rfl) (by kernel_rfl) (by kernel_rfl) (by kernel_rfl) (fun _ _ _ h => h) hS (fun w' d => by obtain ⟨d0, d1, d2, d3, d4, d5⟩ := d; go_simp) ?_
            try simp only [Act.put, List.setIfInBounds_toArray, List.set_cons_zero, List.set_cons_succ]
            refine zt [22] (i := 15) rfl (.pointer (some ⟨ad.block, ad.off + (p + 4), none⟩)) (by kernel_rfl) (by kernel_rfl) (by kernel_rfl) (by kernel_rfl) (fun _ _ _ h => h) hS (fun w' d => by obtain ⟨d0, d1, d2, d3, d4, d5⟩ := d; go_simp) ?_
            try simp only [Act.put, List.setIfInBounds_toArray, List.set_cons_zero, List.set_cons_succ]
            refine zt [22] (i := 16) rfl (.int .u64 (f (p + 4))) (by kernel_rfl) (by kernel_rfl) (by kernel_rfl) (by kernel_rfl) (fun _ _ _ h => h) hS (fun w' d => by obtain ⟨d0, d1, d2, d3, d4, d5⟩ := d; go_simp) ?_
            try simp only [Act.put, List.setIfInBounds_toArray, List.set_cons_zero, List.set_cons_succ]
            refine zt [22] (i := 17) rfl (tri (f p) (f (p + 2)) (f (p + 4))) (by kernel_rfl) (by kernel_rfl) (by kernel_rfl) (by kernel_rfl) (fun _ _ _ h => h) hS (fun w' d => by obtain ⟨d0, d1, d2, d3, d4, d5⟩ := d; go_simp) ?_
            try simp only [Act.put, List.setIfInBounds_toArray, List.set_cons_zero, List.set_cons_succ]
            have HAL := Lib.hid (HD.out.new (((Below.refl _ wd).alloc (Nat.le_refl _) (.cells #[.int .u64 (f p), .int .u64 (f (p + 2)), .int .u64 (f (p + 4))] 48))))
            obtain ⟨A1, c1, wa, hra, hca, hfa, hRa, hBa⟩ := HD.out.addTn 1 (by omega) k rfl (by have := HB.out; have := HN.out.2; omega) (f p) (f (p + 2)) (f (p + 4)) HE.out.1.1 HE.out.1.2.1 HE.out.1.2.2
            have HA := Lib.hid hra
            have HR := Lib.hid (And.intro hRa hBa)
            clear hra hRa hBa
            refine z1 (i := 18) (by kernel_rfl) rfl (fun K hK => ?_)
            go_simp
            refine hK.out _ _ (.inr (Wx.of (HN.out.1.below HAL.out.bl) HPL.out (HAL.out.b.cell 1 rfl))) ?_
            clear hK K
            try simp only [Act.put, List.setIfInBounds_toArray, List.set_cons_zero, List.set_cons_succ]
            refine z1 (i := 19) (by kernel_rfl) rfl (fun K hK => ?_)
            refine wp_append_run _ _ 34 rfl _ _ _ _ rfl rfl HA.out ?_
            refine hK.out _ _ (.inr (Wx.of (HN.out.1.below HR.out.2) HPL.out hca)) ?_
            clear hK K HA HAL
            try simp only [Act.put, List.setIfInBounds_toArray, List.set_cons_zero, List.set_cons_succ]
            refine z1 (i := 20) (by kernel_rfl) rfl (fun K hK => ?_)
            go_simp
            refine hK.out _ _ (.inr (Wx.of (HN.out.1.below HR.out.2) HPL.out hca)) ?_
            clear hK K
            try simp only [Act.put, List.setIfInBounds_toArray, List.set_cons_zero, List.set_cons_succ]
            refine z1 (i := 21) (by kernel_rfl) rfl (fun K hK => ?_)
            go_simp
            refine hK.out _ _ (.inr (Wx.of (HN.out.1.below HR.out.2) HPL.out hca)) ?_
            clear hK K
            try simp only [Act.put, List.setIfInBounds_toArray, List.set_cons_zero, List.set_cons_succ]
            refine z1 (i := 22) (by kernel_rfl) rfl (fun K hK => ?_)
            go_simp
            refine hK.out _ _ (.inl rfl) ?_
            clear hK K
            refine wpAnyZ_done (by kernel_rfl) ?_ _
            clear hS HD HV1 hca hfa
            have HV2 := Lib.hid HR.out.1
            clear HR
            generalize (wa.setCell ⟨m, 1, none⟩ (.slice A1 (k + 1) c1)) = w2 at *
            obtain ⟨V2, hV2⟩ : ∃ x, put6 V 1 (.slice A1 (k + 1) c1) = x := ⟨_, rfl⟩
            have HV3 : Hid (Ro wB m (YY f n1 n2) (CC f n1 n2) V2 (put6 (cnt n1 k 0) 1 (k + 1)) w2) := by rw [← hV2]; exact HV2
            clear HV2 hV2
            go_wp2
            refine region_z 27 (fun w' => Wx w' ad p f m 4 (V2 4)) (by kernel_rfl) ?_
            have HD := Lib.hid (HV3.out.new (Below.refl _ w2).drew)
            generalize w2.drew = wd at *
            have hS : (fun w' => Wx w' ad p f m 4 (V2 4)) wd := Wx.of (HN.out.1.below HD.out.bl) HPL.out (HD.out.b.cell 4 rfl)
            refine zt [27] (i := 0) rfl (.pointer (some ⟨m, 3, none⟩)) (by kernel_rfl) (by kernel_rfl) (by kernel_rfl) (by kernel_rfl) (fun _ _ _ h => h) hS (fun w' d => by obtain ⟨d0, d1, d2, d3, d4, d5⟩ := d; go_simp) ?_
            try simp only [Act.put, List.setIfInBounds_toArray, List.set_cons_zero, List.set_cons_succ]
            refine zt [27] (i := 1) rfl (.pointer (some ⟨m, 4, none⟩)) (by kernel_rfl) (by kernel_rfl) (by kernel_rfl) (by kernel_rfl) (fun _ _ _ h => h) hS (fun w' d => by obtain ⟨d0, d1, d2, d3, d4, d5⟩ := d; go_simp) ?_
            try simp only [Act.put, List.setIfInBounds_toArray, List.set_cons_zero, List.set_cons_succ]
            refine zt [27] (i := 2) rfl (V2 4) (by kernel_rfl) (by kernel_rfl) (by kernel_rfl) (by kernel_rfl) (fun _ _ _ h => h) hS (fun w' d => by obtain ⟨d0, d1, d2, d3, d4, d5⟩ := d; go_simp) ?_
            try simp only [Act.put, List.setIfInBounds_toArray, List.set_cons_zero, List.set_cons_succ]
            refine zt [27] (i := 3) rfl (.slice (some ad) len c) (by kernel_rfl) (by kernel_rfl) (by kernel_rfl) (by kernel_rfl) (fun _ _ _ h => h) hS (fun w' d => by obtain ⟨d0, d1, d2, d3, d4, d5⟩ := d; go_simp) ?_
            try simp only [Act.put, List.setIfInBounds_toArray, List.set_cons_zero, List.set_cons_succ]
            refine zt [27] (i := 4) rfl (.int .i64 (p : Int)) (by kernel_rfl) (by kernel_rfl) (by kernel_rfl) (by kernel_rfl) (fun _ _ _ h => h) hS (fun w' d => by obtain ⟨d0, d1, d2, d3, d4, d5⟩ := d; go_simp) ?_
            try simp only [Act.put, List.setIfInBounds_toArray, List.set_cons_zero, List.set_cons_succ]
            refine zt [27] (i := 5) rfl (.int .i64 ((p : Int) + 1)) (by kernel_rfl) (by kernel_rfl) (by kernel_rfl) (by kernel_rfl) (fun _ _ _ h => h) hS (fun w' d => by obtain ⟨d0, d1, d2, d3, d4, d5⟩ := d; go_simp) ?_
            try simp only [Act.put, List.setIfInBounds_toArray, List.set_cons_zero, List.set_cons_succ]
            refine zt [27] (i := 6) rfl (.pointer (some ⟨ad.block, ad.off + (p + 1), none⟩)) (by kernel_rfl) (by kernel_rfl) (by kernel_rfl) (by kernel_rfl) (fun _ _ _ h => h) hS (fun w' d => by obtain ⟨d0, d1, d2, d3, d4, d5⟩ := d; go_simp) ?_
            try simp only [Act.put, List.setIfInBounds_toArray, List.set_cons_zero, List.set_cons_succ]
            refine zt [27] (i := 7) rfl (.int .u64 (f (p + 1))) (by kernel_rfl) (by kernel_rfl) (by kernel_rfl) (by kernel_rfl) (fun _ _ _ h => h) hS (fun w' d => by obtain ⟨d0, d1, d2, d3, d4, d5⟩ := d; go_simp) ?_
            try simp only [Act.put, List.setIfInBounds_toArray, List.set_cons_zero, List.set_cons_succ]
            refine zt [27] (i := 8) rfl (.slice (some ad) len c) (by kernel_rfl) (by kernel_rfl) (by kernel_rfl) (by kernel_rfl) (fun _ _ _ h => h) hS (fun w' d => by obtain ⟨d0, d1, d2, d3, d4, d5⟩ := d; go_simp) ?_
            try simp only [Act.put, List.setIfInBounds_toArray, List.set_cons_zero, List.set_cons_succ]
            refine zt [27] (i := 9) rfl (.int .i64 (p : Int)) (by kernel_rfl) (by kernel_rfl) (by kernel_rfl) (by kernel_rfl) (fun _ _ _ h => h) hS (fun w' d => by obtain ⟨d0, d1, d2, d3, d4, d5⟩ := d; go_simp) ?_
            try simp only [Act.put, List.setIfInBounds_toArray, List.set_cons_zero, List.set_cons_succ]
            refine zt [27] (i := 10) rfl (.int .i64 ((p : Int) + 3)) (by kernel_rfl) (by kernel_rfl) (by kernel_rfl) (by kernel_rfl) (fun _ _ _ h => h) hS (fun w' d => by obtain ⟨d0, d1, d2, d3, d4, d5⟩ := d; go_simp) ?_
            try simp only [Act.put, List.setIfInBounds_toArray, List.set_cons_zero, List.set_cons_succ]
            refine zt [27] (i := 11) rfl (.pointer (some ⟨ad.block, ad.off + (p + 3), none⟩)) (by kernel_rfl) (by kernel_rfl) (by kernel_rfl) (by kernel_rfl) (fun _ _ _ h => h) hS (fun w' d => by obtain ⟨d0, d1, d2, d3, d4, d5⟩ := d; go_simp) ?_
            try simp only [Act.put, List.setIfInBounds_toArray, List.set_cons_zero, List.set_cons_succ]
            refine zt [27] (i := 12) rfl (.int .u64 (f (p + 3))) (by kernel_rfl) (by kernel_rfl) (by kernel_rfl) (by kernel_rfl) (fun _ _ _ h => h) hS (fun w' d => by obtain ⟨d0, d1, d2, d3, d4, d5⟩ := d; go_simp) ?_
            try simp only [Act.put, List.setIfInBounds_toArray, List.set_cons_zero, List.set_cons_succ]
            refine zt [27] (i := 13) rfl (.int .u64 (bits .xor .u64 (f p) (f (p + 1)))) (by kernel_rfl) (by kernel_rfl) (by kernel_rfl) (by kernel_rfl) (fun _ _ _ h => h) hS (fun w' d => by obtain ⟨d0, d1, d2, d3, d4, d5⟩ := d; go_simp) ?_
            try simp only [Act.put, List.setIfInBounds_toArray, List.set_cons_zero, List.set_cons_succ]
            refine zt [27] (i := 14) rfl (.int .u64 (bits .xor .u64 (f (p + 2)) (f (p + 3)))) (by kernel_rfl) (by kernel_rfl) (by kernel_rfl) (by kernel_rfl) (fun _ _ _ h => h) hS (fun w' d => by obtain ⟨d0, d1, d2, d3, d4, d5⟩ := d; go_simp) ?_
            try simp only [Act.put, List.setIfInBounds_toArray, List.set_cons_zero, List.set_cons_succ]
            refine zt [27] (i := 15) rfl (.int .u64 (bits .and .u64 (bits .xor .u64 (f p) (f (p + 1))) (bits .xor .u64 (f (p + 2)) (f (p + 3))))) (by kernel_rfl) (by kernel_rfl) (by kernel_rfl) (by kernel_rfl) (fun _ _ _ h => h) hS (fun w' d => by obtain ⟨d0, d1, d2, d3, d4, d5⟩ := d; go_simp) ?_
            try simp only [Act.put, List.setIfInBounds_toArray, List.set_cons_zero, List.set_cons_succ]
            refine zt [27] (i := 16) rfl (.slice (some ad) len c) (by kernel_rfl) (by kernel_rfl) (by kernel_rfl) (by kernel_rfl) (fun _ _ _ h => h) hS (fun w' d => by obtain ⟨d0, d1, d2, d3, d4, d5⟩ := d; go_simp) ?_
            try simp only [Act.put, List.setIfInBounds_toArray, List.set_cons_zero, List.set_cons_succ]
            refine zt [27] (i := 17) rfl (.int .i64 (p : Int)) (by kernel_rfl) (by kernel_rfl) (by kernel_rfl) (by kernel_rfl) (fun _ _ _ h => h) hS (fun w' d => by obtain ⟨d0, d1, d2, d3, d4, d5⟩ := d; go_simp) ?_
            try simp only [Act.put, List.setIfInBounds_toArray, List.set_cons_zero, List.set_cons_succ]
            refine zt [27] (i := 18) rfl (.int .i64 ((p : Int) + 4)) (by kernel_rfl) (by kernel_rfl) (by kernel_rfl) (by kernel_rfl) (fun _ _ _ h => h) hS (fun w' d => by obtain ⟨d0, d1, d2, d3, d4, d5⟩ := d; go_simp) ?_
            try simp only [Act.put, List.setIfInBounds_toArray, List.set_cons_zero, List.set_cons_succ]
            refine zt [27] (i := 19) rfl (.pointer (some ⟨ad.block, ad.off + (p + 4), none⟩)) (by kernel_rfl) (by kernel_rfl) (by kernel_rfl) (by kernel_rfl) (fun _ _ _ h => h) hS (fun w' d => by obtain ⟨d0, d1, d2, d3, d4, d5⟩ := d; go_simp) ?_
            try simp only [Act.put, List.setIfInBounds_toArray, List.set_cons_zero, List.set_cons_succ]
            refine zt [27] (i := 20) rfl (.int .u64 (f (p + 4))) (by kernel_rfl) (by kernel_rfl) (by kernel_rfl) (by kernel_rfl) (fun _ _ _ h => h) hS (fun w' d => by obtain ⟨d0, d1, d2, d3, d4, d5⟩ := d; go_simp) ?_
            try simp only [Act.put, List.setIfInBounds_toArray, List.set_cons_zero, List.set_cons_succ]
            refine zt [27] (i := 21) rfl (.int .u64 (bits .xor .u64 (bits .and .u64 (bits .xor .u64 (f p) (f (p + 1))) (bits .xor .u64 (f (p + 2)) (f (p + 3)))) (f (p + 4)))) (by kernel_rfl) (by kernel_rfl) (by kernel_rfl) (by kernel_rfl) (fun _ _ _ h => h) hS (fun w' d => by obtain ⟨d0, d1, d2, d3, d4, d5⟩ := d; go_simp) ?_
            try simp only [Act.put, List.setIfInBounds_toArray, List.set_cons_zero, List.set_cons_succ]
            refine zt [27] (i := 22) rfl (tri (f (p + 1)) (f (p + 3)) (bits .xor .u64 (bits .and .u64 (bits .xor .u64 (f p) (f (p + 1))) (bits .xor .u64 (f (p + 2)) (f (p + 3)))) (f (p + 4)))) (by kernel_rfl) (by kernel_rfl) (by kernel_rfl) (by kernel_rfl) (fun _ _ _ h => h) hS (fun w' d => by obtain ⟨d0, d1, d2, d3, d4, d5⟩ := d; go_simp) ?_
            try simp only [Act.put, List.setIfInBounds_toArray, List.set_cons_zero, List.set_cons_succ]
            have HAL := Lib.hid (HD.out.new (((Below.refl _ wd).alloc (Nat.le_refl _) (.cells #[.int .u64 (f (p + 1)), .int .u64 (f (p + 3)), .int .u64 (bits .xor .u64 (bits .and .u64 (bits .xor .u64 (f p) (f (p + 1))) (bits .xor .u64 (f (p + 2)) (f (p + 3)))) (f (p + 4)))] 48))))
            obtain ⟨A4, c4, wa, hra, hca, hfa, hRa, hBa⟩ := HD.out.addTn 4 (by omega) k rfl (by have := HB.out; have := HN.out.2; omega) (f (p + 1)) (f (p + 3)) (bits .xor .u64 (bits .and .u64 (bits .xor .u64 (f p) (f (p + 1))) (bits .xor .u64 (f (p + 2)) (f (p + 3)))) (f (p + 4))) HE.out.2.1 HE.out.2.2.1 HE.out.2.2.2
            have HA := Lib.hid hra
            have HR := Lib.hid (And.intro hRa hBa)
            clear hra hRa hBa
            refine z1 (i := 23) (by kernel_rfl) rfl (fun K hK => ?_)
            go_simp
            refine hK.out _ _ (.inr (Wx.of (HN.out.1.below HAL.out.bl) HPL.out (HAL.out.b.cell 4 rfl))) ?_
            clear hK K
            try simp only [Act.put, List.setIfInBounds_toArray, List.set_cons_zero, List.set_cons_succ]
            refine z1 (i := 24) (by kernel_rfl) rfl (fun K hK => ?_)
            refine wp_append_run _ _ 34 rfl _ _ _ _ rfl rfl HA.out ?_
            refine hK.out _ _ (.inr (Wx.of (HN.out.1.below HR.out.2) HPL.out hca)) ?_
            clear hK K HA HAL
            try simp only [Act.put, List.setIfInBounds_toArray, List.set_cons_zero, List.set_cons_succ]
            refine z1 (i := 25) (by kernel_rfl) rfl (fun K hK => ?_)
            go_simp
            refine hK.out _ _ (.inr (Wx.of (HN.out.1.below HR.out.2) HPL.out hca)) ?_
            clear hK K
            try simp only [Act.put, List.setIfInBounds_toArray, List.set_cons_zero, List.set_cons_succ]
            refine z1 (i := 26) (by kernel_rfl) rfl (fun K hK => ?_)
            go_simp
            refine hK.out _ _ (.inr (Wx.of (HN.out.1.below HR.out.2) HPL.out hca)) ?_
            clear hK K
            try simp only [Act.put, List.setIfInBounds_toArray, List.set_cons_zero, List.set_cons_succ]
            refine z1 (i := 27) (by kernel_rfl) rfl (fun K hK => ?_)
            go_simp
            refine hK.out _ _ (.inl rfl) ?_
            clear hK K
            refine wpAnyZ_done (by kernel_rfl) ?_ _
            clear hS HD HV3 hca hfa
            have HV4 := Lib.hid HR.out.1
            clear HR
            go_wp2
            go_roundw
            case rel => exact ⟨k + 1, by have := HB.out; omega, by go_num, by have := HP.out; (first | (go_num; done) | (go_num; omega)), _, by have := HV4.out; rw [show put6 (put6 (cnt n1 k 0) 1 (k + 1)) 4 (k + 1) = cnt n1 (k + 1) 0 from cnt_B n1 k 0] at this; exact this⟩
            case measure => have := HB.out; simp [intOf]; omega
        · obtain rfl : n2 = k := by omega
          have lt1 : ¬ ((n2 : Int) < (n2 : Int)) := by omega
          obtain ⟨wA0, hwA0⟩ : ∃ x, x = wr := ⟨_, rfl⟩
          subst hwA0
          have HR2 : Hid (Ro wB m (YY f n1 n2) (CC f n1 n2) V (cnt n1 n2 0) wA0) := HV
          clear HV hk hlt
          go_wp2
          go_loopw [11, 18] (fun v i wr => ∃ k : Nat, k ≤ n3 ∧ i = .int .i64 k ∧ v = .int .i64 ((5 * (n1 + n2 + k) : Nat) : Int) ∧ Hid (∃ V, Ro wB m (YY f n1 n2) (CC f n1 n2) V (cnt n1 n2 k) wr)) (fun _ i _ => n3 - (intOf i).toNat)
          case atStart => exact ⟨0, by omega, rfl, rfl, _, HR2.out⟩
          case round =>
            obtain ⟨k, hk, rfl, rfl, HI⟩ := hrel
            obtain ⟨V, hV⟩ := HI.out
            have HV := Lib.hid hV
            clear HI hV HR2
            by_cases hlt : k < n3
            · focus
                have lt1 : (k : Int) < (n3 : Int) := by omega
                have ek : IntKind.i64.wrap ((k : Int) + 1) = (k : Int) + 1 := i64_nat _ (by omega) (by have := HN.out.2; omega)
                obtain ⟨p, hp⟩ : ∃ p, 5 * (n1 + n2 + k) = p := ⟨_, rfl⟩
                have hpl : p + 5 ≤ len := by have := HN.out.2; omega
                obtain ⟨i1, i2, i3, i4, i5, r0, r1, r2, r3, r4, rz⟩ := idx_nums len p hpl HN.out.2.1
                obtain ⟨⟨g1, g2, g3, g4⟩, t1, t2, t3, t4⟩ := idx_nums2 p
                have hAt := HN.out.1.below HV.out.bl
                obtain ⟨ad, rfl, x0⟩ := hAt p (by omega)
                obtain ⟨ad1, h1, x1⟩ := hAt (p + 1) (by omega)
                cases h1
                obtain ⟨ad2, h2, x2⟩ := hAt (p + 2) (by omega)
                cases h2
                obtain ⟨ad3, h3, x3⟩ := hAt (p + 3) (by omega)
                cases h3
                obtain ⟨ad4, h4, x4⟩ := hAt (p + 4) (by omega)
                cases h4
                have y1 := word_forms (by omega) x1
                have y2 := word_forms (by omega) x2
                have y3 := word_forms (by omega) x3
                have y4 := word_forms (by omega) x4
                have HE := Lib.hid (eqs3 f n1 n2 k p hp)
                have HP := Lib.hid hp
                have HB := Lib.hid (And.intro hk hlt)
                have HPL := Lib.hid hpl
                rw [hp]
                clear hp hAt hpl hk hlt
                clear x0 x1 x2 x3 x4 y1 y2 y3 y4
                go_upto_region 24 with fail
                go_cut [19, 20] from 212 to 234 (fun a b wx => Hid (∃ x y, a = .pointer (some ⟨x, 0, none⟩) ∧ b = .pointer (some ⟨y, 0, none⟩) ∧ Blk wx x 52 #[.int .u64 (f p), .int .u64 (f (p + 1))] ∧ Blk wx y 52 #[.int .u64 (f (p + 2)), .int .u64 (f (p + 3))] ∧ wr.heap.size ≤ x ∧ wr.heap.size ≤ y ∧ Ro wB m (YY f n1 n2) (CC f n1 n2) V (cnt n1 n2 k) wx))
                case first =>
                  focus
                    go_wp2_with fail
                    refine region_z 24 (fun w' => Wx w' ad p f m 2 (V 2)) (by kernel_rfl) ?_
                    have HD := Lib.hid (HV.out.new (Below.refl _ wr).drew)
                    have HSZ := Lib.hid (show wr.heap.size ≤ wr.drew.heap.size from Nat.le_refl _)
                    clear HV
                    generalize wr.drew = wd at *
                    have hS : (fun w' => Wx w' ad p f m 2 (V 2)) wd := Wx.of (HN.out.1.below HD.out.bl) HPL.out (HD.out.b.cell 2 rfl)
                    refine zt [24] (i := 0) rfl (.slice (some ad) len c) (by kernel_rfl) (by kernel_rfl) (by kernel_rfl) (by kernel_rfl) (fun _ _ _ h => h) hS (fun w' d => by obtain ⟨d0, d1, d2, d3, d4, d5⟩ := d; go_simp) ?_
                    try simp only [Act.put, List.setIfInBounds_toArray, List.set_cons_zero, List.set_cons_succ]
                    refine zt [24] (i := 1) rfl (.int .i64 (p : Int)) (by kernel_rfl) (by kernel_rfl) (by kernel_rfl) (by kernel_rfl) (fun _ _ _ h => h) hS (fun w' d => by obtain ⟨d0, d1, d2, d3, d4, d5⟩ := d; go_simp) ?_
                    try simp only [Act.put, List.setIfInBounds_toArray, List.set_cons_zero, List.set_cons_succ]
                    refine zt [24] (i := 2) rfl (.pointer (some (ad.add p))) (by kernel_rfl) (by kernel_rfl) (by kernel_rfl) (by kernel_rfl) (fun _ _ _ h => h) hS (fun w' d => by obtain ⟨d0, d1, d2, d3, d4, d5⟩ := d; go_simp) ?_
                    try simp only [Act.put, List.setIfInBounds_toArray, List.set_cons_zero, List.set_cons_succ]
                    refine zt [24] (i := 3) rfl (.int .u64 (f p)) (by kernel_rfl) (by kernel_rfl) (by kernel_rfl) (by kernel_rfl) (fun _ _ _ h => h) hS (fun w' d => by obtain ⟨d0, d1, d2, d3, d4, d5⟩ := d; go_simp) ?_
                    try simp only [Act.put, List.setIfInBounds_toArray, List.set_cons_zero, List.set_cons_succ]
                    refine zt [24] (i := 4) rfl (.slice (some ad) len c) (by kernel_rfl) (by kernel_rfl) (by kernel_rfl) (by kernel_rfl) (fun _ _ _ h => h) hS (fun w' d => by obtain ⟨d0, d1, d2, d3, d4, d5⟩ := d; go_simp) ?_
                    try simp only [Act.put, List.setIfInBounds_toArray, List.set_cons_zero, List.set_cons_succ]
                    refine zt [24] (i := 5) rfl (.int .i64 (p : Int)) (by kernel_rfl) (by kernel_rfl) (by kernel_rfl) (by kernel_rfl) (fun _ _ _ h => h) hS (fun w' d => by obtain ⟨d0, d1, d2, d3, d4, d5⟩ := d; go_simp) ?_
                    try simp only [Act.put, List.setIfInBounds_toArray, List.set_cons_zero, List.set_cons_succ]
                    refine zt [24] (i := 6) rfl (.int .i64 ((p : Int) + 1)) (by kernel_rfl) (by kernel_rfl) (by kernel_rfl) (by kernel_rfl) (fun _ _ _ h => h) hS (fun w' d => by obtain ⟨d0, d1, d2, d3, d4, d5⟩ := d; go_simp) ?_
                    try simp only [Act.put, List.setIfInBounds_toArray, List.set_cons_zero, List.set_cons_succ]
                    refine zt [24] (i := 7) rfl (.pointer (some ⟨ad.block, ad.off + (p + 1), none⟩)) (by kernel_rfl) (by kernel_rfl) (by kernel_rfl) (by kernel_rfl) (fun _ _ _ h => h) hS (fun w' d => by obtain ⟨d0, d1, d2, d3, d4, d5⟩ := d; go_simp) ?_
                    try simp only [Act.put, List.setIfInBounds_toArray, List.set_cons_zero, List.set_cons_succ]
                    refine zt [24] (i := 8) rfl (.int .u64 (f (p + 1))) (by kernel_rfl) (by kernel_rfl) (by kernel_rfl) (by kernel_rfl) (fun _ _ _ h => h) hS (fun w' d => by obtain ⟨d0, d1, d2, d3, d4, d5⟩ := d; go_simp) ?_
                    try simp only [Act.put, List.setIfInBounds_toArray, List.set_cons_zero, List.set_cons_succ]
                    refine zt [24] (i := 9) rfl (.agg #[.int .u64 (f p), .int .u64 (f (p + 1))]) (by kernel_rfl) (by kernel_rfl) (by kernel_rfl) (by kernel_rfl) (fun _ _ _ h => h) hS (fun w' d => by obtain ⟨d0, d1, d2, d3, d4, d5⟩ := d; go_simp) ?_
                    try simp only [Act.put, List.setIfInBounds_toArray, List.set_cons_zero, List.set_cons_succ]
                    refine zt [24] (i := 10) rfl (.slice (some ad) len c) (by kernel_rfl) (by kernel_rfl) (by kernel_rfl) (by kernel_rfl) (fun _ _ _ h => h) hS (fun w' d => by obtain ⟨d0, d1, d2, d3, d4, d5⟩ := d; go_simp) ?_
                    try simp only [Act.put, List.setIfInBounds_toArray, List.set_cons_zero, List.set_cons_succ]
                    refine zt [24] (i := 11) rfl (.int .i64 (p : Int)) (by kernel_rfl) (by kernel_rfl) (by kernel_rfl) (by kernel_rfl) (fun _ _ _ h => h) hS (fun w' d => by obtain ⟨d0, d1, d2, d3, d4, d5⟩ := d; go_simp) ?_
                    try simp only [Act.put, List.setIfInBounds_toArray, List.set_cons_zero, List.set_cons_succ]
                    refine zt [24] (i := 12) rfl (.int .i64 ((p : Int) + 2)) (by kernel_rfl) (by kernel_rfl) (by kernel_rfl) (by kernel_rfl) (fun _ _ _ h => h) hS (fun w' d => by obtain ⟨d0, d1, d2, d3, d4, d5⟩ := d; go_simp) ?_
                    try simp only [Act.put, List.setIfInBounds_toArray, List.set_cons_zero, List.set_cons_succ]
                    refine zt [24] (i := 13) rfl (.pointer (some ⟨ad.block, ad.off + (p + 2), none⟩)) (by kernel_rfl) (by kernel_rfl) (by kernel_rfl) (by kernel_rfl) (fun _ _ _ h => h) hS (fun w' d => by obtain ⟨d0, d1, d2, d3, d4, d5⟩ := d; go_simp) ?_
                    try simp only [Act.put, List.setIfInBounds_toArray, List.set_cons_zero, List.set_cons_succ]
                    refine zt [24] (i := 14) rfl (.int .u64 (f (p + 2))) (by kernel_rfl) (by kernel_rfl) (by kernel_rfl) (by kernel_rfl) (fun _ _ _ h => h) hS (fun w' d => by obtain ⟨d0, d1, d2, d3, d4, d5⟩ := d; go_simp) ?_
                    try simp only [Act.put, List.setIfInBounds_toArray, List.set_cons_zero, List.set_cons_succ]
                    refine zt [24] (i := 15) rfl (.slice (some ad) len c) (by kernel_rfl) (by kernel_rfl) (by kernel_rfl) (by kernel_rfl) (fun _ _ _ h => h) hS (fun w' d => by obtain ⟨d0, d1, d2, d3, d4, d5⟩ := d; go_simp) ?_
                    try simp only [Act.put, List.setIfInBounds_toArray, List.set_cons_zero, List.set_cons_succ]
                    refine zt [24] (i := 16) rfl (.int .i64 (p : Int)) (by kernel_rfl) (by kernel_rfl) (by kernel_rfl) (by kernel_rfl) (fun _ _ _ h => h) hS (fun w' d => by obtain ⟨d0, d1, d2, d3, d4, d5⟩ := d; go_simp) ?_
                    try simp only [Act.put, List.setIfInBounds_toArray, List.set_cons_zero, List.set_cons_succ]
                    refine zt [24] (i := 17) rfl (.int .i64 ((p : Int) + 3)) (by kernel_rfl) (by kernel_rfl) (by kernel_rfl) (by kernel_rfl) (fun _ _ _ h => h) hS (fun w' d => by obtain ⟨d0, d1, d2, d3, d4, d5⟩ := d; go_simp) ?_
                    try simp only [Act.put, List.setIfInBounds_toArray, List.set_cons_zero, List.set_cons_succ]
                    refine zt [24] (i := 18) rfl (.pointer (some ⟨ad.block, ad.off + (p + 3), none⟩)) (by kernel_rfl) (by kernel_rfl) (by kernel_rfl) (by kernel_rfl) (fun _ _ _ h => h) hS (fun w' d => by obtain ⟨d0, d1, d2, d3, d4, d5⟩ := d; go_simp) ?_
                    try simp only [Act.put, List.setIfInBounds_toArray, List.set_cons_zero, List.set_cons_succ]
                    refine zt [24] (i := 19) rfl (.int .u64 (f (p + 3))) (by kernel_rfl) (by kernel_rfl) (by kernel_rfl) (by kernel_rfl) (fun _ _ _ h => h) hS (fun w' d => by obtain ⟨d0, d1, d2, d3, d4, d5⟩ := d; go_simp) ?_
                    try simp only [Act.put, List.setIfInBounds_toArray, List.set_cons_zero, List.set_cons_succ]
                    refine zt [24] (i := 20) rfl (.agg #[.int .u64 (f (p + 2)), .int .u64 (f (p + 3))]) (by kernel_rfl) (by kernel_rfl) (by kernel_rfl) (by kernel_rfl) (fun _ _ _ h => h) hS (fun w' d => by obtain ⟨d0, d1, d2, d3, d4, d5⟩ := d; go_simp) ?_
                    try simp only [Act.put, List.setIfInBounds_toArray, List.set_cons_zero, List.set_cons_succ]
                    have HBa := Lib.hid ((Below.refl _ wd).alloc (Nat.le_refl _) (.cells #[.int .u64 0, .int .u64 0] 52))
                    have HBb := Lib.hid (HBa.out.alloc (by simp) (.cells #[.int .u64 0, .int .u64 0] 52))
                    have HL1 := Lib.hid ((Blk.new wd 52 #[.int .u64 0, .int .u64 0]).alloc (.cells #[.int .u64 0, .int .u64 0] 52))
                    have HL2 : Hid (Blk ((wd.alloc (.cells #[.int .u64 0, .int .u64 0] 52)).alloc (.cells #[.int .u64 0, .int .u64 0] 52)) (wd.heap.size + 1) 52 #[.int .u64 0, .int .u64 0]) := by have := Blk.new (wd.alloc (.cells #[.int .u64 0, .int .u64 0] 52)) 52 #[.int .u64 0, .int .u64 0]; rwa [World.size_alloc] at this
                    refine z2 (i := 21) (i' := 22) (by kernel_rfl) rfl rfl (fun K hK => ?_) (fun K hK => ?_)
                    · go_simp
                      refine hK.out _ _ (.inr (Wx.of (HN.out.1.below (HD.out.new HBa.out).bl) HPL.out ((HD.out.new HBa.out).b.cell 2 rfl))) ?_
                      clear hK K
                      try simp only [Act.put, List.setIfInBounds_toArray, List.set_cons_zero, List.set_cons_succ]
                      refine z1 (i := 22) (by kernel_rfl) rfl (fun K hK => ?_)
                      go_simp
                      refine hK.out _ _ (.inr (Wx.of (HN.out.1.below (HD.out.new HBb.out).bl) HPL.out ((HD.out.new HBb.out).b.cell 2 rfl))) ?_
                      clear hK K
                      try simp only [Act.put, List.setIfInBounds_toArray, List.set_cons_zero, List.set_cons_succ]
                      generalize ((wd.alloc (.cells #[.int .u64 0, .int .u64 0] 52)).alloc (.cells #[.int .u64 0, .int .u64 0] 52)) = we at *
                      have k0 := HL1.out.cell 0 rfl
                      have k1 := HL1.out.cell 1 rfl
                      have kf := HL1.out.frozen
                      have q0 := (HL2.out.far (p := ⟨wd.heap.size, 0, none⟩) (by show wd.heap.size + 1 ≠ wd.heap.size; omega) (.int .u64 (f p))).far (p := ⟨wd.heap.size, 1, none⟩) (by show wd.heap.size + 1 ≠ wd.heap.size; omega) (.int .u64 (f (p + 1)))
                      have q1 := (HL1.out.set 0 (.int .u64 (f p))).set 1 (.int .u64 (f (p + 1)))
                      have hb3 := Lib.hid ((HBb.out.setCell (p := ⟨wd.heap.size, 0, none⟩) (by show wd.heap.size ≤ wd.heap.size; omega) (.int .u64 (f p))).setCell (p := ⟨wd.heap.size, 1, none⟩) (by show wd.heap.size ≤ wd.heap.size; omega) (.int .u64 (f (p + 1))))
                      have HY3 := Lib.hid q0
                      have HX3 := Lib.hid q1
                      clear q0 q1
                      refine z1 (i := 23) (by kernel_rfl) rfl (fun K hK => ?_)
                      go_simp
                      refine hK.out _ _ (.inr (Wx.of (HN.out.1.below (HD.out.new hb3.out).bl) HPL.out ((HD.out.new hb3.out).b.cell 2 rfl))) ?_
                      clear hK K k0 k1 kf
                      try simp only [Act.put, List.setIfInBounds_toArray, List.set_cons_zero, List.set_cons_succ]
                      generalize ((we.setCell ⟨wd.heap.size, 0, none⟩ (.int .u64 (f p))).setCell ⟨wd.heap.size, 1, none⟩ (.int .u64 (f (p + 1)))) = wg at *
                      have k0 := HY3.out.cell 0 rfl
                      have k1 := HY3.out.cell 1 rfl
                      have kf := HY3.out.frozen
                      have HX4 := Lib.hid ((HX3.out.far (p := ⟨wd.heap.size + 1, 0, none⟩) (by show wd.heap.size ≠ wd.heap.size + 1; omega) (.int .u64 (f (p + 2)))).far (p := ⟨wd.heap.size + 1, 1, none⟩) (by show wd.heap.size ≠ wd.heap.size + 1; omega) (.int .u64 (f (p + 3))))
                      have HY4 := Lib.hid ((HY3.out.set 0 (.int .u64 (f (p + 2)))).set 1 (.int .u64 (f (p + 3))))
                      have hb4 := Lib.hid ((hb3.out.setCell (p := ⟨wd.heap.size + 1, 0, none⟩) (by show wd.heap.size ≤ wd.heap.size + 1; omega) (.int .u64 (f (p + 2)))).setCell (p := ⟨wd.heap.size + 1, 1, none⟩) (by show wd.heap.size ≤ wd.heap.size + 1; omega) (.int .u64 (f (p + 3))))
                      refine z1 (i := 24) (by kernel_rfl) rfl (fun K hK => ?_)
                      go_simp
                      refine hK.out _ _ (.inl rfl) ?_
                      clear hK K
                      refine wpAnyZ_done (by kernel_rfl) ?_ _
                      go_wp2_with fail
                      go_meet
                      exact ⟨wd.heap.size, wd.heap.size + 1, rfl, rfl, HX4.out, HY4.out, by have := HSZ.out; omega, by have := HSZ.out; omega, HD.out.new hb4.out⟩
                    · go_simp
                      refine hK.out _ _ (.inr (Wx.of (HN.out.1.below (HD.out.new HBa.out).bl) HPL.out ((HD.out.new HBa.out).b.cell 2 rfl))) ?_
                      clear hK K
                      try simp only [Act.put, List.setIfInBounds_toArray, List.set_cons_zero, List.set_cons_succ]
                      refine z1 (i := 21) (by kernel_rfl) rfl (fun K hK => ?_)
                      go_simp
                      refine hK.out _ _ (.inr (Wx.of (HN.out.1.below (HD.out.new HBb.out).bl) HPL.out ((HD.out.new HBb.out).b.cell 2 rfl))) ?_
                      clear hK K
                      try simp only [Act.put, List.setIfInBounds_toArray, List.set_cons_zero, List.set_cons_succ]
                      generalize ((wd.alloc (.cells #[.int .u64 0, .int .u64 0] 52)).alloc (.cells #[.int .u64 0, .int .u64 0] 52)) = we at *
                      have k0 := HL2.out.cell 0 rfl
                      have k1 := HL2.out.cell 1 rfl
                      have kf := HL2.out.frozen
                      have q0 := (HL1.out.far (p := ⟨wd.heap.size + 1, 0, none⟩) (by show wd.heap.size ≠ wd.heap.size + 1; omega) (.int .u64 (f p))).far (p := ⟨wd.heap.size + 1, 1, none⟩) (by show wd.heap.size ≠ wd.heap.size + 1; omega) (.int .u64 (f (p + 1)))
                      have q1 := (HL2.out.set 0 (.int .u64 (f p))).set 1 (.int .u64 (f (p + 1)))
                      have hb3 := Lib.hid ((HBb.out.setCell (p := ⟨wd.heap.size + 1, 0, none⟩) (by show wd.heap.size ≤ wd.heap.size + 1; omega) (.int .u64 (f p))).setCell (p := ⟨wd.heap.size + 1, 1, none⟩) (by show wd.heap.size ≤ wd.heap.size + 1; omega) (.int .u64 (f (p + 1))))
                      have HY3 := Lib.hid q0
                      have HX3 := Lib.hid q1
                      clear q0 q1
                      refine z1 (i := 23) (by kernel_rfl) rfl (fun K hK => ?_)
                      go_simp
                      refine hK.out _ _ (.inr (Wx.of (HN.out.1.below (HD.out.new hb3.out).bl) HPL.out ((HD.out.new hb3.out).b.cell 2 rfl))) ?_
                      clear hK K k0 k1 kf
                      try simp only [Act.put, List.setIfInBounds_toArray, List.set_cons_zero, List.set_cons_succ]
                      generalize ((we.setCell ⟨wd.heap.size + 1, 0, none⟩ (.int .u64 (f p))).setCell ⟨wd.heap.size + 1, 1, none⟩ (.int .u64 (f (p + 1)))) = wg at *
                      have k0 := HY3.out.cell 0 rfl
                      have k1 := HY3.out.cell 1 rfl
                      have kf := HY3.out.frozen
                      have HX4 := Lib.hid ((HX3.out.far (p := ⟨wd.heap.size, 0, none⟩) (by show wd.heap.size + 1 ≠ wd.heap.size; omega) (.int .u64 (f (p + 2)))).far (p := ⟨wd.heap.size, 1, none⟩) (by show wd.heap.size + 1 ≠ wd.heap.size; omega) (.int .u64 (f (p + 3))))
                      have HY4 := Lib.hid ((HY3.out.set 0 (.int .u64 (f (p + 2)))).set 1 (.int .u64 (f (p + 3))))
                      have hb4 := Lib.hid ((hb3.out.setCell (p := ⟨wd.heap.size, 0, none⟩) (by show wd.heap.size ≤ wd.heap.size; omega) (.int .u64 (f (p + 2)))).setCell (p := ⟨wd.heap.size, 1, none⟩) (by show wd.heap.size ≤ wd.heap.size; omega) (.int .u64 (f (p + 3))))
                      refine z1 (i := 24) (by kernel_rfl) rfl (fun K hK => ?_)
                      go_simp
                      refine hK.out _ _ (.inl rfl) ?_
                      clear hK K
                      refine wpAnyZ_done (by kernel_rfl) ?_ _
                      go_wp2_with fail
                      go_meet
                      exact ⟨wd.heap.size + 1, wd.heap.size, rfl, rfl, HX4.out, HY4.out, by have := HSZ.out; omega, by have := HSZ.out; omega, HD.out.new hb4.out⟩
                case rest =>
                  focus
                    obtain ⟨x, y, rfl, rfl, hL1, hL2, hx, hy, hRc⟩ := hcut.out
                    have HL := Lib.hid (And.intro hL1 (And.intro hL2 (And.intro hx hy)))
                    have HO := Lib.hid (And.intro HV.out.b.lt (fun b hb => (HV.out.lt 2 (by omega) b hb).2))
                    have cv := hRc.b.cell 2 rfl
                    have ca := hL1.cell 0 rfl
                    have cb := hL1.cell 1 rfl
                    have cc := hL2.cell 0 rfl
                    have cd := hL2.cell 1 rfl
                    obtain ⟨A2, c2, wa, hra, hca, hfa, hRa, hBa, hka⟩ := hRc.addOn 2 (by omega) k rfl (by have := HB.out; have := HN.out.2; omega) (f p) (f (p + 1)) (f (p + 2)) (f (p + 3)) false HE.out.1.1 HE.out.1.2.1 HE.out.1.2.2.1 HE.out.1.2.2.2.1 HE.out.1.2.2.2.2
                    have HA := Lib.hid hra
                    have HLx := Lib.hid (And.intro ((hka x (hL1.lt) (fun e => by have := HO.out.2 x e; omega) (by have := HO.out.1; omega)).trans hL1) ((hka y (hL2.lt) (fun e => by have := HO.out.2 y e; omega) (by have := HO.out.1; omega)).trans hL2))
                    have HR := Lib.hid (And.intro hRa hBa)
                    clear hcut HV hL1 hL2 hx hy hRc hra hRa hBa hka HL HO
                    go_upto_region 25 with fail
                    refine wp_region_lit ?_
                    refine wl (.pointer (some ⟨m, 0, none⟩)) (by go_simp) ?_
                    try simp only [Act.put, List.setIfInBounds_toArray, List.set_cons_zero, List.set_cons_succ]
                    refine wl (.pointer (some ⟨m, 2, none⟩)) (by go_simp) ?_
                    try simp only [Act.put, List.setIfInBounds_toArray, List.set_cons_zero, List.set_cons_succ]
                    refine wl (V 2) (by go_simp) ?_
                    try simp only [Act.put, List.setIfInBounds_toArray, List.set_cons_zero, List.set_cons_succ]
                    refine wl (.agg #[.int .u64 (f p), .int .u64 (f (p + 1))]) (by go_simp) ?_
                    try simp only [Act.put, List.setIfInBounds_toArray, List.set_cons_zero, List.set_cons_succ]
                    refine wl (.agg #[.int .u64 (f (p + 2)), .int .u64 (f (p + 3))]) (by go_simp) ?_
                    try simp only [Act.put, List.setIfInBounds_toArray, List.set_cons_zero, List.set_cons_succ]
                    refine wl (.agg #[.int .u64 (f p), .int .u64 (f (p + 1)), .int .u64 (f (p + 2)), .int .u64 (f (p + 3))]) (by go_simp) ?_
                    try simp only [Act.put, List.setIfInBounds_toArray, List.set_cons_zero, List.set_cons_succ]
                    refine wl (.agg #[.int .u64 (f p), .int .u64 (f (p + 1)), .int .u64 (f (p + 2)), .int .u64 (f (p + 3)), .bool false]) (by go_simp) ?_
                    try simp only [Act.put, List.setIfInBounds_toArray, List.set_cons_zero, List.set_cons_succ]
                    refine wk fun K hK => ?_
                    go_simp
                    refine hK.out _ _ ?_
                    clear hK K
                    try simp only [Act.put, List.setIfInBounds_toArray, List.set_cons_zero, List.set_cons_succ]
                    refine wpList_append_run rfl _ _ 35 rfl _ _ _ _ rfl rfl HA.out ?_
                    try simp only [Act.put, List.setIfInBounds_toArray, List.set_cons_zero, List.set_cons_succ]
                    refine wl (.pointer (some ⟨m, 0, none⟩)) (by go_simp) ?_
                    try simp only [Act.put, List.setIfInBounds_toArray, List.set_cons_zero, List.set_cons_succ]
                    refine wl (.pointer (some ⟨m, 2, none⟩)) (by go_simp) ?_
                    try simp only [Act.put, List.setIfInBounds_toArray, List.set_cons_zero, List.set_cons_succ]
                    refine wk fun K hK => ?_
                    go_simp
                    refine hK.out _ _ ?_
                    clear hK K
                    try simp only [Act.put, List.setIfInBounds_toArray, List.set_cons_zero, List.set_cons_succ]
                    refine wpList_nil ?_
                    clear cv ca cb cc cd HA hca hfa
                    have HV2 := Lib.hid HR.out.1
                    clear HR
                    have HL2 : Hid (Blk (wa.setCell ⟨m, 2, none⟩ (.slice A2 (k + 1) c2)) x 52 #[.int .u64 (f p), .int .u64 (f (p + 1))] ∧ Blk (wa.setCell ⟨m, 2, none⟩ (.slice A2 (k + 1) c2)) y 52 #[.int .u64 (f (p + 2)), .int .u64 (f (p + 3))]) := HLx.out
                    clear HLx
                    generalize (wa.setCell ⟨m, 2, none⟩ (.slice A2 (k + 1) c2)) = w2 at *
                    obtain ⟨V2, hV2⟩ : ∃ x, put6 V 2 (.slice A2 (k + 1) c2) = x := ⟨_, rfl⟩
                    have HV3 : Hid (Ro wB m (YY f n1 n2) (CC f n1 n2) V2 (put6 (cnt n1 n2 k) 2 (k + 1)) w2) := by rw [← hV2]; exact HV2
                    clear HV2 hV2
                    have hAt := HN.out.1.below HV3.out.bl
                    have hpl := HPL.out
                    obtain ⟨ad4, h4, x4⟩ := hAt (p + 4) (by omega)
                    cases h4
                    have y4 := word_forms (by omega) x4
                    clear hpl hAt
                    go_upto_region 26 with fail
                    refine wp_region_lit ?_
                    refine wl (.slice (some ad) len c) (by go_simp) ?_
                    try simp only [Act.put, List.setIfInBounds_toArray, List.set_cons_zero, List.set_cons_succ]
                    refine wl (.int .i64 (p)) (by go_simp) ?_
                    try simp only [Act.put, List.setIfInBounds_toArray, List.set_cons_zero, List.set_cons_succ]
                    refine wl (.int .i64 ((p : Int) + 4)) (by go_simp) ?_
                    try simp only [Act.put, List.setIfInBounds_toArray, List.set_cons_zero, List.set_cons_succ]
                    refine wl (.pointer (some ⟨ad.block, ad.off + (p + 4), none⟩)) (by go_simp) ?_
                    try simp only [Act.put, List.setIfInBounds_toArray, List.set_cons_zero, List.set_cons_succ]
                    refine wl (.int .u64 (f (p + 4))) (by go_simp) ?_
                    try simp only [Act.put, List.setIfInBounds_toArray, List.set_cons_zero, List.set_cons_succ]
                    by_cases hodd : f (p + 4) % 2 = 1
                    · have hm : (f (p + 4)).tmod 2 = 1 := by rw [tmod_two _ (HF.out (p + 4))]; exact hodd
                      have ca := HL2.out.2.cell 0 rfl
                      have cb := HL2.out.2.cell 1 rfl
                      have cv := HV3.out.b.cell 5 rfl
                      obtain ⟨A5, c5, wb, hrb, hcb, hfb, hRb, hBb, _⟩ := HV3.out.addOn 5 (by omega) k rfl (by have := HB.out; have := HN.out.2; omega) (f (p + 2)) (f (p + 3)) 0 0 true (HE.out.2.1 hodd).1 (HE.out.2.1 hodd).2.1 (HE.out.2.1 hodd).2.2.1 (HE.out.2.1 hodd).2.2.2.1 (HE.out.2.1 hodd).2.2.2.2
                      have HA := Lib.hid hrb
                      have HR := Lib.hid hRb
                      clear hrb hRb hBb hodd HL2
                      refine wl (.int .u64 1) (by go_simp) ?_
                      try simp only [Act.put, List.setIfInBounds_toArray, List.set_cons_zero, List.set_cons_succ]
                      refine wl (.bool true) (by go_simp) ?_
                      try simp only [Act.put, List.setIfInBounds_toArray, List.set_cons_zero, List.set_cons_succ]
                      refine wpList_nil ?_
                      clear hm x4 y4
                      go_upto_region 27 with fail
                      refine wp_region_lit ?_
                      refine wl (.pointer (some ⟨m, 3, none⟩)) (by go_simp) ?_
                      try simp only [Act.put, List.setIfInBounds_toArray, List.set_cons_zero, List.set_cons_succ]
                      refine wl (.pointer (some ⟨m, 5, none⟩)) (by go_simp) ?_
                      try simp only [Act.put, List.setIfInBounds_toArray, List.set_cons_zero, List.set_cons_succ]
                      refine wl (V2 5) (by go_simp) ?_
                      try simp only [Act.put, List.setIfInBounds_toArray, List.set_cons_zero, List.set_cons_succ]
                      refine wl (.agg #[.int .u64 (f (p + 2)), .int .u64 (f (p + 3))]) (by go_simp) ?_
                      try simp only [Act.put, List.setIfInBounds_toArray, List.set_cons_zero, List.set_cons_succ]
                      refine wl (.agg #[.int .u64 (f (p + 2)), .int .u64 (f (p + 3)), .int .u64 0, .int .u64 0]) (by go_simp) ?_
                      try simp only [Act.put, List.setIfInBounds_toArray, List.set_cons_zero, List.set_cons_succ]
                      refine wl (.agg #[.int .u64 (f (p + 2)), .int .u64 (f (p + 3)), .int .u64 0, .int .u64 0, .bool true]) (by go_simp) ?_
                      try simp only [Act.put, List.setIfInBounds_toArray, List.set_cons_zero, List.set_cons_succ]
                      refine wk fun K hK => ?_
                      go_simp
                      refine hK.out _ _ ?_
                      clear hK K
                      try simp only [Act.put, List.setIfInBounds_toArray, List.set_cons_zero, List.set_cons_succ]
                      refine wpList_append_run rfl _ _ 35 rfl _ _ _ _ rfl rfl HA.out ?_
                      try simp only [Act.put, List.setIfInBounds_toArray, List.set_cons_zero, List.set_cons_succ]
                      refine wl (.pointer (some ⟨m, 3, none⟩)) (by go_simp) ?_
                      try simp only [Act.put, List.setIfInBounds_toArray, List.set_cons_zero, List.set_cons_succ]
                      refine wl (.pointer (some ⟨m, 5, none⟩)) (by go_simp) ?_
                      try simp only [Act.put, List.setIfInBounds_toArray, List.set_cons_zero, List.set_cons_succ]
                      refine wk fun K hK => ?_
                      go_simp
                      refine hK.out _ _ ?_
                      clear hK K
                      try simp only [Act.put, List.setIfInBounds_toArray, List.set_cons_zero, List.set_cons_succ]
                      refine wpList_nil ?_
                      clear HA HV3 cv ca cb hcb hfb
                      go_upto_region 29 with fail
                      refine wp_region_lit ?_
                      refine wl (.int .i64 (p)) (by go_simp) ?_
                      try simp only [Act.put, List.setIfInBounds_toArray, List.set_cons_zero, List.set_cons_succ]
                      refine wl (.int .i64 ((p : Int) + 5)) (by go_simp) ?_
                      try simp only [Act.put, List.setIfInBounds_toArray, List.set_cons_zero, List.set_cons_succ]
                      refine wl (.int .i64 ((p : Int) + 5)) (by go_simp) ?_
                      try simp only [Act.put, List.setIfInBounds_toArray, List.set_cons_zero, List.set_cons_succ]
                      refine wpList_nil ?_
                      go_upto_region 23 with fail
                      refine wp_region_lit ?_
                      refine wl (.int .i64 (k)) (by go_simp) ?_
                      try simp only [Act.put, List.setIfInBounds_toArray, List.set_cons_zero, List.set_cons_succ]
                      refine wl (.int .i64 ((k : Int) + 1)) (by go_simp) ?_
                      try simp only [Act.put, List.setIfInBounds_toArray, List.set_cons_zero, List.set_cons_succ]
                      refine wl (.int .i64 ((k : Int) + 1)) (by go_simp) ?_
                      try simp only [Act.put, List.setIfInBounds_toArray, List.set_cons_zero, List.set_cons_succ]
                      refine wpList_nil ?_
                      go_wp2_with fail
                      go_roundw
                      case rel => exact ⟨k + 1, by have := HB.out; omega, by go_num, by have := HP.out; (first | (go_num; done) | (go_num; omega)), _, HR.out.congr (fun q hq => cnt_O n1 n2 k q hq)⟩
                      case measure => have := HB.out; simp [intOf]; omega
                    · have hm : (f (p + 4)).tmod 2 = 0 := by rw [tmod_two _ (HF.out (p + 4))]; omega
                      have ca := HL2.out.1.cell 0 rfl
                      have cb := HL2.out.1.cell 1 rfl
                      have cv := HV3.out.b.cell 5 rfl
                      obtain ⟨A5, c5, wb, hrb, hcb, hfb, hRb, hBb, _⟩ := HV3.out.addOn 5 (by omega) k rfl (by have := HB.out; have := HN.out.2; omega) (f p) (f (p + 1)) 0 0 false (HE.out.2.2 hodd).1 (HE.out.2.2 hodd).2.1 (HE.out.2.2 hodd).2.2.1 (HE.out.2.2 hodd).2.2.2.1 (HE.out.2.2 hodd).2.2.2.2
                      have HA := Lib.hid hrb
                      have HR := Lib.hid hRb
                      clear hrb hRb hBb hodd HL2
                      refine wl (.int .u64 0) (by go_simp) ?_
                      try simp only [Act.put, List.setIfInBounds_toArray, List.set_cons_zero, List.set_cons_succ]
                      refine wl (.bool false) (by go_simp) ?_
                      try simp only [Act.put, List.setIfInBounds_toArray, List.set_cons_zero, List.set_cons_succ]
                      refine wpList_nil ?_
                      clear hm x4 y4
                      go_upto_region 28 with fail
                      refine wp_region_lit ?_
                      refine wl (.pointer (some ⟨m, 3, none⟩)) (by go_simp) ?_
                      try simp only [Act.put, List.setIfInBounds_toArray, List.set_cons_zero, List.set_cons_succ]
                      refine wl (.pointer (some ⟨m, 5, none⟩)) (by go_simp) ?_
                      try simp only [Act.put, List.setIfInBounds_toArray, List.set_cons_zero, List.set_cons_succ]
                      refine wl (V2 5) (by go_simp) ?_
                      try simp only [Act.put, List.setIfInBounds_toArray, List.set_cons_zero, List.set_cons_succ]
                      refine wl (.agg #[.int .u64 (f p), .int .u64 (f (p + 1))]) (by go_simp) ?_
                      try simp only [Act.put, List.setIfInBounds_toArray, List.set_cons_zero, List.set_cons_succ]
                      refine wl (.agg #[.int .u64 (f p), .int .u64 (f (p + 1)), .int .u64 0, .int .u64 0]) (by go_simp) ?_
                      try simp only [Act.put, List.setIfInBounds_toArray, List.set_cons_zero, List.set_cons_succ]
                      refine wl (.agg #[.int .u64 (f p), .int .u64 (f (p + 1)), .int .u64 0, .int .u64 0, .bool false]) (by go_simp) ?_
                      try simp only [Act.put, List.setIfInBounds_toArray, List.set_cons_zero, List.set_cons_succ]
                      refine wk fun K hK => ?_
                      go_simp
                      refine hK.out _ _ ?_
                      clear hK K
                      try simp only [Act.put, List.setIfInBounds_toArray, List.set_cons_zero, List.set_cons_succ]
                      refine wpList_append_run rfl _ _ 35 rfl _ _ _ _ rfl rfl HA.out ?_
                      try simp only [Act.put, List.setIfInBounds_toArray, List.set_cons_zero, List.set_cons_succ]
                      refine wl (.pointer (some ⟨m, 3, none⟩)) (by go_simp) ?_
                      try simp only [Act.put, List.setIfInBounds_toArray, List.set_cons_zero, List.set_cons_succ]
                      refine wl (.pointer (some ⟨m, 5, none⟩)) (by go_simp) ?_
                      try simp only [Act.put, List.setIfInBounds_toArray, List.set_cons_zero, List.set_cons_succ]
                      refine wk fun K hK => ?_
                      go_simp
                      refine hK.out _ _ ?_
                      clear hK K
                      try simp only [Act.put, List.setIfInBounds_toArray, List.set_cons_zero, List.set_cons_succ]
                      refine wpList_nil ?_
                      clear HA HV3 cv ca cb hcb hfb
                      go_upto_region 29 with fail
                      refine wp_region_lit ?_
                      refine wl (.int .i64 (p)) (by go_simp) ?_
                      try simp only [Act.put, List.setIfInBounds_toArray, List.set_cons_zero, List.set_cons_succ]
                      refine wl (.int .i64 ((p : Int) + 5)) (by go_simp) ?_
                      try simp only [Act.put, List.setIfInBounds_toArray, List.set_cons_zero, List.set_cons_succ]
                      refine wl (.int .i64 ((p : Int) + 5)) (by go_simp) ?_
                      try simp only [Act.put, List.setIfInBounds_toArray, List.set_cons_zero, List.set_cons_succ]
                      refine wpList_nil ?_
                      go_upto_region 23 with fail
                      refine wp_region_lit ?_
                      refine wl (.int .i64 (k)) (by go_simp) ?_
                      try simp only [Act.put, List.setIfInBounds_toArray, List.set_cons_zero, List.set_cons_succ]
                      refine wl (.int .i64 ((k : Int) + 1)) (by go_simp) ?_
                      try simp only [Act.put, List.setIfInBounds_toArray, List.set_cons_zero, List.set_cons_succ]
                      refine wl (.int .i64 ((k : Int) + 1)) (by go_simp) ?_
                      try simp only [Act.put, List.setIfInBounds_toArray, List.set_cons_zero, List.set_cons_succ]
                      refine wpList_nil ?_
                      go_wp2_with fail
                      go_roundw
                      case rel => exact ⟨k + 1, by have := HB.out; omega, by go_num, by have := HP.out; (first | (go_num; done) | (go_num; omega)), _, HR.out.congr (fun q hq => cnt_O n1 n2 k q hq)⟩
                      case measure => have := HB.out; simp [intOf]; omega
            · obtain rfl : n3 = k := by omega
              have lt1 : ¬ ((n3 : Int) < (n3 : Int)) := by omega
              obtain ⟨wA0, hwA0⟩ : ∃ x, x = wr := ⟨_, rfl⟩
              subst hwA0
              have HR3 : Hid (Ro wB m (YY f n1 n2) (CC f n1 n2) V (cnt n1 n2 n3) wA0) := HV
              clear HV hk hlt
              obtain ⟨B0, c0, e0, l0, p0⟩ := HR3.out.listT 0 (by omega) n1 rfl
              obtain ⟨B1, c1, e1, l1, p1⟩ := HR3.out.listT 1 (by omega) n2 rfl
              obtain ⟨B2, c2, e2, l2, p2⟩ := HR3.out.listO 2 (by omega) n3 rfl
              obtain ⟨B3, c3, e3, l3, p3⟩ := HR3.out.listT 3 (by omega) n1 rfl
              obtain ⟨B4, c4, e4, l4, p4⟩ := HR3.out.listT 4 (by omega) n2 rfl
              obtain ⟨B5, c5, e5, l5, p5⟩ := HR3.out.listO 5 (by omega) n3 rfl
              have hb := HR3.out.b
              rw [e0, e1, e2, e3, e4, e5] at hb
              have d0 := hb.cell 0 rfl
              have d1 := hb.cell 1 rfl
              have d2 := hb.cell 2 rfl
              have d3 := hb.cell 3 rfl
              have d4 := hb.cell 4 rfl
              have d5 := hb.cell 5 rfl
              have h8 : Blk wA0 w.heap.size 38 #[.slice none 0 0, .slice none 0 0, .slice none 0 0, .slice none 0 0, .slice none 0 0, .slice none 0 0] := H8.out.2.below HR3.out.bl
              have f0 := h8.cell 0 rfl
              have f1 := h8.cell 1 rfl
              have f2 := h8.cell 2 rfl
              have f3 := h8.cell 3 rfl
              have f4 := h8.cell 4 rfl
              have f5 := h8.cell 5 rfl
              have ff := h8.frozen
              have HX := Lib.hid (And.intro h8 (And.intro (And.intro l0 (And.intro l1 (And.intro l2 (And.intro l3 (And.intro l4 l5))))) (And.intro (And.intro p0 (And.intro p1 (And.intro p2 (And.intro p3 (And.intro p4 p5))))) (H8.out.1.trans (HR3.out.bl.mono H8.out.1.size)))))
              clear h8 hb l0 l1 l2 l3 l4 l5 p0 p1 p2 p3 p4 p5 e0 e1 e2 e3 e4 e5 HR3
              go_wp2
              have hS : Blk ((((((wA0.setCell ⟨w.heap.size, 0, none⟩ (.slice B0 n1 c0)).setCell ⟨w.heap.size, 1, none⟩ (.slice B1 n2 c1)).setCell ⟨w.heap.size, 2, none⟩ (.slice B2 n3 c2)).setCell ⟨w.heap.size, 3, none⟩ (.slice B3 n1 c3)).setCell ⟨w.heap.size, 4, none⟩ (.slice B4 n2 c4)).setCell ⟨w.heap.size, 5, none⟩ (.slice B5 n3 c5)) w.heap.size 38 #[.slice B0 n1 c0, .slice B1 n2 c1, .slice B2 n3 c2, .slice B3 n1 c3, .slice B4 n2 c4, .slice B5 n3 c5] := ((((((HX.out.1.set 0 (.slice B0 n1 c0)).set 1 (.slice B1 n2 c1)).set 2 (.slice B2 n3 c2)).set 3 (.slice B3 n1 c3)).set 4 (.slice B4 n2 c4)).set 5 (.slice B5 n3 c5))
              have hc : Chg (fun q => q = w.heap.size) wA0 ((((((wA0.setCell ⟨w.heap.size, 0, none⟩ (.slice B0 n1 c0)).setCell ⟨w.heap.size, 1, none⟩ (.slice B1 n2 c1)).setCell ⟨w.heap.size, 2, none⟩ (.slice B2 n3 c2)).setCell ⟨w.heap.size, 3, none⟩ (.slice B3 n1 c3)).setCell ⟨w.heap.size, 4, none⟩ (.slice B4 n2 c4)).setCell ⟨w.heap.size, 5, none⟩ (.slice B5 n3 c5)) := (((((((Chg.refl (fun q => q = w.heap.size) wA0).set (p := ⟨w.heap.size, 0, none⟩) (.inr rfl) (.slice B0 n1 c0)).set (p := ⟨w.heap.size, 1, none⟩) (.inr rfl) (.slice B1 n2 c1)).set (p := ⟨w.heap.size, 2, none⟩) (.inr rfl) (.slice B2 n3 c2)).set (p := ⟨w.heap.size, 3, none⟩) (.inr rfl) (.slice B3 n1 c3)).set (p := ⟨w.heap.size, 4, none⟩) (.inr rfl) (.slice B4 n2 c4)).set (p := ⟨w.heap.size, 5, none⟩) (.inr rfl) (.slice B5 n3 c5))
              have hbe : Below w.heap.size w ((((((wA0.setCell ⟨w.heap.size, 0, none⟩ (.slice B0 n1 c0)).setCell ⟨w.heap.size, 1, none⟩ (.slice B1 n2 c1)).setCell ⟨w.heap.size, 2, none⟩ (.slice B2 n3 c2)).setCell ⟨w.heap.size, 3, none⟩ (.slice B3 n1 c3)).setCell ⟨w.heap.size, 4, none⟩ (.slice B4 n2 c4)).setCell ⟨w.heap.size, 5, none⟩ (.slice B5 n3 c5)) := ((((((HX.out.2.2.2.setCell (p := ⟨w.heap.size, 0, none⟩) (Nat.le_refl _) (.slice B0 n1 c0)).setCell (p := ⟨w.heap.size, 1, none⟩) (Nat.le_refl _) (.slice B1 n2 c1)).setCell (p := ⟨w.heap.size, 2, none⟩) (Nat.le_refl _) (.slice B2 n3 c2)).setCell (p := ⟨w.heap.size, 3, none⟩) (Nat.le_refl _) (.slice B3 n1 c3)).setCell (p := ⟨w.heap.size, 4, none⟩) (Nat.le_refl _) (.slice B4 n2 c4)).setCell (p := ⟨w.heap.size, 5, none⟩) (Nat.le_refl _) (.slice B5 n3 c5))
              have hlt : ∀ {B : Option Addr} {n : Nat}, (∀ ad, B = some ad → wB.heap.size ≤ ad.block) → ∀ ad, B = some ad → 0 < n → ¬ ad.block = w.heap.size := fun h ad e _ e2 => by have := h ad e; have := HM.out; omega
              have hge : ∀ {B : Option Addr}, (∀ ad, B = some ad → wB.heap.size ≤ ad.block) → ∀ ad, B = some ad → w.heap.size ≤ ad.block := fun h ad e => by have := h ad e; have := HM.out; omega
              have s0 := hS.cell 0 rfl
              have s1 := hS.cell 1 rfl
              have s2 := hS.cell 2 rfl
              have s3 := hS.cell 3 rfl
              have s4 := hS.cell 4 rfl
              have s5 := hS.cell 5 rfl
              exact bodyPost_ret (v := .tuple #[.agg #[.slice B0 n1 c0, .slice B1 n2 c1, .slice B2 n3 c2, .slice B3 n1 c3, .slice B4 n2 c4, .slice B5 n3 c5], .int .i64 0]) (by simp [results, Tryd.results11, go_sem, s0, s1, s2, s3, s4, s5]) rfl
                ⟨B0, B1, B2, B3, B4, B5, c0, c1, c2, c3, c4, c5, rfl, ⟨HX.out.2.1.1.chg hc (hlt HX.out.2.2.1.1), HX.out.2.1.2.1.chg hc (hlt HX.out.2.2.1.2.1), HX.out.2.1.2.2.1.chg hc (hlt HX.out.2.2.1.2.2.1), HX.out.2.1.2.2.2.1.chg hc (hlt HX.out.2.2.1.2.2.2.1), HX.out.2.1.2.2.2.2.1.chg hc (hlt HX.out.2.2.1.2.2.2.2.1), HX.out.2.1.2.2.2.2.2.chg hc (hlt HX.out.2.2.1.2.2.2.2.2)⟩, fun B hB => (by
                  rcases hB with rfl | rfl | rfl | rfl | rfl | rfl
                  · exact hge HX.out.2.2.1.1
                  · exact hge HX.out.2.2.1.2.1
                  · exact hge HX.out.2.2.1.2.2.1
                  · exact hge HX.out.2.2.1.2.2.2.1
                  · exact hge HX.out.2.2.1.2.2.2.2.1
                  · exact hge HX.out.2.2.1.2.2.2.2.2), hbe⟩
end Go.Proofs.YtgmlmngnedhllaaDoor
