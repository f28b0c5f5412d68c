/- LinkSure's walk. -/
import Derived.Test.YteadpnododjeaaaDoorLZ5
namespace Go.Proofs.YteadpnododjeaaaDoor
open Go.RowKit
set_option maxHeartbeats 200000000 in
set_option maxRecDepth 100000 in
theorem sure_walk (A : Option Addr) (N c : Nat) (w : World) (hL : Laid w) (hA : OpsAt w A N) (hN : N ≤ 9223372036854775807) :
    Calls Tryd.prog 5 #[.slice A N c] w fun e w' => e = .returned (.bool true) ∧ Below w.heap.size w w' := by
  have HA := Lib.hid (And.intro hL (And.intro hA hN))
  clear hL hA hN
  go_enter Tryd.func5, Tryd.ntmps5
  go_wp2_with fail
  refine (new_any w).mono ?_
  rintro e w1 ⟨rfl, rfl⟩
  go_wp2_with fail
  refine (new_any _).mono ?_
  rintro e w2 ⟨rfl, hw2⟩
  have e1 : (w.alloc (.cells (En.new w.heap.size).row 76)).heap.size = w.heap.size + 1 := by simp
  rw [e1] at hw2 ⊢
  have H2 := Lib.hid (show Duo w w2 (En.new w.heap.size) (En.new (w.heap.size + 1)) 0 by rw [hw2]; exact duo_new HA.out.1)
  clear hw2 e1
  have hbe : Below w2.heap.size w2 (w2.alloc (.cells #[.pointer (some ⟨w.heap.size, 0, none⟩), .pointer (some ⟨w.heap.size + 1, 0, none⟩)] 64)) := (Below.refl _ _).alloc (Nat.le_refl _) _
  have H3 := Lib.hid (show Duo w (w2.alloc (.cells #[.pointer (some ⟨w.heap.size, 0, none⟩), .pointer (some ⟨w.heap.size + 1, 0, none⟩)] 64)) (En.new w.heap.size) (En.new (w.heap.size + 1)) 0 ∧ (w2.alloc (.cells #[.pointer (some ⟨w.heap.size, 0, none⟩), .pointer (some ⟨w.heap.size + 1, 0, none⟩)] 64)).heap[w2.heap.size]? = some (.cells #[.pointer (some ⟨w.heap.size, 0, none⟩), .pointer (some ⟨w.heap.size + 1, 0, none⟩)] 64 (0, 0)) from ⟨H2.out.below hbe, heap_alloc_new w2 _⟩)
  clear hbe H2
  go_wp2_with fail
  refine (awake_any _ H3.out.1.laid).mono ?_
  rintro e w4 ⟨rfl, hb4⟩
  obtain ⟨ge, hge⟩ : ∃ g, g = w2.heap.size := ⟨_, rfl⟩
  have hE4 := (hb4.block w2.heap.size (by simp)).trans H3.out.2
  have c0 : w4.cell? ⟨ge, 0, none⟩ = some (.pointer (some ⟨w.heap.size, 0, none⟩)) := by rw [hge, cell_of_row w4 _ 0 _ _ (0, 0) hE4]; rfl
  have c1 : w4.cell? ⟨ge, 1, none⟩ = some (.pointer (some ⟨w.heap.size + 1, 0, none⟩)) := by rw [hge, cell_of_row w4 _ 1 _ _ (0, 0) hE4]; rfl
  rw [← hge] at hE4 ⊢
  have hD4 := H3.out.1.below hb4
  have hb5 : Below w4.heap.size w4 (((w4.alloc (.cells #[.slice none 0 0, .slice none 0 0] 65)).alloc (.cells #[.slice none 0 0, .slice none 0 0] 65)).alloc (.cells #[.slice none 0 0, .slice none 0 0] 65)) := (((Below.refl _ _).alloc (Nat.le_refl _) _).alloc (by simp) _).alloc (by simp; omega) _
  have H5 := Lib.hid (show ZZ w (((w4.alloc (.cells #[.slice none 0 0, .slice none 0 0] 65)).alloc (.cells #[.slice none 0 0, .slice none 0 0] 65)).alloc (.cells #[.slice none 0 0, .slice none 0 0] 65)) ge w4.heap.size 0 from
    ⟨fun k => if k = 0 then En.new w.heap.size else En.new (w.heap.size + 1), _, _, hD4.below hb5, mem_new hE4, inv_new _ _, fun k hk => by rcases (show k = 0 ∨ k = 1 by omega) with rfl | rfl <;> rfl, fun j k b _ _ h => (by cases h), hD4.size, fun j k _ _ => Nat.le_refl _⟩)
  clear H3 hb4 hge hE4 hD4 hb5
  go_wp2
  clear c0 c1
  obtain ⟨ga, hga⟩ : ∃ g, g = w4.heap.size := ⟨_, rfl⟩
  rw [← hga] at H5 ⊢
  generalize ((w4.alloc (.cells #[.slice none 0 0, .slice none 0 0] 65)).alloc (.cells #[.slice none 0 0, .slice none 0 0] 65)).alloc (.cells #[.slice none 0 0, .slice none 0 0] 65) = w5 at H5 ⊢
  clear hga
  go_loopg [7] (min N 360) (fun g q wr => ∃ i : Nat, q = .int .i64 i ∧ Hid (i + g = min N 360) ∧ Hid (ZZ w wr ge ga i))
  case atStart => exact ⟨0, rfl, by simp [Hid], H5⟩
  case round =>
    as_aux_lemma =>
      clear H5
      obtain ⟨i, rfl, HJ, HZ0⟩ := hrel
      by_cases hlt : i < N ∧ i < 360
      · obtain ⟨hltN, hlt360⟩ := hlt
        have k1 : (i : Int) < (N : Int) := by omega
        have k2 : (i : Int) < 360 := by omega
        have e7 : IntKind.i64.wrap ((i : Int) + 1) = (i : Int) + 1 := i64_nat _ (by omega) (by omega)
        have HLt := Lib.hid (And.intro hltN hlt360)
        obtain ⟨ad, rfl, kd, z, b, B, n, d, f, hop⟩ := HA.out.2.1 i hltN
        obtain ⟨s, v, L, HZ⟩ : ∃ s v L, Hid (Z w wr ge ga s v L i) := let ⟨s, v, L, h⟩ := HZ0.out; ⟨s, v, L, Lib.hid h⟩
        have HO := Lib.hid hop
        obtain ⟨o0, o1, o2, o3, ox⟩ := hop.below HZ.out.duo.blw
        clear hltN hlt360 hop ox HZ0
        obtain ⟨k, hk, z1', z2'⟩ := umod z 2 (by omega) (by omega)
        have z3 : IntKind.i64.wrap (k : Int) = (k : Int) := i64_nat _ (by omega) (by omega)
        have HK := Lib.hid (show True ∧ k < 2 from ⟨trivial, by omega⟩)
        have hk2 : (k : Int) < 2 := by omega
        clear hk
        go_upto_region 11 with fail
        clear o0 o1 o2 o3 z1' z2' z3 k1 k2
        have hb1 : Below wr.heap.size wr (wr.alloc (.cells #[.int .i64 kd, .int .i64 z, .int .i64 b, .slice B n d] 41)) := (Below.refl _ _).alloc (Nat.le_refl _) _
        have H1 := Lib.hid (show Rd w (wr.alloc (.cells #[.int .i64 kd, .int .i64 z, .int .i64 b, .slice B n d] 41)) ge ga wr.heap.size s v L i kd z b B n d from ⟨HZ.out.below hb1, heap_alloc_new wr _⟩)
        clear hb1 HZ
        generalize wr.alloc (.cells #[.int .i64 kd, .int .i64 z, .int .i64 b, .slice B n d] 41) = w1 at H1 ⊢
        generalize wr.heap.size = g at H1 ⊢
        obtain ⟨A0, c0, hv0, hc0, _⟩ := H1.out.st.strs (j := 0) (k := k) (by omega) HK.out.2
        rw [Nat.add_zero] at hc0
        obtain ⟨m0, hm0⟩ : ∃ m, m = (L 0 k).length := ⟨_, rfl⟩
        rw [← hm0] at hc0
        have HM0 := Lib.hid hm0
        clear hm0 hv0
        go_upto_if 61 with fail
        go_cut [10] from 57 to 61 (fun q wc => Hid (∃ a : Int, q = .int .i64 a ∧ (a = -1 ∨ ∃ t : Nat, a = (t : Int) ∧ t < (L 0 k).length) ∧ Rd w wc ge ga g s v L i kd z b B n d))
        case first =>
          as_aux_lemma =>
            by_cases hm : 0 < m0
            · have hm' : (0 : Int) < (m0 : Int) := by omega
              have hml : m0 ≤ 400 * i := by rw [HM0.out]; exact H1.out.st.len 0 k (by omega) HK.out.2
              have hi := HLt.out.2
              obtain ⟨t, ht, t1, t2⟩ := umod b (m0 : Int) hm' (by omega)
              have t3 : IntKind.i64.wrap (t : Int) = (t : Int) := i64_nat _ (by omega) (by omega)
              have u1 : IntKind.u64.wrap (m0 : Int) = (m0 : Int) := by rw [u64w]; omega
              have u3 : ((m0 : Int) == 0) = false := by rw [beq_eq_false_iff_ne]; omega
              have u4 : ¬ (m0 : Int) = 0 := by omega
              have u7 : (m0 == 0) = false := by rw [beq_eq_false_iff_ne]; omega
              have o2 := H1.out.o2
              have HT := Lib.hid (show True ∧ t < (L 0 k).length from ⟨trivial, by rw [← HM0.out]; omega⟩)
              clear hm hml hi ht
              go_wp2
              go_quiet (fail)
              go_wp2
              go_meet
              exact Lib.hid ⟨_, rfl, .inr ⟨t, rfl, HT.out.2⟩, H1.out.below (drew_below _ _ _)⟩
            · have hm' : ¬ (0 : Int) < (m0 : Int) := by omega
              clear hm
              go_wp2
              go_meet
              exact Lib.hid ⟨_, rfl, .inl rfl, H1.out⟩
        case rest =>
          as_aux_lemma =>
            obtain ⟨a, rfl, H1⟩ : ∃ a : Int, u10 = .int .i64 a ∧ Hid ((a = -1 ∨ ∃ t : Nat, a = (t : Int) ∧ t < (L 0 k).length) ∧ Rd w wc ge ga g s v L i kd z b B n d) := let ⟨a, h1, h2⟩ := hcut.out; ⟨a, h1, Lib.hid h2⟩
            clear hcut hc0 HM0
            go_upto_block 2 with fail
            have o0 := H1.out.2.o0
            go_cut [] (fun wc => Hid (ZZ w wc ge ga (i + 1)))
            case first =>
              as_aux_lemma =>
                by_cases h1 : kd = 1
                · as_aux_lemma =>
                    subst h1
                    have HC := Lib.hid (show ∀ w', Below wc.heap.size wc w' → w'.cell? ⟨ge, k, none⟩ = some (.pointer (some ⟨w.heap.size + k, 0, none⟩)) ∧ w'.cell? ⟨g, 3, none⟩ = some (.slice B n d) from fun w' hb => ⟨(H1.out.2.below hb).st.ends HK.out.2, (H1.out.2.below hb).o3⟩)
                    go_wp2
                    clear o0
                    refine region_y [7, 8] (fun w' => Below wc.heap.size wc w') (by kernel_rfl) ?_
                    have hS : Below wc.heap.size wc wc.drew := (Below.refl _ _).drew
                    generalize wc.drew = wd at hS ⊢
                    refine yu (i := 0) rfl (.int .i64 (k : Int)) (by kernel_rfl) (by kernel_rfl) (by kernel_rfl) (fun _ _ _ h => h) (fun w' => by go_simp) ?_
                    try simp only [Act.put, List.setIfInBounds_toArray, List.set_cons_zero, List.set_cons_succ]
                    refine yu (i := 1) rfl (.pointer (some ⟨ge, k, none⟩)) (by kernel_rfl) (by kernel_rfl) (by kernel_rfl) (fun _ _ _ h => h) (fun w' => by go_simp) ?_
                    try simp only [Act.put, List.setIfInBounds_toArray, List.set_cons_zero, List.set_cons_succ]
                    refine yt [7, 8] (i := 2) rfl (.pointer (some ⟨w.heap.size + k, 0, none⟩)) (by kernel_rfl) (by kernel_rfl) (by kernel_rfl) (by kernel_rfl) (fun _ _ _ h => h) hS (fun w' d1 => by obtain ⟨d2, d3⟩ := HC.out w' d1; go_simp) ?_
                    try simp only [Act.put, List.setIfInBounds_toArray, List.set_cons_zero, List.set_cons_succ]
                    refine yu (i := 4) rfl (.pointer (some ⟨g, 3, none⟩)) (by kernel_rfl) (by kernel_rfl) (by kernel_rfl) (fun _ _ _ h => h) (fun w' => by go_simp) ?_
                    try simp only [Act.put, List.setIfInBounds_toArray, List.set_cons_zero, List.set_cons_succ]
                    refine yt [6, 7, 8] (i := 5) rfl (.slice B n d) (by kernel_rfl) (by kernel_rfl) (by kernel_rfl) (by kernel_rfl) (fun _ _ _ h => h) hS (fun w' d1 => by obtain ⟨d2, d3⟩ := HC.out w' d1; go_simp) ?_
                    try simp only [Act.put, List.setIfInBounds_toArray, List.set_cons_zero, List.set_cons_succ]
                    have hA := HO.out.2.2.2.2.1.below (H1.out.2.below hS).st.duo.blw
                    obtain ⟨gc, kc, w2, hr, ho, hb2⟩ := copyB wd B n d f hA HO.out.2.2.2.2.2.2.2 HO.out.2.2.2.2.2.2.1
                    have hSE : Below wc.heap.size wc (wd.alloc (.cells #[] 5)) := hS.alloc hS.size _
                    have hS2 : Below wc.heap.size wc w2 := hS.trans (hb2.mono hS.size)
                    have HQ := Lib.hid hr
                    have HR2 := Lib.hid (H1.out.2.below hS2)
                    have HSN := Lib.hid (HR2.out.st.send (k := k) HK.out.2 (A := some ⟨gc, 0, none⟩) (n := n) (c := kc) (f := f) ho.lt.2.2.2.2.opt HO.out.2.2.2.2.2.1)
                    clear hA hr ho hb2
                    refine y1 (i := 3) (by kernel_rfl) rfl (fun K hK => ?_)
                    go_simp
                    refine hK.out _ _ (.inr fun _ => hSE) ?_
                    clear hK K
                    try simp only [Act.put, List.setIfInBounds_toArray, List.set_cons_zero, List.set_cons_succ]
                    refine y1 (i := 6) (by kernel_rfl) rfl (fun K hK => ?_)
                    refine wp_append_run _ _ 23 rfl (sl8 wd.heap.size 0 0) (.slice B n d) (sl8 gc n kc) w2 rfl rfl HQ.out ?_
                    refine hK.out _ _ (.inr fun _ => hS2) ?_
                    clear hK K
                    try simp only [Act.put, List.setIfInBounds_toArray, List.set_cons_zero, List.set_cons_succ]
                    clear hSE hS HQ
                    refine y1 (i := 7) (by kernel_rfl) rfl (fun K hK => ?_)
                    go_simp
                    refine HSN.out.mono ?_
                    clear HSN
                    rintro e w3 (⟨rfl, u, gq, hG, hF⟩ | ⟨T, u, rfl, hG⟩)
                    · refine hK.out _ _ (.inl (by decide)) ?_
                      clear hK K
                      try simp only [Act.put, List.setIfInBounds_toArray, List.set_cons_zero, List.set_cons_succ]
                      refine y1 (i := 8) (by kernel_rfl) rfl (fun K hK => ?_)
                      go_simp
                      refine hK.out _ _ (.inl (by decide)) ?_
                      clear hK K
                      try simp only [Act.put, List.setIfInBounds_toArray, List.set_cons_zero, List.set_cons_succ]
                      refine wpAnyY_done (by kernel_rfl) ?_ _
                      have hO3 : OpIn w3 g 1 z b B n d := HR2.out.o.goes (HR2.out.st.end HK.out.2).1 hG
                      have hm3 := HR2.out.st.mem.kept (HR2.out.st.end HK.out.2).1 hG.kept
                      obtain ⟨A1, c1, hv1, _, _⟩ := (HR2.out.st).strs (j := 1) (k := k) (by omega) HK.out.2
                      have hc1 := hm3.cell (j := 1) (k := k) (by omega) HK.out.2
                      have hi := HLt.out.2
                      have hl1 := HR2.out.st.len 1 k (by omega) HK.out.2
                      obtain ⟨v', w4, hr, hZ, ⟨A2, c2, hv2⟩, hc4, hf4, _⟩ := HR2.out.st.push (w1 := w3.drew) HK.out.2 hG (hF.mono (Nat.le_succ i)) (Nat.le_succ i) (by omega) (show 1 < 3 by omega) HK.out.2 (strB n f) (by omega) (HR2.out.st.inv.send HK.out.2 u ⟨gq, n, n, f⟩) ((Below.refl _ _).drew)
                      obtain ⟨m1, hm1⟩ : ∃ m, m = (L 1 k).length := ⟨_, rfl⟩
                      rw [← hm1] at hv1 hv2
                      rw [hv1] at hr hc1 hc4
                      rw [hv2] at hr hZ
                      have HQ := Lib.hid hr
                      have HW4 := Lib.hid (show ZZ w (w4.setCell ⟨ga + 1, k, none⟩ (.slice A2 (m1 + 1) c2)) ge ga (i + 1) from ⟨_, _, _, hZ⟩)
                      have HC := Lib.hid (show (w3.drew.cell? ⟨ga + 1, k, none⟩ = some (.slice A1 m1 c1) ∧ OpIn w3.drew g 1 z b B n d ∧ AtBO w3.drew B n f) ∧ w4.cell? ⟨ga + 1, k, none⟩ = some (.slice A1 m1 c1) ∧ w4.frozen? ⟨ga + 1, k, none⟩ = false from ⟨⟨hc1, hO3, HO.out.2.2.2.2.1.below (hG.below (HR2.out.st.end HK.out.2).1 HR2.out.st.duo.blw HR2.out.st.duo.size).drew⟩, hc4, hf4⟩)
                      have HP := Lib.hid (And.intro HO.out.2.2.2.2.2.1 HO.out.2.2.2.2.2.2.2)
                      clear hO3 hm3 hv1 hc1 hi hl1 hr hZ hv2 hc4 hf4 hm1 hG hF HR2 hS2
                      go_wp2
                      refine region_y [8, 9, 10] (fun w' => w'.cell? ⟨ga + 1, k, none⟩ = some (.slice A1 m1 c1) ∧ OpIn w' g 1 z b B n d ∧ AtBO w' B n f) (by kernel_rfl) ?_
                      have hS := HC.out.1
                      have HC4 := Lib.hid HC.out.2
                      clear HC
                      generalize w3.drew = wd at hS HQ ⊢
                      refine yu (i := 0) rfl (.int .i64 (k : Int)) (by kernel_rfl) (by kernel_rfl) (by kernel_rfl) (fun _ _ _ h => h) (fun w' => by go_simp) ?_
                      try simp only [Act.put, List.setIfInBounds_toArray, List.set_cons_zero, List.set_cons_succ]
                      refine yu (i := 1) rfl (.int .i64 (k : Int)) (by kernel_rfl) (by kernel_rfl) (by kernel_rfl) (fun _ _ _ h => h) (fun w' => by go_simp) ?_
                      try simp only [Act.put, List.setIfInBounds_toArray, List.set_cons_zero, List.set_cons_succ]
                      refine yu (i := 2) rfl (.pointer (some ⟨ga + 1, k, none⟩)) (by kernel_rfl) (by kernel_rfl) (by kernel_rfl) (fun _ _ _ h => h) (fun w' => by go_simp) ?_
                      try simp only [Act.put, List.setIfInBounds_toArray, List.set_cons_zero, List.set_cons_succ]
                      refine yt [8, 9, 10] (i := 3) rfl (.slice A1 m1 c1) (by kernel_rfl) (by kernel_rfl) (by kernel_rfl) (by kernel_rfl) (fun _ _ _ h => h) hS (fun w' d1 => by obtain ⟨d2, _, _⟩ := d1; go_simp) ?_
                      try simp only [Act.put, List.setIfInBounds_toArray, List.set_cons_zero, List.set_cons_succ]
                      refine yu (i := 4) rfl (.pointer (some ⟨g, 3, none⟩)) (by kernel_rfl) (by kernel_rfl) (by kernel_rfl) (fun _ _ _ h => h) (fun w' => by go_simp) ?_
                      try simp only [Act.put, List.setIfInBounds_toArray, List.set_cons_zero, List.set_cons_succ]
                      refine yt [6, 7, 8, 9, 10] (i := 5) rfl (.slice B n d) (by kernel_rfl) (by kernel_rfl) (by kernel_rfl) (by kernel_rfl) (fun _ _ _ h => h) hS (fun w' d1 => by have d2 := d1.2.1.cell; go_simp) ?_
                      try simp only [Act.put, List.setIfInBounds_toArray, List.set_cons_zero, List.set_cons_succ]
                      refine yt [7, 8, 9, 10] (i := 6) rfl (.string (strB n f)) (by kernel_rfl) (by kernel_rfl) (by kernel_rfl) (by kernel_rfl) (fun _ _ _ h => h) hS (fun w' d1 => by have d2 := conv_BO w' B n d f d1.2.2 HP.out.1 HP.out.2; go_simp) ?_
                      try simp only [Act.put, List.setIfInBounds_toArray, List.set_cons_zero, List.set_cons_succ]
                      refine y1 (i := 7) (by kernel_rfl) rfl (fun K hK => ?_)
                      go_simp
                      refine hK.out _ _ (.inr fun _ => ⟨(World.cell?_alloc_lt _ _ ⟨ga + 1, k, none⟩ (World.block_lt_of_cell? _ _ hS.1)).trans hS.1, (Below.heap_alloc _ _ _ (Array.getElem?_eq_some_iff.1 hS.2.1).1).trans hS.2.1, hS.2.2.below ((Below.refl _ _).alloc (Nat.le_refl _) _)⟩) ?_
                      clear hK K
                      try simp only [Act.put, List.setIfInBounds_toArray, List.set_cons_zero, List.set_cons_succ]
                      refine y1 (i := 8) (by kernel_rfl) rfl (fun K hK => ?_)
                      refine wp_append_run _ _ 36 rfl (.slice A1 m1 c1) (.slice (some ⟨wd.heap.size, 0, none⟩) 1 1) (.slice A2 (m1 + 1) c2) w4 rfl rfl HQ.out ?_
                      refine hK.out _ _ (.inl (by decide)) ?_
                      clear hK K
                      try simp only [Act.put, List.setIfInBounds_toArray, List.set_cons_zero, List.set_cons_succ]
                      refine y1 (i := 9) (by kernel_rfl) rfl (fun K hK => ?_)
                      go_simp
                      refine hK.out _ _ (.inl (by decide)) ?_
                      clear hK K
                      try simp only [Act.put, List.setIfInBounds_toArray, List.set_cons_zero, List.set_cons_succ]
                      refine y1 (i := 10) (by kernel_rfl) rfl (fun K hK => ?_)
                      obtain ⟨hc4, hf4⟩ := HC4.out
                      go_simp
                      refine hK.out _ _ (.inl (by decide)) ?_
                      clear hK K
                      try simp only [Act.put, List.setIfInBounds_toArray, List.set_cons_zero, List.set_cons_succ]
                      refine wpAnyY_done (by kernel_rfl) ?_ _
                      go_wp2
                      go_meet
                      exact HW4
                    · refine hK.out _ _ (.inl (by decide)) ?_
                      clear hK K
                      try simp only [Act.put, List.setIfInBounds_toArray, List.set_cons_zero, List.set_cons_succ]
                      refine y1 (i := 8) (by kernel_rfl) rfl (fun K hK => ?_)
                      go_simp
                      refine hK.out _ _ (.inl (by decide)) ?_
                      clear hK K
                      try simp only [Act.put, List.setIfInBounds_toArray, List.set_cons_zero, List.set_cons_succ]
                      refine wpAnyY_done (by kernel_rfl) ?_ _
                      have HW4 := Lib.hid (show ZZ w w3 ge ga (i + 1) from ⟨_, _, _, (HR2.out.st.goes HK.out.2 hG (HR2.out.st.end HK.out.2).2 (Nat.le_refl i) HR2.out.st.inv.self).mono (Nat.le_succ i)⟩)
                      clear hG HR2 hS2
                      go_wp2
                      go_meet
                      exact HW4
                · by_cases h4 : kd = 4 ∧ (0 : Int) ≤ a
                  · as_aux_lemma =>
                      obtain ⟨rfl, ha⟩ := h4
                      obtain ⟨t, rfl, htl⟩ : ∃ t : Nat, a = (t : Int) ∧ t < (L 0 k).length := by
                        rcases H1.out.1 with h | h
                        · omega
                        · exact h
                      clear h1
                      obtain ⟨gq, cq, cur, hv0, hlc, _, hel, _⟩ := (H1.out.2.st.mem.r 0 k (by omega) HK.out.2).form htl
                      obtain ⟨x, hx⟩ : ∃ x, (L 0 k)[t]? = some x := ⟨_, List.getElem?_eq_getElem htl⟩
                      have hcx := hel t x hx
                      have hcw : wc.cell? ⟨ga, k, none⟩ = some (v 0 k) := H1.out.2.st.mem.cell (j := 0) (by omega) HK.out.2
                      have hi := HLt.out.2
                      have hl0 := H1.out.2.st.len 0 k (by omega) HK.out.2
                      obtain ⟨v', w4, hr, hZ, ⟨A2, c2, hv2⟩, hc4, hf4, _⟩ := H1.out.2.st.push0 (w1 := wc.drew) (Nat.le_succ i) (by omega) (show 0 < 3 by omega) HK.out.2 x (by omega) (H1.out.2.st.inv.way _ (fun fr hfr => by
                        rcases List.mem_append.1 hfr with hfr | hfr
                        · exact H1.out.2.st.inv.f k HK.out.2 fr hfr
                        · obtain rfl := List.mem_singleton.1 hfr
                          exact H1.out.2.st.inv.f k HK.out.2 _ (List.mem_of_getElem? hx))) ((Below.refl _ _).drew)
                      obtain ⟨m0, hm0⟩ : ∃ m, m = (L 0 k).length := ⟨_, rfl⟩
                      rw [← hm0] at hv0 hv2 htl
                      rw [hv0] at hr hcw hc4
                      rw [hv2] at hr hZ
                      have htm : (t : Int) < (m0 : Int) := by omega
                      have HQ := Lib.hid hr
                      have HW4 := Lib.hid (show ZZ w (w4.setCell ⟨ga, k, none⟩ (.slice A2 (m0 + 1) c2)) ge ga (i + 1) from ⟨_, _, _, hZ⟩)
                      have HC := Lib.hid (show (wc.drew.cell? ⟨ga, k, none⟩ = some (.slice (some ⟨gq, 0, none⟩) m0 cq) ∧ wc.drew.cell? ⟨gq, t, none⟩ = some (.string x)) ∧ w4.cell? ⟨ga, k, none⟩ = some (.slice (some ⟨gq, 0, none⟩) m0 cq) ∧ w4.frozen? ⟨ga, k, none⟩ = false from ⟨⟨hcw, hcx⟩, hc4, hf4⟩)
                      clear hv0 hlc hel hx hcx hcw hi hl0 hr hZ hv2 hc4 hf4 hm0 htl
                      go_wp2
                      clear o0 ha
                      refine region_y [11, 12, 13] (fun w' => w'.cell? ⟨ga, k, none⟩ = some (.slice (some ⟨gq, 0, none⟩) m0 cq) ∧ w'.cell? ⟨gq, t, none⟩ = some (.string x)) (by kernel_rfl) ?_
                      have hS := HC.out.1
                      have HC4 := Lib.hid HC.out.2
                      clear HC
                      generalize wc.drew = wd at hS HQ ⊢
                      refine yu (i := 0) rfl (.int .i64 (k : Int)) (by kernel_rfl) (by kernel_rfl) (by kernel_rfl) (fun _ _ _ h => h) (fun w' => by go_simp) ?_
                      try simp only [Act.put, List.setIfInBounds_toArray, List.set_cons_zero, List.set_cons_succ]
                      refine yu (i := 1) rfl (.int .i64 (k : Int)) (by kernel_rfl) (by kernel_rfl) (by kernel_rfl) (fun _ _ _ h => h) (fun w' => by go_simp) ?_
                      try simp only [Act.put, List.setIfInBounds_toArray, List.set_cons_zero, List.set_cons_succ]
                      refine yu (i := 2) rfl (.pointer (some ⟨ga, k, none⟩)) (by kernel_rfl) (by kernel_rfl) (by kernel_rfl) (fun _ _ _ h => h) (fun w' => by go_simp) ?_
                      try simp only [Act.put, List.setIfInBounds_toArray, List.set_cons_zero, List.set_cons_succ]
                      refine yt [11, 12, 13] (i := 3) rfl (.slice (some ⟨gq, 0, none⟩) m0 cq) (by kernel_rfl) (by kernel_rfl) (by kernel_rfl) (by kernel_rfl) (fun _ _ _ h => h) hS (fun w' d1 => by obtain ⟨d2, _⟩ := d1; go_simp) ?_
                      try simp only [Act.put, List.setIfInBounds_toArray, List.set_cons_zero, List.set_cons_succ]
                      refine yu (i := 4) rfl (.int .i64 (k : Int)) (by kernel_rfl) (by kernel_rfl) (by kernel_rfl) (fun _ _ _ h => h) (fun w' => by go_simp) ?_
                      try simp only [Act.put, List.setIfInBounds_toArray, List.set_cons_zero, List.set_cons_succ]
                      refine yu (i := 5) rfl (.pointer (some ⟨ga, k, none⟩)) (by kernel_rfl) (by kernel_rfl) (by kernel_rfl) (fun _ _ _ h => h) (fun w' => by go_simp) ?_
                      try simp only [Act.put, List.setIfInBounds_toArray, List.set_cons_zero, List.set_cons_succ]
                      refine yt [8, 9, 10, 11, 12, 13] (i := 6) rfl (.slice (some ⟨gq, 0, none⟩) m0 cq) (by kernel_rfl) (by kernel_rfl) (by kernel_rfl) (by kernel_rfl) (fun _ _ _ h => h) hS (fun w' d1 => by obtain ⟨d2, _⟩ := d1; go_simp) ?_
                      try simp only [Act.put, List.setIfInBounds_toArray, List.set_cons_zero, List.set_cons_succ]
                      refine yu (i := 7) rfl (.int .i64 (t : Int)) (by kernel_rfl) (by kernel_rfl) (by kernel_rfl) (fun _ _ _ h => h) (fun w' => by go_simp) ?_
                      try simp only [Act.put, List.setIfInBounds_toArray, List.set_cons_zero, List.set_cons_succ]
                      refine yu (i := 8) rfl (.pointer (some ⟨gq, t, none⟩)) (by kernel_rfl) (by kernel_rfl) (by kernel_rfl) (fun _ _ _ h => h) (fun w' => by go_simp) ?_
                      try simp only [Act.put, List.setIfInBounds_toArray, List.set_cons_zero, List.set_cons_succ]
                      refine yt [10, 11, 12, 13] (i := 9) rfl (.string x) (by kernel_rfl) (by kernel_rfl) (by kernel_rfl) (by kernel_rfl) (fun _ _ _ h => h) hS (fun w' d1 => by obtain ⟨_, d2⟩ := d1; go_simp) ?_
                      try simp only [Act.put, List.setIfInBounds_toArray, List.set_cons_zero, List.set_cons_succ]
                      refine y1 (i := 10) (by kernel_rfl) rfl (fun K hK => ?_)
                      go_simp
                      refine hK.out _ _ (.inr fun _ => ⟨(World.cell?_alloc_lt _ _ ⟨ga, k, none⟩ (World.block_lt_of_cell? _ _ hS.1)).trans hS.1, (World.cell?_alloc_lt _ _ ⟨gq, t, none⟩ (World.block_lt_of_cell? _ _ hS.2)).trans hS.2⟩) ?_
                      clear hK K
                      try simp only [Act.put, List.setIfInBounds_toArray, List.set_cons_zero, List.set_cons_succ]
                      refine y1 (i := 11) (by kernel_rfl) rfl (fun K hK => ?_)
                      refine wp_append_run _ _ 36 rfl (.slice (some ⟨gq, 0, none⟩) m0 cq) (.slice (some ⟨wd.heap.size, 0, none⟩) 1 1) (.slice A2 (m0 + 1) c2) w4 rfl rfl HQ.out ?_
                      refine hK.out _ _ (.inl (by decide)) ?_
                      clear hK K
                      try simp only [Act.put, List.setIfInBounds_toArray, List.set_cons_zero, List.set_cons_succ]
                      refine y1 (i := 12) (by kernel_rfl) rfl (fun K hK => ?_)
                      go_simp
                      refine hK.out _ _ (.inl (by decide)) ?_
                      clear hK K
                      try simp only [Act.put, List.setIfInBounds_toArray, List.set_cons_zero, List.set_cons_succ]
                      refine y1 (i := 13) (by kernel_rfl) rfl (fun K hK => ?_)
                      obtain ⟨hc4, hf4⟩ := HC4.out
                      go_simp
                      refine hK.out _ _ (.inl (by decide)) ?_
                      clear hK K
                      try simp only [Act.put, List.setIfInBounds_toArray, List.set_cons_zero, List.set_cons_succ]
                      refine wpAnyY_done (by kernel_rfl) ?_ _
                      go_wp2
                      go_meet
                      exact HW4
                  · by_cases h5 : kd = 5 ∧ (0 : Int) ≤ a
                    · as_aux_lemma =>
                        obtain ⟨rfl, ha⟩ := h5
                        obtain ⟨t, rfl, htl⟩ : ∃ t : Nat, a = (t : Int) ∧ t < (L 0 k).length := by
                          rcases H1.out.1 with h | h
                          · omega
                          · exact h
                        clear h1
                        obtain ⟨gq, cq, cur, hv0, hlc, _, hel, hfz⟩ := (H1.out.2.st.mem.r 0 k (by omega) HK.out.2).form htl
                        obtain ⟨x, hx⟩ : ∃ x, (L 0 k)[t]? = some x := ⟨_, List.getElem?_eq_getElem htl⟩
                        obtain ⟨nx, F, rfl, hF1, hF2, hF3, _⟩ := H1.out.2.st.inv.f k HK.out.2 x (List.mem_of_getElem? hx)
                        have hcx := hel t _ hx
                        have hcw : wc.cell? ⟨ga, k, none⟩ = some (v 0 k) := H1.out.2.st.mem.cell (j := 0) (by omega) HK.out.2
                        obtain ⟨cb, wb, hcv, hat, hfb, hbb, hnc, _⟩ := conv_SF wc nx F hF1
                        have HV := Lib.hid hv0
                        obtain ⟨m0, hm0⟩ : ∃ m, m = (L 0 k).length := ⟨_, rfl⟩
                        rw [← hm0] at hv0 htl
                        rw [hv0] at hcw
                        have htm : (t : Int) < (m0 : Int) := by omega
                        obtain ⟨q, hq, t1, t2⟩ := umod b (nx : Int) (by omega) (by omega)
                        obtain ⟨r, hr, r1, r2⟩ := umod b 8 (by omega) (by omega)
                        have t3 : IntKind.i64.wrap (q : Int) = (q : Int) := i64_nat _ (by omega) (by omega)
                        have u1 : IntKind.u64.wrap (nx : Int) = (nx : Int) := by rw [u64w]; omega
                        have u3 : ((nx : Int) == 0) = false := by rw [beq_eq_false_iff_ne]; omega
                        have u4 : ¬ (nx : Int) = 0 := by omega
                        have u7 : (nx == 0) = false := by rw [beq_eq_false_iff_ne]; omega
                        obtain ⟨mm, hmm⟩ : ∃ mm, mm = 2 ^ r := ⟨_, rfl⟩
                        have hr0 : r < 8 := by omega
                        have hmm2 : mm < 256 := by
                          have : 2 ^ r < 2 ^ 8 := Nat.pow_lt_pow_right (by omega) hr0
                          rw [hmm]; exact this
                        have u8 : ¬ nx = 0 := by omega
                        have e5 : IntKind.u8.wrap (2 ^ min r 8) = (mm : Int) := shl1_val r mm (by omega) hmm
                        have e5b : IntKind.u8.wrap (2 ^ r) = (mm : Int) := by rw [Nat.min_eq_left (by omega)] at e5; exact e5
                        obtain ⟨X, hX⟩ : ∃ X, X = F q := ⟨_, rfl⟩
                        have hX2 : X < 256 := by rw [hX]; exact hF1 q
                        obtain ⟨y, hy⟩ : ∃ y, y = X ^^^ mm := ⟨_, rfl⟩
                        have hy2 : y < 256 := by rw [hy]; exact Nat.xor_lt_two_pow (n := 8) hX2 hmm2
                        have e6 : bits .xor .u8 (X : Int) (mm : Int) = (y : Int) := by rw [hy]; exact bits8_xor X mm hX2 hmm2
                        have hcq : wb.cell? ⟨wc.heap.size, q, none⟩ = some (.int .u8 (X : Int)) := by
                          have := hat q (by omega)
                          rw [Addr.add_mid, Nat.zero_add] at this
                          rw [hX]; exact this
                        have hRb := H1.out.2.below hbb
                        have hat2 : AtB (wb.drew.setCell ⟨wc.heap.size, q, none⟩ (.int .u8 (y : Int))) ⟨wc.heap.size, 0, none⟩ nx (fun i => if i = q then y else F i) := AtB.setByte (w := wb.drew) hat (by omega)
                        have hb6 : Below wc.heap.size wc (wb.drew.setCell ⟨wc.heap.size, q, none⟩ (.int .u8 (y : Int))) := (hbb.drew).setCell (p := ⟨wc.heap.size, q, none⟩) (Nat.le_refl _) _
                        have H6 := Lib.hid (show AtB (wb.drew.setCell ⟨wc.heap.size, q, none⟩ (.int .u8 (y : Int))) ⟨wc.heap.size, 0, none⟩ nx (fun i => if i = q then y else F i) ∧ Below wc.heap.size wc (wb.drew.setCell ⟨wc.heap.size, q, none⟩ (.int .u8 (y : Int))) ∧ (∀ i, (fun i => if i = q then y else F i) i < 256) ∧ nx ≤ cb ∧ 9 ≤ nx ∧ nx ≤ 2000000 from ⟨hat2, hb6, fun i => by dsimp only; split; exact hy2; exact hF1 i, hnc, hF2, hF3⟩)
                        have HC := Lib.hid (show (wb.drew.cell? ⟨g, 2, none⟩ = some (.int .i64 b) ∧ wb.drew.cell? ⟨wc.heap.size, q, none⟩ = some (.int .u8 (X : Int))) ∧ wb.drew.frozen? ⟨wc.heap.size, q, none⟩ = false from ⟨⟨hRb.o2, hcq⟩, hfb q (by omega)⟩)
                        have HCW := Lib.hid (show (∀ w', Below wc.heap.size wc w' → w'.cell? ⟨ga, k, none⟩ = some (.slice (some ⟨gq, 0, none⟩) m0 cq) ∧ w'.cell? ⟨gq, t, none⟩ = some (.string (strB nx F)) ∧ w'.frozen? ⟨gq, t, none⟩ = false) from fun w' hb => ⟨(hb.cell (p := ⟨ga, k, none⟩) (World.block_lt_of_cell? _ _ hcw)).trans hcw, (hb.cell (p := ⟨gq, t, none⟩) (World.block_lt_of_cell? _ _ hcx)).trans hcx, (World.frozen?_of_block (a := ⟨gq, t, none⟩) (hb.block gq (World.block_lt_of_cell? _ _ hcx))).trans (hfz t)⟩)
                        have hqn : (q : Int) < (nx : Int) := hq
                        have hr8 : (r : Int) < 8 := hr
                        generalize (fun i => if i = q then y else F i) = G at H6
                        clear hv0 hlc hel hfz hx hF1 hF2 hF3 hat hfb hbb hnc hm0 htl hq hr hr0 hmm hmm2 hX hX2 hy hy2 hcq hRb hat2 hb6
                        go_wp2
                        clear o0 ha hcx hcw hcv
                        refine region_y [18] (fun w' => w'.cell? ⟨g, 2, none⟩ = some (.int .i64 b) ∧ w'.cell? ⟨wc.heap.size, q, none⟩ = some (.int .u8 (X : Int))) (by kernel_rfl) ?_
                        have hS := HC.out.1
                        have hfq := HC.out.2
                        clear HC
                        obtain ⟨gb, hgb⟩ : ∃ g, g = wc.heap.size := ⟨_, rfl⟩
                        rw [← hgb] at hS hfq H6 ⊢
                        have HGB := Lib.hid hgb
                        clear hgb
                        generalize wb.drew = wd at hS hfq H6 ⊢
                        refine yu (i := 0) rfl (.slice (some ⟨gb, 0, none⟩) nx cb) (by kernel_rfl) (by kernel_rfl) (by kernel_rfl) (fun _ _ _ h => h) (fun w' => by go_simp) ?_
                        try simp only [Act.put, List.setIfInBounds_toArray, List.set_cons_zero, List.set_cons_succ]
                        refine yu (i := 1) rfl (.pointer (some ⟨g, 2, none⟩)) (by kernel_rfl) (by kernel_rfl) (by kernel_rfl) (fun _ _ _ h => h) (fun w' => by go_simp) ?_
                        try simp only [Act.put, List.setIfInBounds_toArray, List.set_cons_zero, List.set_cons_succ]
                        refine yt [18] (i := 2) rfl (.int .i64 b) (by kernel_rfl) (by kernel_rfl) (by kernel_rfl) (by kernel_rfl) (fun _ _ _ h => h) hS (fun w' d1 => by obtain ⟨d2, _⟩ := d1; go_simp) ?_
                        try simp only [Act.put, List.setIfInBounds_toArray, List.set_cons_zero, List.set_cons_succ]
                        refine yu (i := 3) rfl (.int .u64 (IntKind.u64.wrap b)) (by kernel_rfl) (by kernel_rfl) (by kernel_rfl) (fun _ _ _ h => h) (fun w' => by go_simp) ?_
                        try simp only [Act.put, List.setIfInBounds_toArray, List.set_cons_zero, List.set_cons_succ]
                        refine yu (i := 4) rfl (.slice (some ⟨gb, 0, none⟩) nx cb) (by kernel_rfl) (by kernel_rfl) (by kernel_rfl) (fun _ _ _ h => h) (fun w' => by go_simp) ?_
                        try simp only [Act.put, List.setIfInBounds_toArray, List.set_cons_zero, List.set_cons_succ]
                        refine yu (i := 5) rfl (.int .i64 (nx : Int)) (by kernel_rfl) (by kernel_rfl) (by kernel_rfl) (fun _ _ _ h => h) (fun w' => by go_simp) ?_
                        try simp only [Act.put, List.setIfInBounds_toArray, List.set_cons_zero, List.set_cons_succ]
                        refine yu (i := 6) rfl (.int .u64 (nx : Int)) (by kernel_rfl) (by kernel_rfl) (by kernel_rfl) (fun _ _ _ h => h) (fun w' => by go_simp) ?_
                        try simp only [Act.put, List.setIfInBounds_toArray, List.set_cons_zero, List.set_cons_succ]
                        refine yu (i := 7) rfl (.int .u64 (q : Int)) (by kernel_rfl) (by kernel_rfl) (by kernel_rfl) (fun _ _ _ h => h) (fun w' => by go_simp) ?_
                        try simp only [Act.put, List.setIfInBounds_toArray, List.set_cons_zero, List.set_cons_succ]
                        refine yu (i := 8) rfl (.int .i64 (q : Int)) (by kernel_rfl) (by kernel_rfl) (by kernel_rfl) (fun _ _ _ h => h) (fun w' => by go_simp) ?_
                        try simp only [Act.put, List.setIfInBounds_toArray, List.set_cons_zero, List.set_cons_succ]
                        refine yu (i := 9) rfl (.pointer (some ⟨gb, q, none⟩)) (by kernel_rfl) (by kernel_rfl) (by kernel_rfl) (fun _ _ _ h => h) (fun w' => by go_simp) ?_
                        try simp only [Act.put, List.setIfInBounds_toArray, List.set_cons_zero, List.set_cons_succ]
                        refine yt [18] (i := 10) rfl (.int .u8 (X : Int)) (by kernel_rfl) (by kernel_rfl) (by kernel_rfl) (by kernel_rfl) (fun _ _ _ h => h) hS (fun w' d1 => by obtain ⟨_, d2⟩ := d1; go_simp) ?_
                        try simp only [Act.put, List.setIfInBounds_toArray, List.set_cons_zero, List.set_cons_succ]
                        refine yu (i := 11) rfl (.pointer (some ⟨g, 2, none⟩)) (by kernel_rfl) (by kernel_rfl) (by kernel_rfl) (fun _ _ _ h => h) (fun w' => by go_simp) ?_
                        try simp only [Act.put, List.setIfInBounds_toArray, List.set_cons_zero, List.set_cons_succ]
                        refine yt [18] (i := 12) rfl (.int .i64 b) (by kernel_rfl) (by kernel_rfl) (by kernel_rfl) (by kernel_rfl) (fun _ _ _ h => h) hS (fun w' d1 => by obtain ⟨d2, _⟩ := d1; go_simp) ?_
                        try simp only [Act.put, List.setIfInBounds_toArray, List.set_cons_zero, List.set_cons_succ]
                        refine yu (i := 13) rfl (.int .u64 (IntKind.u64.wrap b)) (by kernel_rfl) (by kernel_rfl) (by kernel_rfl) (fun _ _ _ h => h) (fun w' => by go_simp) ?_
                        try simp only [Act.put, List.setIfInBounds_toArray, List.set_cons_zero, List.set_cons_succ]
                        refine yu (i := 14) rfl (.int .u64 (r : Int)) (by kernel_rfl) (by kernel_rfl) (by kernel_rfl) (fun _ _ _ h => h) (fun w' => by go_simp) ?_
                        try simp only [Act.put, List.setIfInBounds_toArray, List.set_cons_zero, List.set_cons_succ]
                        refine yu (i := 15) rfl (.int .u8 (mm : Int)) (by kernel_rfl) (by kernel_rfl) (by kernel_rfl) (fun _ _ _ h => h) (fun w' => by go_simp) ?_
                        try simp only [Act.put, List.setIfInBounds_toArray, List.set_cons_zero, List.set_cons_succ]
                        refine yu (i := 16) rfl (.int .u8 (y : Int)) (by kernel_rfl) (by kernel_rfl) (by kernel_rfl) (fun _ _ _ h => h) (fun w' => by go_simp) ?_
                        try simp only [Act.put, List.setIfInBounds_toArray, List.set_cons_zero, List.set_cons_succ]
                        refine y1 (i := 17) (by kernel_rfl) rfl (fun K hK => ?_)
                        go_simp
                        refine hK.out _ _ (.inr id) ?_
                        clear hK K
                        try simp only [Act.put, List.setIfInBounds_toArray, List.set_cons_zero, List.set_cons_succ]
                        refine y1 (i := 18) (by kernel_rfl) rfl (fun K hK => ?_)
                        have hcq := hS.2
                        go_simp
                        refine hK.out _ _ (.inl (by decide)) ?_
                        clear hK K
                        try simp only [Act.put, List.setIfInBounds_toArray, List.set_cons_zero, List.set_cons_succ]
                        refine wpAnyY_done (by kernel_rfl) ?_ _
                        generalize wd.setCell ⟨gb, q, none⟩ (.int .u8 (y : Int)) = w6 at H6 ⊢
                        clear hS hfq t1 t2 t3 u1 u3 u4 u7 u8 e5 e5b e6 r1 r2 hr8
                        go_wp2_with fail
                        have HB6 := Lib.hid (show Below wc.heap.size wc w6 from HGB.out ▸ H6.out.2.1)
                        have hR6 := H1.out.2.below HB6.out
                        refine (open_any (some ⟨gb, 0, none⟩) nx cb G w6 hR6.st.duo.laid.1 H6.out.1.opt H6.out.2.2.1 H6.out.2.2.2.1 (by have := H6.out.2.2.2.2.2; omega)).mono ?_
                        rintro e w7 (⟨_, gy, rfl, _, hb7⟩ | ⟨hnF, rfl, hb7⟩)
                        · have HW := Lib.hid (show Below w.heap.size w w7 from (hR6.below hb7).st.duo.blw)
                          clear hb7 hR6
                          go_wp2
                          go_ret
                          exact ⟨rfl, HW.out⟩
                        · have hb67 : Below wc.heap.size wc w7 := HB6.out.trans (hb7.mono HB6.out.size)
                          have hR7 := H1.out.2.below hb67.drew
                          have hat7 : AtBO w7.drew (some ⟨gb, 0, none⟩) nx G := H6.out.1.opt.below hb7.drew
                          have HZ7 := Lib.hid (show Z w (w7.drew.setCell ⟨gq, t, none⟩ (.string (strB nx G))) ge ga s v (put2 L 0 k ((L 0 k).set t (strB nx G))) i from hR7.st.setElem HK.out.2 HV.out (strB nx G) ⟨nx, G, rfl, H6.out.2.2.1, H6.out.2.2.2.2.1, H6.out.2.2.2.2.2, fun h => absurd h hnF⟩)
                          have HW4 := Lib.hid (show ZZ w (w7.drew.setCell ⟨gq, t, none⟩ (.string (strB nx G))) ge ga (i + 1) from ⟨_, _, _, HZ7.out.mono (Nat.le_succ i)⟩)
                          have HC := Lib.hid (show (w7.drew.cell? ⟨ga, k, none⟩ = some (.slice (some ⟨gq, 0, none⟩) m0 cq) ∧ AtBO w7.drew (some ⟨gb, 0, none⟩) nx G) ∧ w7.drew.cell? ⟨gq, t, none⟩ = some (.string (strB nx F)) ∧ w7.drew.frozen? ⟨gq, t, none⟩ = false from ⟨⟨(HCW.out _ hb67.drew).1, hat7⟩, (HCW.out _ hb67.drew).2⟩)
                          clear hb67 hR7 hat7 HZ7 hR6 hb7 hnF
                          go_wp2
                          refine region_y [7] (fun w' => w'.cell? ⟨ga, k, none⟩ = some (.slice (some ⟨gq, 0, none⟩) m0 cq) ∧ AtBO w' (some ⟨gb, 0, none⟩) nx G) (by kernel_rfl) ?_
                          have hS := HC.out.1
                          have HC4 := Lib.hid HC.out.2
                          clear HC
                          generalize w7.drew = wd at hS HC4 HW4 ⊢
                          refine yu (i := 0) rfl (.int .i64 (k : Int)) (by kernel_rfl) (by kernel_rfl) (by kernel_rfl) (fun _ _ _ h => h) (fun w' => by go_simp) ?_
                          try simp only [Act.put, List.setIfInBounds_toArray, List.set_cons_zero, List.set_cons_succ]
                          refine yu (i := 1) rfl (.pointer (some ⟨ga, k, none⟩)) (by kernel_rfl) (by kernel_rfl) (by kernel_rfl) (fun _ _ _ h => h) (fun w' => by go_simp) ?_
                          try simp only [Act.put, List.setIfInBounds_toArray, List.set_cons_zero, List.set_cons_succ]
                          refine yt [7] (i := 2) rfl (.slice (some ⟨gq, 0, none⟩) m0 cq) (by kernel_rfl) (by kernel_rfl) (by kernel_rfl) (by kernel_rfl) (fun _ _ _ h => h) hS (fun w' d1 => by obtain ⟨d2, _⟩ := d1; go_simp) ?_
                          try simp only [Act.put, List.setIfInBounds_toArray, List.set_cons_zero, List.set_cons_succ]
                          refine yu (i := 3) rfl (.int .i64 (t : Int)) (by kernel_rfl) (by kernel_rfl) (by kernel_rfl) (fun _ _ _ h => h) (fun w' => by go_simp) ?_
                          try simp only [Act.put, List.setIfInBounds_toArray, List.set_cons_zero, List.set_cons_succ]
                          refine yu (i := 4) rfl (.slice (some ⟨gb, 0, none⟩) nx cb) (by kernel_rfl) (by kernel_rfl) (by kernel_rfl) (fun _ _ _ h => h) (fun w' => by go_simp) ?_
                          try simp only [Act.put, List.setIfInBounds_toArray, List.set_cons_zero, List.set_cons_succ]
                          refine yt [7] (i := 5) rfl (.string (strB nx G)) (by kernel_rfl) (by kernel_rfl) (by kernel_rfl) (by kernel_rfl) (fun _ _ _ h => h) hS (fun w' d1 => by have d2 := conv_BO w' (some ⟨gb, 0, none⟩) nx cb G d1.2 H6.out.2.2.1 (fun h => by cases h); go_simp) ?_
                          try simp only [Act.put, List.setIfInBounds_toArray, List.set_cons_zero, List.set_cons_succ]
                          refine y1 (i := 6) (by kernel_rfl) rfl (fun K hK => ?_)
                          go_simp
                          refine hK.out _ _ (.inr id) ?_
                          clear hK K
                          try simp only [Act.put, List.setIfInBounds_toArray, List.set_cons_zero, List.set_cons_succ]
                          refine y1 (i := 7) (by kernel_rfl) rfl (fun K hK => ?_)
                          obtain ⟨hc4, hf4⟩ := HC4.out
                          go_simp
                          refine hK.out _ _ (.inl (by decide)) ?_
                          clear hK K
                          try simp only [Act.put, List.setIfInBounds_toArray, List.set_cons_zero, List.set_cons_succ]
                          refine wpAnyY_done (by kernel_rfl) ?_ _
                          go_wp2
                          go_meet
                          exact HW4
                    · by_cases h2 : kd = 2 ∧ (0 : Int) ≤ a
                      · as_aux_lemma =>
                          obtain ⟨rfl, ha⟩ := h2
                          obtain ⟨t, rfl, htl⟩ : ∃ t : Nat, a = (t : Int) ∧ t < (L 0 k).length := by
                            rcases H1.out.1 with h | h
                            · omega
                            · exact h
                          clear h1
                          obtain ⟨gq, cq, cur, hv0, hlc, _, hel, _⟩ := (H1.out.2.st.mem.r 0 k (by omega) HK.out.2).form htl
                          obtain ⟨x, hx⟩ : ∃ x, (L 0 k)[t]? = some x := ⟨_, List.getElem?_eq_getElem htl⟩
                          obtain ⟨nx, F, rfl, hF1, hF2, hF3, hF4⟩ := H1.out.2.st.inv.f k HK.out.2 x (List.mem_of_getElem? hx)
                          have hcx := hel t _ hx
                          have hcw : wc.cell? ⟨ga, k, none⟩ = some (v 0 k) := H1.out.2.st.mem.cell (j := 0) (by omega) HK.out.2
                          have hi := HLt.out.2
                          have hl0 := H1.out.2.st.len 0 k (by omega) HK.out.2
                          obtain ⟨A7, c7, w7, A8, c8, w8, hr7, hb7, hr8, hZ, hc8, hf8, hO8⟩ := H1.out.2.st.remove (wd := wc.drew) HK.out.2 htl hv0 hlc (by omega) ((Below.refl _ _).drew)
                          have hOp : OpIn (w8.setCell ⟨ga, k, none⟩ (.slice A8 ((L 0 k).length - 1) c8)) g 2 z b B n d := (hO8 _ _ _ _ H1.out.2.o (by decide) (by decide)).trans H1.out.2.o
                          have HF := Lib.hid (And.intro hF1 (And.intro hF2 (And.intro hF3 hF4)))
                          obtain ⟨m0, hm0⟩ : ∃ m, m = (L 0 k).length := ⟨_, rfl⟩
                          rw [← hm0] at hv0 hlc htl hr8 hZ hOp
                          rw [hv0] at hcw hc8
                          have htm : (t : Int) < (m0 : Int) := by omega
                          have e1 : IntKind.i64.wrap ((t : Int) + 1) = (t : Int) + 1 := i64_nat _ (by omega) (by omega)
                          have hsl := fun w => run_headS w (some ⟨gq, 0, none⟩) m0 cq t (by omega)
                          have hsl2 := fun w => run_tailS w (some ⟨gq, 0, none⟩) m0 cq t (by omega)
                          have HQ7 := Lib.hid hr7
                          have HQ8 := Lib.hid hr8
                          have HZ8 := Lib.hid (And.intro hZ hOp)
                          have HC := Lib.hid (show (∀ w', Below wc.heap.size wc w' → w'.cell? ⟨ga, k, none⟩ = some (.slice (some ⟨gq, 0, none⟩) m0 cq)) ∧ Below wc.heap.size wc w7 ∧ w8.cell? ⟨ga, k, none⟩ = some (.slice (some ⟨gq, 0, none⟩) m0 cq) ∧ w8.frozen? ⟨ga, k, none⟩ = false from ⟨fun w' hb => (hb.cell (p := ⟨ga, k, none⟩) (World.block_lt_of_cell? _ _ hcw)).trans hcw, hb7, hc8, hf8⟩)
                          clear hv0 hlc hel hx hi hl0 hr7 hr8 hZ hc8 hf8 hb7 hO8 hOp hm0 htl hF1 hF2 hF3 hF4
                          go_wp2
                          clear o0 ha hcw hcx
                          refine region_y [14, 15, 16] (fun w' => Below wc.heap.size wc w') (by kernel_rfl) ?_
                          have hS : Below wc.heap.size wc wc.drew := (Below.refl _ _).drew
                          generalize wc.drew = wd at hS HQ7 ⊢
                          refine yu (i := 0) rfl (.int .i64 (k : Int)) (by kernel_rfl) (by kernel_rfl) (by kernel_rfl) (fun _ _ _ h => h) (fun w' => by go_simp) ?_
                          try simp only [Act.put, List.setIfInBounds_toArray, List.set_cons_zero, List.set_cons_succ]
                          refine yu (i := 2) rfl (.int .i64 (k : Int)) (by kernel_rfl) (by kernel_rfl) (by kernel_rfl) (fun _ _ _ h => h) (fun w' => by go_simp) ?_
                          try simp only [Act.put, List.setIfInBounds_toArray, List.set_cons_zero, List.set_cons_succ]
                          refine yu (i := 3) rfl (.pointer (some ⟨ga, k, none⟩)) (by kernel_rfl) (by kernel_rfl) (by kernel_rfl) (fun _ _ _ h => h) (fun w' => by go_simp) ?_
                          try simp only [Act.put, List.setIfInBounds_toArray, List.set_cons_zero, List.set_cons_succ]
                          refine yt [6, 7, 14, 15, 16] (i := 4) rfl (.slice (some ⟨gq, 0, none⟩) m0 cq) (by kernel_rfl) (by kernel_rfl) (by kernel_rfl) (by kernel_rfl) (fun _ _ _ h => h) hS (fun w' d1 => by have d2 := HC.out.1 w' d1; go_simp) ?_
                          try simp only [Act.put, List.setIfInBounds_toArray, List.set_cons_zero, List.set_cons_succ]
                          refine yu (i := 5) rfl (.int .i64 (t : Int)) (by kernel_rfl) (by kernel_rfl) (by kernel_rfl) (fun _ _ _ h => h) (fun w' => by go_simp) ?_
                          try simp only [Act.put, List.setIfInBounds_toArray, List.set_cons_zero, List.set_cons_succ]
                          refine yu (i := 6) rfl (.slice (some ⟨gq, 0, none⟩) t cq) (by kernel_rfl) (by kernel_rfl) (by kernel_rfl) (fun _ _ _ h => h) (fun w' => by go_simp) ?_
                          try simp only [Act.put, List.setIfInBounds_toArray, List.set_cons_zero, List.set_cons_succ]
                          refine yu (i := 8) rfl (.int .i64 (k : Int)) (by kernel_rfl) (by kernel_rfl) (by kernel_rfl) (fun _ _ _ h => h) (fun w' => by go_simp) ?_
                          try simp only [Act.put, List.setIfInBounds_toArray, List.set_cons_zero, List.set_cons_succ]
                          refine yu (i := 9) rfl (.pointer (some ⟨ga, k, none⟩)) (by kernel_rfl) (by kernel_rfl) (by kernel_rfl) (fun _ _ _ h => h) (fun w' => by go_simp) ?_
                          try simp only [Act.put, List.setIfInBounds_toArray, List.set_cons_zero, List.set_cons_succ]
                          refine yt [13, 14, 15, 16] (i := 10) rfl (.slice (some ⟨gq, 0, none⟩) m0 cq) (by kernel_rfl) (by kernel_rfl) (by kernel_rfl) (by kernel_rfl) (fun _ _ _ h => h) hS (fun w' d1 => by have d2 := HC.out.1 w' d1; go_simp) ?_
                          try simp only [Act.put, List.setIfInBounds_toArray, List.set_cons_zero, List.set_cons_succ]
                          refine yu (i := 11) rfl (.int .i64 (t : Int)) (by kernel_rfl) (by kernel_rfl) (by kernel_rfl) (fun _ _ _ h => h) (fun w' => by go_simp) ?_
                          try simp only [Act.put, List.setIfInBounds_toArray, List.set_cons_zero, List.set_cons_succ]
                          refine yu (i := 12) rfl (.int .i64 ((t : Int) + 1)) (by kernel_rfl) (by kernel_rfl) (by kernel_rfl) (fun _ _ _ h => h) (fun w' => by go_simp) ?_
                          try simp only [Act.put, List.setIfInBounds_toArray, List.set_cons_zero, List.set_cons_succ]
                          refine yu (i := 13) rfl (.slice (tl (some ⟨gq, 0, none⟩) cq (t + 1)) (m0 - (t + 1)) (cq - (t + 1))) (by kernel_rfl) (by kernel_rfl) (by kernel_rfl) (fun _ _ _ h => h) (fun w' => by go_simp) ?_
                          try simp only [Act.put, List.setIfInBounds_toArray, List.set_cons_zero, List.set_cons_succ]
                          refine y1 (i := 1) (by kernel_rfl) rfl (fun K hK => ?_)
                          go_simp
                          refine hK.out _ _ (.inr fun _ => hS.alloc hS.size _) ?_
                          clear hK K
                          try simp only [Act.put, List.setIfInBounds_toArray, List.set_cons_zero, List.set_cons_succ]
                          refine y1 (i := 7) (by kernel_rfl) rfl (fun K hK => ?_)
                          refine wp_append_run _ _ 36 rfl (.slice (some ⟨wd.heap.size, 0, none⟩) 0 0) (.slice (some ⟨gq, 0, none⟩) t cq) (.slice A7 t c7) w7 rfl rfl HQ7.out ?_
                          refine hK.out _ _ (.inr fun _ => HC.out.2.1) ?_
                          clear hK K
                          try simp only [Act.put, List.setIfInBounds_toArray, List.set_cons_zero, List.set_cons_succ]
                          refine y1 (i := 14) (by kernel_rfl) rfl (fun K hK => ?_)
                          refine wp_append_run _ _ 36 rfl (.slice A7 t c7) (.slice (tl (some ⟨gq, 0, none⟩) cq (t + 1)) (m0 - (t + 1)) (cq - (t + 1))) (.slice A8 (m0 - 1) c8) w8 rfl rfl HQ8.out ?_
                          refine hK.out _ _ (.inl (by decide)) ?_
                          clear hK K
                          try simp only [Act.put, List.setIfInBounds_toArray, List.set_cons_zero, List.set_cons_succ]
                          refine y1 (i := 15) (by kernel_rfl) rfl (fun K hK => ?_)
                          go_simp
                          refine hK.out _ _ (.inl (by decide)) ?_
                          clear hK K
                          try simp only [Act.put, List.setIfInBounds_toArray, List.set_cons_zero, List.set_cons_succ]
                          refine y1 (i := 16) (by kernel_rfl) rfl (fun K hK => ?_)
                          obtain ⟨hc8, hf8⟩ := HC.out.2.2
                          go_simp
                          refine hK.out _ _ (.inl (by decide)) ?_
                          clear hK K
                          try simp only [Act.put, List.setIfInBounds_toArray, List.set_cons_zero, List.set_cons_succ]
                          refine wpAnyY_done (by kernel_rfl) ?_ _
                          have o0 : (w8.setCell ⟨ga, k, none⟩ (.slice A8 (m0 - 1) c8)).cell? ⟨g, 0, none⟩ = some (.int .i64 2) := by rw [cell_of_row _ g 0 _ _ (0, 0) HZ8.out.2]; rfl
                          generalize w8.setCell ⟨ga, k, none⟩ (.slice A8 (m0 - 1) c8) = w9 at HZ8 o0 ⊢
                          clear HC HQ7 HQ8 hS hsl hsl2 e1 htm
                          have ce : w9.cell? ⟨ge, k, none⟩ = some (.pointer (some ⟨w.heap.size + k, 0, none⟩)) := HZ8.out.1.ends HK.out.2
                          obtain ⟨cb, wb, hcv, hat, _, hbb, hnc, _⟩ := conv_SF w9 nx F HF.out.1
                          have hi := HLt.out.2
                          have HH := Lib.hid ((HZ8.out.1.below hbb).hear HK.out.2 (by omega) (A := some ⟨w9.heap.size, 0, none⟩) (n := nx) (c := cb) (F := F) hat.opt HF.out.1 hnc HF.out.2.2.1 (fun hisF => by
                            have := HF.out.2.2.2 hisF
                            rw [put2_other _ _ _ _ _ _ (by omega)]
                            exact this))
                          have HZb := Lib.hid (HZ8.out.1.below hbb)
                          clear hat hbb hnc hi
                          go_wp2_with fail
                          clear ce hcv o0
                          refine HH.out.mono ?_
                          rintro e w10 ⟨bb, tt, rfl, hG, hFi, hI⟩
                          have HW4 := Lib.hid (show ZZ w w10 ge ga (i + 1) from ⟨_, _, _, HZb.out.goes HK.out.2 hG hFi (Nat.le_succ i) hI⟩)
                          clear hG hFi hI HH HZb HZ8
                          go_wp2
                          go_meet
                          exact HW4
                      · by_cases h3 : kd = 3 ∧ (0 : Int) ≤ a
                        · as_aux_lemma =>
                            obtain ⟨rfl, ha⟩ := h3
                            obtain ⟨t, rfl, htl⟩ : ∃ t : Nat, a = (t : Int) ∧ t < (L 0 k).length := by
                              rcases H1.out.1 with h | h
                              · omega
                              · exact h
                            clear h1
                            obtain ⟨gq, cq, cur, hv0, hlc, _, hel, _⟩ := (H1.out.2.st.mem.r 0 k (by omega) HK.out.2).form htl
                            obtain ⟨x, hx⟩ : ∃ x, (L 0 k)[t]? = some x := ⟨_, List.getElem?_eq_getElem htl⟩
                            obtain ⟨nx, F, rfl, hF1, hF2, hF3, hF4⟩ := H1.out.2.st.inv.f k HK.out.2 x (List.mem_of_getElem? hx)
                            have hcx := hel t _ hx
                            have hcw : wc.cell? ⟨ga, k, none⟩ = some (v 0 k) := H1.out.2.st.mem.cell (j := 0) (by omega) HK.out.2
                            have hi := HLt.out.2
                            have hl0 := H1.out.2.st.len 0 k (by omega) HK.out.2
                            obtain ⟨A7, c7, w7, A8, c8, w8, hr7, hb7, hr8, hZ, hc8, hf8, hO8⟩ := H1.out.2.st.remove (wd := wc.drew) HK.out.2 htl hv0 hlc (by omega) ((Below.refl _ _).drew)
                            have hOp : OpIn (w8.setCell ⟨ga, k, none⟩ (.slice A8 ((L 0 k).length - 1) c8)) g 3 z b B n d := (hO8 _ _ _ _ H1.out.2.o (by decide) (by decide)).trans H1.out.2.o
                            have HF := Lib.hid (And.intro hF1 (And.intro hF2 (And.intro hF3 hF4)))
                            obtain ⟨m0, hm0⟩ : ∃ m, m = (L 0 k).length := ⟨_, rfl⟩
                            rw [← hm0] at hv0 hlc htl hr8 hZ hOp
                            rw [hv0] at hcw hc8
                            have htm : (t : Int) < (m0 : Int) := by omega
                            have e1 : IntKind.i64.wrap ((t : Int) + 1) = (t : Int) + 1 := i64_nat _ (by omega) (by omega)
                            have hsl := fun w => run_headS w (some ⟨gq, 0, none⟩) m0 cq t (by omega)
                            have hsl2 := fun w => run_tailS w (some ⟨gq, 0, none⟩) m0 cq t (by omega)
                            have HQ7 := Lib.hid hr7
                            have HQ8 := Lib.hid hr8
                            have HZ8 := Lib.hid (And.intro hZ hOp)
                            have HC := Lib.hid (show (∀ w', Below wc.heap.size wc w' → w'.cell? ⟨ga, k, none⟩ = some (.slice (some ⟨gq, 0, none⟩) m0 cq)) ∧ Below wc.heap.size wc w7 ∧ w8.cell? ⟨ga, k, none⟩ = some (.slice (some ⟨gq, 0, none⟩) m0 cq) ∧ w8.frozen? ⟨ga, k, none⟩ = false from ⟨fun w' hb => (hb.cell (p := ⟨ga, k, none⟩) (World.block_lt_of_cell? _ _ hcw)).trans hcw, hb7, hc8, hf8⟩)
                            clear hv0 hlc hel hx hi hl0 hr7 hr8 hZ hc8 hf8 hb7 hO8 hOp hm0 htl hF1 hF2 hF3 hF4
                            go_wp2
                            clear o0 ha hcw hcx
                            refine region_y [14, 15, 16] (fun w' => Below wc.heap.size wc w') (by kernel_rfl) ?_
                            have hS : Below wc.heap.size wc wc.drew := (Below.refl _ _).drew
                            generalize wc.drew = wd at hS HQ7 ⊢
                            refine yu (i := 0) rfl (.int .i64 (k : Int)) (by kernel_rfl) (by kernel_rfl) (by kernel_rfl) (fun _ _ _ h => h) (fun w' => by go_simp) ?_
                            try simp only [Act.put, List.setIfInBounds_toArray, List.set_cons_zero, List.set_cons_succ]
                            refine yu (i := 2) rfl (.int .i64 (k : Int)) (by kernel_rfl) (by kernel_rfl) (by kernel_rfl) (fun _ _ _ h => h) (fun w' => by go_simp) ?_
                            try simp only [Act.put, List.setIfInBounds_toArray, List.set_cons_zero, List.set_cons_succ]
                            refine yu (i := 3) rfl (.pointer (some ⟨ga, k, none⟩)) (by kernel_rfl) (by kernel_rfl) (by kernel_rfl) (fun _ _ _ h => h) (fun w' => by go_simp) ?_
                            try simp only [Act.put, List.setIfInBounds_toArray, List.set_cons_zero, List.set_cons_succ]
                            refine yt [6, 7, 14, 15, 16] (i := 4) rfl (.slice (some ⟨gq, 0, none⟩) m0 cq) (by kernel_rfl) (by kernel_rfl) (by kernel_rfl) (by kernel_rfl) (fun _ _ _ h => h) hS (fun w' d1 => by have d2 := HC.out.1 w' d1; go_simp) ?_
                            try simp only [Act.put, List.setIfInBounds_toArray, List.set_cons_zero, List.set_cons_succ]
                            refine yu (i := 5) rfl (.int .i64 (t : Int)) (by kernel_rfl) (by kernel_rfl) (by kernel_rfl) (fun _ _ _ h => h) (fun w' => by go_simp) ?_
                            try simp only [Act.put, List.setIfInBounds_toArray, List.set_cons_zero, List.set_cons_succ]
                            refine yu (i := 6) rfl (.slice (some ⟨gq, 0, none⟩) t cq) (by kernel_rfl) (by kernel_rfl) (by kernel_rfl) (fun _ _ _ h => h) (fun w' => by go_simp) ?_
                            try simp only [Act.put, List.setIfInBounds_toArray, List.set_cons_zero, List.set_cons_succ]
                            refine yu (i := 8) rfl (.int .i64 (k : Int)) (by kernel_rfl) (by kernel_rfl) (by kernel_rfl) (fun _ _ _ h => h) (fun w' => by go_simp) ?_
                            try simp only [Act.put, List.setIfInBounds_toArray, List.set_cons_zero, List.set_cons_succ]
                            refine yu (i := 9) rfl (.pointer (some ⟨ga, k, none⟩)) (by kernel_rfl) (by kernel_rfl) (by kernel_rfl) (fun _ _ _ h => h) (fun w' => by go_simp) ?_
                            try simp only [Act.put, List.setIfInBounds_toArray, List.set_cons_zero, List.set_cons_succ]
                            refine yt [13, 14, 15, 16] (i := 10) rfl (.slice (some ⟨gq, 0, none⟩) m0 cq) (by kernel_rfl) (by kernel_rfl) (by kernel_rfl) (by kernel_rfl) (fun _ _ _ h => h) hS (fun w' d1 => by have d2 := HC.out.1 w' d1; go_simp) ?_
                            try simp only [Act.put, List.setIfInBounds_toArray, List.set_cons_zero, List.set_cons_succ]
                            refine yu (i := 11) rfl (.int .i64 (t : Int)) (by kernel_rfl) (by kernel_rfl) (by kernel_rfl) (fun _ _ _ h => h) (fun w' => by go_simp) ?_
                            try simp only [Act.put, List.setIfInBounds_toArray, List.set_cons_zero, List.set_cons_succ]
                            refine yu (i := 12) rfl (.int .i64 ((t : Int) + 1)) (by kernel_rfl) (by kernel_rfl) (by kernel_rfl) (fun _ _ _ h => h) (fun w' => by go_simp) ?_
                            try simp only [Act.put, List.setIfInBounds_toArray, List.set_cons_zero, List.set_cons_succ]
                            refine yu (i := 13) rfl (.slice (tl (some ⟨gq, 0, none⟩) cq (t + 1)) (m0 - (t + 1)) (cq - (t + 1))) (by kernel_rfl) (by kernel_rfl) (by kernel_rfl) (fun _ _ _ h => h) (fun w' => by go_simp) ?_
                            try simp only [Act.put, List.setIfInBounds_toArray, List.set_cons_zero, List.set_cons_succ]
                            refine y1 (i := 1) (by kernel_rfl) rfl (fun K hK => ?_)
                            go_simp
                            refine hK.out _ _ (.inr fun _ => hS.alloc hS.size _) ?_
                            clear hK K
                            try simp only [Act.put, List.setIfInBounds_toArray, List.set_cons_zero, List.set_cons_succ]
                            refine y1 (i := 7) (by kernel_rfl) rfl (fun K hK => ?_)
                            refine wp_append_run _ _ 36 rfl (.slice (some ⟨wd.heap.size, 0, none⟩) 0 0) (.slice (some ⟨gq, 0, none⟩) t cq) (.slice A7 t c7) w7 rfl rfl HQ7.out ?_
                            refine hK.out _ _ (.inr fun _ => HC.out.2.1) ?_
                            clear hK K
                            try simp only [Act.put, List.setIfInBounds_toArray, List.set_cons_zero, List.set_cons_succ]
                            refine y1 (i := 14) (by kernel_rfl) rfl (fun K hK => ?_)
                            refine wp_append_run _ _ 36 rfl (.slice A7 t c7) (.slice (tl (some ⟨gq, 0, none⟩) cq (t + 1)) (m0 - (t + 1)) (cq - (t + 1))) (.slice A8 (m0 - 1) c8) w8 rfl rfl HQ8.out ?_
                            refine hK.out _ _ (.inl (by decide)) ?_
                            clear hK K
                            try simp only [Act.put, List.setIfInBounds_toArray, List.set_cons_zero, List.set_cons_succ]
                            refine y1 (i := 15) (by kernel_rfl) rfl (fun K hK => ?_)
                            go_simp
                            refine hK.out _ _ (.inl (by decide)) ?_
                            clear hK K
                            try simp only [Act.put, List.setIfInBounds_toArray, List.set_cons_zero, List.set_cons_succ]
                            refine y1 (i := 16) (by kernel_rfl) rfl (fun K hK => ?_)
                            obtain ⟨hc8, hf8⟩ := HC.out.2.2
                            go_simp
                            refine hK.out _ _ (.inl (by decide)) ?_
                            clear hK K
                            try simp only [Act.put, List.setIfInBounds_toArray, List.set_cons_zero, List.set_cons_succ]
                            refine wpAnyY_done (by kernel_rfl) ?_ _
                            have o0 : (w8.setCell ⟨ga, k, none⟩ (.slice A8 (m0 - 1) c8)).cell? ⟨g, 0, none⟩ = some (.int .i64 3) := by rw [cell_of_row _ g 0 _ _ (0, 0) HZ8.out.2]; rfl
                            generalize w8.setCell ⟨ga, k, none⟩ (.slice A8 (m0 - 1) c8) = w9 at HZ8 o0 ⊢
                            clear HC HQ7 HQ8 hS hsl hsl2 e1 htm
                            have HW4 := Lib.hid (show ZZ w w9 ge ga (i + 1) from ⟨_, _, _, HZ8.out.1.mono (Nat.le_succ i)⟩)
                            go_wp2
                            go_meet
                            exact HW4
                        · by_cases q4 : kd = 4
                          · as_aux_lemma =>
                              have ha1 : a = -1 := by
                                rcases H1.out.1 with h | ⟨t, h, _⟩
                                · exact h
                                · exact absurd (show kd = 4 ∧ (0 : Int) ≤ a from ⟨q4, by omega⟩) h4
                              subst q4 ha1
                              clear h1
                              have ce : wc.cell? ⟨ge, k, none⟩ = some (.pointer (some ⟨w.heap.size + k, 0, none⟩)) := H1.out.2.st.ends HK.out.2
                              have HS := Lib.hid (H1.out.2.st.step HK.out.2 (by have := HLt.out.2; omega))
                              go_wp2_with fail
                              refine HS.out.mono ?_
                              rintro e w2 ⟨A, cS, t, S, rfl, hG, hF, hI, hO, hSl, hok, _⟩
                              have HP := Lib.hid (show Pt w w2 ge ga (put1 s k t) L k i 0 wc.heap.size (.slice A S.length cS) S from ⟨v, L, H1.out.2.st.goes HK.out.2 hG hF (Nat.le_succ i) hI, H1.out.2.st.len 0 (1 - k) (by omega) (by omega), rfl, hO⟩)
                              have HS2 := Lib.hid (show S.length ≤ i + 1 ∧ ∀ y ∈ S, Okf (L 1 k) (put1 s k t k).num (put1 s k t k).want (strB y.1 y.2) from ⟨hSl, by rw [put1_same]; exact hok⟩)
                              generalize put1 s k t = s2 at HP HS2
                              obtain ⟨ns, hns⟩ : ∃ n, n = S.length := ⟨_, rfl⟩
                              rw [← hns] at HP ⊢
                              have HNS := Lib.hid hns
                              obtain ⟨kk, hkk⟩ : ∃ kk, kk = 1 - k := ⟨_, rfl⟩
                              have hkk2 : (kk : Int) < 2 := by omega
                              have e9 : IntKind.i64.wrap (1 - (k : Int)) = (kk : Int) := by
                                have := HK.out.2
                                rw [show (1 - (k : Int)) = (kk : Int) by omega]
                                exact i64_nat _ (by omega) (by omega)
                              have HKK := Lib.hid hkk
                              clear ce hG hF hI hO hSl hok hns hkk HS o0
                              go_wp2
                              go_loopw [77] (fun q wr => ∃ j : Nat, q = .int .i64 j ∧ Hid (True ∧ j ≤ ns) ∧ Hid (Pt w wr ge ga s2 L k i j wc.heap.size (.slice A ns cS) S)) (fun q _ => ns - (intOf q).toNat)
                              case atStart => exact ⟨0, rfl, ⟨trivial, Nat.zero_le _⟩, HP⟩
                              case round =>
                                clear HP
                                obtain ⟨j, rfl, HJ, HP⟩ := hrel
                                by_cases hlt : j < ns
                                · have hlt1 : (j : Int) < (ns : Int) := by omega
                                  have e8 : IntKind.i64.wrap ((j : Int) + 1) = (j : Int) + 1 := i64_nat _ (by omega) (by have := HS2.out.1; have := HLt.out.2; have := HNS.out; omega)
                                  obtain ⟨nf, ff, hj⟩ : ∃ nf ff, S[j]? = some (nf, ff) := ⟨_, _, List.getElem?_eq_getElem (by rw [← HNS.out]; exact hlt)⟩
                                  obtain ⟨x, gx, ox, cx, hx1, hx2, hlx, hvx, hcx⟩ := (show Outs wr wc.heap.size (.slice A ns cS) S from let ⟨_, _, _, _, _, h⟩ := HP.out; h).get hj
                                  injection hvx with ex en ec
                                  subst ex
                                  clear en ec
                                  obtain ⟨A1, m1, c1, A2, c2, w3, hc1, hr, hP, hc4, hf4⟩ := HP.out.next HK.out.2 HLt.out.2 hj HS2.out.1 HS2.out.2
                                  subst hx1 hx2
                                  rw [← HKK.out] at hc1 hP hc4 hf4
                                  have HQ := Lib.hid hr
                                  have HN := Lib.hid hP
                                  have HC := Lib.hid (show (wr.drew.cell? ⟨ga, kk, none⟩ = some (.slice A1 m1 c1) ∧ AtBO wr.drew (some ⟨x.blk, 0, none⟩) x.len x.dat) ∧ w3.cell? ⟨ga, kk, none⟩ = some (.slice A1 m1 c1) ∧ w3.frozen? ⟨ga, kk, none⟩ = false from ⟨⟨hc1, hlx.atB.opt⟩, hc4, hf4⟩)
                                  have HX := Lib.hid hlx.lt
                                  have HLj := Lib.hid (And.intro trivial hlt)
                                  unfold frV at hcx
                                  clear hlt hj hlx hc1 hr hP hc4 hf4 HP HJ
                                  go_wp2
                                  clear hcx
                                  refine region_y [9, 10, 11] (fun w' => w'.cell? ⟨ga, kk, none⟩ = some (.slice A1 m1 c1) ∧ AtBO w' (some ⟨x.blk, 0, none⟩) x.len x.dat) (by kernel_rfl) ?_
                                  have hS := HC.out.1
                                  have HC4 := Lib.hid HC.out.2
                                  clear HC
                                  rw [show wr.heap.size = wr.drew.heap.size from rfl] at HQ
                                  generalize wr.drew = wd at hS HQ ⊢
                                  refine yu (i := 0) rfl (.int .i64 (k : Int)) (by kernel_rfl) (by kernel_rfl) (by kernel_rfl) (fun _ _ _ h => h) (fun w' => by go_simp) ?_
                                  try simp only [Act.put, List.setIfInBounds_toArray, List.set_cons_zero, List.set_cons_succ]
                                  refine yu (i := 1) rfl (.int .i64 (kk : Int)) (by kernel_rfl) (by kernel_rfl) (by kernel_rfl) (fun _ _ _ h => h) (fun w' => by go_simp) ?_
                                  try simp only [Act.put, List.setIfInBounds_toArray, List.set_cons_zero, List.set_cons_succ]
                                  refine yu (i := 2) rfl (.int .i64 (k : Int)) (by kernel_rfl) (by kernel_rfl) (by kernel_rfl) (fun _ _ _ h => h) (fun w' => by go_simp) ?_
                                  try simp only [Act.put, List.setIfInBounds_toArray, List.set_cons_zero, List.set_cons_succ]
                                  refine yu (i := 3) rfl (.int .i64 (kk : Int)) (by kernel_rfl) (by kernel_rfl) (by kernel_rfl) (fun _ _ _ h => h) (fun w' => by go_simp) ?_
                                  try simp only [Act.put, List.setIfInBounds_toArray, List.set_cons_zero, List.set_cons_succ]
                                  refine yu (i := 4) rfl (.pointer (some ⟨ga, kk, none⟩)) (by kernel_rfl) (by kernel_rfl) (by kernel_rfl) (fun _ _ _ h => h) (fun w' => by go_simp) ?_
                                  try simp only [Act.put, List.setIfInBounds_toArray, List.set_cons_zero, List.set_cons_succ]
                                  refine yt [9, 10, 11] (i := 5) rfl (.slice A1 m1 c1) (by kernel_rfl) (by kernel_rfl) (by kernel_rfl) (by kernel_rfl) (fun _ _ _ h => h) hS (fun w' d1 => by obtain ⟨d2, _⟩ := d1; go_simp) ?_
                                  try simp only [Act.put, List.setIfInBounds_toArray, List.set_cons_zero, List.set_cons_succ]
                                  refine yu (i := 6) rfl (.slice (some ⟨x.blk, 0, none⟩) x.len x.cap) (by kernel_rfl) (by kernel_rfl) (by kernel_rfl) (fun _ _ _ h => h) (fun w' => by go_simp) ?_
                                  try simp only [Act.put, List.setIfInBounds_toArray, List.set_cons_zero, List.set_cons_succ]
                                  refine yt [8, 9, 10, 11] (i := 7) rfl (.string (strB x.len x.dat)) (by kernel_rfl) (by kernel_rfl) (by kernel_rfl) (by kernel_rfl) (fun _ _ _ h => h) hS (fun w' d1 => by have d2 := conv_BO w' (some ⟨x.blk, 0, none⟩) x.len x.cap x.dat d1.2 HX.out (fun h => by cases h); go_simp) ?_
                                  try simp only [Act.put, List.setIfInBounds_toArray, List.set_cons_zero, List.set_cons_succ]
                                  refine y1 (i := 8) (by kernel_rfl) rfl (fun K hK => ?_)
                                  go_simp
                                  refine hK.out _ _ (.inr fun _ => ⟨(World.cell?_alloc_lt _ _ ⟨ga, kk, none⟩ (World.block_lt_of_cell? _ _ hS.1)).trans hS.1, hS.2.below ((Below.refl _ _).alloc (Nat.le_refl _) _)⟩) ?_
                                  clear hK K
                                  try simp only [Act.put, List.setIfInBounds_toArray, List.set_cons_zero, List.set_cons_succ]
                                  refine y1 (i := 9) (by kernel_rfl) rfl (fun K hK => ?_)
                                  refine wp_append_run _ _ 36 rfl (.slice A1 m1 c1) (.slice (some ⟨wd.heap.size, 0, none⟩) 1 1) (.slice A2 (m1 + 1) c2) w3 rfl rfl HQ.out ?_
                                  refine hK.out _ _ (.inl (by decide)) ?_
                                  clear hK K
                                  try simp only [Act.put, List.setIfInBounds_toArray, List.set_cons_zero, List.set_cons_succ]
                                  refine y1 (i := 10) (by kernel_rfl) rfl (fun K hK => ?_)
                                  go_simp
                                  refine hK.out _ _ (.inl (by decide)) ?_
                                  clear hK K
                                  try simp only [Act.put, List.setIfInBounds_toArray, List.set_cons_zero, List.set_cons_succ]
                                  refine y1 (i := 11) (by kernel_rfl) rfl (fun K hK => ?_)
                                  obtain ⟨hc4, hf4⟩ := HC4.out
                                  go_simp
                                  refine hK.out _ _ (.inl (by decide)) ?_
                                  clear hK K
                                  try simp only [Act.put, List.setIfInBounds_toArray, List.set_cons_zero, List.set_cons_succ]
                                  refine wpAnyY_done (by kernel_rfl) ?_ _
                                  go_wp2
                                  go_roundw
                                  case rel => exact ⟨j + 1, by go_num, ⟨trivial, by have := HLj.out.2; omega⟩, HN⟩
                                  case measure => have := HLj.out.2; simp [intOf]; omega
                                · have hlt1 : ¬ (j : Int) < (ns : Int) := by omega
                                  have HW4 := Lib.hid (show ZZ w wr ge ga (i + 1) from let ⟨_, _, h, _⟩ := HP.out; ⟨_, _, _, h⟩)
                                  clear hlt HP HJ
                                  go_wp2
                                  go_meet
                                  exact HW4
                          · by_cases q5 : kd = 5
                            · as_aux_lemma =>
                                have ha1 : a = -1 := by
                                  rcases H1.out.1 with h | ⟨t, h, _⟩
                                  · exact h
                                  · exact absurd (show kd = 5 ∧ (0 : Int) ≤ a from ⟨q5, by omega⟩) h5
                                subst q5 ha1
                                clear h1
                                have ce : wc.cell? ⟨ge, k, none⟩ = some (.pointer (some ⟨w.heap.size + k, 0, none⟩)) := H1.out.2.st.ends HK.out.2
                                have HS := Lib.hid (H1.out.2.st.step HK.out.2 (by have := HLt.out.2; omega))
                                go_wp2_with fail
                                refine HS.out.mono ?_
                                rintro e w2 ⟨A, cS, t, S, rfl, hG, hF, hI, hO, hSl, hok, _⟩
                                have HP := Lib.hid (show Pt w w2 ge ga (put1 s k t) L k i 0 wc.heap.size (.slice A S.length cS) S from ⟨v, L, H1.out.2.st.goes HK.out.2 hG hF (Nat.le_succ i) hI, H1.out.2.st.len 0 (1 - k) (by omega) (by omega), rfl, hO⟩)
                                have HS2 := Lib.hid (show S.length ≤ i + 1 ∧ ∀ y ∈ S, Okf (L 1 k) (put1 s k t k).num (put1 s k t k).want (strB y.1 y.2) from ⟨hSl, by rw [put1_same]; exact hok⟩)
                                generalize put1 s k t = s2 at HP HS2
                                obtain ⟨ns, hns⟩ : ∃ n, n = S.length := ⟨_, rfl⟩
                                rw [← hns] at HP ⊢
                                have HNS := Lib.hid hns
                                obtain ⟨kk, hkk⟩ : ∃ kk, kk = 1 - k := ⟨_, rfl⟩
                                have hkk2 : (kk : Int) < 2 := by omega
                                have e9 : IntKind.i64.wrap (1 - (k : Int)) = (kk : Int) := by
                                  have := HK.out.2
                                  rw [show (1 - (k : Int)) = (kk : Int) by omega]
                                  exact i64_nat _ (by omega) (by omega)
                                have HKK := Lib.hid hkk
                                clear ce hG hF hI hO hSl hok hns hkk HS o0
                                go_wp2
                                go_loopw [77] (fun q wr => ∃ j : Nat, q = .int .i64 j ∧ Hid (True ∧ j ≤ ns) ∧ Hid (Pt w wr ge ga s2 L k i j wc.heap.size (.slice A ns cS) S)) (fun q _ => ns - (intOf q).toNat)
                                case atStart => exact ⟨0, rfl, ⟨trivial, Nat.zero_le _⟩, HP⟩
                                case round =>
                                  clear HP
                                  obtain ⟨j, rfl, HJ, HP⟩ := hrel
                                  by_cases hlt : j < ns
                                  · have hlt1 : (j : Int) < (ns : Int) := by omega
                                    have e8 : IntKind.i64.wrap ((j : Int) + 1) = (j : Int) + 1 := i64_nat _ (by omega) (by have := HS2.out.1; have := HLt.out.2; have := HNS.out; omega)
                                    obtain ⟨nf, ff, hj⟩ : ∃ nf ff, S[j]? = some (nf, ff) := ⟨_, _, List.getElem?_eq_getElem (by rw [← HNS.out]; exact hlt)⟩
                                    obtain ⟨x, gx, ox, cx, hx1, hx2, hlx, hvx, hcx⟩ := (show Outs wr wc.heap.size (.slice A ns cS) S from let ⟨_, _, _, _, _, h⟩ := HP.out; h).get hj
                                    injection hvx with ex en ec
                                    subst ex
                                    clear en ec
                                    obtain ⟨A1, m1, c1, A2, c2, w3, hc1, hr, hP, hc4, hf4⟩ := HP.out.next HK.out.2 HLt.out.2 hj HS2.out.1 HS2.out.2
                                    subst hx1 hx2
                                    rw [← HKK.out] at hc1 hP hc4 hf4
                                    have HQ := Lib.hid hr
                                    have HN := Lib.hid hP
                                    have HC := Lib.hid (show (wr.drew.cell? ⟨ga, kk, none⟩ = some (.slice A1 m1 c1) ∧ AtBO wr.drew (some ⟨x.blk, 0, none⟩) x.len x.dat) ∧ w3.cell? ⟨ga, kk, none⟩ = some (.slice A1 m1 c1) ∧ w3.frozen? ⟨ga, kk, none⟩ = false from ⟨⟨hc1, hlx.atB.opt⟩, hc4, hf4⟩)
                                    have HX := Lib.hid hlx.lt
                                    have HLj := Lib.hid (And.intro trivial hlt)
                                    unfold frV at hcx
                                    clear hlt hj hlx hc1 hr hP hc4 hf4 HP HJ
                                    go_wp2
                                    clear hcx
                                    refine region_y [9, 10, 11] (fun w' => w'.cell? ⟨ga, kk, none⟩ = some (.slice A1 m1 c1) ∧ AtBO w' (some ⟨x.blk, 0, none⟩) x.len x.dat) (by kernel_rfl) ?_
                                    have hS := HC.out.1
                                    have HC4 := Lib.hid HC.out.2
                                    clear HC
                                    rw [show wr.heap.size = wr.drew.heap.size from rfl] at HQ
                                    generalize wr.drew = wd at hS HQ ⊢
                                    refine yu (i := 0) rfl (.int .i64 (k : Int)) (by kernel_rfl) (by kernel_rfl) (by kernel_rfl) (fun _ _ _ h => h) (fun w' => by go_simp) ?_
                                    try simp only [Act.put, List.setIfInBounds_toArray, List.set_cons_zero, List.set_cons_succ]
                                    refine yu (i := 1) rfl (.int .i64 (kk : Int)) (by kernel_rfl) (by kernel_rfl) (by kernel_rfl) (fun _ _ _ h => h) (fun w' => by go_simp) ?_
                                    try simp only [Act.put, List.setIfInBounds_toArray, List.set_cons_zero, List.set_cons_succ]
                                    refine yu (i := 2) rfl (.int .i64 (k : Int)) (by kernel_rfl) (by kernel_rfl) (by kernel_rfl) (fun _ _ _ h => h) (fun w' => by go_simp) ?_
                                    try simp only [Act.put, List.setIfInBounds_toArray, List.set_cons_zero, List.set_cons_succ]
                                    refine yu (i := 3) rfl (.int .i64 (kk : Int)) (by kernel_rfl) (by kernel_rfl) (by kernel_rfl) (fun _ _ _ h => h) (fun w' => by go_simp) ?_
                                    try simp only [Act.put, List.setIfInBounds_toArray, List.set_cons_zero, List.set_cons_succ]
                                    refine yu (i := 4) rfl (.pointer (some ⟨ga, kk, none⟩)) (by kernel_rfl) (by kernel_rfl) (by kernel_rfl) (fun _ _ _ h => h) (fun w' => by go_simp) ?_
                                    try simp only [Act.put, List.setIfInBounds_toArray, List.set_cons_zero, List.set_cons_succ]
                                    refine yt [9, 10, 11] (i := 5) rfl (.slice A1 m1 c1) (by kernel_rfl) (by kernel_rfl) (by kernel_rfl) (by kernel_rfl) (fun _ _ _ h => h) hS (fun w' d1 => by obtain ⟨d2, _⟩ := d1; go_simp) ?_
                                    try simp only [Act.put, List.setIfInBounds_toArray, List.set_cons_zero, List.set_cons_succ]
                                    refine yu (i := 6) rfl (.slice (some ⟨x.blk, 0, none⟩) x.len x.cap) (by kernel_rfl) (by kernel_rfl) (by kernel_rfl) (fun _ _ _ h => h) (fun w' => by go_simp) ?_
                                    try simp only [Act.put, List.setIfInBounds_toArray, List.set_cons_zero, List.set_cons_succ]
                                    refine yt [8, 9, 10, 11] (i := 7) rfl (.string (strB x.len x.dat)) (by kernel_rfl) (by kernel_rfl) (by kernel_rfl) (by kernel_rfl) (fun _ _ _ h => h) hS (fun w' d1 => by have d2 := conv_BO w' (some ⟨x.blk, 0, none⟩) x.len x.cap x.dat d1.2 HX.out (fun h => by cases h); go_simp) ?_
                                    try simp only [Act.put, List.setIfInBounds_toArray, List.set_cons_zero, List.set_cons_succ]
                                    refine y1 (i := 8) (by kernel_rfl) rfl (fun K hK => ?_)
                                    go_simp
                                    refine hK.out _ _ (.inr fun _ => ⟨(World.cell?_alloc_lt _ _ ⟨ga, kk, none⟩ (World.block_lt_of_cell? _ _ hS.1)).trans hS.1, hS.2.below ((Below.refl _ _).alloc (Nat.le_refl _) _)⟩) ?_
                                    clear hK K
                                    try simp only [Act.put, List.setIfInBounds_toArray, List.set_cons_zero, List.set_cons_succ]
                                    refine y1 (i := 9) (by kernel_rfl) rfl (fun K hK => ?_)
                                    refine wp_append_run _ _ 36 rfl (.slice A1 m1 c1) (.slice (some ⟨wd.heap.size, 0, none⟩) 1 1) (.slice A2 (m1 + 1) c2) w3 rfl rfl HQ.out ?_
                                    refine hK.out _ _ (.inl (by decide)) ?_
                                    clear hK K
                                    try simp only [Act.put, List.setIfInBounds_toArray, List.set_cons_zero, List.set_cons_succ]
                                    refine y1 (i := 10) (by kernel_rfl) rfl (fun K hK => ?_)
                                    go_simp
                                    refine hK.out _ _ (.inl (by decide)) ?_
                                    clear hK K
                                    try simp only [Act.put, List.setIfInBounds_toArray, List.set_cons_zero, List.set_cons_succ]
                                    refine y1 (i := 11) (by kernel_rfl) rfl (fun K hK => ?_)
                                    obtain ⟨hc4, hf4⟩ := HC4.out
                                    go_simp
                                    refine hK.out _ _ (.inl (by decide)) ?_
                                    clear hK K
                                    try simp only [Act.put, List.setIfInBounds_toArray, List.set_cons_zero, List.set_cons_succ]
                                    refine wpAnyY_done (by kernel_rfl) ?_ _
                                    go_wp2
                                    go_roundw
                                    case rel => exact ⟨j + 1, by go_num, ⟨trivial, by have := HLj.out.2; omega⟩, HN⟩
                                    case measure => have := HLj.out.2; simp [intOf]; omega
                                  · have hlt1 : ¬ (j : Int) < (ns : Int) := by omega
                                    have HW4 := Lib.hid (show ZZ w wr ge ga (i + 1) from let ⟨_, _, h, _⟩ := HP.out; ⟨_, _, _, h⟩)
                                    clear hlt HP HJ
                                    go_wp2
                                    go_meet
                                    exact HW4
                            · by_cases q2 : kd = 2
                              · as_aux_lemma =>
                                  have ha1 : a = -1 := by
                                    rcases H1.out.1 with h | ⟨t, h, _⟩
                                    · exact h
                                    · exact absurd (show kd = 2 ∧ (0 : Int) ≤ a from ⟨q2, by omega⟩) h2
                                  subst q2 ha1
                                  clear h1
                                  have ce : wc.cell? ⟨ge, k, none⟩ = some (.pointer (some ⟨w.heap.size + k, 0, none⟩)) := H1.out.2.st.ends HK.out.2
                                  have HS := Lib.hid (H1.out.2.st.step HK.out.2 (by have := HLt.out.2; omega))
                                  go_wp2_with fail
                                  refine HS.out.mono ?_
                                  rintro e w2 ⟨A, cS, t, S, rfl, hG, hF, hI, hO, hSl, hok, _⟩
                                  have HP := Lib.hid (show Pt w w2 ge ga (put1 s k t) L k i 0 wc.heap.size (.slice A S.length cS) S from ⟨v, L, H1.out.2.st.goes HK.out.2 hG hF (Nat.le_succ i) hI, H1.out.2.st.len 0 (1 - k) (by omega) (by omega), rfl, hO⟩)
                                  have HS2 := Lib.hid (show S.length ≤ i + 1 ∧ ∀ y ∈ S, Okf (L 1 k) (put1 s k t k).num (put1 s k t k).want (strB y.1 y.2) from ⟨hSl, by rw [put1_same]; exact hok⟩)
                                  generalize put1 s k t = s2 at HP HS2
                                  obtain ⟨ns, hns⟩ : ∃ n, n = S.length := ⟨_, rfl⟩
                                  rw [← hns] at HP ⊢
                                  have HNS := Lib.hid hns
                                  obtain ⟨kk, hkk⟩ : ∃ kk, kk = 1 - k := ⟨_, rfl⟩
                                  have hkk2 : (kk : Int) < 2 := by omega
                                  have e9 : IntKind.i64.wrap (1 - (k : Int)) = (kk : Int) := by
                                    have := HK.out.2
                                    rw [show (1 - (k : Int)) = (kk : Int) by omega]
                                    exact i64_nat _ (by omega) (by omega)
                                  have HKK := Lib.hid hkk
                                  clear ce hG hF hI hO hSl hok hns hkk HS o0
                                  go_wp2
                                  go_loopw [77] (fun q wr => ∃ j : Nat, q = .int .i64 j ∧ Hid (True ∧ j ≤ ns) ∧ Hid (Pt w wr ge ga s2 L k i j wc.heap.size (.slice A ns cS) S)) (fun q _ => ns - (intOf q).toNat)
                                  case atStart => exact ⟨0, rfl, ⟨trivial, Nat.zero_le _⟩, HP⟩
                                  case round =>
                                    clear HP
                                    obtain ⟨j, rfl, HJ, HP⟩ := hrel
                                    by_cases hlt : j < ns
                                    · have hlt1 : (j : Int) < (ns : Int) := by omega
                                      have e8 : IntKind.i64.wrap ((j : Int) + 1) = (j : Int) + 1 := i64_nat _ (by omega) (by have := HS2.out.1; have := HLt.out.2; have := HNS.out; omega)
                                      obtain ⟨nf, ff, hj⟩ : ∃ nf ff, S[j]? = some (nf, ff) := ⟨_, _, List.getElem?_eq_getElem (by rw [← HNS.out]; exact hlt)⟩
                                      obtain ⟨x, gx, ox, cx, hx1, hx2, hlx, hvx, hcx⟩ := (show Outs wr wc.heap.size (.slice A ns cS) S from let ⟨_, _, _, _, _, h⟩ := HP.out; h).get hj
                                      injection hvx with ex en ec
                                      subst ex
                                      clear en ec
                                      obtain ⟨A1, m1, c1, A2, c2, w3, hc1, hr, hP, hc4, hf4⟩ := HP.out.next HK.out.2 HLt.out.2 hj HS2.out.1 HS2.out.2
                                      subst hx1 hx2
                                      rw [← HKK.out] at hc1 hP hc4 hf4
                                      have HQ := Lib.hid hr
                                      have HN := Lib.hid hP
                                      have HC := Lib.hid (show (wr.drew.cell? ⟨ga, kk, none⟩ = some (.slice A1 m1 c1) ∧ AtBO wr.drew (some ⟨x.blk, 0, none⟩) x.len x.dat) ∧ w3.cell? ⟨ga, kk, none⟩ = some (.slice A1 m1 c1) ∧ w3.frozen? ⟨ga, kk, none⟩ = false from ⟨⟨hc1, hlx.atB.opt⟩, hc4, hf4⟩)
                                      have HX := Lib.hid hlx.lt
                                      have HLj := Lib.hid (And.intro trivial hlt)
                                      unfold frV at hcx
                                      clear hlt hj hlx hc1 hr hP hc4 hf4 HP HJ
                                      go_wp2
                                      clear hcx
                                      refine region_y [9, 10, 11] (fun w' => w'.cell? ⟨ga, kk, none⟩ = some (.slice A1 m1 c1) ∧ AtBO w' (some ⟨x.blk, 0, none⟩) x.len x.dat) (by kernel_rfl) ?_
                                      have hS := HC.out.1
                                      have HC4 := Lib.hid HC.out.2
                                      clear HC
                                      rw [show wr.heap.size = wr.drew.heap.size from rfl] at HQ
                                      generalize wr.drew = wd at hS HQ ⊢
                                      refine yu (i := 0) rfl (.int .i64 (k : Int)) (by kernel_rfl) (by kernel_rfl) (by kernel_rfl) (fun _ _ _ h => h) (fun w' => by go_simp) ?_
                                      try simp only [Act.put, List.setIfInBounds_toArray, List.set_cons_zero, List.set_cons_succ]
                                      refine yu (i := 1) rfl (.int .i64 (kk : Int)) (by kernel_rfl) (by kernel_rfl) (by kernel_rfl) (fun _ _ _ h => h) (fun w' => by go_simp) ?_
                                      try simp only [Act.put, List.setIfInBounds_toArray, List.set_cons_zero, List.set_cons_succ]
                                      refine yu (i := 2) rfl (.int .i64 (k : Int)) (by kernel_rfl) (by kernel_rfl) (by kernel_rfl) (fun _ _ _ h => h) (fun w' => by go_simp) ?_
                                      try simp only [Act.put, List.setIfInBounds_toArray, List.set_cons_zero, List.set_cons_succ]
                                      refine yu (i := 3) rfl (.int .i64 (kk : Int)) (by kernel_rfl) (by kernel_rfl) (by kernel_rfl) (fun _ _ _ h => h) (fun w' => by go_simp) ?_
                                      try simp only [Act.put, List.setIfInBounds_toArray, List.set_cons_zero, List.set_cons_succ]
                                      refine yu (i := 4) rfl (.pointer (some ⟨ga, kk, none⟩)) (by kernel_rfl) (by kernel_rfl) (by kernel_rfl) (fun _ _ _ h => h) (fun w' => by go_simp) ?_
                                      try simp only [Act.put, List.setIfInBounds_toArray, List.set_cons_zero, List.set_cons_succ]
                                      refine yt [9, 10, 11] (i := 5) rfl (.slice A1 m1 c1) (by kernel_rfl) (by kernel_rfl) (by kernel_rfl) (by kernel_rfl) (fun _ _ _ h => h) hS (fun w' d1 => by obtain ⟨d2, _⟩ := d1; go_simp) ?_
                                      try simp only [Act.put, List.setIfInBounds_toArray, List.set_cons_zero, List.set_cons_succ]
                                      refine yu (i := 6) rfl (.slice (some ⟨x.blk, 0, none⟩) x.len x.cap) (by kernel_rfl) (by kernel_rfl) (by kernel_rfl) (fun _ _ _ h => h) (fun w' => by go_simp) ?_
                                      try simp only [Act.put, List.setIfInBounds_toArray, List.set_cons_zero, List.set_cons_succ]
                                      refine yt [8, 9, 10, 11] (i := 7) rfl (.string (strB x.len x.dat)) (by kernel_rfl) (by kernel_rfl) (by kernel_rfl) (by kernel_rfl) (fun _ _ _ h => h) hS (fun w' d1 => by have d2 := conv_BO w' (some ⟨x.blk, 0, none⟩) x.len x.cap x.dat d1.2 HX.out (fun h => by cases h); go_simp) ?_
                                      try simp only [Act.put, List.setIfInBounds_toArray, List.set_cons_zero, List.set_cons_succ]
                                      refine y1 (i := 8) (by kernel_rfl) rfl (fun K hK => ?_)
                                      go_simp
                                      refine hK.out _ _ (.inr fun _ => ⟨(World.cell?_alloc_lt _ _ ⟨ga, kk, none⟩ (World.block_lt_of_cell? _ _ hS.1)).trans hS.1, hS.2.below ((Below.refl _ _).alloc (Nat.le_refl _) _)⟩) ?_
                                      clear hK K
                                      try simp only [Act.put, List.setIfInBounds_toArray, List.set_cons_zero, List.set_cons_succ]
                                      refine y1 (i := 9) (by kernel_rfl) rfl (fun K hK => ?_)
                                      refine wp_append_run _ _ 36 rfl (.slice A1 m1 c1) (.slice (some ⟨wd.heap.size, 0, none⟩) 1 1) (.slice A2 (m1 + 1) c2) w3 rfl rfl HQ.out ?_
                                      refine hK.out _ _ (.inl (by decide)) ?_
                                      clear hK K
                                      try simp only [Act.put, List.setIfInBounds_toArray, List.set_cons_zero, List.set_cons_succ]
                                      refine y1 (i := 10) (by kernel_rfl) rfl (fun K hK => ?_)
                                      go_simp
                                      refine hK.out _ _ (.inl (by decide)) ?_
                                      clear hK K
                                      try simp only [Act.put, List.setIfInBounds_toArray, List.set_cons_zero, List.set_cons_succ]
                                      refine y1 (i := 11) (by kernel_rfl) rfl (fun K hK => ?_)
                                      obtain ⟨hc4, hf4⟩ := HC4.out
                                      go_simp
                                      refine hK.out _ _ (.inl (by decide)) ?_
                                      clear hK K
                                      try simp only [Act.put, List.setIfInBounds_toArray, List.set_cons_zero, List.set_cons_succ]
                                      refine wpAnyY_done (by kernel_rfl) ?_ _
                                      go_wp2
                                      go_roundw
                                      case rel => exact ⟨j + 1, by go_num, ⟨trivial, by have := HLj.out.2; omega⟩, HN⟩
                                      case measure => have := HLj.out.2; simp [intOf]; omega
                                    · have hlt1 : ¬ (j : Int) < (ns : Int) := by omega
                                      have HW4 := Lib.hid (show ZZ w wr ge ga (i + 1) from let ⟨_, _, h, _⟩ := HP.out; ⟨_, _, _, h⟩)
                                      clear hlt HP HJ
                                      go_wp2
                                      go_meet
                                      exact HW4
                              · by_cases q3 : kd = 3
                                · as_aux_lemma =>
                                    have ha1 : a = -1 := by
                                      rcases H1.out.1 with h | ⟨t, h, _⟩
                                      · exact h
                                      · exact absurd (show kd = 3 ∧ (0 : Int) ≤ a from ⟨q3, by omega⟩) h3
                                    subst q3 ha1
                                    clear h1
                                    have ce : wc.cell? ⟨ge, k, none⟩ = some (.pointer (some ⟨w.heap.size + k, 0, none⟩)) := H1.out.2.st.ends HK.out.2
                                    have HS := Lib.hid (H1.out.2.st.step HK.out.2 (by have := HLt.out.2; omega))
                                    go_wp2_with fail
                                    refine HS.out.mono ?_
                                    rintro e w2 ⟨A, cS, t, S, rfl, hG, hF, hI, hO, hSl, hok, _⟩
                                    have HP := Lib.hid (show Pt w w2 ge ga (put1 s k t) L k i 0 wc.heap.size (.slice A S.length cS) S from ⟨v, L, H1.out.2.st.goes HK.out.2 hG hF (Nat.le_succ i) hI, H1.out.2.st.len 0 (1 - k) (by omega) (by omega), rfl, hO⟩)
                                    have HS2 := Lib.hid (show S.length ≤ i + 1 ∧ ∀ y ∈ S, Okf (L 1 k) (put1 s k t k).num (put1 s k t k).want (strB y.1 y.2) from ⟨hSl, by rw [put1_same]; exact hok⟩)
                                    generalize put1 s k t = s2 at HP HS2
                                    obtain ⟨ns, hns⟩ : ∃ n, n = S.length := ⟨_, rfl⟩
                                    rw [← hns] at HP ⊢
                                    have HNS := Lib.hid hns
                                    obtain ⟨kk, hkk⟩ : ∃ kk, kk = 1 - k := ⟨_, rfl⟩
                                    have hkk2 : (kk : Int) < 2 := by omega
                                    have e9 : IntKind.i64.wrap (1 - (k : Int)) = (kk : Int) := by
                                      have := HK.out.2
                                      rw [show (1 - (k : Int)) = (kk : Int) by omega]
                                      exact i64_nat _ (by omega) (by omega)
                                    have HKK := Lib.hid hkk
                                    clear ce hG hF hI hO hSl hok hns hkk HS o0
                                    go_wp2
                                    go_loopw [77] (fun q wr => ∃ j : Nat, q = .int .i64 j ∧ Hid (True ∧ j ≤ ns) ∧ Hid (Pt w wr ge ga s2 L k i j wc.heap.size (.slice A ns cS) S)) (fun q _ => ns - (intOf q).toNat)
                                    case atStart => exact ⟨0, rfl, ⟨trivial, Nat.zero_le _⟩, HP⟩
                                    case round =>
                                      clear HP
                                      obtain ⟨j, rfl, HJ, HP⟩ := hrel
                                      by_cases hlt : j < ns
                                      · have hlt1 : (j : Int) < (ns : Int) := by omega
                                        have e8 : IntKind.i64.wrap ((j : Int) + 1) = (j : Int) + 1 := i64_nat _ (by omega) (by have := HS2.out.1; have := HLt.out.2; have := HNS.out; omega)
                                        obtain ⟨nf, ff, hj⟩ : ∃ nf ff, S[j]? = some (nf, ff) := ⟨_, _, List.getElem?_eq_getElem (by rw [← HNS.out]; exact hlt)⟩
                                        obtain ⟨x, gx, ox, cx, hx1, hx2, hlx, hvx, hcx⟩ := (show Outs wr wc.heap.size (.slice A ns cS) S from let ⟨_, _, _, _, _, h⟩ := HP.out; h).get hj
                                        injection hvx with ex en ec
                                        subst ex
                                        clear en ec
                                        obtain ⟨A1, m1, c1, A2, c2, w3, hc1, hr, hP, hc4, hf4⟩ := HP.out.next HK.out.2 HLt.out.2 hj HS2.out.1 HS2.out.2
                                        subst hx1 hx2
                                        rw [← HKK.out] at hc1 hP hc4 hf4
                                        have HQ := Lib.hid hr
                                        have HN := Lib.hid hP
                                        have HC := Lib.hid (show (wr.drew.cell? ⟨ga, kk, none⟩ = some (.slice A1 m1 c1) ∧ AtBO wr.drew (some ⟨x.blk, 0, none⟩) x.len x.dat) ∧ w3.cell? ⟨ga, kk, none⟩ = some (.slice A1 m1 c1) ∧ w3.frozen? ⟨ga, kk, none⟩ = false from ⟨⟨hc1, hlx.atB.opt⟩, hc4, hf4⟩)
                                        have HX := Lib.hid hlx.lt
                                        have HLj := Lib.hid (And.intro trivial hlt)
                                        unfold frV at hcx
                                        clear hlt hj hlx hc1 hr hP hc4 hf4 HP HJ
                                        go_wp2
                                        clear hcx
                                        refine region_y [9, 10, 11] (fun w' => w'.cell? ⟨ga, kk, none⟩ = some (.slice A1 m1 c1) ∧ AtBO w' (some ⟨x.blk, 0, none⟩) x.len x.dat) (by kernel_rfl) ?_
                                        have hS := HC.out.1
                                        have HC4 := Lib.hid HC.out.2
                                        clear HC
                                        rw [show wr.heap.size = wr.drew.heap.size from rfl] at HQ
                                        generalize wr.drew = wd at hS HQ ⊢
                                        refine yu (i := 0) rfl (.int .i64 (k : Int)) (by kernel_rfl) (by kernel_rfl) (by kernel_rfl) (fun _ _ _ h => h) (fun w' => by go_simp) ?_
                                        try simp only [Act.put, List.setIfInBounds_toArray, List.set_cons_zero, List.set_cons_succ]
                                        refine yu (i := 1) rfl (.int .i64 (kk : Int)) (by kernel_rfl) (by kernel_rfl) (by kernel_rfl) (fun _ _ _ h => h) (fun w' => by go_simp) ?_
                                        try simp only [Act.put, List.setIfInBounds_toArray, List.set_cons_zero, List.set_cons_succ]
                                        refine yu (i := 2) rfl (.int .i64 (k : Int)) (by kernel_rfl) (by kernel_rfl) (by kernel_rfl) (fun _ _ _ h => h) (fun w' => by go_simp) ?_
                                        try simp only [Act.put, List.setIfInBounds_toArray, List.set_cons_zero, List.set_cons_succ]
                                        refine yu (i := 3) rfl (.int .i64 (kk : Int)) (by kernel_rfl) (by kernel_rfl) (by kernel_rfl) (fun _ _ _ h => h) (fun w' => by go_simp) ?_
                                        try simp only [Act.put, List.setIfInBounds_toArray, List.set_cons_zero, List.set_cons_succ]
                                        refine yu (i := 4) rfl (.pointer (some ⟨ga, kk, none⟩)) (by kernel_rfl) (by kernel_rfl) (by kernel_rfl) (fun _ _ _ h => h) (fun w' => by go_simp) ?_
                                        try simp only [Act.put, List.setIfInBounds_toArray, List.set_cons_zero, List.set_cons_succ]
                                        refine yt [9, 10, 11] (i := 5) rfl (.slice A1 m1 c1) (by kernel_rfl) (by kernel_rfl) (by kernel_rfl) (by kernel_rfl) (fun _ _ _ h => h) hS (fun w' d1 => by obtain ⟨d2, _⟩ := d1; go_simp) ?_
                                        try simp only [Act.put, List.setIfInBounds_toArray, List.set_cons_zero, List.set_cons_succ]
                                        refine yu (i := 6) rfl (.slice (some ⟨x.blk, 0, none⟩) x.len x.cap) (by kernel_rfl) (by kernel_rfl) (by kernel_rfl) (fun _ _ _ h => h) (fun w' => by go_simp) ?_
                                        try simp only [Act.put, List.setIfInBounds_toArray, List.set_cons_zero, List.set_cons_succ]
                                        refine yt [8, 9, 10, 11] (i := 7) rfl (.string (strB x.len x.dat)) (by kernel_rfl) (by kernel_rfl) (by kernel_rfl) (by kernel_rfl) (fun _ _ _ h => h) hS (fun w' d1 => by have d2 := conv_BO w' (some ⟨x.blk, 0, none⟩) x.len x.cap x.dat d1.2 HX.out (fun h => by cases h); go_simp) ?_
                                        try simp only [Act.put, List.setIfInBounds_toArray, List.set_cons_zero, List.set_cons_succ]
                                        refine y1 (i := 8) (by kernel_rfl) rfl (fun K hK => ?_)
                                        go_simp
                                        refine hK.out _ _ (.inr fun _ => ⟨(World.cell?_alloc_lt _ _ ⟨ga, kk, none⟩ (World.block_lt_of_cell? _ _ hS.1)).trans hS.1, hS.2.below ((Below.refl _ _).alloc (Nat.le_refl _) _)⟩) ?_
                                        clear hK K
                                        try simp only [Act.put, List.setIfInBounds_toArray, List.set_cons_zero, List.set_cons_succ]
                                        refine y1 (i := 9) (by kernel_rfl) rfl (fun K hK => ?_)
                                        refine wp_append_run _ _ 36 rfl (.slice A1 m1 c1) (.slice (some ⟨wd.heap.size, 0, none⟩) 1 1) (.slice A2 (m1 + 1) c2) w3 rfl rfl HQ.out ?_
                                        refine hK.out _ _ (.inl (by decide)) ?_
                                        clear hK K
                                        try simp only [Act.put, List.setIfInBounds_toArray, List.set_cons_zero, List.set_cons_succ]
                                        refine y1 (i := 10) (by kernel_rfl) rfl (fun K hK => ?_)
                                        go_simp
                                        refine hK.out _ _ (.inl (by decide)) ?_
                                        clear hK K
                                        try simp only [Act.put, List.setIfInBounds_toArray, List.set_cons_zero, List.set_cons_succ]
                                        refine y1 (i := 11) (by kernel_rfl) rfl (fun K hK => ?_)
                                        obtain ⟨hc4, hf4⟩ := HC4.out
                                        go_simp
                                        refine hK.out _ _ (.inl (by decide)) ?_
                                        clear hK K
                                        try simp only [Act.put, List.setIfInBounds_toArray, List.set_cons_zero, List.set_cons_succ]
                                        refine wpAnyY_done (by kernel_rfl) ?_ _
                                        go_wp2
                                        go_roundw
                                        case rel => exact ⟨j + 1, by go_num, ⟨trivial, by have := HLj.out.2; omega⟩, HN⟩
                                        case measure => have := HLj.out.2; simp [intOf]; omega
                                      · have hlt1 : ¬ (j : Int) < (ns : Int) := by omega
                                        have HW4 := Lib.hid (show ZZ w wr ge ga (i + 1) from let ⟨_, _, h, _⟩ := HP.out; ⟨_, _, _, h⟩)
                                        clear hlt HP HJ
                                        go_wp2
                                        go_meet
                                        exact HW4
                                · as_aux_lemma =>
                                    have b1 : (kd == 1) = false := by simpa using h1
                                    have b2 : (kd == 2) = false := by simpa using q2
                                    have b3 : (kd == 3) = false := by simpa using q3
                                    have b4 : (kd == 4) = false := by simpa using q4
                                    have b5 : (kd == 5) = false := by simpa using q5
                                    have ce : wc.cell? ⟨ge, k, none⟩ = some (.pointer (some ⟨w.heap.size + k, 0, none⟩)) := H1.out.2.st.ends HK.out.2
                                    have HS := Lib.hid (H1.out.2.st.step HK.out.2 (by have := HLt.out.2; omega))
                                    go_wp2_with fail
                                    refine HS.out.mono ?_
                                    rintro e w2 ⟨A, cS, t, S, rfl, hG, hF, hI, hO, hSl, hok, _⟩
                                    have HP := Lib.hid (show Pt w w2 ge ga (put1 s k t) L k i 0 wc.heap.size (.slice A S.length cS) S from ⟨v, L, H1.out.2.st.goes HK.out.2 hG hF (Nat.le_succ i) hI, H1.out.2.st.len 0 (1 - k) (by omega) (by omega), rfl, hO⟩)
                                    have HS2 := Lib.hid (show S.length ≤ i + 1 ∧ ∀ y ∈ S, Okf (L 1 k) (put1 s k t k).num (put1 s k t k).want (strB y.1 y.2) from ⟨hSl, by rw [put1_same]; exact hok⟩)
                                    generalize put1 s k t = s2 at HP HS2
                                    obtain ⟨ns, hns⟩ : ∃ n, n = S.length := ⟨_, rfl⟩
                                    rw [← hns] at HP ⊢
                                    have HNS := Lib.hid hns
                                    obtain ⟨kk, hkk⟩ : ∃ kk, kk = 1 - k := ⟨_, rfl⟩
                                    have hkk2 : (kk : Int) < 2 := by omega
                                    have e9 : IntKind.i64.wrap (1 - (k : Int)) = (kk : Int) := by
                                      have := HK.out.2
                                      rw [show (1 - (k : Int)) = (kk : Int) by omega]
                                      exact i64_nat _ (by omega) (by omega)
                                    have HKK := Lib.hid hkk
                                    clear ce hG hF hI hO hSl hok hns hkk HS o0
                                    go_wp2
                                    go_loopw [77] (fun q wr => ∃ j : Nat, q = .int .i64 j ∧ Hid (True ∧ j ≤ ns) ∧ Hid (Pt w wr ge ga s2 L k i j wc.heap.size (.slice A ns cS) S)) (fun q _ => ns - (intOf q).toNat)
                                    case atStart => exact ⟨0, rfl, ⟨trivial, Nat.zero_le _⟩, HP⟩
                                    case round =>
                                      clear HP
                                      obtain ⟨j, rfl, HJ, HP⟩ := hrel
                                      by_cases hlt : j < ns
                                      · have hlt1 : (j : Int) < (ns : Int) := by omega
                                        have e8 : IntKind.i64.wrap ((j : Int) + 1) = (j : Int) + 1 := i64_nat _ (by omega) (by have := HS2.out.1; have := HLt.out.2; have := HNS.out; omega)
                                        obtain ⟨nf, ff, hj⟩ : ∃ nf ff, S[j]? = some (nf, ff) := ⟨_, _, List.getElem?_eq_getElem (by rw [← HNS.out]; exact hlt)⟩
                                        obtain ⟨x, gx, ox, cx, hx1, hx2, hlx, hvx, hcx⟩ := (show Outs wr wc.heap.size (.slice A ns cS) S from let ⟨_, _, _, _, _, h⟩ := HP.out; h).get hj
                                        injection hvx with ex en ec
                                        subst ex
                                        clear en ec
                                        obtain ⟨A1, m1, c1, A2, c2, w3, hc1, hr, hP, hc4, hf4⟩ := HP.out.next HK.out.2 HLt.out.2 hj HS2.out.1 HS2.out.2
                                        subst hx1 hx2
                                        rw [← HKK.out] at hc1 hP hc4 hf4
                                        have HQ := Lib.hid hr
                                        have HN := Lib.hid hP
                                        have HC := Lib.hid (show (wr.drew.cell? ⟨ga, kk, none⟩ = some (.slice A1 m1 c1) ∧ AtBO wr.drew (some ⟨x.blk, 0, none⟩) x.len x.dat) ∧ w3.cell? ⟨ga, kk, none⟩ = some (.slice A1 m1 c1) ∧ w3.frozen? ⟨ga, kk, none⟩ = false from ⟨⟨hc1, hlx.atB.opt⟩, hc4, hf4⟩)
                                        have HX := Lib.hid hlx.lt
                                        have HLj := Lib.hid (And.intro trivial hlt)
                                        unfold frV at hcx
                                        clear hlt hj hlx hc1 hr hP hc4 hf4 HP HJ
                                        go_wp2
                                        clear hcx
                                        refine region_y [9, 10, 11] (fun w' => w'.cell? ⟨ga, kk, none⟩ = some (.slice A1 m1 c1) ∧ AtBO w' (some ⟨x.blk, 0, none⟩) x.len x.dat) (by kernel_rfl) ?_
                                        have hS := HC.out.1
                                        have HC4 := Lib.hid HC.out.2
                                        clear HC
                                        rw [show wr.heap.size = wr.drew.heap.size from rfl] at HQ
                                        generalize wr.drew = wd at hS HQ ⊢
                                        refine yu (i := 0) rfl (.int .i64 (k : Int)) (by kernel_rfl) (by kernel_rfl) (by kernel_rfl) (fun _ _ _ h => h) (fun w' => by go_simp) ?_
                                        try simp only [Act.put, List.setIfInBounds_toArray, List.set_cons_zero, List.set_cons_succ]
                                        refine yu (i := 1) rfl (.int .i64 (kk : Int)) (by kernel_rfl) (by kernel_rfl) (by kernel_rfl) (fun _ _ _ h => h) (fun w' => by go_simp) ?_
                                        try simp only [Act.put, List.setIfInBounds_toArray, List.set_cons_zero, List.set_cons_succ]
                                        refine yu (i := 2) rfl (.int .i64 (k : Int)) (by kernel_rfl) (by kernel_rfl) (by kernel_rfl) (fun _ _ _ h => h) (fun w' => by go_simp) ?_
                                        try simp only [Act.put, List.setIfInBounds_toArray, List.set_cons_zero, List.set_cons_succ]
                                        refine yu (i := 3) rfl (.int .i64 (kk : Int)) (by kernel_rfl) (by kernel_rfl) (by kernel_rfl) (fun _ _ _ h => h) (fun w' => by go_simp) ?_
                                        try simp only [Act.put, List.setIfInBounds_toArray, List.set_cons_zero, List.set_cons_succ]
                                        refine yu (i := 4) rfl (.pointer (some ⟨ga, kk, none⟩)) (by kernel_rfl) (by kernel_rfl) (by kernel_rfl) (fun _ _ _ h => h) (fun w' => by go_simp) ?_
                                        try simp only [Act.put, List.setIfInBounds_toArray, List.set_cons_zero, List.set_cons_succ]
                                        refine yt [9, 10, 11] (i := 5) rfl (.slice A1 m1 c1) (by kernel_rfl) (by kernel_rfl) (by kernel_rfl) (by kernel_rfl) (fun _ _ _ h => h) hS (fun w' d1 => by obtain ⟨d2, _⟩ := d1; go_simp) ?_
                                        try simp only [Act.put, List.setIfInBounds_toArray, List.set_cons_zero, List.set_cons_succ]
                                        refine yu (i := 6) rfl (.slice (some ⟨x.blk, 0, none⟩) x.len x.cap) (by kernel_rfl) (by kernel_rfl) (by kernel_rfl) (fun _ _ _ h => h) (fun w' => by go_simp) ?_
                                        try simp only [Act.put, List.setIfInBounds_toArray, List.set_cons_zero, List.set_cons_succ]
                                        refine yt [8, 9, 10, 11] (i := 7) rfl (.string (strB x.len x.dat)) (by kernel_rfl) (by kernel_rfl) (by kernel_rfl) (by kernel_rfl) (fun _ _ _ h => h) hS (fun w' d1 => by have d2 := conv_BO w' (some ⟨x.blk, 0, none⟩) x.len x.cap x.dat d1.2 HX.out (fun h => by cases h); go_simp) ?_
                                        try simp only [Act.put, List.setIfInBounds_toArray, List.set_cons_zero, List.set_cons_succ]
                                        refine y1 (i := 8) (by kernel_rfl) rfl (fun K hK => ?_)
                                        go_simp
                                        refine hK.out _ _ (.inr fun _ => ⟨(World.cell?_alloc_lt _ _ ⟨ga, kk, none⟩ (World.block_lt_of_cell? _ _ hS.1)).trans hS.1, hS.2.below ((Below.refl _ _).alloc (Nat.le_refl _) _)⟩) ?_
                                        clear hK K
                                        try simp only [Act.put, List.setIfInBounds_toArray, List.set_cons_zero, List.set_cons_succ]
                                        refine y1 (i := 9) (by kernel_rfl) rfl (fun K hK => ?_)
                                        refine wp_append_run _ _ 36 rfl (.slice A1 m1 c1) (.slice (some ⟨wd.heap.size, 0, none⟩) 1 1) (.slice A2 (m1 + 1) c2) w3 rfl rfl HQ.out ?_
                                        refine hK.out _ _ (.inl (by decide)) ?_
                                        clear hK K
                                        try simp only [Act.put, List.setIfInBounds_toArray, List.set_cons_zero, List.set_cons_succ]
                                        refine y1 (i := 10) (by kernel_rfl) rfl (fun K hK => ?_)
                                        go_simp
                                        refine hK.out _ _ (.inl (by decide)) ?_
                                        clear hK K
                                        try simp only [Act.put, List.setIfInBounds_toArray, List.set_cons_zero, List.set_cons_succ]
                                        refine y1 (i := 11) (by kernel_rfl) rfl (fun K hK => ?_)
                                        obtain ⟨hc4, hf4⟩ := HC4.out
                                        go_simp
                                        refine hK.out _ _ (.inl (by decide)) ?_
                                        clear hK K
                                        try simp only [Act.put, List.setIfInBounds_toArray, List.set_cons_zero, List.set_cons_succ]
                                        refine wpAnyY_done (by kernel_rfl) ?_ _
                                        go_wp2
                                        go_roundw
                                        case rel => exact ⟨j + 1, by go_num, ⟨trivial, by have := HLj.out.2; omega⟩, HN⟩
                                        case measure => have := HLj.out.2; simp [intOf]; omega
                                      · have hlt1 : ¬ (j : Int) < (ns : Int) := by omega
                                        have HW4 := Lib.hid (show ZZ w wr ge ga (i + 1) from let ⟨_, _, h, _⟩ := HP.out; ⟨_, _, _, h⟩)
                                        clear hlt HP HJ
                                        go_wp2
                                        go_meet
                                        exact HW4
            case rest =>
              as_aux_lemma =>
                clear H1 o0
                have HZ := hcut
                clear hcut
                go_wp2
                go_loopw [229] (fun q wr => ∃ kq : Nat, q = .int .i64 kq ∧ Hid (True ∧ kq ≤ 2) ∧ Hid (ZZ w wr ge ga (i + 1))) (fun q _ => 2 - (intOf q).toNat)
                case atStart => exact ⟨0, rfl, ⟨trivial, by omega⟩, HZ⟩
                case round =>
                  clear HZ
                  obtain ⟨kq, rfl, HJ2, HZ⟩ := hrel
                  by_cases hlt : kq < 2
                  · have hq2 : (kq : Int) < 2 := by omega
                    have e8 : IntKind.i64.wrap ((kq : Int) + 1) = (kq : Int) + 1 := i64_nat _ (by omega) (by omega)
                    have HKq := Lib.hid (And.intro trivial hlt)
                    obtain ⟨w6, hw6⟩ : ∃ z, z = wr := ⟨_, rfl⟩
                    subst hw6
                    obtain ⟨s6, v6, L6, HZ6⟩ : ∃ s v L, Hid (Z w w6 ge ga s v L (i + 1)) := let ⟨s, v, L, h⟩ := HZ.out; ⟨s, v, L, Lib.hid h⟩
                    have ce : w6.cell? ⟨ge, kq, none⟩ = some (.pointer (some ⟨w.heap.size + kq, 0, none⟩)) := HZ6.out.ends HKq.out.2
                    have HT := Lib.hid (HZ6.out.take HKq.out.2)
                    clear hlt HJ2 HZ
                    go_upto_region 38 with fail
                    go_cut [20, 21] from 231 to 231 (fun p ok wc => Hid (∃ gh, Tk w wc ge ga kq (i + 1) p ok gh))
                    case first =>
                      as_aux_lemma =>
                        go_wp2_with fail
                        refine HT.out.mono ?_
                        intro e w7 ht
                        obtain ⟨p, ok, gh, rfl, htk, _⟩ := Tk.of_take HZ6.out ht
                        have HTk := Lib.hid (show ∃ gh, Tk w w7 ge ga kq (i + 1) p (.bool ok) gh from ⟨gh, htk⟩)
                        clear ht htk
                        go_wp2
                        go_meet
                        exact HTk
                    case rest =>
                      as_aux_lemma =>
                        clear HT ce HZ6
                        obtain ⟨gh, HTk⟩ : ∃ gh, Hid (Tk w wc ge ga kq (i + 1) u20 u21 gh) := let ⟨g, h⟩ := hcut.out; ⟨g, Lib.hid h⟩
                        clear hcut
                        go_wp2
                        go_loopg [20, 21] gh (fun gh p ok wr => Hid (Tk w wr ge ga kq (i + 1) p ok gh))
                        case atStart => exact HTk
                        case round =>
                          clear HTk
                          obtain ⟨w7, hw7⟩ : ∃ z, z = wr := ⟨_, rfl⟩
                          subst hw7
                          rcases hrel.out with ⟨hok, hZ⟩ | ⟨hok, wp, s7, v7, L7, x, C, u, hp, hZ, hC, hG, hl, hgh⟩
                          · as_aux_lemma =>
                              subst hok
                              obtain ⟨s8, v8, L8, HZ8⟩ : ∃ s v L, Hid (Z w w7 ge ga s v L (i + 1)) := let ⟨s, v, L, h⟩ := hZ; ⟨s, v, L, Lib.hid h⟩
                              clear hrel hZ
                              obtain ⟨A2, c2, A1, c1, hc2, hc1, hle, _⟩ := HZ8.out.cmp HKq.out.2
                              obtain ⟨m2, hm2⟩ : ∃ m, m = (L8 2 kq).length := ⟨_, rfl⟩
                              obtain ⟨m1, hm1⟩ : ∃ m, m = (L8 1 (1 - kq)).length := ⟨_, rfl⟩
                              obtain ⟨kk, hkk⟩ : ∃ kk, kk = 1 - kq := ⟨_, rfl⟩
                              rw [← hm2] at hc2 hle
                              rw [← hm1] at hc1 hle
                              rw [← hkk] at hc1
                              have hkk2 : (kk : Int) < 2 := by omega
                              have e9 : IntKind.i64.wrap (1 - (kq : Int)) = (kk : Int) := by
                                have := HKq.out.2
                                rw [show (1 - (kq : Int)) = (kk : Int) by omega]
                                exact i64_nat _ (by omega) (by omega)
                              have hle1 : ¬ (m1 : Int) < (m2 : Int) := by omega
                              have hm2l : m2 ≤ 400 * (i + 1) := by rw [hm2]; exact HZ8.out.len 2 kq (by omega) HKq.out.2
                              have HMs := Lib.hid (And.intro hm2 (And.intro hm1 (And.intro hkk (And.intro hle hm2l))))
                              clear hm2 hm1 hkk hle hm2l
                              go_wp2
                              go_quiet (fail)
                              have hc2' : (w7.drewN nq).cell? ⟨ga + 1 + 1, kq, none⟩ = some (.slice A2 m2 c2) := hc2
                              have HZ9 := Lib.hid (HZ8.out.below (drew_below w7 _ nq))
                              clear hc2 hc1 HZ8
                              generalize w7.drewN nq = w9 at hc2' HZ9 ⊢
                              go_wp2
                              clear hc2' hle1
                              go_loopw [270] (fun q wr => ∃ j : Nat, q = .int .i64 j ∧ Hid (True ∧ j ≤ m2) ∧ Hid (Z w wr ge ga s8 v8 L8 (i + 1))) (fun q _ => m2 - (intOf q).toNat)
                              case atStart => exact ⟨0, rfl, ⟨trivial, Nat.zero_le _⟩, HZ9⟩
                              case round =>
                                clear HZ9
                                obtain ⟨j, rfl, HJ3, HZj⟩ := hrel
                                by_cases hlt : j < m2
                                · have hlt1 : (j : Int) < (m2 : Int) := by omega
                                  have hi := HLt.out.2
                                  have hml := HMs.out.2.2.2
                                  have e10 : IntKind.i64.wrap ((j : Int) + 1) = (j : Int) + 1 := i64_nat _ (by omega) (by omega)
                                  obtain ⟨A2', c2', A1', c1', d2, d1, _, hx⟩ := HZj.out.cmp HKq.out.2
                                  obtain ⟨g2, g1, x, rfl, rfl, dx2, dx1⟩ := hx j (by rw [← HMs.out.1]; exact hlt)
                                  rw [← HMs.out.1] at d2
                                  rw [← HMs.out.2.1, ← HMs.out.2.2.1] at d1
                                  have hlt2 : (j : Int) < (m1 : Int) := by omega
                                  have HLj := Lib.hid (And.intro trivial hlt)
                                  clear hx hlt hi hml HJ3
                                  go_wp2
                                  go_quiet (fail)
                                  have HZn := Lib.hid (HZj.out.below (drew_below wr _ nq))
                                  clear d1 d2 dx1 dx2 HZj
                                  generalize wr.drewN nq = w10 at HZn ⊢
                                  go_wp2
                                  go_roundw
                                  case rel => exact ⟨j + 1, by go_num, ⟨trivial, by have := HLj.out.2; omega⟩, HZn⟩
                                  case measure => have := HLj.out.2; simp [intOf]; omega
                                · have hlt1 : ¬ (j : Int) < (m2 : Int) := by omega
                                  have HN := Lib.hid (show ZZ w wr ge ga (i + 1) from ⟨_, _, _, HZj.out⟩)
                                  clear HZj HJ3 hlt
                                  go_wp2
                                  go_roundw
                                  case rel => exact ⟨kq + 1, by go_num, ⟨trivial, by have := HKq.out.2; omega⟩, HN⟩
                                  case measure => have := HKq.out.2; simp [intOf]; omega
                          · as_aux_lemma =>
                              subst hok hp
                              have hi := HLt.out.2
                              obtain ⟨A1, m1, c1, A2, c2, w3, hc1, hr, ⟨s', v', L', hZ', hC'⟩, hc4, hf4⟩ := hZ.came HKq.out.2 (by omega) hC hG
                              have ce := hZ'.ends HKq.out.2
                              have HT := Lib.hid (hZ'.take HKq.out.2)
                              have HQ := Lib.hid hr
                              have HZ' := Lib.hid (show Z w (w3.setCell ⟨ga + 1 + 1, kq, none⟩ (.slice A2 (m1 + 1) c2)) ge ga s' v' L' (i + 1) ∧ gk = (s' kq).C.length + 1 from ⟨hZ', by rw [hC']; exact hgh⟩)
                              have HC := Lib.hid (show (w7.drew.cell? ⟨ga + 1 + 1, kq, none⟩ = some (.slice A1 m1 c1) ∧ AtBO w7.drew (some ⟨x.blk, 0, none⟩) x.len x.dat) ∧ w3.cell? ⟨ga + 1 + 1, kq, none⟩ = some (.slice A1 m1 c1) ∧ w3.frozen? ⟨ga + 1 + 1, kq, none⟩ = false from ⟨⟨hc1, hl.atB.opt⟩, hc4, hf4⟩)
                              have HX := Lib.hid hl.lt
                              have HCE := Lib.hid ce
                              clear hi hZ hC hG hl hgh hc1 hr hZ' hC' hc4 hf4 hrel ce
                              go_wp2
                              refine region_y [7, 8, 9] (fun w' => w'.cell? ⟨ga + 1 + 1, kq, none⟩ = some (.slice A1 m1 c1) ∧ AtBO w' (some ⟨x.blk, 0, none⟩) x.len x.dat) (by kernel_rfl) ?_
                              have hS := HC.out.1
                              have HC4 := Lib.hid HC.out.2
                              clear HC
                              generalize w7.drew = wd at hS HQ ⊢
                              refine yu (i := 0) rfl (.int .i64 (kq : Int)) (by kernel_rfl) (by kernel_rfl) (by kernel_rfl) (fun _ _ _ h => h) (fun w' => by go_simp) ?_
                              try simp only [Act.put, List.setIfInBounds_toArray, List.set_cons_zero, List.set_cons_succ]
                              refine yu (i := 1) rfl (.int .i64 (kq : Int)) (by kernel_rfl) (by kernel_rfl) (by kernel_rfl) (fun _ _ _ h => h) (fun w' => by go_simp) ?_
                              try simp only [Act.put, List.setIfInBounds_toArray, List.set_cons_zero, List.set_cons_succ]
                              refine yu (i := 2) rfl (.pointer (some ⟨ga + 1 + 1, kq, none⟩)) (by kernel_rfl) (by kernel_rfl) (by kernel_rfl) (fun _ _ _ h => h) (fun w' => by go_simp) ?_
                              try simp only [Act.put, List.setIfInBounds_toArray, List.set_cons_zero, List.set_cons_succ]
                              refine yt [7, 8, 9] (i := 3) rfl (.slice A1 m1 c1) (by kernel_rfl) (by kernel_rfl) (by kernel_rfl) (by kernel_rfl) (fun _ _ _ h => h) hS (fun w' d1 => by obtain ⟨d2, _⟩ := d1; go_simp) ?_
                              try simp only [Act.put, List.setIfInBounds_toArray, List.set_cons_zero, List.set_cons_succ]
                              refine yu (i := 4) rfl (.slice (some ⟨x.blk, 0, none⟩) x.len x.cap) (by kernel_rfl) (by kernel_rfl) (by kernel_rfl) (fun _ _ _ h => h) (fun w' => by go_simp) ?_
                              try simp only [Act.put, List.setIfInBounds_toArray, List.set_cons_zero, List.set_cons_succ]
                              refine yt [6, 7, 8, 9] (i := 5) rfl (.string (strB x.len x.dat)) (by kernel_rfl) (by kernel_rfl) (by kernel_rfl) (by kernel_rfl) (fun _ _ _ h => h) hS (fun w' d1 => by have d2 := conv_BO w' (some ⟨x.blk, 0, none⟩) x.len x.cap x.dat d1.2 HX.out (fun h => by cases h); go_simp) ?_
                              try simp only [Act.put, List.setIfInBounds_toArray, List.set_cons_zero, List.set_cons_succ]
                              refine y1 (i := 6) (by kernel_rfl) rfl (fun K hK => ?_)
                              go_simp
                              refine hK.out _ _ (.inr fun _ => ⟨(World.cell?_alloc_lt _ _ ⟨ga + 1 + 1, kq, none⟩ (World.block_lt_of_cell? _ _ hS.1)).trans hS.1, hS.2.below ((Below.refl _ _).alloc (Nat.le_refl _) _)⟩) ?_
                              clear hK K
                              try simp only [Act.put, List.setIfInBounds_toArray, List.set_cons_zero, List.set_cons_succ]
                              refine y1 (i := 7) (by kernel_rfl) rfl (fun K hK => ?_)
                              refine wp_append_run _ _ 36 rfl (.slice A1 m1 c1) (.slice (some ⟨wd.heap.size, 0, none⟩) 1 1) (.slice A2 (m1 + 1) c2) w3 rfl rfl HQ.out ?_
                              refine hK.out _ _ (.inl (by decide)) ?_
                              clear hK K
                              try simp only [Act.put, List.setIfInBounds_toArray, List.set_cons_zero, List.set_cons_succ]
                              refine y1 (i := 8) (by kernel_rfl) rfl (fun K hK => ?_)
                              go_simp
                              refine hK.out _ _ (.inl (by decide)) ?_
                              clear hK K
                              try simp only [Act.put, List.setIfInBounds_toArray, List.set_cons_zero, List.set_cons_succ]
                              refine y1 (i := 9) (by kernel_rfl) rfl (fun K hK => ?_)
                              obtain ⟨hc4, hf4⟩ := HC4.out
                              go_simp
                              refine hK.out _ _ (.inl (by decide)) ?_
                              clear hK K
                              try simp only [Act.put, List.setIfInBounds_toArray, List.set_cons_zero, List.set_cons_succ]
                              refine wpAnyY_done (by kernel_rfl) ?_ _
                              have ce := HCE.out
                              clear HCE HC4 HQ hS HX
                              generalize w3.setCell ⟨ga + 1 + 1, kq, none⟩ (.slice A2 (m1 + 1) c2) = w9 at ce HT HZ' ⊢
                              go_wp2_with fail
                              clear ce
                              refine HT.out.mono ?_
                              intro e w10 ht
                              obtain ⟨p, ok, gh', rfl, htk, hgl⟩ := Tk.of_take HZ'.out.1 ht
                              have HTk := Lib.hid htk
                              have HGl := Lib.hid (show gh' < gk by have := HZ'.out.2; omega)
                              clear ht htk hgl HT HZ'
                              go_wp2
                              go_roundg gh'
                              case measure => exact HGl.out
                              case rel => exact HTk
                  · have hq2 : ¬ (kq : Int) < 2 := by omega
                    clear hlt HJ2
                    go_wp2
                    go_roundg (min N 360 - (i + 1))
                    case measure => have := HJ.out; have := HLt.out; omega
                    case rel => exact ⟨i + 1, by go_num, by have := HJ.out; have := HLt.out; show _ = _; omega, HZ⟩
      · have HB := Lib.hid (show Below w.heap.size w wr from let ⟨_, _, _, h⟩ := HZ0.out; h.duo.blw)
        clear HZ0 HJ
        by_cases hN' : i < N
        · have k1 : (i : Int) < (N : Int) := by omega
          have k2 : ¬ (i : Int) < 360 := by omega
          clear hlt hN'
          go_wp2
          go_ret
          exact ⟨rfl, HB.out⟩
        · have k1 : ¬ (i : Int) < (N : Int) := by omega
          clear hlt hN'
          go_wp2
          go_ret
          exact ⟨rfl, HB.out⟩
end Go.Proofs.YteadpnododjeaaaDoor
