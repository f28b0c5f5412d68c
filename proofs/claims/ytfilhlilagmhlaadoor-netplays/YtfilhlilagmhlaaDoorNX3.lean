/- NetPlays' walk. -/
import Derived.Test.YtfilhlilagmhlaaDoorNP1
namespace Go.Proofs.YtfilhlilagmhlaaDoor
open Go.RowKit

/-- A call that came in. -/
def OpAt (w : World) (ad : Addr) : Prop := ∃ (kd z i b : Int) (A : Option Addr) (n c : Nat) (f : Nat → Nat), w.cell? ad = some (.int .i64 kd) ∧ w.cell? ⟨ad.block, ad.off + 1, none⟩ = some (.int .i64 z) ∧ w.cell? ⟨ad.block, ad.off + 2, none⟩ = some (.int .i64 i) ∧ w.cell? ⟨ad.block, ad.off + 3, none⟩ = some (.int .i64 b) ∧ w.cell? ⟨ad.block, ad.off + 4, none⟩ = some (.slice A n c) ∧
  AtBO w A n f ∧ (∀ j, f j < 256) ∧ n ≤ 140737488355328 ∧ (A = none → n = 0 ∧ c = 0) ∧ b < 9223372036854775808
def OpsAt (w : World) (A : Option Addr) (N : Nat) : Prop := ∀ j, j < N → ∃ ad, A = some ad ∧ OpAt w (ad.add (j * 5))
theorem OpAt.below {w w' : World} {ad : Addr} (h : OpAt w ad) (hb : Below w.heap.size w w') : OpAt w' ad := by
  obtain ⟨kd, z, i, b, A, n, c, f, h0, h1, h2, h3, h4, h5, rest⟩ := h
  have hc : ∀ {q : Addr} {u : Value}, w.cell? q = some u → w'.cell? q = some u := fun h => (hb.cell (World.block_lt_of_cell? _ _ h)).trans h
  exact ⟨kd, z, i, b, A, n, c, f, hc h0, hc h1, hc h2, hc h3, hc h4, h5.below hb, rest⟩
theorem OpsAt.below {w w' : World} {A : Option Addr} {N : Nat} (h : OpsAt w A N) (hb : Below w.heap.size w w') : OpsAt w' A N := fun j hj => let ⟨ad, e, ho⟩ := h j hj; ⟨ad, e, ho.below hb⟩
/-- The law's memory: the net, and the document's in block g. -/
def Pl (w wr : World) (p g : Nat) (T : Txt) (v : Nat → Value) (A0 : Option Addr) (n0 c0 : Nat) (A1 : Option Addr) (n1 c1 : Nat) : Prop :=
  Net wr w.heap.size p T ∧ Rf wr v T ∧ v 0 = .slice A0 n0 c0 ∧ v 1 = .slice A1 n1 c1 ∧ RN wr g (.slice A0 n0 c0) (.slice A1 n1 c1) ∧ Below w.heap.size w wr
theorem Pl.below {w wr w' : World} {p g : Nat} {T : Txt} {v : Nat → Value} {A0 : Option Addr} {n0 c0 : Nat} {A1 : Option Addr} {n1 c1 : Nat} (h : Pl w wr p g T v A0 n0 c0 A1 n1 c1) (hb : Below wr.heap.size wr w') : Pl w w' p g T v A0 n0 c0 A1 n1 c1 :=
  ⟨h.1.below hb, h.2.1.below hb, h.2.2.1, h.2.2.2.1, h.2.2.2.2.1.below hb h.2.2.2.2.1.lt, h.2.2.2.2.2.trans (hb.mono h.2.2.2.2.2.size)⟩
set_option maxHeartbeats 8000000 in
set_option maxRecDepth 100000 in
theorem plays_walk (A : Option Addr) (N c : Nat) (w : World) (hg : Handle w) (hA : OpsAt w A N) (hN : N ≤ 9223372036854775807) :
    Calls Tryd.prog 3 #[.slice A N c] w fun e w' => e = .returned (.bool true) ∧ Below w.heap.size w w' := by
  have HG := Lib.hid hg
  have HA := Lib.hid hA
  have HN := Lib.hid (show True ∧ N ≤ 9223372036854775807 from ⟨trivial, hN⟩)
  clear hg hA hN
  go_enter Tryd.func3, Tryd.ntmps3
  go_wp2_with fail
  refine (new_any w).mono ?_
  rintro e w1 ⟨rfl, hw1⟩
  have hN : Net (w.alloc (.cells #[.slice none 0 0, .slice none 0 0] 55)) w.heap.size w.heap.size T0 := net_new w
  have hB : Below w.heap.size w (w.alloc (.cells #[.slice none 0 0, .slice none 0 0] 55)) := (Below.refl _ _).alloc (Nat.le_refl _) _
  rw [← hw1] at hN hB
  have H1 := Lib.hid (And.intro hN hB)
  clear hw1 hN hB
  go_wp2_with fail
  refine (awake_any w1 (HG.out.below H1.out.2 HG.out.pos)).mono ?_
  rintro e w2 ⟨rfl, hb2⟩
  have hb3 : Below w2.heap.size w2 (w2.alloc (.cells #[nilS, nilS] 29)) := (Below.refl _ _).alloc (Nat.le_refl _) _
  have H3 := Lib.hid (show ∃ T v A0 n0 c0 A1 n1 c1, Pl w (w2.alloc (.cells #[nilS, nilS] 29)) w.heap.size w2.heap.size T v A0 n0 c0 A1 n1 c1 from
    ⟨T0, fun _ => nilS, none, 0, 0, none, 0, 0, (H1.out.1.below hb2).below hb3, ⟨fun _ _ => Strs.nil _⟩, rfl, rfl, RN.new w2 _ _, (H1.out.2.trans (hb2.mono H1.out.2.size)).trans (hb3.mono (H1.out.2.trans (hb2.mono H1.out.2.size)).size)⟩)
  have HGe := Lib.hid (show w.heap.size ≤ w2.heap.size from (H1.out.2.trans (hb2.mono H1.out.2.size)).size)
  clear H1 hb2 hb3
  go_wp2
  generalize w2.alloc (.cells #[nilS, nilS] 29) = w3 at H3 ⊢
  generalize hgg : w2.heap.size = g at H3 HGe ⊢
  clear hgg
  go_loopw [5] (fun q wr => ∃ j : Nat, q = .int .i64 j ∧ Hid (True ∧ j ≤ N) ∧ Hid (∃ T v A0 n0 c0 A1 n1 c1, Pl w wr w.heap.size g T v A0 n0 c0 A1 n1 c1)) (fun q _ => N - (intOf q).toNat)
  case atStart => exact ⟨0, rfl, ⟨trivial, by omega⟩, H3⟩
  case round =>
    clear H3
    obtain ⟨j, rfl, HJ, HI⟩ := hrel
    by_cases hlt : j < N ∧ j < 150
    · obtain ⟨hltN, hlt150⟩ := hlt
      have k1 : (j : Int) < (N : Int) := by omega
      have k2 : (j : Int) < 150 := by omega
      have e7 : IntKind.i64.wrap ((j : Int) + 1) = (j : Int) + 1 := i64_nat _ (by omega) (by have := HN.out.2; omega)
      have HLt := Lib.hid (And.intro trivial hltN)
      obtain ⟨ad, rfl, _⟩ := HA.out j hltN
      clear hltN hlt150
      obtain ⟨T, v, A0, n0, c0, A1, n1, c1, hP⟩ := HI.out
      obtain ⟨w4, hw4⟩ : ∃ z, z = wr := ⟨_, rfl⟩
      rw [← hw4] at hP HI
      have HP := Lib.hid hP
      have HO := Lib.hid (show ∃ (kd z i b : Int) (B : Option Addr) (n d : Nat) (f : Nat → Nat), (∀ w', Below w.heap.size w w' → w'.cell? (ad.add (j * 5)) = some (.int .i64 kd) ∧ w'.cell? ⟨(ad.add (j * 5)).block, (ad.add (j * 5)).off + 1, none⟩ = some (.int .i64 z) ∧ w'.cell? ⟨(ad.add (j * 5)).block, (ad.add (j * 5)).off + 2, none⟩ = some (.int .i64 i) ∧ w'.cell? ⟨(ad.add (j * 5)).block, (ad.add (j * 5)).off + 3, none⟩ = some (.int .i64 b) ∧ w'.cell? ⟨(ad.add (j * 5)).block, (ad.add (j * 5)).off + 4, none⟩ = some (.slice B n d) ∧ AtBO w' B n f) ∧ (∀ q, f q < 256) ∧ n ≤ 140737488355328 ∧ (B = none → n = 0 ∧ d = 0) ∧ b < 9223372036854775808 from by
        obtain ⟨ad', e, kd, z, i, b, B, n, d, f, h0, h1, h2, h3, h4, h5, rest⟩ := HA.out j HLt.out.2
        cases e
        have hc : ∀ {w' : World} {q : Addr} {u : Value}, Below w.heap.size w w' → w.cell? q = some u → w'.cell? q = some u := fun hb h => (hb.cell (World.block_lt_of_cell? _ _ h)).trans h
        exact ⟨kd, z, i, b, B, n, d, f, fun w' hb => ⟨hc hb h0, hc hb h1, hc hb h2, hc hb h3, hc hb h4, h5.below hb⟩, rest⟩)
      obtain ⟨kd, z, i, b, B, n, d, f, hO⟩ := HO.out
      have HOC := Lib.hid hO.1
      have HOR := Lib.hid hO.2
      clear HO hO hP HI
      go_wp2
      rw [← hw4]
      clear hw4
      refine wp_region_held_drew (S := fun w' => Below w.heap.size w w') (by kernel_rfl) (HP.out.2.2.2.2.2.drew) (fun hHeld => ?_)
      have HD := Lib.hid (show Below w4.heap.size w4 w4.drew from (Below.refl _ _).drew)
      generalize w4.drew = wd at hHeld HD ⊢
      refine ht (i := 0) rfl (.pointer (some ⟨w.heap.size, 0, none⟩)) (by kernel_rfl) (by kernel_rfl) (by kernel_rfl) (fun _ _ _ h => h) hHeld (fun w' hw' => by go_simp) ?_
      refine ht (i := 2) rfl (.slice (some ad) N c) (by kernel_rfl) (by kernel_rfl) (by kernel_rfl) (fun _ _ _ h => h) hHeld (fun w' hw' => by go_simp) ?_
      try simp only [Act.put, List.setIfInBounds_toArray, List.set_cons_zero, List.set_cons_succ]
      refine ht (i := 3) rfl (.int .i64 (j : Int)) (by kernel_rfl) (by kernel_rfl) (by kernel_rfl) (fun _ _ _ h => h) hHeld (fun w' hw' => by go_simp) ?_
      try simp only [Act.put, List.setIfInBounds_toArray, List.set_cons_zero, List.set_cons_succ]
      refine ht (i := 4) rfl (.pointer (some (ad.add (j * 5)))) (by kernel_rfl) (by kernel_rfl) (by kernel_rfl) (fun _ _ _ h => h) hHeld (fun w' hw' => by go_simp) ?_
      try simp only [Act.put, List.setIfInBounds_toArray, List.set_cons_zero, List.set_cons_succ]
      refine ht (i := 5) rfl (opV kd z i b B n d) (by kernel_rfl) (by kernel_rfl) (by kernel_rfl) (fun _ _ _ h => h) hHeld (fun w' hw' => by obtain ⟨d0, d1, d2, d3, d4, _⟩ := HOC.out w' hw'; go_simp) ?_
      try simp only [Act.put, List.setIfInBounds_toArray, List.set_cons_zero, List.set_cons_succ]
      clear hHeld
      have hPd := HP.out.below HD.out
      have a0 := hPd.2.2.2.2.1.cell0
      have a1 := hPd.2.2.2.2.1.cell1
      have hpl := play_any (w := wd) w.heap.size w.heap.size v T kd z i b B n d f hPd.1 hPd.2.1 (HG.out.below hPd.2.2.2.2.2 HG.out.pos) hPd.2.2.2.2.2.size HG.out.pos (fun w' hb => (HOC.out w' (hPd.2.2.2.2.2.trans hb)).2.2.2.2.2) HOR.out.1 HOR.out.2.1 HOR.out.2.2.1 HOR.out.2.2.2
      unfold rvf at hpl
      rw [hPd.2.2.1, hPd.2.2.2.1] at hpl
      have HPL := Lib.hid hpl
      have HPd := Lib.hid hPd
      clear hpl hPd HP HD
      refine h1 (i := 1) (by kernel_rfl) rfl (fun K hK => ?_)
      go_simp
      refine hK.out _ _ HPd.out.2.2.2.2.2 ?_
      clear hK K a0 a1
      try simp only [Act.put, List.setIfInBounds_toArray, List.set_cons_zero, List.set_cons_succ]
      refine h1 (i := 6) (by kernel_rfl) rfl (fun K hK => ?_)
      go_simp
      refine HPL.out.mono ?_
      rintro e w5 ⟨v', T', rfl, hN5, hR5, hst5⟩
      obtain ⟨B0, d0, B1, d1, q0, q1⟩ := hR5.vals
      rw [q0, q1]
      generalize (T' 0).length = m0 at *
      generalize (T' 1).length = m1 at *
      have hr5 : RN w5 g (.slice A0 n0 c0) (.slice A1 n1 c1) := (hst5.oth _ _ _ _ HPd.out.2.2.2.2.1 (by decide) (by decide) (by decide)).trans HPd.out.2.2.2.2.1
      have hb5 : Below w.heap.size w w5 := HPd.out.2.2.2.2.2.trans hst5.below
      have r0 := hr5.cell0
      have r1 := hr5.cell1
      have z0 := hr5.frozen 0
      have z1 := hr5.frozen 1
      have HE := Lib.hid (show Pl w ((w5.setCell ⟨g, 0, none⟩ (.slice B0 m0 d0)).setCell ⟨g, 1, none⟩ (.slice B1 m1 d1)) w.heap.size g T' v' B0 m0 d0 B1 m1 d1 from
        ⟨(hN5.set29 (j := 0) hr5 _).set29 (j := 1) (hr5.set0 _) _, (hR5.set29 (i := 0) hr5 _).set29 (i := 1) (hr5.set0 _) _, q0, q1, hr5.set _ _, (hb5.setCell (p := ⟨g, 0, none⟩) HGe.out _).setCell (p := ⟨g, 1, none⟩) HGe.out _⟩)
      refine hK.out _ _ hb5 ?_
      clear hK K hN5 hR5 hst5 q0 q1 hr5 HPd HPL HOC HOR
      try simp only [Act.put, List.setIfInBounds_toArray, List.set_cons_zero, List.set_cons_succ]
      refine ht (i := 7) rfl (.tuple #[.agg #[.slice B0 m0 d0, .slice B1 m1 d1], .bool true]) (by kernel_rfl) (by kernel_rfl) (by kernel_rfl) (fun _ _ _ h => h) hb5 (fun w' hw' => by go_simp) ?_
      try simp only [Act.put, List.setIfInBounds_toArray, List.set_cons_zero, List.set_cons_succ]
      refine ht (i := 8) rfl (.agg #[.slice B0 m0 d0, .slice B1 m1 d1]) (by kernel_rfl) (by kernel_rfl) (by kernel_rfl) (fun _ _ _ h => h) hb5 (fun w' hw' => by go_simp) ?_
      try simp only [Act.put, List.setIfInBounds_toArray, List.set_cons_zero, List.set_cons_succ]
      refine ht (i := 9) rfl (.bool true) (by kernel_rfl) (by kernel_rfl) (by kernel_rfl) (fun _ _ _ h => h) hb5 (fun w' hw' => by go_simp) ?_
      try simp only [Act.put, List.setIfInBounds_toArray, List.set_cons_zero, List.set_cons_succ]
      refine h1 (i := 10) (by kernel_rfl) rfl (fun K hK => ?_)
      go_simp
      refine hK.out _ _ HE.out.2.2.2.2.2 ?_
      clear hK K
      try simp only [Act.put, List.setIfInBounds_toArray, List.set_cons_zero, List.set_cons_succ]
      refine h1 (i := 11) (by kernel_rfl) rfl (fun K hK => ?_)
      go_simp
      refine hK.out _ _ HE.out.2.2.2.2.2 ?_
      clear hK K
      refine wpAnyH_done (by kernel_rfl) ?_ _
      try simp only [Act.put, List.setIfInBounds_toArray, List.set_cons_zero, List.set_cons_succ]
      clear hb5 r0 r1 z0 z1
      go_wp2
      go_roundw
      case rel => exact ⟨j + 1, rfl, ⟨trivial, HLt.out.2⟩, T', v', B0, m0, d0, B1, m1, d1, HE.out⟩
      case measure => have := HLt.out.2; simp [intOf]; omega
    · obtain ⟨T, v, A0, n0, c0, A1, n1, c1, hP⟩ := HI.out
      have hlt1 : (decide ((j : Int) < (N : Int)) = false ∧ decide (j < N) = false) ∨ (((j : Int) < (N : Int)) ∧ decide ((j : Int) < 150) = false ∧ decide (j < 150) = false) := by
        by_cases h : j < N
        · exact .inr ⟨by omega, decide_eq_false (by omega), decide_eq_false (by omega)⟩
        · exact .inl ⟨decide_eq_false (by omega), decide_eq_false (by omega)⟩
      have HP := Lib.hid hP
      clear hlt hP HI
      obtain ⟨w4, hw4⟩ : ∃ z, z = wr := ⟨_, rfl⟩
      subst hw4
      rcases hlt1 with ⟨t1, t2⟩ | ⟨t0, t1, t2⟩
      · go_wp2
        clear t1 t2
        go_loopw [41] (fun q wr => ∃ k : Nat, q = .int .i64 k ∧ Hid (True ∧ k ≤ 2) ∧ Hid (Pl w wr w.heap.size g T v A0 n0 c0 A1 n1 c1)) (fun q _ => 2 - (intOf q).toNat)
        case atStart => exact ⟨0, rfl, ⟨trivial, by omega⟩, HP⟩
        case round =>
          clear HP
          obtain ⟨k, rfl, HK, HP⟩ := hrel
          by_cases hk : k < 2
          · have k1 : (k : Int) < 2 := by omega
            have k1b : decide ((k : Int) < 2) = true := decide_eq_true (by omega)
            have k1c : decide (k < 2) = true := decide_eq_true hk
            have e7 : IntKind.i64.wrap ((k : Int) + 1) = (k : Int) + 1 := i64_nat _ (by omega) (by omega)
            obtain ⟨B, d, hB, hBd, _, _, hBs⟩ := (HP.out.2.1.strs k hk).slice
            obtain ⟨m, hm⟩ : ∃ m, m = (T k).length := ⟨_, rfl⟩
            rw [← hm] at hB
            have hck : ∀ w', Pl w w' w.heap.size g T v A0 n0 c0 A1 n1 c1 → w'.cell? ⟨g, k, none⟩ = some (.slice B m d) := fun w' h => by
              rw [← hB]
              have h1 : RN w' g (v 0) (v 1) := by rw [h.2.2.1, h.2.2.2.1]; exact h.2.2.2.2.1
              exact h1.cellk k hk
            have ck := hck wr HP.out
            have HCK := Lib.hid hck
            have HKM := Lib.hid (show True ∧ k < 2 ∧ m = (T k).length ∧ m ≤ 64 from ⟨trivial, hk, hm, by rw [hm]; exact HP.out.1.short hk⟩)
            have HB := Lib.hid (And.intro (HP.out.2.1.strs k hk) hB)
            clear hk hB hBd hBs hm hck
            go_wp2
            clear ck
            obtain ⟨w5, hw5⟩ : ∃ z, z = wr := ⟨_, rfl⟩
            rw [← hw5] at HP HB
            rw [← hw5]
            clear hw5
            go_loopw [49] (fun q wr => ∃ j : Nat, q = .int .i64 j ∧ Hid (True ∧ j ≤ m) ∧ Hid (Pl w wr w.heap.size g T v A0 n0 c0 A1 n1 c1)) (fun q _ => m - (intOf q).toNat)
            case atStart => exact ⟨0, rfl, ⟨trivial, by omega⟩, HP⟩
            case round =>
              clear HP
              obtain ⟨q, rfl, HQ, HP⟩ := hrel
              by_cases hq : q < m
              · have k2 : (q : Int) < (m : Int) := by omega
                have k2b : decide ((q : Int) < (m : Int)) = true := decide_eq_true (by omega)
                have k2c : decide (q < m) = true := decide_eq_true hq
                have e8 : IntKind.i64.wrap ((q : Int) + 1) = (q : Int) + 1 := i64_nat _ (by omega) (by have := HKM.out.2.2.2; omega)
                have HLt := Lib.hid (And.intro trivial hq)
                obtain ⟨t, ht⟩ : ∃ t, (T k)[q]? = some t := ⟨_, List.getElem?_eq_getElem (by rw [← HKM.out.2.2.1]; exact hq)⟩
                have HT := Lib.hid ht
                clear hq ht
                go_wp2_with fail
                refine (nat_ok (k := k) (i := q) (t := t) HP.out.1 HKM.out.2.1 HT.out).mono ?_
                rintro e w6 ⟨b6, n6, f6, rfl, hT6, hb6⟩
                have hP6 := HP.out.below hb6
                have hS := (hP6.2.1.strs k HKM.out.2.1)
                obtain ⟨B', d', hB', _, _, _, hBs⟩ := hS.slice
                rw [HB.out.2] at hB'
                injection hB' with eB1 eB2 eB3
                clear eB2
                subst eB1 eB3
                obtain ⟨ad, eA, hcs⟩ := hBs q t HT.out
                subst eA
                have c6 := HCK.out w6 hP6
                have hcv : ∀ x, (convert 32 9 (sl8 b6 n6 n6)).run Tryd.prog (w6.drewN x) = .ok (.string t) (w6.drewN x) := fun x => TxtAt.conv (w := w6.drewN x) hT6 n6
                have HN6 := Lib.hid hP6
                clear hT6 hb6 hP6 hS hBs HP
                go_wp2
                go_quiet (fail)
                clear hcv c6 hcs
                go_wp2
                go_roundw
                case rel => exact ⟨q + 1, rfl, ⟨trivial, HLt.out.2⟩, HN6.out.below ⟨rfl, rfl, rfl, Nat.le_refl _, fun _ _ => rfl⟩⟩
                case measure => have := HLt.out.2; simp [intOf]; omega
              · obtain rfl : q = m := by have := HQ.out.2; omega
                have hq2 : decide ((q : Int) < (q : Int)) = false := decide_eq_false (by omega)
                clear hq
                go_wp2
                go_roundw
                case rel => exact ⟨k + 1, rfl, ⟨trivial, HKM.out.2.1⟩, HP⟩
                case measure => have := HKM.out.2.1; simp [intOf]; omega
          · obtain rfl : k = 2 := by have := HK.out.2; omega
            clear hk
            go_wp2_with fail
            refine (len_bad _ (-1) wr (HG.out.below HP.out.2.2.2.2.2 HG.out.pos) (by omega)).mono ?_
            rintro e w6 ⟨rfl, hb6⟩
            have H6 := Lib.hid (HP.out.2.2.2.2.2.trans (hb6.mono HP.out.2.2.2.2.2.size))
            clear hb6 HP
            go_wp2_with fail
            refine (len_bad _ 2 w6 (HG.out.below H6.out HG.out.pos) (by omega)).mono ?_
            rintro e w7 ⟨rfl, hb7⟩
            have H7 := Lib.hid (H6.out.trans (hb7.mono H6.out.size))
            clear hb7 H6
            go_wp2
            go_ret
            exact ⟨rfl, H7.out⟩
      · go_wp2
        clear t0 t1 t2
        go_loopw [41] (fun q wr => ∃ k : Nat, q = .int .i64 k ∧ Hid (True ∧ k ≤ 2) ∧ Hid (Pl w wr w.heap.size g T v A0 n0 c0 A1 n1 c1)) (fun q _ => 2 - (intOf q).toNat)
        case atStart => exact ⟨0, rfl, ⟨trivial, by omega⟩, HP⟩
        case round =>
          clear HP
          obtain ⟨k, rfl, HK, HP⟩ := hrel
          by_cases hk : k < 2
          · have k1 : (k : Int) < 2 := by omega
            have k1b : decide ((k : Int) < 2) = true := decide_eq_true (by omega)
            have k1c : decide (k < 2) = true := decide_eq_true hk
            have e7 : IntKind.i64.wrap ((k : Int) + 1) = (k : Int) + 1 := i64_nat _ (by omega) (by omega)
            obtain ⟨B, d, hB, hBd, _, _, hBs⟩ := (HP.out.2.1.strs k hk).slice
            obtain ⟨m, hm⟩ : ∃ m, m = (T k).length := ⟨_, rfl⟩
            rw [← hm] at hB
            have hck : ∀ w', Pl w w' w.heap.size g T v A0 n0 c0 A1 n1 c1 → w'.cell? ⟨g, k, none⟩ = some (.slice B m d) := fun w' h => by
              rw [← hB]
              have h1 : RN w' g (v 0) (v 1) := by rw [h.2.2.1, h.2.2.2.1]; exact h.2.2.2.2.1
              exact h1.cellk k hk
            have ck := hck wr HP.out
            have HCK := Lib.hid hck
            have HKM := Lib.hid (show True ∧ k < 2 ∧ m = (T k).length ∧ m ≤ 64 from ⟨trivial, hk, hm, by rw [hm]; exact HP.out.1.short hk⟩)
            have HB := Lib.hid (And.intro (HP.out.2.1.strs k hk) hB)
            clear hk hB hBd hBs hm hck
            go_wp2
            clear ck
            obtain ⟨w5, hw5⟩ : ∃ z, z = wr := ⟨_, rfl⟩
            rw [← hw5] at HP HB
            rw [← hw5]
            clear hw5
            go_loopw [49] (fun q wr => ∃ j : Nat, q = .int .i64 j ∧ Hid (True ∧ j ≤ m) ∧ Hid (Pl w wr w.heap.size g T v A0 n0 c0 A1 n1 c1)) (fun q _ => m - (intOf q).toNat)
            case atStart => exact ⟨0, rfl, ⟨trivial, by omega⟩, HP⟩
            case round =>
              clear HP
              obtain ⟨q, rfl, HQ, HP⟩ := hrel
              by_cases hq : q < m
              · have k2 : (q : Int) < (m : Int) := by omega
                have k2b : decide ((q : Int) < (m : Int)) = true := decide_eq_true (by omega)
                have k2c : decide (q < m) = true := decide_eq_true hq
                have e8 : IntKind.i64.wrap ((q : Int) + 1) = (q : Int) + 1 := i64_nat _ (by omega) (by have := HKM.out.2.2.2; omega)
                have HLt := Lib.hid (And.intro trivial hq)
                obtain ⟨t, ht⟩ : ∃ t, (T k)[q]? = some t := ⟨_, List.getElem?_eq_getElem (by rw [← HKM.out.2.2.1]; exact hq)⟩
                have HT := Lib.hid ht
                clear hq ht
                go_wp2_with fail
                refine (nat_ok (k := k) (i := q) (t := t) HP.out.1 HKM.out.2.1 HT.out).mono ?_
                rintro e w6 ⟨b6, n6, f6, rfl, hT6, hb6⟩
                have hP6 := HP.out.below hb6
                have hS := (hP6.2.1.strs k HKM.out.2.1)
                obtain ⟨B', d', hB', _, _, _, hBs⟩ := hS.slice
                rw [HB.out.2] at hB'
                injection hB' with eB1 eB2 eB3
                clear eB2
                subst eB1 eB3
                obtain ⟨ad, eA, hcs⟩ := hBs q t HT.out
                subst eA
                have c6 := HCK.out w6 hP6
                have hcv : ∀ x, (convert 32 9 (sl8 b6 n6 n6)).run Tryd.prog (w6.drewN x) = .ok (.string t) (w6.drewN x) := fun x => TxtAt.conv (w := w6.drewN x) hT6 n6
                have HN6 := Lib.hid hP6
                clear hT6 hb6 hP6 hS hBs HP
                go_wp2
                go_quiet (fail)
                clear hcv c6 hcs
                go_wp2
                go_roundw
                case rel => exact ⟨q + 1, rfl, ⟨trivial, HLt.out.2⟩, HN6.out.below ⟨rfl, rfl, rfl, Nat.le_refl _, fun _ _ => rfl⟩⟩
                case measure => have := HLt.out.2; simp [intOf]; omega
              · obtain rfl : q = m := by have := HQ.out.2; omega
                have hq2 : decide ((q : Int) < (q : Int)) = false := decide_eq_false (by omega)
                clear hq
                go_wp2
                go_roundw
                case rel => exact ⟨k + 1, rfl, ⟨trivial, HKM.out.2.1⟩, HP⟩
                case measure => have := HKM.out.2.1; simp [intOf]; omega
          · obtain rfl : k = 2 := by have := HK.out.2; omega
            clear hk
            go_wp2_with fail
            refine (len_bad _ (-1) wr (HG.out.below HP.out.2.2.2.2.2 HG.out.pos) (by omega)).mono ?_
            rintro e w6 ⟨rfl, hb6⟩
            have H6 := Lib.hid (HP.out.2.2.2.2.2.trans (hb6.mono HP.out.2.2.2.2.2.size))
            clear hb6 HP
            go_wp2_with fail
            refine (len_bad _ 2 w6 (HG.out.below H6.out HG.out.pos) (by omega)).mono ?_
            rintro e w7 ⟨rfl, hb7⟩
            have H7 := Lib.hid (H6.out.trans (hb7.mono H6.out.size))
            clear hb7 H6
            go_wp2
            go_ret
            exact ⟨rfl, H7.out⟩
end Go.Proofs.YtfilhlilagmhlaaDoor
