/- LinkEnds' walk. -/
import Derived.Test.YteadpnododjeaaaDoorLY2
namespace Go.Proofs.YteadpnododjeaaaDoor
open Go.RowKit

theorem min_ite (a b m : Nat) (hm : m = min a b) : (if (b : Int) < (a : Int) then (b : Int) else (a : Int)) = (m : Int) ∧ (if b < a then (b : Int) else (a : Int)) = (m : Int) ∧ (if (a : Int) < (b : Int) then (a : Int) else (b : Int)) = (m : Int) ∧ (if a < b then (a : Int) else (b : Int)) = (m : Int) := by
  refine ⟨?_, ?_, ?_, ?_⟩ <;> split <;> omega
set_option maxHeartbeats 8000000 in
set_option maxRecDepth 100000 in
theorem ends_walk (A : Option Addr) (N0 c0 : Nat) (l : Nat → Nat) (f : Nat → Nat → Nat) (w : World) (hL : Laid w) (hP : Pays w A N0 l f) :
    Calls Tryd.prog 6 #[.slice A N0 c0] w fun e w' => e = .returned (.bool true) ∧ Below w.heap.size w w' := by
  obtain ⟨n, hn⟩ : ∃ n, n = min N0 20 := ⟨_, rfl⟩
  obtain ⟨m1, m2, m3, m4⟩ : (if (20 : Int) < (N0 : Int) then (20 : Int) else (N0 : Int)) = (n : Int) ∧ (if 20 < N0 then (20 : Int) else (N0 : Int)) = (n : Int) ∧ (if (N0 : Int) < (20 : Int) then (N0 : Int) else (20 : Int)) = (n : Int) ∧ (if N0 < 20 then (N0 : Int) else (20 : Int)) = (n : Int) := min_ite N0 20 n hn
  have HA := Lib.hid (show Laid w ∧ Pays w A N0 l f ∧ n ≤ N0 ∧ n ≤ 20 from ⟨hL, hP, by omega, by omega⟩)
  clear hL hP hn
  go_enter Tryd.func6, Tryd.ntmps6
  go_wp2_with fail
  refine (new_any w).mono ?_
  rintro e w1 ⟨rfl, rfl⟩
  go_wp2_with fail
  refine (new_any _).mono ?_
  rintro e w2 ⟨rfl, hw2⟩
  have e1 : (w.alloc (.cells (En.new w.heap.size).row 76)).heap.size = w.heap.size + 1 := by simp
  rw [e1] at hw2 ⊢
  have H2 := Lib.hid (show Duo w w2 (En.new w.heap.size) (En.new (w.heap.size + 1)) 0 by rw [hw2]; exact duo_new HA.out.1)
  clear hw2 e1
  go_wp2_with fail
  refine (awake_any w2 H2.out.laid).mono ?_
  rintro e w3 ⟨rfl, hb3⟩
  have H3 := Lib.hid (show ∃ s t, Rd w w3 s t 0 0 l f 0 from ⟨_, _, H2.out.below hb3, rfl, rfl, ⟨rfl, fun j hj => by omega⟩, rfl, rfl, rfl, rfl, rfl, rfl, rfl, ⟨rfl, fun j hj => by omega⟩⟩)
  clear H2 hb3
  go_wp2
  clear m1 m2 m3 m4
  go_loopw [6] (fun q wr => ∃ j : Nat, q = .int .i64 j ∧ Hid (True ∧ j ≤ n) ∧ Hid (∃ s t, Rd w wr s t 0 j l f 0)) (fun q _ => n - (intOf q).toNat)
  case atStart => exact ⟨0, rfl, ⟨trivial, Nat.zero_le _⟩, H3⟩
  case round =>
    clear H3
    obtain ⟨i, rfl, HJ, HR⟩ := hrel
    by_cases hlt : i < n
    · have hlt1 : (i : Int) < (n : Int) := by omega
      have e7 : IntKind.i64.wrap ((i : Int) + 1) = (i : Int) + 1 := i64_nat _ (by omega) (by have := HA.out.2.2.2; omega)
      obtain ⟨s, t, HR⟩ : ∃ s t, Hid (Rd w wr s t 0 i l f 0) := let ⟨s, t, h⟩ := HR.out; ⟨s, t, Lib.hid h⟩
      obtain ⟨ad, g, c, rfl, hcl, hAt, hf, hg0, hlc⟩ := HA.out.2.1 i (by have := HA.out.2.2.1; omega)
      have hlt2 : (i : Int) < (N0 : Int) := by have := HA.out.2.2.1; omega
      have hsl : ∀ wx, (Instr.slice 23 (.slice g (l i) c) none (some (.int .i64 (ml l i : Int))) none).run Tryd.prog wx = .ok (.slice g (ml l i) c) wx := fun wx => run_headB wx g (l i) c (ml l i) (Nat.le_trans (Nat.min_le_left _ _) hlc)
      obtain ⟨m1, m2, m3, m4⟩ : (if (5000 : Int) < (l i : Int) then (5000 : Int) else (l i : Int)) = (ml l i : Int) ∧ (if 5000 < l i then (5000 : Int) else (l i : Int)) = (ml l i : Int) ∧ (if (l i : Int) < (5000 : Int) then (l i : Int) else (5000 : Int)) = (ml l i : Int) ∧ (if l i < 5000 then (l i : Int) else (5000 : Int)) = (ml l i : Int) := min_ite (l i) 5000 (ml l i) rfl
      have HCel := Lib.hid (show ∀ w', Below w.heap.size w w' → w'.cell? (ad.add i) = some (.slice g (l i) c) from fun w' hw' => (hw'.cell (World.block_lt_of_cell? _ _ hcl)).trans hcl)
      have HF := Lib.hid (show AtBO w g (ml l i) (f i) ∧ (∀ j, f i j < 256) ∧ (g = none → ml l i = 0 ∧ c = 0) ∧ i < n from ⟨fun j hj => hAt j (Nat.lt_of_lt_of_le hj (Nat.min_le_left _ _)), hf, fun h => ⟨by unfold ml; rw [(hg0 h).1]; rfl, (hg0 h).2⟩, hlt⟩)
      obtain ⟨mi, hmi⟩ : ∃ mi, mi = ml l i := ⟨_, rfl⟩
      obtain ⟨li, hli⟩ : ∃ li, li = l i := ⟨_, rfl⟩
      have HM := Lib.hid (show mi = ml l i ∧ mi ≤ 5000 from ⟨hmi, by rw [hmi]; exact ml_le l i⟩)
      rw [← hmi] at hsl m1 m2 m3 m4 HF
      rw [← hli] at hsl m1 m2 m3 m4 HCel
      clear hcl hAt hf hg0 hlc hlt HJ hmi hli
      go_wp2
      refine wp_region_held_drew (S := fun w' => Below w.heap.size w w') (by kernel_rfl) (HR.out.duo.blw.drew) (fun hHeld => ?_)
      have HWd := Lib.hid (show Below wr.heap.size wr wr.drew from (Below.refl _ _).drew)
      generalize wr.drew = wd at hHeld HWd ⊢
      refine ht (i := 0) rfl (.pointer (some ⟨w.heap.size, 0, none⟩)) (by kernel_rfl) (by kernel_rfl) (by kernel_rfl) (fun _ _ _ h => h) hHeld (fun w' hw' => by go_simp) ?_
      try simp only [Act.put, List.setIfInBounds_toArray, List.set_cons_zero, List.set_cons_succ]
      refine ht (i := 2) rfl (.slice (some ad) N0 c0) (by kernel_rfl) (by kernel_rfl) (by kernel_rfl) (fun _ _ _ h => h) hHeld (fun w' hw' => by go_simp) ?_
      try simp only [Act.put, List.setIfInBounds_toArray, List.set_cons_zero, List.set_cons_succ]
      refine ht (i := 3) rfl (.int .i64 (i : Int)) (by kernel_rfl) (by kernel_rfl) (by kernel_rfl) (fun _ _ _ h => h) hHeld (fun w' hw' => by go_simp) ?_
      try simp only [Act.put, List.setIfInBounds_toArray, List.set_cons_zero, List.set_cons_succ]
      refine ht (i := 4) rfl (.pointer (some (ad.add i))) (by kernel_rfl) (by kernel_rfl) (by kernel_rfl) (fun _ _ _ h => h) hHeld (fun w' hw' => by go_simp) ?_
      try simp only [Act.put, List.setIfInBounds_toArray, List.set_cons_zero, List.set_cons_succ]
      refine ht (i := 5) rfl (.slice g li c) (by kernel_rfl) (by kernel_rfl) (by kernel_rfl) (fun _ _ _ h => h) hHeld (fun w' hw' => by have hcc := HCel.out w' hw'; go_simp) ?_
      try simp only [Act.put, List.setIfInBounds_toArray, List.set_cons_zero, List.set_cons_succ]
      refine ht (i := 6) rfl (.slice (some ad) N0 c0) (by kernel_rfl) (by kernel_rfl) (by kernel_rfl) (fun _ _ _ h => h) hHeld (fun w' hw' => by go_simp) ?_
      try simp only [Act.put, List.setIfInBounds_toArray, List.set_cons_zero, List.set_cons_succ]
      refine ht (i := 7) rfl (.int .i64 (i : Int)) (by kernel_rfl) (by kernel_rfl) (by kernel_rfl) (fun _ _ _ h => h) hHeld (fun w' hw' => by go_simp) ?_
      try simp only [Act.put, List.setIfInBounds_toArray, List.set_cons_zero, List.set_cons_succ]
      refine ht (i := 8) rfl (.pointer (some (ad.add i))) (by kernel_rfl) (by kernel_rfl) (by kernel_rfl) (fun _ _ _ h => h) hHeld (fun w' hw' => by go_simp) ?_
      try simp only [Act.put, List.setIfInBounds_toArray, List.set_cons_zero, List.set_cons_succ]
      refine ht (i := 9) rfl (.slice g li c) (by kernel_rfl) (by kernel_rfl) (by kernel_rfl) (fun _ _ _ h => h) hHeld (fun w' hw' => by have hcc := HCel.out w' hw'; go_simp) ?_
      try simp only [Act.put, List.setIfInBounds_toArray, List.set_cons_zero, List.set_cons_succ]
      refine ht (i := 10) rfl (.int .i64 (li : Int)) (by kernel_rfl) (by kernel_rfl) (by kernel_rfl) (fun _ _ _ h => h) hHeld (fun w' hw' => by go_simp) ?_
      try simp only [Act.put, List.setIfInBounds_toArray, List.set_cons_zero, List.set_cons_succ]
      refine ht (i := 11) rfl (.int .i64 (mi : Int)) (by kernel_rfl) (by kernel_rfl) (by kernel_rfl) (fun _ _ _ h => h) hHeld (fun w' hw' => by go_simp) ?_
      try simp only [Act.put, List.setIfInBounds_toArray, List.set_cons_zero, List.set_cons_succ]
      refine ht (i := 12) rfl (.slice g mi c) (by kernel_rfl) (by kernel_rfl) (by kernel_rfl) (fun _ _ _ h => h) hHeld (fun w' hw' => by go_simp) ?_
      try simp only [Act.put, List.setIfInBounds_toArray, List.set_cons_zero, List.set_cons_succ]
      obtain ⟨g4, k4, w4, hr4, ho4, hb4⟩ := copyB wd g mi c (f i) (HF.out.1.below hHeld) HF.out.2.2.1 (by have := HM.out.2; omega)
      have HQ := Lib.hid hr4
      have hbw4 : Below w.heap.size w w4 := hHeld.trans (hb4.mono hHeld.size)
      have hbwa : Below w.heap.size w (wd.alloc (.cells #[] 5)) := hHeld.alloc hHeld.size _
      have hR4 := HR.out.below (HWd.out.trans (hb4.mono HWd.out.size))
      have hsend := send_ok w.heap.size s (some ⟨g4, 0, none⟩) mi k4 (f i) w4 hR4.duo.l hR4.er (by have := hR4.q.1; have := HF.out.2.2.2; have := HA.out.2.2.2; omega) ho4.lt.2.2.2.2.opt HF.out.2.1 (by have := HM.out.2; omega) hR4.duo.size
      rw [hR4.ps] at hsend
      have HSd := Lib.hid hsend
      have HR4 := Lib.hid hR4
      clear hr4 ho4 hb4 hR4 hsend HR HWd hsl m1 m2 m3 m4
      refine h1 (i := 1) (by kernel_rfl) rfl (fun K hK => ?_)
      go_simp
      refine hK.out _ _ hbwa ?_
      clear hK K
      try simp only [Act.put, List.setIfInBounds_toArray, List.set_cons_zero, List.set_cons_succ]
      refine h1 (i := 13) (by kernel_rfl) rfl (fun K hK => ?_)
      refine wp_append_run _ _ 23 rfl (sl8 wd.heap.size 0 0) (.slice g mi c) (sl8 g4 mi k4) w4 rfl rfl HQ.out ?_
      refine hK.out _ _ hbw4 ?_
      clear hK K
      try simp only [Act.put, List.setIfInBounds_toArray, List.set_cons_zero, List.set_cons_succ]
      refine h1 (i := 14) (by kernel_rfl) rfl (fun K hK => ?_)
      go_simp
      refine HSd.out.mono ?_
      rintro e w5 ⟨rfl, v5, g5, hG, _⟩
      have hR := HR4.out
      have hD5 := hR.duo.left hG (hR.duo.fl.added v5 ⟨g5, mi, mi, f i⟩ (by show mi ≤ _; have := HM.out.2; omega)) (Nat.le_refl _)
      have HN := Lib.hid (show ∃ s t, Rd w w5 s t 0 (i + 1) l f 0 from ⟨_, _, hD5, hR.ps, hR.pt, hR.q.push _ HM.out.1 rfl, hR.num, hR.sent, hR.o, hR.er, hR.want, hR.to, hR.tq, hR.c⟩)
      have hb5 := hD5.blw
      refine hK.out _ _ hb5 ?_
      clear hK K hG hR hD5 HSd HR4 HQ hHeld hbw4 hbwa
      try simp only [Act.put, List.setIfInBounds_toArray, List.set_cons_zero, List.set_cons_succ]
      refine ht (i := 15) rfl (.bool false) (by kernel_rfl) (by kernel_rfl) (by kernel_rfl) (fun _ _ _ h => h) hb5 (fun w' hw' => by go_simp) ?_
      try simp only [Act.put, List.setIfInBounds_toArray, List.set_cons_zero, List.set_cons_succ]
      refine wpAnyH_done (by kernel_rfl) ?_ _
      clear hb5
      go_wp2
      go_roundw
      case rel => exact ⟨i + 1, by go_num, ⟨trivial, HF.out.2.2.2⟩, HN⟩
      case measure => have := HF.out.2.2.2; simp [intOf]; omega
    · obtain rfl : i = n := by have := HJ.out.2; omega
      clear hlt HJ
      obtain ⟨w6, hw6⟩ : ∃ z, z = wr := ⟨_, rfl⟩
      subst hw6
      have HN20 := Lib.hid (show True ∧ i ≤ 20 from ⟨trivial, HA.out.2.2.2⟩)
      have e2n : IntKind.i64.wrap (2 * (i : Int)) = 2 * (i : Int) := i64_nat _ (by omega) (by have := HA.out.2.2.2; omega)
      have e2n2 : IntKind.i64.wrap (2 * (i : Int) + 2) = 2 * (i : Int) + 2 := i64_nat _ (by omega) (by have := HA.out.2.2.2; omega)
      go_wp2
      go_loopw [7] (fun q wr => ∃ j : Nat, q = .int .i64 j ∧ Hid (True ∧ j ≤ 2 * i + 2) ∧ Hid (∃ s t, Rd w wr s t (min j i) i l f (4 * j))) (fun q _ => 2 * i + 2 - (intOf q).toNat)
      case atStart =>
        obtain ⟨s, t, h⟩ := HR.out
        exact ⟨0, rfl, ⟨trivial, Nat.zero_le _⟩, s, t, by rw [Nat.zero_min]; exact h⟩
      case round =>
        clear HR
        obtain ⟨j, rfl, HJ, HR⟩ := hrel
        obtain ⟨s, t, HR⟩ : ∃ s t, Hid (Rd w wr s t (min j i) i l f (4 * j)) := let ⟨s, t, h⟩ := HR.out; ⟨s, t, Lib.hid h⟩
        by_cases hlt : j < 2 * i + 2
        · have hlt1 : (j : Int) < 2 * (i : Int) + 2 := by omega
          have e7 : IntKind.i64.wrap ((j : Int) + 1) = (j : Int) + 1 := i64_nat _ (by omega) (by have := HN20.out.2; omega)
          have HLt := Lib.hid (And.intro trivial hlt)
          clear hlt
          obtain ⟨w7, hw7⟩ : ∃ z, z = wr := ⟨_, rfl⟩
          subst hw7
          by_cases hk : j < i
          · rw [Nat.min_eq_left (by omega)] at HR
            have HK := Lib.hid (And.intro trivial hk)
            obtain ⟨x, L, hst⟩ := HR.out.step hk (by have := HN20.out.2; omega)
            have HST := Lib.hid hst
            clear hk hst HR
            go_wp2_with fail
            refine HST.out.mono ?_
            rintro e w8 ⟨A8, c8, rfl, hM⟩
            have HM := Lib.hid hM
            clear hM HST
            go_wp2
            go_loopw [63] (fun q wr => (q = .int .i64 0 ∧ Hid (Md1 w wr s.sends t x L j i l f (4 * j + 1) (.slice A8 1 c8) w7.heap.size)) ∨ (q = .int .i64 1 ∧ Hid (∃ t', Md2 w wr s.sends t' x L j i l f (4 * j + 2)))) (fun q _ => 1 - (intOf q).toNat)
            case atStart => exact .inl ⟨rfl, HM⟩
            case round =>
              clear HM
              rcases hrel with ⟨rfl, HM⟩ | ⟨rfl, HM⟩
              · have hfj : ∀ q, f j q < 256 := by
                  obtain ⟨_, _, _, _, _, _, h, _⟩ := HA.out.2.1 j (by have := HK.out.2; have := HA.out.2.2.1; omega)
                  exact h
                obtain ⟨y, gy, oy, cy, hv, hc, hcall⟩ := HM.out.hear hfj (by have := HK.out.2; have := HN20.out.2; omega)
                injection hv with hv _ hcc
                subst hv hcc
                have HCL := Lib.hid hcall
                unfold frV at hc HCL
                clear hfj hcall HM
                go_wp2_with fail
                refine HCL.out.mono ?_
                rintro e w9 ⟨t', rfl, hM2⟩
                have HN := Lib.hid (show ∃ t', Md2 w w9 s.sends t' x L j i l f (4 * j + 2) from ⟨t', hM2⟩)
                clear hM2 HCL hc
                go_wp2
                go_roundw
                case rel => exact .inr ⟨rfl, HN⟩
                case measure => simp [intOf]
              · obtain ⟨w9, hw9⟩ : ∃ z, z = wr := ⟨_, rfl⟩
                subst hw9
                obtain ⟨t2, HM⟩ : ∃ t', Hid (Md2 w w9 s.sends t' x L j i l f (4 * j + 2)) := let ⟨t', h⟩ := HM.out; ⟨t', Lib.hid h⟩
                go_wp2_with fail
                refine (HM.out.step (by have := HK.out.2; have := HN20.out.2; omega)).mono ?_
                rintro e w10 ⟨A10, c10, t3, rfl, hM3⟩
                have HM3 := Lib.hid hM3
                clear hM3 HM
                go_wp2
                go_loopw [74] (fun q wr => (q = .int .i64 0 ∧ Hid (Md3 w wr s.sends t3 x L j i l f (4 * j + 2 + 1) (.slice A10 1 c10) w9.heap.size)) ∨ (q = .int .i64 1 ∧ Hid (∃ s', Rd w wr s' t3 (j + 1) i l f (4 * (j + 1))))) (fun q _ => 1 - (intOf q).toNat)
                case atStart => exact .inl ⟨rfl, HM3⟩
                case round =>
                  clear HM3
                  rcases hrel with ⟨rfl, HM⟩ | ⟨rfl, HM⟩
                  · obtain ⟨y, gy, oy, cy, hv, hc, hcall⟩ := HM.out.hear (by have := HK.out.2; have := HN20.out.2; omega)
                    injection hv with hv _ hcc
                    subst hv hcc
                    have HCL := Lib.hid hcall
                    unfold frV at hc HCL
                    clear hcall HM
                    go_wp2_with fail
                    refine HCL.out.mono ?_
                    rintro e w11 ⟨s', rfl, hR⟩
                    have HN := Lib.hid (show ∃ s', Rd w w11 s' t3 (j + 1) i l f (4 * (j + 1)) from ⟨s', hR.mono (by omega)⟩)
                    clear hR HCL hc
                    go_wp2
                    go_roundw
                    case rel => exact .inr ⟨rfl, HN⟩
                    case measure => simp [intOf]
                  · have HN := Lib.hid (show ∃ s t, Rd w wr s t (min (j + 1) i) i l f (4 * (j + 1)) by
                      obtain ⟨s', h⟩ := HM.out
                      exact ⟨s', t3, by rw [Nat.min_eq_left (by have := HK.out.2; omega)]; exact h⟩)
                    clear HM
                    go_wp2
                    go_roundw
                    case rel => exact ⟨j + 1, by go_num, ⟨trivial, by have := HLt.out.2; omega⟩, HN⟩
                    case measure => have := HLt.out.2; simp [intOf]; omega
          · rw [Nat.min_eq_right (by omega)] at HR
            have HK := Lib.hid (And.intro trivial hk)
            have hN4 : 4 * j ≤ 99000 := by have := HLt.out.2; have := HN20.out.2; omega
            have HST := Lib.hid (HR.out.rest (by omega))
            have HN4 := Lib.hid (And.intro trivial hN4)
            clear hk HR hN4
            go_wp2_with fail
            refine HST.out.mono ?_
            rintro e w8 ⟨A8, c8, s8, rfl, hR⟩
            have HR := Lib.hid hR
            clear hR HST
            go_wp2
            go_loopw [63] (fun q wr => q = .int .i64 0 ∧ Hid (Rd w wr s8 t i i l f (4 * j + 1))) (fun _ _ => 0)
            case atStart => exact ⟨rfl, HR⟩
            case round =>
              clear HR
              obtain ⟨rfl, HR⟩ := hrel
              obtain ⟨w9, hw9⟩ : ∃ z, z = wr := ⟨_, rfl⟩
              subst hw9
              go_wp2_with fail
              refine (HR.out.rest2 (by have := HN4.out.2; omega)).mono ?_
              rintro e w10 ⟨A10, c10, t3, rfl, hR⟩
              have HR := Lib.hid hR
              clear hR
              go_wp2
              go_loopw [74] (fun q wr => q = .int .i64 0 ∧ Hid (Rd w wr s8 t3 i i l f (4 * j + 1 + 1))) (fun _ _ => 0)
              case atStart => exact ⟨rfl, HR⟩
              case round =>
                clear HR
                obtain ⟨rfl, HR⟩ := hrel
                have HN := Lib.hid (show ∃ s t, Rd w wr s t (min (j + 1) i) i l f (4 * (j + 1)) from ⟨s8, t3, by rw [Nat.min_eq_right (by have := HK.out.2; omega)]; exact HR.out.mono (by omega)⟩)
                clear HR
                go_wp2
                go_roundw
                case rel => exact ⟨j + 1, by go_num, ⟨trivial, by have := HLt.out.2; omega⟩, HN⟩
                case measure => have := HLt.out.2; simp [intOf]; omega
        · have hlt1 : ¬ (j : Int) < 2 * (i : Int) + 2 := by omega
          have hlt2 : decide ((j : Int) < 2 * (i : Int) + 2) = false := decide_eq_false hlt1
          have hlt3 : decide (j < 2 * i + 2) = false := decide_eq_false hlt
          rw [Nat.min_eq_right (by omega)] at HR
          have HJE := Lib.hid (show j ≤ 2 * i + 2 from HJ.out.2)
          clear hlt HJ
          obtain ⟨w12, hw12⟩ : ∃ z, z = wr := ⟨_, rfl⟩
          subst hw12
          go_wp2
          obtain ⟨M, hM⟩ : ∃ M, M = 4 * j := ⟨_, rfl⟩
          have HM := Lib.hid (show True ∧ M ≤ 200 from ⟨trivial, by have := HN20.out.2; have := HJE.out; omega⟩)
          have H12 := Lib.hid (show ∃ s t, Rk w w12 s t 0 i l f M from ⟨s, t, by rw [hM]; exact HR.out.rk⟩)
          clear HR hM hlt1 hlt2 hlt3
          go_loopw [12] (fun q wr => ∃ d : Nat, q = .int .i64 d ∧ Hid (True ∧ d ≤ i) ∧ Hid (∃ s t, Rk w wr s t d i l f M)) (fun q _ => i - (intOf q).toNat)
          case atStart => exact ⟨0, rfl, ⟨trivial, Nat.zero_le _⟩, H12⟩
          case round =>
            clear H12
            obtain ⟨d, rfl, HJ, HR⟩ := hrel
            obtain ⟨s, t, HR⟩ : ∃ s t, Hid (Rk w wr s t d i l f M) := let ⟨s, t, h⟩ := HR.out; ⟨s, t, Lib.hid h⟩
            by_cases hlt : d < i
            · have hlt1 : (d : Int) < (i : Int) := by omega
              have hlt2 : (d : Int) < (N0 : Int) := by have := HA.out.2.2.1; omega
              have e7 : IntKind.i64.wrap ((d : Int) + 1) = (d : Int) + 1 := i64_nat _ (by omega) (by have := HA.out.2.2.2; omega)
              have HLt := Lib.hid (And.intro trivial hlt)
              obtain ⟨x, htk⟩ := HR.out.take hlt
              have HTK := Lib.hid htk
              clear hlt htk HJ HR
              go_wp2_with fail
              refine HTK.out.mono ?_
              rintro e w14 ⟨rfl, hlx, hxs, t', hR⟩
              obtain ⟨ad, g, c, rfl, hcl, hAt, hf, hg0, hlc⟩ := HA.out.2.1 d (by have := HLt.out.2; have := HA.out.2.2.1; omega)
              have hb14 := hR.duo.blw
              have hcl14 : w14.cell? (ad.add d) = some (.slice g (l d) c) := (hb14.cell (World.block_lt_of_cell? _ _ hcl)).trans hcl
              have hsl : ∀ wx, (Instr.slice 23 (.slice g (l d) c) none (some (.int .i64 (ml l d : Int))) none).run Tryd.prog wx = .ok (.slice g (ml l d) c) wx := fun wx => run_headB wx g (l d) c (ml l d) (Nat.le_trans (Nat.min_le_left _ _) hlc)
              obtain ⟨m1, m2, m3, m4⟩ : (if (5000 : Int) < (l d : Int) then (5000 : Int) else (l d : Int)) = (ml l d : Int) ∧ (if 5000 < l d then (5000 : Int) else (l d : Int)) = (ml l d : Int) ∧ (if (l d : Int) < (5000 : Int) then (l d : Int) else (5000 : Int)) = (ml l d : Int) ∧ (if l d < 5000 then (l d : Int) else (5000 : Int)) = (ml l d : Int) := min_ite (l d) 5000 (ml l d) rfl
              have q1 : ∀ q, (convert 23 9 (.slice (some ⟨x.blk, 0, none⟩) x.len x.cap)).run Tryd.prog (w14.drewN q) = .ok (.string (strB (ml l d) (f d))) (w14.drewN q) := fun q => by
                have := (hlx.heap (w' := w14.drewN q) rfl).str
                rw [hxs] at this
                exact this
              have q2 : ∀ q, (convert 23 9 (.slice g (ml l d) c)).run Tryd.prog (w14.drewN q) = .ok (.string (strB (ml l d) (f d))) (w14.drewN q) := fun q => conv_BO (w14.drewN q) g (ml l d) c (f d) (fun j hj => (hAt.below (hb14.trans (drew_below _ _ q))) j (Nat.lt_of_lt_of_le hj (Nat.min_le_left _ _))) hf (fun h => ⟨by unfold ml; rw [(hg0 h).1]; rfl, (hg0 h).2⟩)
              have HN := Lib.hid (show ∀ q, ∃ s t, Rk w (w14.drewN q) s t (d + 1) i l f M from fun q => ⟨s, t', hR.duo.below (drew_below _ _ _), hR.ps, hR.pt, hR.q, hR.sent, hR.o, hR.er, hR.c⟩)
              generalize strB (ml l d) (f d) = tf at q1 q2
              generalize ml l d = mi at *
              generalize l d = li at *
              unfold frV
              clear hlx hxs hR hcl hAt hf hg0 hlc hb14 HTK
              go_wp2
              go_quiet (fail)
              clear q1 q2
              go_wp2
              go_roundw
              case rel => exact ⟨d + 1, by go_num, ⟨trivial, HLt.out.2⟩, HN.out _⟩
              case measure => have := HLt.out.2; simp [intOf]; omega
            · obtain rfl : d = i := by have := HJ.out.2; omega
              clear hlt HJ
              obtain ⟨w15, hw15⟩ : ∃ z, z = wr := ⟨_, rfl⟩
              subst hw15
              clear e2n e2n2
              go_wp2_with fail
              have hR := HR.out
              rw [← hR.ps]
              refine (waiting_any w.heap.size s w15 hR.duo.l).mono ?_
              rintro e w16 ⟨rfl, rfl⟩
              rw [hR.q, hR.ps]
              clear hR
              go_wp2_with fail
              have hR := HR.out
              rw [← hR.ps]
              refine (err_any w.heap.size s w15 hR.duo.l).mono ?_
              rintro e w16 ⟨rfl, rfl⟩
              rw [hR.er, hR.ps]
              clear hR
              go_wp2_with fail
              have hR := HR.out
              have hb16 : Below w15.heap.size w15 (w15.alloc (.cells #[.int .u8 ((1 : Nat) : Int)] 5)) := (Below.refl _ _).alloc (Nat.le_refl _) _
              have hD := hR.duo.below hb16
              rw [← hR.ps]
              refine (send_ok w.heap.size s _ 1 1 (fun _ => 1) _ hD.l hR.er (by rw [hR.q]; show 0 < 64; omega) (bytes1_at w15 1) (fun _ => by omega) (by omega) hD.size).mono ?_
              rintro e w17 ⟨rfl, v17, g17, hG, _⟩
              rw [hR.ps]
              have H17 := Lib.hid (show ∃ s t, Rl w w17 s t 0 M from ⟨_, t, hD.left hG (hD.fl.added v17 _ (by show (1 : Nat) ≤ _; omega)) (Nat.le_refl _), hR.ps, by show (s.Q ++ _).length = 1; rw [hR.q]; rfl, hR.o, hR.er, hR.sent, fun h => absurd h (Nat.lt_irrefl 0)⟩)
              clear hR hb16 hD hG HR
              go_wp2
              go_loopw [15, 16] (fun p q wr => ∃ k : Nat, q = .int .i64 k ∧ Hid (True ∧ k ≤ 33) ∧ ((∃ c : Nat, p = .int .i64 c ∧ Hid (k ≤ 32 ∧ c = (k + 3) / 4) ∧ Hid (∃ s t, Rl w wr s t k (M + k))) ∨ (p = .int .i64 8 ∧ Hid (k = 33) ∧ Hid (∃ s t ps, Rz w wr s t (M + 33) ps)))) (fun _ q _ => 33 - (intOf q).toNat)
              case atStart => exact ⟨0, rfl, ⟨trivial, by omega⟩, .inl ⟨0, rfl, ⟨by omega, rfl⟩, H17⟩⟩
              case round =>
                clear H17
                obtain ⟨k, rfl, HJ, ⟨cn, rfl, HC, HR⟩ | ⟨rfl, HC, HR⟩⟩ := hrel
                · obtain ⟨s, t, HR⟩ : ∃ s t, Hid (Rl w wr s t k (M + k)) := let ⟨s, t, h⟩ := HR.out; ⟨s, t, Lib.hid h⟩
                  have hk1 : (k : Int) < 33 := by have := HC.out.1; omega
                  have e7 : IntKind.i64.wrap ((k : Int) + 1) = (k : Int) + 1 := i64_nat _ (by omega) (by omega)
                  go_wp2_with fail
                  have hR := HR.out
                  rw [← hR.ps]
                  refine (err_any w.heap.size s wr hR.duo.l).mono ?_
                  rintro e w18 ⟨rfl, rfl⟩
                  rw [hR.er, hR.ps]
                  clear hR
                  by_cases hk : k < 32
                  · have HK := Lib.hid (And.intro trivial hk)
                    have HST := Lib.hid (HR.out.step hk (by have := HM.out.2; omega))
                    clear hk HR
                    go_wp2_with fail
                    refine HST.out.mono ?_
                    rintro e w19 ⟨A19, c19, s19, r, rfl, hR, hr⟩
                    obtain ⟨c2, hc2⟩ : ∃ c2, c2 = cn + r := ⟨_, rfl⟩
                    have e8 : IntKind.i64.wrap ((cn : Int) + (r : Int)) = (c2 : Int) := by have := HC.out; rw [i64_nat _ (by omega) (by omega)]; omega
                    have HN := Lib.hid (show ∃ s t, Rl w w19 s t (k + 1) (M + (k + 1)) from ⟨s19, t, hR⟩)
                    have HC2 := Lib.hid (show k + 1 ≤ 32 ∧ c2 = (k + 1 + 3) / 4 from ⟨HK.out.2, by have := HC.out.2; omega⟩)
                    clear hR hr HST hc2
                    go_wp2
                    go_roundw
                    case rel => exact ⟨k + 1, by go_num, ⟨trivial, by have := HK.out.2; omega⟩, .inl ⟨c2, rfl, HC2, HN⟩⟩
                    case measure => have := HK.out.2; simp [intOf]; omega
                  · have hk32 : k = 32 := by have := HC.out.1; omega
                    have hcn : cn = 8 := by have := HC.out.2; omega
                    rw [hk32] at HR
                    have HST := Lib.hid (HR.out.last (by have := HM.out.2; omega))
                    have HK := Lib.hid hk32
                    subst hcn
                    clear hk hk32 HR
                    go_wp2_with fail
                    refine HST.out.mono ?_
                    rintro e w19 ⟨A19, c19, s19, ps, rfl, hR⟩
                    have HN := Lib.hid (show ∃ s t ps, Rz w w19 s t (M + 33) ps from ⟨s19, t, ps, hR⟩)
                    clear hR HST
                    go_wp2
                    go_roundw
                    case rel => exact ⟨k + 1, by go_num, ⟨trivial, by have := HK.out; omega⟩, .inr ⟨rfl, by have := HK.out; show k + 1 = 33; omega, HN⟩⟩
                    case measure => have := HK.out; simp [intOf]; omega
                · have hk1 : ¬ (k : Int) < 33 := by have := HC.out; omega
                  have hk2 : decide ((k : Int) < 33) = false := decide_eq_false hk1
                  have hk3 : decide (k < 33) = false := decide_eq_false (by have := HC.out; omega)
                  obtain ⟨s, t, ps, HR⟩ : ∃ s t ps, Hid (Rz w wr s t (M + 33) ps) := let ⟨s, t, ps, h⟩ := HR.out; ⟨s, t, ps, Lib.hid h⟩
                  obtain ⟨w20, hw20⟩ : ∃ z, z = wr := ⟨_, rfl⟩
                  subst hw20
                  go_wp2_with fail
                  have hR := HR.out
                  rw [← hR.ps]
                  refine (err_any w.heap.size s w20 hR.duo.l).mono ?_
                  rintro e w21 ⟨rfl, rfl⟩
                  rw [hR.er, hR.ps]
                  have hfi := fis_chain ps 70 70 w20
                  obtain ⟨T, u, hT⟩ := chain_iface ps 70
                  rw [hT] at hfi ⊢
                  have HFI := Lib.hid hfi
                  have HT := Lib.hid hT
                  clear hfi hT hR
                  go_wp2_with fail
                  refine HFI.out.mono ?_
                  rintro e w22 ⟨rfl, hb22⟩
                  have hR := HR.out
                  have H22 := Lib.hid (show Rz w w22 s t (M + 33) ps from ⟨hR.duo.below hb22, hR.ps, hR.o, hR.er, hR.sent, hR.ago⟩)
                  clear hb22 hR HR HFI
                  go_wp2_with fail
                  have hR := H22.out
                  rw [← hR.ps]
                  refine (send_dead w.heap.size s ps 70 none 0 0 w22 hR.duo.l hR.er).mono ?_
                  rintro e w23 ⟨rfl, rfl⟩
                  have hfi := fis_chain ps 70 70 w22
                  rw [HT.out] at hfi ⊢
                  rw [hR.ps]
                  have HFI := Lib.hid hfi
                  clear hfi hR
                  go_wp2_with fail
                  refine HFI.out.mono ?_
                  rintro e w24 ⟨rfl, hb24⟩
                  have hR := H22.out
                  have H24 := Lib.hid (show Rz w w24 s t (M + 33) ps from ⟨hR.duo.below hb24, hR.ps, hR.o, hR.er, hR.sent, hR.ago⟩)
                  clear hb24 hR H22 HFI
                  go_wp2_with fail
                  refine (H24.out.step (by have := HM.out.2; omega)).mono ?_
                  rintro e w25 ⟨A25, c25, rfl, hb25⟩
                  have HB := Lib.hid hb25
                  clear hb25 H24
                  go_wp2
                  go_ret
                  exact ⟨rfl, HB.out⟩
end Go.Proofs.YteadpnododjeaaaDoor
