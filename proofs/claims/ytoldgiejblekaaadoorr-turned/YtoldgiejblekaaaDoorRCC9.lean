/- Contract of the document's Eval. -/
import Derived.Test.YtoldgiejblekaaaDoorRCC8
import Derived.Test.YtoldgiejblekaaaDoorRBQ3
namespace Go.Proofs.YtoldgiejblekaaaDoorR
open Go.RowKit

set_option maxHeartbeats 8000000 in
set_option maxRecDepth 100000 in
theorem reval_any (w : World) (N : Nat) (Ag : Option Addr) (n cg : Nat) (y : Nat → Nat → Int) (Ao : Option Addr) (m co : Nat) (o : Nat → Int) (A : Option Addr) (c : Nat) (f : Nat → Bool) (hg : AtV w Ag (n * 3) (gv y)) (ho : AtV w Ao m (iv o)) (hA : AtV w A N (bv f)) (hz : A = none → N = 0 ∧ c = 0) (hG : Circ.Good N n y m o) :
    Calls Tryd.prog 14 #[.slice Ag n cg, .slice Ao m co, .slice A N c] w fun e w' => ∃ v, e = .returned v ∧ Row w' w.heap.size 4 1 v m (bv fun i => Circ.vals N f y n (o i).toNat) ∧ Below w.heap.size w w' := by
  have hN := hG.n1
  have hn := hG.g
  have hm := hG.u
  have HG := Lib.hid hG
  have HN := Lib.hid (show N ≤ 4096 ∧ n ≤ 4096 ∧ m ≤ 64 by omega)
  obtain ⟨g0, k0, w1, hr1, hg0, _, hk0, hR1, hb1⟩ := append_empty eltB w A N c (bv f) (by rw [Nat.mul_one]; exact hA) hz (bv_one f) (by unfold maxLen; omega) (by omega)
  have HR1 := Lib.hid hr1
  have H0 := Lib.hid (And.intro hg (And.intro ho (And.intro hR1 hb1)))
  obtain ⟨ws, hws⟩ : ∃ x, w.heap.size = x := ⟨_, rfl⟩
  have HWS := Lib.hid hws
  clear hg ho hA hz hG hN hn hm hr1 hR1 hb1 hg0 hk0 hws
  go_enter Tryd.func14, Tryd.ntmps14
  go_wp2_with (at_builtin; refine wpList_append_run rfl _ _ 26 rfl (.slice (some ⟨w.heap.size, 0, none⟩) 0 0) (.slice A N c) (.slice (some ⟨g0, 0, none⟩) N k0) w1 rfl rfl (HR1.out _) ?_)
  clear HR1
  rw [HWS.out] at H0 ⊢
  go_loopw [7, 8] (fun v' i wr => ∃ k : Nat, ∃ v, k ≤ n ∧ v = v' ∧ i = .int .i64 k ∧ Hid (Row wr ws 4 1 v (N + k) (bv (Circ.vals N f y k)) ∧ Below ws w wr)) (fun _ i _ => n - (intOf i).toNat)
  case atStart => exact ⟨0, _, Nat.zero_le _, rfl, rfl, H0.out.2.2.1, H0.out.2.2.2⟩
  case round =>
    obtain ⟨k, v, hk, rfl, rfl, HI⟩ := hrel
    have hlw := HI.out.2.size
    have hws := HWS.out
    by_cases hlt2 : k < n
    · obtain ⟨ad, rfl, ae, hae, g0, g1, g2, hbk⟩ := (H0.out.1.below (by rw [hws]; exact HI.out.2)).gate k hlt2
      obtain ⟨a, ha, b, hb, hab⟩ : ∃ a : Nat, y k 1 = (a : Int) ∧ ∃ b : Nat, y k 2 = (b : Int) ∧ a < N + k ∧ (y k 0 = 1 ∨ y k 0 = 2 → b < N + k) ∧ (y k 0 = 1 ∨ y k 0 = 2 ∨ y k 0 = 3) := by
        rcases HG.out.fit k hlt2 with ⟨h0, h⟩ | ⟨h0, h⟩
        · exact ⟨(y k 1).toNat, by omega, (y k 2).toNat, by omega, by omega, by omega, by omega⟩
        · exact ⟨(y k 1).toNat, by omega, (y k 2).toNat, by omega, by omega, by omega, by omega⟩
      rw [ha] at g1
      rw [hb] at g2
      have lt1 : (k : Int) < (n : Int) := by omega
      have lt0 : (0 : Int) ≤ (k : Int) := by omega
      have e1 : IntKind.i64.wrap ((k : Int) + 1) = (k : Int) + 1 := i64_nat _ (by omega) (by have := HN.out; omega)
      have HGn := Blk.new wr 54 #[.int .i64 (y k 0), .int .i64 (a : Int), .int .i64 (b : Int)]
      have q0 := HGn.cell 0 (v := .int .i64 (y k 0)) rfl
      have q1 := HGn.cell 1 (v := .int .i64 (a : Int)) rfl
      have q2 := HGn.cell 2 (v := .int .i64 (b : Int)) rfl
      have hb2 : Below ws w (wr.alloc (.cells #[.int .i64 (y k 0), .int .i64 (a : Int), .int .i64 (b : Int)] 54)) := HI.out.2.trans (((Below.refl wr.heap.size wr).alloc (Nat.le_refl _) _).mono (by omega))
      have hR2 := HI.out.1.alloc (.cells #[.int .i64 (y k 0), .int .i64 (a : Int), .int .i64 (b : Int)] 54)
      obtain ⟨Aw, cw, rfl, hnc, hcm, hnil, hAt, hbl, _⟩ := hR2.read
      rw [Nat.mul_one] at hAt
      obtain ⟨aw, rfl, ca⟩ := hAt a hab.1
      have cbb : y k 0 = 1 ∨ y k 0 = 2 → (wr.alloc (.cells #[.int .i64 (y k 0), .int .i64 (a : Int), .int .i64 (b : Int)] 54)).cell? (aw.add b) = some (.bool (Circ.vals N f y k b)) ∧ (b : Int) < (N : Int) + (k : Int) ∧ (0 : Int) ≤ (b : Int) := fun h => by
        obtain ⟨aw', e, cb⟩ := hAt b (hab.2.1 h)
        cases e
        exact ⟨cb, by have := hab.2.1 h; omega, by omega⟩
      unfold bv at ca
      have la : (a : Int) < (N : Int) + (k : Int) := by have := hab.1; omega
      have la0 : (0 : Int) ≤ (a : Int) := by omega
      have hle1 : ws ≤ w.heap.size := by omega
      have HLt := Lib.hid hlt2
      have hNk : N + k ≤ 1000000 := by have := HN.out; omega
      have hkd := hab.2.2
      by_cases h1 : y k 0 = 1
      · obtain ⟨cb, lb, lb0⟩ := cbb (.inl h1)
        have n1 : (y k 0 == 1) = true := by rw [h1]; rfl
        obtain ⟨g, kk, w5, hr, hR5, hb5⟩ := grow_bit w (wr.alloc (.cells #[.int .i64 (y k 0), .int .i64 (a : Int), .int .i64 (b : Int)] 54)).drew ws N k _ f y a b (Circ.vals N f y k a != Circ.vals N f y k b) ha hb (by unfold Circ.gate; rw [if_pos h1]) (hR2.chg (Chg.drew (Chg.refl (fun _ => False) _)) (fun _ _ h => h)) hb2.drew hle1 hNk
        have HR := Lib.hid hr
        have HF := Lib.hid (And.intro hR5 hb5)
        clear HGn hbk hb2 hR2 hnc hcm hnil hAt hbl ha hb hab cbb hws hlt2 h1 hkd hr hR5 hb5 hle1 hNk HI
        go_wp2
        generalize (wr.alloc (.cells #[.int .i64 (y k 0), .int .i64 (a : Int), .int .i64 (b : Int)] 54)) = w2 at *
        refine region_y [13, 14] (fun w' => w'.cell? ⟨wr.heap.size, 1, none⟩ = some (.int .i64 (a : Int)) ∧ w'.cell? ⟨wr.heap.size, 2, none⟩ = some (.int .i64 (b : Int)) ∧ w'.cell? (aw.add a) = some (.bool (Circ.vals N f y k a)) ∧ w'.cell? (aw.add b) = some (.bool (Circ.vals N f y k b))) (by kernel_rfl) ?_
        have hS : w2.drew.cell? ⟨wr.heap.size, 1, none⟩ = some (.int .i64 (a : Int)) ∧ w2.drew.cell? ⟨wr.heap.size, 2, none⟩ = some (.int .i64 (b : Int)) ∧ w2.drew.cell? (aw.add a) = some (.bool (Circ.vals N f y k a)) ∧ w2.drew.cell? (aw.add b) = some (.bool (Circ.vals N f y k b)) := ⟨q1, q2, ca, cb⟩
        clear q0 q1 q2 ca cb
        generalize w2.drew = w3 at *
        refine yu (i := 0) rfl (.slice (some aw) (N + k) cw) (by kernel_rfl) (by kernel_rfl) (by kernel_rfl) (fun _ _ _ h => h) (fun w' => by go_simp) ?_
        try simp only [Act.put, List.setIfInBounds_toArray, List.set_cons_zero, List.set_cons_succ]
        refine yu (i := 1) rfl (.slice (some aw) (N + k) cw) (by kernel_rfl) (by kernel_rfl) (by kernel_rfl) (fun _ _ _ h => h) (fun w' => by go_simp) ?_
        try simp only [Act.put, List.setIfInBounds_toArray, List.set_cons_zero, List.set_cons_succ]
        refine yu (i := 2) rfl (.pointer (some ⟨wr.heap.size, 1, none⟩)) (by kernel_rfl) (by kernel_rfl) (by kernel_rfl) (fun _ _ _ h => h) (fun w' => by go_simp) ?_
        try simp only [Act.put, List.setIfInBounds_toArray, List.set_cons_zero, List.set_cons_succ]
        refine yt [13, 14, 12, 11, 5, 4] (i := 3) rfl (.int .i64 (a : Int)) (by kernel_rfl) (by kernel_rfl) (by kernel_rfl) (by kernel_rfl) (fun _ _ _ h => h) hS (fun w' d0 => by obtain ⟨d1, d2, d3, d4⟩ := d0; go_simp) ?_
        try simp only [Act.put, List.setIfInBounds_toArray, List.set_cons_zero, List.set_cons_succ]
        refine yu (i := 4) rfl (.pointer (some (aw.add a))) (by kernel_rfl) (by kernel_rfl) (by kernel_rfl) (fun _ _ _ h => h) (fun w' => by go_simp) ?_
        try simp only [Act.put, List.setIfInBounds_toArray, List.set_cons_zero, List.set_cons_succ]
        refine yt [13, 14, 12, 11] (i := 5) rfl (.bool (Circ.vals N f y k a)) (by kernel_rfl) (by kernel_rfl) (by kernel_rfl) (by kernel_rfl) (fun _ _ _ h => h) hS (fun w' d0 => by obtain ⟨d1, d2, d3, d4⟩ := d0; go_simp) ?_
        try simp only [Act.put, List.setIfInBounds_toArray, List.set_cons_zero, List.set_cons_succ]
        refine yu (i := 6) rfl (.slice (some aw) (N + k) cw) (by kernel_rfl) (by kernel_rfl) (by kernel_rfl) (fun _ _ _ h => h) (fun w' => by go_simp) ?_
        try simp only [Act.put, List.setIfInBounds_toArray, List.set_cons_zero, List.set_cons_succ]
        refine yu (i := 7) rfl (.pointer (some ⟨wr.heap.size, 2, none⟩)) (by kernel_rfl) (by kernel_rfl) (by kernel_rfl) (fun _ _ _ h => h) (fun w' => by go_simp) ?_
        try simp only [Act.put, List.setIfInBounds_toArray, List.set_cons_zero, List.set_cons_succ]
        refine yt [13, 14, 12, 11, 10, 9] (i := 8) rfl (.int .i64 (b : Int)) (by kernel_rfl) (by kernel_rfl) (by kernel_rfl) (by kernel_rfl) (fun _ _ _ h => h) hS (fun w' d0 => by obtain ⟨d1, d2, d3, d4⟩ := d0; go_simp) ?_
        try simp only [Act.put, List.setIfInBounds_toArray, List.set_cons_zero, List.set_cons_succ]
        refine yu (i := 9) rfl (.pointer (some (aw.add b))) (by kernel_rfl) (by kernel_rfl) (by kernel_rfl) (fun _ _ _ h => h) (fun w' => by go_simp) ?_
        try simp only [Act.put, List.setIfInBounds_toArray, List.set_cons_zero, List.set_cons_succ]
        refine yt [13, 14, 12, 11] (i := 10) rfl (.bool (Circ.vals N f y k b)) (by kernel_rfl) (by kernel_rfl) (by kernel_rfl) (by kernel_rfl) (fun _ _ _ h => h) hS (fun w' d0 => by obtain ⟨d1, d2, d3, d4⟩ := d0; go_simp) ?_
        try simp only [Act.put, List.setIfInBounds_toArray, List.set_cons_zero, List.set_cons_succ]
        refine yu (i := 11) rfl (.bool (Circ.vals N f y k a != Circ.vals N f y k b)) (by kernel_rfl) (by kernel_rfl) (by kernel_rfl) (fun _ _ _ h => h) (fun w' => by go_simp; cases Circ.vals N f y k a <;> cases Circ.vals N f y k b <;> rfl) ?_
        try simp only [Act.put, List.setIfInBounds_toArray, List.set_cons_zero, List.set_cons_succ]
        refine y1 (i := 12) (by kernel_rfl) rfl (fun K hK => ?_)
        go_simp
        refine hK.out _ _ (.inr fun _ => ⟨(World.cell?_alloc_lt _ _ ⟨wr.heap.size, 1, none⟩ (World.block_lt_of_cell? _ _ hS.1)).trans hS.1, (World.cell?_alloc_lt _ _ ⟨wr.heap.size, 2, none⟩ (World.block_lt_of_cell? _ _ hS.2.1)).trans hS.2.1, (World.cell?_alloc_lt _ _ (aw.add a) (World.block_lt_of_cell? _ _ hS.2.2.1)).trans hS.2.2.1, (World.cell?_alloc_lt _ _ (aw.add b) (World.block_lt_of_cell? _ _ hS.2.2.2)).trans hS.2.2.2⟩) ?_
        clear hK K
        try simp only [Act.put, List.setIfInBounds_toArray, List.set_cons_zero, List.set_cons_succ]
        refine y1 (i := 13) (by kernel_rfl) rfl (fun K hK => ?_)
        refine wp_append_run _ _ 26 rfl (.slice (some aw) (N + k) cw) (.slice (some ⟨w3.heap.size, 0, none⟩) 1 1) (.slice (some ⟨g, 0, none⟩) (N + k + 1) kk) w5 rfl rfl (HR.out _) ?_
        refine hK.out _ _ (.inl (by decide)) ?_
        clear hK K
        try simp only [Act.put, List.setIfInBounds_toArray, List.set_cons_zero, List.set_cons_succ]
        refine y1 (i := 14) (by kernel_rfl) rfl (fun K hK => ?_)
        go_simp
        refine hK.out _ _ (.inl (by decide)) ?_
        clear hK K
        try simp only [Act.put, List.setIfInBounds_toArray, List.set_cons_zero, List.set_cons_succ]
        refine wpAnyY_done (by kernel_rfl) ?_ _
        go_wp2
        go_roundw
        case rel => exact ⟨k + 1, _, by have := HLt.out; omega, rfl, by go_num, HF.out.1, HF.out.2⟩
        case measure => simp [intOf]; have := HLt.out; omega
      · have n1 : (y k 0 == 1) = false := by simpa using h1
        have hs2 : (wr.alloc (.cells #[.int .i64 (y k 0), .int .i64 (a : Int), .int .i64 (b : Int)] 54)).heap.size = wr.heap.size + 1 := by simp
        by_cases h2 : y k 0 = 2
        · obtain ⟨cb, lb, lb0⟩ := cbb (.inr h2)
          have n2 : (y k 0 == 2) = true := by rw [h2]; rfl
          cases hva : Circ.vals N f y k a with
          | false =>
            rw [hva] at ca
            obtain ⟨g, kk, w5, hr, hR5, hb5⟩ := grow_bit w (wr.alloc (.cells #[.int .i64 (y k 0), .int .i64 (a : Int), .int .i64 (b : Int)] 54)) ws N k _ f y a b (false) ha hb (by unfold Circ.gate; rw [if_neg h1, if_pos h2, hva]; rfl) hR2 hb2 hle1 hNk
            rw [hs2] at hr
            have HR := Lib.hid hr
            have HF := Lib.hid (And.intro hR5 hb5)
            clear HGn hbk hb2 hR2 hnc hcm hnil hAt hbl ha hb hab cbb hws hlt2 h1 h2 hkd hs2 hr hR5 hb5 hle1 hNk HI hva
            go_wp2_with (at_builtin; refine wpList_append_run rfl _ _ 26 rfl (.slice (some aw) (N + k) cw) (.slice (some ⟨wr.heap.size + 1, 0, none⟩) 1 1) (.slice (some ⟨g, 0, none⟩) (N + k + 1) kk) w5 rfl rfl (HR.out _) ?_)
            go_roundw
            case rel => exact ⟨k + 1, _, by have := HLt.out; omega, rfl, by go_num, HF.out.1, HF.out.2⟩
            case measure => simp [intOf]; have := HLt.out; omega
          | true =>
            rw [hva] at ca
            obtain ⟨g, kk, w5, hr, hR5, hb5⟩ := grow_bit w (wr.alloc (.cells #[.int .i64 (y k 0), .int .i64 (a : Int), .int .i64 (b : Int)] 54)) ws N k _ f y a b (Circ.vals N f y k b) ha hb (by unfold Circ.gate; rw [if_neg h1, if_pos h2, hva]; rfl) hR2 hb2 hle1 hNk
            rw [hs2] at hr
            have HR := Lib.hid hr
            have HF := Lib.hid (And.intro hR5 hb5)
            clear HGn hbk hb2 hR2 hnc hcm hnil hAt hbl ha hb hab cbb hws hlt2 h1 h2 hkd hs2 hr hR5 hb5 hle1 hNk HI hva
            go_wp2_with (at_builtin; refine wpList_append_run rfl _ _ 26 rfl (.slice (some aw) (N + k) cw) (.slice (some ⟨wr.heap.size + 1, 0, none⟩) 1 1) (.slice (some ⟨g, 0, none⟩) (N + k + 1) kk) w5 rfl rfl (HR.out _) ?_)
            go_roundw
            case rel => exact ⟨k + 1, _, by have := HLt.out; omega, rfl, by go_num, HF.out.1, HF.out.2⟩
            case measure => simp [intOf]; have := HLt.out; omega
        · have n2 : (y k 0 == 2) = false := by simpa using h2
          obtain ⟨g, kk, w5, hr, hR5, hb5⟩ := grow_bit w (wr.alloc (.cells #[.int .i64 (y k 0), .int .i64 (a : Int), .int .i64 (b : Int)] 54)) ws N k _ f y a b (!Circ.vals N f y k a) ha hb (by unfold Circ.gate; rw [if_neg h1, if_neg h2]) hR2 hb2 hle1 hNk
          rw [hs2] at hr
          have HR := Lib.hid hr
          have HF := Lib.hid (And.intro hR5 hb5)
          clear HGn hbk hb2 hR2 hnc hcm hnil hAt hbl ha hb hab cbb hws hlt2 h1 h2 hkd hs2 hr hR5 hb5 hle1 hNk HI
          go_wp2_with (at_builtin; refine wpList_append_run rfl _ _ 26 rfl (.slice (some aw) (N + k) cw) (.slice (some ⟨wr.heap.size + 1, 0, none⟩) 1 1) (.slice (some ⟨g, 0, none⟩) (N + k + 1) kk) w5 rfl rfl (HR.out _) ?_)
          go_roundw
          case rel => exact ⟨k + 1, _, by have := HLt.out; omega, rfl, by go_num, HF.out.1, HF.out.2⟩
          case measure => simp [intOf]; have := HLt.out; omega
    · obtain rfl : k = n := by omega
      have lt1 : ¬ (k : Int) < (k : Int) := by omega
      obtain ⟨wB, hwB⟩ : ∃ x, x = wr := ⟨_, rfl⟩
      subst hwB
      obtain ⟨Aw, cw, rfl, hnc, hcm, hnil, hAt, hbl, _⟩ := HI.out.1.read
      rw [Nat.mul_one] at hAt
      have HB := Lib.hid (And.intro hAt HI.out.2)
      have hsB : ws ≤ wB.heap.size := by omega
      clear hnc hcm hnil hAt hbl hlt2 hk HI hws
      go_wp2
      go_loopw [10, 11] (fun v' i wr => ∃ t : Nat, ∃ v, t ≤ m ∧ v = v' ∧ i = .int .i64 t ∧ Hid (Row wr wB.heap.size 4 1 v t (bv fun q => Circ.vals N f y k (o q).toNat) ∧ Below wB.heap.size wB wr)) (fun _ i _ => m - (intOf i).toNat)
      case atStart => exact ⟨0, _, Nat.zero_le _, rfl, rfl, Row.nil _ _ _ _ _, Below.refl _ _⟩
      case round =>
        obtain ⟨t, v, ht, rfl, rfl, HI⟩ := hrel
        by_cases hlt2 : t < m
        · have hb0r : Below w.heap.size w wr := by
            rw [HWS.out]
            exact HB.out.2.trans (HI.out.2.mono hsB)
          obtain ⟨ad, rfl, co1⟩ := (H0.out.2.1.below hb0r) t hlt2
          unfold iv at co1
          obtain ⟨a, ha, hal⟩ : ∃ a : Nat, o t = (a : Int) ∧ a < N + k := by
            have := HG.out.out t hlt2
            exact ⟨(o t).toNat, by omega, by omega⟩
          obtain ⟨ad2, rfl, cw1⟩ := (HB.out.1.below HI.out.2) a hal
          unfold bv at cw1
          rw [ha] at co1
          have lt2 : (t : Int) < (m : Int) := by omega
          have lt0 : (0 : Int) ≤ (t : Int) := by omega
          have la1 : (a : Int) < (N : Int) + (k : Int) := by omega
          have la0 : (0 : Int) ≤ (a : Int) := by omega
          have e1 : IntKind.i64.wrap ((t : Int) + 1) = (t : Int) + 1 := i64_nat _ (by omega) (by have := HN.out; omega)
          have hsr := HI.out.2.size
          have hown := HI.out.1.own
          obtain ⟨g, kk, w5, hr, hgB, hR5, hgr, _⟩ := append_one eltB wr wB.heap.size v t (bv fun q => Circ.vals N f y k (o q).toNat) (bv fun _ => Circ.vals N f y k a) #[.bool (Circ.vals N f y k a)] HI.out.1 (fun j hj => by
            obtain rfl : j = 0 := by omega
            rfl) (bv_one _) (by have := HN.out; omega) (by have := HN.out; unfold maxLen; omega) hsr
          have hb5 : Below wB.heap.size wB w5 := (HI.out.2.alloc hsr (.cells #[.bool (Circ.vals N f y k a)] 4)).grown hgr (by simp; omega) (fun q hq => (hown q hq).1)
          have HR := Lib.hid hr
          have HF := Lib.hid (And.intro (hR5.congr (G := bv fun q => Circ.vals N f y k (o q).toNat) (fun i hi => by
            dsimp only [bv]
            by_cases h : i < t * 1
            · rw [if_pos h]
            · rw [if_neg h, show i = t by omega, ha, Int.toNat_natCast])) hb5)
          have HLt := Lib.hid hlt2
          clear hlt2 hal ha hb0r hsr hown hr hgB hR5 hgr hb5 HI
          go_wp2_with (at_builtin; refine wpList_append_run rfl _ _ 26 rfl v (.slice (some ⟨wr.heap.size, 0, none⟩) 1 1) (.slice (some ⟨g, 0, none⟩) (t + 1) kk) w5 rfl rfl (HR.out _) ?_)
          go_roundw
          case rel => exact ⟨t + 1, _, by have := HLt.out; omega, rfl, by go_num, HF.out.1, HF.out.2⟩
          case measure => simp [intOf]; have := HLt.out; omega
        · obtain rfl : t = m := by omega
          have lt2 : ¬ (t : Int) < (t : Int) := by omega
          clear hlt2 ht
          go_wp2
          go_ret
          exact ⟨v, rfl, HI.out.1.mono (base' := w.heap.size) (fun g h => by have := (HI.out.1.own g h).1; have := HWS.out; omega), by rw [HWS.out]; exact HB.out.2.trans (HI.out.2.mono hsB)⟩
end Go.Proofs.YtoldgiejblekaaaDoorR
