/- CorrSpent's walk. -/
import Derived.Test.YtgmlmngnedhllaaDoorQL
import Derived.Test.YtgmlmngnedhllaaDoorQX2a
namespace Go.Proofs.YtgmlmngnedhllaaDoor
open Go.RowKit

theorem spent_nums (n1 : Nat) (zn : Int) (hm : n1 ≤ 200) : ∃ n : Nat, IntKind.i64.wrap ((n1 : Int) + 3) = (n1 : Int) + 3 ∧ IntKind.u64.wrap ((n1 : Int) + 3) = (n1 : Int) + 3 ∧ IntKind.i64.wrap (n : Int) = (n : Int) ∧ IntKind.u64.wrap (n : Int) = (n : Int) ∧ wrap64 (n : Int) = (n : Int) ∧ ¬ ((n1 : Int) + 3 = 0) ∧ (IntKind.u64.wrap zn).tmod ((n1 : Int) + 3) = (n : Int) ∧ n < n1 + 3 := by
  obtain ⟨n, hn1, hn2, -⟩ := umod zn ((n1 : Int) + 3) (by omega) (by omega)
  exact ⟨n, i64_nat _ (by omega) (by omega), by rw [u64w]; omega, i64_nat _ (by omega) (by omega), by rw [u64w]; omega, by unfold wrap64; omega, by omega, hn2, by omega⟩
theorem add_add (a : Addr) (l i : Nat) : (a.add l).add i = a.add (l + i) := by
  unfold Addr.add
  by_cases h1 : l = 0
  · subst h1; simp
  · by_cases h2 : i = 0
    · subst h2; simp
    · simp [h1, h2]; omega
/-- A thing's cells, from where it begins on. -/
theorem elem_cells {w : World} {ad : Addr} {m : Nat} {u v : Value} (h0 : w.cell? (ad.add (m + 0)) = some u) {j : Nat} (hj : 0 < j) (h1 : w.cell? (ad.add (m + j)) = some v) : w.cell? (ad.add m) = some u ∧ w.cell? ⟨(ad.add m).block, (ad.add m).off + j, none⟩ = some v := by
  refine ⟨h0, ?_⟩
  rw [← add_add] at h1
  unfold Addr.add at h1 ⊢
  have : ¬ j = 0 := by omega
  simpa [this] using h1
/-- One stock that a law draws from. -/
structure Own1 (w : World) (s : Sk) (i j k : Nat) (w' : World) : Prop where
  p : Stk w' (s.adv i j k)
  bl : Below w.heap.size w w'
section
variable {w w' w2 : World} {s : Sk} {i j k : Nat}
theorem Own1.new (d : Own1 w s i j k w') (hb : Below w'.heap.size w' w2) : Own1 w s i j k w2 := ⟨d.p.below hb, d.bl.trans (hb.mono d.bl.size)⟩
theorem Own1.take (d : Own1 w s i j k w') (L : ∀ q, s.own q → w.heap.size ≤ q) {i' j' k' : Nat} (hs : Stk w2 (s.adv i' j' k')) (hc : Chg s.own w' w2) : Own1 w s i' j' k' w2 := ⟨hs, d.bl.trans (hc.below d.bl.size L)⟩
end
set_option maxHeartbeats 8000000 in
set_option maxRecDepth 100000 in
theorem spent_walk (A1 A2 : Option Addr) (n1 n2 p1 p2 : Nat) (y1 y2 : Nat → Nat → Int) (zn : Int) (w : World) (hh : Handle w) (a1 : AtT w A1 n1 y1) (a2 : AtT w A2 n2 y2) (z1 : A1 = none → n1 = 0 ∧ p1 = 0) (z2 : A2 = none → n2 = 0 ∧ p2 = 0) (h1 : n1 ≤ 1000000000000000) (h2 : n2 ≤ 1000000000000000) :
    Calls Tryd.prog 7 #[.slice A1 n1 p1, .slice A2 n2 p2, .int .i64 zn] w fun e w' => e = .returned (.bool true) ∧ Below w.heap.size w w' := by
  have e0 : IntKind.i64.wrap ((n1 : Int) + (n2 : Int)) = (n1 : Int) + (n2 : Int) := i64_nat _ (by omega) (by omega)
  have H0 := Lib.hid (And.intro hh (And.intro a1 (And.intro a2 (And.intro z1 z2))))
  clear hh a1 a2 z1 z2
  by_cases hbig : 200 < n1 + n2
  · have b1 : (200 : Int) < (n1 : Int) + (n2 : Int) := by omega
    clear hbig h1 h2
    go_enter Tryd.func7, Tryd.ntmps7
    go_wp2_with fail
    refine (awake_any _ H0.out.1).mono ?_
    rintro e w1 ⟨rfl, hb1⟩
    have H1 := Lib.hid hb1
    clear hb1
    go_wp2_with fail
    refine (awake_any _ (H0.out.1.below H1.out H0.out.1.pos)).mono ?_
    rintro e w2 ⟨rfl, hb2⟩
    have H2 := Lib.hid (H1.out.trans (hb2.mono H1.out.size))
    clear hb2
    go_wp2
    go_ret
    exact ⟨rfl, H2.out⟩
  · have b1 : ¬ (200 : Int) < (n1 : Int) + (n2 : Int) := by omega
    have b2 : decide ((200 : Int) < (n1 : Int) + (n2 : Int)) = false := decide_eq_false b1
    obtain ⟨n, q1, q2, q3, q4, q5, q6, q7, hn⟩ := spent_nums n1 zn (by omega)
    have HN := Lib.hid (show n < n1 + 3 ∧ n1 + n2 ≤ 200 from ⟨hn, by omega⟩)
    clear hbig h1 h2 hn
    go_enter Tryd.func7, Tryd.ntmps7
    go_wp2_with fail
    refine (awake_any _ H0.out.1).mono ?_
    rintro e w1 ⟨rfl, hb1⟩
    have H1 := Lib.hid hb1
    clear hb1
    go_wp2_with fail
    refine (cload_any w1 A1 A2 none n1 n2 0 p1 p2 0 y1 y2 (fun _ _ => 0) (fun _ => false) (H0.out.2.1.below H1.out) (H0.out.2.2.1.below H1.out) (fun i hi => absurd hi (by omega)) H0.out.2.2.2.1 H0.out.2.2.2.2 (fun _ => ⟨rfl, rfl⟩) (by have := HN.out; omega) (by have := HN.out; omega) (by omega)).mono ?_
    rintro e w2 ⟨s, rfl, hs, ho, hS, hb2⟩
    have HS := Lib.hid (And.intro hs (fun q hq => Nat.le_trans H1.out.size (ho q hq)))
    have H2 := Lib.hid (show Own1 w s 0 0 0 w2 from ⟨hS, H1.out.trans (hb2.mono H1.out.size)⟩)
    clear hs ho hS hb2 H1
    go_wp2
    clear e0 b1 b2 q1 q2 q3 q4 q5 q6 q7
    go_loopw [8] (fun i wr => ∃ k : Nat, k ≤ n ∧ i = .int .i64 k ∧ Hid (Own1 w s (min k n1) 0 0 wr)) (fun i _ => n - (intOf i).toNat)
    case atStart => exact ⟨0, by omega, rfl, by rw [Nat.zero_min]; exact H2.out⟩
    case round =>
      obtain ⟨k, hk, rfl, HI⟩ := hrel
      obtain ⟨wA, hwA⟩ : ∃ x, x = wr := ⟨_, rfl⟩
      subst hwA
      by_cases hlt : k < n
      · have lt1 : (k : Int) < (n : Int) := by omega
        have e1 : IntKind.i64.wrap ((k : Int) + 1) = (k : Int) + 1 := i64_nat _ (by omega) (by have := HN.out; omega)
        by_cases hk1 : k < n1
        · have lt2 : (k : Int) < (n1 : Int) := by omega
          have hmin : min k n1 = k := by omega
          have hmin2 : min (k + 1) n1 = k + 1 := by omega
          rw [hmin] at HI
          go_wp2_with fail
          refine (triple_some wA s k 0 0 HI.out.p (by rw [HS.out.1.1]; exact hk1)).mono ?_
          rintro e w3 ⟨rfl, hS, hc⟩
          have H3 := Lib.hid (show Own1 w s (min (k + 1) n1) 0 0 w3 by rw [hmin2]; exact HI.out.take HS.out.2 hS hc)
          clear hS hc hmin hmin2
          go_wp2
          go_roundw
          case rel => exact ⟨k + 1, by omega, by go_num, H3.out.new ((Below.refl _ w3).alloc (Nat.le_refl _) _)⟩
          case measure => simp [intOf]; omega
        · have lt2 : ¬ (k : Int) < (n1 : Int) := by omega
          have lt3 : decide ((k : Int) < (n1 : Int)) = false := decide_eq_false lt2
          have hmin : min k n1 = n1 := by omega
          have hmin2 : min (k + 1) n1 = n1 := by omega
          rw [hmin] at HI
          go_wp2_with fail
          refine (triple_none wA (s.adv n1 0 0) HI.out.p (by show s.n1 - n1 = 0; rw [HS.out.1.1]; omega) (H0.out.1.below HI.out.bl H0.out.1.pos)).mono ?_
          rintro e w3 ⟨rfl, hb3⟩
          have H3 := Lib.hid (show Own1 w s (min (k + 1) n1) 0 0 w3 by rw [hmin2]; exact HI.out.new hb3)
          obtain ⟨T0, v0, hT⟩ := chain_iface [(⟨#[116, 114, 105, 112, 108, 101, 115]⟩, 0)] 80
          rw [hT]
          clear hb3 hmin hmin2 hT
          go_wp2
          go_roundw
          case rel => exact ⟨k + 1, by omega, by go_num, H3.out.new ((Below.refl _ w3).alloc (Nat.le_refl _) _)⟩
          case measure => simp [intOf]; omega
      · obtain rfl : n = k := by omega
        have lt1 : ¬ (n : Int) < (n : Int) := by omega
        go_wp2_with fail
        refine (ot_none wA (s.adv (min n n1) 0 0) HI.out.p (by show s.n3 - 0 = 0; rw [HS.out.1.2.2.1]) (H0.out.1.below HI.out.bl H0.out.1.pos)).mono ?_
        rintro e w3 ⟨rfl, hb3⟩
        have hba : Below w3.heap.size w3 (w3.alloc (.cells #[.int .u64 0, .int .u64 0, .int .u64 0, .int .u64 0, .bool false] 55)) := (Below.refl _ w3).alloc (Nat.le_refl _) _
        have H3 := Lib.hid ((HI.out.new hb3).new hba)
        obtain ⟨T0, v0, hT⟩ := chain_iface [(⟨#[111, 116, 115]⟩, 0)] 80
        have hfi := fis_chain [(⟨#[111, 116, 115]⟩, 0)] 80 80 (w3.alloc (.cells #[.int .u64 0, .int .u64 0, .int .u64 0, .int .u64 0, .bool false] 55))
        rw [hT] at hfi ⊢
        have HF := Lib.hid hfi
        clear hb3 hba hT hfi HI
        go_wp2_with fail
        refine HF.out.mono ?_
        rintro e w5 ⟨rfl, hb5⟩
        have H5 := Lib.hid (H3.out.new hb5)
        clear hb5 H3 HF
        go_wp2
        go_loopw [70] (fun i wr => ∃ k : Nat, k ≤ n2 ∧ i = .int .i64 k ∧ Hid (Own1 w s (min n n1) k 0 wr)) (fun i _ => n2 - (intOf i).toNat)
        case atStart => exact ⟨0, by omega, rfl, H5.out⟩
        case round =>
          obtain ⟨k, hk, rfl, HI⟩ := hrel
          by_cases hlt : k < n2
          · have lt1 : (k : Int) < (n2 : Int) := by omega
            have lt0 : (0 : Int) ≤ (k : Int) := by omega
            have e1 : IntKind.i64.wrap ((k : Int) + 1) = (k : Int) + 1 := i64_nat _ (by omega) (by have := HN.out; omega)
            go_wp2_with fail
            refine (bits_some wr s (min n n1) k 0 HI.out.p (by rw [HS.out.1.2.1]; exact hlt)).mono ?_
            rintro e w6 ⟨rfl, hS, hc⟩
            rw [HS.out.1.2.2.2.2.1]
            obtain ⟨ad, rfl, hc0, hc1, hc2⟩ := H0.out.2.2.1 k hlt
            have hba : Below w6.heap.size w6 (w6.alloc (.cells #[.int .u64 (y2 k 0), .int .u64 (y2 k 1), .int .u64 (y2 k 2)] 48)) := (Below.refl _ w6).alloc (Nat.le_refl _) _
            have H7 := Lib.hid ((HI.out.take HS.out.2 hS hc).new hba)
            have hbl := H7.out.bl
            have g0 := (hbl.cell (World.block_lt_of_cell? _ _ hc0)).trans hc0
            have g1 := (hbl.cell (World.block_lt_of_cell? _ _ hc1)).trans hc1
            have g2 := (hbl.cell (World.block_lt_of_cell? _ _ hc2)).trans hc2
            have hB : Blk (w6.alloc (.cells #[.int .u64 (y2 k 0), .int .u64 (y2 k 1), .int .u64 (y2 k 2)] 48)) w6.heap.size 48 #[.int .u64 (y2 k 0), .int .u64 (y2 k 1), .int .u64 (y2 k 2)] := Blk.new w6 _ _
            have f0 := hB.cell 0 rfl
            have f1 := hB.cell 1 rfl
            have f2 := hB.cell 2 rfl
            obtain ⟨ae, hae⟩ : ∃ ae, ad.add (k * 3) = ae := ⟨_, rfl⟩
            have k1 := elem_cells g0 (by omega) g1
            have k2 := elem_cells g0 (by omega) g2
            rw [hae] at k1 k2
            have k0 := k1.1
            have k3 := k1.2
            have k4 := k2.2
            clear hS hc hba hbl hc0 hc1 hc2 hB HI g0 g1 g2 k1 k2
            go_wp2
            generalize (w6.alloc (.cells #[.int .u64 (y2 k 0), .int .u64 (y2 k 1), .int .u64 (y2 k 2)] 48)) = w7 at *
            go_quiet (fail)
            go_wp2
            go_roundw
            case rel => exact ⟨k + 1, by omega, by go_num, H7.out.new (Below.drewN _ _)⟩
            case measure => simp [intOf]; omega
          · obtain rfl : n2 = k := by omega
            have lt1 : ¬ (n2 : Int) < (n2 : Int) := by omega
            go_wp2_with fail
            refine (cleft_any wr (s.adv (min n n1) n2 0) HI.out.p).mono ?_
            rintro e y2 ⟨rfl, q0, rfl⟩
            have e1 : (((s.adv (min n n1) n2 0).n1 : Nat) : Int) = ((n1 - min n n1 : Nat) : Int) := by show ((s.n1 - min n n1 : Nat) : Int) = _; rw [HS.out.1.1]
            have e2 : (((s.adv (min n n1) n2 0).n2 : Nat) : Int) = 0 := by show ((s.n2 - n2 : Nat) : Int) = _; rw [HS.out.1.2.1]; omega
            have e3 : (((s.adv (min n n1) n2 0).n3 : Nat) : Int) = 0 := by show ((s.n3 - 0 : Nat) : Int) = _; rw [HS.out.1.2.2.1]; rfl
            rw [e1, e2, e3]
            have HJ := Lib.hid (HI.out.new (Below.drewN wr q0))
            have hwr : IntKind.i64.wrap ((n1 : Int) - (n : Int)) = (n1 : Int) - (n : Int) := by have := HN.out; rw [IntKind.wrap_i64]; omega
            obtain ⟨x, hx⟩ : ∃ x : Nat, n1 - min n n1 = x := ⟨_, rfl⟩
            rw [hx]
            have hx' : (x : Int) = if (0 : Int) < (n1 : Int) - (n : Int) then (n1 : Int) - (n : Int) else 0 := by split <;> omega
            clear e1 e2 e3 hx HI
            go_wp2
            all_goals
              go_ret
              exact ⟨rfl, HJ.out.bl⟩
end Go.Proofs.YtgmlmngnedhllaaDoor
