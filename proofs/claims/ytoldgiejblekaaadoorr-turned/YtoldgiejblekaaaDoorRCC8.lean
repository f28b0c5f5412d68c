/- Contracts of the document's Good and Eval. -/
import Derived.Test.YtoldgiejblekaaaDoorRCC7
import Derived.StillTailTactics
namespace Go.Proofs.YtoldgiejblekaaaDoorR
open Go.RowKit

/-- What the document's Good answers. -/
def GdAns (good : Prop) (w : World) (e : Ending) (w' : World) : Prop := (good ∧ e = .returned (.bool true) ∨ ¬ good ∧ e = .returned (.bool false)) ∧ Below w.heap.size w w'
set_option maxHeartbeats 8000000 in
set_option maxRecDepth 100000 in
theorem rgood_any (w : World) (N : Int) (Ag : Option Addr) (n cg : Nat) (y : Nat → Nat → Int) (Ao : Option Addr) (m co : Nat) (o : Nat → Int) (hg : AtV w Ag (n * 3) (gv y)) (ho : AtV w Ao m (iv o)) (hn : n ≤ 1000000) (hm : m ≤ 1000000) :
    Calls Tryd.prog 9 #[.int .i64 N, .slice Ag n cg, .slice Ao m co] w (GdAns (Circ.Good N n y m o) w) := by
  have H0 := Lib.hid (And.intro hg ho)
  have HMx := Lib.hid (And.intro hn hm)
  clear hg ho hn hm
  by_cases h1 : N < 0
  · have HN := Lib.hid (show ¬ Circ.Good N n y m o from fun h => by have := h.n0; omega)
    go_enter Tryd.func9, Tryd.ntmps9
    go_wp2
    go_ret
    exact ⟨.inr ⟨HN.out, rfl⟩, Below.refl _ _⟩
  have b1 : decide (N < 0) = false := decide_eq_false h1
  by_cases h2 : 4096 < N
  · have HN := Lib.hid (show ¬ Circ.Good N n y m o from fun h => by have := h.n1; omega)
    go_enter Tryd.func9, Tryd.ntmps9
    go_wp2
    go_ret
    exact ⟨.inr ⟨HN.out, rfl⟩, Below.refl _ _⟩
  have b2 : decide (4096 < N) = false := decide_eq_false h2
  by_cases h3 : 4096 < n
  · have HN := Lib.hid (show ¬ Circ.Good N n y m o from fun h => by have := h.g; omega)
    have l3 : (4096 : Int) < (n : Int) := by omega
    clear h3
    go_enter Tryd.func9, Tryd.ntmps9
    go_wp2
    go_ret
    exact ⟨.inr ⟨HN.out, rfl⟩, Below.refl _ _⟩
  have b3 : ¬ (4096 : Int) < (n : Int) := by omega
  have b3d : decide ((4096 : Int) < (n : Int)) = false := decide_eq_false b3
  by_cases h4 : 64 < m
  · have HN := Lib.hid (show ¬ Circ.Good N n y m o from fun h => by have := h.u; omega)
    have l4 : (64 : Int) < (m : Int) := by omega
    clear h4 h3
    go_enter Tryd.func9, Tryd.ntmps9
    go_wp2
    go_ret
    exact ⟨.inr ⟨HN.out, rfl⟩, Below.refl _ _⟩
  have b4 : ¬ (64 : Int) < (m : Int) := by omega
  have b4d : decide ((64 : Int) < (m : Int)) = false := decide_eq_false b4
  have HL := Lib.hid (show 0 ≤ N ∧ N ≤ 4096 ∧ n ≤ 4096 ∧ m ≤ 64 from ⟨by omega, by omega, by omega, by omega⟩)
  clear h3 h4 h1 h2
  go_enter Tryd.func9, Tryd.ntmps9
  go_wp2
  clear b1 b2 b3 b3d b4 b4d
  go_loopw [7] (fun i wr => ∃ k : Nat, k ≤ n ∧ i = .int .i64 k ∧ Hid (Below w.heap.size w wr ∧ ∀ j, j < k → Circ.FitsP (y j 0) (y j 1) (y j 2) (N + j))) (fun i _ => n - (intOf i).toNat)
  case atStart => exact ⟨0, Nat.zero_le _, rfl, Below.refl _ _, fun j hj => absurd hj (by omega)⟩
  case round =>
    obtain ⟨k, hk, rfl, HI⟩ := hrel
    have hlw := HI.out.1.size
    by_cases hlt2 : k < n
    · obtain ⟨ad, rfl, ae, hae, g0, g1, g2, hbk⟩ := (H0.out.1.below HI.out.1).gate k hlt2
      have lt1 : (k : Int) < (n : Int) := by omega
      have lt0 : (0 : Int) ≤ (k : Int) := by omega
      have e1 : IntKind.i64.wrap ((k : Int) + 1) = (k : Int) + 1 := i64_nat _ (by omega) (by have := HL.out; omega)
      have e2 : IntKind.i64.wrap (N + (k : Int)) = N + (k : Int) := i64_nat _ (by have := HL.out; omega) (by have := HL.out; omega)
      have HGn := Blk.new wr 54 #[.int .i64 (y k 0), .int .i64 (y k 1), .int .i64 (y k 2)]
      have q0 := HGn.cell 0 (v := .int .i64 (y k 0)) rfl
      have q1 := HGn.cell 1 (v := .int .i64 (y k 1)) rfl
      have q2 := HGn.cell 2 (v := .int .i64 (y k 2)) rfl
      have HB2 := Lib.hid (HI.out.1.trans (((Below.refl wr.heap.size wr).alloc (Nat.le_refl _) (.cells #[.int .i64 (y k 0), .int .i64 (y k 1), .int .i64 (y k 2)] 54)).mono hlw))
      have HLt := Lib.hid hlt2
      have HFQ := Lib.hid (show (Circ.Good N n y m o → Circ.FitsP (y k 0) (y k 1) (y k 2) (N + k)) from fun h => h.fit k hlt2)
      clear HGn hlt2 hbk
      obtain ⟨u0, hu0⟩ : ∃ x, y k 0 = x := ⟨_, rfl⟩
      obtain ⟨u1, hu1⟩ : ∃ x, y k 1 = x := ⟨_, rfl⟩
      obtain ⟨u2, hu2⟩ : ∃ x, y k 2 = x := ⟨_, rfl⟩
      rw [hu0] at g0 q0 q1 q2 HB2 HFQ
      rw [hu1] at g1 q0 q1 q2 HB2 HFQ
      rw [hu2] at g2 q0 q1 q2 HB2 HFQ
      have HU := Lib.hid (And.intro hu0 (And.intro hu1 hu2))
      clear hu0 hu1 hu2
      by_cases t1 : u0 < 1
      · have HN := Lib.hid (show ¬ Circ.Good N n y m o from fun h => by have := HFQ.out h; unfold Circ.FitsP at this; omega)
        go_wp2
        go_ret
        exact ⟨.inr ⟨HN.out, rfl⟩, HB2.out⟩
      have d1 : decide (u0 < 1) = false := decide_eq_false t1
      by_cases t2 : 3 < u0
      · have HN := Lib.hid (show ¬ Circ.Good N n y m o from fun h => by have := HFQ.out h; unfold Circ.FitsP at this; omega)
        go_wp2
        go_ret
        exact ⟨.inr ⟨HN.out, rfl⟩, HB2.out⟩
      have d2 : decide (3 < u0) = false := decide_eq_false t2
      by_cases t3 : u1 < 0
      · have HN := Lib.hid (show ¬ Circ.Good N n y m o from fun h => by have := HFQ.out h; unfold Circ.FitsP at this; omega)
        go_wp2
        go_ret
        exact ⟨.inr ⟨HN.out, rfl⟩, HB2.out⟩
      have d3 : decide (u1 < 0) = false := decide_eq_false t3
      by_cases t4 : N + (k : Int) ≤ u1
      · have HN := Lib.hid (show ¬ Circ.Good N n y m o from fun h => by have := HFQ.out h; unfold Circ.FitsP at this; omega)
        go_wp2
        go_ret
        exact ⟨.inr ⟨HN.out, rfl⟩, HB2.out⟩
      have d4 : decide (N + (k : Int) ≤ u1) = false := decide_eq_false t4
      by_cases t5 : u2 < 0
      · have HN := Lib.hid (show ¬ Circ.Good N n y m o from fun h => by have := HFQ.out h; unfold Circ.FitsP at this; omega)
        go_wp2
        go_ret
        exact ⟨.inr ⟨HN.out, rfl⟩, HB2.out⟩
      have d5 : decide (u2 < 0) = false := decide_eq_false t5
      by_cases t6 : u0 < 3
      · have n3 : (u0 == 3) = false := by simp; omega
        by_cases t7 : N + (k : Int) ≤ u2
        · have HN := Lib.hid (show ¬ Circ.Good N n y m o from fun h => by have := HFQ.out h; unfold Circ.FitsP at this; omega)
          go_wp2
          go_ret
          exact ⟨.inr ⟨HN.out, rfl⟩, HB2.out⟩
        · have d7 : decide (N + (k : Int) ≤ u2) = false := decide_eq_false t7
          have HFt := Lib.hid (show Circ.FitsP u0 u1 u2 (N + (k : Int)) from by unfold Circ.FitsP; omega)
          go_wp2
          go_roundw
          case rel => exact ⟨k + 1, by have := HLt.out; omega, by go_num, HB2.out, fun j hj => by
            rcases Nat.lt_or_ge j k with h | h
            · exact HI.out.2 j h
            · obtain rfl : j = k := by omega
              rw [HU.out.1, HU.out.2.1, HU.out.2.2]
              exact HFt.out⟩
          case measure => simp [intOf]; have := HLt.out; omega
      · have d6 : decide (u0 < 3) = false := decide_eq_false t6
        have n3 : (u0 == 3) = true := by simp; omega
        by_cases t7 : u2 = 0
        · have n7 : (u2 != 0) = false := by simp [t7]
          have n8 : (u2 == 0) = true := by simp [t7]
          have HFt := Lib.hid (show Circ.FitsP u0 u1 u2 (N + (k : Int)) from by unfold Circ.FitsP; omega)
          clear t7
          go_wp2
          go_roundw
          case rel => exact ⟨k + 1, by have := HLt.out; omega, by go_num, HB2.out, fun j hj => by
            rcases Nat.lt_or_ge j k with h | h
            · exact HI.out.2 j h
            · obtain rfl : j = k := by omega
              rw [HU.out.1, HU.out.2.1, HU.out.2.2]
              exact HFt.out⟩
          case measure => simp [intOf]; have := HLt.out; omega
        · have n7 : (u2 != 0) = true := by simp [t7]
          have n8 : (u2 == 0) = false := by simp [t7]
          have HN := Lib.hid (show ¬ Circ.Good N n y m o from fun h => by have := HFQ.out h; unfold Circ.FitsP at this; omega)
          go_wp2
          go_ret
          exact ⟨.inr ⟨HN.out, rfl⟩, HB2.out⟩
    · obtain rfl : k = n := by omega
      have lt1 : ¬ (k : Int) < (k : Int) := by omega
      have e2 : IntKind.i64.wrap (N + (k : Int)) = N + (k : Int) := i64_nat _ (by have := HL.out; omega) (by have := HL.out; omega)
      obtain ⟨wB, hwB⟩ : ∃ x, x = wr := ⟨_, rfl⟩
      subst hwB
      have HFs := Lib.hid HI.out.2
      have HBB := Lib.hid HI.out.1
      clear HI hlt2 hk
      go_wp2
      go_loopw [9] (fun i wr => ∃ t : Nat, t ≤ m ∧ i = .int .i64 t ∧ Hid (wr = wB ∧ ∀ j, j < t → 0 ≤ o j ∧ o j < N + k)) (fun i _ => m - (intOf i).toNat)
      case atStart => exact ⟨0, Nat.zero_le _, rfl, rfl, fun j hj => absurd hj (by omega)⟩
      case round =>
        obtain ⟨t, ht, rfl, HI⟩ := hrel
        obtain ⟨rfl, hrs⟩ := HI.out
        have HR := Lib.hid hrs
        clear HI hrs
        by_cases hlt2 : t < m
        · obtain ⟨ad, rfl, co1⟩ := (H0.out.2.below HBB.out) t hlt2
          unfold iv at co1
          have lt2 : (t : Int) < (m : Int) := by omega
          have lt0 : (0 : Int) ≤ (t : Int) := by omega
          have e1 : IntKind.i64.wrap ((t : Int) + 1) = (t : Int) + 1 := i64_nat _ (by omega) (by have := HL.out; omega)
          have HLt := Lib.hid hlt2
          have HFQ := Lib.hid (show (Circ.Good N k y m o → 0 ≤ o t ∧ o t < N + k) from fun h => h.out t hlt2)
          clear hlt2
          obtain ⟨u, hu⟩ : ∃ x, o t = x := ⟨_, rfl⟩
          rw [hu] at co1 HFQ
          have HU := Lib.hid hu
          clear hu
          by_cases t1 : u < 0
          · have HN := Lib.hid (show ¬ Circ.Good N k y m o from fun h => by have := HFQ.out h; omega)
            go_wp2
            go_ret
            exact ⟨.inr ⟨HN.out, rfl⟩, HBB.out⟩
          have d1 : decide (u < 0) = false := decide_eq_false t1
          by_cases t2 : N + (k : Int) ≤ u
          · have HN := Lib.hid (show ¬ Circ.Good N k y m o from fun h => by have := HFQ.out h; omega)
            go_wp2
            go_ret
            exact ⟨.inr ⟨HN.out, rfl⟩, HBB.out⟩
          have d2 : decide (N + (k : Int) ≤ u) = false := decide_eq_false t2
          have HFt := Lib.hid (show 0 ≤ u ∧ u < N + (k : Int) by omega)
          go_wp2
          go_roundw
          case rel => exact ⟨t + 1, by have := HLt.out; omega, by go_num, trivial, fun j hj => by
            rcases Nat.lt_or_ge j t with h | h
            · exact HR.out j h
            · obtain rfl : j = t := by omega
              rw [HU.out]
              exact HFt.out⟩
          case measure => simp [intOf]; have := HLt.out; omega
        · obtain rfl : t = m := by omega
          have lt2 : ¬ (t : Int) < (t : Int) := by omega
          have HGd := Lib.hid (show Circ.Good N k y t o from ⟨HL.out.1, HL.out.2.1, HL.out.2.2.1, HL.out.2.2.2, HFs.out, HR.out⟩)
          clear hlt2 ht
          go_wp2
          go_ret
          exact ⟨.inl ⟨HGd.out, rfl⟩, HBB.out⟩
/-- A list of flags grows by what the next gate makes. -/
theorem grow_bit (w1 w4 : World) (ws N k : Nat) (v : Value) (f : Nat → Bool) (y : Nat → Nat → Int) (a b : Nat) (bit : Bool) (ha : y k 1 = (a : Int)) (hb : y k 2 = (b : Int)) (hbit : Circ.gate (y k 0) (Circ.vals N f y k a) (Circ.vals N f y k b) = bit) (hR : Row w4 ws 4 1 v (N + k) (bv (Circ.vals N f y k))) (hB : Below ws w1 w4) (hs1 : ws ≤ w1.heap.size) (hN : N + k ≤ 1000000) :
    ∃ g kk w5, (∀ ty, (Builtin.append_ #[26, 26] ty #[v, .slice (some ⟨w4.heap.size, 0, none⟩) 1 1]).run Tryd.prog (w4.alloc (.cells #[.bool bit] 4)) = .ok (.slice (some ⟨g, 0, none⟩) (N + k + 1) kk) w5) ∧ Row w5 ws 4 1 (.slice (some ⟨g, 0, none⟩) (N + k + 1) kk) (N + k + 1) (bv (Circ.vals N f y (k + 1))) ∧ Below ws w1 w5 := by
  have hs4 := hB.size
  obtain ⟨g, kk, w5, hr, hgB, hR5, hgr, _⟩ := append_one eltB w4 ws v (N + k) (bv (Circ.vals N f y k)) (bv fun _ => bit) #[.bool bit] hR (fun j hj => by
    obtain rfl : j = 0 := by omega
    rfl) (bv_one _) (by omega) (by unfold maxLen; omega) (by omega)
  have hown := hR.own
  refine ⟨g, kk, w5, hr, hR5.congr (fun i hi => ?_), (hB.alloc (by omega) (.cells #[.bool bit] 4)).grown hgr (by simp; omega) (fun q hq => (hown q hq).1)⟩
  have HV : Circ.vals N f y (k + 1) = fun i => if i = N + k then bit else Circ.vals N f y k i := by
    show (fun i => if i = N + k then Circ.gate (y k 0) (Circ.vals N f y k (y k 1).toNat) (Circ.vals N f y k (y k 2).toNat) else Circ.vals N f y k i) = _
    rw [ha, hb, Int.toNat_natCast, Int.toNat_natCast, hbit]
  unfold bv
  rw [HV]
  by_cases h : i = N + k
  · subst h; rw [if_neg (by omega)]; simp
  · rw [if_pos (by omega)]; simp [h]
end Go.Proofs.YtoldgiejblekaaaDoorR
