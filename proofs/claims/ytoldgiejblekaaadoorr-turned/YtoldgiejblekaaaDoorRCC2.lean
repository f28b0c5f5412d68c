/- Contract of circ's Check: nil just for a circuit, else an error of the number 90. -/
import Derived.Test.YtoldgiejblekaaaDoorRCC1
namespace Go.Proofs.YtoldgiejblekaaaDoorR
open Go.RowKit

abbrev circV (N : Int) (Ag : Option Addr) (n cg : Nat) (Ao : Option Addr) (m co : Nat) : Value := .agg #[.int .i64 N, .slice Ag n cg, .slice Ao m co]
/-- A circuit's cells lie in a block of their own. -/
abbrev circB (w : World) (b : Nat) (N : Int) (Ag : Option Addr) (n cg : Nat) (Ao : Option Addr) (m co : Nat) : Prop := Blk w b 25 #[.int .i64 N, .slice Ag n cg, .slice Ao m co]
/-- What Check answers. -/
def ChkAns (good : Prop) (w : World) (e : Ending) (w' : World) : Prop := (good ∧ e = .returned .nilIface ∨ ¬ good ∧ ∃ p a, e = .returned (chain [(p, a)] 90)) ∧ Below w.heap.size w w'
set_option maxHeartbeats 4000000 in
set_option maxRecDepth 100000 in
theorem check_any (w : World) (N : Int) (Ag : Option Addr) (n cg : Nat) (y : Nat → Nat → Int) (Ao : Option Addr) (m co : Nat) (o : Nat → Int) (hh : Handle w) (hg : AtV w Ag (n * 3) (gv y)) (ho : AtV w Ao m (iv o)) (hn : n ≤ maxLen) (hm : m ≤ maxLen) :
    Calls Tryd.prog 11 #[circV N Ag n cg Ao m co] w (ChkAns (Circ.Good N n y m o) w) := by
  have hb0 := (Below.refl w.heap.size w).alloc (Nat.le_refl _) (.cells #[.int .i64 N, .slice Ag n cg, .slice Ao m co] 25)
  have HX := Blk.new w 25 #[.int .i64 N, .slice Ag n cg, .slice Ao m co]
  have hlt := HX.lt
  have c0 := HX.cell 0 rfl
  have c1 := HX.cell 1 rfl
  have c2 := HX.cell 2 rfl
  have hn63 : (n : Int) ≤ 9223372036854775807 := by unfold maxLen at hn; omega
  have hm63 : (m : Int) ≤ 9223372036854775807 := by unfold maxLen at hm; omega
  have H0 := Lib.hid (And.intro (hh.below hb0 hh.pos) (And.intro (hg.below hb0) (And.intro (ho.below hb0) (And.intro hb0 HX))))
  clear hh hg ho hb0 HX hn hm
  by_cases h1 : N < 0
  · have HN := Lib.hid (show ¬ Circ.Good N n y m o from fun h => by have := h.n0; omega)
    go_enter Tryd.func11, Tryd.ntmps11
    clear hn63 hm63
    have HW := Lib.hid (wrap_bare 90 N ⟨#[105, 110, 112, 117, 116, 115]⟩ (w.alloc (.cells #[.int .i64 N, .slice Ag n cg, .slice Ao m co] 25)) H0.out.1)
    go_wp2_with fail
    refine HW.out.mono ?_
    rintro e w1 ⟨rfl, hb1⟩
    have HB := Lib.hid (H0.out.2.2.2.1.trans (hb1.mono H0.out.2.2.2.1.size))
    clear hb1
    obtain ⟨T, v, hT⟩ := chain_iface [(⟨#[105, 110, 112, 117, 116, 115]⟩, N)] 90
    have HT := Lib.hid hT
    rw [hT]
    clear hT
    go_wp2
    go_ret
    exact ⟨.inr ⟨HN.out, _, _, by rw [HT.out]; rfl⟩, HB.out⟩
  have b1 : decide (N < 0) = false := decide_eq_false h1
  by_cases h2 : 4096 < N
  · have HN := Lib.hid (show ¬ Circ.Good N n y m o from fun h => by have := h.n1; omega)
    go_enter Tryd.func11, Tryd.ntmps11
    clear hn63 hm63
    have HW := Lib.hid (wrap_bare 90 N ⟨#[105, 110, 112, 117, 116, 115]⟩ (w.alloc (.cells #[.int .i64 N, .slice Ag n cg, .slice Ao m co] 25)) H0.out.1)
    go_wp2_with fail
    refine HW.out.mono ?_
    rintro e w1 ⟨rfl, hb1⟩
    have HB := Lib.hid (H0.out.2.2.2.1.trans (hb1.mono H0.out.2.2.2.1.size))
    clear hb1
    obtain ⟨T, v, hT⟩ := chain_iface [(⟨#[105, 110, 112, 117, 116, 115]⟩, N)] 90
    have HT := Lib.hid hT
    rw [hT]
    clear hT
    go_wp2
    go_ret
    exact ⟨.inr ⟨HN.out, _, _, by rw [HT.out]; rfl⟩, HB.out⟩
  have b2 : decide (4096 < N) = false := decide_eq_false h2
  by_cases h3 : 4096 < n
  · have HN := Lib.hid (show ¬ Circ.Good N n y m o from fun h => by have := h.g; omega)
    have l3 : (4096 : Int) < (n : Int) := by omega
    clear h3
    go_enter Tryd.func11, Tryd.ntmps11
    clear hn63 hm63
    have HW := Lib.hid (wrap_bare 90 (n : Int) ⟨#[103, 97, 116, 101, 115]⟩ (w.alloc (.cells #[.int .i64 N, .slice Ag n cg, .slice Ao m co] 25)) H0.out.1)
    go_wp2_with fail
    refine HW.out.mono ?_
    rintro e w1 ⟨rfl, hb1⟩
    have HB := Lib.hid (H0.out.2.2.2.1.trans (hb1.mono H0.out.2.2.2.1.size))
    clear hb1
    obtain ⟨T, v, hT⟩ := chain_iface [(⟨#[103, 97, 116, 101, 115]⟩, (n : Int))] 90
    have HT := Lib.hid hT
    rw [hT]
    clear hT
    go_wp2
    go_ret
    exact ⟨.inr ⟨HN.out, _, _, by rw [HT.out]; rfl⟩, HB.out⟩
  have b3 : ¬ (4096 : Int) < (n : Int) := by omega
  by_cases h4 : 64 < m
  · have HN := Lib.hid (show ¬ Circ.Good N n y m o from fun h => by have := h.u; omega)
    have l4 : (64 : Int) < (m : Int) := by omega
    clear h3 h4
    go_enter Tryd.func11, Tryd.ntmps11
    clear hn63 hm63
    have HW := Lib.hid (wrap_bare 90 (m : Int) ⟨#[111, 117, 116, 115]⟩ (w.alloc (.cells #[.int .i64 N, .slice Ag n cg, .slice Ao m co] 25)) H0.out.1)
    go_wp2_with fail
    refine HW.out.mono ?_
    rintro e w1 ⟨rfl, hb1⟩
    have HB := Lib.hid (H0.out.2.2.2.1.trans (hb1.mono H0.out.2.2.2.1.size))
    clear hb1
    obtain ⟨T, v, hT⟩ := chain_iface [(⟨#[111, 117, 116, 115]⟩, (m : Int))] 90
    have HT := Lib.hid hT
    rw [hT]
    clear hT
    go_wp2
    go_ret
    exact ⟨.inr ⟨HN.out, _, _, by rw [HT.out]; rfl⟩, HB.out⟩
  have b4 : ¬ (64 : Int) < (m : Int) := by omega
  have HL := Lib.hid (show 0 ≤ N ∧ N ≤ 4096 ∧ n ≤ 4096 ∧ m ≤ 64 from ⟨by omega, by omega, by omega, by omega⟩)
  clear h3 h4 hn63 hm63
  go_enter Tryd.func11, Tryd.ntmps11
  go_wp2
  clear c0 c1 c2
  generalize hw0 : (w.alloc (.cells #[.int .i64 N, .slice Ag n cg, .slice Ao m co] 25)) = w0 at *
  go_loopw [41] (fun i wr => ∃ k : Nat, k ≤ n ∧ i = .int .i64 k ∧ Hid (Below w0.heap.size w0 wr ∧ ∀ j, j < k → Circ.FitsP (y j 0) (y j 1) (y j 2) (N + j))) (fun i _ => n - (intOf i).toNat)
  case atStart => exact ⟨0, Nat.zero_le _, rfl, Below.refl _ _, fun j hj => absurd hj (by omega)⟩
  case round =>
    obtain ⟨k, hk, rfl, HI⟩ := hrel
    have hlw := HI.out.1.size
    by_cases hlt2 : k < n
    · obtain ⟨ad, rfl, ae, hae, g0, g1, g2, hbk⟩ := (H0.out.2.1.below HI.out.1).gate k hlt2
      have lt1 : (k : Int) < (n : Int) := by omega
      have lt0 : (0 : Int) ≤ (k : Int) := by omega
      have e1 : IntKind.i64.wrap ((k : Int) + 1) = (k : Int) + 1 := i64_nat _ (by omega) (by have := HL.out; omega)
      have e2 : IntKind.i64.wrap (N + (k : Int)) = N + (k : Int) := i64_nat _ (by have := HL.out; omega) (by have := HL.out; omega)
      have HXr := H0.out.2.2.2.2.below HI.out.1 hlt
      have HX2 := HXr.alloc (.cells #[.int .i64 (y k 0), .int .i64 (y k 1), .int .i64 (y k 2)] 41)
      have HGn := Blk.new wr 41 #[.int .i64 (y k 0), .int .i64 (y k 1), .int .i64 (y k 2)]
      have d0 := HX2.cell 0 rfl
      have q0 := HGn.cell 0 rfl
      have q1 := HGn.cell 1 rfl
      have q2 := HGn.cell 2 rfl
      have hb2 := HI.out.1.trans (((Below.refl wr.heap.size wr).alloc (Nat.le_refl _) (.cells #[.int .i64 (y k 0), .int .i64 (y k 1), .int .i64 (y k 2)] 41)).mono hlw)
      have HB2 := Lib.hid hb2
      have HF := Lib.hid (fits_any (y k 0) (y k 1) (y k 2) (N + (k : Int)) (wr.alloc (.cells #[.int .i64 (y k 0), .int .i64 (y k 1), .int .i64 (y k 2)] 41)))
      have HLt := Lib.hid hlt2
      clear HXr HX2 HGn hb2 hlt2 hbk
      go_wp2_with fail
      refine HF.out.mono ?_
      rintro e w1 ⟨rfl, hb3⟩
      have hb4 := HB2.out.trans (hb3.mono HB2.out.size)
      have HB4 := Lib.hid hb4
      clear hb3 hb4
      by_cases hfit : Circ.FitsP (y k 0) (y k 1) (y k 2) (N + (k : Int))
      · rw [decide_eq_true hfit]
        have HFt := Lib.hid hfit
        clear hfit
        go_wp2
        go_roundw
        case rel => exact ⟨k + 1, by have := HLt.out; omega, by go_num, HB4.out, fun j hj => by
          rcases Nat.lt_or_ge j k with h | h
          · exact HI.out.2 j h
          · obtain rfl : j = k := by omega
            exact HFt.out⟩
        case measure => simp [intOf]; have := HLt.out; omega
      · rw [decide_eq_false hfit]
        have HN := Lib.hid (show ¬ Circ.Good N n y m o from fun h => hfit (h.fit k HLt.out))
        clear hfit
        have HW := Lib.hid (wrap_bare 90 (k : Int) ⟨#[103, 97, 116, 101]⟩ w1 (H0.out.1.below HB4.out H0.out.1.pos))
        go_wp2_with fail
        refine HW.out.mono ?_
        rintro e w1 ⟨rfl, hb1⟩
        have HB := Lib.hid ((H0.out.2.2.2.1.trans (HB4.out.mono H0.out.2.2.2.1.size)).trans (hb1.mono (H0.out.2.2.2.1.trans (HB4.out.mono H0.out.2.2.2.1.size)).size))
        clear hb1
        obtain ⟨T, v, hT⟩ := chain_iface [(⟨#[103, 97, 116, 101]⟩, (k : Int))] 90
        have HT := Lib.hid hT
        rw [hT]
        clear hT
        go_wp2
        go_ret
        exact ⟨.inr ⟨HN.out, _, _, by rw [HT.out]; rfl⟩, HB.out⟩
    · obtain rfl : k = n := by omega
      have lt1 : ¬ (k : Int) < (k : Int) := by omega
      have e2 : IntKind.i64.wrap (N + (k : Int)) = N + (k : Int) := i64_nat _ (by have := HL.out; omega) (by have := HL.out; omega)
      obtain ⟨wB, hwB⟩ : ∃ x, x = wr := ⟨_, rfl⟩
      subst hwB
      have HXr := H0.out.2.2.2.2.below HI.out.1 hlt
      have d0 := HXr.cell 0 rfl
      have d1 := HXr.cell 1 rfl
      have d2 := HXr.cell 2 rfl
      have HFs := Lib.hid HI.out.2
      have HBB := Lib.hid HI.out.1
      clear HXr HI hlt2 hk
      go_wp2
      go_loopw [66] (fun i wr => ∃ t : Nat, t ≤ m ∧ i = .int .i64 t ∧ Hid (wr = wB ∧ ∀ j, j < t → 0 ≤ o j ∧ o j < N + k)) (fun i _ => m - (intOf i).toNat)
      case atStart => exact ⟨0, Nat.zero_le _, rfl, rfl, fun j hj => absurd hj (by omega)⟩
      case round =>
        obtain ⟨t, ht, rfl, HI⟩ := hrel
        obtain ⟨rfl, hrs⟩ := HI.out
        have HR := Lib.hid hrs
        clear HI hrs
        by_cases hlt2 : t < m
        · obtain ⟨ad, rfl, co1⟩ := (H0.out.2.2.1.below HBB.out) t hlt2
          unfold iv at co1
          have lt2 : (t : Int) < (m : Int) := by omega
          have lt0 : (0 : Int) ≤ (t : Int) := by omega
          have e1 : IntKind.i64.wrap ((t : Int) + 1) = (t : Int) + 1 := i64_nat _ (by omega) (by have := HL.out; omega)
          have HF := Lib.hid (ahead_any (o t) (N + (k : Int)) wr)
          have HLt := Lib.hid hlt2
          clear hlt2
          go_wp2_with fail
          refine HF.out.mono ?_
          rintro e w1 ⟨rfl, rfl⟩
          by_cases hfit : 0 ≤ o t ∧ o t < N + (k : Int)
          · rw [decide_eq_true hfit]
            have HFt := Lib.hid hfit
            clear hfit
            go_wp2
            go_roundw
            case rel => exact ⟨t + 1, by have := HLt.out; omega, by go_num, trivial, fun j hj => by
              rcases Nat.lt_or_ge j t with h | h
              · exact HR.out j h
              · obtain rfl : j = t := by omega
                exact HFt.out⟩
            case measure => simp [intOf]; have := HLt.out; omega
          · rw [decide_eq_false hfit]
            have HN := Lib.hid (show ¬ Circ.Good N k y m o from fun h => hfit (h.out t HLt.out))
            clear hfit
            have HW := Lib.hid (wrap_bare 90 (t : Int) ⟨#[111, 117, 116]⟩ wr (H0.out.1.below HBB.out H0.out.1.pos))
            go_wp2_with fail
            refine HW.out.mono ?_
            rintro e w1 ⟨rfl, hb1⟩
            have HB := Lib.hid ((H0.out.2.2.2.1.trans (HBB.out.mono H0.out.2.2.2.1.size)).trans (hb1.mono (H0.out.2.2.2.1.trans (HBB.out.mono H0.out.2.2.2.1.size)).size))
            clear hb1
            obtain ⟨T, v, hT⟩ := chain_iface [(⟨#[111, 117, 116]⟩, (t : Int))] 90
            have HT := Lib.hid hT
            rw [hT]
            clear hT
            go_wp2
            go_ret
            exact ⟨.inr ⟨HN.out, _, _, by rw [HT.out]; rfl⟩, HB.out⟩
        · obtain rfl : t = m := by omega
          have lt2 : ¬ (t : Int) < (t : Int) := by omega
          have HGd := Lib.hid (show Circ.Good N k y t o from ⟨HL.out.1, HL.out.2.1, HL.out.2.2.1, HL.out.2.2.2, HFs.out, HR.out⟩)
          clear hlt2 ht
          go_wp2
          go_ret
          exact ⟨.inl ⟨HGd.out, rfl⟩, H0.out.2.2.2.1.trans (HBB.out.mono H0.out.2.2.2.1.size)⟩
end Go.Proofs.YtoldgiejblekaaaDoorR
