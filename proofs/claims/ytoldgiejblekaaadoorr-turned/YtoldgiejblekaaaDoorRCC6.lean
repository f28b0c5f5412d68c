/- Contract of the law's Gates; copy of flags; Check's answer for a circuit. -/
import Derived.Test.YtoldgiejblekaaaDoorRCC5
namespace Go.Proofs.YtoldgiejblekaaaDoorR
open Go.RowKit

set_option maxHeartbeats 2000000 in
set_option maxRecDepth 100000 in
theorem gates_any (w : World) (N : Int) (Ag : Option Addr) (n cg : Nat) (y : Nat → Nat → Int) (Ao : Option Addr) (m co : Nat) (hg : AtV w Ag (n * 3) (gv y)) (hn : n ≤ 1000000) :
    Calls Tryd.prog 10 #[circV N Ag n cg Ao m co] w fun e w' => ∃ v, e = .returned v ∧ Row w' w.heap.size 54 3 v n (gv y) ∧ Below w.heap.size w w' := by
  have hb0 := (Below.refl w.heap.size w).alloc (Nat.le_refl _) (.cells #[.int .i64 N, .slice Ag n cg, .slice Ao m co] 25)
  have HX := Blk.new w 25 #[.int .i64 N, .slice Ag n cg, .slice Ao m co]
  have c1 := HX.cell 1 (v := .slice Ag n cg) rfl
  have HN := Lib.hid hn
  have H0 := Lib.hid (And.intro hg hb0)
  clear hg hb0 HX hn
  go_enter Tryd.func10, Tryd.ntmps10
  go_wp2
  clear c1
  generalize hw0 : (w.alloc (.cells #[.int .i64 N, .slice Ag n cg, .slice Ao m co] 25)) = w0 at *
  go_loopw [3, 9] (fun v' i wr => ∃ k : Nat, ∃ v, k ≤ n ∧ v = v' ∧ i = .int .i64 k ∧ Hid (Row wr w.heap.size 54 3 v k (gv y) ∧ Below w.heap.size w wr)) (fun _ i _ => n - (intOf i).toNat)
  case atStart => exact ⟨0, _, Nat.zero_le _, rfl, rfl, Row.nil _ _ _ _ _, H0.out.2⟩
  case round =>
    obtain ⟨k, v, hk, rfl, rfl, HI⟩ := hrel
    have hlw := HI.out.2.size
    by_cases hlt2 : k < n
    · obtain ⟨ad, rfl, ae, hae, g0, g1, g2, hbk⟩ := (H0.out.1.belowB HI.out.2 (AtV.lt H0.out.1)).gate k hlt2
      have lt1 : (k : Int) < (n : Int) := by omega
      have lt0 : (0 : Int) ≤ (k : Int) := by omega
      have e1 : IntKind.i64.wrap ((k : Int) + 1) = (k : Int) + 1 := i64_nat _ (by omega) (by have := HN.out; omega)
      have HGn := Blk.new wr 41 #[.int .i64 (y k 0), .int .i64 (y k 1), .int .i64 (y k 2)]
      have q0 := HGn.cell 0 (v := .int .i64 (y k 0)) rfl
      have q1 := HGn.cell 1 (v := .int .i64 (y k 1)) rfl
      have q2 := HGn.cell 2 (v := .int .i64 (y k 2)) rfl
      have hb2 := HI.out.2.trans (((Below.refl wr.heap.size wr).alloc (Nat.le_refl _) (.cells #[.int .i64 (y k 0), .int .i64 (y k 1), .int .i64 (y k 2)] 41)).mono hlw)
      have hs2 : (wr.alloc (.cells #[.int .i64 (y k 0), .int .i64 (y k 1), .int .i64 (y k 2)] 41)).heap.size = wr.heap.size + 1 := by simp
      obtain ⟨g, kk, w3, hr, hgB, hR, hgr, _⟩ := append_one eltR (wr.alloc (.cells #[.int .i64 (y k 0), .int .i64 (y k 1), .int .i64 (y k 2)] 41)) w.heap.size v k (gv y) (fun j => .int .i64 (y k j)) #[.int .i64 (y k 0), .int .i64 (y k 1), .int .i64 (y k 2)] (HI.out.1.alloc _) (fun j hj => by
        rcases (show j = 0 ∨ j = 1 ∨ j = 2 by omega) with rfl | rfl | rfl <;> rfl) (fun _ => rfl) (by have := HN.out; omega) (by have := HN.out; unfold maxLen; omega) (by omega)
      rw [hs2] at hr
      have hown := HI.out.1.own
      have hb3 : Below w.heap.size w w3 := (hb2.alloc hb2.size (.cells #[.int .i64 (y k 0), .int .i64 (y k 1), .int .i64 (y k 2)] 54)).grown hgr (by simp; omega) (fun q hq => (hown q hq).1)
      have HR := Lib.hid hr
      have HF := Lib.hid (And.intro (hR.congr (G := gv y) (fun i hi => by
        by_cases h : i < k * 3
        · rw [if_pos h]
        · rw [if_neg h]
          unfold gv
          rw [show i / 3 = k by omega, show i % 3 = i - k * 3 by omega])) hb3)
      have HLt := Lib.hid hlt2
      clear HGn hlt2 hbk hb2 hr hgB hR hgr hown hb3 hs2 HI
      go_wp2_with (at_builtin; refine wpList_append_run rfl _ _ 34 rfl v (.slice (some ⟨wr.heap.size + 1, 0, none⟩) 1 1) (.slice (some ⟨g, 0, none⟩) (k + 1) kk) w3 rfl rfl (HR.out _) ?_)
      go_roundw
      case rel => exact ⟨k + 1, _, by have := HLt.out; omega, rfl, by go_num, HF.out.1, HF.out.2⟩
      case measure => simp [intOf]; have := HLt.out; omega
    · obtain rfl : k = n := by omega
      have lt1 : ¬ (k : Int) < (k : Int) := by omega
      clear hlt2 hk
      go_wp2
      go_ret
      exact ⟨v, rfl, HI.out.1, HI.out.2⟩
theorem check_ok {w : World} {N : Int} {Ag : Option Addr} {n cg : Nat} {y : Nat → Nat → Int} {Ao : Option Addr} {m co : Nat} {o : Nat → Int} (hh : Handle w) (hg : AtV w Ag (n * 3) (gv y)) (ho : AtV w Ao m (iv o)) (hn : n ≤ maxLen) (hm : m ≤ maxLen) (hG : Circ.Good N n y m o) :
    Calls Tryd.prog 11 #[circV N Ag n cg Ao m co] w fun e w' => e = .returned .nilIface ∧ Below w.heap.size w w' :=
  (check_any w N Ag n cg y Ao m co o hh hg ho hn hm).mono fun e w' h => by
    rcases h.1 with h1 | h1
    · exact ⟨h1.2, h.2⟩
    · exact absurd hG h1.1
theorem check_bad {w : World} {N : Int} {Ag : Option Addr} {n cg : Nat} {y : Nat → Nat → Int} {Ao : Option Addr} {m co : Nat} {o : Nat → Int} (hh : Handle w) (hg : AtV w Ag (n * 3) (gv y)) (ho : AtV w Ao m (iv o)) (hn : n ≤ maxLen) (hm : m ≤ maxLen) (hG : ¬ Circ.Good N n y m o) :
    Calls Tryd.prog 11 #[circV N Ag n cg Ao m co] w fun e w' => (∃ p a, e = .returned (chain [(p, a)] 90)) ∧ Below w.heap.size w w' :=
  (check_any w N Ag n cg y Ao m co o hh hg ho hn hm).mono fun e w' h => by
    rcases h.1 with h1 | h1
    · exact absurd h1.1 hG
    · exact ⟨h1.2, h.2⟩
/-- copy onto a list of flags of the call's own. -/
theorem copy_bits (w : World) (B g N C : Nat) (F : Nat → Value) (A : Option Addr) (K c : Nat) (f : Nat → Bool) (hR : Row w B 4 1 (.slice (some ⟨g, 0, none⟩) N C) N F) (hA : AtV w A K (bv f)) (h0 : A = none → K = 0 ∧ c = 0) :
    ∃ k w', (∀ ty, (Builtin.copy_ #[26, 26] ty #[.slice (some ⟨g, 0, none⟩) N C, .slice A K c]).run Tryd.prog w = .ok (goInt k) w') ∧ Row w' B 4 1 (.slice (some ⟨g, 0, none⟩) N C) N (fun i => if i < K then bv f i else F i) ∧ Chg (fun q => q = g) w w' := by
  rcases A with _ | ad
  · obtain ⟨rfl, rfl⟩ := h0 rfl
    exact ⟨0, w, fun ty => run_copy_nil Tryd.prog w 26 26 ty 4 _ _ _ eltB.und (by rw [eltB.size1]; rfl), hR.congr fun i _ => by simp, Chg.refl _ _⟩
  · obtain ⟨hl, h⟩ := hR
    rcases h with ⟨e1, _⟩ | ⟨g', cap, cur, e1, hb, hg, hnc, hm, hsz, ht⟩
    · cases e1
    · injection e1 with e1 _ e3
      injection e1 with e1
      injection e1 with e1
      subst e1 e3
      have hcl : (flat (min K N) (bv f)).length = Nat.min K N := flat_length _ _
      have hfit : 0 + (flat (min K N) (bv f)).length ≤ cur.size := by rw [flat_length]; omega
      refine ⟨_, _, fun ty => run_copy_row (P := Tryd.prog) w 26 26 ty 4 g 0 N C ad K c cur 4 (flat (min K N) (bv f)) eltB.und eltB.size1 hg hcl (fun j v hj => ?_) hfit (flat_one (bv_one f)), ⟨by rw [flat_length], .inr ⟨g, C, _, rfl, hb, setRow_heap _ _ _ _ _ _ hg, hnc, hm, ?_, ?_⟩⟩, ?_⟩
      · exact (hA.less (Nat.min_le_left K N)).news j v hj
      · simp [flat_length]
        omega
      · apply List.ext_getElem?
        intro j
        rw [List.getElem?_take]
        by_cases hj : j < N
        · rw [if_pos (by omega), flat_get _ _ _ (by omega)]
          simp only [List.take_zero, List.nil_append, Nat.zero_add]
          have h2 : (cur.toList.take (N * 1))[j]? = some (F j) := by rw [ht, flat_get _ _ _ (by omega)]
          rw [List.getElem?_take, if_pos (by omega)] at h2
          by_cases hk : j < K
          · rw [if_pos hk, List.getElem?_append_left (by rw [flat_length]; omega), flat_get _ _ _ (by omega)]
          · rw [if_neg hk, List.getElem?_append_right (by rw [flat_length]; omega), List.getElem?_drop, flat_length]
            rw [show min K N + (j - min K N) = j by omega]
            exact h2
        · rw [if_neg (by omega), flat_none _ _ _ (by omega)]
      · exact ⟨rfl, rfl, rfl, by simp [World.setRow], fun k _ hs => setRow_other w g k _ hs⟩
end Go.Proofs.YtoldgiejblekaaaDoorR
