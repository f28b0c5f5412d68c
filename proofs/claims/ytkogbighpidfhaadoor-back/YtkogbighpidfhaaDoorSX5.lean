/- LexBack's walk. -/
import Derived.Test.YtkogbighpidfhaaDoorSX5a
namespace Go.Proofs.YtkogbighpidfhaaDoor
open Go.RowKit
open Lx

theorem sep_bts : Sep (bts (⟨#[32]⟩ : ByteArray)) := sep_blank
set_option maxHeartbeats 16000000 in
set_option maxRecDepth 100000 in
theorem lexBack_walk (s : ByteArray) (w : World) (hE : ErrR w) (hH : Handle w) :
    Calls Tryd.prog 4 #[.string s] w fun e w' => e = .returned (.bool true) ∧ Below w.heap.size w w' := by
  have HW := Lib.hid (awake_any w hE hH)
  have HG := Lib.hid (And.intro hE hH)
  obtain ⟨m, hm⟩ : ∃ m, min s.size 2000 = m := ⟨_, rfl⟩
  have m1 : min (s.size : Int) 2000 = (m : Int) := by omega
  have hsl := run_cutS s m (by omega)
  obtain ⟨t, ht⟩ : ∃ t, s.extract 0 m = t := ⟨_, rfl⟩
  have hts : t.size ≤ 2000 := by rw [← ht, ByteArray.size_extract]; omega
  rw [ht] at hsl
  have HS := Lib.hid hts
  clear hE hH hm ht hts
  go_enter Tryd.func4, Tryd.ntmps4
  go_wp2_with fail
  refine HW.out.mono ?_
  rintro e w1 ⟨rfl, hb1⟩
  have hE1 := HG.out.1.below hb1 HG.out.1.lt
  have hH1 := HG.out.2.below hb1 HG.out.2.pos
  have HB1 := Lib.hid hb1
  clear hb1 HW
  rcases hres : res t with ⟨code, a⟩ | ts
  · have H1 := Lib.hid (scan_bad t code a w1 (by have := HS.out; omega) hres hE1 hH1)
    obtain ⟨T, v, hT⟩ := chain_iface [(lexB, (a : Int))] (code : Int)
    rw [hT] at H1
    clear hE1 hH1 hres hT
    go_wp2_with fail
    refine H1.out.mono ?_
    rintro e w2 ⟨rfl, hb2⟩
    have HB2 := Lib.hid (HB1.out.trans (hb2.mono HB1.out.size))
    clear hb2 H1 m1 hsl
    go_wp2
    go_ret
    exact ⟨rfl, HB2.out⟩
  have H1 := Lib.hid (scan_ok t ts w1 (by have := HS.out; omega) hres hE1 hH1)
  have HT := Lib.hid (res_len hres).2
  obtain ⟨n, hn⟩ : ∃ n, ts.length = n := ⟨_, rfl⟩
  obtain ⟨N, hN⟩ : ∃ N, n + 1 = N := ⟨_, rfl⟩
  unfold ScOk at H1
  rw [hn, hN] at H1
  have HL := Lib.hid (show ts.length = n ∧ n + 1 = N ∧ N ≤ 513 from ⟨hn, hN, by have := HT.out.2; omega⟩)
  clear hE1 hH1 hres hn hN
  go_wp2_with fail
  refine H1.out.mono ?_
  rintro e w2 ⟨ad, c, hc, rfl, hA, hb2⟩
  have HB2 := Lib.hid (HB1.out.trans (hb2.mono HB1.out.size))
  have HA := Lib.hid hA
  clear hb2 H1 m1 hsl hc hA
  go_wp2
  go_loopw [5, 30] (fun j i wr => ∃ k : Nat, i = .int .i64 (k : Int) ∧ j = .string (tJ t ts (fun _ => ⟨#[32]⟩) k) ∧ Hid (k ≤ N ∧ Below w2.heap.size w2 wr)) (fun _ i _ => N - (intOf i).toNat)
  case atStart => exact ⟨0, rfl, rfl, Nat.zero_le _, Below.refl _ _⟩
  case round =>
    obtain ⟨k, rfl, rfl, HI⟩ := hrel
    by_cases hk : k < N
    · obtain ⟨_, rfl', ae, hae, a0, a1, a2, a3, _⟩ := (HA.out.below HI.out.2).tk k hk
      cases rfl'
      obtain ⟨f0, f1, f2, f3⟩ := tk_cells t ts k
      rw [f0] at a0
      rw [f1] at a1
      rw [f2] at a2
      rw [f3] at a3
      have hle := tk_le HT.out.1 k
      have hxs := tX_size HT.out.1 k
      have hjs := tJ_size HT.out.1 HS.out (fun _ => (⟨#[32]⟩ : ByteArray)) (fun _ => by decide) k
      have hJn : tJ t ts (fun _ => ⟨#[32]⟩) (k + 1) = tJ t ts (fun _ => ⟨#[32]⟩) k ++ (tX t ts k ++ ⟨#[32]⟩) := rfl
      have hxe : t.extract (ts.getD k (tkEnd t)).2.1 ((ts.getD k (tkEnd t)).2.1 + (ts.getD k (tkEnd t)).2.2.1) = tX t ts k := rfl
      generalize tX t ts k = X at a1 hxs hJn hxe
      generalize (ts.getD k (tkEnd t)).1 = K at a0
      generalize (ts.getD k (tkEnd t)).2.2.2 = V at a2
      generalize (ts.getD k (tkEnd t)).2.1 = P at a3 hle hxe
      generalize (ts.getD k (tkEnd t)).2.2.1 = L at hle hxs hxe
      have hsl := run_sl t P (P + L) (Nat.le_add_right _ _) hle
      rw [hxe, Int.natCast_add] at hsl
      subst hxs
      have e1 : IntKind.i64.wrap ((k : Int) + 1) = (k : Int) + 1 := i64_nat _ (by omega) (by have := HL.out; omega)
      have e2 : IntKind.i64.wrap ((P : Int) + (X.size : Int)) = (P : Int) + (X.size : Int) := i64_nat _ (by omega) (by have := HS.out; omega)
      have lP : ¬ (P : Int) < 0 := by omega
      have lE : ¬ (t.size : Int) < (P : Int) + (X.size : Int) := by omega
      have hse := str_eq X
      have lt1 : (k : Int) < (N : Int) := by omega
      have lt0 : (0 : Int) ≤ (k : Int) := by omega
      have hcat1 : ∀ w, (Op.stringOp .add X ⟨#[32]⟩).run Tryd.prog w = .ok (.string (X ++ ⟨#[32]⟩)) w := fun w => run_string_add_sum w X _ (by have := HS.out; have h1 : (⟨#[32]⟩ : ByteArray).size = 1 := rfl; omega)
      have hcat2 : ∀ w, (Op.stringOp .add (tJ t ts (fun _ => ⟨#[32]⟩) k) (X ++ ⟨#[32]⟩)).run Tryd.prog w = .ok (.string (tJ t ts (fun _ => ⟨#[32]⟩) (k + 1))) w := fun w => by
        rw [run_string_add_sum w _ _ (by rw [ByteArray.size_append]; have := HS.out; have := HL.out; have h1 : (⟨#[32]⟩ : ByteArray).size = 1 := rfl; omega), hJn]
      obtain ⟨J1, hJ1⟩ : ∃ x, tJ t ts (fun _ => ⟨#[32]⟩) (k + 1) = x := ⟨_, rfl⟩
      rw [hJ1] at hcat2
      have HJ1 := Lib.hid hJ1
      have Y := Blk.new wr 37 (tkC (K : Int) X (V : Int) (P : Int))
      obtain ⟨q0, q1, q2, q3⟩ := TkB.cells Y
      have HP := Lib.hid (HI.out.2.alloc HI.out.2.size (.cells (tkC (K : Int) X (V : Int) (P : Int)) 37))
      have HLt := Lib.hid hk
      clear hk Y hJn hJ1 hjs hle hxe f0 f1 f2 f3
      go_wp2
      clear a0 a1 a2 a3 hae
      generalize wr.alloc (.cells (tkC (K : Int) X (V : Int) (P : Int)) 37) = wq at *
      go_quiet (fail)
      go_wp2
      go_roundw
      case rel => exact ⟨k + 1, by go_num, by rw [HJ1.out], by have := HLt.out; omega, HP.out.trans (drewN_below _ _ _)⟩
      case measure => simp [intOf]; have := HLt.out; omega
    · have lt1 : ¬ (k : Int) < (N : Int) := by omega
      have hkN : k = ts.length + 1 := by have := HI.out.1; have := HL.out; omega
      obtain ⟨J, hJ⟩ : ∃ x, tJ t ts (fun _ => ⟨#[32]⟩) k = x := ⟨_, rfl⟩
      rw [hJ]
      rw [hkN] at hJ
      obtain ⟨wB, hwB⟩ : ∃ x, x = wr := ⟨_, rfl⟩
      subst hwB
      have HB := Lib.hid (HB2.out.trans (HI.out.2.mono HB2.out.size))
      have HAB := Lib.hid (HA.out.below HI.out.2)
      clear hk hkN HI HA
      by_cases hz : 4096 < J.size
      · have lz : (4096 : Int) < (J.size : Int) := by omega
        clear hz hJ
        go_wp2
        go_ret
        exact ⟨rfl, HB.out⟩
      have lz : ¬ (4096 : Int) < (J.size : Int) := by omega
      obtain ⟨us, hr, hul, _, heq⟩ := join_res HT.out.1 HT.out.2 (fun _ => (⟨#[32]⟩ : ByteArray)) (fun _ => sep_bts) J hJ (by omega)
      have H2 := Lib.hid (scan_ok J us wB (by omega) hr (HG.out.1.below HB.out HG.out.1.lt) (HG.out.2.below HB.out HG.out.2.pos))
      unfold ScOk at H2
      rw [show us.length + 1 = N by have := HL.out; omega] at H2
      have HQ := Lib.hid heq
      clear hz hJ hr hul heq
      go_wp2_with fail
      refine H2.out.mono ?_
      rintro e w3 ⟨bd, d, hd, rfl, hA2, hb3⟩
      have HB3 := Lib.hid (HB.out.trans (hb3.mono HB.out.size))
      have HA3 := Lib.hid (And.intro (HAB.out.below hb3) hA2)
      clear hb3 H2 hd hA2 lz HAB
      go_wp2
      go_loopw [88] (fun i wr => ∃ q : Nat, i = .int .i64 (q : Int) ∧ Hid (q ≤ N ∧ Below w3.heap.size w3 wr)) (fun i _ => N - (intOf i).toNat)
      case atStart => exact ⟨0, rfl, Nat.zero_le _, Below.refl _ _⟩
      case round =>
        obtain ⟨q, rfl, HI⟩ := hrel
        by_cases hq : q < N
        · obtain ⟨_, rfl', ae, hae, a0, a1, a2, a3, _⟩ := (HA3.out.1.below HI.out.2).tk q hq
          cases rfl'
          obtain ⟨_, rfl', be, hbe, b0, b1, b2, b3, _⟩ := (HA3.out.2.below HI.out.2).tk q hq
          cases rfl'
          obtain ⟨f0, f1, f2, _⟩ := tk_cells t ts q
          obtain ⟨h0, h1, h2, _⟩ := tk_cells J us q
          obtain ⟨r0, r1, r2⟩ := HQ.out q (by have := HL.out; omega)
          rw [f0] at a0
          rw [f1] at a1
          rw [f2] at a2
          rw [h0, r0] at b0
          rw [h1, r2] at b1
          rw [h2, r1] at b2
          have hse := str_eq (tX t ts q)
          generalize tX t ts q = X at a1 b1 hse
          generalize (ts.getD q (tkEnd t)).1 = K at a0 b0
          generalize (ts.getD q (tkEnd t)).2.2.2 = V at a2 b2
          have lt1 : (q : Int) < (N : Int) := by omega
          have lt0 : (0 : Int) ≤ (q : Int) := by omega
          have e1 : IntKind.i64.wrap ((q : Int) + 1) = (q : Int) + 1 := i64_nat _ (by omega) (by have := HL.out; omega)
          have HLt := Lib.hid hq
          clear hq f0 f1 f2 h0 h1 h2 r0 r1 r2 a3 b3
          go_wp2
          go_quiet (fail)
          go_wp2
          go_roundw
          case rel => exact ⟨q + 1, by go_num, by have := HLt.out; omega, HI.out.2.trans (drewN_below _ _ _)⟩
          case measure => simp [intOf]; have := HLt.out; omega
        · have lt1 : ¬ (q : Int) < (N : Int) := by omega
          clear hq
          go_wp2
          go_ret
          exact ⟨rfl, HB3.out.trans (HI.out.2.mono HB3.out.size)⟩
end Go.Proofs.YtkogbighpidfhaaDoor
