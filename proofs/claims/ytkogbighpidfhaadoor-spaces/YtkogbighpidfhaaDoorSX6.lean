/- LexSpaces' walk. -/
import Derived.Test.YtkogbighpidfhaaDoorSX5
namespace Go.Proofs.YtkogbighpidfhaaDoor
open Go.RowKit
open Lx

/-- The law's separators. -/
def sepS : Nat → ByteArray
  | 0 => ⟨#[32]⟩
  | 1 => ⟨#[10, 9]⟩
  | 2 => ⟨#[32, 35, 32, 97, 32, 49, 32, 10]⟩
  | _ => ⟨#[13, 10, 35, 10]⟩
abbrev sepsV : Value := .agg #[.string ⟨#[32]⟩, .string ⟨#[10, 9]⟩, .string ⟨#[32, 35, 32, 97, 32, 49, 32, 10]⟩, .string ⟨#[13, 10, 35, 10]⟩]
theorem bts_sepS : ∀ k, bts (sepS k) = sepOf k
  | 0 => rfl
  | 1 => rfl
  | 2 => rfl
  | _ + 3 => rfl
theorem sepS_size : ∀ k, (sepS k).size ≤ 8
  | 0 => by decide
  | 1 => by decide
  | 2 => by decide
  | _ + 3 => by show (⟨#[13, 10, 35, 10]⟩ : ByteArray).size ≤ 8; decide
theorem sepS_sep (k : Nat) : Sep (bts (sepS k)) := by rw [bts_sepS]; exact sepOf_sep k
theorem sep_idx (k : Nat) (hk : k < 4) (w : World) : (Instr.index 44 sepsV (.int .i64 (k : Int))).run Tryd.prog w = .ok (.string (sepS k)) w := by
  rcases (show k = 0 ∨ k = 1 ∨ k = 2 ∨ k = 3 by omega) with rfl | rfl | rfl | rfl <;> kernel_rfl
/-- Which separator stands behind token number i. -/
def kf (f : Nat → Int) (nb i : Nat) : Nat := if nb = 0 then 0 else (f (i % nb) % 18446744073709551616 % 4).toNat
theorem kf_lt (f : Nat → Int) (nb i : Nat) : kf f nb i < 4 := by
  unfold kf
  split
  · omega
  · have := Int.emod_lt_of_pos (f (i % nb) % 18446744073709551616) (show (0 : Int) < 4 by omega)
    have := Int.emod_nonneg (f (i % nb) % 18446744073709551616) (show (4 : Int) ≠ 0 by omega)
    omega
set_option maxHeartbeats 16000000 in
set_option maxRecDepth 100000 in
theorem lexSpaces_walk (s : ByteArray) (B : Option Addr) (nb cb : Nat) (f : Nat → Int) (w : World) (hE : ErrR w) (hH : Handle w) (hB : AtV w B nb (fun i => .int .i64 (f i))) (hnb : nb ≤ maxLen) :
    Calls Tryd.prog 6 #[.string s, .slice B nb cb] w fun e w' => e = .returned (.bool true) ∧ Below w.heap.size w w' := by
  have HW := Lib.hid (awake_any w hE hH)
  have HG := Lib.hid (And.intro hE hH)
  have HBy := Lib.hid (And.intro hB hnb)
  obtain ⟨m, hm⟩ : ∃ m, min s.size 600 = m := ⟨_, rfl⟩
  have m1 : min (s.size : Int) 600 = (m : Int) := by omega
  have hsl := run_cutS s m (by omega)
  obtain ⟨t, ht⟩ : ∃ t, s.extract 0 m = t := ⟨_, rfl⟩
  have hts : t.size ≤ 600 := by rw [← ht, ByteArray.size_extract]; omega
  rw [ht] at hsl
  have HS := Lib.hid hts
  clear hE hH hm ht hts hB hnb
  go_enter Tryd.func6, Tryd.ntmps6
  go_wp2_with fail
  refine HW.out.mono ?_
  rintro e w1 ⟨rfl, hb1⟩
  have hE1 := HG.out.1.below hb1 HG.out.1.lt
  have hH1 := HG.out.2.below hb1 HG.out.2.pos
  have HB1 := Lib.hid hb1
  clear hb1 HW
  rcases hres : res t with ⟨code, a⟩ | ts
  · have H1 := Lib.hid (scan_bad t code a w1 (by have := HS.out; omega) hres hE1 hH1)
    obtain ⟨T, v, hT⟩ := chain_iface [(lexB, (a : Int))] (code : Int)
    rw [hT] at H1
    clear hE1 hH1 hres hT
    go_wp2_with fail
    refine H1.out.mono ?_
    rintro e w2 ⟨rfl, hb2⟩
    have HB2 := Lib.hid (HB1.out.trans (hb2.mono HB1.out.size))
    clear hb2 H1 m1 hsl
    go_wp2
    go_ret
    exact ⟨rfl, HB2.out⟩
  have H1 := Lib.hid (scan_ok t ts w1 (by have := HS.out; omega) hres hE1 hH1)
  have HT := Lib.hid (res_len hres).2
  obtain ⟨n, hn⟩ : ∃ n, ts.length = n := ⟨_, rfl⟩
  obtain ⟨N, hN⟩ : ∃ N, n + 1 = N := ⟨_, rfl⟩
  unfold ScOk at H1
  rw [hn, hN] at H1
  have HL := Lib.hid (show ts.length = n ∧ n + 1 = N ∧ N ≤ 513 from ⟨hn, hN, by have := HT.out.2; omega⟩)
  clear hE1 hH1 hres hn hN
  go_wp2_with fail
  refine H1.out.mono ?_
  rintro e w2 ⟨ad, c, hc, rfl, hA, hb2⟩
  have HB2 := Lib.hid (HB1.out.trans (hb2.mono HB1.out.size))
  have HA := Lib.hid (And.intro hA (HBy.out.1.belowB HB2.out (fun ad e h0 => HBy.out.1.lt ad e h0)))
  clear hb2 H1 m1 hsl hc hA
  by_cases h200 : 200 < N
  · have l200 : (200 : Int) < (N : Int) := by omega
    clear h200
    go_wp2
    go_ret
    exact ⟨rfl, HB2.out⟩
  have l200 : ¬ (200 : Int) < (N : Int) := by omega
  clear h200
  have HF := Lib.hid (show ∀ i, sepS (kf f nb i) = (fun i => sepS (kf f nb i)) i from fun _ => rfl)
  obtain ⟨W, hW⟩ : ∃ W : Nat → ByteArray, (fun i => sepS (kf f nb i)) = W := ⟨_, rfl⟩
  rw [hW] at HF
  have HW8 := Lib.hid (show (∀ i, (W i).size ≤ 8) ∧ ∀ i, Sep (bts (W i)) from ⟨fun i => by rw [← hW]; exact sepS_size _, fun i => by rw [← hW]; exact sepS_sep _⟩)
  clear hW
  go_wp2
  clear l200
  go_loopw [7, 34] (fun j i wr => ∃ k : Nat, i = .int .i64 (k : Int) ∧ j = .string (tJ t ts W k) ∧ Hid (k ≤ N ∧ Below w2.heap.size w2 wr)) (fun _ i _ => N - (intOf i).toNat)
  case atStart => exact ⟨0, rfl, rfl, Nat.zero_le _, Below.refl _ _⟩
  case round =>
    obtain ⟨k, rfl, rfl, HI⟩ := hrel
    by_cases hk : k < N
    · obtain ⟨_, rfl', ae, hae, a0, a1, a2, a3, _⟩ := (HA.out.1.below HI.out.2).tk k hk
      cases rfl'
      obtain ⟨f0, f1, f2, f3⟩ := tk_cells t ts k
      rw [f0] at a0
      rw [f1] at a1
      rw [f2] at a2
      rw [f3] at a3
      have hxs := tX_le HT.out.1 k
      have hjs := tJ_size HT.out.1 (by have := HS.out; omega) W HW8.out.1 k
      have hJn : tJ t ts W (k + 1) = tJ t ts W k ++ (tX t ts k ++ W k) := rfl
      have hsf := HF.out k
      have hw8 := HW8.out.1 k
      obtain ⟨kk, hkk⟩ : ∃ kk, kf f nb k = kk := ⟨_, rfl⟩
      have hk4 : kk < 4 := by rw [← hkk]; exact kf_lt f nb k
      have hidx := sep_idx kk hk4
      rw [hkk] at hsf
      rw [hsf] at hidx
      generalize W k = wk at hJn hidx hw8 hsf
      generalize tX t ts k = X at a1 hxs hJn
      generalize (ts.getD k (tkEnd t)).1 = K at a0
      generalize (ts.getD k (tkEnd t)).2.2.2 = V at a2
      generalize (ts.getD k (tkEnd t)).2.1 = P at a3
      have e1 : IntKind.i64.wrap ((k : Int) + 1) = (k : Int) + 1 := i64_nat _ (by omega) (by have := HL.out; omega)
      have lt1 : (k : Int) < (N : Int) := by omega
      have lt0 : (0 : Int) ≤ (k : Int) := by omega
      obtain ⟨J0, hJ0⟩ : ∃ x, tJ t ts W k = x := ⟨_, rfl⟩
      obtain ⟨J1, hJ1⟩ : ∃ x, tJ t ts W (k + 1) = x := ⟨_, rfl⟩
      rw [hJ0] at hjs hJn
      rw [hJ1] at hJn
      obtain ⟨Jx, hJx⟩ : ∃ x, J0 ++ X = x := ⟨_, rfl⟩
      have hcat1 : ∀ w, (Op.stringOp .add J0 X).run Tryd.prog w = .ok (.string Jx) w := fun w => by
        rw [run_string_add_sum w J0 X (by have := HS.out; have := HL.out; omega), hJx]
      have hcat2 : ∀ w, (Op.stringOp .add Jx wk).run Tryd.prog w = .ok (.string J1) w := fun w => by
        rw [run_string_add_sum w Jx wk (by rw [← hJx, ByteArray.size_append]; have := HS.out; have := HL.out; omega), ← hJx, ByteArray.append_assoc, hJn]
      have HJ1 := Lib.hid hJ1
      have Y := Blk.new wr 37 (tkC (K : Int) X (V : Int) (P : Int))
      obtain ⟨q0, q1, q2, q3⟩ := TkB.cells Y
      have HP := Lib.hid (HI.out.2.alloc HI.out.2.size (.cells (tkC (K : Int) X (V : Int) (P : Int)) 37))
      have HLt := Lib.hid hk
      rw [hJ0]
      by_cases hnb : nb = 0
      · have l0 : ¬ (0 : Int) < (nb : Int) := by omega
        have hk0 : kk = 0 := by rw [← hkk]; unfold kf; rw [if_pos hnb]
        subst hk0
        rw [Int.natCast_zero] at hidx
        clear hk Y hJn hJ1 hJ0 hJx hjs hxs f0 f1 f2 f3 hw8 hsf hk4 hkk hnb
        go_wp2
        clear a0 a1 a2 a3 hae
        go_roundw
        case rel => exact ⟨k + 1, by go_num, by rw [HJ1.out], by have := HLt.out; omega, HP.out⟩
        case measure => simp [intOf]; have := HLt.out; omega
      · have l0 : (0 : Int) < (nb : Int) := by omega
        obtain ⟨r, hr⟩ : ∃ r, k % nb = r := ⟨_, rfl⟩
        have hrl : r < nb := by rw [← hr]; exact Nat.mod_lt _ (by omega)
        have er : (k : Int).tmod (nb : Int) = (r : Int) := by rw [Int.tmod_eq_emod_of_nonneg (by omega), ← hr]; rfl
        obtain ⟨bd, rfl, hbc⟩ := (HA.out.2.below HI.out.2) r hrl
        have hbc2 : (wr.alloc (.cells (tkC (K : Int) X (V : Int) (P : Int)) 37)).cell? (bd.add r) = some (.int .i64 (f r)) := (HP.out.cell (p := bd.add r) (by have := AtV.lt HA.out.2 bd rfl (by omega); rw [add_block]; exact this)).trans (((HA.out.2) r hrl).elim fun bd' h => by cases h.1; exact h.2)
        obtain ⟨z, hz⟩ : ∃ z, f r = z := ⟨_, rfl⟩
        rw [hz] at hbc2
        have hkz : kk = (z % 18446744073709551616 % 4).toNat := by rw [← hkk]; unfold kf; rw [if_neg hnb, hr, hz]
        obtain ⟨k4, hk41, hk42, hk43⟩ := umod z 4 (by omega) (by omega)
        have hkk4 : k4 = kk := by rw [hkz]; omega
        subst hkk4
        have e4 : IntKind.i64.wrap (k4 : Int) = (k4 : Int) := i64_nat _ (by omega) (by omega)
        have lr : (r : Int) < (nb : Int) := by omega
        have lr0 : (0 : Int) ≤ (r : Int) := by omega
        have bz : ((nb : Int) == 0) = false := by rw [beq_eq_false_iff_ne]; omega
        have ez : IntKind.i64.wrap (r : Int) = (r : Int) := i64_nat _ (by omega) (by have := HBy.out.2; unfold maxLen at this; omega)
        clear hk Y hJn hJ1 hJ0 hJx hjs hxs f0 f1 f2 f3 hw8 hsf hk4 hkk hkz hk41 hk43 hz hr hrl hbc
        go_wp2
        go_roundw
        case rel => exact ⟨k + 1, by go_num, by rw [HJ1.out], by have := HLt.out; omega, HP.out⟩
        case measure => simp [intOf]; have := HLt.out; omega
    · have lt1 : ¬ (k : Int) < (N : Int) := by omega
      have hkN : k = ts.length + 1 := by have := HI.out.1; have := HL.out; omega
      obtain ⟨J, hJ⟩ : ∃ x, tJ t ts W k = x := ⟨_, rfl⟩
      rw [hJ]
      rw [hkN] at hJ
      obtain ⟨wB, hwB⟩ : ∃ x, x = wr := ⟨_, rfl⟩
      subst hwB
      have HB := Lib.hid (HB2.out.trans (HI.out.2.mono HB2.out.size))
      have HAB := Lib.hid (HA.out.1.below HI.out.2)
      clear hk hkN HI HA
      by_cases hz : 4096 < J.size
      · have lz : (4096 : Int) < (J.size : Int) := by omega
        clear hz hJ
        go_wp2
        go_ret
        exact ⟨rfl, HB.out⟩
      have lz : ¬ (4096 : Int) < (J.size : Int) := by omega
      obtain ⟨us, hr, hul, htk, heq⟩ := join_res HT.out.1 HT.out.2 W HW8.out.2 J hJ (by omega)
      have H2 := Lib.hid (scan_ok J us wB (by omega) hr (HG.out.1.below HB.out HG.out.1.lt) (HG.out.2.below HB.out HG.out.2.pos))
      unfold ScOk at H2
      rw [show us.length + 1 = N by have := HL.out; omega] at H2
      have HQ := Lib.hid (And.intro heq (And.intro htk (show J.size ≤ 4096 by omega)))
      clear hz hJ hr hul heq htk
      go_wp2_with fail
      refine H2.out.mono ?_
      rintro e w3 ⟨bd, d, hd, rfl, hA2, hb3⟩
      have HB3 := Lib.hid (HB.out.trans (hb3.mono HB.out.size))
      have HA3 := Lib.hid (And.intro (HAB.out.below hb3) hA2)
      clear hb3 H2 hd hA2 lz HAB
      go_wp2
      go_loopw [81] (fun i wr => ∃ q : Nat, i = .int .i64 (q : Int) ∧ Hid (q ≤ N ∧ Below w3.heap.size w3 wr)) (fun i _ => N - (intOf i).toNat)
      case atStart => exact ⟨0, rfl, Nat.zero_le _, Below.refl _ _⟩
      case round =>
        obtain ⟨q, rfl, HI⟩ := hrel
        by_cases hq : q < N
        · obtain ⟨_, rfl', ae, hae, a0, a1, a2, a3, _⟩ := (HA3.out.1.below HI.out.2).tk q hq
          cases rfl'
          obtain ⟨_, rfl', be, hbe, b0, b1, b2, b3, _⟩ := (HA3.out.2.below HI.out.2).tk q hq
          cases rfl'
          obtain ⟨f0, f1, f2, _⟩ := tk_cells t ts q
          obtain ⟨h0, h1, h2, h3⟩ := tk_cells J us q
          obtain ⟨r0, r1, r2⟩ := HQ.out.1 q (by have := HL.out; omega)
          have hle := tk_le HQ.out.2.1 q
          have hxs := tX_size HQ.out.2.1 q
          have hxe : J.extract (us.getD q (tkEnd J)).2.1 ((us.getD q (tkEnd J)).2.1 + (us.getD q (tkEnd J)).2.2.1) = tX J us q := rfl
          rw [r2] at hxs hxe
          rw [f0] at a0
          rw [f1] at a1
          rw [f2] at a2
          rw [h0, r0] at b0
          rw [h1, r2] at b1
          rw [h2, r1] at b2
          rw [h3] at b3
          have hse := str_eq (tX t ts q)
          generalize tX t ts q = X at a1 b1 hse hxs hxe
          generalize (ts.getD q (tkEnd t)).1 = K at a0 b0
          generalize (ts.getD q (tkEnd t)).2.2.2 = V at a2 b2
          generalize (us.getD q (tkEnd J)).2.1 = P at b3 hle hxe
          generalize (us.getD q (tkEnd J)).2.2.1 = L at hle hxs hxe
          have hsl := run_sl J P (P + L) (Nat.le_add_right _ _) hle
          rw [hxe, Int.natCast_add] at hsl
          subst hxs
          have e2 : IntKind.i64.wrap ((P : Int) + (X.size : Int)) = (P : Int) + (X.size : Int) := i64_nat _ (by omega) (by have := HQ.out.2.2; omega)
          have lt1 : (q : Int) < (N : Int) := by omega
          have lt0 : (0 : Int) ≤ (q : Int) := by omega
          have e1 : IntKind.i64.wrap ((q : Int) + 1) = (q : Int) + 1 := i64_nat _ (by omega) (by have := HL.out; omega)
          have HLt := Lib.hid hq
          clear hq f0 f1 f2 h0 h1 h2 h3 r0 r1 r2 a3 hle hxe
          go_wp2
          go_quiet (fail)
          go_wp2
          go_roundw
          case rel => exact ⟨q + 1, by go_num, by have := HLt.out; omega, HI.out.2.trans (drewN_below _ _ _)⟩
          case measure => simp [intOf]; have := HLt.out; omega
        · have lt1 : ¬ (q : Int) < (N : Int) := by omega
          clear hq
          go_wp2
          go_ret
          exact ⟨rfl, HB3.out.trans (HI.out.2.mono HB3.out.size)⟩
end Go.Proofs.YtkogbighpidfhaaDoor
