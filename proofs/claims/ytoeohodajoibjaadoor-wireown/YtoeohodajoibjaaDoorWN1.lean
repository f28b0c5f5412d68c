/- Contracts: checkNumber, appendNumber, Number; the document's Number. -/
import Derived.Test.YtoeohodajoibjaaDoorWD1
import Derived.Test.YtoeohodajoibjaaDoorE7
namespace Go.Proofs.YtoeohodajoibjaaDoor
open Go.RowKit

/-- "number" -/
def sNumber : ByteArray := { data := #[110, 117, 109, 98, 101, 114] }
set_option maxHeartbeats 1000000 in
set_option maxRecDepth 100000 in
theorem checkNumber_ok (n : Nat) (w : World) (hn : n ≤ 4294967295) :
    Calls Tryd.prog 23 #[.int .i64 (n : Int)] w fun e w' => e = .returned .nilIface ∧ w = w' := by
  have h0 : ¬ (n : Int) < 0 := by omega
  have h1 : ¬ (4294967295 : Int) < (n : Int) := by omega
  go_enter Tryd.func23, Tryd.ntmps23
  go_wp2
  go_ret
  exact ⟨rfl, rfl⟩
set_option maxHeartbeats 1000000 in
set_option maxRecDepth 100000 in
theorem checkNumber_bad (z : Int) (w : World) (hg : Handle w) (hz : z < 0 ∨ 4294967295 < z) :
    Calls Tryd.prog 23 #[.int .i64 z] w fun e w' => e = .returned (chain [(sNumber, z)] 1) ∧ Below w.heap.size w w' := by
  have HC := Lib.hid (wrap_chain [] 1 z sNumber w hg (by simp))
  have HE : chain [] 1 = .iface 28 (.int .i64 1) := rfl
  rw [HE] at HC
  clear hg HE
  go_enter Tryd.func23, Tryd.ntmps23
  by_cases h0 : z < 0
  · go_wp2_with fail
    refine HC.out.mono ?_
    rintro e w1 ⟨rfl, hb⟩
    obtain ⟨T, v, hT⟩ := chain_iface [(sNumber, z)] 1
    rw [hT]
    have HB := Lib.hid hb
    clear hb
    go_wp2
    go_ret
    exact ⟨congrArg Ending.returned hT.symm, HB.out⟩
  · have h1 : (4294967295 : Int) < z := by omega
    go_wp2_with fail
    refine HC.out.mono ?_
    rintro e w1 ⟨rfl, hb⟩
    obtain ⟨T, v, hT⟩ := chain_iface [(sNumber, z)] 1
    rw [hT]
    have HB := Lib.hid hb
    clear hb
    go_wp2
    go_ret
    exact ⟨congrArg Ending.returned hT.symm, HB.out⟩

abbrev sl8 (g n c : Nat) : Value := .slice (some ⟨g, 0, none⟩) n c
/-- One byte more onto a list of the call's own. -/
theorem push {w : World} {base k : Nat} {v : Value} {g : Nat → Nat} (x : Nat) (h : OR w base v k g) (hk : k < 1000000000) (hbase : base ≤ w.heap.size) (g2 : Nat → Nat) (h2 : ∀ i, i < k → g2 i = g i) (h3 : g2 k = x) :
    ∃ b c w', (Builtin.append_ #[22, 22] 22 #[v, .slice (some ⟨w.heap.size, 0, none⟩) 1 1]).run Tryd.prog (w.alloc (.cells #[.int .u8 (x : Int)] 5)) = .ok (sl8 b (k + 1) c) w' ∧ OR w' base (sl8 b (k + 1) c) (k + 1) g2 ∧ Below base w w' := by
  obtain ⟨v', w', hr, ho, hb⟩ := append_ownB (w.alloc (.cells #[.int .u8 (x : Int)] 5)) base v k 1 g (fun _ => x) ⟨w.heap.size, 0, none⟩ 1 (h.alloc _) (OR.one w x) (by omega) (by simp; omega)
  obtain ⟨b, c, rfl, _⟩ := ho.read (by omega)
  refine ⟨b, c, w', hr, OR.congr ho fun i hi => ?_, ((Below.refl base w).alloc hbase _).trans hb⟩
  unfold thenB
  split
  · rename_i h; exact (h2 i h).symm
  · rw [show i = k by omega, h3]
/-- What a writer of a number answers. -/
def Wrote (w : World) (base k : Nat) (g : Nat → Nat) (m : Nat) (h : Nat → Nat) (e : Ending) (w' : World) : Prop :=
  ∃ b c, e = .returned (sl8 b (k + m) c) ∧ OR w' base (sl8 b (k + m) c) (k + m) (thenB k g h) ∧ Below base w w'
set_option maxHeartbeats 1000000 in
set_option maxRecDepth 100000 in
theorem appendNumber_any (v : Value) (base k : Nat) (g : Nat → Nat) (n : Nat) (w : World) (hv : OR w base v k g) (hn : n ≤ 4294967295) (hk : k ≤ 100000000) (hbase : base ≤ w.heap.size) :
    Calls Tryd.prog 24 #[v, .int .i64 (n : Int)] w (Wrote w base k g (Wire.nlen n) (Wire.nat7 n)) := by
  have h5 := Wire.nlen_most n hn
  have HV := Lib.hid (And.intro hv hbase)
  clear hv hbase
  go_enter Tryd.func24, Tryd.ntmps24
  go_wp2
  go_loopw [0, 1] (fun v p wr => ∃ i y : Nat, p = .int .i64 y ∧ Hid (i < Wire.nlen n) ∧ Hid (y = n / 128 ^ i) ∧ Hid (OR wr base v (k + i) (thenB k g (Wire.nat7 n)) ∧ Below base w wr)) (fun _ p _ => (intOf p).toNat)
  case atStart => exact ⟨0, n, rfl, Wire.nlen_pos n, by simp [Hid], OR.congr HV.out.1 (fun i hi => by unfold thenB; rw [if_pos (show i < k from hi)]), Below.refl _ _⟩
  case round =>
    obtain ⟨i, y, rfl, HL, HY, HO⟩ := hrel
    have hy : y ≤ n := by rw [HY.out]; exact Nat.div_le_self _ _
    have hL := HL.out
    have hb0 : base ≤ wr.heap.size := Nat.le_trans HV.out.2 HO.out.2.size
    by_cases hlt : y < 128
    · have h1 : ¬ (128 : Int) ≤ (y : Int) := by omega
      have e1 : IntKind.u8.wrap (y : Int) = (y : Int) := by rw [u8w]; omega
      obtain ⟨ha, hlast⟩ := Wire.nat7_last n i hL (by rw [← HY.out]; exact hlt)
      obtain ⟨b, c, w', hr, ho, hb⟩ := push y HO.out.1 (by omega) hb0 (thenB k g (Wire.nat7 n)) (fun _ _ => rfl) (by unfold thenB; rw [if_neg (by omega), Nat.add_sub_cancel_left, ha, HY.out])
      have HQ := Lib.hid hr
      have HN := Lib.hid (And.intro ho (HO.out.2.trans hb))
      have HE := Lib.hid hlast
      clear hr ho hb HO HY HL hL ha hlast hy
      go_wp2_with (at_builtin; refine wpList_append_run rfl _ _ 22 rfl _ _ _ w' rfl rfl HQ.out ?_)
      go_ret
      refine ⟨b, c, ?_, ?_, HN.out.2⟩
      · rw [← HE.out]; rfl
      · rw [← HE.out]; exact HN.out.1
    · have h1 : (128 : Int) ≤ (y : Int) := by omega
      obtain ⟨z, hz⟩ : ∃ z, z = y % 128 + 128 := ⟨_, rfl⟩
      obtain ⟨y2, hy2⟩ : ∃ z, z = y / 128 := ⟨_, rfl⟩
      have e1 : (y : Int).tmod 128 = ((z - 128 : Nat) : Int) := by rw [Int.tmod_eq_emod_of_nonneg (by omega)]; omega
      have e2 : (y : Int).tdiv 128 = (y2 : Int) := by rw [Int.tdiv_eq_ediv_of_nonneg (by omega)]; omega
      have e3 : IntKind.u8.wrap (z : Int) = (z : Int) := by rw [u8w]; omega
      have e4 : IntKind.i64.wrap (((z - 128 : Nat) : Int) + 128) = (z : Int) := by rw [i64_nat _ (by omega) (by omega)]; omega
      obtain ⟨ha, hmore⟩ := Wire.nat7_more n i hL (by rw [← HY.out]; omega)
      obtain ⟨b, c, w', hr, ho, hb⟩ := push z HO.out.1 (by omega) hb0 (thenB k g (Wire.nat7 n)) (fun _ _ => rfl) (by unfold thenB; rw [if_neg (by omega), Nat.add_sub_cancel_left, ha, hz, HY.out])
      have HQ := Lib.hid hr
      have HN := Lib.hid (show OR w' base (sl8 b (k + i + 1) c) (k + (i + 1)) (thenB k g (Wire.nat7 n)) ∧ Below base w w' from ⟨ho, HO.out.2.trans hb⟩)
      have HY2 := Lib.hid (show y2 = n / 128 ^ (i + 1) by rw [hy2, HY.out, Nat.div_div_eq_div_mul, Nat.pow_succ])
      have HE := Lib.hid hmore
      have HM := Lib.hid (show y2 < y by omega)
      have hy2b : (y2 : Int) < 9223372036854775808 := by omega
      have e5 : IntKind.i64.wrap (y2 : Int) = (y2 : Int) := i64_nat _ (by omega) hy2b
      clear hr ho hb HO HY HL hL ha hmore hy hz hy2
      go_wp2_with (at_builtin; refine wpList_append_run rfl _ _ 22 rfl _ _ _ w' rfl rfl HQ.out ?_)
      go_roundw
      case rel => exact ⟨i + 1, y2, rfl, HE, HY2, HN⟩
      case measure => have := HM.out; simp [intOf]; omega
end Go.Proofs.YtoeohodajoibjaaDoor
