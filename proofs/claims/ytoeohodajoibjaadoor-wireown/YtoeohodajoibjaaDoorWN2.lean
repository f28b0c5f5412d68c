/- Contracts: appendWord, the document's Eight. -/
import Derived.Test.YtoeohodajoibjaaDoorWN1
import Derived.Laws.ShiftsVar
namespace Go.Proofs.YtoeohodajoibjaaDoor
open Go.RowKit

theorem byt_int (x i : Nat) : (x : Int) / 2 ^ (8 * i) % 256 = (Wire.byt x i : Int) := by
  unfold Wire.byt
  rw [show (256 : Nat) ^ i = 2 ^ (8 * i) by rw [Nat.pow_mul], Int.natCast_emod, Int.natCast_ediv, Int.natCast_pow]
  rfl
set_option maxHeartbeats 1000000 in
set_option maxRecDepth 100000 in
theorem appendWord_any (v : Value) (base k : Nat) (g : Nat → Nat) (x : Nat) (w : World) (hv : OR w base v k g) (hk0 : 0 < k) (hk : k ≤ 100000000) (hbase : base ≤ w.heap.size) :
    Calls Tryd.prog 27 #[v, .int .u64 (x : Int)] w (Wrote w base k g 8 (Wire.byt x)) := by
  have HV := Lib.hid (And.intro hv hbase)
  clear hv hbase
  go_enter Tryd.func27, Tryd.ntmps27
  go_wp2
  go_loopw [0, 6] (fun v p wr => ∃ i : Nat, p = .int .i64 i ∧ i ≤ 8 ∧ Hid (OR wr base v (k + i) (thenB k g (Wire.byt x)) ∧ Below base w wr)) (fun _ p _ => 8 - (intOf p).toNat)
  case atStart => exact ⟨0, rfl, by omega, OR.congr HV.out.1 (fun i hi => by unfold thenB; rw [if_pos (show i < k from hi)]), Below.refl _ _⟩
  case round =>
    obtain ⟨i, rfl, hi, HO⟩ := hrel
    have hb0 : base ≤ wr.heap.size := Nat.le_trans HV.out.2 HO.out.2.size
    by_cases hlt : i < 8
    · have h1 : (i : Int) < 8 := by omega
      have e1 : IntKind.i64.wrap (8 * (i : Int)) = 8 * (i : Int) := i64_nat _ (by omega) (by omega)
      obtain ⟨z, hz⟩ : ∃ z, z = Wire.byt x i := ⟨_, rfl⟩
      have e2 : (x : Int) / 2 ^ (8 * i) % 256 = (z : Int) := by rw [hz]; exact byt_int x i
      have e3 : IntKind.i64.wrap ((i : Int) + 1) = (i : Int) + 1 := i64_nat _ (by omega) (by omega)
      obtain ⟨b, c, w', hr, ho, hb⟩ := push z HO.out.1 (by omega) hb0 (thenB k g (Wire.byt x)) (fun _ _ => rfl) (by unfold thenB; rw [if_neg (by omega), Nat.add_sub_cancel_left, hz])
      have HQ := Lib.hid hr
      have HN := Lib.hid (show OR w' base (sl8 b (k + i + 1) c) (k + (i + 1)) (thenB k g (Wire.byt x)) ∧ Below base w w' from ⟨ho, HO.out.2.trans hb⟩)
      clear hr ho hb HO hz
      go_wp2_with (at_builtin; refine wpList_append_run rfl _ _ 22 rfl _ _ _ w' rfl rfl HQ.out ?_)
      go_roundw
      case rel => exact ⟨i + 1, by go_num, by omega, HN⟩
      case measure => simp [intOf]; omega
    · obtain rfl : i = 8 := by omega
      obtain ⟨b, c, rfl, _⟩ := HO.out.1.read (by omega)
      go_wp2
      go_ret
      exact ⟨b, c, rfl, HO.out.1, HO.out.2⟩
/-- Behind i rounds of Eight. -/
def EI (w : World) (x i : Nat) (v : Value) (wr : World) : Prop := Below w.heap.size w wr ∧ OR wr w.heap.size v i (Wire.byt x)
def RList (w : World) (n : Nat) (f : Nat → Nat) (e : Ending) (w' : World) : Prop := ∃ g c, e = .returned (sl8 g n c) ∧ OR w' w.heap.size (sl8 g n c) n f ∧ Below w.heap.size w w'
set_option maxHeartbeats 1000000 in
set_option maxRecDepth 100000 in
theorem eight_any (x : Nat) (w : World) (hx : x < 18446744073709551616) :
    Calls Tryd.prog 29 #[.int .u64 (x : Int)] w (RList w 8 (Wire.byt x)) := by
  go_enter Tryd.func29, Tryd.ntmps29
  go_wp2
  go_loopw [0, 3, 4] (fun p s t wr => ∃ i y : Nat, i ≤ 8 ∧ p = .int .u64 y ∧ t = .int .i64 i ∧ Hid (y = x / 256 ^ i) ∧ Hid (EI w x i s wr)) (fun _ _ t _ => 8 - (intOf t).toNat)
  case atStart => exact ⟨0, x, by omega, rfl, rfl, by simp [Hid], ⟨Below.refl _ _, OR.nil _ _ _⟩⟩
  case round =>
    obtain ⟨i, y, hi, rfl, rfl, HY, HE⟩ := hrel
    by_cases hlt : i < 8
    · obtain ⟨z, hz⟩ : ∃ z, z = y % 256 := ⟨_, rfl⟩
      obtain ⟨y2, hy2⟩ : ∃ z, z = y / 256 := ⟨_, rfl⟩
      have e1 : (y : Int) % 256 = (z : Int) := by omega
      have e2 : (y : Int) / 256 = (y2 : Int) := by omega
      have hy : y ≤ x := by rw [HY.out]; exact Nat.div_le_self _ _
      have e4 : IntKind.u64.wrap (y2 : Int) = (y2 : Int) := by rw [u64w]; omega
      have e3 : IntKind.u8.wrap (z : Int) = (z : Int) := by rw [u8w]; omega
      obtain ⟨g, c, w', hr, ho, hb⟩ := push z HE.out.2 (by omega) HE.out.1.size (Wire.byt x) (fun _ _ => rfl) (by unfold Wire.byt; rw [hz, HY.out])
      have HQ := Lib.hid hr
      have HN := Lib.hid (show EI w x (i + 1) (sl8 g (i + 1) c) w' from ⟨HE.out.1.trans hb, ho⟩)
      have HY2 := Lib.hid (show y2 = x / 256 ^ (i + 1) by rw [hy2, HY.out, Nat.div_div_eq_div_mul, Nat.pow_succ])
      clear hr ho hb HE HY hz hy2 hy
      go_wp2_with (at_builtin; refine wpList_append_run rfl _ _ 22 rfl _ _ _ w' rfl rfl HQ.out ?_)
      go_roundw
      case rel => exact ⟨i + 1, y2, by omega, rfl, by go_num, HY2, HN⟩
      case measure => simp [intOf]; omega
    · obtain rfl : i = 8 := by omega
      obtain ⟨g, c, rfl, _, _, _, _⟩ := HE.out.2.read (by omega)
      go_wp2
      go_ret
      exact ⟨g, c, rfl, HE.out.2, HE.out.1⟩
end Go.Proofs.YtoeohodajoibjaaDoor
