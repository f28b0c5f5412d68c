/- Contracts: appendNumber, Seal, copyOf. -/
import Derived.Test.YteadpnododjeaaaDoorLS1
import Derived.Laws.ShiftsVar
namespace Go.Proofs.YteadpnododjeaaaDoor
open Go.RowKit

set_option maxHeartbeats 1000000 in
set_option maxRecDepth 100000 in
theorem copyOf_any (A : Option Addr) (n c : Nat) (f : Nat → Nat) (w : World) (hA : AtBO w A n f) (hf : ∀ i, f i < 256) (hn : n ≤ 140737488355328) :
    Calls Tryd.prog 33 #[.slice A n c] w fun e w' => e = .returned (frV ⟨w.heap.size, n, n, f⟩) ∧ Lies w' w.heap.size ⟨w.heap.size, n, n, f⟩ ∧ Below w.heap.size w w' ∧ w'.heap.size = w.heap.size + 1 := by
  have h1 := makeBs w n (by omega)
  have hb : Below w.heap.size w (w.alloc (.cells (bys n fun _ => 0) 5)) := (Below.refl _ _).alloc (Nat.le_refl _) _
  have ho := OwnB.new w n 5 (fun _ => 0)
  have h2 := fun ty => run_copyB _ w.heap.size n c n A f _ ty ho (hA.below hb)
  have HE := Lib.hid (And.intro (Lies.ofOwn (ho.setRow f) (Nat.le_refl _) hf hn) (And.intro (Below.row hb (Nat.le_refl _) (bys n f)) (show ((w.alloc (.cells (bys n fun _ => 0) 5)).setRow w.heap.size (bys n f)).heap.size = w.heap.size + 1 by simp [World.setRow])))
  clear hA hn hb ho hf
  go_enter Tryd.func33, Tryd.ntmps33
  go_wp2
  go_ret
  exact ⟨rfl, HE.out⟩
/-- One byte more onto a list of the call's own. -/
theorem push {w : World} {base k : Nat} {v : Value} {g : Nat → Nat} (x : Nat) (h : OR w base v k g) (hk : k < 149000000000000) (hbase : base ≤ w.heap.size) (g2 : Nat → Nat) (h2 : ∀ i, i < k → g2 i = g i) (h3 : g2 k = x) :
    ∃ b c w', (Builtin.append_ #[23, 23] 23 #[v, .slice (some ⟨w.heap.size, 0, none⟩) 1 1]).run Tryd.prog (w.alloc (.cells #[.int .u8 (x : Int)] 5)) = .ok (sl8 b (k + 1) c) w' ∧ OR w' base (sl8 b (k + 1) c) (k + 1) g2 ∧ Below base w w' := by
  obtain ⟨v', w', hr, ho, hb⟩ := append_ownB (w.alloc (.cells #[.int .u8 (x : Int)] 5)) base v k 1 g (fun _ => x) ⟨w.heap.size, 0, none⟩ 1 (h.alloc _) (OR.one w x) (by omega) (by simp; omega)
  obtain ⟨b, c, rfl, _⟩ := ho.read (by omega)
  refine ⟨b, c, w', hr, OR.congr ho fun i hi => ?_, ((Below.refl base w).alloc hbase _).trans hb⟩
  unfold thenB
  split
  · rename_i h; exact (h2 i h).symm
  · rw [show i = k by omega, h3]
theorem by4_int (x i : Nat) : (x : Int) / 2 ^ (8 * i) % 256 = (Link.by4 x i : Int) := by
  unfold Link.by4
  rw [show (256 : Nat) ^ i = 2 ^ (8 * i) by rw [Nat.pow_mul], Int.natCast_emod, Int.natCast_ediv, Int.natCast_pow]
  rfl
/-- What a writer of bytes answers. -/
def Wrote (w : World) (base k : Nat) (g : Nat → Nat) (m : Nat) (h : Nat → Nat) (e : Ending) (w' : World) : Prop :=
  ∃ b c, e = .returned (sl8 b (k + m) c) ∧ OR w' base (sl8 b (k + m) c) (k + m) (thenB k g h) ∧ Below base w w'
set_option maxHeartbeats 1000000 in
set_option maxRecDepth 100000 in
theorem appendNumber_any (v : Value) (base k : Nat) (g : Nat → Nat) (x : Nat) (w : World) (hv : OR w base v k g) (hk0 : 0 < k) (hk : k ≤ 141000000000000) (hbase : base ≤ w.heap.size) :
    Calls Tryd.prog 28 #[v, .int .u32 (x : Int)] w (Wrote w base k g 4 (Link.by4 x)) := by
  have HV := Lib.hid (And.intro hv (And.intro hbase (And.intro hk0 hk)))
  clear hv hbase hk hk0
  go_enter Tryd.func28, Tryd.ntmps28
  go_wp2
  go_loopw [0, 6] (fun v p wr => ∃ i : Nat, p = .int .i64 i ∧ i ≤ 4 ∧ Hid (OR wr base v (k + i) (thenB k g (Link.by4 x)) ∧ Below base w wr)) (fun _ p _ => 4 - (intOf p).toNat)
  case atStart => exact ⟨0, rfl, by omega, OR.congr HV.out.1 (fun i hi => by unfold thenB; rw [if_pos (show i < k from hi)]), Below.refl _ _⟩
  case round =>
    obtain ⟨i, rfl, hi, HO⟩ := hrel
    have hb0 : base ≤ wr.heap.size := Nat.le_trans HV.out.2.1 HO.out.2.size
    by_cases hlt : i < 4
    · have h1 : (i : Int) < 4 := by omega
      have e1 : IntKind.i64.wrap (8 * (i : Int)) = 8 * (i : Int) := i64_nat _ (by omega) (by omega)
      obtain ⟨z, hz⟩ : ∃ z, z = Link.by4 x i := ⟨_, rfl⟩
      have e2 : (x : Int) / 2 ^ (8 * i) % 256 = (z : Int) := by rw [hz]; exact by4_int x i
      have e3 : IntKind.i64.wrap ((i : Int) + 1) = (i : Int) + 1 := i64_nat _ (by omega) (by omega)
      obtain ⟨b, c, w', hr, ho, hb⟩ := push z HO.out.1 (by have := HV.out.2.2.2; omega) hb0 (thenB k g (Link.by4 x)) (fun _ _ => rfl) (by unfold thenB; rw [if_neg (by omega), Nat.add_sub_cancel_left, hz])
      have HQ := Lib.hid hr
      have HN := Lib.hid (show OR w' base (sl8 b (k + i + 1) c) (k + (i + 1)) (thenB k g (Link.by4 x)) ∧ Below base w w' from ⟨ho, HO.out.2.trans hb⟩)
      clear hr ho hb HO hz
      go_wp2_with (at_builtin; refine wpList_append_run rfl _ _ 23 rfl _ _ _ w' rfl rfl HQ.out ?_)
      go_roundw
      case rel => exact ⟨i + 1, by go_num, by omega, HN⟩
      case measure => simp [intOf]; omega
    · obtain rfl : i = 4 := by omega
      obtain ⟨b, c, rfl, _⟩ := HO.out.1.read (by omega)
      go_wp2
      go_ret
      exact ⟨b, c, rfl, HO.out.1, HO.out.2⟩
/-- make([]byte, 0, n). -/
theorem makeCap (w : World) (n : Nat) (hn : n ≤ 281474976710656) : (Instr.makeSlice 23 (.int .i64 0) (.int .i64 (n : Int))).run Tryd.prog w = .ok (sl8 w.heap.size 0 n) (w.alloc (.cells (bys n fun _ => 0) 5)) := by
  obtain ⟨i0, hi, hz0, hz1, hz2⟩ := infoB
  have := run_make (P := Tryd.prog) w 23 5 i0 (.int .u8 0) Tryd.underlying23 hi hz0 .i64 .i64 0 (n : Int) (by omega) (by omega) (by rw [hz2]; omega) (by omega)
  rw [hz1, Int.toNat_natCast, Nat.mul_one, made_bytes] at this
  exact this
/-- append(v, payload...), the payload nil or not. -/
theorem append_pay (w : World) (base : Nat) (v : Value) (k n c : Nat) (g f : Nat → Nat) (A : Option Addr) (hv : OR w base v k g) (hA : AtBO w A n f) (h0 : A = none → n = 0 ∧ c = 0) (hk : 0 < k) (hn : k + n ≤ 150000000000000) (hbase : base ≤ w.heap.size) :
    ∃ b d w', (Builtin.append_ #[23, 23] 23 #[v, .slice A n c]).run Tryd.prog w = .ok (sl8 b (k + n) d) w' ∧ OR w' base (sl8 b (k + n) d) (k + n) (thenB k g f) ∧ Below base w w' := by
  obtain ⟨i0, hi, hz0, hz1, hz2⟩ := infoB
  rcases A with _ | ad
  · obtain ⟨rfl, rfl⟩ := h0 rfl
    obtain ⟨b, d, rfl, _⟩ := hv.read hk
    exact ⟨b, d, w, run_append_owned_none _ base 23 23 5 i0 1 Tryd.underlying23 hi _ k _ hv, OR.congr hv (fun i hi => by unfold thenB; rw [if_pos (show i < k from hi)]), Below.refl _ _⟩
  · have hA1 : AtB w ad n f := fun i hi => by
      obtain ⟨ad', e, hc⟩ := hA i hi
      cases e
      exact hc
    obtain ⟨v', w', hr, ho, hb⟩ := append_ownB w base v k n g f ad c hv hA1 hn hbase
    obtain ⟨b, d, rfl, _⟩ := ho.read (by omega)
    exact ⟨b, d, w', hr, ho, hb⟩
/-- What Seal answers: a frame, in new memory. -/
def Sealed (w : World) (kind num n : Nat) (f : Nat → Nat) (e : Ending) (w' : World) : Prop :=
  ∃ x : Fr, e = .returned (frV x) ∧ Lies w' w.heap.size x ∧ x.len = n + 9 ∧ x.dat = Link.sealB kind num n f ∧ Below w.heap.size w w'
theorem ahead_bytes (kind num : Nat) (f : Nat → Nat) (i : Nat) : thenB 5 (thenB 1 (fun _ => kind) (Link.by4 num)) f i = Link.ahead kind num f i := by
  unfold thenB Link.ahead
  by_cases h0 : i = 0
  · subst h0; simp
  · by_cases h5 : i < 5
    · rw [if_pos h5, if_neg (by omega), if_neg h0, if_pos h5]
    · rw [if_neg h5, if_neg h0, if_neg h5]
theorem seal_bytes (kind num n : Nat) (f : Nat → Nat) (i : Nat) : thenB (n + 5) (Link.ahead kind num f) (Link.by4 (Link.sum kind num n f)) i = Link.sealB kind num n f i := rfl
end Go.Proofs.YteadpnododjeaaaDoor
