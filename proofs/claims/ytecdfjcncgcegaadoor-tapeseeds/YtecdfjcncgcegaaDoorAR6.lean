/- Contracts of the document's own Eight and Whole. -/
import Derived.Test.YtecdfjcncgcegaaDoorAR5
import Derived.Test.YtecdfjcncgcegaaDoorAL4a
namespace Go.Proofs.YtecdfjcncgcegaaDoor
open Go.RowKit

/-- Behind i rounds of Eight. -/
def EI (w : World) (x i : Nat) (v : Value) (wr : World) : Prop := Below w.heap.size w wr ∧ OR wr w.heap.size v i (Aes.byt x)
def RList (w : World) (n : Nat) (f : Nat → Nat) (e : Ending) (w' : World) : Prop := ∃ g c, e = .returned (sl8 g n c) ∧ OR w' w.heap.size (sl8 g n c) n f ∧ Below w.heap.size w w'
theorem EI.step {w wr : World} {x i z : Nat} {v : Value} (h : EI w x i v wr) (hi : i < 8) (hz : z = Aes.byt x i) :
    ∃ g c w', (Builtin.append_ #[32, 32] 32 #[v, .slice (some ⟨wr.heap.size, 0, none⟩) 1 1]).run Tryd.prog (wr.alloc (.cells #[.int .u8 (z : Int)] 5)) = .ok (sl8 g (i + 1) c) w' ∧ EI w x (i + 1) (sl8 g (i + 1) c) w' := by
  subst hz
  obtain ⟨h0, h3⟩ := h
  obtain ⟨v', w', hr, ho, hb⟩ := append_ownB (wr.alloc (.cells #[.int .u8 (Aes.byt x i : Int)] 5)) w.heap.size v i 1 (Aes.byt x) (fun _ => Aes.byt x i) ⟨wr.heap.size, 0, none⟩ 1 (h3.alloc _) (OR.one wr (Aes.byt x i)) (by omega) (by have := h0.size; simp; omega)
  have hb' : Below w.heap.size w w' := (h0.alloc h0.size _).trans hb
  obtain ⟨g, c, rfl, _, _, _, _⟩ := ho.read (by omega)
  refine ⟨g, c, w', hr, hb', OR.congr ho fun j hj => ?_⟩
  unfold thenB
  split
  · rfl
  · rw [show j = i by omega]
set_option maxHeartbeats 1000000 in
set_option maxRecDepth 100000 in
theorem eight_any (x : Nat) (w : World) (hx : x < 18446744073709551616) :
    Calls Tryd.prog 26 #[.int .u64 (x : Int)] w (RList w 8 (Aes.byt x)) := by
  go_enter Tryd.func26, Tryd.ntmps26
  go_wp2
  go_loopw [0, 3, 4] (fun p s t wr => ∃ i y : Nat, i ≤ 8 ∧ p = .int .u64 y ∧ t = .int .i64 i ∧ Hid (y = x / 256 ^ i) ∧ Hid (EI w x i s wr)) (fun _ _ t _ => 8 - (intOf t).toNat)
  case atStart => exact ⟨0, x, by omega, rfl, rfl, by simp [Hid], ⟨Below.refl _ _, OR.nil _ _ _⟩⟩
  case round =>
    obtain ⟨i, y, hi, rfl, rfl, HY, HE⟩ := hrel
    by_cases hlt : i < 8
    · obtain ⟨z, hz⟩ : ∃ z, z = y % 256 := ⟨_, rfl⟩
      obtain ⟨y2, hy2⟩ : ∃ z, z = y / 256 := ⟨_, rfl⟩
      have e1 : (y : Int) % 256 = (z : Int) := by omega
      have e2 : (y : Int) / 256 = (y2 : Int) := by omega
      have hy : y ≤ x := by rw [HY.out]; exact Nat.div_le_self _ _
      have e4 : IntKind.u64.wrap (y2 : Int) = (y2 : Int) := by rw [u64w]; omega
      have e3 : IntKind.u8.wrap (z : Int) = (z : Int) := by rw [u8w]; omega
      obtain ⟨g, c, w', hr, hE⟩ := HE.out.step hlt (show z = Aes.byt x i by unfold Aes.byt; rw [hz, HY.out])
      have HQ := Lib.hid hr
      have HN := Lib.hid hE
      have HY2 := Lib.hid (show y2 = x / 256 ^ (i + 1) by rw [hy2, HY.out, Nat.div_div_eq_div_mul, Nat.pow_succ])
      clear hr hE HE HY hz hy2 hy
      go_wp2_with (at_builtin; refine wpList_append_run rfl _ _ 32 rfl _ _ _ w' rfl rfl HQ.out ?_)
      go_roundw
      case rel => exact ⟨i + 1, y2, by omega, rfl, by go_num, HY2, HN⟩
      case measure => simp [intOf]; omega
    · obtain rfl : i = 8 := by omega
      obtain ⟨g, c, rfl, _, _, _, _⟩ := HE.out.2.read (by omega)
      go_wp2
      go_ret
      exact ⟨g, c, rfl, HE.out.2, HE.out.1⟩
def hsum (f : Nat → Nat) : Nat → Nat
  | 0 => 0
  | j + 1 => hsum f j * 256 + f (7 - j)
theorem hsum_lt (f : Nat → Nat) (hf : ∀ i, f i < 256) : ∀ j, hsum f j < 256 ^ j
  | 0 => by simp [hsum]
  | j + 1 => by
    have := hsum_lt f hf j
    have := hf (7 - j)
    rw [Nat.pow_succ]; show hsum f j * 256 + f (7 - j) < _
    omega
theorem hsum_full (f : Nat → Nat) : hsum f 8 = Aes.psum f 0 8 := by
  rw [Aes.psum8]
  simp only [hsum, Nat.zero_add, Nat.reduceSub]
  omega
set_option maxHeartbeats 1000000 in
set_option maxRecDepth 100000 in
theorem whole_any (g o c : Nat) (f : Nat → Nat) (w : World) (hA : AtB w ⟨g, o, none⟩ 8 f) (hf : ∀ i, f i < 256) :
    Calls Tryd.prog 27 #[.slice (some ⟨g, o, none⟩) 8 c] w fun e w' => e = .returned (.int .u64 (Aes.psum f 0 8 : Int)) ∧ w = w' := by
  have HA := Lib.hid (And.intro hA hf)
  clear hA hf
  go_enter Tryd.func27, Tryd.ntmps27
  go_wp2
  go_loopw [3, 4] (fun p t wr => ∃ (j h : Nat) (z : Int), j ≤ 8 ∧ p = .int .u64 h ∧ t = .int .i64 z ∧ Hid (h = hsum f j) ∧ Hid (z = 7 - (j : Int)) ∧ Hid (w = wr)) (fun _ t _ => (intOf t + 1).toNat)
  case atStart => exact ⟨0, 0, 7, by omega, rfl, rfl, rfl, rfl, rfl⟩
  case round =>
    obtain ⟨j, h, z, hj, rfl, rfl, HH, HZ, HW⟩ := hrel
    obtain rfl := HW.out
    by_cases hlt : j < 8
    · obtain ⟨k, hk⟩ : ∃ k : Nat, k = 7 - j := ⟨_, rfl⟩
      have hz : z = (k : Int) := by rw [HZ.out]; omega
      subst hz
      have hb := hsum_lt f HA.out.2 j
      have hb2 := hsum_lt f HA.out.2 (j + 1)
      have hp : 256 ^ (j + 1) ≤ 256 ^ 8 := Nat.pow_le_pow_right (by omega) (by omega)
      have hs : hsum f (j + 1) = h * 256 + f k := by rw [HH.out, hk]; rfl
      have c1 := AtB.cell HA.out.1 k (by omega)
      have hf := HA.out.2 k
      obtain ⟨h2, hh2⟩ : ∃ z, z = h * 256 := ⟨_, rfl⟩
      obtain ⟨h3, hh3⟩ : ∃ z, z = h2 + f k := ⟨_, rfl⟩
      have e1 : IntKind.u64.wrap ((h : Int) * 256) = (h2 : Int) := by rw [u64w]; omega
      have e2 : IntKind.u64.wrap ((f k : Int)) = (f k : Int) := by rw [u64w]; omega
      have e3 : IntKind.u64.wrap ((h2 : Int) + (f k : Int)) = (h3 : Int) := by rw [u64w]; omega
      have e4 : (k : Int) < 8 := by omega
      have H3 := Lib.hid (show h3 = hsum f (j + 1) by omega)
      have HK := Lib.hid (show (k : Int) - 1 = 7 - ((j + 1 : Nat) : Int) by omega)
      have e5 : IntKind.i64.wrap ((k : Int) - 1) = (k : Int) - 1 := by simp [IntKind.wrap, IntKind.bits, IntKind.signed]; omega
      clear hb hb2 hp hs hf hh2 hh3 hk
      go_wp2
      go_roundw
      case rel => exact ⟨j + 1, h3, _, by omega, rfl, rfl, H3, HK, Lib.hid trivial⟩
      case measure => simp [intOf]
    · obtain rfl : j = 8 := by omega
      have hz : z = -1 := by rw [HZ.out]; omega
      subst hz
      go_wp2
      go_ret
      exact ⟨ret_int (by rw [HH.out, hsum_full]), rfl⟩
end Go.Proofs.YtecdfjcncgcegaaDoor
