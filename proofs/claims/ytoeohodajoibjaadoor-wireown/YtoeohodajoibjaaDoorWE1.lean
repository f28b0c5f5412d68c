/- Contracts: wordAt, Decode. -/
import Derived.Test.YtoeohodajoibjaaDoorWT2
namespace Go.Proofs.YtoeohodajoibjaaDoor
open Go.RowKit

theorem or_psum (f : Nat → Nat) (o n : Nat) (hf : ∀ i, f i < 256) (hn : n < 8) : bits .or .u64 (Wire.psum f o n : Int) (((f (o + n) * 256 ^ n : Nat)) : Int) = (Wire.psum f o (n + 1) : Int) := by
  have h1 := Wire.psum_lt f o hf n
  have h2 := Wire.psum_lt f o hf (n + 1)
  have h8 : (256 : Nat) ^ (n + 1) ≤ 256 ^ 8 := Nat.pow_le_pow_right (by omega) (by omega)
  have e8 : (256 : Nat) ^ 8 = 18446744073709551616 := rfl
  have e : Wire.psum f o (n + 1) = Wire.psum f o n + f (o + n) * 256 ^ n := rfl
  rw [bits_or _ _ (by omega) (by omega), e]
  have hp : (256 : Nat) ^ n = 2 ^ (8 * n) := by rw [Nat.pow_mul]
  rw [hp] at h1 ⊢
  rw [Nat.or_comm, Nat.mul_comm, ← Nat.two_pow_add_eq_or_of_lt h1, Nat.add_comm]
theorem shl8_val (x i y : Nat) (hi : i < 8) (hx : x < 256) (hy : y = x * 256 ^ i) : IntKind.u64.wrap ((x : Int) * 2 ^ (8 * i)) = (y : Int) := by
  have e2 : (x : Int) * 2 ^ (8 * i) = (y : Int) := by
    rw [hy, show (256 : Nat) ^ i = 2 ^ (8 * i) by rw [Nat.pow_mul], Int.natCast_mul, Int.natCast_pow]
    rfl
  have hb : y < 18446744073709551616 := by
    have h1 : (256 : Nat) ^ i ≤ 256 ^ 7 := Nat.pow_le_pow_right (by omega) (by omega)
    have h2 : x * 256 ^ i ≤ 255 * 256 ^ 7 := Nat.mul_le_mul (by omega) h1
    have e8 : (255 : Nat) * 256 ^ 7 = 18374686479671623680 := rfl
    omega
  rw [e2, u64w, Int.emod_eq_of_lt (by omega) (by omega)]
set_option maxHeartbeats 1000000 in
set_option maxRecDepth 100000 in
theorem wordAt_any (A : Option Addr) (L c a : Nat) (f : Nat → Nat) (w : World) (hA : AtBO w A L f) (ha : a + 8 ≤ L) (hL : L ≤ maxLen) (hf : ∀ i, f i < 256) :
    Calls Tryd.prog 28 #[.slice A L c, .int .i64 (a : Int)] w fun e w' => e = .returned (.int .u64 (Wire.psum f a 8 : Int)) ∧ w = w' := by
  have HM := Lib.hid (show (L : Int) < 9223372036854775808 by unfold maxLen at hL; omega)
  have HA := Lib.hid (And.intro hA (And.intro hf ha))
  clear hA hf hL ha
  go_enter Tryd.func28, Tryd.ntmps28
  go_wp2
  go_loopw [5, 7] (fun v p wr => ∃ i V : Nat, v = .int .u64 (V : Int) ∧ p = .int .i64 i ∧ Hid (i ≤ 8) ∧ Hid (V = Wire.psum f a i) ∧ Hid (w = wr)) (fun _ p _ => 8 - (intOf p).toNat)
  case atStart => exact ⟨0, 0, rfl, rfl, Nat.zero_le _, rfl, rfl⟩
  case round =>
    obtain ⟨i, V, rfl, rfl, HI, HV, HW⟩ := hrel
    obtain rfl := HW.out
    by_cases hlt : i < 8
    · have hlt1 : (i : Int) < 8 := by omega
      have hm := HM.out
      have ha := HA.out.2.2
      obtain ⟨q, hq⟩ : ∃ q, q = a + i := ⟨_, rfl⟩
      obtain ⟨ad, rfl, hc⟩ := HA.out.1 q (by omega)
      have hqL : (q : Int) < (L : Int) := by omega
      have hfq := HA.out.2.1 q
      have hor := or_psum f a i HA.out.2.1 hlt
      obtain ⟨y, hy⟩ : ∃ y, y = f q * 256 ^ i := ⟨_, rfl⟩
      rw [← hq, ← hy, ← HV.out] at hor
      obtain ⟨V2, hV2⟩ : ∃ z, z = Wire.psum f a (i + 1) := ⟨_, rfl⟩
      rw [← hV2] at hor
      have e1 : IntKind.i64.wrap ((a : Int) + (i : Int)) = (q : Int) := by rw [i64_nat _ (by omega) (by omega)]; omega
      have e2 : IntKind.u64.wrap (f q : Int) = (f q : Int) := by rw [u64w]; omega
      have e3 : IntKind.i64.wrap (8 * (i : Int)) = 8 * (i : Int) := i64_nat _ (by omega) (by omega)
      have e4 := shl8_val (f q) i y hlt hfq hy
      have e5 : IntKind.i64.wrap ((i : Int) + 1) = (i : Int) + 1 := i64_nat _ (by omega) (by omega)
      have HN := Lib.hid (And.intro (show i + 1 ≤ 8 by omega) hV2)
      clear hm ha hq hfq hy hV2 hlt
      go_wp2
      go_roundw
      case rel => exact ⟨i + 1, V2, rfl, by have := HN.out.1; go_num, HN.out.1, HN.out.2, Lib.hid trivial⟩
      case measure => have := HN.out.1; simp [intOf]; omega
    · obtain rfl : i = 8 := by have := HI.out; omega
      go_wp2
      go_ret
      exact ⟨ret_int (by rw [HV.out]), rfl⟩
theorem made_words (n : Nat) : madeCells (Value.int .u64 0).cells n = (wordsOf n fun _ => 0).toArray := by
  have e : ∀ j, j < n → (madeCells (Value.int .u64 0).cells n)[j]? = some (.int .u64 0) := fun j hj => by
    simp [madeCells, hj, Value.cells, Nat.mod_one]
  apply Array.ext_getElem?
  intro j
  have e2 : (wordsOf n fun _ => 0).toArray[j]? = (wordsOf n fun _ => 0)[j]? := by simp
  rw [e2]
  by_cases hj : j < n
  · rw [wordsOf_get _ _ _ hj, e j hj]
  · have e3 : (madeCells (Value.int .u64 0).cells n)[j]? = none := Array.getElem?_eq_none (by rw [size_madeCells]; omega)
    have e4 : (wordsOf n fun _ => 0)[j]? = none := List.getElem?_eq_none (by rw [wordsOf_length]; omega)
    rw [e3, e4]
/-- make([]uint64, n). -/
theorem makeW (w : World) (n : Nat) (hn : n ≤ 65536) : (Instr.makeSlice 34 (.int .i64 (n : Int)) (.int .i64 (n : Int))).run Tryd.prog w = .ok (.slice (some ⟨w.heap.size, 0, none⟩) n n) (w.alloc (.cells (wordsOf n fun _ => 0).toArray 46)) := by
  obtain ⟨i0, hi, hz0, hz1, hz2⟩ := infoW
  have := run_make (P := Tryd.prog) w 34 46 i0 (.int .u64 0) Tryd.underlying34 hi hz0 .i64 .i64 (n : Int) (n : Int) (by omega) (by omega) (by rw [hz2]; omega) (by omega)
  rw [hz1, Int.toNat_natCast, Nat.mul_one, made_words] at this
  exact this
theorem Own.new (w : World) (n : Nat) (g : Nat → Int) : Own (w.alloc (.cells (wordsOf n g).toArray 46)) w.heap.size n g := heap_alloc_new w _
theorem Own.far {w : World} {g n : Nat} {f : Nat → Int} (h : Own w g n f) {p : Addr} (hp : g ≠ p.block) (u : Value) : Own (w.setCell p u) g n f := (Below.heap_setCell w p u g hp).trans h
theorem Msg.far {w : World} {g : Nat} {r : Int} {v : Value} (h : Msg w g r v) {p : Addr} (hp : g ≠ p.block) (u : Value) : Msg (w.setCell p u) g r v := (Below.heap_setCell w p u g hp).trans h
/-- What Decode answers of bytes that are no message's. -/
def DecBad (w : World) (e : Ending) (w' : World) : Prop := ∃ p a, e = .returned (.tuple #[msg 0 (.slice none 0 0), chain [(p, a)] 50]) ∧ Below w.heap.size w w'
def decW (f : Nat → Nat) (o i : Nat) : Int := (Wire.psum f (o + 8 * i) 8 : Int)
/-- What Decode answers of a message's bytes: r, and n words from o on. -/
def DecOk (w : World) (f : Nat → Nat) (r n o : Nat) (e : Ending) (w' : World) : Prop :=
  ∃ g, e = .returned (.tuple #[msg r (.slice (some ⟨g, 0, none⟩) n n), .nilIface]) ∧ Own w' g n (decW f o) ∧ w.heap.size ≤ g ∧ Below w.heap.size w w'
/-- The memory of Decode ahead of its words. -/
def DecI (w : World) (wr : World) : Prop := Below w.heap.size w wr ∧ Msg wr w.heap.size 0 (.slice none 0 0)
theorem DecI.start (w : World) : DecI w (w.alloc (.cells #[.int .i64 0, .slice none 0 0] 36)) := ⟨(Below.refl _ _).alloc (Nat.le_refl _) _, Msg.new w 0 _⟩
theorem DecI.below {w wr w2 : World} (h : DecI w wr) (hb : Below wr.heap.size wr w2) : DecI w w2 := ⟨h.1.trans (hb.mono h.1.size), h.2.below hb h.2.lt⟩
theorem DecI.done {w wr : World} (h : DecI w wr) (r : Int) (v : Value) : Below w.heap.size w ((wr.setCell ⟨w.heap.size, 0, none⟩ (.int .i64 r)).setCell ⟨w.heap.size, 1, none⟩ v) :=
  (h.1.setCell (p := ⟨w.heap.size, 0, none⟩) (Nat.le_refl _) _).setCell (p := ⟨w.heap.size, 1, none⟩) (Nat.le_refl _) _
def sRound : ByteArray := { data := #[114, 111, 117, 110, 100] }
def sCount : ByteArray := { data := #[99, 111, 117, 110, 116] }
def sWords : ByteArray := { data := #[119, 111, 114, 100, 115] }
end Go.Proofs.YtoeohodajoibjaaDoor
