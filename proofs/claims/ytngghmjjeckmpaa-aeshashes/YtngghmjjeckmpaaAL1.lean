/- Labels: Xor and Double of package ring, Double of the document's own answers. -/
import Derived.Test.YtngghmjjeckmpaaAB0
namespace Go.Proofs.Ytngghmjjeckmpaa
open Go.RowKit

/-- What Spread answers. -/
def spr (x : Int) : Int := if x % 2 = 1 then 18446744073709551615 else 0
theorem and_one (x : Int) : bits .and .u64 x 1 = x % 2 := by
  have h : (BitVec.ofInt 64 x &&& BitVec.ofInt 64 1).toNat = (BitVec.ofInt 64 x).toNat % 2 := by
    rw [BitVec.toNat_and]
    show _ &&& (1 : Nat) = _
    exact Nat.and_one_is_mod _
  show IntKind.u64.wrap ((BitVec.ofInt 64 x &&& BitVec.ofInt 64 1).toNat : Int) = _
  rw [h, u64w, BitVec.toNat_ofInt]
  omega
theorem spr_eq (x : Int) : IntKind.u64.wrap (-bits .and .u64 x 1) = spr x := by
  rw [and_one, u64w]; unfold spr
  split <;> omega
set_option maxHeartbeats 400000 in
theorem spread_any (x : Int) (w : World) :
    Calls Try.prog 36 #[.int .u64 x] w fun e w' => e = .returned (.int .u64 (spr x)) ∧ w = w' := by
  go_enter Try.func36, Try.ntmps36
  go_wp2
  go_ret
  exact ⟨ret_int (spr_eq x), rfl⟩
theorem Try.info33 : (Try.prog.info? 33).map (fun i => (i.zero, i.size, i.bytes)) = some (some (.int .u64 0), 1, 8) := by kernel_rfl
abbrev lab (a b : Int) : Value := .agg #[.int .u64 a, .int .u64 b]
/-- Two labels compared. -/
theorem run_eql_lab (w : World) (a b c d : Int) : (Op.equalIn 10000 38 (lab a b) (lab c d)).run Try.prog w = .ok ((a == c) && (b == d)) w := by
  obtain ⟨i0, hi, _, hz1, _⟩ := info_parts Try.info33
  have hs : (sizeOf 33).run Try.prog w = .ok 1 w := by simp [sizeOf, typeInfo, hi, hz1]
  show (Op.equalIn (9999 + 1) 38 _ _).run Try.prog w = _
  unfold Op.equalIn
  simp only [Sem.run_bind, run_underlying Try.underlying38, Result.andThen_ok, hs]
  have h1 : ∀ (x y : Int), (part 33 #[Value.int .u64 x, Value.int .u64 y] 0).run Try.prog w = .ok (.int .u64 x) w := by
    intro x y; simp [go_sem, part]
  have h2 : ∀ (x y : Int), (part 33 #[Value.int .u64 x, Value.int .u64 y] 1).run Try.prog w = .ok (.int .u64 y) w := by
    intro x y; simp [go_sem, part]
  have h3 : ∀ (x y : Int), (Op.equalIn 9999 33 (.int .u64 x) (.int .u64 y)).run Try.prog w = .ok (x == y) w := fun x y => run_equalIn_int w 9998 33 .u64 .u64 x y Try.underlying33
  simp only [Std.Legacy.Range.forIn_eq_forIn_range', Std.Legacy.Range.size]
  simp only [show List.range' 0 ((2 - 0 + 1 - 1) / 1) 1 = [0, 1] from rfl, List.forIn_cons, List.forIn_nil, Nat.zero_mul, Nat.one_mul, Sem.run_bind, h1, h3, Result.andThen_ok]
  by_cases e : a = c
  · subst e
    by_cases e2 : b = d
    · subst e2; simp [h2, h3]
    · simp [e2, h2, h3]
  · simp [e]
def dlo (a0 a1 : Int) : Int := if 9223372036854775808 ≤ a1 then bits .xor .u64 (a0 * 2 % 18446744073709551616) 135 else a0 * 2 % 18446744073709551616
def dhi (a0 a1 : Int) : Int := a1 * 2 % 18446744073709551616 + a0 / 9223372036854775808
theorem lab_eq {a b c d : Int} (h1 : a = c) (h2 : b = d) : lab a b = lab c d := by rw [h1, h2]
set_option maxHeartbeats 1000000 in
theorem rdouble_any (a0 a1 : Int) (w : World) (h0 : 0 ≤ a0) (h0' : a0 < 18446744073709551616) (h1 : 0 ≤ a1) (h1' : a1 < 18446744073709551616) :
    Calls Try.prog 35 #[lab a0 a1] w fun e w' => e = .returned (lab (dlo a0 a1) (dhi a0 a1)) ∧ Below w.heap.size w w' := by
  have q1 := Lib.hid (u64w (a0 * 2))
  have q2 := Lib.hid (u64w (a1 * 2))
  have q3 := Lib.hid (u64w (IntKind.u64.wrap (a1 * 2) + a0 / 9223372036854775808))
  by_cases h : 9223372036854775808 ≤ a1
  · go_enter Try.func35, Try.ntmps35
    go_wp2
    refine bodyPost_ret (v := lab (bits .xor .u64 (IntKind.u64.wrap (a0 * 2)) 135) (IntKind.u64.wrap (IntKind.u64.wrap (a1 * 2) + a0 / 9223372036854775808))) (by simp [results, Try.results35, go_sem]) rfl ⟨?_, ?_⟩
    · rw [q3.out, q2.out, q1.out]; congr 1; apply lab_eq
      · unfold dlo; rw [if_pos h]
      · unfold dhi; omega
    · exact ((Below.refl _ _).alloc (Nat.le_refl _) _).alloc (by simp) _
  · go_enter Try.func35, Try.ntmps35
    go_wp2
    refine bodyPost_ret (v := lab (IntKind.u64.wrap (a0 * 2)) (a1 * 2 + a0 / 9223372036854775808)) (by simp [results, Try.results35, go_sem]) rfl ⟨?_, ?_⟩
    · rw [q1.out]; congr 1; apply lab_eq
      · unfold dlo; rw [if_neg (by omega)]
      · unfold dhi; omega
    · exact ((Below.refl _ _).alloc (Nat.le_refl _) _).alloc (by simp) _
theorem spread_any' (x : Int) (w : World) :
    Calls Try.prog 36 #[.int .u64 x] w fun e w' => e = .returned (.int .u64 (spr x)) ∧ w' = w := (spread_any x w).mono fun _ _ ⟨h, h'⟩ => ⟨h, h'.symm⟩
theorem ofInt_nat (X : Nat) (h : X < 18446744073709551616) : (BitVec.ofInt 64 (X : Int)).toNat = X := by
  rw [BitVec.ofInt_natCast, BitVec.toNat_ofNat]
  exact Nat.mod_eq_of_lt h
theorem bits_xor (X Y : Nat) (hX : X < 18446744073709551616) (hY : Y < 18446744073709551616) : bits .xor .u64 (X : Int) (Y : Int) = ((X ^^^ Y : Nat) : Int) := by
  show IntKind.u64.wrap ((BitVec.ofInt 64 (X : Int) ^^^ BitVec.ofInt 64 (Y : Int)).toNat : Int) = _
  have := (BitVec.ofInt 64 (X : Int) ^^^ BitVec.ofInt 64 (Y : Int)).isLt
  rw [u64w, Int.emod_eq_of_lt (by omega) (by omega), BitVec.toNat_xor, ofInt_nat X hX, ofInt_nat Y hY]
theorem bits_or (X Y : Nat) (hX : X < 18446744073709551616) (hY : Y < 18446744073709551616) : bits .or .u64 (X : Int) (Y : Int) = ((X ||| Y : Nat) : Int) := by
  show IntKind.u64.wrap ((BitVec.ofInt 64 (X : Int) ||| BitVec.ofInt 64 (Y : Int)).toNat : Int) = _
  have := (BitVec.ofInt 64 (X : Int) ||| BitVec.ofInt 64 (Y : Int)).isLt
  rw [u64w, Int.emod_eq_of_lt (by omega) (by omega), BitVec.toNat_or, ofInt_nat X hX, ofInt_nat Y hY]
theorem dlo_ring (a0 a1 : Int) (h1 : 0 ≤ a1) (h1' : a1 < 18446744073709551616) :
    bits .xor .u64 (IntKind.u64.wrap (a0 * 2)) (bits .and .u64 (spr (a1 / 9223372036854775808)) 135) = dlo a0 a1 := by
  rw [u64w]
  unfold dlo
  by_cases h : 9223372036854775808 ≤ a1
  · rw [if_pos h]
    have e : a1 / 9223372036854775808 = 1 := by omega
    rw [e, show bits .and .u64 (spr 1) 135 = 135 by decide +kernel]
  · rw [if_neg h]
    have e : a1 / 9223372036854775808 = 0 := by omega
    rw [e, show bits .and .u64 (spr 0) 135 = 0 by decide +kernel]
    obtain ⟨X, hX⟩ := Int.eq_ofNat_of_zero_le (show 0 ≤ a0 * 2 % 18446744073709551616 by omega)
    rw [hX]
    have := bits_xor X 0 (by omega) (by omega)
    rw [Nat.xor_zero] at this
    exact this
theorem dhi_ring (a0 a1 : Int) (h0 : 0 ≤ a0) (h0' : a0 < 18446744073709551616) :
    bits .or .u64 (IntKind.u64.wrap (a1 * 2)) (a0 / 9223372036854775808) = dhi a0 a1 := by
  rw [u64w]
  unfold dhi
  obtain ⟨X, hX⟩ := Int.eq_ofNat_of_zero_le (show 0 ≤ a1 * 2 % 18446744073709551616 by omega)
  obtain ⟨Y, hY⟩ := Int.eq_ofNat_of_zero_le (show 0 ≤ a0 / 9223372036854775808 by omega)
  rw [hX, hY, bits_or X Y (by omega) (by omega)]
  have hy : Y < 2 ^ 1 := by omega
  have he : X = 2 ^ 1 * (X / 2) := by omega
  rw [he, ← Nat.two_pow_add_eq_or_of_lt hy]
  omega
set_option maxHeartbeats 1000000 in
theorem double_any (a0 a1 : Int) (w : World) (h0 : 0 ≤ a0) (h0' : a0 < 18446744073709551616) (h1 : 0 ≤ a1) (h1' : a1 < 18446744073709551616) :
    Calls Try.prog 19 #[lab a0 a1] w fun e w' => e = .returned (lab (dlo a0 a1) (dhi a0 a1)) ∧ Below w.heap.size w w' := by
  have q1 := Lib.hid (dlo_ring a0 a1 h1 h1')
  have q2 := Lib.hid (dhi_ring a0 a1 h0 h0')
  go_enter Try.func19, Try.ntmps19
  go_wp2
  go_quiet ((go_at_call 36; exact Calls.quiet_of_same (spread_any' _ _)))
  go_wp2
  refine bodyPost_ret (v := lab (bits .xor .u64 (IntKind.u64.wrap (a0 * 2)) (bits .and .u64 (spr (a1 / 9223372036854775808)) 135)) (bits .or .u64 (IntKind.u64.wrap (a1 * 2)) (a0 / 9223372036854775808))) (by simp [results, Try.results19, go_sem]) rfl ⟨?_, ?_⟩
  · rw [q1.out, q2.out]
  · have hb := ((Below.refl w.heap.size w).alloc (Nat.le_refl _) (.cells #[.int .u64 a0, .int .u64 a1] 38)).alloc (by simp) (.cells #[.int .u64 0, .int .u64 0] 38)
    have hd : Below w.heap.size w (((w.alloc (.cells #[.int .u64 a0, .int .u64 a1] 38)).alloc (.cells #[.int .u64 0, .int .u64 0] 38)).drewN nq) := ⟨hb.os, hb.tape, hb.output, hb.size, hb.block⟩
    exact (hd.setCell (by simp) _).setCell (by simp) _

/-- Block g is a label. -/
def Lbl (w : World) (g : Nat) (a b : Int) : Prop := w.heap[g]? = some (.cells #[.int .u64 a, .int .u64 b] 38 (0, 0))
section
variable {w w' : World} {g : Nat} {a b : Int}
theorem Lbl.lt (h : Lbl w g a b) : g < w.heap.size := (Array.getElem?_eq_some_iff.1 h).1
theorem Lbl.cell0 (h : Lbl w g a b) : w.cell? ⟨g, 0, none⟩ = some (.int .u64 a) := by rw [cell_of_row w g 0 _ 38 (0, 0) h]; rfl
theorem Lbl.cell1 (h : Lbl w g a b) : w.cell? ⟨g, 1, none⟩ = some (.int .u64 b) := by rw [cell_of_row w g 1 _ 38 (0, 0) h]; rfl
theorem Lbl.frozen (h : Lbl w g a b) (i : Nat) : w.frozen? ⟨g, i, none⟩ = false := by unfold Lbl at h; simp [World.frozen?, h]
theorem Lbl.set0 (h : Lbl w g a b) (x : Int) : Lbl (w.setCell ⟨g, 0, none⟩ (.int .u64 x)) g x b := by
  unfold Lbl at h ⊢
  simp [World.setCell, Array.getElem?_modify, h]
theorem Lbl.set1 (h : Lbl w g a b) (x : Int) : Lbl (w.setCell ⟨g, 1, none⟩ (.int .u64 x)) g a x := by
  unfold Lbl at h ⊢
  simp [World.setCell, Array.getElem?_modify, h]
theorem Lbl.far (h : Lbl w g a b) {p : Addr} (hp : g ≠ p.block) (u : Value) : Lbl (w.setCell p u) g a b := (Below.heap_setCell w p u g hp).trans h
theorem Lbl.drew (h : Lbl w g a b) : Lbl w.drew g a b := h
theorem Lbl.alloc (h : Lbl w g a b) (o : Obj) : Lbl (w.alloc o) g a b := (Below.heap_alloc w o g h.lt).trans h
theorem Lbl.new (w : World) (a b : Int) : Lbl (w.alloc (.cells #[.int .u64 a, .int .u64 b] 38)) w.heap.size a b := heap_alloc_new w _
end
def XorIn (w : World) (a0 a1 b0 b1 x0 x1 : Int) (wr : World) : Prop :=
  Below w.heap.size w wr ∧ Lbl wr w.heap.size a0 a1 ∧ Lbl wr (w.heap.size + 1) b0 b1 ∧ Lbl wr (w.heap.size + 2) 0 0 ∧ Lbl wr (w.heap.size + 3) x0 x1
set_option maxHeartbeats 1000000 in
set_option maxRecDepth 100000 in
theorem xor_any (a0 a1 b0 b1 : Int) (w : World) :
    Calls Try.prog 34 #[lab a0 a1, lab b0 b1] w fun e w' => e = .returned (lab (bits .xor .u64 a0 b0) (bits .xor .u64 a1 b1)) ∧ Below w.heap.size w w' := by
  go_enter Try.func34, Try.ntmps34
  go_wp2
  go_loopw [7] (fun t wr => ∃ i : Nat, i ≤ 2 ∧ t = .int .i64 i ∧ XorIn w a0 a1 b0 b1 (if i < 1 then 0 else bits .xor .u64 a0 b0) (if i < 2 then 0 else bits .xor .u64 a1 b1) wr) (fun t _ => 2 - (intOf t).toNat)
  case atStart =>
    refine ⟨0, by omega, rfl, ((((Below.refl _ _).alloc (Nat.le_refl _) _).alloc (by simp) _).alloc (by simp; omega) _).alloc (by simp; omega) _, ?_, ?_, ?_, ?_⟩
    · exact (((Lbl.new w a0 a1).alloc _).alloc _).alloc _
    · have := (Lbl.new (w.alloc (.cells #[.int .u64 a0, .int .u64 a1] 38)) b0 b1)
      simp only [World.size_alloc] at this
      exact (this.alloc _).alloc _
    · have := (Lbl.new ((w.alloc (.cells #[.int .u64 a0, .int .u64 a1] 38)).alloc (.cells #[.int .u64 b0, .int .u64 b1] 38)) 0 0)
      simp only [World.size_alloc] at this
      exact this.alloc _
    · have := (Lbl.new (((w.alloc (.cells #[.int .u64 a0, .int .u64 a1] 38)).alloc (.cells #[.int .u64 b0, .int .u64 b1] 38)).alloc (.cells #[.int .u64 0, .int .u64 0] 38)) 0 0)
      simp only [World.size_alloc] at this
      exact this
  case round =>
    obtain ⟨i, hi, rfl, HX⟩ := hrel
    rcases (show i = 0 ∨ i = 1 ∨ i = 2 by omega) with rfl | rfl | rfl
    · have H := HX
      rw [if_pos (by omega), if_pos (by omega)] at H
      clear HX
      obtain ⟨hB, hA, hBb, hR, hXx⟩ := H
      have c1 := hA.cell0
      have c2 := hBb.cell0
      have c3 := hXx.cell0
      have c4 := hXx.frozen 0
      have HH := Lib.hid (And.intro hB (And.intro hA (And.intro hBb (And.intro hR hXx))))
      clear hB hA hBb hR hXx
      go_wp2
      go_region
      go_wp2
      go_roundw
      case rel =>
        obtain ⟨hB, hA, hBb, hR, hXx⟩ := HH.out
        exact ⟨1, by omega, rfl, (hB.setCell (by simp; omega) _).drew, hA.far (by simp; omega) _, hBb.far (by simp) _, hR.far (by simp) _, hXx.set0 _⟩
      case measure => simp [intOf]
    · have H := HX
      rw [if_neg (by omega), if_pos (by omega)] at H
      clear HX
      obtain ⟨hB, hA, hBb, hR, hXx⟩ := H
      have c1 := hA.cell1
      have c2 := hBb.cell1
      have c3 := hXx.cell1
      have c4 := hXx.frozen 1
      have HH := Lib.hid (And.intro hB (And.intro hA (And.intro hBb (And.intro hR hXx))))
      clear hB hA hBb hR hXx
      go_wp2
      go_region
      go_wp2
      go_roundw
      case rel =>
        obtain ⟨hB, hA, hBb, hR, hXx⟩ := HH.out
        exact ⟨2, by omega, rfl, (hB.setCell (by simp; omega) _).drew, hA.far (by simp; omega) _, hBb.far (by simp) _, hR.far (by simp) _, hXx.set1 _⟩
      case measure => simp [intOf]
    · have H := HX
      rw [if_neg (by omega), if_neg (by omega)] at H
      clear HX
      obtain ⟨hB, hA, hBb, hR, hXx⟩ := H
      have c1 := hXx.cell0
      have c2 := hXx.cell1
      have c3 := hR.cell0
      have c4 := hR.cell1
      have c5 := hR.frozen 0
      have c6 := hR.frozen 1
      have HH := Lib.hid (And.intro hB hR)
      clear hB hA hBb hR hXx
      go_wp2
      have H := (HH.out.2.set0 (bits .xor .u64 a0 b0)).set1 (bits .xor .u64 a1 b1)
      have d1 := H.cell0
      have d2 := H.cell1
      exact bodyPost_ret (v := lab (bits .xor .u64 a0 b0) (bits .xor .u64 a1 b1)) (by simp [results, Try.results34, go_sem, c3, c4]) rfl
        ⟨rfl, (HH.out.1.setCell (by simp; omega) _).setCell (by simp; omega) _⟩
theorem xor_lt {X Y : Nat} (hX : X < 18446744073709551616) (hY : Y < 18446744073709551616) : X ^^^ Y < 18446744073709551616 :=
  Nat.xor_lt_two_pow (n := 64) hX hY
theorem xor_bd (a b : Int) (ha : 0 ≤ a ∧ a < 18446744073709551616) (hb : 0 ≤ b ∧ b < 18446744073709551616) : 0 ≤ bits .xor .u64 a b ∧ bits .xor .u64 a b < 18446744073709551616 := by
  obtain ⟨X, rfl⟩ := Int.eq_ofNat_of_zero_le ha.1
  obtain ⟨Y, rfl⟩ := Int.eq_ofNat_of_zero_le hb.1
  rw [bits_xor X Y (by omega) (by omega)]
  have := xor_lt (X := X) (Y := Y) (by omega) (by omega)
  omega
/-- Doubling a label of two numbers. -/
def dloN (X Y : Nat) : Nat := if 9223372036854775808 ≤ Y then (X * 2 % 18446744073709551616) ^^^ 135 else X * 2 % 18446744073709551616
def dhiN (X Y : Nat) : Nat := Y * 2 % 18446744073709551616 + X / 9223372036854775808
theorem dlo_nat (X Y : Nat) : dlo (X : Int) (Y : Int) = (dloN X Y : Int) := by
  unfold dlo dloN
  have e : (X : Int) * 2 % 18446744073709551616 = ((X * 2 % 18446744073709551616 : Nat) : Int) := by omega
  by_cases h : 9223372036854775808 ≤ Y
  · rw [if_pos (by omega), if_pos h, e]
    exact bits_xor _ 135 (by omega) (by omega)
  · rw [if_neg (by omega), if_neg h, e]
theorem dhi_nat (X Y : Nat) : dhi (X : Int) (Y : Int) = (dhiN X Y : Int) := by
  unfold dhi dhiN; omega
theorem dloN_lt (X Y : Nat) : dloN X Y < 18446744073709551616 := by
  unfold dloN; split
  · exact xor_lt (by omega) (by omega)
  · omega
theorem dhiN_lt (X Y : Nat) (hX : X < 18446744073709551616) : dhiN X Y < 18446744073709551616 := by
  unfold dhiN; omega
end Go.Proofs.Ytngghmjjeckmpaa
