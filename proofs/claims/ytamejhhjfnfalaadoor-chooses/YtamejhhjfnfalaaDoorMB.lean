/- Contracts of package aes: labels, a word, a hash. No condition beyond those that each theorem states. -/
import Derived.Test.YtamejhhjfnfalaaDoorMA
/- Labels: no function of the program. -/
namespace Go.Proofs.YtamejhhjfnfalaaDoor.Ae
open Go.RowKit

theorem Tryd.info26 : (Tryd.prog.info? 26).map (fun i => (i.zero, i.size, i.bytes)) = some (some (.int .u64 0), 1, 8) := by kernel_rfl
abbrev lab (a b : Int) : Value := .agg #[.int .u64 a, .int .u64 b]
/-- Two labels compared. -/
theorem run_eql_lab (w : World) (a b c d : Int) : (Op.equalIn 10000 28 (lab a b) (lab c d)).run Tryd.prog w = .ok ((a == c) && (b == d)) w := by
  obtain ⟨i0, hi, _, hz1, _⟩ := info_parts Tryd.info26
  have hs : (sizeOf 26).run Tryd.prog w = .ok 1 w := by simp [sizeOf, typeInfo, hi, hz1]
  show (Op.equalIn (9999 + 1) 28 _ _).run Tryd.prog w = _
  unfold Op.equalIn
  simp only [Sem.run_bind, run_underlying Tryd.underlying28, Result.andThen_ok, hs]
  have h1 : ∀ (x y : Int), (part 26 #[Value.int .u64 x, Value.int .u64 y] 0).run Tryd.prog w = .ok (.int .u64 x) w := by
    intro x y; simp [go_sem, part]
  have h2 : ∀ (x y : Int), (part 26 #[Value.int .u64 x, Value.int .u64 y] 1).run Tryd.prog w = .ok (.int .u64 y) w := by
    intro x y; simp [go_sem, part]
  have h3 : ∀ (x y : Int), (Op.equalIn 9999 26 (.int .u64 x) (.int .u64 y)).run Tryd.prog w = .ok (x == y) w := fun x y => run_equalIn_int w 9998 26 .u64 .u64 x y Tryd.underlying26
  simp only [Std.Legacy.Range.forIn_eq_forIn_range', Std.Legacy.Range.size]
  simp only [show List.range' 0 ((2 - 0 + 1 - 1) / 1) 1 = [0, 1] from rfl, List.forIn_cons, List.forIn_nil, Nat.zero_mul, Nat.one_mul, Sem.run_bind, h1, h3, Result.andThen_ok]
  by_cases e : a = c
  · subst e
    by_cases e2 : b = d
    · subst e2; simp [h2, h3]
    · simp [e2, h2, h3]
  · simp [e]
theorem lab_eq {a b c d : Int} (h1 : a = c) (h2 : b = d) : lab a b = lab c d := by rw [h1, h2]
theorem ofInt_nat (X : Nat) (h : X < 18446744073709551616) : (BitVec.ofInt 64 (X : Int)).toNat = X := by
  rw [BitVec.ofInt_natCast, BitVec.toNat_ofNat]
  exact Nat.mod_eq_of_lt h
theorem bits_xor (X Y : Nat) (hX : X < 18446744073709551616) (hY : Y < 18446744073709551616) : bits .xor .u64 (X : Int) (Y : Int) = ((X ^^^ Y : Nat) : Int) := by
  show IntKind.u64.wrap ((BitVec.ofInt 64 (X : Int) ^^^ BitVec.ofInt 64 (Y : Int)).toNat : Int) = _
  have := (BitVec.ofInt 64 (X : Int) ^^^ BitVec.ofInt 64 (Y : Int)).isLt
  rw [u64w, Int.emod_eq_of_lt (by omega) (by omega), BitVec.toNat_xor, ofInt_nat X hX, ofInt_nat Y hY]
theorem bits_or (X Y : Nat) (hX : X < 18446744073709551616) (hY : Y < 18446744073709551616) : bits .or .u64 (X : Int) (Y : Int) = ((X ||| Y : Nat) : Int) := by
  show IntKind.u64.wrap ((BitVec.ofInt 64 (X : Int) ||| BitVec.ofInt 64 (Y : Int)).toNat : Int) = _
  have := (BitVec.ofInt 64 (X : Int) ||| BitVec.ofInt 64 (Y : Int)).isLt
  rw [u64w, Int.emod_eq_of_lt (by omega) (by omega), BitVec.toNat_or, ofInt_nat X hX, ofInt_nat Y hY]
/-- Block g is a label. -/
def Lbl (w : World) (g : Nat) (a b : Int) : Prop := w.heap[g]? = some (.cells #[.int .u64 a, .int .u64 b] 28 (0, 0))
section
variable {w w' : World} {g : Nat} {a b : Int}
theorem Lbl.lt (h : Lbl w g a b) : g < w.heap.size := (Array.getElem?_eq_some_iff.1 h).1
theorem Lbl.cell0 (h : Lbl w g a b) : w.cell? ⟨g, 0, none⟩ = some (.int .u64 a) := by rw [cell_of_row w g 0 _ 28 (0, 0) h]; rfl
theorem Lbl.cell1 (h : Lbl w g a b) : w.cell? ⟨g, 1, none⟩ = some (.int .u64 b) := by rw [cell_of_row w g 1 _ 28 (0, 0) h]; rfl
theorem Lbl.frozen (h : Lbl w g a b) (i : Nat) : w.frozen? ⟨g, i, none⟩ = false := by unfold Lbl at h; simp [World.frozen?, h]
theorem Lbl.set0 (h : Lbl w g a b) (x : Int) : Lbl (w.setCell ⟨g, 0, none⟩ (.int .u64 x)) g x b := by
  unfold Lbl at h ⊢
  simp [World.setCell, Array.getElem?_modify, h]
theorem Lbl.set1 (h : Lbl w g a b) (x : Int) : Lbl (w.setCell ⟨g, 1, none⟩ (.int .u64 x)) g a x := by
  unfold Lbl at h ⊢
  simp [World.setCell, Array.getElem?_modify, h]
theorem Lbl.far (h : Lbl w g a b) {p : Addr} (hp : g ≠ p.block) (u : Value) : Lbl (w.setCell p u) g a b := (Below.heap_setCell w p u g hp).trans h
theorem Lbl.drew (h : Lbl w g a b) : Lbl w.drew g a b := h
theorem Lbl.alloc (h : Lbl w g a b) (o : Obj) : Lbl (w.alloc o) g a b := (Below.heap_alloc w o g h.lt).trans h
theorem Lbl.new (w : World) (a b : Int) : Lbl (w.alloc (.cells #[.int .u64 a, .int .u64 b] 28)) w.heap.size a b := heap_alloc_new w _
end
theorem xor_lt {X Y : Nat} (hX : X < 18446744073709551616) (hY : Y < 18446744073709551616) : X ^^^ Y < 18446744073709551616 :=
  Nat.xor_lt_two_pow (n := 64) hX hY
theorem xor_bd (a b : Int) (ha : 0 ≤ a ∧ a < 18446744073709551616) (hb : 0 ≤ b ∧ b < 18446744073709551616) : 0 ≤ bits .xor .u64 a b ∧ bits .xor .u64 a b < 18446744073709551616 := by
  obtain ⟨X, rfl⟩ := Int.eq_ofNat_of_zero_le ha.1
  obtain ⟨Y, rfl⟩ := Int.eq_ofNat_of_zero_le hb.1
  rw [bits_xor X Y (by omega) (by omega)]
  have := xor_lt (X := X) (Y := Y) (by omega) (by omega)
  omega
end Go.Proofs.YtamejhhjfnfalaaDoor.Ae

/- Blocks of labels and labels of blocks: the contracts of aes' blockOf. -/
namespace Go.Proofs.YtamejhhjfnfalaaDoor.Ae
open Go.RowKit

def BO (w : World) (a b : Nat) (i : Nat) (wr : World) : Prop := Below w.heap.size w wr ∧ Lbl wr w.heap.size a b ∧ OwnB wr (w.heap.size + 1) 16 137 (fun _ => 0) ∧ OwnB wr (w.heap.size + 2) 16 137 (upTo i (Aes.labB a b) fun _ => 0)
theorem BO.start (w : World) (a b : Nat) : BO w a b 0 (((w.alloc (.cells #[.int .u64 (a : Int), .int .u64 (b : Int)] 28)).alloc (.cells (bys 16 fun _ => 0) 137)).alloc (.cells (bys 16 fun _ => 0) 137)) := by
  refine ⟨(((Below.refl _ _).alloc (Nat.le_refl _) _).alloc (by simp) _).alloc (by simp; omega) _, ((Lbl.new w a b).alloc _).alloc _, ?_, ?_⟩
  · have := OwnB.new (w.alloc (.cells #[.int .u64 (a : Int), .int .u64 (b : Int)] 28)) 16 137 fun _ => 0
    simp only [World.size_alloc] at this
    exact this.alloc _
  · have := OwnB.new ((w.alloc (.cells #[.int .u64 (a : Int), .int .u64 (b : Int)] 28)).alloc (.cells (bys 16 fun _ => 0) 137)) 16 137 fun _ => 0
    simp only [World.size_alloc] at this
    exact this
theorem BO.set {w wr : World} {a b i : Nat} {x : Int} (h : BO w a b i wr) (hx : x = (Aes.labB a b i : Int)) : BO w a b (i + 1) (wr.setCell ⟨w.heap.size + 2, i, none⟩ (.int .u8 x)) := by
  obtain ⟨h0, h1, h2, h3⟩ := h
  subst hx
  exact ⟨h0.setCell (by simp) _, h1.far (by simp) _, h2.far (by simp) _, (h3.set i _).congr fun q _ => upTo_step i (Aes.labB a b) (fun _ => 0) q⟩
set_option maxHeartbeats 4000000 in
set_option maxRecDepth 100000 in
theorem blockOf_any (a b : Nat) (w : World) (ha : a < 18446744073709551616) (hb : b < 18446744073709551616) :
    Calls Tryd.prog 69 #[.agg #[.int .u64 (a : Int), .int .u64 (b : Int)]] w fun e w' => e = .returned (.agg (bys 16 (Aes.labB a b))) ∧ Below w.heap.size w w' := by
  go_enter Tryd.func69, Tryd.ntmps69
  go_wp2
  go_loopw [5] (fun t wr => ∃ i : Nat, i ≤ 16 ∧ t = .int .i64 i ∧ BO w a b i wr) (fun t _ => 16 - (intOf t).toNat)
  case atStart => exact ⟨0, by omega, rfl, BO.start w a b⟩
  case round =>
    obtain ⟨i, hi, rfl, H⟩ := hrel
    by_cases hlt : i < 16
    · have c0 := H.2.1.cell0
      have c1 := H.2.1.cell1
      have c2 : wr.cell? ⟨w.heap.size + 2, i, none⟩ = some (.int .u8 0) := by rw [H.2.2.2.cell i hlt, upTo_at]; rfl
      have c3 := H.2.2.2.frozen i
      have HH := Lib.hid H
      clear H
      rcases (show i = 0 ∨ i = 1 ∨ i = 2 ∨ i = 3 ∨ i = 4 ∨ i = 5 ∨ i = 6 ∨ i = 7 ∨ i = 8 ∨ i = 9 ∨ i = 10 ∨ i = 11 ∨ i = 12 ∨ i = 13 ∨ i = 14 ∨ i = 15 by omega) with rfl | rfl | rfl | rfl | rfl | rfl | rfl | rfl | rfl | rfl | rfl | rfl | rfl | rfl | rfl | rfl
      · go_wp2
        go_roundw
        case rel => exact ⟨1, by omega, rfl, BO.set HH.out (by show _ = ((a / 1 % 256 : Nat) : Int); omega)⟩
        case measure => simp [intOf]
      · go_wp2
        go_roundw
        case rel => exact ⟨2, by omega, rfl, BO.set HH.out (by show _ = ((a / 256 % 256 : Nat) : Int); omega)⟩
        case measure => simp [intOf]
      · go_wp2
        go_roundw
        case rel => exact ⟨3, by omega, rfl, BO.set HH.out (by show _ = ((a / 65536 % 256 : Nat) : Int); omega)⟩
        case measure => simp [intOf]
      · go_wp2
        go_roundw
        case rel => exact ⟨4, by omega, rfl, BO.set HH.out (by show _ = ((a / 16777216 % 256 : Nat) : Int); omega)⟩
        case measure => simp [intOf]
      · go_wp2
        go_roundw
        case rel => exact ⟨5, by omega, rfl, BO.set HH.out (by show _ = ((a / 4294967296 % 256 : Nat) : Int); omega)⟩
        case measure => simp [intOf]
      · go_wp2
        go_roundw
        case rel => exact ⟨6, by omega, rfl, BO.set HH.out (by show _ = ((a / 1099511627776 % 256 : Nat) : Int); omega)⟩
        case measure => simp [intOf]
      · go_wp2
        go_roundw
        case rel => exact ⟨7, by omega, rfl, BO.set HH.out (by show _ = ((a / 281474976710656 % 256 : Nat) : Int); omega)⟩
        case measure => simp [intOf]
      · go_wp2
        go_roundw
        case rel => exact ⟨8, by omega, rfl, BO.set HH.out (by show _ = ((a / 72057594037927936 % 256 : Nat) : Int); omega)⟩
        case measure => simp [intOf]
      · go_wp2
        go_roundw
        case rel => exact ⟨9, by omega, rfl, BO.set HH.out (by show _ = ((b / 1 % 256 : Nat) : Int); omega)⟩
        case measure => simp [intOf]
      · go_wp2
        go_roundw
        case rel => exact ⟨10, by omega, rfl, BO.set HH.out (by show _ = ((b / 256 % 256 : Nat) : Int); omega)⟩
        case measure => simp [intOf]
      · go_wp2
        go_roundw
        case rel => exact ⟨11, by omega, rfl, BO.set HH.out (by show _ = ((b / 65536 % 256 : Nat) : Int); omega)⟩
        case measure => simp [intOf]
      · go_wp2
        go_roundw
        case rel => exact ⟨12, by omega, rfl, BO.set HH.out (by show _ = ((b / 16777216 % 256 : Nat) : Int); omega)⟩
        case measure => simp [intOf]
      · go_wp2
        go_roundw
        case rel => exact ⟨13, by omega, rfl, BO.set HH.out (by show _ = ((b / 4294967296 % 256 : Nat) : Int); omega)⟩
        case measure => simp [intOf]
      · go_wp2
        go_roundw
        case rel => exact ⟨14, by omega, rfl, BO.set HH.out (by show _ = ((b / 1099511627776 % 256 : Nat) : Int); omega)⟩
        case measure => simp [intOf]
      · go_wp2
        go_roundw
        case rel => exact ⟨15, by omega, rfl, BO.set HH.out (by show _ = ((b / 281474976710656 % 256 : Nat) : Int); omega)⟩
        case measure => simp [intOf]
      · go_wp2
        go_roundw
        case rel => exact ⟨16, by omega, rfl, BO.set HH.out (by show _ = ((b / 72057594037927936 % 256 : Nat) : Int); omega)⟩
        case measure => simp [intOf]
    · obtain rfl : i = 16 := by omega
      obtain ⟨h0, h1, h2, h3⟩ := H
      have HH := Lib.hid h0
      clear h0
      go_wp2_with (first | (refine ld_row 137 16 _ Tryd.underlying137 Tryd.info137 rfl _ rfl _ rfl h3 ?_) | (refine st_row 137 16 Tryd.info137 rfl _ _ rfl _ rfl rfl h2 ?_))
      exact bodyPost_ret (v := .agg (bys 16 (Aes.labB a b))) (res_row 137 16 _ Tryd.underlying137 Tryd.info137 rfl _ _ _ rfl (h2.setRow _) fun q hq => upTo_full 16 _ _ q hq) rfl ⟨rfl, Below.row HH.out (by omega) _⟩
end Go.Proofs.YtamejhhjfnfalaaDoor.Ae

/- Labels of blocks: the contract of aes' labelOf. -/
namespace Go.Proofs.YtamejhhjfnfalaaDoor.Ae
open Go.RowKit

/-- The words that a block makes, of its first i bytes. -/
def lo8 (f : Nat → Nat) (i : Nat) : Nat := Aes.psum f 0 (min i 8)
def hi8 (f : Nat → Nat) (i : Nat) : Nat := Aes.psum f 8 (i - 8)
def LO (w : World) (f : Nat → Nat) (i : Nat) (wr : World) : Prop := Below w.heap.size w wr ∧ OwnB wr w.heap.size 16 137 f ∧ Lbl wr (w.heap.size + 1) 0 0 ∧ Lbl wr (w.heap.size + 2) (lo8 f i) (hi8 f i)
theorem LO.start (w : World) (f : Nat → Nat) : LO w f 0 (((w.alloc (.cells (bys 16 f) 137)).alloc (.cells #[.int .u64 0, .int .u64 0] 28)).alloc (.cells #[.int .u64 0, .int .u64 0] 28)) := by
  refine ⟨(((Below.refl _ _).alloc (Nat.le_refl _) _).alloc (by simp) _).alloc (by simp; omega) _, ((OwnB.new w 16 137 f).alloc _).alloc _, ?_, ?_⟩
  · have := Lbl.new (w.alloc (.cells (bys 16 f) 137)) 0 0
    simp only [World.size_alloc] at this
    exact this.alloc _
  · have := Lbl.new ((w.alloc (.cells (bys 16 f) 137)).alloc (.cells #[.int .u64 0, .int .u64 0] 28)) 0 0
    simp only [World.size_alloc] at this
    exact this
theorem or_psum (f : Nat → Nat) (o n : Nat) (hf : ∀ i, f i < 256) (hn : n < 8) : bits .or .u64 (Aes.psum f o n : Int) (((f (o + n) * 256 ^ n : Nat)) : Int) = (Aes.psum f o (n + 1) : Int) := by
  have h1 := Aes.psum_lt f o hf n
  have h2 := Aes.psum_lt f o hf (n + 1)
  have h8 : (256 : Nat) ^ (n + 1) ≤ 256 ^ 8 := Nat.pow_le_pow_right (by omega) (by omega)
  have e8 : (256 : Nat) ^ 8 = 18446744073709551616 := rfl
  have e : Aes.psum f o (n + 1) = Aes.psum f o n + f (o + n) * 256 ^ n := rfl
  rw [bits_or _ _ (by omega) (by omega), e]
  have hp : (256 : Nat) ^ n = 2 ^ (8 * n) := by rw [Nat.pow_mul]
  rw [hp] at h1 ⊢
  rw [Nat.or_comm, Nat.mul_comm, ← Nat.two_pow_add_eq_or_of_lt h1, Nat.add_comm]
theorem LO.set0 {w wr : World} {f : Nat → Nat} {i : Nat} {x : Int} (h : LO w f i wr) (hi : i < 8) (hx : x = (Aes.psum f 0 (i + 1) : Int)) : LO w f (i + 1) (wr.setCell ⟨w.heap.size + 2, 0, none⟩ (.int .u64 x)) := by
  obtain ⟨h0, h1, h2, h3⟩ := h
  have e1 : lo8 f (i + 1) = Aes.psum f 0 (i + 1) := by unfold lo8; rw [Nat.min_eq_left (by omega)]
  have e2 : hi8 f (i + 1) = hi8 f i := by unfold hi8; rw [show i + 1 - 8 = 0 by omega, show i - 8 = 0 by omega]
  refine ⟨h0.setCell (by simp) _, h1.far (by simp) _, h2.far (by simp) _, ?_⟩
  rw [e1, e2, ← hx]
  exact h3.set0 _
theorem LO.set1 {w wr : World} {f : Nat → Nat} {i : Nat} {x : Int} (h : LO w f i wr) (hi : 8 ≤ i) (hx : x = (Aes.psum f 8 (i - 8 + 1) : Int)) : LO w f (i + 1) (wr.setCell ⟨w.heap.size + 2, 1, none⟩ (.int .u64 x)) := by
  obtain ⟨h0, h1, h2, h3⟩ := h
  have e1 : lo8 f (i + 1) = lo8 f i := by unfold lo8; rw [Nat.min_eq_right (by omega), Nat.min_eq_right (by omega)]
  have e2 : hi8 f (i + 1) = Aes.psum f 8 (i - 8 + 1) := by unfold hi8; rw [show i + 1 - 8 = i - 8 + 1 by omega]
  refine ⟨h0.setCell (by simp) _, h1.far (by simp) _, h2.far (by simp) _, ?_⟩
  rw [e1, e2, ← hx]
  exact h3.set1 _
set_option maxHeartbeats 4000000 in
set_option maxRecDepth 100000 in
theorem labelOf_any (f : Nat → Nat) (w : World) (hf : ∀ i, f i < 256) :
    Calls Tryd.prog 67 #[.agg (bys 16 f)] w fun e w' => e = .returned (.agg #[.int .u64 (Aes.psum f 0 8 : Int), .int .u64 (Aes.psum f 8 8 : Int)]) ∧ Below w.heap.size w w' := by
  have HF := Lib.hid hf
  clear hf
  go_enter Tryd.func67, Tryd.ntmps67
  go_wp2
  go_loopw [5] (fun t wr => ∃ i : Nat, i ≤ 16 ∧ t = .int .i64 i ∧ LO w f i wr) (fun t _ => 16 - (intOf t).toNat)
  case atStart => exact ⟨0, by omega, rfl, LO.start w f⟩
  case round =>
    obtain ⟨i, hi, rfl, H⟩ := hrel
    by_cases hlt : i < 16
    · rcases (show i = 0 ∨ i = 1 ∨ i = 2 ∨ i = 3 ∨ i = 4 ∨ i = 5 ∨ i = 6 ∨ i = 7 ∨ i = 8 ∨ i = 9 ∨ i = 10 ∨ i = 11 ∨ i = 12 ∨ i = 13 ∨ i = 14 ∨ i = 15 by omega) with rfl | rfl | rfl | rfl | rfl | rfl | rfl | rfl | rfl | rfl | rfl | rfl | rfl | rfl | rfl | rfl
      · have c0 : wr.cell? ⟨w.heap.size + 2, 0, none⟩ = some (.int .u64 (Aes.psum f 0 0 : Int)) := H.2.2.2.cell0
        have c1 := H.2.1.cell 0 (by omega)
        have c2 := H.2.2.2.frozen 0
        have hb := HF.out 0
        have HX := Lib.hid (or_psum f 0 0 HF.out (by omega))
        have z0 : IntKind.i64.wrap 0 = 0 := rfl
        have z1 : IntKind.i64.wrap 0 = 0 := rfl
        have HH := Lib.hid H
        clear H
        go_wp2
        go_still_tail 14, (by kernel_rfl)
        change wpList _ _ _ _ _ wr.drew
        have HE := Lib.hid (show LO w f 0 wr.drew from ⟨HH.out.1.drew, HH.out.2.1, HH.out.2.2.1, HH.out.2.2.2⟩)
        have c0' : wr.drew.cell? ⟨w.heap.size + 2, 0, none⟩ = some (.int .u64 (Aes.psum f 0 0 : Int)) := c0
        have c2' : wr.drew.frozen? ⟨w.heap.size + 2, 0, none⟩ = false := c2
        clear HH c0 c1 c2
        generalize wr.drew = w2 at HE c0' c2' ⊢
        go_wp2
        go_roundw
        case rel => exact ⟨1, by omega, rfl, LO.set0 HE.out (by omega) (by rw [← HX.out]; congr 1; show _ = ((f 0 * 1 : Nat) : Int); omega)⟩
        case measure => simp [intOf]
      · have c0 : wr.cell? ⟨w.heap.size + 2, 0, none⟩ = some (.int .u64 (Aes.psum f 0 1 : Int)) := H.2.2.2.cell0
        have c1 := H.2.1.cell 1 (by omega)
        have c2 := H.2.2.2.frozen 0
        have hb := HF.out 1
        have HX := Lib.hid (or_psum f 0 1 HF.out (by omega))
        have z0 : IntKind.i64.wrap 0 = 0 := rfl
        have z1 : IntKind.i64.wrap 8 = 8 := rfl
        have HH := Lib.hid H
        clear H
        go_wp2
        go_still_tail 14, (by kernel_rfl)
        change wpList _ _ _ _ _ wr.drew
        have HE := Lib.hid (show LO w f 1 wr.drew from ⟨HH.out.1.drew, HH.out.2.1, HH.out.2.2.1, HH.out.2.2.2⟩)
        have c0' : wr.drew.cell? ⟨w.heap.size + 2, 0, none⟩ = some (.int .u64 (Aes.psum f 0 1 : Int)) := c0
        have c2' : wr.drew.frozen? ⟨w.heap.size + 2, 0, none⟩ = false := c2
        clear HH c0 c1 c2
        generalize wr.drew = w2 at HE c0' c2' ⊢
        go_wp2
        go_roundw
        case rel => exact ⟨2, by omega, rfl, LO.set0 HE.out (by omega) (by rw [← HX.out]; congr 1)⟩
        case measure => simp [intOf]
      · have c0 : wr.cell? ⟨w.heap.size + 2, 0, none⟩ = some (.int .u64 (Aes.psum f 0 2 : Int)) := H.2.2.2.cell0
        have c1 := H.2.1.cell 2 (by omega)
        have c2 := H.2.2.2.frozen 0
        have hb := HF.out 2
        have HX := Lib.hid (or_psum f 0 2 HF.out (by omega))
        have z0 : IntKind.i64.wrap 0 = 0 := rfl
        have z1 : IntKind.i64.wrap 16 = 16 := rfl
        have HH := Lib.hid H
        clear H
        go_wp2
        go_still_tail 14, (by kernel_rfl)
        change wpList _ _ _ _ _ wr.drew
        have HE := Lib.hid (show LO w f 2 wr.drew from ⟨HH.out.1.drew, HH.out.2.1, HH.out.2.2.1, HH.out.2.2.2⟩)
        have c0' : wr.drew.cell? ⟨w.heap.size + 2, 0, none⟩ = some (.int .u64 (Aes.psum f 0 2 : Int)) := c0
        have c2' : wr.drew.frozen? ⟨w.heap.size + 2, 0, none⟩ = false := c2
        clear HH c0 c1 c2
        generalize wr.drew = w2 at HE c0' c2' ⊢
        go_wp2
        go_roundw
        case rel => exact ⟨3, by omega, rfl, LO.set0 HE.out (by omega) (by rw [← HX.out]; congr 1)⟩
        case measure => simp [intOf]
      · have c0 : wr.cell? ⟨w.heap.size + 2, 0, none⟩ = some (.int .u64 (Aes.psum f 0 3 : Int)) := H.2.2.2.cell0
        have c1 := H.2.1.cell 3 (by omega)
        have c2 := H.2.2.2.frozen 0
        have hb := HF.out 3
        have HX := Lib.hid (or_psum f 0 3 HF.out (by omega))
        have z0 : IntKind.i64.wrap 0 = 0 := rfl
        have z1 : IntKind.i64.wrap 24 = 24 := rfl
        have HH := Lib.hid H
        clear H
        go_wp2
        go_still_tail 14, (by kernel_rfl)
        change wpList _ _ _ _ _ wr.drew
        have HE := Lib.hid (show LO w f 3 wr.drew from ⟨HH.out.1.drew, HH.out.2.1, HH.out.2.2.1, HH.out.2.2.2⟩)
        have c0' : wr.drew.cell? ⟨w.heap.size + 2, 0, none⟩ = some (.int .u64 (Aes.psum f 0 3 : Int)) := c0
        have c2' : wr.drew.frozen? ⟨w.heap.size + 2, 0, none⟩ = false := c2
        clear HH c0 c1 c2
        generalize wr.drew = w2 at HE c0' c2' ⊢
        go_wp2
        go_roundw
        case rel => exact ⟨4, by omega, rfl, LO.set0 HE.out (by omega) (by rw [← HX.out]; congr 1)⟩
        case measure => simp [intOf]
      · have c0 : wr.cell? ⟨w.heap.size + 2, 0, none⟩ = some (.int .u64 (Aes.psum f 0 4 : Int)) := H.2.2.2.cell0
        have c1 := H.2.1.cell 4 (by omega)
        have c2 := H.2.2.2.frozen 0
        have hb := HF.out 4
        have HX := Lib.hid (or_psum f 0 4 HF.out (by omega))
        have z0 : IntKind.i64.wrap 0 = 0 := rfl
        have z1 : IntKind.i64.wrap 32 = 32 := rfl
        have HH := Lib.hid H
        clear H
        go_wp2
        go_still_tail 14, (by kernel_rfl)
        change wpList _ _ _ _ _ wr.drew
        have HE := Lib.hid (show LO w f 4 wr.drew from ⟨HH.out.1.drew, HH.out.2.1, HH.out.2.2.1, HH.out.2.2.2⟩)
        have c0' : wr.drew.cell? ⟨w.heap.size + 2, 0, none⟩ = some (.int .u64 (Aes.psum f 0 4 : Int)) := c0
        have c2' : wr.drew.frozen? ⟨w.heap.size + 2, 0, none⟩ = false := c2
        clear HH c0 c1 c2
        generalize wr.drew = w2 at HE c0' c2' ⊢
        go_wp2
        go_roundw
        case rel => exact ⟨5, by omega, rfl, LO.set0 HE.out (by omega) (by rw [← HX.out]; congr 1)⟩
        case measure => simp [intOf]
      · have c0 : wr.cell? ⟨w.heap.size + 2, 0, none⟩ = some (.int .u64 (Aes.psum f 0 5 : Int)) := H.2.2.2.cell0
        have c1 := H.2.1.cell 5 (by omega)
        have c2 := H.2.2.2.frozen 0
        have hb := HF.out 5
        have HX := Lib.hid (or_psum f 0 5 HF.out (by omega))
        have z0 : IntKind.i64.wrap 0 = 0 := rfl
        have z1 : IntKind.i64.wrap 40 = 40 := rfl
        have HH := Lib.hid H
        clear H
        go_wp2
        go_still_tail 14, (by kernel_rfl)
        change wpList _ _ _ _ _ wr.drew
        have HE := Lib.hid (show LO w f 5 wr.drew from ⟨HH.out.1.drew, HH.out.2.1, HH.out.2.2.1, HH.out.2.2.2⟩)
        have c0' : wr.drew.cell? ⟨w.heap.size + 2, 0, none⟩ = some (.int .u64 (Aes.psum f 0 5 : Int)) := c0
        have c2' : wr.drew.frozen? ⟨w.heap.size + 2, 0, none⟩ = false := c2
        clear HH c0 c1 c2
        generalize wr.drew = w2 at HE c0' c2' ⊢
        go_wp2
        go_roundw
        case rel => exact ⟨6, by omega, rfl, LO.set0 HE.out (by omega) (by rw [← HX.out]; congr 1)⟩
        case measure => simp [intOf]
      · have c0 : wr.cell? ⟨w.heap.size + 2, 0, none⟩ = some (.int .u64 (Aes.psum f 0 6 : Int)) := H.2.2.2.cell0
        have c1 := H.2.1.cell 6 (by omega)
        have c2 := H.2.2.2.frozen 0
        have hb := HF.out 6
        have HX := Lib.hid (or_psum f 0 6 HF.out (by omega))
        have z0 : IntKind.i64.wrap 0 = 0 := rfl
        have z1 : IntKind.i64.wrap 48 = 48 := rfl
        have HH := Lib.hid H
        clear H
        go_wp2
        go_still_tail 14, (by kernel_rfl)
        change wpList _ _ _ _ _ wr.drew
        have HE := Lib.hid (show LO w f 6 wr.drew from ⟨HH.out.1.drew, HH.out.2.1, HH.out.2.2.1, HH.out.2.2.2⟩)
        have c0' : wr.drew.cell? ⟨w.heap.size + 2, 0, none⟩ = some (.int .u64 (Aes.psum f 0 6 : Int)) := c0
        have c2' : wr.drew.frozen? ⟨w.heap.size + 2, 0, none⟩ = false := c2
        clear HH c0 c1 c2
        generalize wr.drew = w2 at HE c0' c2' ⊢
        go_wp2
        go_roundw
        case rel => exact ⟨7, by omega, rfl, LO.set0 HE.out (by omega) (by rw [← HX.out]; congr 1)⟩
        case measure => simp [intOf]
      · have c0 : wr.cell? ⟨w.heap.size + 2, 0, none⟩ = some (.int .u64 (Aes.psum f 0 7 : Int)) := H.2.2.2.cell0
        have c1 := H.2.1.cell 7 (by omega)
        have c2 := H.2.2.2.frozen 0
        have hb := HF.out 7
        have HX := Lib.hid (or_psum f 0 7 HF.out (by omega))
        have z0 : IntKind.i64.wrap 0 = 0 := rfl
        have z1 : IntKind.i64.wrap 56 = 56 := rfl
        have HH := Lib.hid H
        clear H
        go_wp2
        go_still_tail 14, (by kernel_rfl)
        change wpList _ _ _ _ _ wr.drew
        have HE := Lib.hid (show LO w f 7 wr.drew from ⟨HH.out.1.drew, HH.out.2.1, HH.out.2.2.1, HH.out.2.2.2⟩)
        have c0' : wr.drew.cell? ⟨w.heap.size + 2, 0, none⟩ = some (.int .u64 (Aes.psum f 0 7 : Int)) := c0
        have c2' : wr.drew.frozen? ⟨w.heap.size + 2, 0, none⟩ = false := c2
        clear HH c0 c1 c2
        generalize wr.drew = w2 at HE c0' c2' ⊢
        go_wp2
        go_roundw
        case rel => exact ⟨8, by omega, rfl, LO.set0 HE.out (by omega) (by rw [← HX.out]; congr 1)⟩
        case measure => simp [intOf]
      · have c0 : wr.cell? ⟨w.heap.size + 2, 1, none⟩ = some (.int .u64 (Aes.psum f 8 0 : Int)) := H.2.2.2.cell1
        have c1 := H.2.1.cell 8 (by omega)
        have c2 := H.2.2.2.frozen 1
        have hb := HF.out 8
        have HX := Lib.hid (or_psum f 8 0 HF.out (by omega))
        have z0 : IntKind.i64.wrap 1 = 1 := rfl
        have z1 : IntKind.i64.wrap 0 = 0 := rfl
        have HH := Lib.hid H
        clear H
        go_wp2
        go_still_tail 14, (by kernel_rfl)
        change wpList _ _ _ _ _ wr.drew
        have HE := Lib.hid (show LO w f 8 wr.drew from ⟨HH.out.1.drew, HH.out.2.1, HH.out.2.2.1, HH.out.2.2.2⟩)
        have c0' : wr.drew.cell? ⟨w.heap.size + 2, 1, none⟩ = some (.int .u64 (Aes.psum f 8 0 : Int)) := c0
        have c2' : wr.drew.frozen? ⟨w.heap.size + 2, 1, none⟩ = false := c2
        clear HH c0 c1 c2
        generalize wr.drew = w2 at HE c0' c2' ⊢
        go_wp2
        go_roundw
        case rel => exact ⟨9, by omega, rfl, LO.set1 HE.out (by omega) (by rw [← HX.out]; congr 1; show _ = ((f 8 * 1 : Nat) : Int); omega)⟩
        case measure => simp [intOf]
      · have c0 : wr.cell? ⟨w.heap.size + 2, 1, none⟩ = some (.int .u64 (Aes.psum f 8 1 : Int)) := H.2.2.2.cell1
        have c1 := H.2.1.cell 9 (by omega)
        have c2 := H.2.2.2.frozen 1
        have hb := HF.out 9
        have HX := Lib.hid (or_psum f 8 1 HF.out (by omega))
        have z0 : IntKind.i64.wrap 1 = 1 := rfl
        have z1 : IntKind.i64.wrap 8 = 8 := rfl
        have HH := Lib.hid H
        clear H
        go_wp2
        go_still_tail 14, (by kernel_rfl)
        change wpList _ _ _ _ _ wr.drew
        have HE := Lib.hid (show LO w f 9 wr.drew from ⟨HH.out.1.drew, HH.out.2.1, HH.out.2.2.1, HH.out.2.2.2⟩)
        have c0' : wr.drew.cell? ⟨w.heap.size + 2, 1, none⟩ = some (.int .u64 (Aes.psum f 8 1 : Int)) := c0
        have c2' : wr.drew.frozen? ⟨w.heap.size + 2, 1, none⟩ = false := c2
        clear HH c0 c1 c2
        generalize wr.drew = w2 at HE c0' c2' ⊢
        go_wp2
        go_roundw
        case rel => exact ⟨10, by omega, rfl, LO.set1 HE.out (by omega) (by rw [← HX.out]; congr 1)⟩
        case measure => simp [intOf]
      · have c0 : wr.cell? ⟨w.heap.size + 2, 1, none⟩ = some (.int .u64 (Aes.psum f 8 2 : Int)) := H.2.2.2.cell1
        have c1 := H.2.1.cell 10 (by omega)
        have c2 := H.2.2.2.frozen 1
        have hb := HF.out 10
        have HX := Lib.hid (or_psum f 8 2 HF.out (by omega))
        have z0 : IntKind.i64.wrap 1 = 1 := rfl
        have z1 : IntKind.i64.wrap 16 = 16 := rfl
        have HH := Lib.hid H
        clear H
        go_wp2
        go_still_tail 14, (by kernel_rfl)
        change wpList _ _ _ _ _ wr.drew
        have HE := Lib.hid (show LO w f 10 wr.drew from ⟨HH.out.1.drew, HH.out.2.1, HH.out.2.2.1, HH.out.2.2.2⟩)
        have c0' : wr.drew.cell? ⟨w.heap.size + 2, 1, none⟩ = some (.int .u64 (Aes.psum f 8 2 : Int)) := c0
        have c2' : wr.drew.frozen? ⟨w.heap.size + 2, 1, none⟩ = false := c2
        clear HH c0 c1 c2
        generalize wr.drew = w2 at HE c0' c2' ⊢
        go_wp2
        go_roundw
        case rel => exact ⟨11, by omega, rfl, LO.set1 HE.out (by omega) (by rw [← HX.out]; congr 1)⟩
        case measure => simp [intOf]
      · have c0 : wr.cell? ⟨w.heap.size + 2, 1, none⟩ = some (.int .u64 (Aes.psum f 8 3 : Int)) := H.2.2.2.cell1
        have c1 := H.2.1.cell 11 (by omega)
        have c2 := H.2.2.2.frozen 1
        have hb := HF.out 11
        have HX := Lib.hid (or_psum f 8 3 HF.out (by omega))
        have z0 : IntKind.i64.wrap 1 = 1 := rfl
        have z1 : IntKind.i64.wrap 24 = 24 := rfl
        have HH := Lib.hid H
        clear H
        go_wp2
        go_still_tail 14, (by kernel_rfl)
        change wpList _ _ _ _ _ wr.drew
        have HE := Lib.hid (show LO w f 11 wr.drew from ⟨HH.out.1.drew, HH.out.2.1, HH.out.2.2.1, HH.out.2.2.2⟩)
        have c0' : wr.drew.cell? ⟨w.heap.size + 2, 1, none⟩ = some (.int .u64 (Aes.psum f 8 3 : Int)) := c0
        have c2' : wr.drew.frozen? ⟨w.heap.size + 2, 1, none⟩ = false := c2
        clear HH c0 c1 c2
        generalize wr.drew = w2 at HE c0' c2' ⊢
        go_wp2
        go_roundw
        case rel => exact ⟨12, by omega, rfl, LO.set1 HE.out (by omega) (by rw [← HX.out]; congr 1)⟩
        case measure => simp [intOf]
      · have c0 : wr.cell? ⟨w.heap.size + 2, 1, none⟩ = some (.int .u64 (Aes.psum f 8 4 : Int)) := H.2.2.2.cell1
        have c1 := H.2.1.cell 12 (by omega)
        have c2 := H.2.2.2.frozen 1
        have hb := HF.out 12
        have HX := Lib.hid (or_psum f 8 4 HF.out (by omega))
        have z0 : IntKind.i64.wrap 1 = 1 := rfl
        have z1 : IntKind.i64.wrap 32 = 32 := rfl
        have HH := Lib.hid H
        clear H
        go_wp2
        go_still_tail 14, (by kernel_rfl)
        change wpList _ _ _ _ _ wr.drew
        have HE := Lib.hid (show LO w f 12 wr.drew from ⟨HH.out.1.drew, HH.out.2.1, HH.out.2.2.1, HH.out.2.2.2⟩)
        have c0' : wr.drew.cell? ⟨w.heap.size + 2, 1, none⟩ = some (.int .u64 (Aes.psum f 8 4 : Int)) := c0
        have c2' : wr.drew.frozen? ⟨w.heap.size + 2, 1, none⟩ = false := c2
        clear HH c0 c1 c2
        generalize wr.drew = w2 at HE c0' c2' ⊢
        go_wp2
        go_roundw
        case rel => exact ⟨13, by omega, rfl, LO.set1 HE.out (by omega) (by rw [← HX.out]; congr 1)⟩
        case measure => simp [intOf]
      · have c0 : wr.cell? ⟨w.heap.size + 2, 1, none⟩ = some (.int .u64 (Aes.psum f 8 5 : Int)) := H.2.2.2.cell1
        have c1 := H.2.1.cell 13 (by omega)
        have c2 := H.2.2.2.frozen 1
        have hb := HF.out 13
        have HX := Lib.hid (or_psum f 8 5 HF.out (by omega))
        have z0 : IntKind.i64.wrap 1 = 1 := rfl
        have z1 : IntKind.i64.wrap 40 = 40 := rfl
        have HH := Lib.hid H
        clear H
        go_wp2
        go_still_tail 14, (by kernel_rfl)
        change wpList _ _ _ _ _ wr.drew
        have HE := Lib.hid (show LO w f 13 wr.drew from ⟨HH.out.1.drew, HH.out.2.1, HH.out.2.2.1, HH.out.2.2.2⟩)
        have c0' : wr.drew.cell? ⟨w.heap.size + 2, 1, none⟩ = some (.int .u64 (Aes.psum f 8 5 : Int)) := c0
        have c2' : wr.drew.frozen? ⟨w.heap.size + 2, 1, none⟩ = false := c2
        clear HH c0 c1 c2
        generalize wr.drew = w2 at HE c0' c2' ⊢
        go_wp2
        go_roundw
        case rel => exact ⟨14, by omega, rfl, LO.set1 HE.out (by omega) (by rw [← HX.out]; congr 1)⟩
        case measure => simp [intOf]
      · have c0 : wr.cell? ⟨w.heap.size + 2, 1, none⟩ = some (.int .u64 (Aes.psum f 8 6 : Int)) := H.2.2.2.cell1
        have c1 := H.2.1.cell 14 (by omega)
        have c2 := H.2.2.2.frozen 1
        have hb := HF.out 14
        have HX := Lib.hid (or_psum f 8 6 HF.out (by omega))
        have z0 : IntKind.i64.wrap 1 = 1 := rfl
        have z1 : IntKind.i64.wrap 48 = 48 := rfl
        have HH := Lib.hid H
        clear H
        go_wp2
        go_still_tail 14, (by kernel_rfl)
        change wpList _ _ _ _ _ wr.drew
        have HE := Lib.hid (show LO w f 14 wr.drew from ⟨HH.out.1.drew, HH.out.2.1, HH.out.2.2.1, HH.out.2.2.2⟩)
        have c0' : wr.drew.cell? ⟨w.heap.size + 2, 1, none⟩ = some (.int .u64 (Aes.psum f 8 6 : Int)) := c0
        have c2' : wr.drew.frozen? ⟨w.heap.size + 2, 1, none⟩ = false := c2
        clear HH c0 c1 c2
        generalize wr.drew = w2 at HE c0' c2' ⊢
        go_wp2
        go_roundw
        case rel => exact ⟨15, by omega, rfl, LO.set1 HE.out (by omega) (by rw [← HX.out]; congr 1)⟩
        case measure => simp [intOf]
      · have c0 : wr.cell? ⟨w.heap.size + 2, 1, none⟩ = some (.int .u64 (Aes.psum f 8 7 : Int)) := H.2.2.2.cell1
        have c1 := H.2.1.cell 15 (by omega)
        have c2 := H.2.2.2.frozen 1
        have hb := HF.out 15
        have HX := Lib.hid (or_psum f 8 7 HF.out (by omega))
        have z0 : IntKind.i64.wrap 1 = 1 := rfl
        have z1 : IntKind.i64.wrap 56 = 56 := rfl
        have HH := Lib.hid H
        clear H
        go_wp2
        go_still_tail 14, (by kernel_rfl)
        change wpList _ _ _ _ _ wr.drew
        have HE := Lib.hid (show LO w f 15 wr.drew from ⟨HH.out.1.drew, HH.out.2.1, HH.out.2.2.1, HH.out.2.2.2⟩)
        have c0' : wr.drew.cell? ⟨w.heap.size + 2, 1, none⟩ = some (.int .u64 (Aes.psum f 8 7 : Int)) := c0
        have c2' : wr.drew.frozen? ⟨w.heap.size + 2, 1, none⟩ = false := c2
        clear HH c0 c1 c2
        generalize wr.drew = w2 at HE c0' c2' ⊢
        go_wp2
        go_roundw
        case rel => exact ⟨16, by omega, rfl, LO.set1 HE.out (by omega) (by rw [← HX.out]; congr 1)⟩
        case measure => simp [intOf]
    · obtain rfl : i = 16 := by omega
      obtain ⟨h0, h1, h2, h3⟩ := H
      have c0 : wr.cell? ⟨w.heap.size + 2, 0, none⟩ = some (.int .u64 (Aes.psum f 0 8 : Int)) := h3.cell0
      have c1 : wr.cell? ⟨w.heap.size + 2, 1, none⟩ = some (.int .u64 (Aes.psum f 8 8 : Int)) := h3.cell1
      have c2 := h2.cell0
      have c3 := h2.cell1
      have c4 := h2.frozen 0
      have c5 := h2.frozen 1
      have HH := Lib.hid (And.intro h0 h2)
      clear h0 h1 h2 h3
      go_wp2
      have H2 := (HH.out.2.set0 (Aes.psum f 0 8)).set1 (Aes.psum f 8 8)
      have d1 := H2.cell0
      have d2 := H2.cell1
      exact bodyPost_ret (v := .agg #[.int .u64 (Aes.psum f 0 8 : Int), .int .u64 (Aes.psum f 8 8 : Int)]) (by simp [results, Tryd.results67, go_sem, c2, c3]) rfl
        ⟨rfl, (HH.out.1.setCell (by simp) _).setCell (by simp) _⟩
end Go.Proofs.YtamejhhjfnfalaaDoor.Ae

/- The contract of aes' Word. -/
namespace Go.Proofs.YtamejhhjfnfalaaDoor.Ae
open Go.RowKit

/-- The word n of a stream. -/
def wordN (k : Nat → Nat) (n : Nat) : Nat := Aes.psum (Aes.enc k (Aes.labB (n / 2) 0)) (8 * (n % 2)) 8
theorem psum8_lt (f : Nat → Nat) (o : Nat) (hf : ∀ i, f i < 256) : Aes.psum f o 8 < 18446744073709551616 := Aes.psum_lt f o hf 8
theorem enc_lt {k f : Nat → Nat} (hk : ∀ i, k i < 256) (hf : ∀ i, f i < 256) (i : Nat) : Aes.enc k f i < 256 := encGo_lt hk hf 10 i
abbrev labN (a b : Nat) : Value := .agg #[.int .u64 (a : Int), .int .u64 (b : Int)]
theorem blockOf_zero (a : Nat) (w : World) (ha : a < 18446744073709551616) :
    Calls Tryd.prog 69 #[.agg #[.int .u64 (a : Int), .int .u64 0]] w fun e w' => e = .returned (.agg (bys 16 (Aes.labB a 0))) ∧ Below w.heap.size w w' := blockOf_any a 0 w ha (by omega)
theorem idx0 (w : World) (x y : Int) : (Instr.index 28 (.agg #[.int .u64 x, .int .u64 y]) (.int .u64 0)).run Tryd.prog w = .ok (.int .u64 x) w := by
  obtain ⟨i0, hi, _, hz1, _⟩ := info_parts Tryd.info26
  have hs : (sizeOf 26).run Tryd.prog w = .ok 1 w := by simp [sizeOf, typeInfo, hi, hz1]
  simp [Instr.index, go_sem, run_underlying Tryd.underlying28, hs]
theorem idx1 (w : World) (x y : Int) : (Instr.index 28 (.agg #[.int .u64 x, .int .u64 y]) (.int .u64 1)).run Tryd.prog w = .ok (.int .u64 y) w := by
  obtain ⟨i0, hi, _, hz1, _⟩ := info_parts Tryd.info26
  have hs : (sizeOf 26).run Tryd.prog w = .ok 1 w := by simp [sizeOf, typeInfo, hi, hz1]
  simp [Instr.index, go_sem, run_underlying Tryd.underlying28, hs]
set_option maxHeartbeats 1000000 in
set_option maxRecDepth 100000 in
theorem word_any (g : Nat) (k : Nat → Nat) (n : Nat) (w : World) (hc : Ciph w g k) (hk : ∀ i, k i < 256) (hn : n < 18446744073709551616) :
    Calls Tryd.prog 106 #[.pointer (some ⟨g, 0, none⟩), .int .u64 (n : Int)] w fun e w' => e = .returned (.int .u64 (wordN k n : Int)) ∧ Below w.heap.size w w' := by
  obtain ⟨m, hm⟩ : ∃ m, m = n / 2 := ⟨_, rfl⟩
  have e1 : (n : Int) / 2 = (m : Int) := by omega
  have HM := Lib.hid hm
  have HG := Lib.hid hc
  have HK := Lib.hid hk
  have hm2 : m < 18446744073709551616 := by omega
  clear hm hc hk
  by_cases h0 : n % 2 = 0
  · have e2 : (n : Int) % 2 = 0 := by omega
    have i0 := idx0
    have H0 := Lib.hid h0
    clear h0
    go_enter Tryd.func106, Tryd.ntmps106
    go_wp2_with fail
    refine (blockOf_zero m _ hm2).mono ?_
    rintro e w1 ⟨rfl, hb1⟩
    have HC1 : Ciph w1 g k := OwnB.below HG.out hb1 (OwnB.lt HG.out)
    go_wp2_with fail
    refine (encrypt_any g k _ _ HC1 (Aes.labB_lt m 0) HK.out).mono ?_
    rintro e w2 ⟨rfl, hb2⟩
    go_wp2_with fail
    refine (labelOf_any _ _ (enc_lt HK.out (Aes.labB_lt m 0))).mono ?_
    rintro e w3 ⟨rfl, hb3⟩
    have HB := Lib.hid ((hb1.trans (hb2.mono hb1.size)).trans (hb3.mono (hb1.trans (hb2.mono hb1.size)).size))
    clear hb1 hb2 hb3 HC1
    go_wp2
    go_ret
    exact ⟨ret_int (by unfold wordN; rw [H0.out, ← HM.out]), HB.out⟩
  · have e2 : (n : Int) % 2 = 1 := by omega
    have i1 := idx1
    have H0 := Lib.hid (show n % 2 = 1 by omega)
    clear h0
    go_enter Tryd.func106, Tryd.ntmps106
    go_wp2_with fail
    refine (blockOf_zero m _ hm2).mono ?_
    rintro e w1 ⟨rfl, hb1⟩
    have HC1 : Ciph w1 g k := OwnB.below HG.out hb1 (OwnB.lt HG.out)
    go_wp2_with fail
    refine (encrypt_any g k _ _ HC1 (Aes.labB_lt m 0) HK.out).mono ?_
    rintro e w2 ⟨rfl, hb2⟩
    go_wp2_with fail
    refine (labelOf_any _ _ (enc_lt HK.out (Aes.labB_lt m 0))).mono ?_
    rintro e w3 ⟨rfl, hb3⟩
    have HB := Lib.hid ((hb1.trans (hb2.mono hb1.size)).trans (hb3.mono (hb1.trans (hb2.mono hb1.size)).size))
    clear hb1 hb2 hb3 HC1
    go_wp2
    go_ret
    exact ⟨ret_int (by unfold wordN; rw [H0.out, ← HM.out]), HB.out⟩
theorem infoLab : (Tryd.prog.info? 28).map (·.size) = some 2 := by kernel_rfl
/-- What a call answers that has a label for its result. -/
theorem res_lab {fn : Func} {p : Tmp} (hr : fn.results = #[.cell p 28]) (tmps : Array Value) (w : World) (g : Nat) {x y : Int} (hp : tmps.getD p undef = .pointer (some ⟨g, 0, none⟩)) (h : Lbl w g x y) : (results fn tmps).run Tryd.prog w = .ok (lab x y) w :=
  results_cell_row hr tmps w g _ _ _ _ hp h Tryd.underlying28 rfl infoLab
end Go.Proofs.YtamejhhjfnfalaaDoor.Ae

/- Labels: Xor and Double of package ring, Double of the document's own answers. -/
namespace Go.Proofs.YtamejhhjfnfalaaDoor.Ae
open Go.RowKit

/-- What Spread answers. -/
def spr (x : Int) : Int := if x % 2 = 1 then 18446744073709551615 else 0
theorem and_one (x : Int) : bits .and .u64 x 1 = x % 2 := by
  have h : (BitVec.ofInt 64 x &&& BitVec.ofInt 64 1).toNat = (BitVec.ofInt 64 x).toNat % 2 := by
    rw [BitVec.toNat_and]
    show _ &&& (1 : Nat) = _
    exact Nat.and_one_is_mod _
  show IntKind.u64.wrap ((BitVec.ofInt 64 x &&& BitVec.ofInt 64 1).toNat : Int) = _
  rw [h, u64w, BitVec.toNat_ofInt]
  omega
theorem spr_eq (x : Int) : IntKind.u64.wrap (-bits .and .u64 x 1) = spr x := by
  rw [and_one, u64w]; unfold spr
  split <;> omega
set_option maxHeartbeats 400000 in
theorem spread_any (x : Int) (w : World) :
    Calls Tryd.prog 90 #[.int .u64 x] w fun e w' => e = .returned (.int .u64 (spr x)) ∧ w = w' := by
  go_enter Tryd.func90, Tryd.ntmps90
  go_wp2
  go_ret
  exact ⟨ret_int (spr_eq x), rfl⟩
def dlo (a0 a1 : Int) : Int := if 9223372036854775808 ≤ a1 then bits .xor .u64 (a0 * 2 % 18446744073709551616) 135 else a0 * 2 % 18446744073709551616
def dhi (a0 a1 : Int) : Int := a1 * 2 % 18446744073709551616 + a0 / 9223372036854775808
set_option maxHeartbeats 1000000 in
theorem rdouble_any (a0 a1 : Int) (w : World) (h0 : 0 ≤ a0) (h0' : a0 < 18446744073709551616) (h1 : 0 ≤ a1) (h1' : a1 < 18446744073709551616) :
    Calls Tryd.prog 76 #[lab a0 a1] w fun e w' => e = .returned (lab (dlo a0 a1) (dhi a0 a1)) ∧ Below w.heap.size w w' := by
  have q1 := Lib.hid (u64w (a0 * 2))
  have q2 := Lib.hid (u64w (a1 * 2))
  have q3 := Lib.hid (u64w (IntKind.u64.wrap (a1 * 2) + a0 / 9223372036854775808))
  by_cases h : 9223372036854775808 ≤ a1
  · go_enter Tryd.func76, Tryd.ntmps76
    go_wp2
    refine bodyPost_ret (v := lab (bits .xor .u64 (IntKind.u64.wrap (a0 * 2)) 135) (IntKind.u64.wrap (IntKind.u64.wrap (a1 * 2) + a0 / 9223372036854775808))) (by simp [results, Tryd.results76, go_sem]) rfl ⟨?_, ?_⟩
    · rw [q3.out, q2.out, q1.out]; congr 1; apply lab_eq
      · unfold dlo; rw [if_pos h]
      · unfold dhi; omega
    · exact ((Below.refl _ _).alloc (Nat.le_refl _) _).alloc (by simp) _
  · go_enter Tryd.func76, Tryd.ntmps76
    go_wp2
    refine bodyPost_ret (v := lab (IntKind.u64.wrap (a0 * 2)) (a1 * 2 + a0 / 9223372036854775808)) (by simp [results, Tryd.results76, go_sem]) rfl ⟨?_, ?_⟩
    · rw [q1.out]; congr 1; apply lab_eq
      · unfold dlo; rw [if_neg (by omega)]
      · unfold dhi; omega
    · exact ((Below.refl _ _).alloc (Nat.le_refl _) _).alloc (by simp) _
theorem spread_any' (x : Int) (w : World) :
    Calls Tryd.prog 90 #[.int .u64 x] w fun e w' => e = .returned (.int .u64 (spr x)) ∧ w' = w := (spread_any x w).mono fun _ _ ⟨h, h'⟩ => ⟨h, h'.symm⟩
theorem dlo_ring (a0 a1 : Int) (h1 : 0 ≤ a1) (h1' : a1 < 18446744073709551616) :
    bits .xor .u64 (IntKind.u64.wrap (a0 * 2)) (bits .and .u64 (spr (a1 / 9223372036854775808)) 135) = dlo a0 a1 := by
  rw [u64w]
  unfold dlo
  by_cases h : 9223372036854775808 ≤ a1
  · rw [if_pos h]
    have e : a1 / 9223372036854775808 = 1 := by omega
    rw [e, show bits .and .u64 (spr 1) 135 = 135 by decide +kernel]
  · rw [if_neg h]
    have e : a1 / 9223372036854775808 = 0 := by omega
    rw [e, show bits .and .u64 (spr 0) 135 = 0 by decide +kernel]
    obtain ⟨X, hX⟩ := Int.eq_ofNat_of_zero_le (show 0 ≤ a0 * 2 % 18446744073709551616 by omega)
    rw [hX]
    have := bits_xor X 0 (by omega) (by omega)
    rw [Nat.xor_zero] at this
    exact this
theorem dhi_ring (a0 a1 : Int) (h0 : 0 ≤ a0) (h0' : a0 < 18446744073709551616) :
    bits .or .u64 (IntKind.u64.wrap (a1 * 2)) (a0 / 9223372036854775808) = dhi a0 a1 := by
  rw [u64w]
  unfold dhi
  obtain ⟨X, hX⟩ := Int.eq_ofNat_of_zero_le (show 0 ≤ a1 * 2 % 18446744073709551616 by omega)
  obtain ⟨Y, hY⟩ := Int.eq_ofNat_of_zero_le (show 0 ≤ a0 / 9223372036854775808 by omega)
  rw [hX, hY, bits_or X Y (by omega) (by omega)]
  have hy : Y < 2 ^ 1 := by omega
  have he : X = 2 ^ 1 * (X / 2) := by omega
  rw [he, ← Nat.two_pow_add_eq_or_of_lt hy]
  omega
set_option maxHeartbeats 1000000 in
theorem double_any (a0 a1 : Int) (w : World) (h0 : 0 ≤ a0) (h0' : a0 < 18446744073709551616) (h1 : 0 ≤ a1) (h1' : a1 < 18446744073709551616) :
    Calls Tryd.prog 66 #[lab a0 a1] w fun e w' => e = .returned (lab (dlo a0 a1) (dhi a0 a1)) ∧ Below w.heap.size w w' := by
  have q1 := Lib.hid (dlo_ring a0 a1 h1 h1')
  have q2 := Lib.hid (dhi_ring a0 a1 h0 h0')
  go_enter Tryd.func66, Tryd.ntmps66
  go_wp2
  go_quiet ((go_at_call 90; exact Calls.quiet_of_same (spread_any' _ _)))
  go_wp2
  refine bodyPost_ret (v := lab (bits .xor .u64 (IntKind.u64.wrap (a0 * 2)) (bits .and .u64 (spr (a1 / 9223372036854775808)) 135)) (bits .or .u64 (IntKind.u64.wrap (a1 * 2)) (a0 / 9223372036854775808))) (by simp [results, Tryd.results66, go_sem]) rfl ⟨?_, ?_⟩
  · rw [q1.out, q2.out]
  · have hb := ((Below.refl w.heap.size w).alloc (Nat.le_refl _) (.cells #[.int .u64 a0, .int .u64 a1] 28)).alloc (by simp) (.cells #[.int .u64 0, .int .u64 0] 28)
    have hd : Below w.heap.size w (((w.alloc (.cells #[.int .u64 a0, .int .u64 a1] 28)).alloc (.cells #[.int .u64 0, .int .u64 0] 28)).drewN nq) := ⟨hb.os, hb.tape, hb.output, hb.size, hb.block⟩
    exact (hd.setCell (by simp) _).setCell (by simp) _

def XorIn (w : World) (a0 a1 b0 b1 x0 x1 : Int) (wr : World) : Prop :=
  Below w.heap.size w wr ∧ Lbl wr w.heap.size a0 a1 ∧ Lbl wr (w.heap.size + 1) b0 b1 ∧ Lbl wr (w.heap.size + 2) 0 0 ∧ Lbl wr (w.heap.size + 3) x0 x1
set_option maxHeartbeats 1000000 in
set_option maxRecDepth 100000 in
theorem xor_any (a0 a1 b0 b1 : Int) (w : World) :
    Calls Tryd.prog 43 #[lab a0 a1, lab b0 b1] w fun e w' => e = .returned (lab (bits .xor .u64 a0 b0) (bits .xor .u64 a1 b1)) ∧ Below w.heap.size w w' := by
  go_enter Tryd.func43, Tryd.ntmps43
  go_wp2
  go_loopw [7] (fun t wr => ∃ i : Nat, i ≤ 2 ∧ t = .int .i64 i ∧ XorIn w a0 a1 b0 b1 (if i < 1 then 0 else bits .xor .u64 a0 b0) (if i < 2 then 0 else bits .xor .u64 a1 b1) wr) (fun t _ => 2 - (intOf t).toNat)
  case atStart =>
    refine ⟨0, by omega, rfl, ((((Below.refl _ _).alloc (Nat.le_refl _) _).alloc (by simp) _).alloc (by simp; omega) _).alloc (by simp; omega) _, ?_, ?_, ?_, ?_⟩
    · exact (((Lbl.new w a0 a1).alloc _).alloc _).alloc _
    · have := (Lbl.new (w.alloc (.cells #[.int .u64 a0, .int .u64 a1] 28)) b0 b1)
      simp only [World.size_alloc] at this
      exact (this.alloc _).alloc _
    · have := (Lbl.new ((w.alloc (.cells #[.int .u64 a0, .int .u64 a1] 28)).alloc (.cells #[.int .u64 b0, .int .u64 b1] 28)) 0 0)
      simp only [World.size_alloc] at this
      exact this.alloc _
    · have := (Lbl.new (((w.alloc (.cells #[.int .u64 a0, .int .u64 a1] 28)).alloc (.cells #[.int .u64 b0, .int .u64 b1] 28)).alloc (.cells #[.int .u64 0, .int .u64 0] 28)) 0 0)
      simp only [World.size_alloc] at this
      exact this
  case round =>
    obtain ⟨i, hi, rfl, HX⟩ := hrel
    rcases (show i = 0 ∨ i = 1 ∨ i = 2 by omega) with rfl | rfl | rfl
    · have H := HX
      rw [if_pos (by omega), if_pos (by omega)] at H
      clear HX
      obtain ⟨hB, hA, hBb, hR, hXx⟩ := H
      have c1 := hA.cell0
      have c2 := hBb.cell0
      have c3 := hXx.cell0
      have c4 := hXx.frozen 0
      have HH := Lib.hid (And.intro hB (And.intro hA (And.intro hBb (And.intro hR hXx))))
      clear hB hA hBb hR hXx
      go_wp2
      go_region
      go_wp2
      go_roundw
      case rel =>
        obtain ⟨hB, hA, hBb, hR, hXx⟩ := HH.out
        exact ⟨1, by omega, rfl, (hB.setCell (by simp; omega) _).drew, hA.far (by simp; omega) _, hBb.far (by simp) _, hR.far (by simp) _, hXx.set0 _⟩
      case measure => simp [intOf]
    · have H := HX
      rw [if_neg (by omega), if_pos (by omega)] at H
      clear HX
      obtain ⟨hB, hA, hBb, hR, hXx⟩ := H
      have c1 := hA.cell1
      have c2 := hBb.cell1
      have c3 := hXx.cell1
      have c4 := hXx.frozen 1
      have HH := Lib.hid (And.intro hB (And.intro hA (And.intro hBb (And.intro hR hXx))))
      clear hB hA hBb hR hXx
      go_wp2
      go_region
      go_wp2
      go_roundw
      case rel =>
        obtain ⟨hB, hA, hBb, hR, hXx⟩ := HH.out
        exact ⟨2, by omega, rfl, (hB.setCell (by simp; omega) _).drew, hA.far (by simp; omega) _, hBb.far (by simp) _, hR.far (by simp) _, hXx.set1 _⟩
      case measure => simp [intOf]
    · have H := HX
      rw [if_neg (by omega), if_neg (by omega)] at H
      clear HX
      obtain ⟨hB, hA, hBb, hR, hXx⟩ := H
      have c1 := hXx.cell0
      have c2 := hXx.cell1
      have c3 := hR.cell0
      have c4 := hR.cell1
      have c5 := hR.frozen 0
      have c6 := hR.frozen 1
      have HH := Lib.hid (And.intro hB hR)
      clear hB hA hBb hR hXx
      go_wp2
      have H := (HH.out.2.set0 (bits .xor .u64 a0 b0)).set1 (bits .xor .u64 a1 b1)
      have d1 := H.cell0
      have d2 := H.cell1
      exact bodyPost_ret (v := lab (bits .xor .u64 a0 b0) (bits .xor .u64 a1 b1)) (by simp [results, Tryd.results43, go_sem, c3, c4]) rfl
        ⟨rfl, (HH.out.1.setCell (by simp; omega) _).setCell (by simp; omega) _⟩
/-- Doubling a label of two numbers. -/
def dloN (X Y : Nat) : Nat := if 9223372036854775808 ≤ Y then (X * 2 % 18446744073709551616) ^^^ 135 else X * 2 % 18446744073709551616
def dhiN (X Y : Nat) : Nat := Y * 2 % 18446744073709551616 + X / 9223372036854775808
theorem dlo_nat (X Y : Nat) : dlo (X : Int) (Y : Int) = (dloN X Y : Int) := by
  unfold dlo dloN
  have e : (X : Int) * 2 % 18446744073709551616 = ((X * 2 % 18446744073709551616 : Nat) : Int) := by omega
  by_cases h : 9223372036854775808 ≤ Y
  · rw [if_pos (by omega), if_pos h, e]
    exact bits_xor _ 135 (by omega) (by omega)
  · rw [if_neg (by omega), if_neg h, e]
theorem dhi_nat (X Y : Nat) : dhi (X : Int) (Y : Int) = (dhiN X Y : Int) := by
  unfold dhi dhiN; omega
theorem dloN_lt (X Y : Nat) : dloN X Y < 18446744073709551616 := by
  unfold dloN; split
  · exact xor_lt (by omega) (by omega)
  · omega
theorem dhiN_lt (X Y : Nat) (hX : X < 18446744073709551616) : dhiN X Y < 18446744073709551616 := by
  unfold dhiN; omega
end Go.Proofs.YtamejhhjfnfalaaDoor.Ae

/- The contract of aes' Hash. -/
namespace Go.Proofs.YtamejhhjfnfalaaDoor.Ae
open Go.RowKit

theorem xorN_any (a0 a1 b0 b1 x y : Nat) (w : World) (h0 : a0 < 18446744073709551616) (h1 : a1 < 18446744073709551616) (k0 : b0 < 18446744073709551616) (k1 : b1 < 18446744073709551616) (hx : a0 ^^^ b0 = x) (hy : a1 ^^^ b1 = y) :
    Calls Tryd.prog 43 #[labN a0 a1, labN b0 b1] w fun e w' => e = .returned (labN x y) ∧ Below w.heap.size w w' :=
  (xor_any a0 a1 b0 b1 w).mono fun _ _ ⟨h, hb⟩ => ⟨by rw [h, bits_xor _ _ h0 k0, bits_xor _ _ h1 k1, hx, hy], hb⟩
theorem xorZ_any (a0 a1 b0 x y : Nat) (w : World) (h0 : a0 < 18446744073709551616) (h1 : a1 < 18446744073709551616) (k0 : b0 < 18446744073709551616) (hx : a0 ^^^ b0 = x) (hy : a1 = y) :
    Calls Tryd.prog 43 #[labN a0 a1, .agg #[.int .u64 (b0 : Int), .int .u64 0]] w fun e w' => e = .returned (labN x y) ∧ Below w.heap.size w w' :=
  xorN_any a0 a1 b0 0 x y w h0 h1 k0 (by omega) hx (by rw [Nat.xor_zero]; exact hy)
theorem doubleN_any (a b x y : Nat) (w : World) (h0 : a < 18446744073709551616) (h1 : b < 18446744073709551616) (hx : dloN a b = x) (hy : dhiN a b = y) :
    Calls Tryd.prog 66 #[labN a b] w fun e w' => e = .returned (labN x y) ∧ Below w.heap.size w w' :=
  (double_any a b w (by omega) (by omega) (by omega) (by omega)).mono fun _ _ ⟨h, hb⟩ => ⟨by rw [h, dlo_nat, dhi_nat, hx, hy], hb⟩
/-- What is encrypted for a hash. -/
def hs0 (a b t : Nat) : Nat := dloN a b ^^^ t
def hs1 (a b : Nat) : Nat := dhiN a b
theorem hs0_lt {a b t : Nat} (ht : t < 18446744073709551616) : hs0 a b t < 18446744073709551616 := xor_lt (dloN_lt a b) ht
theorem hs1_lt {a b : Nat} (ha : a < 18446744073709551616) : hs1 a b < 18446744073709551616 := dhiN_lt a b ha
/-- The two words of a hash. -/
def hashA (k : Nat → Nat) (a b t : Nat) : Nat := Aes.psum (Aes.enc k (Aes.labB (hs0 a b t) (hs1 a b))) 0 8 ^^^ hs0 a b t
def hashB (k : Nat → Nat) (a b t : Nat) : Nat := Aes.psum (Aes.enc k (Aes.labB (hs0 a b t) (hs1 a b))) 8 8 ^^^ hs1 a b
/-- Hash's own memory behind its first statement. -/
def HM (w : World) (g7 x y : Nat) (wr : World) : Prop := Below w.heap.size w wr ∧ Lbl wr g7 x y ∧ (∃ p q, Lbl wr (w.heap.size + 1) p q)
theorem HM.next {w w1 w2 : World} {g7 x y : Nat} (h : HM w g7 x y w1) (hb : Below w1.heap.size w1 w2) : HM w g7 x y w2 :=
  ⟨h.1.trans (hb.mono h.1.size), (hb.block _ h.2.1.lt).trans h.2.1, h.2.2.elim fun p ⟨q, hl⟩ => ⟨p, q, (hb.block _ hl.lt).trans hl⟩⟩
theorem HM.drew {w w1 : World} {g7 x y : Nat} (h : HM w g7 x y w1) : HM w g7 x y w1.drew := ⟨h.1.drew, h.2.1, h.2.2⟩
theorem HM.ciph {w w1 : World} {g7 x y g : Nat} {k : Nat → Nat} {p : Prop} (h : p ∧ Hid (HM w g7 x y w1)) (hc : Ciph w g k) : Ciph w1 g k := OwnB.below hc h.2.out.1 (OwnB.lt hc)
theorem HM.cells {w wr : World} {g7 x y : Nat} (h : HM w g7 x y wr) : (wr.cell? ⟨g7, 0, none⟩ = some (.int .u64 (x : Int)) ∧ wr.cell? ⟨g7, 1, none⟩ = some (.int .u64 (y : Int)) ∧ wr.cell? ⟨w.heap.size + 1, 0, none⟩ = some (cellV wr (w.heap.size + 1) 0) ∧ wr.cell? ⟨w.heap.size + 1, 1, none⟩ = some (cellV wr (w.heap.size + 1) 1) ∧ wr.frozen? ⟨w.heap.size + 1, 0, none⟩ = false ∧ wr.frozen? ⟨w.heap.size + 1, 1, none⟩ = false) ∧ Hid (HM w g7 x y wr) := by
  obtain ⟨h0, h1, p, q, h2⟩ := h
  exact ⟨⟨h1.cell0, h1.cell1, by unfold cellV; rw [h2.cell0]; rfl, by unfold cellV; rw [h2.cell1]; rfl, h2.frozen 0, h2.frozen 1⟩, h0, h1, p, q, h2⟩
theorem HM.step {w w1 w2 : World} {g7 x y : Nat} {p : Prop} (hb : Hid (Below w1.heap.size w1 w2)) (h : p ∧ Hid (HM w g7 x y w1)) : (w2.cell? ⟨g7, 0, none⟩ = some (.int .u64 (x : Int)) ∧ w2.cell? ⟨g7, 1, none⟩ = some (.int .u64 (y : Int)) ∧ w2.cell? ⟨w.heap.size + 1, 0, none⟩ = some (cellV w2 (w.heap.size + 1) 0) ∧ w2.cell? ⟨w.heap.size + 1, 1, none⟩ = some (cellV w2 (w.heap.size + 1) 1) ∧ w2.frozen? ⟨w.heap.size + 1, 0, none⟩ = false ∧ w2.frozen? ⟨w.heap.size + 1, 1, none⟩ = false) ∧ Hid (HM w g7 x y w2) :=
  (h.2.out.next hb.out).cells
theorem HM.sets {w w1 : World} {g7 x y : Nat} {p : Prop} (h : p ∧ Hid (HM w g7 x y w1)) (hg : w.heap.size + 1 < g7) (u v : Int) : HM w g7 x y ((w1.setCell ⟨w.heap.size + 1, 0, none⟩ (.int .u64 u)).setCell ⟨w.heap.size + 1, 1, none⟩ (.int .u64 v)) := by
  obtain ⟨h0, h1, p, q, h2⟩ := h.2.out
  exact ⟨(h0.setCell (by simp) _).setCell (by simp) _, (h1.far (by simp; omega) _).far (by simp; omega) _, u, v, (h2.set0 u).set1 v⟩
theorem HM.made {w w1 : World} {g7 x y : Nat} {p : Prop} {u v : Int} (h : p ∧ Hid (HM w g7 x y ((w1.setCell ⟨w.heap.size + 1, 0, none⟩ (.int .u64 u)).setCell ⟨w.heap.size + 1, 1, none⟩ (.int .u64 v)))) :
    Lbl ((w1.setCell ⟨w.heap.size + 1, 0, none⟩ (.int .u64 u)).setCell ⟨w.heap.size + 1, 1, none⟩ (.int .u64 v)) (w.heap.size + 1) u v ∧ Below w.heap.size w ((w1.setCell ⟨w.heap.size + 1, 0, none⟩ (.int .u64 u)).setCell ⟨w.heap.size + 1, 1, none⟩ (.int .u64 v)) := by
  obtain ⟨h0, h1, a, b, h2⟩ := h.2.out
  have ne : (⟨w.heap.size + 1, 1, none⟩ : Addr) ≠ ⟨w.heap.size + 1, 0, none⟩ := fun e => by injection e; omega
  have v1 := cell_set_eq h2.cell1
  have v0 := h2.cell0
  rw [World.cell?_setCell_other _ _ _ _ ne] at v0
  have v0 := cell_set_eq v0
  injection v1 with _ e1
  injection v0 with _ e0
  subst e1 e0
  exact ⟨h2, h0⟩
set_option maxHeartbeats 2000000 in
set_option maxRecDepth 100000 in
theorem hash_any (g : Nat) (k : Nat → Nat) (a b t : Nat) (w : World) (hc : Ciph w g k) (hk : ∀ i, k i < 256) (ha : a < 18446744073709551616) (hb : b < 18446744073709551616) (ht : t < 18446744073709551616) :
    Calls Tryd.prog 42 #[.pointer (some ⟨g, 0, none⟩), labN a b, .int .u64 (t : Int)] w fun e w' => e = .returned (labN (hashA k a b t) (hashB k a b t)) ∧ Below w.heap.size w w' := by
  have HG := Lib.hid hc
  have HK := Lib.hid hk
  have HB := Lib.hid (And.intro ha (And.intro hb ht))
  have h1 := ((Lbl.new w a b).alloc (.cells #[.int .u64 0, .int .u64 0] 28))
  have h2 := Lbl.new (w.alloc (.cells #[.int .u64 (a : Int), .int .u64 (b : Int)] 28)) 0 0
  simp only [World.size_alloc] at h2
  have h3 := ((Below.refl w.heap.size w).alloc (Nat.le_refl _) (.cells #[.int .u64 (a : Int), .int .u64 (b : Int)] 28)).alloc (by simp) (.cells #[.int .u64 0, .int .u64 0] 28)
  have H0 := Lib.hid (And.intro h1 (And.intro h2 h3))
  clear hc hk ha hb ht h1 h2 h3
  go_enter Tryd.func42, Tryd.ntmps42
  go_wp2_with fail
  refine (doubleN_any a b (dloN a b) (hs1 a b) _ HB.out.1 HB.out.2.1 rfl rfl).mono ?_
  rintro e w1 ⟨rfl, hb1⟩
  have H1 := Lib.hid (show Below w.heap.size w w1 ∧ Lbl w1 (w.heap.size + 1) 0 0 from ⟨H0.out.2.2.trans (hb1.mono H0.out.2.2.size), (hb1.block _ H0.out.2.1.lt).trans H0.out.2.1⟩)
  clear hb1 H0
  go_wp2_with fail
  refine (xorZ_any (dloN a b) (hs1 a b) t (hs0 a b t) (hs1 a b) _ (dloN_lt _ _) (hs1_lt HB.out.1) HB.out.2.2 rfl rfl).mono ?_
  rintro e w2 ⟨rfl, hb2⟩
  have H2 := Lib.hid (show Below w.heap.size w w2 ∧ Lbl w2 (w.heap.size + 1) 0 0 from ⟨H1.out.1.trans (hb2.mono H1.out.1.size), (hb2.block _ H1.out.2.lt).trans H1.out.2⟩)
  have hlt : w.heap.size + 1 < w2.heap.size := H2.out.2.lt
  clear hb2 H1
  go_wp2
  have H3 := Lib.hid (show HM w w2.heap.size (hs0 a b t) (hs1 a b) (w2.alloc (.cells #[.int .u64 (hs0 a b t : Int), .int .u64 (hs1 a b : Int)] 28)) from
    ⟨H2.out.1.alloc (by omega) _, Lbl.new w2 _ _, 0, 0, H2.out.2.alloc _⟩)
  clear H2
  generalize (w2.alloc (.cells #[.int .u64 (hs0 a b t : Int), .int .u64 (hs1 a b : Int)] 28)) = w3 at H3 ⊢
  generalize w2.heap.size = g7 at H3 hlt ⊢
  go_region_held3 (fun w' => (w'.cell? ⟨g7, 0, none⟩ = some (.int .u64 (hs0 a b t : Int)) ∧ w'.cell? ⟨g7, 1, none⟩ = some (.int .u64 (hs1 a b : Int)) ∧ w'.cell? ⟨w.heap.size + 1, 0, none⟩ = some (cellV w' (w.heap.size + 1) 0) ∧ w'.cell? ⟨w.heap.size + 1, 1, none⟩ = some (cellV w' (w.heap.size + 1) 1) ∧ w'.frozen? ⟨w.heap.size + 1, 0, none⟩ = false ∧ w'.frozen? ⟨w.heap.size + 1, 1, none⟩ = false) ∧ Hid (HM w g7 (hs0 a b t) (hs1 a b) w')) (first | exact HM.cells (HM.drew H3.out) | exact HM.step (by assumption) (by assumption) | exact HM.cells (HM.sets (by assumption) hlt _ _))
    (first
      | (go_at_call 69; refine (blockOf_any (hs0 a b t) (hs1 a b) _ (hs0_lt HB.out.2.2) (hs1_lt HB.out.1)).mono ?_; rintro e w4 ⟨rfl, hb4⟩; have HB4 := Lib.hid hb4; clear hb4)
      | (go_at_call 68; refine (encrypt_any g k _ _ (HM.ciph (by assumption) HG.out) (Aes.labB_lt _ _) HK.out).mono ?_; rintro e w4 ⟨rfl, hb4⟩; have HB4 := Lib.hid hb4; clear hb4)
      | (go_at_call 67; refine (labelOf_any _ _ (enc_lt HK.out (Aes.labB_lt _ _))).mono ?_; rintro e w4 ⟨rfl, hb4⟩; have HB4 := Lib.hid hb4; clear hb4)
      | (go_at_call 43; refine (xorN_any _ _ (hs0 a b t) (hs1 a b) (hashA k a b t) (hashB k a b t) _ (psum8_lt _ _ (enc_lt HK.out (Aes.labB_lt _ _))) (psum8_lt _ _ (enc_lt HK.out (Aes.labB_lt _ _))) (hs0_lt HB.out.2.2) (hs1_lt HB.out.1) rfl rfl).mono ?_; rintro e w4 ⟨rfl, hb4⟩; have HB4 := Lib.hid hb4; clear hb4))
  go_wp2
  rename_i hh
  exact bodyPost_ret (v := labN (hashA k a b t) (hashB k a b t)) (res_lab rfl _ _ _ rfl (HM.made hh).1) rfl ⟨rfl, (HM.made hh).2⟩
end Go.Proofs.YtamejhhjfnfalaaDoor.Ae
