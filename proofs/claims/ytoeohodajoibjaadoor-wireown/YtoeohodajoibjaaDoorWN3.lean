/- Contracts: Number and Encode where they answer bytes. -/
import Derived.Test.YtoeohodajoibjaaDoorWN2
import Derived.Laws.MakeOwn
namespace Go.Proofs.YtoeohodajoibjaaDoor
open Go.RowKit

theorem OR.mono {w : World} {base b2 n : Nat} {v : Value} {f : Nat → Nat} (h : OR w base v n f) (hb : b2 ≤ base) : OR w b2 v n f := by
  refine ⟨h.1, ?_⟩
  rcases h.2 with h0 | ⟨g, cap, cur, rfl, hg, rest⟩
  · exact .inl h0
  · exact .inr ⟨g, cap, cur, rfl, Nat.le_trans hb hg, rest⟩
set_option maxHeartbeats 1000000 in
set_option maxRecDepth 100000 in
theorem number_ok (n : Nat) (w : World) (hn : n ≤ 4294967295) :
    Calls Tryd.prog 11 #[.int .i64 (n : Int)] w fun e w' => ∃ b c, e = .returned (.tuple #[sl8 b (Wire.nlen n) c, .nilIface]) ∧ OR w' w.heap.size (sl8 b (Wire.nlen n) c) (Wire.nlen n) (Wire.nat7 n) ∧ Below w.heap.size w w' := by
  have H1 := Lib.hid (checkNumber_ok n w hn)
  have H2 := Lib.hid (appendNumber_any (.slice none 0 0) w.heap.size 0 (fun _ => 0) n w (OR.nil _ _ _) hn (by omega) (Nat.le_refl _))
  go_enter Tryd.func11, Tryd.ntmps11
  go_wp2_with fail
  refine H1.out.mono ?_
  rintro e w1 ⟨rfl, rfl⟩
  go_wp2_with fail
  refine H2.out.mono ?_
  rintro e w1 ⟨b, c, rfl, ho, hb⟩
  have HN := Lib.hid (And.intro ho hb)
  clear ho hb H1 H2
  go_wp2
  go_ret2
  refine ⟨b, c, ?_, ?_, HN.out.2⟩
  · rfl
  · have := HN.out.1
    rw [Nat.zero_add] at this
    exact OR.congr this fun i _ => by unfold thenB; rw [if_neg (by omega), Nat.sub_zero]
set_option maxHeartbeats 1000000 in
set_option maxRecDepth 100000 in
theorem number_bad (z : Int) (w : World) (hg : Handle w) (hz : z < 0 ∨ 4294967295 < z) :
    Calls Tryd.prog 11 #[.int .i64 z] w fun e w' => e = .returned (.tuple #[.slice none 0 0, chain [(sNumber, z)] 1]) ∧ Below w.heap.size w w' := by
  have H1 := Lib.hid (checkNumber_bad z w hg hz)
  go_enter Tryd.func11, Tryd.ntmps11
  go_wp2_with fail
  refine H1.out.mono ?_
  rintro e w1 ⟨rfl, hb⟩
  have HB := Lib.hid hb
  obtain ⟨T, v, hT⟩ := chain_iface [(sNumber, z)] 1
  rw [hT]
  clear hb H1
  go_wp2
  go_ret2
  exact ⟨by rw [hT]; rfl, HB.out⟩

/-- Block g is a message's two cells. -/
def Msg (w : World) (g : Nat) (r : Int) (v : Value) : Prop := w.heap[g]? = some (.cells #[.int .i64 r, v] 36 (0, 0))
section
variable {w w' : World} {g : Nat} {r : Int} {v : Value}
theorem Msg.lt (h : Msg w g r v) : g < w.heap.size := (Array.getElem?_eq_some_iff.1 h).1
theorem Msg.cell0 (h : Msg w g r v) : w.cell? ⟨g, 0, none⟩ = some (.int .i64 r) := by rw [cell_of_row w g 0 _ 36 (0, 0) h]; rfl
theorem Msg.cell1 (h : Msg w g r v) : w.cell? ⟨g, 1, none⟩ = some v := by rw [cell_of_row w g 1 _ 36 (0, 0) h]; rfl
theorem Msg.frozen (h : Msg w g r v) (i : Nat) : w.frozen? ⟨g, i, none⟩ = false := by unfold Msg at h; simp [World.frozen?, h]
theorem Msg.below {B : Nat} (h : Msg w g r v) (hb : Below B w w') (hg : g < B) : Msg w' g r v := (hb.block g hg).trans h
theorem Msg.alloc (h : Msg w g r v) (o : Obj) : Msg (w.alloc o) g r v := (Below.heap_alloc w o g h.lt).trans h
theorem Msg.new (w : World) (r : Int) (v : Value) : Msg (w.alloc (.cells #[.int .i64 r, v] 36)) w.heap.size r v := heap_alloc_new w _
theorem Msg.set (h : Msg w g r v) (r' : Int) (v' : Value) : Msg ((w.setCell ⟨g, 0, none⟩ (.int .i64 r')).setCell ⟨g, 1, none⟩ v') g r' v' := by
  unfold Msg at h ⊢
  simp [World.setCell, Array.getElem?_modify, h]
end
abbrev msg (r : Int) (v : Value) : Value := .agg #[.int .i64 r, v]
theorem makeB (w : World) (n : Nat) (hn : n ≤ 65536) : ∃ o, (Instr.makeSlice 22 (.int .i64 0) (.int .i64 (10 + 8 * (n : Int)))).run Tryd.prog w = .ok (sl8 w.heap.size 0 (10 + 8 * n)) (w.alloc o) ∧ ∀ base, base ≤ w.heap.size → OR (w.alloc o) base (sl8 w.heap.size 0 (10 + 8 * n)) 0 (fun _ => 0) := by
  obtain ⟨i0, hi, hz0, hz1, hz2⟩ := infoB
  have := run_make (P := Tryd.prog) w 22 5 i0 (.int .u8 0) Tryd.underlying22 hi hz0 .i64 .i64 0 (10 + 8 * (n : Int)) (by omega) (by omega) (by rw [hz2]; omega) (by omega)
  have e : (10 + 8 * (n : Int)).toNat = 10 + 8 * n := by omega
  rw [e, hz1] at this
  exact ⟨_, this, fun base hb => World.ownsRow_made w _ (10 + 8 * n) hb (by unfold maxLen; omega) (by rw [size_madeCells])⟩
/-- What Encode answers where it answers bytes. -/
def Enc (w : World) (r n : Nat) (ws : Nat → Nat) (e : Ending) (w' : World) : Prop :=
  ∃ b c, e = .returned (.tuple #[sl8 b (Wire.encLen r n) c, .nilIface]) ∧ OR w' w.heap.size (sl8 b (Wire.encLen r n) c) (Wire.encLen r n) (Wire.encB r n ws) ∧ Below w.heap.size w w'
set_option maxHeartbeats 2000000 in
set_option maxRecDepth 100000 in
theorem encode_ok (r : Nat) (A : Option Addr) (n c : Nat) (ws : Nat → Nat) (w : World) (hA : AtO w A n (fun i => (ws i : Int))) (hr : r ≤ 4294967295) (hn : n ≤ 65536) :
    Calls Tryd.prog 16 #[msg r (.slice A n c)] w (Enc w r n ws) := by
  have hm0 := Msg.new w r (.slice A n c)
  have hb0 : Below w.heap.size w (w.alloc (.cells #[.int .i64 (r : Int), .slice A n c] 36)) := (Below.refl _ _).alloc (Nat.le_refl _) _
  have hz0 : (w.alloc (.cells #[.int .i64 (r : Int), .slice A n c] 36)).heap.size = w.heap.size + 1 := by simp
  go_enter Tryd.func16, Tryd.ntmps16
  go_wp2_with fail
  generalize w.alloc (.cells #[.int .i64 (r : Int), .slice A n c] 36) = w0 at hm0 hb0 hz0 ⊢
  refine (checkNumber_ok r w0 hr).mono ?_
  rintro e w1 ⟨rfl, rfl⟩
  obtain ⟨o, hmk, hown⟩ := makeB w0 n hn
  have c0 := hm0.cell0
  have c1 := hm0.cell1
  have h1 : ¬ (65536 : Int) < (n : Int) := by omega
  have e1 : IntKind.i64.wrap (8 * (n : Int)) = 8 * (n : Int) := i64_nat _ (by omega) (by omega)
  have e2 : IntKind.i64.wrap (10 + 8 * (n : Int)) = 10 + 8 * (n : Int) := i64_nat _ (by omega) (by omega)
  have hO := hown (w.heap.size + 1) (by omega)
  have hM1 := hm0.alloc o
  have d0 := hM1.cell0
  have HW := Lib.hid (show AtO (w0.alloc o) A n (fun i => (ws i : Int)) ∧ Below w.heap.size w (w0.alloc o) ∧ w.heap.size + 1 ≤ (w0.alloc o).heap.size ∧ Msg (w0.alloc o) w.heap.size r (.slice A n c) from ⟨hA.below (hb0.alloc hb0.size o), hb0.alloc hb0.size o, by simp; omega, hM1⟩)
  have HA0 := Lib.hid hA
  clear hA hm0 hb0 hz0 hown hM1
  go_wp2_with fail
  generalize w0.alloc o = w1 at HW hO d0 hmk ⊢
  clear hmk c0 c1 d0 o
  refine (appendNumber_any _ (w.heap.size + 1) 0 (fun _ => 0) r w1 hO hr (by omega) HW.out.2.2.1).mono ?_
  rintro e w2 ⟨g2, k2, rfl, ho2, hb2⟩
  rw [Nat.zero_add] at ho2 ⊢
  have hM2 := HW.out.2.2.2.below hb2 (by omega)
  have d1 := hM2.cell1
  have H2 := Lib.hid (And.intro (OR.congr ho2 (g := Wire.nat7 r) (fun i _ => by unfold thenB; rw [if_neg (by omega), Nat.sub_zero])) (And.intro hb2 (And.intro hM2 (show w.heap.size + 1 ≤ w2.heap.size from Nat.le_trans HW.out.2.2.1 hb2.size))))
  clear ho2 hb2 hM2 hO
  have h5r := Wire.nlen_most r hr
  have h5n := Wire.nlen_most n (by omega)
  go_wp2_with fail
  refine (appendNumber_any _ (w.heap.size + 1) (Wire.nlen r) (Wire.nat7 r) n w2 H2.out.1 (by omega) (by omega) H2.out.2.2.2).mono ?_
  rintro e w3 ⟨g3, k3, rfl, ho3, hb3⟩
  have hM3 := H2.out.2.2.1.below hb3 (by omega)
  have d2 := hM3.cell1
  have H3 := Lib.hid (show OR w3 (w.heap.size + 1) (sl8 g3 (Wire.nlen r + Wire.nlen n) k3) (Wire.nlen r + Wire.nlen n + 8 * 0) (Wire.encB r n ws) ∧ Below (w.heap.size + 1) w1 w3 from
    ⟨OR.congr ho3 (fun i hi => by
      unfold thenB Wire.encB
      by_cases h : i < Wire.nlen r
      · rw [if_pos h, if_pos h]
      · rw [if_neg h, if_neg h, if_pos (show i < Wire.nlen r + Wire.nlen n from hi)]), H2.out.2.1.trans hb3⟩)
  clear ho3 hb3 hM3 H2 d1
  go_wp2
  clear d2
  go_loopw [5, 44] (fun v p wr => ∃ i : Nat, p = .int .i64 i ∧ i ≤ n ∧ Hid (OR wr (w.heap.size + 1) v (Wire.nlen r + Wire.nlen n + 8 * i) (Wire.encB r n ws) ∧ Below (w.heap.size + 1) w1 wr)) (fun _ p _ => n - (intOf p).toNat)
  case atStart => exact ⟨0, rfl, by omega, H3.out⟩
  case round =>
    clear H3
    obtain ⟨i, rfl, hi, HO⟩ := hrel
    have hbw : w.heap.size + 1 ≤ wr.heap.size := Nat.le_trans HW.out.2.2.1 HO.out.2.size
    have hbW : Below w.heap.size w wr := HW.out.2.1.trans (HO.out.2.mono (by omega))
    by_cases hlt : i < n
    · have hlt2 : (i : Int) < (n : Int) := by omega
      obtain ⟨ad, rfl, hc⟩ := HA0.out.below hbW i hlt
      have e3 : IntKind.i64.wrap ((i : Int) + 1) = (i : Int) + 1 := i64_nat _ (by omega) (by omega)
      go_wp2_with fail
      refine (appendWord_any _ (w.heap.size + 1) _ _ (ws i) wr HO.out.1 (by have := Wire.nlen_pos r; omega) (by omega) hbw).mono ?_
      rintro e w4 ⟨g4, k4, rfl, ho4, hb4⟩
      have HN := Lib.hid (show OR w4 (w.heap.size + 1) (sl8 g4 (Wire.nlen r + Wire.nlen n + 8 * i + 8) k4) (Wire.nlen r + Wire.nlen n + 8 * (i + 1)) (Wire.encB r n ws) ∧ Below (w.heap.size + 1) w1 w4 from
        ⟨OR.congr (n := Wire.nlen r + Wire.nlen n + 8 * (i + 1)) ho4 (fun j hj => by
          unfold thenB
          split
          · rfl
          · rename_i hnot
            unfold Wire.encB
            rw [if_neg (by omega), if_neg (by omega)]
            unfold Wire.wby
            rw [show (j - (Wire.nlen r + Wire.nlen n)) / 8 = i by omega, show (j - (Wire.nlen r + Wire.nlen n)) % 8 = j - (Wire.nlen r + Wire.nlen n + 8 * i) by omega]), HO.out.2.trans hb4⟩)
      clear ho4 hb4 HO hbw hbW
      go_wp2
      go_roundw
      case rel => exact ⟨i + 1, by go_num, by omega, HN⟩
      case measure => simp [intOf]; omega
    · obtain rfl : i = n := by omega
      obtain ⟨b, k, rfl, _⟩ := HO.out.1.read (by have := Wire.nlen_pos r; omega)
      have HB := Lib.hid hbW
      clear hbW
      go_wp2
      go_ret2
      exact ⟨b, k, rfl, HO.out.1.mono (by omega), HB.out⟩
end Go.Proofs.YtoeohodajoibjaaDoor
