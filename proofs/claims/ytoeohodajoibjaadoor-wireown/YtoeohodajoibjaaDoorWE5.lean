/- Contract of the document's Encode; Encode of the program where it refuses. -/
import Derived.Test.YtoeohodajoibjaaDoorWT2
namespace Go.Proofs.YtoeohodajoibjaaDoor
open Go.RowKit

theorem OR.below {w w' : World} {base n : Nat} {v : Value} {f : Nat → Nat} (h : OR w base v n f) (hb : Below w.heap.size w w') : OR w' base v n f := own_below h hb
theorem encB_head (r n : Nat) (ws : Nat → Nat) (i : Nat) (hi : i < Wire.nlen r + Wire.nlen n) : thenB (Wire.nlen r) (Wire.nat7 r) (Wire.nat7 n) i = Wire.encB r n ws i := by
  unfold thenB Wire.encB
  by_cases h : i < Wire.nlen r
  · rw [if_pos h, if_pos h]
  · rw [if_neg h, if_neg h, if_pos hi]
theorem encB_word (r n : Nat) (ws : Nat → Nat) (i j : Nat) (hj : j < Wire.nlen r + Wire.nlen n + 8 * i + 8) : thenB (Wire.nlen r + Wire.nlen n + 8 * i) (Wire.encB r n ws) (Wire.byt (ws i)) j = Wire.encB r n ws j := by
  unfold thenB
  split
  · rfl
  · rename_i hnot
    unfold Wire.encB
    rw [if_neg (by omega), if_neg (by omega)]
    unfold Wire.wby
    rw [show (j - (Wire.nlen r + Wire.nlen n)) / 8 = i by omega, show (j - (Wire.nlen r + Wire.nlen n)) % 8 = j - (Wire.nlen r + Wire.nlen n + 8 * i) by omega]
set_option maxHeartbeats 2000000 in
set_option maxRecDepth 100000 in
theorem rencode_any (r : Nat) (A : Option Addr) (n c : Nat) (ws : Nat → Nat) (w : World) (hA : AtO w A n (fun i => (ws i : Int))) (hw : ∀ i, ws i < 18446744073709551616) (hr : r ≤ 4294967295) (hn : n ≤ 65536) :
    Calls Tryd.prog 18 #[.int .i64 (r : Int), .slice A n c] w (RList w (Wire.encLen r n) (Wire.encB r n ws)) := by
  have HA := Lib.hid (And.intro hA (And.intro hw (And.intro hr hn)))
  have h5r := Wire.nlen_most r hr
  have h5n := Wire.nlen_most n (by omega)
  have hpr := Wire.nlen_pos r
  have H5 := Lib.hid (And.intro h5r (And.intro h5n hpr))
  clear hA hw hr hn h5r h5n hpr
  go_enter Tryd.func18, Tryd.ntmps18
  go_wp2_with fail
  refine (rnumber_any r w HA.out.2.2.1).mono ?_
  rintro e w1 ⟨g1, k1, rfl, ho1, hb1⟩
  have H1 := Lib.hid (And.intro ho1 hb1)
  clear ho1 hb1
  go_wp2_with fail
  refine (rnumber_any n w1 (by have := HA.out.2.2.2; omega)).mono ?_
  rintro e w2 ⟨g2, k2, rfl, ho2, hb2⟩
  obtain ⟨v3, w3, hr3, ho3, hb3⟩ := append_ownB w2 w.heap.size _ (Wire.nlen r) (Wire.nlen n) (Wire.nat7 r) (Wire.nat7 n) ⟨g2, 0, none⟩ k2 (H1.out.1.below hb2) ho2.lt.2.2.2.2 (by have := H5.out; omega) (Nat.le_trans H1.out.2.size hb2.size)
  obtain ⟨g3, k3, rfl, _⟩ := ho3.read (by have := H5.out; omega)
  have HQ := Lib.hid hr3
  have H3 := Lib.hid (show OR w3 w.heap.size (sl8 g3 (Wire.nlen r + Wire.nlen n) k3) (Wire.nlen r + Wire.nlen n + 8 * 0) (Wire.encB r n ws) ∧ Below w.heap.size w w3 from ⟨OR.congr ho3 (fun i hi => encB_head r n ws i hi), (H1.out.2.trans (hb2.mono H1.out.2.size)).trans hb3⟩)
  clear hr3 ho2 hb2 ho3 hb3 H1
  go_wp2_with (at_builtin; refine wpList_append_run rfl _ _ 22 rfl _ _ _ w3 rfl rfl HQ.out ?_)
  clear HQ
  go_loopw [5, 6] (fun v p wr => ∃ i : Nat, p = .int .i64 i ∧ Hid (True ∧ i ≤ n) ∧ Hid (OR wr w.heap.size v (Wire.nlen r + Wire.nlen n + 8 * i) (Wire.encB r n ws) ∧ Below w.heap.size w wr)) (fun _ p _ => n - (intOf p).toNat)
  case atStart => exact ⟨0, rfl, ⟨trivial, Nat.zero_le _⟩, H3.out⟩
  case round =>
    clear H3
    obtain ⟨i, rfl, HI, HO⟩ := hrel
    by_cases hlt : i < n
    · have hlt1 : (i : Int) < (n : Int) := by omega
      obtain ⟨ad, rfl, hc⟩ := HA.out.1.below HO.out.2 i hlt
      have hb16 := HA.out.2.2.2
      have e1 : IntKind.i64.wrap ((i : Int) + 1) = (i : Int) + 1 := i64_nat _ (by omega) (by omega)
      have HLt := Lib.hid (And.intro trivial hlt)
      clear hlt hb16
      go_wp2_with fail
      refine (eight_any (ws i) wr (HA.out.2.1 i)).mono ?_
      rintro e w4 ⟨g4, k4, rfl, ho4, hb4⟩
      obtain ⟨v5, w5, hr5, ho5, hb5⟩ := append_ownB w4 w.heap.size _ _ 8 _ (Wire.byt (ws i)) ⟨g4, 0, none⟩ k4 (HO.out.1.below hb4) ho4.lt.2.2.2.2 (by have := H5.out; have := HA.out.2.2.2; have := HLt.out.2; omega) (Nat.le_trans HO.out.2.size hb4.size)
      obtain ⟨g5, k5, rfl, _⟩ := ho5.read (by omega)
      have HQ := Lib.hid hr5
      have HN := Lib.hid (show OR w5 w.heap.size (sl8 g5 (Wire.nlen r + Wire.nlen n + 8 * i + 8) k5) (Wire.nlen r + Wire.nlen n + 8 * (i + 1)) (Wire.encB r n ws) ∧ Below w.heap.size w w5 from ⟨OR.congr (n := Wire.nlen r + Wire.nlen n + 8 * (i + 1)) ho5 (fun j hj => encB_word r n ws i j hj), (HO.out.2.trans (hb4.mono HO.out.2.size)).trans hb5⟩)
      clear hr5 ho4 hb4 ho5 hb5 HO
      go_wp2_with (at_builtin; refine wpList_append_run rfl _ _ 22 rfl _ _ _ w5 rfl rfl HQ.out ?_)
      go_roundw
      case rel => exact ⟨i + 1, rfl, ⟨trivial, HLt.out.2⟩, HN⟩
      case measure => have := HLt.out.2; simp [intOf]; omega
    · obtain rfl : i = n := by have := HI.out.2; omega
      obtain ⟨b, k, rfl, _⟩ := HO.out.1.read (by have := H5.out; omega)
      go_wp2
      go_ret
      exact ⟨b, k, rfl, HO.out.1, HO.out.2⟩
set_option maxHeartbeats 2000000 in
set_option maxRecDepth 100000 in
/-- Encode where the round is no number: ErrRange. -/
theorem encode_round (z : Int) (v : Value) (hv : ∃ A n c, v = .slice A n c) (w : World) (hg : Handle w) (hz : z < 0 ∨ 4294967295 < z) :
    Calls Tryd.prog 16 #[msg z v] w fun e w' => ∃ ps, e = .returned (.tuple #[.slice none 0 0, chain ps 1]) ∧ Below w.heap.size w w' := by
  obtain ⟨A, n, c, rfl⟩ := hv
  have hm0 := Msg.new w z (.slice A n c)
  have hb0 : Below w.heap.size w (w.alloc (.cells #[.int .i64 z, .slice A n c] 36)) := (Below.refl _ _).alloc (Nat.le_refl _) _
  have HZ := Lib.hid hz
  clear hz
  go_enter Tryd.func16, Tryd.ntmps16
  go_wp2_with fail
  generalize w.alloc (.cells #[.int .i64 z, .slice A n c] 36) = w0 at hm0 hb0 ⊢
  refine (checkNumber_bad z w0 (hg.below hb0 hg.pos) HZ.out).mono ?_
  rintro e w1 ⟨rfl, hb1⟩
  have hb01 := hb0.trans (hb1.mono hb0.size)
  have hm1 := hm0.below hb1 hm0.lt
  have c0 := hm1.cell0
  have HC := Lib.hid (wrap_chain [(sNumber, z)] 1 z { data := #[114, 111, 117, 110, 100] } w1 (hg.below hb01 hg.pos) (by simp))
  obtain ⟨T, u, hT⟩ := chain_iface [(sNumber, z)] 1
  rw [hT] at HC ⊢
  have H1 := Lib.hid hb01
  clear hm0 hb0 hb1 hb01 hm1 hT
  go_wp2_with fail
  refine HC.out.mono ?_
  rintro e w2 ⟨rfl, hb2⟩
  obtain ⟨T2, u2, hT2⟩ := chain_iface [({ data := #[114, 111, 117, 110, 100] }, z), (sNumber, z)] 1
  rw [hT2]
  have HT2 := Lib.hid hT2
  have H2 := Lib.hid (H1.out.trans (hb2.mono H1.out.size))
  clear hb2 hT2
  go_wp2
  go_ret2
  exact ⟨_, by rw [HT2.out]; rfl, H2.out⟩
set_option maxHeartbeats 2000000 in
set_option maxRecDepth 100000 in
/-- Encode where there are too many words: ErrLong. -/
theorem encode_long (r : Nat) (A : Option Addr) (n c : Nat) (w : World) (hg : Handle w) (hr : r ≤ 4294967295) (hn : 65536 < n) :
    Calls Tryd.prog 16 #[msg r (.slice A n c)] w fun e w' => ∃ ps, e = .returned (.tuple #[.slice none 0 0, chain ps 3]) ∧ Below w.heap.size w w' := by
  have hm0 := Msg.new w r (.slice A n c)
  have hb0 : Below w.heap.size w (w.alloc (.cells #[.int .i64 (r : Int), .slice A n c] 36)) := (Below.refl _ _).alloc (Nat.le_refl _) _
  have hn1 : (65536 : Int) < (n : Int) := by omega
  go_enter Tryd.func16, Tryd.ntmps16
  go_wp2_with fail
  generalize w.alloc (.cells #[.int .i64 (r : Int), .slice A n c] 36) = w0 at hm0 hb0 ⊢
  refine (checkNumber_ok r w0 hr).mono ?_
  rintro e w1 ⟨rfl, rfl⟩
  have c1 := hm0.cell1
  have HC := Lib.hid (wrap_chain [] 3 n { data := #[119, 111, 114, 100, 115] } w0 (hg.below hb0 hg.pos) (by simp))
  rw [show chain [] 3 = .iface 28 (.int .i64 3) from rfl] at HC
  have H1 := Lib.hid hb0
  clear hm0 hb0
  go_wp2_with fail
  refine HC.out.mono ?_
  rintro e w2 ⟨rfl, hb2⟩
  obtain ⟨T2, u2, hT2⟩ := chain_iface [({ data := #[119, 111, 114, 100, 115] }, (n : Int))] 3
  rw [hT2]
  have HT2 := Lib.hid hT2
  have H2 := Lib.hid (H1.out.trans (hb2.mono H1.out.size))
  clear hb2 hT2
  go_wp2
  go_ret2
  exact ⟨_, by rw [HT2.out]; rfl, H2.out⟩
end Go.Proofs.YtoeohodajoibjaaDoor
