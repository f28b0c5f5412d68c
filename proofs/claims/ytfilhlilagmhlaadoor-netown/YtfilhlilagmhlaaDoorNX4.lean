/- NetOwn's walk. -/
import Derived.Test.YtfilhlilagmhlaaDoorNX4a
namespace Go.Proofs.YtfilhlilagmhlaaDoor
open Go.RowKit

set_option maxHeartbeats 8000000 in
set_option maxRecDepth 100000 in
theorem own_walk (A : Option Addr) (n c : Nat) (f : Nat → Nat) (z : Int) (w : World) (hg : Handle w) (hA : AtBO w A n f) (hf : ∀ i, f i < 256) (hn : n ≤ 140737488355328) (hnil : A = none → n = 0 ∧ c = 0) (hz : z < 9223372036854775808) :
    Calls Tryd.prog 5 #[.slice A n c, .int .i64 z] w fun e w' => e = .returned (.bool true) ∧ Below w.heap.size w w' := by
  have HG := Lib.hid hg
  have HA := Lib.hid (And.intro hA (And.intro hf (And.intro hn (And.intro hnil hz))))
  clear hg hA hf hn hnil hz
  go_enter Tryd.func5, Tryd.ntmps5
  go_wp2_with fail
  refine (new_any w).mono ?_
  rintro e w1 ⟨rfl, hw1⟩
  have hN := netAt_new w w.heap.size (Nat.le_refl _)
  have hB : Below w.heap.size w (w.alloc (.cells #[.slice none 0 0, .slice none 0 0] 55)) := (Below.refl _ _).alloc (Nat.le_refl _) _
  rw [← hw1] at hN hB
  have H1 := Lib.hid (And.intro hN hB)
  clear hw1 hN hB
  go_wp2_with fail
  refine (awake_any w1 (HG.out.below H1.out.2 HG.out.pos)).mono ?_
  rintro e w2 ⟨rfl, hb2⟩
  have H2 := Lib.hid (show NetAt w2 w.heap.size (St.new w.heap.size) ∧ Below w.heap.size w w2 ∧ w.heap.size < w2.heap.size from ⟨H1.out.1.below hb2, H1.out.2.trans (hb2.mono H1.out.2.size), (H1.out.1.below hb2).p_lt⟩)
  clear H1 hb2
  obtain ⟨g1, k1, w3, hr3, ho3, hb3⟩ := copyB w2 A n c f (HA.out.1.below H2.out.2.1) HA.out.2.2.2.1 HA.out.2.2.1
  have h77 : AtB (w3.alloc (.cells #[.int .u8 77] 5)) ⟨w3.heap.size, 0, none⟩ 1 (fun _ => 77) := OR.one w3 77
  obtain ⟨v4, w4, hr4, ho4, hb4⟩ := append_ownB (w3.alloc (.cells #[.int .u8 77] 5)) w2.heap.size (sl8 g1 n k1) n 1 f (fun _ => 77) ⟨w3.heap.size, 0, none⟩ 1 (ho3.alloc _) h77 (by have := HA.out.2.2.1; omega) (by have := hb3.size; simp; omega)
  obtain ⟨gr, kr, rfl, hgr, hkr, hkm, hAt4⟩ := ho4.read (by omega)
  have hb24 : Below w2.heap.size w2 w4 := (hb3.alloc hb3.size _).trans hb4
  have HQ3 := Lib.hid hr3
  have HQ4 := Lib.hid hr4
  have H4 := Lib.hid (show NetAt w4 w.heap.size (St.new w.heap.size) ∧ Below w.heap.size w w4 ∧ AtB w4 ⟨gr, 0, none⟩ (n + 1) (thenB n f (fun _ => 77)) ∧ Room w4 5 gr (n + 1) ∧ ¬ (St.new w.heap.size).own gr ∧ n + 1 ≤ kr ∧ gr < w4.heap.size from
    ⟨H2.out.1.below hb24, H2.out.2.1.trans (hb24.mono H2.out.2.1.size), hAt4, ho4.room, fun ho => by
      have := H2.out.2.2
      rcases ho with e | ⟨k, _, e | ⟨x, hx, _⟩⟩
      · have e : gr = w.heap.size := e
        omega
      · cases e
      · exact absurd hx (by simp [St.new]), hkr, ho4.lt.2.1⟩)
  have HGR := Lib.hid (show w.heap.size ≤ gr by have := H2.out.2.2; omega)
  clear hr3 ho3 hb3 h77 hr4 ho4 hb4 hgr hkr hkm hAt4 hb24 H2
  have hsl := fun w => run_headB w (some ⟨gr, 0, none⟩) (n + 1) kr n (by have := H4.out.2.2.2.2.2.1; omega)
  go_wp2_with (at_builtin; first
    | (refine wpList_append_run rfl _ _ 32 rfl (sl8 w2.heap.size 0 0) (.slice A n c) (sl8 g1 n k1) w3 rfl rfl HQ3.out ?_)
    | (refine wpList_append_run rfl _ _ 32 rfl (sl8 g1 n k1) (sl8 w3.heap.size 1 1) (sl8 gr (n + 1) kr) w4 rfl rfl HQ4.out ?_))
  clear HQ3 HQ4
  have hfr : AtBO w4 (some ⟨gr, 0, none⟩) n f := fun i hi => ⟨_, rfl, by
    have := H4.out.2.2.1 i (by omega)
    unfold thenB at this
    rwa [if_pos hi] at this⟩
  refine (send_ok w.heap.size (St.new w.heap.size) 0 w4 (some ⟨gr, 0, none⟩) n kr f H4.out.1 (by omega) (by simp [St.new]) hfr HA.out.2.1 HA.out.2.2.1 H4.out.2.1.size).mono ?_
  rintro e w5 ⟨rfl, v5, x0, hx0n, hx0d, _, hN5, hG5, hK5⟩
  have H5 := Lib.hid (show ∃ s1, NetAt w5 w.heap.size s1 ∧ s1.p = w.heap.size ∧ s1.L 0 = [x0] ∧ x0.len = n ∧ x0.dat = f ∧ Below w.heap.size w w5 ∧ AtB w5 ⟨gr, 0, none⟩ (n + 1) (thenB n f (fun _ => 77)) ∧ Room w5 5 gr (n + 1) ∧ ¬ s1.own gr ∧ n + 1 ≤ kr ∧ gr < w5.heap.size from
    ⟨_, hN5, rfl, by rw [St.put_L]; rfl, hx0n, hx0d, hK5.below H4.out.1 H4.out.2.1 H4.out.2.1.size, hK5.atB H4.out.2.2.1 H4.out.2.2.2.2.1, H4.out.2.2.2.1.block (hK5.block gr H4.out.2.2.2.2.2.2 H4.out.2.2.2.2.1), not_own H4.out.2.2.2.2.1 H4.out.2.2.2.2.2.2 hG5, H4.out.2.2.2.2.2.1, Nat.lt_of_lt_of_le H4.out.2.2.2.2.2.2 hK5.size⟩)
  clear hx0n hx0d hN5 hG5 hK5 hfr H4
  obtain ⟨s1, hS1⟩ := H5.out
  have HS1 := Lib.hid hS1
  clear hS1 H5
  go_wp2_with fail
  have hcp := copy_ok w.heap.size s1 0 0 x0 w5 HS1.out.1 (by omega) (by rw [HS1.out.2.2.1]; rfl) (by rw [HS1.out.2.2.1]; simp) HS1.out.2.2.2.2.2.1.size
  rw [HS1.out.2.1] at hcp
  refine hcp.mono ?_
  rintro e w6 ⟨rfl, v6, x1, hx1n, hx1d, _, hN6, hG6, hK6⟩
  have H6 := Lib.hid (show ∃ s2, Two2 w6 w.heap.size w.heap.size n f f s2 ∧ Below w.heap.size w w6 ∧ AtB w6 ⟨gr, 0, none⟩ (n + 1) (thenB n f (fun _ => 77)) ∧ Room w6 5 gr (n + 1) ∧ ¬ s2.own gr ∧ n + 1 ≤ kr ∧ gr < w6.heap.size from
    ⟨_, ⟨hN6, HS1.out.2.1, x0, x1, by rw [St.put_L, HS1.out.2.2.1]; rfl, HS1.out.2.2.2.1, HS1.out.2.2.2.2.1, hx1n.trans HS1.out.2.2.2.1, hx1d.trans HS1.out.2.2.2.2.1⟩, hK6.below HS1.out.1 HS1.out.2.2.2.2.2.1 HS1.out.2.2.2.2.2.1.size, hK6.atB HS1.out.2.2.2.2.2.2.1 HS1.out.2.2.2.2.2.2.2.2.1, HS1.out.2.2.2.2.2.2.2.1.block (hK6.block gr HS1.out.2.2.2.2.2.2.2.2.2.2 HS1.out.2.2.2.2.2.2.2.2.1), not_own HS1.out.2.2.2.2.2.2.2.2.1 HS1.out.2.2.2.2.2.2.2.2.2.2 hG6, HS1.out.2.2.2.2.2.2.2.2.2.1, Nat.lt_of_lt_of_le HS1.out.2.2.2.2.2.2.2.2.2.2 hK6.size⟩)
  clear hcp hx1n hx1d hN6 hG6 hK6 HS1
  obtain ⟨s2, hS2⟩ := H6.out
  have HS2 := Lib.hid hS2
  have c77 : w6.cell? ⟨gr, n, none⟩ = some (.int .u8 77) := by
    have := AtB.cell hS2.2.2.1 n (by omega)
    rw [Nat.zero_add] at this
    unfold thenB at this
    rwa [if_neg (by omega)] at this
  have hk77 : (n : Int) < (n : Int) + 1 := by omega
  have hcv : ∀ q, (convert 32 9 (sl8 gr n kr)).run Tryd.prog (w6.drewN q) = .ok (.string (strB n f)) (w6.drewN q) := fun q => conv_B (w6.drewN q) ⟨gr, 0, none⟩ n kr f (fun i hi => by
    have := hS2.2.2.1 i (by omega)
    unfold thenB at this
    rwa [if_pos hi] at this) HA.out.2.1
  have hcv2 : ∀ q, (convert 32 9 (.slice A n c)).run Tryd.prog (w6.drewN q) = .ok (.string (strB n f)) (w6.drewN q) := fun q => conv_BO (w6.drewN q) A n c f (HA.out.1.below (hS2.2.1.trans ⟨rfl, rfl, rfl, Nat.le_refl _, fun _ _ => rfl⟩)) HA.out.2.1 HA.out.2.2.2.1
  clear hS2 H6
  generalize strB n f = t0 at hcv hcv2
  go_wp2
  go_quiet (fail)
  clear hcv hcv2 c77 hk77
  go_wp2
  have H7 := Lib.hid (show Two2 (w6.drewN nq) w.heap.size w.heap.size n f f s2 ∧ Below w.heap.size w (w6.drewN nq) ∧ Room (w6.drewN nq) 5 gr (n + 1) ∧ ¬ s2.own gr ∧ n + 1 ≤ kr ∧ gr < (w6.drewN nq).heap.size from
    ⟨⟨HS2.out.1.net.heap (fun _ _ => rfl), HS2.out.1.hp, HS2.out.1.two⟩, HS2.out.2.1.trans ⟨rfl, rfl, rfl, Nat.le_refl _, fun _ _ => rfl⟩, HS2.out.2.2.2.1.block rfl, HS2.out.2.2.2.2.1, HS2.out.2.2.2.2.2.1, HS2.out.2.2.2.2.2.2⟩)
  generalize w6.drewN nq = w7 at H7 ⊢
  clear HS2
  go_loopw [57] (fun q wr => ∃ j : Nat, q = .int .i64 j ∧ Hid (True ∧ j ≤ n + 1) ∧ Hid (Room wr 5 gr (n + 1) ∧ Keep gr w7 wr)) (fun q _ => n + 1 - (intOf q).toNat)
  case atStart => exact ⟨0, rfl, ⟨trivial, Nat.zero_le _⟩, H7.out.2.2.1, Keep.refl _ _⟩
  case round =>
    obtain ⟨j, rfl, HJ, HK⟩ := hrel
    by_cases hlt : j < n + 1
    · obtain ⟨x, cx⟩ := HK.out.1.cell j hlt
      have fx := HK.out.1.frozen j
      have hlt1 : (j : Int) < (n : Int) + 1 := by omega
      have e1 : IntKind.i64.wrap ((j : Int) + 1) = (j : Int) + 1 := by have := HA.out.2.2.1; exact i64_nat _ (by omega) (by omega)
      have HLt := Lib.hid (And.intro trivial hlt)
      clear hlt
      go_wp2
      go_roundw
      case rel => exact ⟨j + 1, rfl, ⟨trivial, HLt.out.2⟩, HK.out.1.set _ _, HK.out.2.set rfl _⟩
      case measure => have := HLt.out.2; simp [intOf]; omega
    · have hlt1 : decide ((j : Int) < (n : Int) + 1) = false := decide_eq_false (by omega)
      have hlt2 : decide (j < n + 1) = false := decide_eq_false hlt
      have hlt3 : ¬ (j : Int) < (n : Int) + 1 := by omega
      have H8 := Lib.hid (show Two2 wr w.heap.size w.heap.size n f f s2 ∧ Below w.heap.size w wr from
        ⟨⟨HK.out.2.net H7.out.1.net H7.out.2.2.2.1, H7.out.1.hp, H7.out.1.two⟩, HK.out.2.below H7.out.2.1 HGR.out H7.out.2.1.size⟩)
      clear hlt HK H7 HJ
      obtain ⟨w8, hw8⟩ : ∃ q, q = wr := ⟨_, rfl⟩
      subst hw8
      obtain ⟨hT8, hb8⟩ := H8.out
      obtain ⟨hN8, hp8, x0, x1, hL8, hx0n, hx0d, hx1n, hx1d⟩ := hT8
      have hat := at_ok w.heap.size s2 0 0 x0 w8 hN8 (by omega) (by rw [hL8]; rfl)
      rw [hp8, hx0n, hx0d] at hat
      have HAT := Lib.hid hat
      clear hat hN8 hp8 hL8 hx0n hx0d hx1n hx1d hb8 hlt3
      go_wp2_with fail
      clear hlt1 hlt2
      refine HAT.out.mono ?_
      rintro e w9 ⟨ga, rfl, ho9, hb9, hga⟩
      have H9 := Lib.hid (show Two2 w9 w.heap.size w.heap.size n f f s2 ∧ Below w.heap.size w w9 ∧ OwnB w9 ga n 5 f ∧ ¬ s2.own ga ∧ w.heap.size ≤ ga from
        ⟨⟨H8.out.1.net.below hb9, H8.out.1.hp, H8.out.1.two⟩, H8.out.2.trans (hb9.mono H8.out.2.size), ho9, fun ho => by have := (H8.out.1.net.own_lt ho).1; omega, by have := H8.out.2.size; omega⟩)
      clear ho9 hb9 hga HAT H8
      go_wp2
      go_loopw [71] (fun q wr => ∃ j : Nat, q = .int .i64 j ∧ Hid (True ∧ j ≤ n) ∧ Hid (Room wr 5 ga n ∧ Keep ga w9 wr)) (fun q _ => n - (intOf q).toNat)
      case atStart => exact ⟨0, rfl, ⟨trivial, Nat.zero_le _⟩, H9.out.2.2.1.room, Keep.refl _ _⟩
      case round =>
        obtain ⟨j2, rfl, HJ2, HK⟩ := hrel
        by_cases hlt : j2 < n
        · obtain ⟨x, cx⟩ := HK.out.1.cell j2 hlt
          have fx := HK.out.1.frozen j2
          have hlt1 : (j2 : Int) < (n : Int) := by omega
          have e1 : IntKind.i64.wrap ((j2 : Int) + 1) = (j2 : Int) + 1 := by have := HA.out.2.2.1; exact i64_nat _ (by omega) (by omega)
          have HLt := Lib.hid (And.intro trivial hlt)
          clear hlt
          go_wp2
          go_roundw
          case rel => exact ⟨j2 + 1, rfl, ⟨trivial, HLt.out.2⟩, HK.out.1.set _ _, HK.out.2.set rfl _⟩
          case measure => have := HLt.out.2; simp [intOf]; omega
        · have hlt1 : decide ((j2 : Int) < (n : Int)) = false := decide_eq_false (by omega)
          have hlt2 : decide (j2 < n) = false := decide_eq_false hlt
          have H10 := Lib.hid (show Two2 wr w.heap.size w.heap.size n f f s2 ∧ Below w.heap.size w wr from
            ⟨⟨HK.out.2.net H9.out.1.net H9.out.2.2.2.1, H9.out.1.hp, H9.out.1.two⟩, HK.out.2.below H9.out.2.1 H9.out.2.2.2.2 H9.out.2.1.size⟩)
          clear hlt HK H9 HJ2
          obtain ⟨w10, hw10⟩ : ∃ q, q = wr := ⟨_, rfl⟩
          subst hw10
          obtain ⟨fd, hfd, hfl, hrf⟩ := own_flip z H10.out.1 (HG.out.below H10.out.2 HG.out.pos) H10.out.2.size HA.out.2.2.2.2
          have HFL := Lib.hid hfl
          have HRF := Lib.hid (And.intro hfd hrf)
          clear hfd hfl hrf
          go_wp2_with fail
          clear hlt1 hlt2
          refine HFL.out.mono ?_
          rintro e w11 ⟨ev, s3, rfl, hT11, hb11⟩
          have H11 := Lib.hid (And.intro hT11 (H10.out.2.trans hb11))
          clear hT11 hb11 HFL H10
          obtain ⟨⟨hN11, hp11, y0, y1, hL11, hy0n, hy0d, hy1n, hy1d⟩, hb11⟩ := H11.out
          have hat := at_ok w.heap.size s3 0 1 y1 w11 hN11 (by omega) (by rw [hL11]; rfl)
          rw [hp11, hy1n, hy1d] at hat
          have HAT := Lib.hid hat
          have HY := Lib.hid (And.intro hN11 (And.intro hp11 (And.intro hL11 (And.intro hy0n (And.intro hy0d (And.intro hy1n (And.intro hy1d hb11)))))))
          clear hat hN11 hp11 hL11 hy0n hy0d hy1n hy1d hb11 H11
          go_wp2_with fail
          refine HAT.out.mono ?_
          rintro e w12 ⟨gb, rfl, ho12, hb12, hgb⟩
          have H12 := Lib.hid (And.intro (HY.out.1.below hb12) (And.intro ho12 (HY.out.2.2.2.2.2.2.2.trans (hb12.mono HY.out.2.2.2.2.2.2.2.size))))
          clear ho12 hb12 hgb HAT
          have hdl := deliver_ok w.heap.size s3 0 1 y1 w12 H12.out.1 (by omega) (by rw [HY.out.2.2.1]; rfl)
          rw [HY.out.2.1] at hdl
          have HDL := Lib.hid hdl
          clear hdl
          go_wp2_with fail
          refine HDL.out.mono ?_
          rintro e w13 ⟨rfl, hR13⟩
          have ob13 := hR13.bytes H12.out.1 (by omega) H12.out.2.1
          have oc13 := hR13.bytes H12.out.1 (by omega) (H12.out.1.fr 0 (by omega) y1 (by rw [HY.out.2.2.1]; simp)).own
          rw [HY.out.2.2.2.2.2.1, HY.out.2.2.2.2.2.2.1] at oc13
          obtain ⟨v13, hN13, _, hK13, _⟩ := hR13
          have H13 := Lib.hid (show ∃ s4, NetAt w13 w.heap.size s4 ∧ s4.p = w.heap.size ∧ s4.L 0 = [y0] ∧ OwnB w13 gb n 5 f ∧ OwnB w13 y1.blk n 5 f ∧ Below w.heap.size w w13 from
            ⟨_, hN13, HY.out.2.1, by rw [St.put_L, HY.out.2.2.1]; rfl, ob13, oc13, hK13.below H12.out.1 H12.out.2.2 H12.out.2.2.size⟩)
          clear ob13 oc13 hN13 hK13 HDL H12
          obtain ⟨s4, hS4⟩ := H13.out
          have HS4 := Lib.hid hS4
          have hdl := deliver_ok w.heap.size s4 0 0 y0 w13 hS4.1 (by omega) (by rw [hS4.2.2.1]; rfl)
          rw [hS4.2.1] at hdl
          have HDL := Lib.hid hdl
          clear hdl hS4 H13
          unfold frV at HDL ⊢
          rw [HY.out.2.2.2.2.2.1]
          go_wp2_with fail
          refine HDL.out.mono ?_
          rintro e w14 ⟨rfl, hR14⟩
          have ob14 := hR14.bytes HS4.out.1 (by omega) HS4.out.2.2.2.1
          have oc14 := hR14.bytes HS4.out.1 (by omega) HS4.out.2.2.2.2.1
          have od14 := hR14.bytes HS4.out.1 (by omega) (HS4.out.1.fr 0 (by omega) y0 (by rw [HS4.out.2.2.1]; simp)).own
          rw [HY.out.2.2.2.1, HY.out.2.2.2.2.1] at od14
          obtain ⟨v14, _, _, hK14, _⟩ := hR14
          have H14 := Lib.hid (show OwnB w14 gb n 5 f ∧ OwnB w14 y1.blk n 5 f ∧ OwnB w14 y0.blk n 5 fd ∧ Below w.heap.size w w14 from ⟨ob14, oc14, od14, hK14.below HS4.out.1 HS4.out.2.2.2.2.2 HS4.out.2.2.2.2.2.size⟩)
          clear ob14 oc14 od14 hK14 HDL HS4
          rw [HY.out.2.2.2.1]
          generalize y0.blk = gd at H14 ⊢
          generalize y1.blk = gc at H14 ⊢
          clear HY
          have hcv := conv_BO w14 A n c f (HA.out.1.below H14.out.2.2.2) HA.out.2.1 HA.out.2.2.2.1
          have hbs : Below w14.heap.size w14 (w14.alloc (.cells #[.string (strB n f)] 9)) := (Below.refl _ _).alloc (Nat.le_refl _) _
          have hRv : Rf (w14.alloc (.cells #[.string (strB n f)] 9)) (fun q => if q = 0 then .slice (some ⟨w14.heap.size, 0, none⟩) 1 1 else nilS) (upd T0 0 [strB n f]) := ⟨fun q hq => by
            rcases (show q = 0 ∨ q = 1 by omega) with rfl | rfl
            · exact ⟨rfl, .inr ⟨w14.heap.size, 1, #[.string (strB n f)], rfl, Nat.zero_le _, heap_alloc_new w14 _, Nat.le_refl _, by unfold maxLen; omega, rfl, rfl⟩⟩
            · exact Strs.nil _⟩
          have hrf := HRF.out.2 _ _ hRv
          have hrf2 : Calls Tryd.prog 18 #[.agg #[.slice (some ⟨w14.heap.size, 0, none⟩) 1 1, .slice none 0 0], .int .i64 0, .int .i64 0, .int .i64 z] (w14.alloc (.cells #[.string (strB n f)] 9)) _ := hrf
          have HR2 := Lib.hid hrf2
          have HBS := Lib.hid hbs
          clear hrf hrf2 hbs hRv
          go_wp2_with fail
          clear hcv
          refine HR2.out.mono ?_
          rintro e w15 ⟨cd, T', ⟨v15, rfl, hR15, hb15⟩, hcase⟩
          clear HR2
          rcases hcase with ⟨rfl, ht15⟩ | ⟨rfl, hfdf⟩
          · obtain ⟨B0, d0, hB0, _, _, _, hS0⟩ := (hR15.strs 0 (by omega)).slice
            obtain ⟨ad, rfl, hc15⟩ := hS0 0 _ ht15
            obtain ⟨B1, d1, hB1, _⟩ := (hR15.strs 1 (by omega)).slice
            have hm0 : 0 < (T' 0).length := (List.getElem?_eq_some_iff.1 ht15).1
            unfold rvf
            rw [hB0, hB1]
            generalize (T' 0).length = m0 at *
            generalize (T' 1).length = m1 at *
            have hlt0 : (0 : Int) < (m0 : Int) := by omega
            have hc15a : w15.cell? ad = some (.string (strB n fd)) := by
              have : ad.add 0 = ad := by unfold Addr.add; rw [if_pos rfl]
              rwa [this] at hc15
            have hc16 : (w15.alloc (.cells #[.slice (some ad) m0 d0, .slice B1 m1 d1] 29)).cell? ad = some (.string (strB n fd)) := by
              rw [World.cell?_alloc_lt _ _ _ (World.block_lt_of_cell? _ _ hc15a)]; exact hc15a
            have hb16 : Below w15.heap.size w15 (w15.alloc (.cells #[.slice (some ad) m0 d0, .slice B1 m1 d1] 29)) := (Below.refl _ _).alloc (Nat.le_refl _) _
            have hb1416 : Below w14.heap.size w14 (w15.alloc (.cells #[.slice (some ad) m0 d0, .slice B1 m1 d1] 29)) := (HBS.out.trans (hb15.mono HBS.out.size)).trans (hb16.mono (HBS.out.trans (hb15.mono HBS.out.size)).size)
            have r0 := (RN.new w15 (.slice (some ad) m0 d0) (.slice B1 m1 d1)).cell0
            have H16 := Lib.hid (show OwnB (w15.alloc (.cells #[.slice (some ad) m0 d0, .slice B1 m1 d1] 29)) gb n 5 f ∧ OwnB (w15.alloc (.cells #[.slice (some ad) m0 d0, .slice B1 m1 d1] 29)) gc n 5 f ∧ OwnB (w15.alloc (.cells #[.slice (some ad) m0 d0, .slice B1 m1 d1] 29)) gd n 5 fd ∧ Below w.heap.size w (w15.alloc (.cells #[.slice (some ad) m0 d0, .slice B1 m1 d1] 29)) from
              ⟨H14.out.1.below hb1416 H14.out.1.lt, H14.out.2.1.below hb1416 H14.out.2.1.lt, H14.out.2.2.1.below hb1416 H14.out.2.2.1.lt, H14.out.2.2.2.trans (hb1416.mono H14.out.2.2.2.size)⟩)
            clear hb15 hb16 hb1416 hm0 hc15 hc15a hS0 hB0 hB1 ht15 hR15
            go_wp2
            generalize hgx : w15.heap.size = gx at *
            clear hgx
            generalize w15.alloc (.cells #[.slice (some ad) m0 d0, .slice B1 m1 d1] 29) = w16 at *
            have hcd : ∀ q, (convert 32 9 (sl8 gd n n)).run Tryd.prog (w16.drewN q) = .ok (.string (strB n fd)) (w16.drewN q) := fun q => conv_B (w16.drewN q) ⟨gd, 0, none⟩ n n fd (AtB.own H16.out.2.2.1) HRF.out.1
            have hcf : ∀ q, (convert 32 9 (.slice A n c)).run Tryd.prog (w16.drewN q) = .ok (.string (strB n f)) (w16.drewN q) := fun q => conv_BO (w16.drewN q) A n c f (HA.out.1.below (H16.out.2.2.2.trans ⟨rfl, rfl, rfl, Nat.le_refl _, fun _ _ => rfl⟩)) HA.out.2.1 HA.out.2.2.2.1
            have hcb : ∀ q, (convert 32 9 (sl8 gb n n)).run Tryd.prog (w16.drewN q) = .ok (.string (strB n f)) (w16.drewN q) := fun q => conv_B (w16.drewN q) ⟨gb, 0, none⟩ n n f (AtB.own H16.out.1) HA.out.2.1
            have hcc : ∀ q, (convert 32 9 (sl8 gc n n)).run Tryd.prog (w16.drewN q) = .ok (.string (strB n f)) (w16.drewN q) := fun q => conv_B (w16.drewN q) ⟨gc, 0, none⟩ n n f (AtB.own H16.out.2.1) HA.out.2.1
            generalize strB n f = t0 at *
            generalize strB n fd = t1 at *
            go_quiet (fail)
            have hcf' := hcf nq
            have hcb' := hcb nq
            have hcc' := hcc nq
            clear hcd hcf hcb hcc hlt0 hc16 r0
            go_wp2
            go_ret
            exact ⟨rfl, H16.out.2.2.2.trans ⟨rfl, rfl, rfl, Nat.le_refl _, fun _ _ => rfl⟩⟩
          · replace hfdf := hfdf.symm
            subst hfdf
            obtain ⟨B0, d0, B1, d1, hB0, hB1⟩ := hR15.vals
            unfold rvf
            rw [hB0, hB1]
            generalize (T' 0).length = m0 at *
            generalize (T' 1).length = m1 at *
            have hb16 : Below w15.heap.size w15 (w15.alloc (.cells #[.slice B0 m0 d0, .slice B1 m1 d1] 29)) := (Below.refl _ _).alloc (Nat.le_refl _) _
            have hb1416 : Below w14.heap.size w14 (w15.alloc (.cells #[.slice B0 m0 d0, .slice B1 m1 d1] 29)) := (HBS.out.trans (hb15.mono HBS.out.size)).trans (hb16.mono (HBS.out.trans (hb15.mono HBS.out.size)).size)
            have r0 := (RN.new w15 (.slice B0 m0 d0) (.slice B1 m1 d1)).cell0
            have H16 := Lib.hid (show OwnB (w15.alloc (.cells #[.slice B0 m0 d0, .slice B1 m1 d1] 29)) gb n 5 f ∧ OwnB (w15.alloc (.cells #[.slice B0 m0 d0, .slice B1 m1 d1] 29)) gc n 5 f ∧ OwnB (w15.alloc (.cells #[.slice B0 m0 d0, .slice B1 m1 d1] 29)) gd n 5 f ∧ Below w.heap.size w (w15.alloc (.cells #[.slice B0 m0 d0, .slice B1 m1 d1] 29)) from
              ⟨H14.out.1.below hb1416 H14.out.1.lt, H14.out.2.1.below hb1416 H14.out.2.1.lt, H14.out.2.2.1.below hb1416 H14.out.2.2.1.lt, H14.out.2.2.2.trans (hb1416.mono H14.out.2.2.2.size)⟩)
            clear hb15 hb16 hb1416 hB0 hB1 hR15
            go_wp2
            generalize hgx : w15.heap.size = gx at *
            clear hgx
            generalize w15.alloc (.cells #[.slice B0 m0 d0, .slice B1 m1 d1] 29) = w16 at *
            have hcd : ∀ q, (convert 32 9 (sl8 gd n n)).run Tryd.prog (w16.drewN q) = .ok (.string (strB n f)) (w16.drewN q) := fun q => conv_B (w16.drewN q) ⟨gd, 0, none⟩ n n f (AtB.own H16.out.2.2.1) HRF.out.1
            have hcf : ∀ q, (convert 32 9 (.slice A n c)).run Tryd.prog (w16.drewN q) = .ok (.string (strB n f)) (w16.drewN q) := fun q => conv_BO (w16.drewN q) A n c f (HA.out.1.below (H16.out.2.2.2.trans ⟨rfl, rfl, rfl, Nat.le_refl _, fun _ _ => rfl⟩)) HA.out.2.1 HA.out.2.2.2.1
            have hcb : ∀ q, (convert 32 9 (sl8 gb n n)).run Tryd.prog (w16.drewN q) = .ok (.string (strB n f)) (w16.drewN q) := fun q => conv_B (w16.drewN q) ⟨gb, 0, none⟩ n n f (AtB.own H16.out.1) HA.out.2.1
            have hcc : ∀ q, (convert 32 9 (sl8 gc n n)).run Tryd.prog (w16.drewN q) = .ok (.string (strB n f)) (w16.drewN q) := fun q => conv_B (w16.drewN q) ⟨gc, 0, none⟩ n n f (AtB.own H16.out.2.1) HA.out.2.1
            generalize strB n f = t0 at *
            go_quiet (fail)
            have hcf' := hcf nq
            have hcb' := hcb nq
            have hcc' := hcc nq
            clear hcd hcf hcb hcc r0
            go_wp2
            go_ret
            exact ⟨rfl, H16.out.2.2.2.trans ⟨rfl, rfl, rfl, Nat.le_refl _, fun _ _ => rfl⟩⟩
end Go.Proofs.YtfilhlilagmhlaaDoor
