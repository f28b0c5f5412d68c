/- The contract of Deal where the tape is long enough. -/
import Derived.Test.YtgmlmngnedhllaaDoorQD2
namespace Go.Proofs.YtgmlmngnedhllaaDoor
open Go.RowKit

set_option maxHeartbeats 8000000 in
set_option maxRecDepth 100000 in
theorem deal_ok (w : World) (g h N : Nat) (f : Nat → Int) (n1 n2 n3 : Nat) (ht : Tap w g h N f 0) (h1 : n1 ≤ 65536) (h2 : n2 ≤ 65536) (h3 : n3 ≤ 65536) (hn : 5 * (n1 + n2 + n3) ≤ N) :
    Calls Tryd.prog 10 #[.pointer (some ⟨g, 0, none⟩), .int .i64 (n1 : Int), .int .i64 (n2 : Int), .int .i64 (n3 : Int)] w fun e w' => ∃ s0 s1, e = .returned (.tuple #[.agg #[.pointer (some ⟨s0.g, 0, none⟩), .pointer (some ⟨s1.g, 0, none⟩)], .nilIface]) ∧ Dealt f n1 n2 n3 s0 s1 ∧ Ap w g h s0 s1 ∧ Stk w' s0 ∧ Stk w' s1 ∧ Tap w' g h N f (5 * (n1 + n2 + n3)) ∧ Chg (fun q => q = g) w w' := by
  have lg := ht.lt
  have lh := ht.src_lt
  have hb0 : Below w.heap.size w (w.alloc (.cells #[.pointer none, .pointer none] 29)) := (Below.refl _ w).alloc (Nat.le_refl _) _
  have HC := Lib.hid (check_ok _ g h N f 0 n1 n2 n3 (ht.below hb0) h1 h2 h3 (by omega))
  have HL := Lib.hid (And.intro h1 (And.intro h2 (And.intro h3 hn)))
  have H0 := Lib.hid (And.intro (ht.below hb0) (And.intro (Blk.new w 29 #[.pointer none, .pointer none]) hb0))
  clear ht h1 h2 h3 hn hb0
  go_enter Tryd.func10, Tryd.ntmps10
  go_wp2_with fail
  refine HC.out.mono ?_
  rintro e w1 ⟨rfl, hb1⟩
  have H1 := Lib.hid (And.intro (H0.out.1.below hb1) (And.intro (H0.out.2.1.below hb1) (H0.out.2.2.trans (hb1.mono H0.out.2.2.size))))
  have hs1 : w.heap.size < w1.heap.size := H1.out.2.1.lt
  clear hb1 HC H0
  go_wp2_with fail
  refine (empty_any w1 n1 n2 n3 (T0 f 0) (T0 f (5 * n1)) (O0 f (5 * (n1 + n2))) (fun _ => false) HL.out.1 HL.out.2.1 HL.out.2.2.1).mono ?_
  rintro e w2 ⟨s0, rfl, hs0, ho0, hf0, hb2⟩
  have H2 := Lib.hid (And.intro (H1.out.1.below hb2) (And.intro (H1.out.2.1.below hb2) (And.intro (H1.out.2.2.trans (hb2.mono H1.out.2.2.size)) (And.intro hf0 (And.intro ho0 (And.intro hs0 hb2.size))))))
  clear hb2 H1 hf0 ho0 hs0
  go_wp2_with fail
  refine (empty_any w2 n1 n2 n3 (T1 f 0) (B1 f (5 * n1)) (O1 f (5 * (n1 + n2))) (C1 f (5 * (n1 + n2))) HL.out.1 HL.out.2.1 HL.out.2.2.1).mono ?_
  rintro e w3 ⟨s1, rfl, hs, ho, hf, hb3⟩
  have HS : Hid (Dealt f n1 n2 n3 s0 s1) := by
    obtain ⟨q1, q2, q3, q4, q5, q6, q7⟩ := hs
    obtain ⟨p1, p2, p3, p4, p5, p6, p7⟩ := H2.out.2.2.2.2.2.1
    exact ⟨p1, p2, p3, q1, q2, q3, p4, p5, p6, p7, q4, q5, q6, q7⟩
  have HA : Hid (Ap w g h s0 s1) := by
    have z2 := H2.out.2.2.2.2.2.2
    exact ⟨fun q hq => by have := H2.out.2.2.2.2.1 q hq; omega, fun q hq => by have := ho q hq; omega, fun q hq hq' => by have := ho q hq'; have := H2.out.2.2.2.1.lt hq; omega, lg, lh⟩
  have HZ0 : Hid (Dl w g h N f s0 s1 0 0 0 0 0 0 (5 * 0) w3) :=
    ⟨H2.out.2.2.2.1.below hb3, hf, H2.out.1.below hb3, H2.out.2.1.below hb3, Chg.of_below (H2.out.2.2.1.trans (hb3.mono H2.out.2.2.1.size)) fun k hk hk' => by omega⟩
  clear hs ho hf hb3 H2 hs1
  have HX0 : Hid (∀ k : Nat, f (5 * k + 0) = s0.y1 k 0 ∧ f (5 * k + 2) = s0.y1 k 1 ∧ f (5 * k + 4) = s0.y1 k 2 ∧ f (5 * k + 1) = s1.y1 k 0 ∧ f (5 * k + 3) = s1.y1 k 1 ∧ IntKind.u64.wrap (IntKind.u64.wrap (IntKind.u64.wrap (f (5 * k + 0) + f (5 * k + 1)) * IntKind.u64.wrap (f (5 * k + 2) + f (5 * k + 3))) - f (5 * k + 4)) = s1.y1 k 2) := by
    intro k
    rw [HS.out.y1, HS.out.z1]
    simp [T0, T1, lackT]
  have HX1 : Hid (∀ k : Nat, f (5 * (n1 + k) + 0) = s0.y2 k 0 ∧ f (5 * (n1 + k) + 2) = s0.y2 k 1 ∧ f (5 * (n1 + k) + 4) = s0.y2 k 2 ∧ f (5 * (n1 + k) + 1) = s1.y2 k 0 ∧ f (5 * (n1 + k) + 3) = s1.y2 k 1 ∧ bits .xor .u64 (bits .and .u64 (bits .xor .u64 (f (5 * (n1 + k) + 0)) (f (5 * (n1 + k) + 1))) (bits .xor .u64 (f (5 * (n1 + k) + 2)) (f (5 * (n1 + k) + 3)))) (f (5 * (n1 + k) + 4)) = s1.y2 k 2) := by
    intro k
    rw [HS.out.y2, HS.out.z2]
    simp [T0, B1, lackB, Nat.mul_add]
  have HX2 : Hid (∀ k : Nat, (∀ q, q < 4 → f (5 * (n1 + n2 + k) + q) = s0.y3 k q) ∧ s0.c3 k = false ∧ (∀ q, q < 2 → s1.y3 k q = if f (5 * (n1 + n2 + k) + 4) % 2 = 1 then f (5 * (n1 + n2 + k) + (2 + q)) else f (5 * (n1 + n2 + k) + q)) ∧ s1.y3 k 2 = 0 ∧ s1.y3 k 3 = 0 ∧ s1.c3 k = decide (f (5 * (n1 + n2 + k) + 4) % 2 = 1)) := by
    intro k
    rw [HS.out.y3, HS.out.z3, HS.out.c3, HS.out.d3]
    have e : 5 * (n1 + n2) + 5 * k = 5 * (n1 + n2 + k) := by omega
    refine ⟨fun q _ => by simp [O0, e], rfl, fun q hq => by simp [O1, hq, e, Nat.add_assoc], by simp [O1], by simp [O1], by simp [C1, e]⟩
  go_wp2
  go_loopw [37] (fun i wr => ∃ k : Nat, k ≤ n1 ∧ i = .int .i64 k ∧ Hid (Dl w g h N f s0 s1 k 0 0 k 0 0 (5 * k) wr)) (fun i _ => n1 - (intOf i).toNat)
  case atStart => exact ⟨0, by omega, rfl, HZ0.out⟩
  case round =>
    obtain ⟨k, hk, rfl, HI⟩ := hrel
    have HX := HX0
    by_cases hlt : k < n1
    · have lt1 : (k : Int) < (n1 : Int) := by omega
      have e1 : IntKind.i64.wrap ((k : Int) + 1) = (k : Int) + 1 := i64_nat _ (by omega) (by have := HL.out.1; have := HL.out.2.1; have := HL.out.2.2.1; omega)
      obtain ⟨x, hx⟩ : ∃ x : Nat → Int, x = fun q => f ((5 * k) + q) := ⟨_, rfl⟩
      have HD := draw_any wr g h N f (5 * k) HI.out.tp (by have := HL.out.2.2.2; omega)
      have HK0 := HX.out k
      rw [← hx] at HD
      have HK : x 0 = s0.y1 k 0 ∧ x 2 = s0.y1 k 1 ∧ x 4 = s0.y1 k 2 ∧ x 1 = s1.y1 k 0 ∧ x 3 = s1.y1 k 1 ∧ IntKind.u64.wrap (IntKind.u64.wrap (IntKind.u64.wrap (x 0 + x 1) * IntKind.u64.wrap (x 2 + x 3)) - x 4) = s1.y1 k 2 := by subst hx; exact HK0
      have HDr := Lib.hid HD
      have HW := Lib.hid (fun w1 => splitT_want w1 x (s0.y1 k) (s1.y1 k) HK.1 HK.2.1 HK.2.2.1 HK.2.2.2.1 HK.2.2.2.2.1 HK.2.2.2.2.2)
      clear HD hx HX HK HK0
      go_wp2_with fail
      refine HDr.out.mono ?_
      rintro e w1 ⟨rfl, ht1, hk1⟩
      have H1 := Lib.hid (HI.out.draw HA.out (u' := (5 * (k + 1))) (by have := ht1; rwa [show (5 * k) + 5 = (5 * (k + 1)) by omega] at this) hk1)
      clear ht1 hk1 HI HDr
      go_wp2_with fail
      refine (HW.out w1).mono ?_
      rintro e w2 ⟨rfl, hb2⟩
      have hbl : Below w2.heap.size w2 ((w2.alloc (.cells #[.int .u64 (s0.y1 k 0), .int .u64 (s0.y1 k 1), .int .u64 (s0.y1 k 2)] 48)).alloc (.cells #[.int .u64 (s1.y1 k 0), .int .u64 (s1.y1 k 1), .int .u64 (s1.y1 k 2)] 48)) := ((Below.refl _ w2).alloc (Nat.le_refl _) _).alloc (by simp) _
      have hBa : Blk ((w2.alloc (.cells #[.int .u64 (s0.y1 k 0), .int .u64 (s0.y1 k 1), .int .u64 (s0.y1 k 2)] 48)).alloc (.cells #[.int .u64 (s1.y1 k 0), .int .u64 (s1.y1 k 1), .int .u64 (s1.y1 k 2)] 48)) w2.heap.size 48 #[.int .u64 (s0.y1 k 0), .int .u64 (s0.y1 k 1), .int .u64 (s0.y1 k 2)] := (Blk.new w2 _ _).alloc _
      have hBb : Blk ((w2.alloc (.cells #[.int .u64 (s0.y1 k 0), .int .u64 (s0.y1 k 1), .int .u64 (s0.y1 k 2)] 48)).alloc (.cells #[.int .u64 (s1.y1 k 0), .int .u64 (s1.y1 k 1), .int .u64 (s1.y1 k 2)] 48)) (w2.heap.size + 1) 48 #[.int .u64 (s1.y1 k 0), .int .u64 (s1.y1 k 1), .int .u64 (s1.y1 k 2)] := by
        have := Blk.new (w2.alloc (.cells #[.int .u64 (s0.y1 k 0), .int .u64 (s0.y1 k 1), .int .u64 (s0.y1 k 2)] 48)) 48 #[.int .u64 (s1.y1 k 0), .int .u64 (s1.y1 k 1), .int .u64 (s1.y1 k 2)]
        rwa [World.size_alloc] at this
      have H2 := Lib.hid (And.intro (((H1.out.new hb2).new hbl).new ((Below.refl _ ((w2.alloc (.cells #[.int .u64 (s0.y1 k 0), .int .u64 (s0.y1 k 1), .int .u64 (s0.y1 k 2)] 48)).alloc (.cells #[.int .u64 (s1.y1 k 0), .int .u64 (s1.y1 k 1), .int .u64 (s1.y1 k 2)] 48))).drew)) (And.intro hBa.drew (And.intro hBb.drew ((H1.out.new hb2).p0.lt (.inl rfl) |> fun _ => H1.out.new hb2))))
      have H2l := Lib.hid (And.intro (fun q hq => (H1.out.new hb2).p0.lt (q := q) hq) (fun q hq => (H1.out.new hb2).p1.lt (q := q) hq))
      have a0 := hBa.cell 0 rfl
      have a1 := hBa.cell 1 rfl
      have a2 := hBa.cell 2 rfl
      clear hb2 hbl hBa hBb H1
      go_wp2
      generalize ((w2.alloc (.cells #[.int .u64 (s0.y1 k 0), .int .u64 (s0.y1 k 1), .int .u64 (s0.y1 k 2)] 48)).alloc (.cells #[.int .u64 (s1.y1 k 0), .int .u64 (s1.y1 k 1), .int .u64 (s1.y1 k 2)] 48)) = w4 at *
      generalize w2.heap.size = m at *
      go_still_tail 4, (by kernel_rfl)
      change wpList _ _ _ _ _ (World.drew _)
      clear a0 a1 a2
      generalize w4.drew = w5 at *
      go_wp2_with fail
      refine (fadd0 H2.out.1.p0 (by rw [HS.out.a1]; exact hlt)).mono ?_
      rintro e w6 ⟨rfl, hf, hc⟩
      have H6 := Lib.hid (And.intro (H2.out.1.add0 HA.out hf hc) (H2.out.2.2.1.chg hc (fun e => by have := H2l.out.1 _ e; omega)))
      clear hf hc H2
      have b0 := H6.out.2.cell 0 rfl
      have b1 := H6.out.2.cell 1 rfl
      have b2 := H6.out.2.cell 2 rfl
      go_wp2
      go_still_tail 4, (by kernel_rfl)
      change wpList _ _ _ _ _ (World.drew _)
      clear b0 b1 b2
      have H7 := Lib.hid (H6.out.1.new (Below.refl _ w6).drew)
      clear H6
      generalize w6.drew = w7 at *
      go_wp2_with fail
      refine (fadd0 H7.out.p1 (by rw [HS.out.b1]; exact hlt)).mono ?_
      rintro e w8 ⟨rfl, hf, hc⟩
      have H8 := Lib.hid (H7.out.add1 HA.out hf hc)
      clear hf hc H7
      go_wp2
      go_roundw
      case rel => exact ⟨k + 1, by omega, by go_num, H8.out⟩
      case measure => simp [intOf]; omega
    · obtain rfl : n1 = k := by omega
      have lt1 : ¬ ((n1 : Int) < (n1 : Int)) := by omega
      obtain ⟨wA0, hwA0⟩ : ∃ x, x = wr := ⟨_, rfl⟩
      subst hwA0
      have HZ1 : Hid (Dl w g h N f s0 s1 n1 0 0 n1 0 0 (5 * (n1 + 0)) wA0) := HI
      clear HX HX0 HZ0
      clear HI
      go_wp2
      go_loopw [57] (fun i wr => ∃ k : Nat, k ≤ n2 ∧ i = .int .i64 k ∧ Hid (Dl w g h N f s0 s1 n1 k 0 n1 k 0 (5 * (n1 + k)) wr)) (fun i _ => n2 - (intOf i).toNat)
      case atStart => exact ⟨0, by omega, rfl, HZ1.out⟩
      case round =>
        obtain ⟨k, hk, rfl, HI⟩ := hrel
        have HX := HX1
        by_cases hlt : k < n2
        · have lt1 : (k : Int) < (n2 : Int) := by omega
          have e1 : IntKind.i64.wrap ((k : Int) + 1) = (k : Int) + 1 := i64_nat _ (by omega) (by have := HL.out.1; have := HL.out.2.1; have := HL.out.2.2.1; omega)
          obtain ⟨x, hx⟩ : ∃ x : Nat → Int, x = fun q => f ((5 * (n1 + k)) + q) := ⟨_, rfl⟩
          have HD := draw_any wr g h N f (5 * (n1 + k)) HI.out.tp (by have := HL.out.2.2.2; omega)
          have HK0 := HX.out k
          rw [← hx] at HD
          have HK : x 0 = s0.y2 k 0 ∧ x 2 = s0.y2 k 1 ∧ x 4 = s0.y2 k 2 ∧ x 1 = s1.y2 k 0 ∧ x 3 = s1.y2 k 1 ∧ bits .xor .u64 (bits .and .u64 (bits .xor .u64 (x 0) (x 1)) (bits .xor .u64 (x 2) (x 3))) (x 4) = s1.y2 k 2 := by subst hx; exact HK0
          have HDr := Lib.hid HD
          have HW := Lib.hid (fun w1 => splitB_want w1 x (s0.y2 k) (s1.y2 k) HK.1 HK.2.1 HK.2.2.1 HK.2.2.2.1 HK.2.2.2.2.1 HK.2.2.2.2.2)
          clear HD hx HX HK HK0
          go_wp2_with fail
          refine HDr.out.mono ?_
          rintro e w1 ⟨rfl, ht1, hk1⟩
          have H1 := Lib.hid (HI.out.draw HA.out (u' := (5 * (n1 + (k + 1)))) (by have := ht1; rwa [show (5 * (n1 + k)) + 5 = (5 * (n1 + (k + 1))) by omega] at this) hk1)
          clear ht1 hk1 HI HDr
          go_wp2_with fail
          refine (HW.out w1).mono ?_
          rintro e w2 ⟨rfl, hb2⟩
          have hbl : Below w2.heap.size w2 ((w2.alloc (.cells #[.int .u64 (s0.y2 k 0), .int .u64 (s0.y2 k 1), .int .u64 (s0.y2 k 2)] 48)).alloc (.cells #[.int .u64 (s1.y2 k 0), .int .u64 (s1.y2 k 1), .int .u64 (s1.y2 k 2)] 48)) := ((Below.refl _ w2).alloc (Nat.le_refl _) _).alloc (by simp) _
          have hBa : Blk ((w2.alloc (.cells #[.int .u64 (s0.y2 k 0), .int .u64 (s0.y2 k 1), .int .u64 (s0.y2 k 2)] 48)).alloc (.cells #[.int .u64 (s1.y2 k 0), .int .u64 (s1.y2 k 1), .int .u64 (s1.y2 k 2)] 48)) w2.heap.size 48 #[.int .u64 (s0.y2 k 0), .int .u64 (s0.y2 k 1), .int .u64 (s0.y2 k 2)] := (Blk.new w2 _ _).alloc _
          have hBb : Blk ((w2.alloc (.cells #[.int .u64 (s0.y2 k 0), .int .u64 (s0.y2 k 1), .int .u64 (s0.y2 k 2)] 48)).alloc (.cells #[.int .u64 (s1.y2 k 0), .int .u64 (s1.y2 k 1), .int .u64 (s1.y2 k 2)] 48)) (w2.heap.size + 1) 48 #[.int .u64 (s1.y2 k 0), .int .u64 (s1.y2 k 1), .int .u64 (s1.y2 k 2)] := by
            have := Blk.new (w2.alloc (.cells #[.int .u64 (s0.y2 k 0), .int .u64 (s0.y2 k 1), .int .u64 (s0.y2 k 2)] 48)) 48 #[.int .u64 (s1.y2 k 0), .int .u64 (s1.y2 k 1), .int .u64 (s1.y2 k 2)]
            rwa [World.size_alloc] at this
          have H2 := Lib.hid (And.intro (((H1.out.new hb2).new hbl).new ((Below.refl _ ((w2.alloc (.cells #[.int .u64 (s0.y2 k 0), .int .u64 (s0.y2 k 1), .int .u64 (s0.y2 k 2)] 48)).alloc (.cells #[.int .u64 (s1.y2 k 0), .int .u64 (s1.y2 k 1), .int .u64 (s1.y2 k 2)] 48))).drew)) (And.intro hBa.drew (And.intro hBb.drew ((H1.out.new hb2).p0.lt (.inl rfl) |> fun _ => H1.out.new hb2))))
          have H2l := Lib.hid (And.intro (fun q hq => (H1.out.new hb2).p0.lt (q := q) hq) (fun q hq => (H1.out.new hb2).p1.lt (q := q) hq))
          have a0 := hBa.cell 0 rfl
          have a1 := hBa.cell 1 rfl
          have a2 := hBa.cell 2 rfl
          clear hb2 hbl hBa hBb H1
          go_wp2
          generalize ((w2.alloc (.cells #[.int .u64 (s0.y2 k 0), .int .u64 (s0.y2 k 1), .int .u64 (s0.y2 k 2)] 48)).alloc (.cells #[.int .u64 (s1.y2 k 0), .int .u64 (s1.y2 k 1), .int .u64 (s1.y2 k 2)] 48)) = w4 at *
          generalize w2.heap.size = m at *
          go_still_tail 4, (by kernel_rfl)
          change wpList _ _ _ _ _ (World.drew _)
          clear a0 a1 a2
          generalize w4.drew = w5 at *
          go_wp2_with fail
          refine (fadd1 H2.out.1.p0 (by rw [HS.out.a2]; exact hlt)).mono ?_
          rintro e w6 ⟨rfl, hf, hc⟩
          have H6 := Lib.hid (And.intro (H2.out.1.add0 HA.out hf hc) (H2.out.2.2.1.chg hc (fun e => by have := H2l.out.1 _ e; omega)))
          clear hf hc H2
          have b0 := H6.out.2.cell 0 rfl
          have b1 := H6.out.2.cell 1 rfl
          have b2 := H6.out.2.cell 2 rfl
          go_wp2
          go_still_tail 4, (by kernel_rfl)
          change wpList _ _ _ _ _ (World.drew _)
          clear b0 b1 b2
          have H7 := Lib.hid (H6.out.1.new (Below.refl _ w6).drew)
          clear H6
          generalize w6.drew = w7 at *
          go_wp2_with fail
          refine (fadd1 H7.out.p1 (by rw [HS.out.b2]; exact hlt)).mono ?_
          rintro e w8 ⟨rfl, hf, hc⟩
          have H8 := Lib.hid (H7.out.add1 HA.out hf hc)
          clear hf hc H7
          go_wp2
          go_roundw
          case rel => exact ⟨k + 1, by omega, by go_num, H8.out⟩
          case measure => simp [intOf]; omega
        · obtain rfl : n2 = k := by omega
          have lt1 : ¬ ((n2 : Int) < (n2 : Int)) := by omega
          obtain ⟨wA1, hwA1⟩ : ∃ x, x = wr := ⟨_, rfl⟩
          subst hwA1
          have HZ2 : Hid (Dl w g h N f s0 s1 n1 n2 0 n1 n2 0 (5 * (n1 + n2 + 0)) wA1) := HI
          clear HX HX1 HZ1
          clear HI
          go_wp2
          go_loopw [77] (fun i wr => ∃ k : Nat, k ≤ n3 ∧ i = .int .i64 k ∧ Hid (Dl w g h N f s0 s1 n1 n2 k n1 n2 k (5 * (n1 + n2 + k)) wr)) (fun i _ => n3 - (intOf i).toNat)
          case atStart => exact ⟨0, by omega, rfl, HZ2.out⟩
          case round =>
            obtain ⟨k, hk, rfl, HI⟩ := hrel
            have HX := HX2
            by_cases hlt : k < n3
            · have lt1 : (k : Int) < (n3 : Int) := by omega
              have e1 : IntKind.i64.wrap ((k : Int) + 1) = (k : Int) + 1 := i64_nat _ (by omega) (by have := HL.out.1; have := HL.out.2.1; have := HL.out.2.2.1; omega)
              obtain ⟨x, hx⟩ : ∃ x : Nat → Int, x = fun q => f ((5 * (n1 + n2 + k)) + q) := ⟨_, rfl⟩
              have HD := draw_any wr g h N f (5 * (n1 + n2 + k)) HI.out.tp (by have := HL.out.2.2.2; omega)
              have HK0 := HX.out k
              rw [← hx] at HD
              have HK : (∀ q, q < 4 → x q = s0.y3 k q) ∧ s0.c3 k = false ∧ (∀ q, q < 2 → s1.y3 k q = if x 4 % 2 = 1 then x (2 + q) else x q) ∧ s1.y3 k 2 = 0 ∧ s1.y3 k 3 = 0 ∧ s1.c3 k = decide (x 4 % 2 = 1) := by subst hx; exact HK0
              have HDr := Lib.hid HD
              have HW := Lib.hid (fun w1 => splitO_want w1 x (s0.y3 k) (s1.y3 k) (s0.c3 k) (s1.c3 k) HK.1 HK.2.1 HK.2.2.1 HK.2.2.2.1 HK.2.2.2.2.1 HK.2.2.2.2.2)
              clear HD hx HX HK HK0
              go_wp2_with fail
              refine HDr.out.mono ?_
              rintro e w1 ⟨rfl, ht1, hk1⟩
              have H1 := Lib.hid (HI.out.draw HA.out (u' := (5 * (n1 + n2 + (k + 1)))) (by have := ht1; rwa [show (5 * (n1 + n2 + k)) + 5 = (5 * (n1 + n2 + (k + 1))) by omega] at this) hk1)
              clear ht1 hk1 HI HDr
              go_wp2_with fail
              refine (HW.out w1).mono ?_
              rintro e w2 ⟨rfl, hb2⟩
              have hbl : Below w2.heap.size w2 ((w2.alloc (.cells #[.int .u64 (s0.y3 k 0), .int .u64 (s0.y3 k 1), .int .u64 (s0.y3 k 2), .int .u64 (s0.y3 k 3), .bool (s0.c3 k)] 55)).alloc (.cells #[.int .u64 (s1.y3 k 0), .int .u64 (s1.y3 k 1), .int .u64 (s1.y3 k 2), .int .u64 (s1.y3 k 3), .bool (s1.c3 k)] 55)) := ((Below.refl _ w2).alloc (Nat.le_refl _) _).alloc (by simp) _
              have hBa : Blk ((w2.alloc (.cells #[.int .u64 (s0.y3 k 0), .int .u64 (s0.y3 k 1), .int .u64 (s0.y3 k 2), .int .u64 (s0.y3 k 3), .bool (s0.c3 k)] 55)).alloc (.cells #[.int .u64 (s1.y3 k 0), .int .u64 (s1.y3 k 1), .int .u64 (s1.y3 k 2), .int .u64 (s1.y3 k 3), .bool (s1.c3 k)] 55)) w2.heap.size 55 #[.int .u64 (s0.y3 k 0), .int .u64 (s0.y3 k 1), .int .u64 (s0.y3 k 2), .int .u64 (s0.y3 k 3), .bool (s0.c3 k)] := (Blk.new w2 _ _).alloc _
              have hBb : Blk ((w2.alloc (.cells #[.int .u64 (s0.y3 k 0), .int .u64 (s0.y3 k 1), .int .u64 (s0.y3 k 2), .int .u64 (s0.y3 k 3), .bool (s0.c3 k)] 55)).alloc (.cells #[.int .u64 (s1.y3 k 0), .int .u64 (s1.y3 k 1), .int .u64 (s1.y3 k 2), .int .u64 (s1.y3 k 3), .bool (s1.c3 k)] 55)) (w2.heap.size + 1) 55 #[.int .u64 (s1.y3 k 0), .int .u64 (s1.y3 k 1), .int .u64 (s1.y3 k 2), .int .u64 (s1.y3 k 3), .bool (s1.c3 k)] := by
                have := Blk.new (w2.alloc (.cells #[.int .u64 (s0.y3 k 0), .int .u64 (s0.y3 k 1), .int .u64 (s0.y3 k 2), .int .u64 (s0.y3 k 3), .bool (s0.c3 k)] 55)) 55 #[.int .u64 (s1.y3 k 0), .int .u64 (s1.y3 k 1), .int .u64 (s1.y3 k 2), .int .u64 (s1.y3 k 3), .bool (s1.c3 k)]
                rwa [World.size_alloc] at this
              have H2 := Lib.hid (And.intro (((H1.out.new hb2).new hbl).new ((Below.refl _ ((w2.alloc (.cells #[.int .u64 (s0.y3 k 0), .int .u64 (s0.y3 k 1), .int .u64 (s0.y3 k 2), .int .u64 (s0.y3 k 3), .bool (s0.c3 k)] 55)).alloc (.cells #[.int .u64 (s1.y3 k 0), .int .u64 (s1.y3 k 1), .int .u64 (s1.y3 k 2), .int .u64 (s1.y3 k 3), .bool (s1.c3 k)] 55))).drew)) (And.intro hBa.drew (And.intro hBb.drew ((H1.out.new hb2).p0.lt (.inl rfl) |> fun _ => H1.out.new hb2))))
              have H2l := Lib.hid (And.intro (fun q hq => (H1.out.new hb2).p0.lt (q := q) hq) (fun q hq => (H1.out.new hb2).p1.lt (q := q) hq))
              have a0 := hBa.cell 0 rfl
              have a1 := hBa.cell 1 rfl
              have a2 := hBa.cell 2 rfl
              have a3 := hBa.cell 3 rfl
              have a4 := hBa.cell 4 rfl
              clear hb2 hbl hBa hBb H1
              go_wp2
              generalize ((w2.alloc (.cells #[.int .u64 (s0.y3 k 0), .int .u64 (s0.y3 k 1), .int .u64 (s0.y3 k 2), .int .u64 (s0.y3 k 3), .bool (s0.c3 k)] 55)).alloc (.cells #[.int .u64 (s1.y3 k 0), .int .u64 (s1.y3 k 1), .int .u64 (s1.y3 k 2), .int .u64 (s1.y3 k 3), .bool (s1.c3 k)] 55)) = w4 at *
              generalize w2.heap.size = m at *
              go_still_tail 4, (by kernel_rfl)
              change wpList _ _ _ _ _ (World.drew _)
              clear a0 a1 a2 a3 a4
              generalize w4.drew = w5 at *
              go_wp2_with fail
              refine (fadd2 H2.out.1.p0 (by rw [HS.out.a3]; exact hlt)).mono ?_
              rintro e w6 ⟨rfl, hf, hc⟩
              have H6 := Lib.hid (And.intro (H2.out.1.add0 HA.out hf hc) (H2.out.2.2.1.chg hc (fun e => by have := H2l.out.1 _ e; omega)))
              clear hf hc H2
              have b0 := H6.out.2.cell 0 rfl
              have b1 := H6.out.2.cell 1 rfl
              have b2 := H6.out.2.cell 2 rfl
              have b3 := H6.out.2.cell 3 rfl
              have b4 := H6.out.2.cell 4 rfl
              go_wp2
              go_still_tail 4, (by kernel_rfl)
              change wpList _ _ _ _ _ (World.drew _)
              clear b0 b1 b2 b3 b4
              have H7 := Lib.hid (H6.out.1.new (Below.refl _ w6).drew)
              clear H6
              generalize w6.drew = w7 at *
              go_wp2_with fail
              refine (fadd2 H7.out.p1 (by rw [HS.out.b3]; exact hlt)).mono ?_
              rintro e w8 ⟨rfl, hf, hc⟩
              have H8 := Lib.hid (H7.out.add1 HA.out hf hc)
              clear hf hc H7
              go_wp2
              go_roundw
              case rel => exact ⟨k + 1, by omega, by go_num, H8.out⟩
              case measure => simp [intOf]; omega
            · obtain rfl : n3 = k := by omega
              have lt1 : ¬ ((n3 : Int) < (n3 : Int)) := by omega
              obtain ⟨wA2, hwA2⟩ : ∃ x, x = wr := ⟨_, rfl⟩
              subst hwA2
              have HZ3 : Hid (Dl w g h N f s0 s1 n1 n2 n3 n1 n2 n3 (5 * (n1 + n2 + n3)) wA2) := HI
              clear HX HX2 HZ2
              clear HI
              have r0 := HZ3.out.rb.cell 0 rfl
              have r1 := HZ3.out.rb.cell 1 rfl
              have zr := HZ3.out.rb.frozen
              go_wp2
              have hR := (HZ3.out.rb.set 0 (.pointer (some ⟨s0.g, 0, none⟩))).set 1 (.pointer (some ⟨s1.g, 0, none⟩))
              have q0 := hR.cell 0 rfl
              have q1 := hR.cell 1 rfl
              have hc : Chg (fun q => q = w.heap.size) wA2 ((wA2.setCell ⟨w.heap.size, 0, none⟩ (.pointer (some ⟨s0.g, 0, none⟩))).setCell ⟨w.heap.size, 1, none⟩ (.pointer (some ⟨s1.g, 0, none⟩))) := ((Chg.refl (fun q => q = w.heap.size) wA2).set (p := ⟨w.heap.size, 0, none⟩) (.inr rfl) _).set (p := ⟨w.heap.size, 1, none⟩) (.inr rfl) _
              exact bodyPost_ret (v := .tuple #[.agg #[.pointer (some ⟨s0.g, 0, none⟩), .pointer (some ⟨s1.g, 0, none⟩)], .nilIface]) (by simp [results, Tryd.results10, go_sem, q0, q1]) rfl
                ⟨s0, s1, rfl, HS.out, HA.out,
                  Stk.chg (Fil.full (by rw [HS.out.a1, HS.out.a2, HS.out.a3]; exact HZ3.out.p0) (by rw [HS.out.a1]; exact HL.out.1) (by rw [HS.out.a2]; exact HL.out.2.1) (by rw [HS.out.a3]; exact HL.out.2.2.1)) hc (fun q hq e => by have := HA.out.a0 q hq; omega),
                  Stk.chg (Fil.full (by rw [HS.out.b1, HS.out.b2, HS.out.b3]; exact HZ3.out.p1) (by rw [HS.out.b1]; exact HL.out.1) (by rw [HS.out.b2]; exact HL.out.2.1) (by rw [HS.out.b3]; exact HL.out.2.2.1)) hc (fun q hq e => by have := HA.out.a1 q hq; omega),
                  HZ3.out.tp.chg hc (by omega) (by omega), HZ3.out.ch.after hc fun q e => .inl (by omega)⟩
end Go.Proofs.YtgmlmngnedhllaaDoor
