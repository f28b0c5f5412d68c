/- The contract of the law's 'gives'. -/
import Derived.Test.YtgmlmngnedhllaaDoorQGa
namespace Go.Proofs.YtgmlmngnedhllaaDoor
open Go.RowKit

set_option maxHeartbeats 16000000 in
set_option maxRecDepth 100000 in
theorem gives_any (s : Sk) (B1 B2 B3 C : Option Addr) (q1 q2 q3 M qc : Nat) (sc : Nat → Int) (w : World) (hh : Handle w) (hS : Stk w s) (t1 : AtT w B1 s.n1 s.y1) (t2 : AtT w B2 s.n2 s.y2) (t3 : AtO3 w B3 s.n3 s.y3 s.c3) (tc : AtI w C M sc)
    (o1 : ∀ ad, B1 = some ad → 0 < s.n1 → ¬ s.own ad.block) (o2 : ∀ ad, B2 = some ad → 0 < s.n2 → ¬ s.own ad.block) (o3 : ∀ ad, B3 = some ad → 0 < s.n3 → ¬ s.own ad.block) (oc : ∀ ad, C = some ad → 0 < M → ¬ s.own ad.block) (hsum : M + s.n1 + s.n2 + s.n3 ≤ 1000000) (hv : ¬ s.own 0) :
    Calls Tryd.prog 14 #[.pointer (some ⟨s.g, 0, none⟩), .agg #[.slice B1 s.n1 q1, .slice B2 s.n2 q2, .slice B3 s.n3 q3], .slice C M qc] w fun e w' => e = .returned (.bool true) ∧ Chg s.own w w' := by
  obtain ⟨e1, e2, e3, e4⟩ := sum_nums M s.n1 s.n2 s.n3 hsum
  obtain ⟨m4, hm4⟩ : ∃ x, w.heap.size = x := ⟨_, rfl⟩
  obtain ⟨m7, hm7⟩ : ∃ x, w.heap.size + 1 = x := ⟨_, rfl⟩
  have hb0 : Below w.heap.size w ((w.alloc (.cells #[.slice B1 s.n1 q1, .slice B2 s.n2 q2, .slice B3 s.n3 q3] 37)).alloc (.cells (nums 0 0 0) 23)) := ((Below.refl _ w).alloc (Nat.le_refl _) _).alloc (by simp) _
  have HF : Hid (Gf w s B1 B2 B3 C M m4 m7) := by
    have l := fun q hq => hS.lt (q := q) hq
    refine ⟨fun e => by have := l _ e; omega, fun e => by have := l _ e; omega, by omega, fun ad e hn => ⟨o1 ad e hn, ?_⟩, fun ad e hn => ⟨o2 ad e hn, ?_⟩, fun ad e hn => ⟨o3 ad e hn, ?_⟩, fun ad e hn => ⟨oc ad e hn, ?_⟩, by omega⟩
    · obtain ⟨ad', e', h1, _⟩ := t1 0 hn
      have := World.block_lt_of_cell? _ _ h1
      rw [e] at e'; cases e'
      rw [add_block] at this
      omega
    · obtain ⟨ad', e', h1, _⟩ := t2 0 hn
      have := World.block_lt_of_cell? _ _ h1
      rw [e] at e'; cases e'
      rw [add_block] at this
      omega
    · obtain ⟨ad', e', h1, _⟩ := t3 0 hn
      have := World.block_lt_of_cell? _ _ h1
      rw [e] at e'; cases e'
      rw [add_block] at this
      omega
    · obtain ⟨ad', e', h1⟩ := tc 0 hn
      have := World.block_lt_of_cell? _ _ h1
      rw [e] at e'; cases e'
      rw [add_block] at this
      omega
  have HG : Hid (Gv w s B1 B2 B3 C q1 q2 q3 M sc m4 m7 0 0 0 0 0 0 ((w.alloc (.cells #[.slice B1 s.n1 q1, .slice B2 s.n2 q2, .slice B3 s.n3 q3] 37)).alloc (.cells (nums 0 0 0) 23))) := by
    refine ⟨hS.below hb0, ?_, ?_, t1.below hb0, t2.below hb0, t3.below hb0, tc.below hb0, Chg.of_below hb0 fun k hk hk' => by omega⟩
    · have := Blk.new (w.alloc (.cells #[.slice B1 s.n1 q1, .slice B2 s.n2 q2, .slice B3 s.n3 q3] 37)) 23 (nums 0 0 0)
      rw [World.size_alloc, hm7] at this
      exact this
    · have := (Blk.new w 37 #[.slice B1 s.n1 q1, .slice B2 s.n2 q2, .slice B3 s.n3 q3]).alloc (.cells (nums 0 0 0) 23)
      rw [hm4] at this
      exact this
  have HN := Lib.hid (And.intro hsum (And.intro hh (And.intro hv (show w.heap.size ≤ m4 ∧ m4 < m7 from ⟨by omega, by omega⟩))))
  have HM4 := Lib.hid hm4
  have HM7 := Lib.hid hm7
  clear hh hS t1 t2 t3 tc o1 o2 o3 oc hsum hv hb0 hm4 hm7
  go_enter Tryd.func14, Tryd.ntmps14
  go_wp2
  rw [HM7.out, HM4.out]
  clear HM4 HM7
  generalize ((w.alloc (.cells #[.slice B1 s.n1 q1, .slice B2 s.n2 q2, .slice B3 s.n3 q3] 37)).alloc (.cells (nums 0 0 0) 23)) = w0 at *
  go_loopw [8] (fun i wr => ∃ t : Nat, t ≤ M + s.n1 + s.n2 + s.n3 + 3 ∧ i = .int .i64 t ∧ Hid (∃ i1 i2 i3, i1 ≤ s.n1 ∧ i2 ≤ s.n2 ∧ i3 ≤ s.n3 ∧ Gv w s B1 B2 B3 C q1 q2 q3 M sc m4 m7 i1 i2 i3 i1 i2 i3 wr)) (fun i _ => M + s.n1 + s.n2 + s.n3 + 3 - (intOf i).toNat)
  case atStart => exact ⟨0, by omega, rfl, 0, 0, 0, by omega, by omega, by omega, HG.out⟩
  case round =>
    obtain ⟨t, ht, rfl, HI⟩ := hrel
    obtain ⟨i1, i2, i3, h1, h2, h3, hG⟩ := HI.out
    have HJ := Lib.hid hG
    have HB := Lib.hid (And.intro h1 (And.intro h2 h3))
    obtain ⟨wA, hwA⟩ : ∃ x, x = wr := ⟨_, rfl⟩
    subst hwA
    clear hG h1 h2 h3 HI HG
    have d0 := HJ.out.b.cell 0 rfl
    have d1 := HJ.out.b.cell 1 rfl
    have d2 := HJ.out.b.cell 2 rfl
    by_cases hlt : t < M + s.n1 + s.n2 + s.n3 + 3
    · have lt1 : (t : Int) < (M : Int) + (s.n1 : Int) + (s.n2 : Int) + (s.n3 : Int) + 3 := by omega
      have et : IntKind.i64.wrap ((t : Int) + 1) = (t : Int) + 1 := i64_nat _ (by omega) (by have := HN.out.1; omega)
      have HT := Lib.hid (And.intro ht hlt)
      have ht6 : t ≤ 2000000 := by have := HN.out.1; omega
      have HT6 := Lib.hid ht6
      clear ht hlt ht6
      obtain ⟨k0, hk0, f1, f2⟩ := kmod3b t HT6.out
      have HK0 := Lib.hid hk0
      have f3 := small_w64 k0 HK0.out
      clear hk0
      go_upto_if 44 with fail
      go_cut [9] from 41 to 51 (fun q wc => Hid (∃ k : Nat, k < 3 ∧ q = .int .i64 k ∧ wc = wA))
      case first =>
        by_cases hs : t < M
        · have ls : (t : Int) < (M : Int) := by omega
          have ls0 : (0 : Int) ≤ (t : Int) := by omega
          obtain ⟨ad, rfl, hc⟩ := HJ.out.sc t hs
          obtain ⟨k, hk1, hk2, g1, g2, g3⟩ := umod3 (sc t)
          have HK := Lib.hid hk1
          clear hk1 hs
          go_wp2
          go_meet
          exact ⟨k, HK.out, rfl, rfl⟩
        · have ls : ¬ (t : Int) < (M : Int) := by omega
          clear hs
          go_wp2
          go_meet
          exact ⟨k0, HK0.out, rfl, rfl⟩
      case rest =>
        obtain ⟨k, hk, rfl, rfl⟩ := hcut.out
        clear hcut f1 f2 f3 HK0
        obtain ⟨x1, hx1, ex1⟩ := sub_nums s.n1 i1 HB.out.1 (by have := HN.out.1; omega)
        obtain ⟨x2, hx2, ex2⟩ := sub_nums s.n2 i2 HB.out.2.1 (by have := HN.out.1; omega)
        obtain ⟨x3, hx3, ex3⟩ := sub_nums s.n3 i3 HB.out.2.2 (by have := HN.out.1; omega)
        have a0 := HJ.out.a.cell 0 rfl
        have a1 := HJ.out.a.cell 1 rfl
        have a2 := HJ.out.a.cell 2 rfl
        have HLf : Calls Tryd.prog 19 #[.pointer (some ⟨s.g, 0, none⟩)] wc (fun e w' => e = .returned (.tuple #[.int .i64 (x1 : Int), .int .i64 (x2 : Int), .int .i64 (x3 : Int)]) ∧ ∃ q, w' = wc.drewN q) := by
          have := cleft_any wc (s.adv i1 i2 i3) HJ.out.p
          have c1 : (s.adv i1 i2 i3).n1 = x1 := hx1
          have c2 : (s.adv i1 i2 i3).n2 = x2 := hx2
          have c3 : (s.adv i1 i2 i3).n3 = x3 := hx3
          rw [c1, c2, c3] at this
          exact this
        have HLeft := Lib.hid HLf
        clear HLf hx1 hx2 hx3
        rcases (show k = 0 ∨ k = 1 ∨ k = 2 by omega) with rfl | rfl | rfl
        · go_wp2_with fail
          refine HLeft.out.mono ?_
          rintro e wL0 ⟨rfl, qL, rfl⟩
          have HL := Lib.hid (HJ.out.new (Below.drewN _ qL))
          generalize wc.drewN qL = wL at *
          clear HLeft HJ d0 d1 d2 a0 a1 a2
          have d0 := HL.out.b.cell 0 rfl
          have d1 := HL.out.b.cell 1 rfl
          have d2 := HL.out.b.cell 2 rfl
          have a0 := HL.out.a.cell 0 rfl
          have a1 := HL.out.a.cell 1 rfl
          have a2 := HL.out.a.cell 2 rfl
          have hbz : Below wL.heap.size wL (wL.alloc (.cells #[.int .u64 0, .int .u64 0, .int .u64 0] 48)) := (Below.refl _ wL).alloc (Nat.le_refl _) _
          have HZ := Lib.hid (And.intro (HL.out.new hbz) (And.intro (Blk.new wL 48 #[.int .u64 0, .int .u64 0, .int .u64 0]) (fun q hq => HL.out.p.lt (q := q) hq)))
          have hz4 := HL.out.b.lt
          have hz7 := HL.out.a.lt
          have hwz := HL.out.ch.size
          clear hbz
          by_cases hav : i1 < s.n1
          · have ge : ¬ (s.n1 : Int) ≤ (i1 : Int) := by omega
            have geb : decide ((s.n1 : Int) ≤ (i1 : Int)) = false := decide_eq_false ge
            have gen : decide (s.n1 ≤ i1) = false := decide_eq_false (by omega)
            have li : (i1 : Int) < (s.n1 : Int) := by omega
            have l0 : (0 : Int) ≤ (i1 : Int) := by omega
            have ei : IntKind.i64.wrap ((i1 : Int) + 1) = (i1 : Int) + 1 := i64_nat _ (by omega) (by have := HN.out.1; omega)
            go_wp2_with fail
            refine (triple_some (wL.alloc (.cells #[.int .u64 0, .int .u64 0, .int .u64 0] 48)) s i1 i2 i3 HZ.out.1.p hav).mono ?_
            rintro e w3 ⟨rfl, hS, hc⟩
            have H3 := Lib.hid (And.intro (HZ.out.1.take HF.out hS hc) (HZ.out.2.1.chg hc (fun e => by have := HZ.out.2.2 _ e; omega)))
            obtain ⟨mz, hmz⟩ : ∃ x, wL.heap.size = x := ⟨_, rfl⟩
            rw [hmz] at H3 hz4 hz7 ⊢
            clear hS hc d0 d1 d2 a0 a1 a2
            have H5 := Lib.hid (And.intro (H3.out.1.far (mz := mz) (by have := HN.out.2.2.2; omega) (by omega) (by omega) (fun q hq e => by have := HZ.out.2.2 q hq; omega) (fun ad e hn => by have := HL.out.lt1 ad e hn; omega) (fun ad e hn => by have := HL.out.lt2 ad e hn; omega) (fun ad e hn => by have := HL.out.lt3 ad e hn; omega) (fun ad e hn => by have := HL.out.lt4 ad e hn; omega) ((((Chg.refl (fun q => q = mz) w3).set (p := ⟨mz, 0, none⟩) (.inr rfl) (.int .u64 (s.y1 i1 0))).set (p := ⟨mz, 1, none⟩) (.inr rfl) (.int .u64 (s.y1 i1 1))).set (p := ⟨mz, 2, none⟩) (.inr rfl) (.int .u64 (s.y1 i1 2)))) (((H3.out.2.set 0 (.int .u64 (s.y1 i1 0))).set 1 (.int .u64 (s.y1 i1 1))).set 2 (.int .u64 (s.y1 i1 2))))
            have z0 := H3.out.2.cell 0 rfl
            have z1 := H3.out.2.cell 1 rfl
            have z2 := H3.out.2.cell 2 rfl
            have zf := H3.out.2.frozen
            have a0 := H5.out.1.a.cell 0 rfl
            have d0 := H5.out.1.b.cell 0 rfl
            go_wp2
            generalize (((w3.setCell ⟨mz, 0, none⟩ (.int .u64 (s.y1 i1 0))).setCell ⟨mz, 1, none⟩ (.int .u64 (s.y1 i1 1))).setCell ⟨mz, 2, none⟩ (.int .u64 (s.y1 i1 2))) = w5 at *
            clear z0 z1 z2 zf d0 H3
            obtain ⟨ad, hB, g0, g1, g2⟩ := H5.out.1.t1 i1 hav
            subst hB
            have x0 := H5.out.2.cell 0 rfl
            have x1' := H5.out.2.cell 1 rfl
            have x2' := H5.out.2.cell 2 rfl
            obtain ⟨ae, hae⟩ : ∃ ae, ad.add (i1 * 3) = ae := ⟨_, rfl⟩
            have k1 := elem_cells g0 (by omega) g1
            have k2 := elem_cells g0 (by omega) g2
            rw [hae] at k1 k2
            have k0 := k1.1
            have k3 := k1.2
            have k4 := k2.2
            clear g0 g1 g2 k1 k2
            go_quiet (fail)
            have af := H5.out.1.a.frozen 0
            go_wp2
            go_roundw
            case rel => exact ⟨t + 1, by have := HT.out; omega, by go_num, (i1 + 1), i2, i3, by have := HB.out; omega, by have := HB.out; omega, by have := HB.out; omega, (H5.out.1.new (Below.drewN _ _)).setA HF.out ((Chg.refl (fun q => q = m7) _).set (p := ⟨m7, 0, none⟩) (.inr rfl) _) ((H5.out.1.new (Below.drewN _ _)).a.set 0 _)⟩
            case measure => simp [intOf]; have := HT.out; omega
          · have hi0 : s.n1 - i1 = 0 := by have := HB.out.1; omega
            have ge : (s.n1 : Int) ≤ (i1 : Int) := by omega
            have gen : s.n1 ≤ i1 := by omega
            have HI0 := Lib.hid hi0
            clear hi0 hav
            go_wp2_with fail
            refine (triple_none (wL.alloc (.cells #[.int .u64 0, .int .u64 0, .int .u64 0] 48)) (s.adv i1 i2 i3) HZ.out.1.p HI0.out (HN.out.2.1.chg HZ.out.1.ch HN.out.2.2.1)).mono ?_
            rintro e w3 ⟨rfl, hb3⟩
            have H3 := Lib.hid (And.intro (HZ.out.1.new hb3) (HZ.out.2.1.below hb3))
            obtain ⟨mz, hmz⟩ : ∃ x, wL.heap.size = x := ⟨_, rfl⟩
            rw [hmz] at H3 hz4 hz7 ⊢
            have H5 := Lib.hid (And.intro (H3.out.1.far (mz := mz) (by have := HN.out.2.2.2; omega) (by omega) (by omega) (fun q hq e => by have := HZ.out.2.2 q hq; omega) (fun ad e hn => by have := HL.out.lt1 ad e hn; omega) (fun ad e hn => by have := HL.out.lt2 ad e hn; omega) (fun ad e hn => by have := HL.out.lt3 ad e hn; omega) (fun ad e hn => by have := HL.out.lt4 ad e hn; omega) ((((Chg.refl (fun q => q = mz) w3).set (p := ⟨mz, 0, none⟩) (.inr rfl) (.int .u64 0)).set (p := ⟨mz, 1, none⟩) (.inr rfl) (.int .u64 0)).set (p := ⟨mz, 2, none⟩) (.inr rfl) (.int .u64 0))) (((H3.out.2.set 0 (.int .u64 0)).set 1 (.int .u64 0)).set 2 (.int .u64 0)))
            obtain ⟨T0, v0, hT⟩ := chain_iface [(⟨#[116, 114, 105, 112, 108, 101, 115]⟩, 0)] 80
            have hfi := fun wx => fis_chain [(⟨#[116, 114, 105, 112, 108, 101, 115]⟩, 0)] 80 80 wx
            rw [hT] at hfi ⊢
            have HFi := Lib.hid hfi
            clear hb3 d0 d1 d2 a0 a1 a2 hT hfi
            have z0 := H3.out.2.cell 0 rfl
            have z1 := H3.out.2.cell 1 rfl
            have z2 := H3.out.2.cell 2 rfl
            have zf := H3.out.2.frozen
            have a0 := H5.out.1.a.cell 0 rfl
            have d0 := H5.out.1.b.cell 0 rfl
            have x0 := H5.out.2.cell 0 rfl
            have x1' := H5.out.2.cell 1 rfl
            have x2' := H5.out.2.cell 2 rfl
            go_wp2_with fail
            refine (HFi.out _).mono ?_
            rintro e w6 ⟨rfl, hb6⟩
            have H6 := Lib.hid (H5.out.1.new hb6)
            clear hb6
            go_wp2
            go_roundw
            case rel => exact ⟨t + 1, by have := HT.out; omega, by go_num, i1, i2, i3, by have := HB.out; omega, by have := HB.out; omega, by have := HB.out; omega, H6.out⟩
            case measure => simp [intOf]; have := HT.out; omega
        · go_wp2_with fail
          refine HLeft.out.mono ?_
          rintro e wL0 ⟨rfl, qL, rfl⟩
          have HL := Lib.hid (HJ.out.new (Below.drewN _ qL))
          generalize wc.drewN qL = wL at *
          clear HLeft HJ d0 d1 d2 a0 a1 a2
          have d0 := HL.out.b.cell 0 rfl
          have d1 := HL.out.b.cell 1 rfl
          have d2 := HL.out.b.cell 2 rfl
          have a0 := HL.out.a.cell 0 rfl
          have a1 := HL.out.a.cell 1 rfl
          have a2 := HL.out.a.cell 2 rfl
          have hbz : Below wL.heap.size wL (wL.alloc (.cells #[.int .u64 0, .int .u64 0, .int .u64 0] 48)) := (Below.refl _ wL).alloc (Nat.le_refl _) _
          have HZ := Lib.hid (And.intro (HL.out.new hbz) (And.intro (Blk.new wL 48 #[.int .u64 0, .int .u64 0, .int .u64 0]) (fun q hq => HL.out.p.lt (q := q) hq)))
          have hz4 := HL.out.b.lt
          have hz7 := HL.out.a.lt
          have hwz := HL.out.ch.size
          clear hbz
          by_cases hav : i2 < s.n2
          · have ge : ¬ (s.n2 : Int) ≤ (i2 : Int) := by omega
            have geb : decide ((s.n2 : Int) ≤ (i2 : Int)) = false := decide_eq_false ge
            have gen : decide (s.n2 ≤ i2) = false := decide_eq_false (by omega)
            have li : (i2 : Int) < (s.n2 : Int) := by omega
            have l0 : (0 : Int) ≤ (i2 : Int) := by omega
            have ei : IntKind.i64.wrap ((i2 : Int) + 1) = (i2 : Int) + 1 := i64_nat _ (by omega) (by have := HN.out.1; omega)
            go_wp2_with fail
            refine (bits_some (wL.alloc (.cells #[.int .u64 0, .int .u64 0, .int .u64 0] 48)) s i1 i2 i3 HZ.out.1.p hav).mono ?_
            rintro e w3 ⟨rfl, hS, hc⟩
            have H3 := Lib.hid (And.intro (HZ.out.1.take HF.out hS hc) (HZ.out.2.1.chg hc (fun e => by have := HZ.out.2.2 _ e; omega)))
            obtain ⟨mz, hmz⟩ : ∃ x, wL.heap.size = x := ⟨_, rfl⟩
            rw [hmz] at H3 hz4 hz7 ⊢
            clear hS hc d0 d1 d2 a0 a1 a2
            have H5 := Lib.hid (And.intro (H3.out.1.far (mz := mz) (by have := HN.out.2.2.2; omega) (by omega) (by omega) (fun q hq e => by have := HZ.out.2.2 q hq; omega) (fun ad e hn => by have := HL.out.lt1 ad e hn; omega) (fun ad e hn => by have := HL.out.lt2 ad e hn; omega) (fun ad e hn => by have := HL.out.lt3 ad e hn; omega) (fun ad e hn => by have := HL.out.lt4 ad e hn; omega) ((((Chg.refl (fun q => q = mz) w3).set (p := ⟨mz, 0, none⟩) (.inr rfl) (.int .u64 (s.y2 i2 0))).set (p := ⟨mz, 1, none⟩) (.inr rfl) (.int .u64 (s.y2 i2 1))).set (p := ⟨mz, 2, none⟩) (.inr rfl) (.int .u64 (s.y2 i2 2)))) (((H3.out.2.set 0 (.int .u64 (s.y2 i2 0))).set 1 (.int .u64 (s.y2 i2 1))).set 2 (.int .u64 (s.y2 i2 2))))
            have z0 := H3.out.2.cell 0 rfl
            have z1 := H3.out.2.cell 1 rfl
            have z2 := H3.out.2.cell 2 rfl
            have zf := H3.out.2.frozen
            have a0 := H5.out.1.a.cell 1 rfl
            have d0 := H5.out.1.b.cell 1 rfl
            go_wp2
            generalize (((w3.setCell ⟨mz, 0, none⟩ (.int .u64 (s.y2 i2 0))).setCell ⟨mz, 1, none⟩ (.int .u64 (s.y2 i2 1))).setCell ⟨mz, 2, none⟩ (.int .u64 (s.y2 i2 2))) = w5 at *
            clear z0 z1 z2 zf d0 H3
            obtain ⟨ad, hB, g0, g1, g2⟩ := H5.out.1.t2 i2 hav
            subst hB
            have x0 := H5.out.2.cell 0 rfl
            have x1' := H5.out.2.cell 1 rfl
            have x2' := H5.out.2.cell 2 rfl
            obtain ⟨ae, hae⟩ : ∃ ae, ad.add (i2 * 3) = ae := ⟨_, rfl⟩
            have k1 := elem_cells g0 (by omega) g1
            have k2 := elem_cells g0 (by omega) g2
            rw [hae] at k1 k2
            have k0 := k1.1
            have k3 := k1.2
            have k4 := k2.2
            clear g0 g1 g2 k1 k2
            go_quiet (fail)
            have af := H5.out.1.a.frozen 1
            go_wp2
            go_roundw
            case rel => exact ⟨t + 1, by have := HT.out; omega, by go_num, i1, (i2 + 1), i3, by have := HB.out; omega, by have := HB.out; omega, by have := HB.out; omega, (H5.out.1.new (Below.drewN _ _)).setA HF.out ((Chg.refl (fun q => q = m7) _).set (p := ⟨m7, 1, none⟩) (.inr rfl) _) ((H5.out.1.new (Below.drewN _ _)).a.set 1 _)⟩
            case measure => simp [intOf]; have := HT.out; omega
          · have hi0 : s.n2 - i2 = 0 := by have := HB.out.2.1; omega
            have ge : (s.n2 : Int) ≤ (i2 : Int) := by omega
            have gen : s.n2 ≤ i2 := by omega
            have HI0 := Lib.hid hi0
            clear hi0 hav
            go_wp2_with fail
            refine (bits_none (wL.alloc (.cells #[.int .u64 0, .int .u64 0, .int .u64 0] 48)) (s.adv i1 i2 i3) HZ.out.1.p HI0.out (HN.out.2.1.chg HZ.out.1.ch HN.out.2.2.1)).mono ?_
            rintro e w3 ⟨rfl, hb3⟩
            have H3 := Lib.hid (And.intro (HZ.out.1.new hb3) (HZ.out.2.1.below hb3))
            obtain ⟨mz, hmz⟩ : ∃ x, wL.heap.size = x := ⟨_, rfl⟩
            rw [hmz] at H3 hz4 hz7 ⊢
            have H5 := Lib.hid (And.intro (H3.out.1.far (mz := mz) (by have := HN.out.2.2.2; omega) (by omega) (by omega) (fun q hq e => by have := HZ.out.2.2 q hq; omega) (fun ad e hn => by have := HL.out.lt1 ad e hn; omega) (fun ad e hn => by have := HL.out.lt2 ad e hn; omega) (fun ad e hn => by have := HL.out.lt3 ad e hn; omega) (fun ad e hn => by have := HL.out.lt4 ad e hn; omega) ((((Chg.refl (fun q => q = mz) w3).set (p := ⟨mz, 0, none⟩) (.inr rfl) (.int .u64 0)).set (p := ⟨mz, 1, none⟩) (.inr rfl) (.int .u64 0)).set (p := ⟨mz, 2, none⟩) (.inr rfl) (.int .u64 0))) (((H3.out.2.set 0 (.int .u64 0)).set 1 (.int .u64 0)).set 2 (.int .u64 0)))
            obtain ⟨T0, v0, hT⟩ := chain_iface [(⟨#[98, 105, 116, 115]⟩, 0)] 80
            have hfi := fun wx => fis_chain [(⟨#[98, 105, 116, 115]⟩, 0)] 80 80 wx
            rw [hT] at hfi ⊢
            have HFi := Lib.hid hfi
            clear hb3 d0 d1 d2 a0 a1 a2 hT hfi
            have z0 := H3.out.2.cell 0 rfl
            have z1 := H3.out.2.cell 1 rfl
            have z2 := H3.out.2.cell 2 rfl
            have zf := H3.out.2.frozen
            have a0 := H5.out.1.a.cell 1 rfl
            have d0 := H5.out.1.b.cell 1 rfl
            have x0 := H5.out.2.cell 0 rfl
            have x1' := H5.out.2.cell 1 rfl
            have x2' := H5.out.2.cell 2 rfl
            go_wp2_with fail
            refine (HFi.out _).mono ?_
            rintro e w6 ⟨rfl, hb6⟩
            have H6 := Lib.hid (H5.out.1.new hb6)
            clear hb6
            go_wp2
            go_roundw
            case rel => exact ⟨t + 1, by have := HT.out; omega, by go_num, i1, i2, i3, by have := HB.out; omega, by have := HB.out; omega, by have := HB.out; omega, H6.out⟩
            case measure => simp [intOf]; have := HT.out; omega
        · go_wp2_with fail
          refine HLeft.out.mono ?_
          rintro e wL0 ⟨rfl, qL, rfl⟩
          have HL := Lib.hid (HJ.out.new (Below.drewN _ qL))
          generalize wc.drewN qL = wL at *
          clear HLeft HJ d0 d1 d2 a0 a1 a2
          have d0 := HL.out.b.cell 0 rfl
          have d1 := HL.out.b.cell 1 rfl
          have d2 := HL.out.b.cell 2 rfl
          have a0 := HL.out.a.cell 0 rfl
          have a1 := HL.out.a.cell 1 rfl
          have a2 := HL.out.a.cell 2 rfl
          by_cases hav : i3 < s.n3
          · have ge : ¬ (s.n3 : Int) ≤ (i3 : Int) := by omega
            have geb : decide ((s.n3 : Int) ≤ (i3 : Int)) = false := decide_eq_false ge
            have gen : decide (s.n3 ≤ i3) = false := decide_eq_false (by omega)
            have li : (i3 : Int) < (s.n3 : Int) := by omega
            have l0 : (0 : Int) ≤ (i3 : Int) := by omega
            have ei : IntKind.i64.wrap ((i3 : Int) + 1) = (i3 : Int) + 1 := i64_nat _ (by omega) (by have := HN.out.1; omega)
            go_wp2_with fail
            refine (ot_some wL s i1 i2 i3 HL.out.p hav).mono ?_
            rintro e w3 ⟨rfl, hS, hc⟩
            have hba : Below w3.heap.size w3 (w3.alloc (.cells #[.int .u64 (s.y3 i3 0), .int .u64 (s.y3 i3 1), .int .u64 (s.y3 i3 2), .int .u64 (s.y3 i3 3), .bool (s.c3 i3)] 55)) := (Below.refl _ w3).alloc (Nat.le_refl _) _
            have H5 := Lib.hid (And.intro ((HL.out.take HF.out hS hc).new hba) (Blk.new w3 55 #[.int .u64 (s.y3 i3 0), .int .u64 (s.y3 i3 1), .int .u64 (s.y3 i3 2), .int .u64 (s.y3 i3 3), .bool (s.c3 i3)]))
            clear hS hc hba d0 d1 d2 a0 a1 a2
            have a0 := H5.out.1.a.cell 2 rfl
            have d0 := H5.out.1.b.cell 2 rfl
            go_wp2
            generalize (w3.alloc (.cells #[.int .u64 (s.y3 i3 0), .int .u64 (s.y3 i3 1), .int .u64 (s.y3 i3 2), .int .u64 (s.y3 i3 3), .bool (s.c3 i3)] 55)) = w5 at *
            obtain ⟨ad, hB, g0, g1, g2, g3, g4⟩ := H5.out.1.t3 i3 hav
            subst hB
            have x0 := H5.out.2.cell 0 rfl
            have x1' := H5.out.2.cell 1 rfl
            have x2' := H5.out.2.cell 2 rfl
            have x3' := H5.out.2.cell 3 rfl
            have x4' := H5.out.2.cell 4 rfl
            obtain ⟨ae, hae⟩ : ∃ ae, ad.add (i3 * 5) = ae := ⟨_, rfl⟩
            have k1 := elem_cells g0 (by omega) g1
            have k2 := elem_cells g0 (by omega) g2
            have k3 := elem_cells g0 (by omega) g3
            have k4 := elem_cells g0 (by omega) g4
            rw [hae] at k1 k2 k3 k4
            have c0 := k1.1
            have c1 := k1.2
            have c2 := k2.2
            have c3 := k3.2
            have c4 := k4.2
            have feq := fun wx a b c d => eql_labs_same wx a b c d
            clear g0 g1 g2 g3 g4 k1 k2 k3 k4
            go_quiet (fail)
            have af := H5.out.1.a.frozen 2
            go_wp2
            go_roundw
            case rel => exact ⟨t + 1, by have := HT.out; omega, by go_num, i1, i2, i3 + 1, by have := HB.out; omega, by have := HB.out; omega, by have := HB.out; omega, (H5.out.1.new (Below.drewN _ _)).setA HF.out ((Chg.refl (fun q => q = m7) _).set (p := ⟨m7, 2, none⟩) (.inr rfl) _) ((H5.out.1.new (Below.drewN _ _)).a.set 2 _)⟩
            case measure => simp [intOf]; have := HT.out; omega
          · have hi0 : s.n3 - i3 = 0 := by have := HB.out.2.2; omega
            have ge : (s.n3 : Int) ≤ (i3 : Int) := by omega
            have gen : s.n3 ≤ i3 := by omega
            have HI0 := Lib.hid hi0
            clear hi0 hav
            go_wp2_with fail
            refine (ot_none wL (s.adv i1 i2 i3) HL.out.p HI0.out (HN.out.2.1.chg HL.out.ch HN.out.2.2.1)).mono ?_
            rintro e w3 ⟨rfl, hb3⟩
            have hba : Below w3.heap.size w3 (w3.alloc (.cells #[.int .u64 0, .int .u64 0, .int .u64 0, .int .u64 0, .bool false] 55)) := (Below.refl _ w3).alloc (Nat.le_refl _) _
            have H5 := Lib.hid (And.intro ((HL.out.new hb3).new hba) (Blk.new w3 55 #[.int .u64 0, .int .u64 0, .int .u64 0, .int .u64 0, .bool false]))
            obtain ⟨T0, v0, hT⟩ := chain_iface [(⟨#[111, 116, 115]⟩, 0)] 80
            have hfi := fun wx => fis_chain [(⟨#[111, 116, 115]⟩, 0)] 80 80 wx
            rw [hT] at hfi ⊢
            have HFi := Lib.hid hfi
            clear hb3 hba d0 d1 d2 a0 a1 a2 hT hfi
            have a0 := H5.out.1.a.cell 2 rfl
            have d0 := H5.out.1.b.cell 2 rfl
            have x0 := H5.out.2.cell 0 rfl
            have x1' := H5.out.2.cell 1 rfl
            have x2' := H5.out.2.cell 2 rfl
            have x3' := H5.out.2.cell 3 rfl
            have x4' := H5.out.2.cell 4 rfl
            have feq := fun wx a b c d => eql_labs_same wx a b c d
            go_wp2_with fail
            refine (HFi.out _).mono ?_
            rintro e w6 ⟨rfl, hb6⟩
            have H6 := Lib.hid (H5.out.1.new hb6)
            clear hb6
            go_wp2
            go_roundw
            case rel => exact ⟨t + 1, by have := HT.out; omega, by go_num, i1, i2, i3, by have := HB.out; omega, by have := HB.out; omega, by have := HB.out; omega, H6.out⟩
            case measure => simp [intOf]; have := HT.out; omega
    · obtain rfl : t = M + s.n1 + s.n2 + s.n3 + 3 := by omega
      have lt1 : ¬ ((M + s.n1 + s.n2 + s.n3 + 3 : Nat) : Int) < (M : Int) + (s.n1 : Int) + (s.n2 : Int) + (s.n3 : Int) + 3 := by omega
      go_wp2
      go_ret
      exact ⟨rfl, HJ.out.ch⟩
end Go.Proofs.YtgmlmngnedhllaaDoor
