/- LinkOwn's walk. -/
import Derived.Test.YteadpnododjeaaaDoorLX4a
namespace Go.Proofs.YteadpnododjeaaaDoor
open Go.RowKit

/-- LinkOwn, behind Send: the payload waits; the law's own bytes in the block g. -/
structure Ow (w0 w : World) (s : En) (x : Fr) (m : Nat) (f : Nat → Nat) (N : Nat) (t : En) : Prop where
  duo : Duo w0 w s t N
  ps : s.p = w0.heap.size
  q : s.Q = [x]
  c : s.C = []
  num : s.num = 0
  o : s.O = []
  len : x.len = m
  dat : x.dat = f
theorem own_bytes (m : Nat) (f : Nat → Nat) (hf : ∀ i, f i < 256) (i : Nat) : (fun i => if i < m then f i else 7) i < 256 := by
  show (if i < m then f i else 7) < 256
  split
  · exact hf i
  · omega
set_option maxHeartbeats 8000000 in
set_option maxRecDepth 100000 in
theorem own_walk (A : Option Addr) (n c : Nat) (f : Nat → Nat) (w : World) (hL : Laid w) (hA : AtBO w A n f) (hf : ∀ i, f i < 256) (h0 : A = none → n = 0 ∧ c = 0) (hc : n ≤ c) :
    Calls Tryd.prog 8 #[.slice A n c] w fun e w' => e = .returned (.bool true) ∧ Below w.heap.size w w' := by
  obtain ⟨m, hm⟩ : ∃ m, m = min n 1000 := ⟨_, rfl⟩
  have m1 : (if (1000 : Int) < (n : Int) then (1000 : Int) else (n : Int)) = (m : Int) := by split <;> omega
  have m2 : (if 1000 < n then (1000 : Int) else (n : Int)) = (m : Int) := by split <;> omega
  have m3 : (if (n : Int) < 1000 then (n : Int) else 1000) = (m : Int) := by split <;> omega
  have m4 : (if n < 1000 then (n : Int) else 1000) = (m : Int) := by split <;> omega
  have hsl : ∀ wx, (Instr.slice 23 (.slice A n c) none (some (.int .i64 (m : Int))) none).run Tryd.prog wx = .ok (.slice A m c) wx := fun wx => run_headB wx A n c m (by omega)
  have HA := Lib.hid (show Laid w ∧ AtBO w A m f ∧ (∀ i, f i < 256) ∧ (A = none → m = 0 ∧ c = 0) ∧ m ≤ 1000 from ⟨hL, fun i hi => hA i (by omega), hf, fun h => ⟨by have := (h0 h).1; omega, (h0 h).2⟩, by omega⟩)
  clear hL hA hf h0 hc hm
  go_enter Tryd.func8, Tryd.ntmps8
  go_wp2_with fail
  refine (new_any w).mono ?_
  rintro e w1 ⟨rfl, rfl⟩
  go_wp2_with fail
  refine (new_any _).mono ?_
  rintro e w2 ⟨rfl, hw2⟩
  have e1 : (w.alloc (.cells (En.new w.heap.size).row 76)).heap.size = w.heap.size + 1 := by simp
  rw [e1] at hw2 ⊢
  have H2 := Lib.hid (show Duo w w2 (En.new w.heap.size) (En.new (w.heap.size + 1)) 0 by rw [hw2]; exact duo_new HA.out.1)
  clear hw2 e1
  go_wp2_with fail
  refine (awake_any w2 H2.out.laid).mono ?_
  rintro e w3 ⟨rfl, hb3⟩
  have H3 := Lib.hid (H2.out.below hb3)
  clear H2 hb3
  obtain ⟨hL, hA, hf, h0, hm⟩ := HA.out
  obtain ⟨g4, k4, w4, hr4, ho4, hb4⟩ := copyB w3 A m c f (hA.below H3.out.blw) h0 (by omega)
  obtain ⟨g5, k5, w5, hr5, ho5, hb5⟩ := push 7 ho4 (by omega) hb4.size (fun i => if i < m then f i else 7) (fun i hi => if_pos hi) (if_neg (by omega))
  have hb35 : Below w3.heap.size w3 w5 := hb4.trans hb5
  have HQ4 := Lib.hid hr4
  have HQ5 := Lib.hid hr5
  have H5 := Lib.hid (show Duo w w5 (En.new w.heap.size) (En.new (w.heap.size + 1)) 0 ∧ OR w5 w3.heap.size (sl8 g5 (m + 1) k5) (m + 1) (fun i => if i < m then f i else 7) from ⟨H3.out.below hb35, ho5⟩)
  have hsl2 : ∀ wx, (Instr.slice 23 (sl8 g5 (m + 1) k5) none (some (.int .i64 (m : Int))) none).run Tryd.prog wx = .ok (sl8 g5 m k5) wx := fun wx => run_headB wx (some ⟨g5, 0, none⟩) (m + 1) k5 m (by have := ho5.lt.2.2.1; omega)
  have HS3 := Lib.hid (show w.heap.size ≤ w3.heap.size from H3.out.size)
  clear hL hA hf h0 hm hr4 ho4 hb4 hr5 ho5 hb5 hb35 H3
  go_wp2_with (at_builtin; first | refine wpList_append_run rfl _ _ 23 rfl (sl8 w3.heap.size 0 0) (.slice A m c) (sl8 g4 m k4) w4 rfl rfl HQ4.out ?_ | refine wpList_append_run rfl _ _ 23 rfl (sl8 g4 m k4) (.slice (some ⟨w4.heap.size, 0, none⟩) 1 1) (sl8 g5 (m + 1) k5) w5 rfl rfl HQ5.out ?_)
  clear HQ4 HQ5 m1 m2 m3 m4
  obtain ⟨hD, ho⟩ := H5.out
  obtain ⟨hL, hA, hf, h0, hm⟩ := HA.out
  have hAt := ho.lt.2.2.2.2
  refine (send_ok w.heap.size (En.new w.heap.size) (some ⟨g5, 0, none⟩) m k5 f w5 hD.l rfl (by show 0 < 64; omega) (fun i hi => ⟨_, rfl, by rw [hAt i (by omega)]; show some (Value.int .u8 ((if i < m then f i else 7 : Nat) : Int)) = _; rw [if_pos hi]⟩) hf (by omega) hD.size).mono ?_
  rintro e w6 ⟨rfl, v6, g6, hG, hg6⟩
  have ho6 : Lies w6 w3.heap.size ⟨g5, m + 1, k5, fun i => if i < m then f i else 7⟩ := hD.l.lies hG.kept (Lies.mk (x := ⟨g5, m + 1, k5, fun i => if i < m then f i else 7⟩) ho (own_bytes m f hf) (by show m + 1 ≤ _; omega))
  have H6 := Lib.hid (show Ow w w6 { En.new w.heap.size with qv := v6, Q := (En.new w.heap.size).Q ++ [⟨g6, m, m, f⟩] } ⟨g6, m, m, f⟩ m f 0 (En.new (w.heap.size + 1)) ∧ g5 < g6 ∧ Lies w6 w3.heap.size ⟨g5, m + 1, k5, fun i => if i < m then f i else 7⟩ from
    ⟨⟨hD.left hG ((Fine.new _).added _ _ (by show m ≤ _; omega)) (Nat.le_refl _), rfl, rfl, rfl, rfl, rfl, rfl, rfl⟩, Nat.lt_of_lt_of_le ho.lt.2.1 hg6, ho6⟩)
  obtain ⟨s6, hs6⟩ : ∃ s : En, s = { En.new w.heap.size with qv := v6, Q := (En.new w.heap.size).Q ++ [⟨g6, m, m, f⟩] } := ⟨_, rfl⟩
  rw [← hs6] at H6
  have HS6 := Lib.hid (show s6.sent = 0 ∧ s6.ago = 0 by rw [hs6]; exact ⟨rfl, rfl⟩)
  have c7 : w6.cell? ⟨g5, m, none⟩ = some (.int .u8 7) := by
    have := ho6.atB.cell m (by show m < m + 1; omega)
    rw [Nat.zero_add] at this
    rw [this]
    show some (Value.int .u8 ((if m < m then f m else 7 : Nat) : Int)) = _
    rw [if_neg (Nat.lt_irrefl m)]; rfl
  have hk77 : (m : Int) < (m : Int) + 1 := by omega
  have hcv : ∀ q, (convert 23 9 (sl8 g5 m k5)).run Tryd.prog (w6.drewN q) = .ok (.string (strB m f)) (w6.drewN q) := fun q => conv_B (w6.drewN q) ⟨g5, 0, none⟩ m k5 f (fun i hi => by
    have := (ho6.heap (w' := w6.drewN q) rfl).atB i (by show i < m + 1; omega)
    rw [this]
    show some (Value.int .u8 ((if i < m then f i else 7 : Nat) : Int)) = _
    rw [if_pos hi]) hf
  have hcv2 : ∀ q, (convert 23 9 (.slice A m c)).run Tryd.prog (w6.drewN q) = .ok (.string (strB m f)) (w6.drewN q) := fun q => conv_BO (w6.drewN q) A m c f (hA.below (H6.out.1.duo.blw.trans (drew_below _ _ _))) hf h0
  clear hL hA hf h0 hm hD ho hAt hG hg6 ho6 H5 hs6
  generalize strB m f = tf at hcv hcv2
  go_wp2
  go_quiet (fail)
  clear hcv hcv2 c7 hk77
  go_wp2
  have H7 := Lib.hid (show Ow w (w6.drewN nq) s6 ⟨g6, m, m, f⟩ m f 0 (En.new (w.heap.size + 1)) ∧ g5 < g6 ∧ Room (w6.drewN nq) 5 g5 (m + 1) ∧ w.heap.size ≤ g5 from
    ⟨⟨H6.out.1.duo.below (drew_below _ _ _), H6.out.1.ps, H6.out.1.q, H6.out.1.c, H6.out.1.num, H6.out.1.o, H6.out.1.len, H6.out.1.dat⟩, H6.out.2.1, (OR.room H6.out.2.2.own).block rfl, Nat.le_trans HS3.out H6.out.2.2.lo⟩)
  generalize w6.drewN nq = w7 at H7 ⊢
  clear H6
  go_loopw [60] (fun q wr => ∃ j : Nat, q = .int .i64 j ∧ Hid (True ∧ j ≤ m + 1) ∧ Hid (Room wr 5 g5 (m + 1) ∧ Keep g5 w7 wr)) (fun q _ => m + 1 - (intOf q).toNat)
  case atStart => exact ⟨0, rfl, ⟨trivial, Nat.zero_le _⟩, H7.out.2.2.1, Keep.refl _ _⟩
  case round =>
    obtain ⟨j, rfl, HJ, HK⟩ := hrel
    by_cases hlt : j < m + 1
    · obtain ⟨x, cx⟩ := HK.out.1.cell j hlt
      have fx := HK.out.1.frozen j
      have hlt1 : (j : Int) < (m : Int) + 1 := by omega
      have e1 : IntKind.i64.wrap ((j : Int) + 1) = (j : Int) + 1 := by have := HA.out.2.2.2.2; exact i64_nat _ (by omega) (by omega)
      have HLt := Lib.hid (And.intro trivial hlt)
      clear hlt
      go_wp2
      go_roundw
      case rel => exact ⟨j + 1, rfl, ⟨trivial, HLt.out.2⟩, HK.out.1.set _ _, HK.out.2.set rfl _⟩
      case measure => have := HLt.out.2; simp [intOf]; omega
    · have hlt1 : decide ((j : Int) < (m : Int) + 1) = false := decide_eq_false (by omega)
      have hlt2 : decide (j < m + 1) = false := decide_eq_false hlt
      have hlt3 : ¬ (j : Int) < (m : Int) + 1 := by omega
      obtain ⟨w8, hw8⟩ : ∃ z, z = wr := ⟨_, rfl⟩
      subst hw8
      have hO := H7.out.1
      have H8 := Lib.hid (show Ow w w8 s6 ⟨g6, m, m, f⟩ m f 0 (En.new (w.heap.size + 1)) from
        ⟨hO.duo.keep HK.out.2 ⟨_, H7.out.2.2.1.choose_spec.1, Nat.zero_le _⟩ H7.out.2.2.2 (fun x hx => by rw [hO.q] at hx; obtain rfl := List.mem_singleton.1 hx; have := H7.out.2.1; show g6 ≠ g5; omega) (fun x hx => by rw [hO.c] at hx; cases hx) (fun x hx => by cases hx) (fun x hx => by cases hx), hO.ps, hO.q, hO.c, hO.num, hO.o, hO.len, hO.dat⟩)
      clear H7 hO HK HJ hlt
      go_wp2_with fail
      have hO := H8.out
      rw [← hO.ps]
      refine (step_send (L := []) hO.duo.l hO.duo.laid hO.duo.fl (by omega) hO.duo.two2 (not_idle hO.q (.inl HS6.out.1)) (by have := HS6.out.1; omega) hO.q).mono ?_
      rintro e w9 ⟨A9, c9, rfl, hG, hOu⟩
      rw [hO.ps]
      rw [hO.o] at hOu ⊢
      rw [hO.num] at hOu
      have hOu2 : Outs w9 w8.heap.size (.slice A9 (([] : List Nat).length + 1) c9) [(m + 9, Link.sealB 0 0 m f)] := hOu
      obtain ⟨y, gy, oy, cy, hy1, hy2, hy3, hy4, hy5⟩ := hOu2.get (i := 0) rfl
      injection hy4 with hy4 _ hy6
      subst hy4 hy6
      rw [Nat.add_zero] at hy5
      have hD9 := hO.duo.left hG (hO.duo.fl.sends (by rw [hO.q]; simp)) (by omega)
      have hx8 : g6 < w8.heap.size := (hO.duo.l.fq ⟨g6, m, m, f⟩ (by rw [hO.q]; exact List.mem_singleton.2 rfl)).inside
      obtain ⟨g10, k10, w10, hr10, ho10, hb10⟩ := copyB w9 (some ⟨y.blk, 0, none⟩) y.len y.cap y.dat hy3.atBO (fun h => by cases h) (by rw [hy1]; have := HA.out.2.2.2.2; omega)
      have HQ10 := Lib.hid hr10
      have hO9 : Ow w w9 s6.sends ⟨g6, m, m, f⟩ m f 1 (En.new (w.heap.size + 1)) := ⟨hD9, hO.ps, hO.q, hO.c, hO.num, rfl, rfl, rfl⟩
      have hy5' : w10.cell? ⟨gy, oy, none⟩ = some (frV y) := (hb10.cell (p := ⟨gy, oy, none⟩) (World.block_lt_of_cell? _ _ hy5)).trans hy5
      have hfree : Free (.slice (some ⟨gy, oy, none⟩) (([] : List Nat).length + 1) c9) (En.new (w.heap.size + 1)) := Free.old hOu2 hO.duo.r
      have H10 := Lib.hid (show Ow w w10 s6.sends ⟨g6, m, m, f⟩ m f 1 (En.new (w.heap.size + 1)) ∧ Lies w10 w8.heap.size y ∧ y.len = m + 9 ∧ y.dat = Link.sealB 0 0 m f ∧ Outs w10 w8.heap.size (.slice (some ⟨gy, oy, none⟩) (([] : List Nat).length + 1) c9) [(m + 9, Link.sealB 0 0 m f)] ∧ g6 < y.blk ∧ y.blk < w9.heap.size ∧ Lies w10 w9.heap.size ⟨g10, y.len, k10, y.dat⟩ ∧ w9.heap.size ≤ w10.heap.size ∧ w10.cell? ⟨gy, oy, none⟩ = some (frV y) ∧ Free (.slice (some ⟨gy, oy, none⟩) (([] : List Nat).length + 1) c9) (En.new (w.heap.size + 1)) from
        ⟨⟨hD9.below hb10, hO.ps, hO.q, hO.c, hO.num, rfl, rfl, rfl⟩, hy3.below hb10, hy1, hy2, hOu2.below hb10, Nat.lt_of_lt_of_le hx8 hy3.lo, hy3.inside, ⟨ho10, hy3.lt, hy3.small⟩, hb10.size, hy5', hfree⟩)
      have hy5a : (w9.alloc (.cells #[] 5)).cell? ⟨gy, oy, none⟩ = some (frV y) := (World.cell?_alloc_lt _ _ ⟨gy, oy, none⟩ (World.block_lt_of_cell? _ _ hy5)).trans hy5
      unfold frV at hy5 hy5' hy5a
      clear hO hG hOu hOu2 hD9 hx8 hr10 ho10 hb10 hO9 hfree H8 hy1 hy2 hy3
      go_wp2_with (at_builtin; refine wpList_append_run rfl _ _ 23 rfl (sl8 w9.heap.size 0 0) (.slice (some ⟨y.blk, 0, none⟩) y.len y.cap) (sl8 g10 y.len k10) w10 rfl rfl HQ10.out ?_)
      clear HQ10 hy5 hy5a
      obtain ⟨hO, hy3, hy1, hy2, hOu, hgy, hyl, hcp, hs910, hyc, hfree⟩ := H10.out
      have hF0 : Link.isF y.dat y.len := by rw [hy1, hy2]; exact Link.isF_seal 0 0 m _ (by omega) (fun h => by omega) HA.out.2.2.1
      have h00 : y.dat 0 = 0 := by rw [hy2]; rfl
      have hn0 : Link.num y.dat = 0 := by rw [hy2]; exact Link.num_seal 0 0 m _ (by omega)
      have hpt : (En.new (w.heap.size + 1)).p = w.heap.size + 1 := rfl
      rw [← hpt]
      refine (hear_new w.heap.size (En.new (w.heap.size + 1)) _ y.len y.cap y.dat w10 hO.duo.r hO.duo.laid.1 hy3.atBO hy3.lt hy3.own.lt.2.2.1 (by rw [hy1]; have := HA.out.2.2.2.2; omega) hF0 h00 (by rw [hn0]; rfl) (by show 0 ≤ _; omega) (by show 0 ≤ _; omega) (by show 0 + 1 < _; omega) hO.duo.size).mono ?_
      rintro e w11 ⟨rfl, v11, u11, gz, hG, hgz⟩
      rw [hpt]
      have hF11 : Fine ((En.new (w.heap.size + 1)).data v11 u11 ⟨gz, y.len - 9, y.len - 9, fun j => y.dat (j + 5)⟩ (Link.num y.dat)) 2 := by rw [hn0]; exact hO.duo.fr.data _ _ _
      obtain ⟨t11, ht11⟩ : ∃ t : En, t = (En.new (w.heap.size + 1)).data v11 u11 ⟨gz, y.len - 9, y.len - 9, fun j => y.dat (j + 5)⟩ (Link.num y.dat) := ⟨_, rfl⟩
      have hD11 := hO.duo.right hG hF11 (by omega)
      rw [← ht11] at hD11
      have hbl := hOu.blk (b := gy) rfl
      have hc11 : w11.cell? ⟨gy, oy, none⟩ = some (frV y) := (World.cell?_of_block (a := ⟨gy, oy, none⟩) (hG.kept.block gy hbl.2 (hfree gy rfl))).trans hyc
      obtain ⟨F, hWay, _, _⟩ := hOu.keep hO.duo.r hG.kept hfree
      obtain ⟨_, curg, hcurg⟩ := hWay.block (b := gy) rfl
      have hy11 : Lies w11 w8.heap.size y := hO.duo.r.lies hG.kept hy3
      obtain ⟨cury, hcury⟩ := hy11.block
      have hgyne : gy ≠ y.blk := heap_ne hcurg hcury (by decide)
      have H11 := Lib.hid (show Ow w w11 s6.sends ⟨g6, m, m, f⟩ m f 2 t11 ∧ Room w11 5 y.blk y.len ∧ Lies w11 w9.heap.size ⟨g10, y.len, k10, y.dat⟩ ∧ w11.cell? ⟨gy, oy, none⟩ = some (frV y) ∧ gy ≠ y.blk ∧ gy < w11.heap.size ∧ g6 < y.blk ∧ y.blk < w9.heap.size ∧ w9.heap.size ≤ gz ∧ y.len = m + 9 ∧ y.dat = Link.sealB 0 0 m f ∧ t11.p = w.heap.size + 1 ∧ t11.C = [⟨gz, y.len - 9, y.len - 9, fun j => y.dat (j + 5)⟩] ∧ t11.Q = [] ∧ w.heap.size ≤ y.blk from by
        refine ⟨⟨hD11, hO.ps, hO.q, hO.c, hO.num, hO.o, rfl, rfl⟩, OR.room hy11.own, hO.duo.r.lies hG.kept hcp, hc11, hgyne, Nat.lt_of_lt_of_le hbl.2 hG.kept.size, hgy, hyl, Nat.le_trans hs910 hgz, hy1, hy2, by rw [ht11]; rfl, by rw [ht11]; rfl, by rw [ht11]; rfl, ?_⟩
        have h1 := hy3.lo
        have h2 := hO.duo.l.fq ⟨g6, m, m, f⟩ (by show _ ∈ s6.Q; rw [show s6.Q = _ from hO.q]; exact List.mem_singleton.2 rfl)
        have h3 := h2.lo
        exact Nat.le_of_lt (Nat.lt_of_le_of_lt h3 hgy))
      have hcy : w11.cell? ⟨gy, oy, none⟩ = some (.slice (some ⟨y.blk, 0, none⟩) y.len y.cap) := hc11
      clear hO hy3 hy1 hy2 hOu hgy hyl hcp hs910 hyc hfree hF0 h00 hn0 hpt hG hgz hF11 ht11 hD11 hbl hc11 hWay hcurg hy11 hcury hgyne H10 hy5'
      go_wp2
      go_loopw [86] (fun q wr => ∃ j : Nat, q = .int .i64 j ∧ Hid (True ∧ j ≤ y.len) ∧ Hid (Room wr 5 y.blk y.len ∧ Keep y.blk w11 wr)) (fun q _ => y.len - (intOf q).toNat)
      case atStart => exact ⟨0, rfl, ⟨trivial, Nat.zero_le _⟩, H11.out.2.1, Keep.refl _ _⟩
      case round =>
        obtain ⟨j, rfl, HJ, HK⟩ := hrel
        have hcyr : wr.cell? ⟨gy, oy, none⟩ = some (.slice (some ⟨y.blk, 0, none⟩) y.len y.cap) := (World.cell?_of_block (a := ⟨gy, oy, none⟩) (HK.out.2.block gy H11.out.2.2.2.2.2.1 H11.out.2.2.2.2.1)).trans hcy
        by_cases hlt : j < y.len
        · obtain ⟨x, cx⟩ := HK.out.1.cell j hlt
          have fx := HK.out.1.frozen j
          have hlt1 : (j : Int) < (y.len : Int) := by omega
          have e1 : IntKind.i64.wrap ((j : Int) + 1) = (j : Int) + 1 := by have := HA.out.2.2.2.2; have := H11.out.2.2.2.2.2.2.2.2.2.1; exact i64_nat _ (by omega) (by omega)
          have HLt := Lib.hid (And.intro trivial hlt)
          clear hlt
          go_wp2
          go_roundw
          case rel => exact ⟨j + 1, by go_num, ⟨trivial, HLt.out.2⟩, HK.out.1.set _ _, HK.out.2.set rfl _⟩
          case measure => have := HLt.out.2; simp [intOf]; omega
        · have hlt1 : decide ((j : Int) < (y.len : Int)) = false := decide_eq_false (by omega)
          have hlt2 : decide (j < y.len) = false := decide_eq_false hlt
          have hlt3 : ¬ (j : Int) < (y.len : Int) := by omega
          obtain ⟨w12, hw12⟩ : ∃ z, z = wr := ⟨_, rfl⟩
          subst hw12
          obtain ⟨hO, hroom, hcp, _, _, _, hgy, hyl, hgz, hy1, hy2, htp, htC, htQ, hyb⟩ := H11.out
          have hO12 : Ow w w12 s6.sends ⟨g6, m, m, f⟩ m f 2 t11 :=
            ⟨hO.duo.keep HK.out.2 ⟨_, hroom.choose_spec.1, Nat.zero_le _⟩ hyb (fun x hx => by rw [hO.q] at hx; obtain rfl := List.mem_singleton.1 hx; show g6 ≠ y.blk; omega) (fun x hx => by rw [hO.c] at hx; cases hx) (fun x hx => by rw [htQ] at hx; cases hx) (fun x hx => by rw [htC] at hx; obtain rfl := List.mem_singleton.1 hx; show gz ≠ y.blk; omega), hO.ps, hO.q, hO.c, hO.num, hO.o, rfl, rfl⟩
          have H12 := Lib.hid (show Ow w w12 s6.sends ⟨g6, m, m, f⟩ m f 2 t11 ∧ Lies w12 w9.heap.size ⟨g10, y.len, k10, y.dat⟩ from ⟨hO12, HK.out.2.lies hcp (by have := hcp.lo; show g10 ≠ y.blk; have h : w9.heap.size ≤ g10 := this; omega)⟩)
          have HT := Lib.hid (And.intro hy1 (And.intro hy2 (And.intro htp htC)))
          clear hO hroom hcp hgy hyl hgz hy1 hy2 htp htC htQ hyb hO12 H11 HK HJ hlt hcy hcyr
          go_wp2
          clear hlt1 hlt2 hlt3
          go_loopw [10] (fun q wr => ∃ j : Nat, q = .int .i64 j ∧ Hid (True ∧ j ≤ 3) ∧ Hid (∃ s, Ow w wr s ⟨g6, m, m, f⟩ m f (2 + j) t11 ∧ s.sent = 1 ∧ s.ago = j ∧ Lies wr w9.heap.size ⟨g10, y.len, k10, y.dat⟩)) (fun q _ => 3 - (intOf q).toNat)
          case atStart => exact ⟨0, rfl, ⟨trivial, Nat.zero_le _⟩, s6.sends, H12.out.1, by show s6.sent + 1 = 1; rw [HS6.out.1], rfl, H12.out.2⟩
          case round =>
            clear H12
            obtain ⟨j, rfl, HJ, HK⟩ := hrel
            obtain ⟨s, HK⟩ : ∃ s, Hid (Ow w wr s ⟨g6, m, m, f⟩ m f (2 + j) t11 ∧ s.sent = 1 ∧ s.ago = j ∧ Lies wr w9.heap.size ⟨g10, y.len, k10, y.dat⟩) := let ⟨s, h⟩ := HK.out; ⟨s, Lib.hid h⟩
            by_cases hlt : j < 3
            · have hlt1 : (j : Int) < 3 := by omega
              have e1 : IntKind.i64.wrap ((j : Int) + 1) = (j : Int) + 1 := i64_nat _ (by omega) (by omega)
              have HLt := Lib.hid (And.intro trivial hlt)
              clear hlt
              go_wp2_with fail
              obtain ⟨hO, hsn, hag, hcp⟩ := HK.out
              rw [← hO.ps]
              refine (step_idle hO.duo.l hO.duo.laid hO.duo.fl (by have := HLt.out.2; omega) hO.duo.two2 (.inr ⟨by omega, by have := HLt.out.2; omega⟩)).mono ?_
              rintro e w13 ⟨A13, c13, rfl, hG, _⟩
              rw [hO.ps]
              have HN := Lib.hid (show ∃ s, Ow w w13 s ⟨g6, m, m, f⟩ m f (2 + (j + 1)) t11 ∧ s.sent = 1 ∧ s.ago = j + 1 ∧ Lies w13 w9.heap.size ⟨g10, y.len, k10, y.dat⟩ from
                ⟨s.quietStep, ⟨hO.duo.left hG hO.duo.fl.quiet (by omega), hO.ps, hO.q, hO.c, hO.num, rfl, rfl, rfl⟩, hsn, by show s.ago + 1 = _; rw [hag], hO.duo.l.lies hG.kept hcp⟩)
              clear hO hsn hag hcp hG HK HJ
              go_wp2
              go_roundw
              case rel => exact ⟨j + 1, by go_num, ⟨trivial, HLt.out.2⟩, HN⟩
              case measure => have := HLt.out.2; simp [intOf]; omega
            · obtain rfl : j = 3 := by have := HJ.out.2; omega
              clear hlt
              go_wp2_with fail
              obtain ⟨hO, hsn, hag, hcp⟩ := HK.out
              rw [← hO.ps]
              refine (step_send (L := []) hO.duo.l hO.duo.laid hO.duo.fl (by omega) hO.duo.two2 (not_idle hO.q (.inr (by omega))) (by omega) hO.q).mono ?_
              rintro e w13 ⟨A13, c13, rfl, hG, hOu⟩
              rw [hO.ps]
              rw [hO.o] at hOu ⊢
              rw [hO.num] at hOu
              have hOu2 : Outs w13 wr.heap.size (.slice A13 (([] : List Nat).length + 1) c13) [(m + 9, Link.sealB 0 0 m f)] := hOu
              have H13 := Lib.hid (show Duo w w13 s.sends t11 6 ∧ Outs w13 wr.heap.size (.slice A13 (([] : List Nat).length + 1) c13) [(m + 9, Link.sealB 0 0 m f)] ∧ Free (.slice A13 (([] : List Nat).length + 1) c13) t11 ∧ Lies w13 w9.heap.size ⟨g10, y.len, k10, y.dat⟩ from
                ⟨hO.duo.left hG (hO.duo.fl.sends (by rw [hO.q]; simp)) (by omega), hOu2, Free.old hOu2 hO.duo.r, hO.duo.l.lies hG.kept hcp⟩)
              clear hO hsn hag hcp hG hOu hOu2 HK HJ
              go_wp2_with fail
              obtain ⟨hy1, hy2, htp, htC⟩ := HT.out
              obtain ⟨hD, hOu, hfr, hcp⟩ := H13.out
              rw [← htp]
              refine (take_some w.heap.size t11 _ [] w13 hD.r htC).mono ?_
              rintro e w14 ⟨rfl, v14, hG, hl14⟩
              rw [htp]
              have hOu14 := hOu.keep hD.r hG.kept hfr
              obtain ⟨y2, gy2, oy2, cy2, hz1, hz2, hz3, hz4, hz5⟩ := hOu14.get (i := 0) rfl
              injection hz4 with hz4 _ hz6
              subst hz4 hz6
              rw [Nat.add_zero] at hz5
              unfold frV at hz5
              have hb14 : Below w.heap.size w w14 := (hD.right hG (hD.fr.took v14 _ [] htC) (Nat.le_refl _)).blw
              have hcp14 := hD.r.lies hG.kept hcp
              have q1 : ∀ q, (convert 23 9 (.slice (some ⟨gz, 0, none⟩) (y.len - 9) (y.len - 9))).run Tryd.prog (w14.drewN q) = .ok (.string (strB m f)) (w14.drewN q) := fun q => by
                have := (hl14.heap (w' := w14.drewN q) rfl).str
                have e : strB (y.len - 9) (fun j => y.dat (j + 5)) = strB m f := by
                  rw [hy1, hy2, show m + 9 - 9 = m by omega]
                  exact strB_congr fun i hi => Link.seal_pay 0 0 m f i hi
                rw [← e]
                exact this
              have q2 : ∀ q, (convert 23 9 (.slice A m c)).run Tryd.prog (w14.drewN q) = .ok (.string (strB m f)) (w14.drewN q) := fun q => conv_BO (w14.drewN q) A m c f (HA.out.2.1.below (hb14.trans (drew_below _ _ _))) HA.out.2.2.1 HA.out.2.2.2.1
              have q3 : ∀ q, (convert 23 9 (.slice (some ⟨y2.blk, 0, none⟩) y2.len y2.cap)).run Tryd.prog (w14.drewN q) = .ok (.string (strB (m + 9) (Link.sealB 0 0 m f))) (w14.drewN q) := fun q => by
                have := (hz3.heap (w' := w14.drewN q) rfl).str
                rw [← hz1, ← hz2]
                exact this
              have q4 : ∀ q, (convert 23 9 (sl8 g10 y.len k10)).run Tryd.prog (w14.drewN q) = .ok (.string (strB (m + 9) (Link.sealB 0 0 m f))) (w14.drewN q) := fun q => by
                have := (hcp14.heap (w' := w14.drewN q) rfl).str
                rw [← hy2, ← hy1]
                exact this
              generalize strB m f = tf at q1 q2
              generalize strB (m + 9) (Link.sealB 0 0 m f) = tb at q3 q4
              have HB := Lib.hid hb14
              unfold frV
              generalize y.len - 9 = ml at q1 ⊢
              clear hy1 hy2 htp htC hD hOu hfr hcp hG hl14 hOu14 hz1 hz2 hz3 hb14 hcp14 H13 HT HA hsl hsl2
              go_wp2
              go_quiet (fail)
              clear q1 q2 q3 q4
              go_wp2
              go_ret
              exact ⟨rfl, HB.out.trans (drew_below _ _ _)⟩
end Go.Proofs.YteadpnododjeaaaDoor
