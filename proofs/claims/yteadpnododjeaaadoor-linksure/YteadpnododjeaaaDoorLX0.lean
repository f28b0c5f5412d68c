/- The laws' common beginning (awake). -/
import Derived.Test.YteadpnododjeaaaDoorLA2
namespace Go.Proofs.YteadpnododjeaaaDoor
open Go.RowKit

theorem bytes1_at (w : World) (x : Nat) : AtBO (w.alloc (.cells #[.int .u8 (x : Int)] 5)) (some ⟨w.heap.size, 0, none⟩) 1 (fun _ => x) := fun i hi => by
  obtain rfl : i = 0 := by omega
  exact ⟨_, rfl, by simp [Addr.add]⟩
theorem Lies.str {w : World} {base : Nat} {x : Fr} (h : Lies w base x) : (convert 23 9 (frV x)).run Tryd.prog w = .ok (.string (strB x.len x.dat)) w := conv_B w ⟨x.blk, 0, none⟩ x.len x.cap x.dat h.atB h.lt
theorem not_idle {s : En} {x : Fr} {L : List Fr} (hQ : s.Q = x :: L) (h0 : s.sent = 0 ∨ s.ago + 1 = 4) : ¬ s.idle := fun h => by
  rcases h with h | h
  · rw [hQ] at h; cases h
  · omega
/-- awake, behind its first Send: the end that sent. -/
def Aw1 (w0 w : World) (s t : En) (x : Fr) : Prop := Duo w0 w s t 0 ∧ s.p = w0.heap.size ∧ t = En.new (w0.heap.size + 1) ∧ s.Q = [x] ∧ s.sent = 0 ∧ s.num = 0 ∧ s.O = [] ∧ x.len = 1 ∧ x.dat = fun _ => 5
/-- Behind its first Step: a frame. -/
def Aw2 (w0 w : World) (s t : En) (v : Value) (B N : Nat) : Prop := Duo w0 w s t N ∧ s.p = w0.heap.size ∧ t.p = w0.heap.size + 1 ∧ s.Q.length = 1 ∧ Outs w B v [(10, Link.sealB 0 0 1 fun _ => 5)] ∧ Free v s ∧ Free v t
set_option maxHeartbeats 4000000 in
set_option maxRecDepth 100000 in
theorem awake_any (w : World) (hL : Laid w) : Calls Tryd.prog 10 #[] w fun e w' => e = .returned (.bool true) ∧ Below w.heap.size w w' := by
  have HL := Lib.hid hL
  clear hL
  go_enter Tryd.func10, Tryd.ntmps10
  go_wp2_with fail
  refine (new_any w).mono ?_
  rintro e w1 ⟨rfl, rfl⟩
  go_wp2_with fail
  refine (new_any _).mono ?_
  rintro e w2 ⟨rfl, hw2⟩
  have e1 : (w.alloc (.cells (En.new w.heap.size).row 76)).heap.size = w.heap.size + 1 := by simp
  rw [e1] at hw2 ⊢
  have H2 := Lib.hid (show Duo w w2 (En.new w.heap.size) (En.new (w.heap.size + 1)) 0 by rw [hw2]; exact duo_new HL.out)
  clear hw2 e1
  go_wp2_with fail
  have hb : Below w2.heap.size w2 (w2.alloc (.cells #[.int .u8 ((5 : Nat) : Int)] 5)) := (Below.refl _ _).alloc (Nat.le_refl _) _
  have hD := H2.out.below hb
  refine (send_ok w.heap.size (En.new w.heap.size) _ 1 1 (fun _ => 5) _ hD.l rfl (by show 0 < 64; omega) (bytes1_at w2 5) (fun _ => by omega) (by omega) hD.size).mono ?_
  rintro e w3 ⟨rfl, v, g, hG, _⟩
  have H3 := Lib.hid (show ∃ s t x, Aw1 w w3 s t x from ⟨_, _, ⟨g, 1, 1, fun _ => 5⟩, hD.left hG ((Fine.new _).added v _ (by show (1 : Nat) ≤ _; omega)) (Nat.le_refl _), rfl, rfl, rfl, rfl, rfl, rfl, rfl, rfl⟩)
  clear H2 hb hD hG
  go_wp2_with fail
  obtain ⟨s, t, x, hD, hp, ht, hQ, h0, hn, hO, hx1, hx2⟩ := H3.out
  rw [← hp]
  refine (step_send (x := x) (L := []) hD.l hD.laid hD.fl (by omega) hD.two2 (not_idle hQ (.inl h0)) (by omega) hQ).mono ?_
  rintro e w4 ⟨A4, c4, rfl, hG, hO4⟩
  rw [hO] at hO4 ⊢
  have hO5 : Outs w4 w3.heap.size (.slice A4 (([] : List Nat).length + 1) c4) [(10, Link.sealB 0 0 1 fun _ => 5)] := by
    have e : acks [] ++ [dataOf s.num x] = [(10, Link.sealB 0 0 1 fun _ => 5)] := by unfold dataOf; rw [hx1, hx2, hn]; rfl
    rw [← e]; exact hO4
  have H4 := Lib.hid (show Aw2 w w4 s.sends t (.slice A4 (([] : List Nat).length + 1) c4) w3.heap.size 1 from ⟨hD.left hG (hD.fl.sends (by rw [hQ]; simp)) (by omega), hp, by rw [ht]; rfl, by show s.Q.length = 1; rw [hQ]; rfl, hO5, Free.step hO5 hD.l fun b => own_sends, Free.old hO5 hD.r⟩)
  have HS := Lib.hid (And.intro h0 (And.intro hp ht))
  rw [hp]
  clear H3 hD hp ht hQ h0 hn hO hx1 hx2 hG hO4 hO5
  go_wp2_with fail
  obtain ⟨hD, hp, hq, hQ, hOu, hfs, hft⟩ := H4.out
  rw [← hp]
  refine (step_idle hD.l hD.laid hD.fl (by omega) hD.two2 (.inr ⟨by show 0 < s.sent + 1; omega, by show 0 + 1 ≠ 4; omega⟩)).mono ?_
  rintro e w5 ⟨A5, c5, rfl, hG, _⟩
  rw [show s.sends.O.length = 0 from rfl, hp]
  have H5 := Lib.hid (show ∃ s, Aw2 w w5 s t (.slice A4 (([] : List Nat).length + 1) c4) w3.heap.size 2 from ⟨_, hD.left hG hD.fl.quiet (by omega), hp, hq, hQ, hOu.keep hD.l hG.kept hfs, hfs.goes hOu hG.grows, hft⟩)
  have HT := Lib.hid HS.out.2.2
  clear H4 hD hp hq hQ hOu hfs hft hG HS
  obtain ⟨s2, H5⟩ : ∃ s, Hid (Aw2 w w5 s t (.slice A4 (([] : List Nat).length + 1) c4) w3.heap.size 2) := let ⟨s, h⟩ := H5.out; ⟨s, Lib.hid h⟩
  obtain ⟨y, gy, oy, cy, hy1, hy2, hy3, hy4, hy5⟩ := H5.out.2.2.2.2.1.get (i := 0) rfl
  injection hy4 with hy4 _ hy6
  subst hy4 hy6
  rw [Nat.add_zero] at hy5
  have hF0 : Link.isF y.dat y.len := by rw [hy1, hy2]; exact Link.isF_seal 0 0 1 _ (by omega) (fun h => by omega) (fun _ => by omega)
  have h00 : y.dat 0 = 0 := by rw [hy2]; rfl
  have hn0 : Link.num y.dat = 0 := by rw [hy2]; exact Link.num_seal 0 0 1 _ (by omega)
  have hyl : y.len ≤ y.cap := hy3.own.lt.2.2.1
  have HY := Lib.hid (And.intro hy1 (And.intro hy2 (And.intro hy3 (And.intro hF0 (And.intro h00 (And.intro hn0 hyl))))))
  unfold frV at hy5
  clear hy1 hy2 hy3 hF0 h00 hn0 hyl
  go_wp2_with fail
  obtain ⟨hD, hp, hq, hQ, hOu, hfs, hft⟩ := H5.out
  obtain ⟨hy1, hy2, hy3, hF0, h00, hn0, hyl⟩ := HY.out
  rw [← hq]
  refine (hear_new w.heap.size t _ y.len y.cap y.dat w5 hD.r hD.laid.1 hy3.atBO hy3.lt hyl (by rw [hy1]; omega) hF0 h00 (by rw [hn0, HT.out]; rfl) (by have := hD.fr.o; omega) (by have := hD.fr.c; omega) (by have := hD.fr.want; omega) hD.size).mono ?_
  rintro e w6 ⟨rfl, v6, u6, g6, hG, _⟩
  rw [hq]
  have hw0 : t.want = 0 := by rw [HT.out]; rfl
  have hO0 : t.O = [] := by rw [HT.out]; rfl
  have hC0 : t.C = [] := by rw [HT.out]; rfl
  have hQt : t.Q = [] := by rw [HT.out]; rfl
  have hF6 : Fine (t.data v6 u6 ⟨g6, y.len - 9, y.len - 9, fun j => y.dat (j + 5)⟩ (Link.num y.dat)) 3 := by rw [hn0, ← hw0]; exact hD.fr.data _ _ _
  have hD6 := hD.right hG hF6 (by omega)
  have hO6 := hOu.keep hD.r hG.kept hft
  have hc6 : w6.cell? ⟨gy, oy, none⟩ = some (.slice (some ⟨y.blk, 0, none⟩) y.len y.cap) := by
    have hbl := hOu.blk (b := gy) rfl
    exact (World.cell?_of_block (a := ⟨gy, oy, none⟩) (hG.kept.block gy hbl.2 (hft gy rfl))).trans hy5
  have hy6 : Lies w6 w3.heap.size y := hD.r.lies hG.kept hy3
  obtain ⟨t6, ht6⟩ : ∃ t6, t6 = t.data v6 u6 ⟨g6, y.len - 9, y.len - 9, fun j => y.dat (j + 5)⟩ (Link.num y.dat) := ⟨_, rfl⟩
  have H6 := Lib.hid (show Aw2 w w6 s2 t6 (.slice (some ⟨gy, oy, none⟩) (([] : List Nat).length + 1) c4) w3.heap.size 3 ∧ Lies w6 w3.heap.size y ∧ t6.want = 1 ∧ t6.O = [0] ∧ t6.C = [⟨g6, y.len - 9, y.len - 9, fun j => y.dat (j + 5)⟩] ∧ t6.Q = [] by
    rw [ht6]
    exact ⟨⟨hD6, hp, hq, hQ, hO6, hfs, hft.goes hOu hG.grows⟩, hy6, by show t.want + 1 = 1; rw [hw0], by show t.O ++ [Link.num y.dat] = [0]; rw [hO0, hn0]; rfl, by show t.C ++ _ = _; rw [hC0]; rfl, hQt⟩)
  clear H5 hD hp hq hQ hOu hfs hft hy1 hy2 hy3 hF0 h00 hn0 hyl hG hw0 hO0 hC0 hQt hF6 hD6 hO6 hy6 ht6 hy5 HT
  go_wp2_with fail
  obtain ⟨⟨hD, hp, hq, hQ, hOu, hfs, hft⟩, hy3, hw1, hO1, hC1, hQt⟩ := H6.out
  obtain ⟨hy1, hy2, _, hF0, h00, hn0, hyl⟩ := HY.out
  rw [← hq]
  refine (hear_old w.heap.size t6 _ y.len y.cap y.dat w6 hD.r hD.laid.1 hy3.atBO hy3.lt hyl (by rw [hy1]; omega) hF0 h00 (by rw [hn0, hw1]; omega) (by have := hD.fr.o; omega) hD.size).mono ?_
  rintro e w7 ⟨rfl, u7, hG⟩
  rw [hq]
  have H7 := Lib.hid (show Duo w w7 s2 (t6.owes u7 (Link.num y.dat)) 4 ∧ s2.p = w.heap.size ∧ t6.p = w.heap.size + 1 ∧ s2.Q.length = 1 ∧ t6.C = [⟨g6, y.len - 9, y.len - 9, fun j => y.dat (j + 5)⟩] ∧ t6.Q = [] ∧ (t6.owes u7 (Link.num y.dat)).O = [0, 0] from
    ⟨hD.right hG (hD.fr.owes _ _ (by rw [hn0, hw1]; omega)) (by omega), hp, hq, hQ, hC1, hQt, by show t6.O ++ _ = _; rw [hO1, hn0]; rfl⟩)
  clear H6 hD hp hq hQ hOu hfs hft hy3 hw1 hO1 hC1 hQt hy1 hy2 hF0 h00 hn0 hyl hG hc6
  go_wp2_with fail
  obtain ⟨hD, hp, hq, hQ, hC, hQt, hO⟩ := H7.out
  rw [← hq]
  refine (take_some w.heap.size (t6.owes u7 (Link.num y.dat)) _ [] w7 hD.r hC).mono ?_
  rintro e w8 ⟨rfl, v8, hG, hl8⟩
  rw [hq]
  have hs8 := hl8.str
  have hst : strB (y.len - 9) (fun j => y.dat (j + 5)) = { data := #[5] } := by
    rw [HY.out.1, HY.out.2.1]
    rfl
  have H8 := Lib.hid (show Duo w w8 s2 { t6.owes u7 (Link.num y.dat) with cv := v8, C := [] } 4 ∧ s2.p = w.heap.size ∧ t6.p = w.heap.size + 1 ∧ s2.Q.length = 1 ∧ t6.Q = [] ∧ (t6.owes u7 (Link.num y.dat)).O = [0, 0] ∧ Lies w8 w.heap.size ⟨g6, y.len - 9, y.len - 9, fun j => y.dat (j + 5)⟩ from
    ⟨hD.right hG (hD.fr.took _ _ _ hC) (by omega), hp, hq, hQ, hQt, hO, hl8⟩)
  rw [hst] at hs8
  clear H7 hD hp hq hQ hC hQt hO hG hl8 hst
  go_wp2_with fail
  obtain ⟨hD, hp, hq, hQ, hQt, hO, hl8⟩ := H8.out
  rw [← hq]
  refine (take_none w.heap.size { t6.owes u7 (Link.num y.dat) with cv := v8, C := [] } w8 hD.r rfl).mono ?_
  rintro e w9 ⟨rfl, rfl⟩
  rw [hq]
  clear hD hp hq hQ hQt hO hl8
  unfold frV at *
  go_wp2_with fail
  obtain ⟨hD, hp, hq, hQ, hQt, hO, hl8⟩ := H8.out
  rw [← hq]
  refine (step_idle hD.r hD.laid hD.fr (by omega) hD.two2 (.inl hQt)).mono ?_
  rintro e w9 ⟨A9, c9, rfl, hG, _⟩
  rw [show ({ t6.owes u7 (Link.num y.dat) with cv := v8, C := [] } : En).O.length = 2 by show (t6.owes u7 (Link.num y.dat)).O.length = 2; rw [hO]; rfl]
  have H9 := Lib.hid (show Duo w w9 s2 (En.quietStep { t6.owes u7 (Link.num y.dat) with cv := v8, C := [] }) 5 ∧ s2.p = w.heap.size ∧ s2.Q.length = 1 from ⟨hD.right hG hD.fr.quiet (by omega), hp, hQ⟩)
  clear H8 hD hp hq hQ hQt hO hl8 hG hs8
  go_wp2_with fail
  obtain ⟨hD, hp, hQ⟩ := H9.out
  rw [← hp]
  refine (waiting_any w.heap.size s2 w9 hD.l).mono ?_
  rintro e w10 ⟨rfl, rfl⟩
  rw [hQ]
  clear hD hp hQ
  go_wp2
  go_ret
  exact ⟨rfl, H9.out.1.blw⟩
end Go.Proofs.YteadpnododjeaaaDoor
