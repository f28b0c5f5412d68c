/- LinkFull's walk. -/
import Derived.Test.YteadpnododjeaaaDoorLX0
namespace Go.Proofs.YteadpnododjeaaaDoor
open Go.RowKit

/-- One end, made since w0. -/
structure Uno (w0 w : World) (s : En) (N : Nat) : Prop where
  end' : EndAt w w0.heap.size s
  blw : Below w0.heap.size w0 w
  fine : Fine s N
  laid : Laid w0
section
variable {w0 w w' : World} {s s' : En} {N M : Nat}
theorem Uno.now (h : Uno w0 w s N) : Laid w := h.laid.below h.blw h.laid.pos
theorem Uno.size (h : Uno w0 w s N) : w0.heap.size ≤ w.heap.size := h.blw.size
theorem Uno.below (h : Uno w0 w s N) (hb : Below w.heap.size w w') : Uno w0 w' s N := ⟨h.end'.below hb, h.blw.trans (hb.mono h.size), h.fine, h.laid⟩
theorem Uno.goes (h : Uno w0 w s N) (g : Goes w w0.heap.size s w' s') (hF : Fine s' M) : Uno w0 w' s' M := ⟨g.at', g.below h.end' h.blw h.size, hF, h.laid⟩
theorem uno_new (hL : Laid w) : Uno w (w.alloc (.cells (En.new w.heap.size).row 76)) (En.new w.heap.size) 0 := ⟨endAt_new w _ (Nat.le_refl _), (Below.refl _ _).alloc (Nat.le_refl _) _, Fine.new _, hL⟩
end
/-- LinkFull, inside: j payloads wait. -/
def Fu (w w' : World) (j : Nat) : Prop := ∃ s, Uno w w' s 0 ∧ s.p = w.heap.size ∧ s.Q.length = j ∧ s.er = .nilIface
set_option maxHeartbeats 4000000 in
set_option maxRecDepth 100000 in
theorem full_walk (A : Option Addr) (n c : Nat) (f : Nat → Nat) (w : World) (hL : Laid w) (hA : AtBO w A n f) (hf : ∀ i, f i < 256) (hc : n ≤ c) :
    Calls Tryd.prog 7 #[.slice A n c] w fun e w' => e = .returned (.bool true) ∧ Below w.heap.size w w' := by
  have HL := Lib.hid hL
  obtain ⟨m, hm⟩ : ∃ m, m = min n 100 := ⟨_, rfl⟩
  have HA := Lib.hid (And.intro hA (And.intro hf (And.intro hc hm)))
  have m1 : (if (100 : Int) < (n : Int) then (100 : Int) else (n : Int)) = (m : Int) := by split <;> omega
  have m2 : (if 100 < n then (100 : Int) else (n : Int)) = (m : Int) := by split <;> omega
  have m3 : (if (n : Int) < 100 then (n : Int) else 100) = (m : Int) := by split <;> omega
  have m4 : (if n < 100 then (n : Int) else 100) = (m : Int) := by split <;> omega
  have hsl : ∀ wx, (Instr.slice 23 (.slice A n c) none (some (.int .i64 (m : Int))) none).run Tryd.prog wx = .ok (.slice A m c) wx := fun wx => run_headB wx A n c m (by omega)
  clear hL hA hf hc hm
  go_enter Tryd.func7, Tryd.ntmps7
  go_wp2_with fail
  refine (new_any w).mono ?_
  rintro e w1 ⟨rfl, hw1⟩
  have H1 := Lib.hid (show Fu w w1 0 by rw [hw1]; exact ⟨_, uno_new HL.out, rfl, rfl, rfl⟩)
  clear hw1
  go_wp2_with fail
  obtain ⟨s, hU, hp, hQ, he⟩ := H1.out
  refine (awake_any w1 hU.now).mono ?_
  rintro e w2 ⟨rfl, hb⟩
  have H2 := Lib.hid (show Fu w w2 0 from ⟨s, hU.below hb, hp, hQ, he⟩)
  clear H1 hU hp hQ he hb
  go_wp2
  go_loopw [4] (fun q wr => ∃ j : Nat, q = .int .i64 j ∧ Hid (True ∧ j ≤ 64) ∧ Hid (Fu w wr j)) (fun q _ => 64 - (intOf q).toNat)
  case atStart => exact ⟨0, rfl, ⟨trivial, by omega⟩, H2⟩
  case round =>
    clear H2
    obtain ⟨j, rfl, HJ, HI⟩ := hrel
    by_cases hlt : j < 64
    · have hlt1 : (j : Int) < 64 := by omega
      have e7 : IntKind.i64.wrap ((j : Int) + 1) = (j : Int) + 1 := i64_nat _ (by omega) (by omega)
      have HLt := Lib.hid (And.intro trivial hlt)
      clear hlt
      go_wp2_with fail
      obtain ⟨s, hU, hp, hQ, he⟩ := HI.out
      rw [← hp]
      refine (send_ok w.heap.size s A m c f wr hU.end' he (by have := HLt.out.2; omega) ((fun i hi => (HA.out.1.below hU.blw) i (by have := HA.out.2.2.2; omega)) : AtBO wr A m f) HA.out.2.1 (by have := HA.out.2.2.2; omega) hU.size).mono ?_
      rintro e w3 ⟨rfl, v, g, hG, _⟩
      rw [hp]
      have HN := Lib.hid (show Fu w w3 (j + 1) from ⟨_, hU.goes hG (hU.fine.added _ _ (by show m ≤ _; have := HA.out.2.2.2; omega)), hp, by show (s.Q ++ _).length = _; rw [List.length_append, hQ]; rfl, he⟩)
      clear HI hU hp hQ he hG
      go_wp2
      go_roundw
      case rel => exact ⟨j + 1, by go_num, ⟨trivial, HLt.out.2⟩, HN⟩
      case measure => have := HLt.out.2; simp [intOf]; omega
    · obtain rfl : j = 64 := by have := HJ.out.2; omega
      clear hlt
      obtain ⟨w3, hw3⟩ : ∃ z, z = wr := ⟨_, rfl⟩
      subst hw3
      go_wp2_with fail
      obtain ⟨s, hU, hp, hQ, he⟩ := HI.out
      rw [← hp]
      refine (send_full w.heap.size s none 0 0 w3 hU.end' hU.now.2 he (by omega) (by omega)).mono ?_
      rintro e w4 ⟨ps, rfl, hb⟩
      rw [hp]
      have H4 := Lib.hid (show Fu w w4 64 from ⟨s, hU.below hb, hp, hQ, he⟩)
      have hfi := fis_chain ps 5 5 w4
      obtain ⟨T, u, hT⟩ := chain_iface ps 5
      rw [hT] at hfi ⊢
      have HFI := Lib.hid hfi
      clear hfi hT HI hU hp hQ he hb m1 m2 m3 m4 hsl
      go_wp2_with fail
      refine HFI.out.mono ?_
      rintro e w5 ⟨rfl, hb⟩
      obtain ⟨s, hU, hp, hQ, he⟩ := H4.out
      have H5 := Lib.hid (show Fu w w5 64 from ⟨s, hU.below hb, hp, hQ, he⟩)
      have hmk := makeBs w5 1048577 (by omega)
      obtain ⟨w6, hw6⟩ : ∃ w6, w6 = w5.alloc (.cells (bys 1048577 fun _ => 0) 5) := ⟨_, rfl⟩
      rw [← hw6] at hmk
      have hb6 : Below w5.heap.size w5 w6 := by rw [hw6]; exact (Below.refl _ _).alloc (Nat.le_refl _) _
      have H6 := Lib.hid (show Fu w w6 64 from ⟨s, (hU.below hb).below hb6, hp, hQ, he⟩)
      have hmk' : (Instr.makeSlice 23 (.int .i64 1048577) (.int .i64 1048577)).run Tryd.prog w5 = .ok (sl8 w5.heap.size 1048577 1048577) w6 := hmk
      clear H4 hU hp hQ he hb HFI hw6 hmk hb6
      go_wp2_with fail
      obtain ⟨s, hU, hp, hQ, he⟩ := H6.out
      rw [← hp]
      refine (send_long w.heap.size s _ 1048577 1048577 w6 hU.end' hU.now.2 he (by omega)).mono ?_
      rintro e w7 ⟨ps, rfl, hb⟩
      rw [hp]
      have H7 := Lib.hid (show Fu w w7 64 from ⟨s, hU.below hb, hp, hQ, he⟩)
      have hfi := fis_chain ps 3 3 w7
      obtain ⟨T, u, hT⟩ := chain_iface ps 3
      rw [hT] at hfi ⊢
      have HFI := Lib.hid hfi
      clear hfi hT hU hp hQ he hb H6 H5 hmk'
      go_wp2_with fail
      refine HFI.out.mono ?_
      rintro e w8 ⟨rfl, hb⟩
      obtain ⟨s, hU, hp, hQ, he⟩ := H7.out
      have H8 := Lib.hid (show Fu w w8 64 from ⟨s, hU.below hb, hp, hQ, he⟩)
      clear H7 hU hp hQ he hb HFI
      go_wp2_with fail
      obtain ⟨s, hU, hp, hQ, he⟩ := H8.out
      rw [← hp]
      refine (waiting_any w.heap.size s w8 hU.end').mono ?_
      rintro e w9 ⟨rfl, rfl⟩
      rw [hQ]
      have H9 := Lib.hid hU.blw
      clear hU hp hQ he H8
      go_wp2
      go_ret
      exact ⟨rfl, H9.out⟩
end Go.Proofs.YteadpnododjeaaaDoor
