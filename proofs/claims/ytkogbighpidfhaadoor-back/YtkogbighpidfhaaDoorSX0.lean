/- The laws' common beginning (awake). -/
import Derived.Test.YtkogbighpidfhaaDoorSD8
namespace Go.Proofs.YtkogbighpidfhaaDoor
open Go.RowKit
open Lx

/-- The document's examples. -/
abbrev exA : ByteArray := ⟨#[108, 101, 116, 32, 121, 32, 61, 32, 120, 62, 62, 50, 59, 32, 35, 32, 122]⟩
abbrev exB : ByteArray := ⟨#[120, 32, 62, 32, 49]⟩
theorem exA_res : res exA = .ok [(4, 0, 3, 0), (1, 4, 1, 0), (3, 6, 1, 0), (1, 8, 1, 0), (3, 9, 2, 0), (2, 11, 1, 2), (3, 12, 1, 0)] := by kernel_rfl
theorem exB_res : res exB = .error (120, 2) := by kernel_rfl
theorem Row.at0 {w : World} {B e s g n c : Nat} {F : Nat → Value} (h : Row w B e s (.slice (some ⟨g, 0, none⟩) n c) n F) (i : Nat) (hi : i < n * s) : w.cell? ⟨g, i, none⟩ = some (F i) := by
  obtain ⟨A, c', hv, _, _, _, hA, _, _⟩ := h.read
  injection hv with h1 _ _
  subst h1
  obtain ⟨ad, e, hc⟩ := hA i hi
  cases e
  rw [Addr.add_mid, Nat.zero_add] at hc
  exact hc
set_option maxHeartbeats 4000000 in
set_option maxRecDepth 100000 in
theorem awake_any (w : World) (hE : ErrR w) (hH : Handle w) : Calls Tryd.prog 8 #[] w fun e w' => e = .returned (.bool true) ∧ Below w.heap.size w w' := by
  have H1 := Lib.hid (scan_any exA w (by decide) hE hH)
  unfold ScAns at H1
  rw [exA_res] at H1
  have HG := Lib.hid (And.intro hE hH)
  clear hE hH
  go_enter Tryd.func8, Tryd.ntmps8
  go_wp2_with fail
  refine H1.out.mono ?_
  rintro e w1 ⟨⟨g, c, rfl, hg, hR⟩, hb1⟩
  have H2 := Lib.hid (scan_any exB w1 (by decide) (HG.out.1.below hb1 HG.out.1.lt) (HG.out.2.below hb1 HG.out.2.pos))
  unfold ScAns at H2
  rw [exB_res] at H2
  have HB := Lib.hid (And.intro hR hb1)
  clear hR hb1 H1 hg
  go_wp2_with fail
  refine H2.out.mono ?_
  rintro e w2 ⟨rfl, hb2⟩
  have hR := HB.out.1.below hb2
  have c17 : w2.cell? ⟨g, 17, none⟩ = some (.string ⟨#[62, 62]⟩) := (hR.at0 17 (by decide)).trans (by kernel_rfl)
  have c22 : w2.cell? ⟨g, 22, none⟩ = some (.int .u64 2) := (hR.at0 22 (by decide)).trans (by kernel_rfl)
  have c28 : w2.cell? ⟨g, 28, none⟩ = some (.int .i64 0) := (hR.at0 28 (by decide)).trans (by kernel_rfl)
  have c29 : w2.cell? ⟨g, 29, none⟩ = some (.string ⟨#[]⟩) := (hR.at0 29 (by decide)).trans (by kernel_rfl)
  have c30 : w2.cell? ⟨g, 30, none⟩ = some (.int .u64 0) := (hR.at0 30 (by decide)).trans (by kernel_rfl)
  have c31 : w2.cell? ⟨g, 31, none⟩ = some (.int .i64 17) := (hR.at0 31 (by decide)).trans (by kernel_rfl)
  have hq := run_eq_tk 0 0 17 ⟨#[]⟩
  have HI := Lib.hid (fis_chain [(lexB, 2)] 120 120 w2)
  obtain ⟨T, v, hT⟩ := chain_iface [(lexB, 2)] 120
  have HB2 := Lib.hid (HB.out.2.trans (hb2.mono HB.out.2.size))
  rw [show ((2 : Nat) : Int) = 2 from rfl, show ((120 : Nat) : Int) = 120 from rfl, hT]
  rw [hT] at HI
  clear hb2 hR H2 HB hT
  go_wp2_with fail
  refine HI.out.mono ?_
  rintro e w3 ⟨rfl, hb3⟩
  have HB3 := Lib.hid (HB2.out.trans (hb3.mono HB2.out.size))
  clear hb3 HI
  go_wp2
  go_ret
  exact ⟨rfl, HB3.out⟩
end Go.Proofs.YtkogbighpidfhaaDoor
