/- WireReads' walk. -/
import Derived.Test.YtoeohodajoibjaaDoorWE2
import Derived.Test.YtoeohodajoibjaaDoorWE4
import Derived.Test.YtoeohodajoibjaaDoorWX1
namespace Go.Proofs.YtoeohodajoibjaaDoor
open Go.RowKit

theorem Own.atO {w : World} {g n : Nat} {f : Nat → Int} (h : Own w g n f) : AtO w (some ⟨g, 0, none⟩) n f := (At.own h).opt
set_option maxHeartbeats 4000000 in
set_option maxRecDepth 100000 in
theorem reads_walk (A : Option Addr) (L c : Nat) (f : Nat → Nat) (w : World) (hg : Handle w) (hA : AtBO w A L f) (h0 : A = none → L = 0 ∧ c = 0) (hL : L ≤ 140737488355328) (hLc : L ≤ c) (hf : ∀ i, f i < 256) :
    Calls Tryd.prog 5 #[.slice A L c] w fun e w' => e = .returned (.bool true) ∧ Below w.heap.size w w' := by
  have HA := Lib.hid (And.intro hA (And.intro h0 (And.intro hf (And.intro hLc hL))))
  have HG := Lib.hid hg
  clear hA h0 hf hg hLc hL
  go_enter Tryd.func5, Tryd.ntmps5
  go_wp2_with fail
  refine (awake_any w).mono ?_
  rintro e w1 ⟨rfl, hb1⟩
  obtain ⟨g, k, w2, hr, ho, hb2⟩ := copyB w1 A L c f (HA.out.1.below hb1) HA.out.2.1 HA.out.2.2.2.2
  have HQ := Lib.hid hr
  have hb12 := hb1.trans (hb2.mono hb1.size)
  have H2 := Lib.hid (And.intro ho (And.intro hb12 (HG.out.below hb12 HG.out.pos)))
  clear hr ho hb1 hb2 hb12
  go_wp2_with (at_builtin; refine wpList_append_run rfl _ _ 22 rfl _ _ _ w2 rfl rfl HQ.out ?_)
  have HML := Lib.hid (show True ∧ L ≤ maxLen from ⟨trivial, by have := HA.out.2.2.2.2; unfold maxLen; omega⟩)
  refine (decode_any _ L k f w2 H2.out.2.2 H2.out.1.lt.2.2.2.2.opt H2.out.1.lt.2.2.1 HML.out.2 HA.out.2.2.1).mono ?_
  rintro e w3 hD
  clear HQ
  by_cases hfit : Wire.fits f L
  · obtain ⟨gw, rfl, hW, hgw, hb3⟩ := hD.1 hfit
    have HFit := Lib.hid hfit
    obtain ⟨r, hr⟩ : ∃ r, r = (Wire.hd f L).1 := ⟨_, rfl⟩
    obtain ⟨n, hn⟩ : ∃ r, r = (Wire.cn f L).1 := ⟨_, rfl⟩
    obtain ⟨o, ho⟩ : ∃ r, r = Wire.off f L := ⟨_, rfl⟩
    rw [← hr, ← hn]
    rw [← hn, ← ho] at hW
    have hb4 : Below w3.heap.size w3 (w3.alloc (.cells #[.int .i64 (r : Int), .slice (some ⟨gw, 0, none⟩) n n] 36)) := (Below.refl _ _).alloc (Nat.le_refl _) _
    have hM4 := Msg.new w3 (r : Int) (.slice (some ⟨gw, 0, none⟩) n n)
    have hbb : Below w.heap.size w (w3.alloc (.cells #[.int .i64 (r : Int), .slice (some ⟨gw, 0, none⟩) n n] 36)) := (H2.out.2.1.trans (hb3.mono H2.out.2.1.size)).alloc (Nat.le_trans H2.out.2.1.size hb3.size) _
    have H4 := Lib.hid (And.intro hbb (And.intro hM4 (hW.below hb4 hW.lt)))
    have HE := Lib.hid (And.intro hr (And.intro hn ho))
    clear hD hfit hW hgw hb3 hr hn ho hb4 hM4 hbb H2
    go_wp2_with fail
    generalize hw4 : w3.alloc (.cells #[.int .i64 (r : Int), .slice (some ⟨gw, 0, none⟩) n n] 36) = w4 at H4 ⊢
    clear hw4
    refine (rdecode_any A L c f w4 (HA.out.1.below H4.out.1) HA.out.2.2.2.1 HML.out.2 HA.out.2.2.1).mono ?_
    rintro e w5 hR
    obtain ⟨v, rfl, hV, hb5⟩ := hR.1 HFit.out
    rw [← HE.out.1]
    rw [← HE.out.2.1, ← HE.out.2.2] at hV
    obtain ⟨A9, c9, rfl, _, _, _, hV9⟩ := hV
    have hM5 := H4.out.2.1.below hb5 H4.out.2.1.lt
    have a0 := hM5.cell0
    have a1 := hM5.cell1
    have hn16 : n ≤ 65536 := by rw [HE.out.2.1]; exact HFit.out.2.2.1
    have H5 := Lib.hid (And.intro (H4.out.1.trans (hb5.mono H4.out.1.size)) (And.intro (H4.out.2.2.below hb5 H4.out.2.2.lt) (And.intro hV9 (show n ≤ maxLen by unfold maxLen; omega))))
    clear hR hb5 hV9 H4 hM5 hn16
    go_wp2_with fail
    refine (words_any _ _ n n n c9 (decW f o) (decW f o) w5 H5.out.2.2.2 H5.out.2.1.atO H5.out.2.2.1).mono ?_
    rintro e w6 ⟨b, rfl, hb, hb6⟩
    obtain rfl : b = true := hb.2 ⟨rfl, fun _ _ => rfl⟩
    have H6 := Lib.hid (H5.out.1.trans (hb6.mono H5.out.1.size))
    clear hb hb6 H5
    go_wp2
    go_ret
    exact ⟨rfl, H6.out⟩
  · obtain ⟨p, a, rfl, hb3⟩ := hD.2 hfit
    have HFit := Lib.hid hfit
    have hb4 : Below w3.heap.size w3 (w3.alloc (.cells #[.int .i64 0, .slice none 0 0] 36)) := (Below.refl _ _).alloc (Nat.le_refl _) _
    have hM4 := Msg.new w3 0 (.slice none 0 0)
    have hbb : Below w.heap.size w (w3.alloc (.cells #[.int .i64 0, .slice none 0 0] 36)) := (H2.out.2.1.trans (hb3.mono H2.out.2.1.size)).alloc (Nat.le_trans H2.out.2.1.size hb3.size) _
    have H4 := Lib.hid (And.intro hbb hM4)
    obtain ⟨T, v, hT⟩ := chain_iface [(p, a)] 50
    rw [hT]
    have HT := Lib.hid hT
    clear hD hfit hb3 hb4 hM4 hbb H2 hT
    go_wp2_with fail
    generalize hw4 : w3.alloc (.cells #[.int .i64 0, .slice none 0 0] 36) = w4 at H4 ⊢
    clear hw4
    refine (rdecode_any A L c f w4 (HA.out.1.below H4.out.1) HA.out.2.2.2.1 HML.out.2 HA.out.2.2.1).mono ?_
    rintro e w5 hR
    obtain ⟨rfl, hb5⟩ := hR.2 HFit.out
    have H5 := Lib.hid (And.intro (H4.out.1.trans (hb5.mono H4.out.1.size)) (H4.out.2.below hb5 H4.out.2.lt))
    have HC := Lib.hid (code_chain [(p, a)] 50 w5 (HG.out.below H5.out.1 HG.out.pos))
    rw [HT.out] at HC
    clear hR hb5 H4 HT
    go_wp2_with fail
    refine HC.out.mono ?_
    rintro e w6 ⟨rfl, hb6⟩
    have hM6 := H5.out.2.below hb6 H5.out.2.lt
    have a0 := hM6.cell0
    have a1 := hM6.cell1
    have H6 := Lib.hid (H5.out.1.trans (hb6.mono H5.out.1.size))
    clear hb6 H5 HC hM6
    go_wp2
    go_ret
    exact ⟨rfl, H6.out⟩
end Go.Proofs.YtoeohodajoibjaaDoor
