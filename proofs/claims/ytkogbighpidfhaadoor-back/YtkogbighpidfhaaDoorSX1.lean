/- LexScans' walk. -/
import Derived.Test.YtkogbighpidfhaaDoorSX0
namespace Go.Proofs.YtkogbighpidfhaaDoor
open Go.RowKit
open Lx

/-- A text cut at a length, as the walk asks for it. -/
theorem run_cutS (s : ByteArray) (m : Nat) (hm : m ≤ s.size) (w : World) : (Instr.slice 9 (.string s) none (some (.int .i64 (m : Int))) none).run Tryd.prog w = .ok (.string (s.extract 0 m)) w := by
  rw [run_slice_string_to_if w 9 s .i64 (m : Int) Tryd.underlying9, if_pos ⟨by omega, by omega⟩, Int.toNat_natCast]
theorem toks_err : ∀ (n : Nat) (l : List Nat) (a cnt c x : Nat), l.length ≤ n → toks l a cnt = .error (c, x) → c = 120 ∨ c = 5 := by
  intro n
  induction n with
  | zero =>
    intro l a cnt c x hn h
    have : l = [] := List.length_eq_zero_iff.1 (by omega)
    subst this
    rw [toks_nil (by rfl)] at h
    cases h
  | succ n ih =>
    intro l a cnt c x hn h
    by_cases h0 : l.drop (gap false l) = []
    · rw [toks_nil h0] at h
      cases h
    · rcases ht : Lx.tok (l.drop (gap false l)) with _ | ⟨k, len, num⟩
      · rw [toks_none h0 ht] at h
        injection h with h
        injection h with h
        exact .inl h.symm
      · by_cases hc : 512 ≤ cnt
        · rw [toks_full ht hc] at h
          injection h with h
          injection h with h
          exact .inr h.symm
        · rw [toks_cons ht (by omega)] at h
          have hl := tok_len ht
          have hr := ih ((l.drop (gap false l)).drop len) (a + gap false l + len) (cnt + 1)
          generalize toks ((l.drop (gap false l)).drop len) (a + gap false l + len) (cnt + 1) = q at h hr
          rcases q with ⟨c', x'⟩ | us
          · injection h with h
            injection h with h1 h2
            subst h1 h2
            exact hr c' x' (by rw [List.length_drop, List.length_drop]; rw [List.length_drop] at hl; omega) rfl
          · cases h
theorem res_code {s : ByteArray} {c a : Nat} (h : res s = .error (c, a)) : c = 3 ∨ c = 120 ∨ c = 5 := by
  unfold res at h
  split at h
  · injection h with h
    injection h with h
    exact .inl h.symm
  · exact .inr (toks_err _ _ _ _ _ _ (Nat.le_refl _) h)
theorem res_len {s : ByteArray} {ts : List Tk} (h : res s = .ok ts) : s.size ≤ 4096 ∧ Toks (bts s) 0 ts ∧ ts.length ≤ 512 := by
  unfold res at h
  split at h
  · cases h
  · obtain ⟨h1, h2⟩ := toks_ok _ _ _ _ _ (Nat.le_refl _) h
    refine ⟨by omega, h1, ?_⟩
    rcases h2 with rfl | h2
    · simp
    · omega
theorem Row.atv {w : World} {B e s n c : Nat} {A : Option Addr} {F : Nat → Value} (h : Row w B e s (.slice A n c) n F) : AtV w A (n * s) F := by
  obtain ⟨A', c', hv, _, _, _, hA, _, _⟩ := h.read
  injection hv with h1 _ _
  subst h1
  exact hA
set_option maxHeartbeats 8000000 in
set_option maxRecDepth 100000 in
theorem lexScans_walk (s : ByteArray) (w : World) (hE : ErrR w) (hH : Handle w) :
    Calls Tryd.prog 3 #[.string s] w fun e w' => e = .returned (.bool true) ∧ Below w.heap.size w w' := by
  have HW := Lib.hid (awake_any w hE hH)
  have HG := Lib.hid (And.intro hE hH)
  obtain ⟨m, hm⟩ : ∃ m, min s.size 5000 = m := ⟨_, rfl⟩
  have m1 : min (s.size : Int) 5000 = (m : Int) := by omega
  have hsl := run_cutS s m (by omega)
  obtain ⟨t, ht⟩ : ∃ t, s.extract 0 m = t := ⟨_, rfl⟩
  have hts : t.size ≤ 1000000 := by rw [← ht, ByteArray.size_extract]; omega
  rw [ht] at hsl
  have HS := Lib.hid hts
  clear hE hH hm ht hts
  go_enter Tryd.func3, Tryd.ntmps3
  go_wp2_with fail
  refine HW.out.mono ?_
  rintro e w1 ⟨rfl, hb1⟩
  have hE1 := HG.out.1.below hb1 HG.out.1.lt
  have hH1 := HG.out.2.below hb1 HG.out.2.pos
  have H1 := Lib.hid (scan_any t w1 HS.out hE1 hH1)
  have HB1 := Lib.hid hb1
  clear hb1 hE1 hH1 HW
  go_wp2_with fail
  clear m1 hsl
  refine H1.out.mono ?_
  rintro e w2 ⟨hr, hb2⟩
  have H2 := Lib.hid (rscan_any t w2 HS.out)
  have HB2 := Lib.hid (HB1.out.trans (hb2.mono HB1.out.size))
  unfold RScAns at H2
  clear H1
  rcases hres : res t with ⟨code, a⟩ | ts
  · rw [hres] at hr H2
    obtain rfl := hr
    have HA := fun w hg => Lib.hid (at_one lexB (a : Int) (code : Int) w hg)
    obtain ⟨T, v, hT⟩ := chain_iface [(lexB, (a : Int))] (code : Int)
    rw [hT] at HA ⊢
    have hcode : code = 3 ∨ code = 120 ∨ code = 5 := res_code hres
    have b0 : ((code : Int) == 0) = false := by rw [beq_eq_false_iff_ne]; omega
    clear hb2 hres hT hcode
    go_wp2_with fail
    refine H2.out.mono ?_
    rintro e w3 ⟨rfl, hb3⟩
    have HB3 := Lib.hid (HB2.out.trans (hb3.mono HB2.out.size))
    have HA3 := Lib.hid (HA w3 (HG.out.2.below HB3.out HG.out.2.pos))
    clear hb3 H2 HA
    go_wp2_with fail
    refine HA3.out.out.mono ?_
    rintro e w4 ⟨rfl, hb4⟩
    have HB4 := Lib.hid (HB3.out.trans (hb4.mono HB3.out.size))
    have HQ := Lib.hid (same_any none none 0 0 0 (fun _ => .nilIface) (fun _ => .nilIface) w4 AtV.zero AtV.zero (fun _ h => absurd h (by omega)) (fun _ h => absurd h (by omega)) (by omega))
    clear hb4 HA3
    go_wp2_with fail
    refine HQ.out.mono ?_
    rintro e w5 ⟨rfl, hb5⟩
    have HB5 := Lib.hid (HB4.out.trans (hb5.mono HB4.out.size))
    clear hb5 HQ
    go_wp2
    go_ret
    exact ⟨rfl, HB5.out⟩
  · rw [hres] at hr H2
    obtain ⟨g, c, rfl, hg, hR⟩ := hr
    clear hb2 hg
    have HR := Lib.hid hR
    have HLn := Lib.hid (res_len hres).2.2
    clear hR hres
    go_wp2_with fail
    refine H2.out.mono ?_
    rintro e w3 ⟨⟨g2, c2, rfl, _, hR2⟩, hb3⟩
    have HB3 := Lib.hid (HB2.out.trans (hb3.mono HB2.out.size))
    have HR3 := Lib.hid (And.intro (HR.out.below hb3) hR2)
    have HA3 := Lib.hid (at_nil w3)
    clear hb3 H2 hR2 HR
    go_wp2_with fail
    refine HA3.out.mono ?_
    rintro e w4 ⟨rfl, hb4⟩
    have HB4 := Lib.hid (HB3.out.trans (hb4.mono HB3.out.size))
    have HQ := Lib.hid (same_any (some ⟨g, 0, none⟩) (some ⟨g2, 0, none⟩) (ts.length + 1) c c2 (tkF t ts) (tkF t ts) w4 (HR3.out.1.below hb4).atv (HR3.out.2.below hb4).atv (fun _ _ => rfl) (tkF_cells _ _ _) (by have := HLn.out; omega))
    clear hb4 HA3 HR3
    go_wp2_with fail
    refine HQ.out.mono ?_
    rintro e w5 ⟨rfl, hb5⟩
    have HB5 := Lib.hid (HB4.out.trans (hb5.mono HB4.out.size))
    clear hb5 HQ
    go_wp2
    go_ret
    exact ⟨rfl, HB5.out⟩
end Go.Proofs.YtkogbighpidfhaaDoor
