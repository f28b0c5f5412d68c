/- Copies of byte lists; WireDigests' walk. -/
import Derived.Test.YtoeohodajoibjaaDoorWA1
namespace Go.Proofs.YtoeohodajoibjaaDoor
open Go.RowKit

theorem empty_own (w : World) (f : Nat → Nat) : OR (w.alloc (.cells #[] 5)) w.heap.size (sl8 w.heap.size 0 0) 0 f :=
  World.ownsRow_made w #[] 0 (Nat.le_refl _) (Nat.zero_le _) rfl
set_option maxRecDepth 100000 in
/-- append([]byte{}, b...) -/
theorem copyB (w : World) (A : Option Addr) (n c : Nat) (f : Nat → Nat) (hA : AtBO w A n f) (h0 : A = none → n = 0 ∧ c = 0) (hn : n ≤ 140737488355328) :
    ∃ g k w', (Builtin.append_ #[22, 22] 22 #[sl8 w.heap.size 0 0, .slice A n c]).run Tryd.prog (w.alloc (.cells #[] 5)) = .ok (sl8 g n k) w' ∧ OR w' w.heap.size (sl8 g n k) n f ∧ Below w.heap.size w w' := by
  have hb : Below w.heap.size w (w.alloc (.cells #[] 5)) := (Below.refl _ _).alloc (Nat.le_refl _) _
  obtain ⟨i0, hi, hz0, hz1, hz2⟩ := infoB
  rcases A with _ | ad
  · obtain ⟨rfl, rfl⟩ := h0 rfl
    have ho : (w.alloc (.cells #[] 5)).ownsRow w.heap.size 5 1 (sl8 w.heap.size 0 0) 0 (bys 0 f).toList := empty_own w f
    exact ⟨_, _, _, run_append_owned_none _ w.heap.size 22 22 5 i0 1 Tryd.underlying22 hi _ 0 _ ho, ho, hb⟩
  · have hA1 : AtB (w.alloc (.cells #[] 5)) ad n f := fun i hi => by
      obtain ⟨ad', e, hc⟩ := (hA.below hb) i hi
      cases e
      exact hc
    obtain ⟨v', w', hr, ho, hb2⟩ := append_ownB _ w.heap.size (sl8 w.heap.size 0 0) 0 n f f ad c (empty_own w f) hA1 (by omega) (by simp)
    rw [Nat.zero_add] at ho
    obtain ⟨v2, w2, hr2, _, _, hnil⟩ := run_append_own_wide (w.alloc (.cells #[] 5)) w.heap.size 22 22 5 i0 (.int .u8 0) 1 1 Tryd.underlying22 hi hz0 hz1 hz2 rfl (by omega) _ 0 _ (empty_own w f) ad n c (bys n f).toList (by simp [bys_size]) (newsB hA1) (bys_oneL n f) (by unfold maxLen; omega) (by omega) (by simp)
    have hv : v' = v2 := by
      have := hr.symm.trans hr2
      injection this
    rcases ho.2 with ⟨h1, _⟩ | ⟨g, k, cur, h1, rest⟩
    · exact absurd ((hnil.1 (hv ▸ h1)).1) (by simp)
    · subst h1
      exact ⟨g, k, w', hr, OR.congr ho (fun i _ => by unfold thenB; rw [if_neg (by omega), Nat.sub_zero]), hb.trans hb2⟩
set_option maxHeartbeats 2000000 in
set_option maxRecDepth 100000 in
theorem digests_walk (A : Option Addr) (n c : Nat) (f : Nat → Nat) (w : World) (hA : AtBO w A n f) (h0 : A = none → n = 0 ∧ c = 0) (hn : n ≤ 140737488355328) (hf : ∀ i, f i < 256) :
    Calls Tryd.prog 6 #[.slice A n c] w fun e w' => e = .returned (.bool true) ∧ Below w.heap.size w w' := by
  have HA := Lib.hid (And.intro hA (And.intro h0 hf))
  clear hA h0 hf
  go_enter Tryd.func6, Tryd.ntmps6
  go_wp2_with fail
  refine (awake_any w).mono ?_
  rintro e w1 ⟨rfl, hb1⟩
  obtain ⟨g, k, w2, hr, ho, hb2⟩ := copyB w1 A n c f (HA.out.1.below hb1) HA.out.2.1 hn
  have HQ := Lib.hid hr
  have HN := Lib.hid (And.intro ho (And.intro (hb1.trans (hb2.mono hb1.size)) (HA.out.1.below (hb1.trans (hb2.mono hb1.size)))))
  clear hb1 hb2 ho hr
  go_wp2_with (at_builtin; refine wpList_append_want (by rfl) _ _ 22 rfl _ _ _ w2 rfl rfl HQ.out ?_)
  refine (digest_any _ n k f w2 HN.out.1.lt.2.2.2.2.opt (by unfold maxLen; omega) HA.out.2.2).mono ?_
  rintro e w3 ⟨rfl, hb3⟩
  have H3 := Lib.hid (And.intro (HN.out.2.1.trans (hb3.mono HN.out.2.1.size)) (HN.out.2.2.below hb3))
  clear hb3 HN HQ
  have f5 := fun w => run_eql_lab w (dg f n 0) (dg f n 1) (dg f n 0) (dg f n 1)
  go_wp2_with fail
  refine (rdigest_any _ n c f w3 H3.out.2 (by unfold maxLen; omega) HA.out.2.2).mono ?_
  rintro e w4 ⟨rfl, hb4⟩
  have H4 := Lib.hid (H3.out.1.trans (hb4.mono H3.out.1.size))
  clear hb4 H3
  go_wp2
  go_ret
  exact ⟨rfl, H4.out⟩
end Go.Proofs.YtoeohodajoibjaaDoor
