/- CorrLoads answers true at every input, and its arguments read as before; the row lists errors.errorType, and the card ties it to the program's text. -/
import Derived.Test.YtgmlmngnedhllaaDoorQX4
import Derived.Test.YtgmlmngnedhllaaDoorQK2
namespace Go.Proofs.YtgmlmngnedhllaaDoor
open Go.ChangeShapes Go.WideShapes Go.ChangeAt Go.RowKit

theorem params_ok_corrLoads : ∀ t ∈ [34, 34, 35], Tryd.prog.readableRec t = true ∧ t < Tryd.prog.types.size := by
  intro t ht
  simp only [List.mem_cons, List.not_mem_nil, or_false] at ht
  rcases ht with rfl | rfl | rfl <;> exact ⟨by kernel_rfl, of_decide_eq_true (by kernel_rfl)⟩
theorem wants_corrLoads : ∀ t ∈ [34, 34, 35], Tryd.prog.wantsStandIn t = false := by
  intro t ht
  simp only [List.mem_cons, List.not_mem_nil, or_false] at ht
  rcases ht with rfl | rfl | rfl <;> kernel_rfl
set_option maxRecDepth 100000 in
theorem corrLoads_lifted (os : Os) (started : os.Started) (H : Type) (enc : TypeId × Value → H) :
    ReturnsInHanded {} Tryd.checked os 5 .any (fun w args => (Rows.corrLoadsSpec.pre enc Tryd.prog Tryd.f5 [] false w args ∧ laidMetH Tryd.prog [("errors.errorType", Rows.laid_errors_errorType)] w) ∧ sizedMet enc Tryd.prog Tryd.f5 (OpenSpec.ofChange Rows.corrLoadsSpec) false w args)
      (Rows.corrLoadsSpec.post enc Tryd.prog Tryd.f5 false true false false) := by
  refine returnsInHanded_of_change_and (C := Tryd.checked) (X := fun w _ => laidMetH Tryd.prog [("errors.errorType", Rows.laid_errors_errorType)] w) (fun _ _ _ hh h => h.of_heap hh) own started (by kernel_rfl) Tryd.func5
    (ChangeSpec.witness_at (enc := enc) (C := Tryd.checked) (os := os) (X := fun w _ => laidMetH Tryd.prog [("errors.errorType", Rows.laid_errors_errorType)] w) false (laidWorld os) #[.slice none 0 0, .slice none 0 0, .slice none 0 0] 8 rfl (by kernel_rfl) (by kernel_rfl) (by kernel_rfl) (by kernel_rfl) (by kernel_rfl) (laidWorld_met os _)) ?_
  intro W base args ds gs before hval0 hW _ hz hL _
  have hval : ∀ (j : Nat) t v, Tryd.f5.params[j]? = some t → args[j]? = some v → Value.okWide Tryd.prog W .any base t v := hval0
  have hW' := hW
  have hlt := hW.lt
  obtain ⟨p, q, hA0, hV, rfl, hfz, hnd⟩ := hW
  have hA : DataW.TrodAll enc Tryd.prog W 0 (fun _ => true) true Tryd.f5.params.toList args.toList ds p := hA0
  obtain ⟨rfl, rfl⟩ := trodVars_none hV
  simp only [List.append_nil] at hW' hlt
  have hB := hA
  rw [Tryd.params5] at hA hval
  obtain ⟨v0, vs0, d0, ds0, p0, q0, hargs, rfl, rfl, h0, r0⟩ := trodAll_cons hA
  obtain ⟨v1, vs1, d1, ds1, p1, q1, rfl, rfl, rfl, h1, r1⟩ := trodAll_cons r0
  obtain ⟨v2, vs2, d2, ds2, p2, q2, rfl, rfl, rfl, h2, r2⟩ := trodAll_cons r1
  obtain ⟨rfl, rfl, rfl⟩ := trodAll_nil r2
  obtain rfl : args = #[v0, v1, v2] := by cases args; simp_all
  obtain ⟨A0, m0, c0, y0, rfl, hA0t, hn0, hl0⟩ := open_tris (hval 0 34 v0 rfl rfl) h0
  obtain ⟨A1, m1, c1, y1, rfl, hA1t, hn1, hl1⟩ := open_tris (hval 1 34 v1 rfl rfl) h1
  obtain ⟨A2, m2, c2, y2, k2, rfl, hA2t, hn2, hl2⟩ := open_ots (hval 2 35 v2 rfl rfl) h2
  have hf0 := tris_fit hz (j := 0) (d := d0) (by rw [Tryd.params5]; rfl) rfl hl0
  have hf1 := tris_fit hz (j := 1) (d := d1) (by rw [Tryd.params5]; rfl) rfl hl1
  have hf2 := ots_fit hz (j := 2) (d := d2) (by rw [Tryd.params5]; rfl) rfl hl2
  clear hA0 hval0
  refine (loads_walk A0 A1 A2 m0 m1 m2 c0 c1 c2 y0 y1 y2 k2 W (handle_of_laid hL) hA0t hA1t hA2t hn0 hn1 hn2 hf0 hf1 hf2).mono fun e W' ⟨he, hg⟩ => ?_
  subst he
  exact ⟨_, rfl, _, _, _, [], _, [], hW', trodAll_cons_mk (shut_bool Tryd.underlying4 _) trodAll_mk0,
    trodAll_below hg _ _ _ _ (by rw [Tryd.params5]; exact params_ok_corrLoads) hlt hB, rfl, hg.frame _, fun h => by cases h⟩

theorem corrLoads_said : Rows.CorrLoadsSaid :=
  OpenClaim.holds_of_wide 5 Tryd.f5 rfl rfl rfl rfl rfl rfl rfl ⟨rfl, rfl, rfl, rfl, rfl⟩ rfl rfl rfl rfl rfl (by kernel_rfl) Tryd.func5 (by kernel_rfl)
    (of_decide_eq_true (by kernel_rfl)) (by unfold Func.isWrapper; rw [if_neg (of_decide_eq_false (by kernel_rfl))]; exact ⟨rfl, rfl⟩)
    (fun os started H enc _ => corrLoads_lifted os started H enc)

theorem corrLoads_card : Rows.CorrLoadsCardSaid :=
  Claim7.holds_tied_plain_at .later [] [.handle] true (true, "877870c930d03529825f287044bef164cb77073e8a265551f51c924488e43b11") true
    corrLoads_said (fun _ h => by cases h) (by kernel_rfl) (fun _ h => by cases h) corrLoads_row_tie rfl ⟨rfl, rfl⟩ (by kernel_rfl) rfl
    (fun f fn hf hfn => by
      obtain rfl : f = 5 := Option.some.inj ((show Tryd.prog.funcNamed "twain/twainlaw08.CorrLoads" = some 5 by kernel_rfl).symm.trans hf) |>.symm
      obtain rfl : fn = Tryd.f5 := (Option.some.inj (Tryd.func5.symm.trans hfn)).symm
      exact ⟨by kernel_rfl, fun j t ht => by
        rw [Tryd.params5] at ht
        have hm : t ∈ [34, 34, 35] := by
          have := Array.mem_of_getElem? ht
          simpa using this
        exact wants_corrLoads t hm⟩)
    (by kernel_rfl)
#print axioms corrLoads_card
end Go.Proofs.YtgmlmngnedhllaaDoor
