/- GarbleEvals answers true at every input, and its arguments read as before; the row lists errors.errorType, and the card ties it to the program's text. -/
import Derived.Test.YtamejhhjfnfalaaDoorZGX2
import Derived.Test.YtamejhhjfnfalaaDoorZGK
namespace Go.Proofs.YtamejhhjfnfalaaDoor
open Go.ChangeShapes Go.WideShapes Go.ChangeAt Go.RowKit

theorem params_ok_garbleEvals : ∀ t ∈ [25, 29, 29], Tryd.prog.readableRec t = true ∧ t < Tryd.prog.types.size := by
  intro t ht
  simp only [List.mem_cons, List.not_mem_nil, or_false] at ht
  rcases ht with rfl | rfl | rfl <;> exact ⟨by kernel_rfl, of_decide_eq_true (by kernel_rfl)⟩
theorem wants_garbleEvals : ∀ t ∈ [25, 29, 29], Tryd.prog.wantsStandIn t = false := by
  intro t ht
  simp only [List.mem_cons, List.not_mem_nil, or_false] at ht
  rcases ht with rfl | rfl | rfl <;> kernel_rfl
set_option maxRecDepth 100000 in
theorem garbleEvals_lifted (os : Os) (started : os.Started) (H : Type) (enc : TypeId × Value → H) :
    ReturnsInHanded {} Tryd.checked os 5 .any (fun w args => (Rows.garbleEvalsSpec.pre enc Tryd.prog Tryd.f5 [] false w args ∧ laidMetH Tryd.prog [("errors.errorType", Rows.laid_errors_errorType)] w) ∧ sizedMet enc Tryd.prog Tryd.f5 (OpenSpec.ofChange Rows.garbleEvalsSpec) false w args)
      (Rows.garbleEvalsSpec.post enc Tryd.prog Tryd.f5 false true false false) := by
  refine returnsInHanded_of_change_and (C := Tryd.checked) (X := fun w _ => laidMetH Tryd.prog [("errors.errorType", Rows.laid_errors_errorType)] w) (fun _ _ _ hh h => h.of_heap hh) own started (by kernel_rfl) Tryd.func5
    (ChangeSpec.witness_at (enc := enc) (C := Tryd.checked) (os := os) (X := fun w _ => laidMetH Tryd.prog [("errors.errorType", Rows.laid_errors_errorType)] w) false (laidWorld os) #[.agg #[.int .i64 0, .slice none 0 0, .slice none 0 0], .slice none 0 0, .slice none 0 0] 8 rfl (by kernel_rfl) (by kernel_rfl) (by kernel_rfl) (by kernel_rfl) (by kernel_rfl) (laidWorld_met os _)) ?_
  intro W base args ds gs before hval0 hW _ _ hL _
  have hval : ∀ (j : Nat) t v, Tryd.f5.params[j]? = some t → args[j]? = some v → Value.okWide Tryd.prog W .any base t v := hval0
  have hW' := hW
  have hlt := hW.lt
  obtain ⟨p, q, hA0, hV, rfl, hfz, hnd⟩ := hW
  have hA : DataW.TrodAll enc Tryd.prog W 0 (fun _ => true) true Tryd.f5.params.toList args.toList ds p := hA0
  obtain ⟨rfl, rfl⟩ := trodVars_none hV
  simp only [List.append_nil] at hW' hlt
  have hB := hA
  rw [Tryd.params5] at hA hval
  obtain ⟨v0, vs0, d0, ds0, p0, q0, hargs, rfl, rfl, h0, r0⟩ := trodAll_cons hA
  obtain ⟨v1, vs1, d1, ds1, p1, q1, rfl, rfl, rfl, h1, r1⟩ := trodAll_cons r0
  obtain ⟨v2, vs2, d2, ds2, p2, q2, rfl, rfl, rfl, h2, r2⟩ := trodAll_cons r1
  obtain ⟨rfl, rfl, rfl⟩ := trodAll_nil r2
  obtain rfl : args = #[v0, v1, v2] := by cases args; simp_all
  obtain ⟨Nn, Ag, n, cg, y, Ao, m, co, o, rfl, hg, ho, hn, hm, zg, zo⟩ := open_circ (hval 0 25 v0 rfl rfl) h0
  obtain ⟨A1, n1, d1, L1, rfl, hA1, hw1, hz1, hc1, hm1, hl1⟩ := open_labs (hval 1 29 v1 rfl rfl) h1
  obtain ⟨A2, n2, d2, L2, rfl, hA2, hw2, hz2, hc2, hm2, hl2⟩ := open_labs (hval 2 29 v2 rfl rfl) h2
  clear hA0 hval0
  refine (evals_walk Nn Ag n cg y Ao m co o A1 n1 d1 L1 A2 n2 d2 L2 W (handle_of_laid hL) hg ho hn hm zg zo hA1 hz1 hw1 hA2 hz2 hw2).mono fun e W' ⟨he, hg⟩ => ?_
  subst he
  exact ⟨_, rfl, _, _, _, [], _, [], hW', trodAll_cons_mk (shut_bool Tryd.underlying4 _) trodAll_mk0,
    trodAll_below hg _ _ _ _ (by rw [Tryd.params5]; exact params_ok_garbleEvals) hlt hB, rfl, hg.frame _, fun h => by cases h⟩

theorem garbleEvals_said : Rows.GarbleEvalsSaid :=
  OpenClaim.holds_of_wide 5 Tryd.f5 rfl rfl rfl rfl rfl rfl rfl ⟨rfl, rfl, rfl, rfl, rfl⟩ rfl rfl rfl rfl rfl (by kernel_rfl) Tryd.func5 (by kernel_rfl)
    (of_decide_eq_true (by kernel_rfl)) (by unfold Func.isWrapper; rw [if_neg (of_decide_eq_false (by kernel_rfl))]; exact ⟨rfl, rfl⟩)
    (fun os started H enc _ => garbleEvals_lifted os started H enc)

theorem garbleEvals_card : Rows.GarbleEvalsCardSaid :=
  Claim7.holds_tied_plain_at .later [] [.handle] true (true, "5258487eed3348d1b606a2cc7a4f2dbbcedb964a6cacec907ab5fd8989dbca5a") true
    garbleEvals_said (fun _ h => by cases h) (by kernel_rfl) (fun _ h => by cases h) garbleEvals_row_tie rfl ⟨rfl, rfl⟩ (by kernel_rfl) rfl
    (fun f fn hf hfn => by
      obtain rfl : f = 5 := Option.some.inj ((show Tryd.prog.funcNamed "twain/twainlaw10.GarbleEvals" = some 5 by kernel_rfl).symm.trans hf) |>.symm
      obtain rfl : fn = Tryd.f5 := (Option.some.inj (Tryd.func5.symm.trans hfn)).symm
      exact ⟨by kernel_rfl, fun j t ht => by
        rw [Tryd.params5] at ht
        have hm : t ∈ [25, 29, 29] := by
          have := Array.mem_of_getElem? ht
          simpa using this
        exact wants_garbleEvals t hm⟩)
    (by kernel_rfl)
#print axioms garbleEvals_card
end Go.Proofs.YtamejhhjfnfalaaDoor
