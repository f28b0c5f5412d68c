/- GarbleChooses answers true at every input, and its arguments read as before; the row lists errors.errorType, and the card ties it to the program's text. -/
import Derived.Test.YtamejhhjfnfalaaDoorZGX5
import Derived.Test.YtamejhhjfnfalaaDoorZGK2
namespace Go.Proofs.YtamejhhjfnfalaaDoor
open Go.ChangeShapes Go.WideShapes Go.ChangeAt Go.RowKit

theorem params_ok_garbleChooses : ∀ t ∈ [61, 26, 31], Tryd.prog.readableRec t = true ∧ t < Tryd.prog.types.size := by
  intro t ht
  simp only [List.mem_cons, List.not_mem_nil, or_false] at ht
  rcases ht with rfl | rfl | rfl <;> exact ⟨by kernel_rfl, of_decide_eq_true (by kernel_rfl)⟩
theorem wants_garbleChooses : ∀ t ∈ [61, 26, 31], Tryd.prog.wantsStandIn t = false := by
  intro t ht
  simp only [List.mem_cons, List.not_mem_nil, or_false] at ht
  rcases ht with rfl | rfl | rfl <;> kernel_rfl
set_option maxRecDepth 100000 in
theorem garbleChooses_lifted (os : Os) (started : os.Started) (H : Type) (enc : TypeId × Value → H) :
    ReturnsInHanded {} Tryd.checked os 6 .any (fun w args => (Rows.garbleChoosesSpec.pre enc Tryd.prog Tryd.f6 [] false w args ∧ laidMetH Tryd.prog [("errors.errorType", Rows.laid_errors_errorType)] w) ∧ sizedMet enc Tryd.prog Tryd.f6 (OpenSpec.ofChange Rows.garbleChoosesSpec) false w args)
      (Rows.garbleChoosesSpec.post enc Tryd.prog Tryd.f6 false true false false) := by
  refine returnsInHanded_of_change_and (C := Tryd.checked) (X := fun w _ => laidMetH Tryd.prog [("errors.errorType", Rows.laid_errors_errorType)] w) (fun _ _ _ hh h => h.of_heap hh) own started (by kernel_rfl) Tryd.func6
    (ChangeSpec.witness_at (enc := enc) (C := Tryd.checked) (os := os) (X := fun w _ => laidMetH Tryd.prog [("errors.errorType", Rows.laid_errors_errorType)] w) false (laidWorld os) #[.slice none 0 0, .int .u64 0, .agg #[.int .u64 0, .int .u64 0, .slice none 0 0, .int .u64 0]] 8 rfl (by kernel_rfl) (by kernel_rfl) (by kernel_rfl) (by kernel_rfl) (by kernel_rfl) (laidWorld_met os _)) ?_
  intro W base args ds gs before hval0 hW _ _ hL _
  have hval : ∀ (j : Nat) t v, Tryd.f6.params[j]? = some t → args[j]? = some v → Value.okWide Tryd.prog W .any base t v := hval0
  have hW' := hW
  have hlt := hW.lt
  obtain ⟨p, q, hA0, hV, rfl, hfz, hnd⟩ := hW
  have hA : DataW.TrodAll enc Tryd.prog W 0 (fun _ => true) true Tryd.f6.params.toList args.toList ds p := hA0
  obtain ⟨rfl, rfl⟩ := trodVars_none hV
  simp only [List.append_nil] at hW' hlt
  have hB := hA
  rw [Tryd.params6] at hA hval
  obtain ⟨v0, vs0, d0, ds0, p0, q0, hargs, rfl, rfl, h0, r0⟩ := trodAll_cons hA
  obtain ⟨v1, vs1, d1, ds1, p1, q1, rfl, rfl, rfl, h1, r1⟩ := trodAll_cons r0
  obtain ⟨v2, vs2, d2, ds2, p2, q2, rfl, rfl, rfl, h2, r2⟩ := trodAll_cons r1
  obtain ⟨rfl, rfl, rfl⟩ := trodAll_nil r2
  obtain rfl : args = #[v0, v1, v2] := by cases args; simp_all
  obtain ⟨A1, nw, cw, fw, rfl, hA1, hfw, hz1⟩ := open_wds (hval 0 61 v0 rfl rfl) h0
  obtain ⟨xi, rfl, hx0, hx1⟩ := open_word (hval 1 26 v1 rfl rfl) h1
  obtain ⟨x, rfl⟩ : ∃ x : Nat, (x : Int) = xi := ⟨xi.toNat, Int.toNat_of_nonneg hx0⟩
  obtain ⟨dl, Az, nz, cz, first, zin, rfl, hdl, hfi, hza, hzw, hz0, hnz, hcm, hlk⟩ := open_keys (hval 2 31 v2 rfl rfl) h2
  clear hA0 hval0
  refine (chooses_walk A1 nw cw fw x dl Az nz cz first zin W (handle_of_laid hL) hA1 hz1 hfw (by omega) hdl hza hzw hz0 hnz).mono fun e W' ⟨he, hg⟩ => ?_
  subst he
  exact ⟨_, rfl, _, _, _, [], _, [], hW', trodAll_cons_mk (shut_bool Tryd.underlying4 _) trodAll_mk0,
    trodAll_below hg _ _ _ _ (by rw [Tryd.params6]; exact params_ok_garbleChooses) hlt hB, rfl, hg.frame _, fun h => by cases h⟩

theorem garbleChooses_said : Rows.GarbleChoosesSaid :=
  OpenClaim.holds_of_wide 6 Tryd.f6 rfl rfl rfl rfl rfl rfl rfl ⟨rfl, rfl, rfl, rfl, rfl⟩ rfl rfl rfl rfl rfl (by kernel_rfl) Tryd.func6 (by kernel_rfl)
    (of_decide_eq_true (by kernel_rfl)) (by unfold Func.isWrapper; rw [if_neg (of_decide_eq_false (by kernel_rfl))]; exact ⟨rfl, rfl⟩)
    (fun os started H enc _ => garbleChooses_lifted os started H enc)

theorem garbleChooses_card : Rows.GarbleChoosesCardSaid :=
  Claim7.holds_tied_plain_at .later [] [.handle] true (true, "5258487eed3348d1b606a2cc7a4f2dbbcedb964a6cacec907ab5fd8989dbca5a") true
    garbleChooses_said (fun _ h => by cases h) (by kernel_rfl) (fun _ h => by cases h) garbleChooses_row_tie rfl ⟨rfl, rfl⟩ (by kernel_rfl) rfl
    (fun f fn hf hfn => by
      obtain rfl : f = 6 := Option.some.inj ((show Tryd.prog.funcNamed "twain/twainlaw10.GarbleChooses" = some 6 by kernel_rfl).symm.trans hf) |>.symm
      obtain rfl : fn = Tryd.f6 := (Option.some.inj (Tryd.func6.symm.trans hfn)).symm
      exact ⟨by kernel_rfl, fun j t ht => by
        rw [Tryd.params6] at ht
        have hm : t ∈ [61, 26, 31] := by
          have := Array.mem_of_getElem? ht
          simpa using this
        exact wants_garbleChooses t hm⟩)
    (by kernel_rfl)
#print axioms garbleChooses_card
end Go.Proofs.YtamejhhjfnfalaaDoor
