/- GarbleRight answers true at every input, and its arguments read as before; the row lists errors.errorType, and the card ties it to the program's text. -/
import Derived.Test.YtamejhhjfnfalaaDoorZGX3
import Derived.Test.YtamejhhjfnfalaaDoorZGK
namespace Go.Proofs.YtamejhhjfnfalaaDoor
open Go.ChangeShapes Go.WideShapes Go.ChangeAt Go.RowKit

theorem params_ok_garbleRight : ∀ t ∈ [25, 31, 49], Tryd.prog.readableRec t = true ∧ t < Tryd.prog.types.size := by
  intro t ht
  simp only [List.mem_cons, List.not_mem_nil, or_false] at ht
  rcases ht with rfl | rfl | rfl <;> exact ⟨by kernel_rfl, of_decide_eq_true (by kernel_rfl)⟩
theorem wants_garbleRight : ∀ t ∈ [25, 31, 49], Tryd.prog.wantsStandIn t = false := by
  intro t ht
  simp only [List.mem_cons, List.not_mem_nil, or_false] at ht
  rcases ht with rfl | rfl | rfl <;> kernel_rfl
set_option maxRecDepth 100000 in
theorem garbleRight_lifted (os : Os) (started : os.Started) (H : Type) (enc : TypeId × Value → H) :
    ReturnsInHanded {} Tryd.checked os 4 .any (fun w args => (Rows.garbleRightSpec.pre enc Tryd.prog Tryd.f4 [] false w args ∧ laidMetH Tryd.prog [("errors.errorType", Rows.laid_errors_errorType)] w) ∧ sizedMet enc Tryd.prog Tryd.f4 (OpenSpec.ofChange Rows.garbleRightSpec) false w args)
      (Rows.garbleRightSpec.post enc Tryd.prog Tryd.f4 false true false false) := by
  refine returnsInHanded_of_change_and (C := Tryd.checked) (X := fun w _ => laidMetH Tryd.prog [("errors.errorType", Rows.laid_errors_errorType)] w) (fun _ _ _ hh h => h.of_heap hh) own started (by kernel_rfl) Tryd.func4
    (ChangeSpec.witness_at (enc := enc) (C := Tryd.checked) (os := os) (X := fun w _ => laidMetH Tryd.prog [("errors.errorType", Rows.laid_errors_errorType)] w) false (laidWorld os) #[.agg #[.int .i64 0, .slice none 0 0, .slice none 0 0], .agg #[.int .u64 0, .int .u64 0, .slice none 0 0, .int .u64 0], .slice none 0 0] 8 rfl (by kernel_rfl) (by kernel_rfl) (by kernel_rfl) (by kernel_rfl) (by kernel_rfl) (laidWorld_met os _)) ?_
  intro W base args ds gs before hval0 hW _ _ hL _
  have hval : ∀ (j : Nat) t v, Tryd.f4.params[j]? = some t → args[j]? = some v → Value.okWide Tryd.prog W .any base t v := hval0
  have hW' := hW
  have hlt := hW.lt
  obtain ⟨p, q, hA0, hV, rfl, hfz, hnd⟩ := hW
  have hA : DataW.TrodAll enc Tryd.prog W 0 (fun _ => true) true Tryd.f4.params.toList args.toList ds p := hA0
  obtain ⟨rfl, rfl⟩ := trodVars_none hV
  simp only [List.append_nil] at hW' hlt
  have hB := hA
  rw [Tryd.params4] at hA hval
  obtain ⟨v0, vs0, d0, ds0, p0, q0, hargs, rfl, rfl, h0, r0⟩ := trodAll_cons hA
  obtain ⟨v1, vs1, d1, ds1, p1, q1, rfl, rfl, rfl, h1, r1⟩ := trodAll_cons r0
  obtain ⟨v2, vs2, d2, ds2, p2, q2, rfl, rfl, rfl, h2, r2⟩ := trodAll_cons r1
  obtain ⟨rfl, rfl, rfl⟩ := trodAll_nil r2
  obtain rfl : args = #[v0, v1, v2] := by cases args; simp_all
  obtain ⟨Nn, Ag, n, cg, y, Ao, m, co, o, rfl, hg, ho, hn, hm, zg, zo⟩ := open_circ (hval 0 25 v0 rfl rfl) h0
  obtain ⟨dl, Az, nz, cz, first, zin, rfl, hdl, hfi, hz, hzw, hz0, hnz, hcm, hlk⟩ := open_keys (hval 1 31 v1 rfl rfl) h1
  obtain ⟨Ab, K, cb, f2, rfl, hbt, hb0, hbn, hbl⟩ := open_flags (hval 2 49 v2 rfl rfl) h2
  clear hA0 hval0
  refine (right_walk Nn Ag n cg y Ao m co o dl Az nz cz first zin Ab K cb f2 W (handle_of_laid hL) hg ho hn hm zg zo hdl hfi hz hzw hz0 hnz hbt hb0).mono fun e W' ⟨he, hg⟩ => ?_
  subst he
  exact ⟨_, rfl, _, _, _, [], _, [], hW', trodAll_cons_mk (shut_bool Tryd.underlying4 _) trodAll_mk0,
    trodAll_below hg _ _ _ _ (by rw [Tryd.params4]; exact params_ok_garbleRight) hlt hB, rfl, hg.frame _, fun h => by cases h⟩

theorem garbleRight_said : Rows.GarbleRightSaid :=
  OpenClaim.holds_of_wide 4 Tryd.f4 rfl rfl rfl rfl rfl rfl rfl ⟨rfl, rfl, rfl, rfl, rfl⟩ rfl rfl rfl rfl rfl (by kernel_rfl) Tryd.func4 (by kernel_rfl)
    (of_decide_eq_true (by kernel_rfl)) (by unfold Func.isWrapper; rw [if_neg (of_decide_eq_false (by kernel_rfl))]; exact ⟨rfl, rfl⟩)
    (fun os started H enc _ => garbleRight_lifted os started H enc)

theorem garbleRight_card : Rows.GarbleRightCardSaid :=
  Claim7.holds_tied_plain_at .later [] [.handle] true (true, "5258487eed3348d1b606a2cc7a4f2dbbcedb964a6cacec907ab5fd8989dbca5a") true
    garbleRight_said (fun _ h => by cases h) (by kernel_rfl) (fun _ h => by cases h) garbleRight_row_tie rfl ⟨rfl, rfl⟩ (by kernel_rfl) rfl
    (fun f fn hf hfn => by
      obtain rfl : f = 4 := Option.some.inj ((show Tryd.prog.funcNamed "twain/twainlaw10.GarbleRight" = some 4 by kernel_rfl).symm.trans hf) |>.symm
      obtain rfl : fn = Tryd.f4 := (Option.some.inj (Tryd.func4.symm.trans hfn)).symm
      exact ⟨by kernel_rfl, fun j t ht => by
        rw [Tryd.params4] at ht
        have hm : t ∈ [25, 31, 49] := by
          have := Array.mem_of_getElem? ht
          simpa using this
        exact wants_garbleRight t hm⟩)
    (by kernel_rfl)
#print axioms garbleRight_card
end Go.Proofs.YtamejhhjfnfalaaDoor
