/-
  NARROWER THAN 'FOR EVERY INPUT', by the rows' own cells (each row's printed sentence says how): TapeReads: laid · TapeSeeds: laid · TapeEnds: laid · TapeLabels: laid.
  DERIVED. THE GIVEN ROWS OF THIS SEAT. 4 by the template 'for every input the law returns true; each argument reads behind the call as it read before'; 0 by the template 'total and deterministic' (their statements: YtecdfjcncgcegaaDoorTotals.lean).
  GIVEN WITH THE SEED: the statements are not yours to turn. If you find one false, say at which input.
  Laid BY PROGRAM, IN A SANDBOX (cutbox-rows.mjs): the forced cells as the released guide's own fill.sh prints them over the translation bff54e0f474a2700… (all of the seat's roots in one cut). By AI agents, Wed Nov 11 2026. No macro, syntax, notation, axiom, sorry.
-/
import Derived.Test.YtecdfjcncgcegaaDoorChecked
import GoSem.Claim
import GoSem.ClaimJoined
import GoSem.ClaimMapViews
import Derived.JoinedTies
import Derived.KernelRfl
namespace Go.Proofs.YtecdfjcncgcegaaDoor
/- THE CELL 'sum', in the pinned program and in every row, IS THE sha256 OF THE DUMP (.gsa) THAT YtecdfjcncgcegaaDoorProg.lean LOADS. Nothing in Lean hashes anything: it is a label: what it is worth is what the hold of that sum in a sandbox is worth. -/
noncomputable def Tryd.pinned : Pinned := { name := "ytecdfjcncgcegaadoor", sum := "bff54e0f474a27001a71f6d32a22a191d2d08e82feb8ef837cd526e3a7a22935", checked := Tryd.checked }
namespace Rows
def none {H : Type} : Left H := { results := [], args := [] }

/- WHAT THE LISTED PACKAGE-LEVEL VARIABLES READ AS WHEN THE CALL BEGINS. Each datum BY PROGRAM (the guide's laid-datum.mjs) off the statement by which the dump's own 'gosem.cut.vars' lays the variable. In a bare row this is a premise. The card (YtecdfjcncgcegaaDoorCards.lean) ties it to the program's text. -/
def laid_errors_errorType {H : Type} : DataW H := .iface "internal/reflectlite.rtype" (.agg [.ptr (.lit (.string [101, 114, 114, 111, 114]))])

/-- 'twainlaw04.TapeReads': WHATEVER THE INPUT: true; the input reads as it did. -/
def tapeReadsSpec : ChangeSpec := { name := "tapeReads", fn := fun _ => fun
  | [d1, d2] => { results := [.lit (.bool true)], args := [d1, d2] }
  | _ => none }
def tapeReadsRow : OpenClaim := { program := "ytecdfjcncgcegaadoor", sum := "bff54e0f474a27001a71f6d32a22a191d2d08e82feb8ef837cd526e3a7a22935", func := "twain/twainlaw04.TapeReads", spec := "tapeReads", inPlace := ["internal/reflectlite.ValueOf", "(internal/reflectlite.Value).Type", "(internal/reflectlite.Value).IsNil", "internal/reflectlite.TypeOf", "(internal/reflectlite.Value).Elem", "(internal/reflectlite.Value).Set"], unfollowed := true, recurses := true, named := ["errors.errorType"], apart := false, laid := [("errors.errorType", laid_errors_errorType)] }
def TapeReadsSaid : Prop := tapeReadsRow.holds Tryd.pinned (OpenSpec.ofChange tapeReadsSpec)

/-- ITS FALSE NEIGHBOUR: 'it returns false'. Refute it at one input. -/
def tapeReadsWrong : ChangeSpec := { name := "tapeReads", fn := fun _ => fun
  | [d1, d2] => { results := [.lit (.bool false)], args := [d1, d2] }
  | _ => none }
def TapeReadsWrongFalsely : Prop := tapeReadsRow.holds Tryd.pinned (OpenSpec.ofChange tapeReadsWrong)

/-- 'twainlaw04.TapeSeeds': WHATEVER THE INPUT: true; the input reads as it did. -/
def tapeSeedsSpec : ChangeSpec := { name := "tapeSeeds", fn := fun _ => fun
  | [d1, d2, d3] => { results := [.lit (.bool true)], args := [d1, d2, d3] }
  | _ => none }
def tapeSeedsRow : OpenClaim := { program := "ytecdfjcncgcegaadoor", sum := "bff54e0f474a27001a71f6d32a22a191d2d08e82feb8ef837cd526e3a7a22935", func := "twain/twainlaw04.TapeSeeds", spec := "tapeSeeds", inPlace := ["internal/reflectlite.ValueOf", "(internal/reflectlite.Value).Type", "(internal/reflectlite.Value).IsNil", "internal/reflectlite.TypeOf", "(internal/reflectlite.Value).Elem", "(internal/reflectlite.Value).Set"], unfollowed := true, recurses := true, named := ["errors.errorType"], apart := false, laid := [("errors.errorType", laid_errors_errorType)] }
def TapeSeedsSaid : Prop := tapeSeedsRow.holds Tryd.pinned (OpenSpec.ofChange tapeSeedsSpec)

/-- ITS FALSE NEIGHBOUR: 'it returns false'. Refute it at one input. -/
def tapeSeedsWrong : ChangeSpec := { name := "tapeSeeds", fn := fun _ => fun
  | [d1, d2, d3] => { results := [.lit (.bool false)], args := [d1, d2, d3] }
  | _ => none }
def TapeSeedsWrongFalsely : Prop := tapeSeedsRow.holds Tryd.pinned (OpenSpec.ofChange tapeSeedsWrong)

/-- 'twainlaw04.TapeEnds': WHATEVER THE INPUT: true; the input reads as it did. -/
def tapeEndsSpec : ChangeSpec := { name := "tapeEnds", fn := fun _ => fun
  | [d1, d2] => { results := [.lit (.bool true)], args := [d1, d2] }
  | _ => none }
def tapeEndsRow : OpenClaim := { program := "ytecdfjcncgcegaadoor", sum := "bff54e0f474a27001a71f6d32a22a191d2d08e82feb8ef837cd526e3a7a22935", func := "twain/twainlaw04.TapeEnds", spec := "tapeEnds", inPlace := ["internal/reflectlite.ValueOf", "(internal/reflectlite.Value).Type", "(internal/reflectlite.Value).IsNil", "internal/reflectlite.TypeOf", "(internal/reflectlite.Value).Elem", "(internal/reflectlite.Value).Set"], unfollowed := true, recurses := true, named := ["errors.errorType"], apart := false, laid := [("errors.errorType", laid_errors_errorType)] }
def TapeEndsSaid : Prop := tapeEndsRow.holds Tryd.pinned (OpenSpec.ofChange tapeEndsSpec)

/-- ITS FALSE NEIGHBOUR: 'it returns false'. Refute it at one input. -/
def tapeEndsWrong : ChangeSpec := { name := "tapeEnds", fn := fun _ => fun
  | [d1, d2] => { results := [.lit (.bool false)], args := [d1, d2] }
  | _ => none }
def TapeEndsWrongFalsely : Prop := tapeEndsRow.holds Tryd.pinned (OpenSpec.ofChange tapeEndsWrong)

/-- 'twainlaw04.TapeLabels': WHATEVER THE INPUT: true; the input reads as it did. -/
def tapeLabelsSpec : ChangeSpec := { name := "tapeLabels", fn := fun _ => fun
  | [d1, d2, d3] => { results := [.lit (.bool true)], args := [d1, d2, d3] }
  | _ => none }
def tapeLabelsRow : OpenClaim := { program := "ytecdfjcncgcegaadoor", sum := "bff54e0f474a27001a71f6d32a22a191d2d08e82feb8ef837cd526e3a7a22935", func := "twain/twainlaw04.TapeLabels", spec := "tapeLabels", inPlace := ["internal/reflectlite.ValueOf", "(internal/reflectlite.Value).Type", "(internal/reflectlite.Value).IsNil", "internal/reflectlite.TypeOf", "(internal/reflectlite.Value).Elem", "(internal/reflectlite.Value).Set"], unfollowed := true, recurses := true, named := ["errors.errorType"], apart := false, laid := [("errors.errorType", laid_errors_errorType)] }
def TapeLabelsSaid : Prop := tapeLabelsRow.holds Tryd.pinned (OpenSpec.ofChange tapeLabelsSpec)

/-- ITS FALSE NEIGHBOUR: 'it returns false'. Refute it at one input. -/
def tapeLabelsWrong : ChangeSpec := { name := "tapeLabels", fn := fun _ => fun
  | [d1, d2, d3] => { results := [.lit (.bool false)], args := [d1, d2, d3] }
  | _ => none }
def TapeLabelsWrongFalsely : Prop := tapeLabelsRow.holds Tryd.pinned (OpenSpec.ofChange tapeLabelsWrong)

/- THE SECOND FORM. 'bulk': how many values and letters a reading holds, each counted each time it is reached (what is shared counts as often as it is met; a slice's spare places count too). A statement '..UptoSaid' is the law's where the arguments, and the package variables that the reading takes, are together of bulk at most 1048576: NARROWER than '..Said'. Prove '..Said' where nothing that the law and all that it calls make is longer than what came in: it says more and counts as full. Else prove '..UptoSaid'. A law counts once. -/
mutual
def uptoBulk {H : Type} : DataW H → Nat
  | .lit (.string bytes) => bytes.length + 1
  | .lit _ => 1
  | .nil => 1
  | .ptr d => uptoBulk d + 1
  | .slice elems spare => uptoBulkAll elems + uptoBulkAll spare + 1
  | .agg parts => uptoBulkAll parts + 1
  | .iface _ d => uptoBulk d + 1
  | .map entries => uptoBulkEntries entries + 1
  | .held _ => 1
def uptoBulkAll {H : Type} : List (DataW H) → Nat
  | [] => 0
  | d :: r => uptoBulk d + uptoBulkAll r
def uptoBulkEntries {H : Type} : List (Lit × DataW H) → Nat
  | [] => 0
  | x :: r => uptoBulkEntry x + uptoBulkEntries r
def uptoBulkEntry {H : Type} : Lit × DataW H → Nat
  | (.string bytes, d) => bytes.length + uptoBulk d + 1
  | (_, d) => uptoBulk d + 1
 end
def uptoSmall : (H : Type) → List (DataW H) → Bool := fun _ ds => decide (uptoBulkAll ds ≤ 1048576)
def OpenSpec.upto (s : _root_.Go.ChangeSpec) : _root_.Go.OpenSpec := { _root_.Go.OpenSpec.ofChange s with cond := some uptoSmall }

/-- 'twainlaw04.TapeReads', WHERE WHAT IT READS IS OF BULK AT MOST 1048576: true; the input reads as it did. -/
def tapeReadsUptoRow : OpenClaim := { program := "ytecdfjcncgcegaadoor", sum := "bff54e0f474a27001a71f6d32a22a191d2d08e82feb8ef837cd526e3a7a22935", func := "twain/twainlaw04.TapeReads", spec := "tapeReads", inPlace := ["internal/reflectlite.ValueOf", "(internal/reflectlite.Value).Type", "(internal/reflectlite.Value).IsNil", "internal/reflectlite.TypeOf", "(internal/reflectlite.Value).Elem", "(internal/reflectlite.Value).Set"], unfollowed := true, recurses := true, named := ["errors.errorType"], apart := false, laid := [("errors.errorType", laid_errors_errorType)], narrowed := true }
def TapeReadsUptoSaid : Prop := tapeReadsUptoRow.holds Tryd.pinned (OpenSpec.upto tapeReadsSpec)

/-- 'twainlaw04.TapeSeeds', WHERE WHAT IT READS IS OF BULK AT MOST 1048576: true; the input reads as it did. -/
def tapeSeedsUptoRow : OpenClaim := { program := "ytecdfjcncgcegaadoor", sum := "bff54e0f474a27001a71f6d32a22a191d2d08e82feb8ef837cd526e3a7a22935", func := "twain/twainlaw04.TapeSeeds", spec := "tapeSeeds", inPlace := ["internal/reflectlite.ValueOf", "(internal/reflectlite.Value).Type", "(internal/reflectlite.Value).IsNil", "internal/reflectlite.TypeOf", "(internal/reflectlite.Value).Elem", "(internal/reflectlite.Value).Set"], unfollowed := true, recurses := true, named := ["errors.errorType"], apart := false, laid := [("errors.errorType", laid_errors_errorType)], narrowed := true }
def TapeSeedsUptoSaid : Prop := tapeSeedsUptoRow.holds Tryd.pinned (OpenSpec.upto tapeSeedsSpec)

/-- 'twainlaw04.TapeEnds', WHERE WHAT IT READS IS OF BULK AT MOST 1048576: true; the input reads as it did. -/
def tapeEndsUptoRow : OpenClaim := { program := "ytecdfjcncgcegaadoor", sum := "bff54e0f474a27001a71f6d32a22a191d2d08e82feb8ef837cd526e3a7a22935", func := "twain/twainlaw04.TapeEnds", spec := "tapeEnds", inPlace := ["internal/reflectlite.ValueOf", "(internal/reflectlite.Value).Type", "(internal/reflectlite.Value).IsNil", "internal/reflectlite.TypeOf", "(internal/reflectlite.Value).Elem", "(internal/reflectlite.Value).Set"], unfollowed := true, recurses := true, named := ["errors.errorType"], apart := false, laid := [("errors.errorType", laid_errors_errorType)], narrowed := true }
def TapeEndsUptoSaid : Prop := tapeEndsUptoRow.holds Tryd.pinned (OpenSpec.upto tapeEndsSpec)

/-- 'twainlaw04.TapeLabels', WHERE WHAT IT READS IS OF BULK AT MOST 1048576: true; the input reads as it did. -/
def tapeLabelsUptoRow : OpenClaim := { program := "ytecdfjcncgcegaadoor", sum := "bff54e0f474a27001a71f6d32a22a191d2d08e82feb8ef837cd526e3a7a22935", func := "twain/twainlaw04.TapeLabels", spec := "tapeLabels", inPlace := ["internal/reflectlite.ValueOf", "(internal/reflectlite.Value).Type", "(internal/reflectlite.Value).IsNil", "internal/reflectlite.TypeOf", "(internal/reflectlite.Value).Elem", "(internal/reflectlite.Value).Set"], unfollowed := true, recurses := true, named := ["errors.errorType"], apart := false, laid := [("errors.errorType", laid_errors_errorType)], narrowed := true }
def TapeLabelsUptoSaid : Prop := tapeLabelsUptoRow.holds Tryd.pinned (OpenSpec.upto tapeLabelsSpec)

end Rows
end Go.Proofs.YtecdfjcncgcegaaDoor
