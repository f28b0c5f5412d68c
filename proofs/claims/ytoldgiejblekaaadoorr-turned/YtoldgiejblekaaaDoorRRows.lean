/-
  NARROWER THAN 'FOR EVERY INPUT', by the rows' own cells (each row's printed sentence says how): CircEvals: laid · CircWords: laid · CircTurned: laid.
  DERIVED. THE GIVEN ROWS OF THIS SEAT. 3 by the template 'for every input the law returns true; each argument reads behind the call as it read before'; 0 by the template 'total and deterministic' (their statements: YtoldgiejblekaaaDoorRTotals.lean).
  GIVEN WITH THE SEED: the statements are not yours to turn. If you find one false, say at which input.
  Laid BY PROGRAM, IN A SANDBOX (cutbox-rows.mjs): the forced cells as the released guide's own fill.sh prints them over the translation 35f54f2d404b10b2… (all of the seat's roots in one cut). By AI agents, Wed Nov 11 2026. No macro, syntax, notation, axiom, sorry.
-/
import Derived.Test.YtoldgiejblekaaaDoorRChecked
import GoSem.Claim
import GoSem.ClaimJoined
import GoSem.ClaimMapViews
import Derived.JoinedTies
import Derived.KernelRfl
namespace Go.Proofs.YtoldgiejblekaaaDoorR
/- THE CELL 'sum', in the pinned program and in every row, IS THE sha256 OF THE DUMP (.gsa) THAT YtoldgiejblekaaaDoorRProg.lean LOADS. Nothing in Lean hashes anything: it is a label: what it is worth is what the hold of that sum in a sandbox is worth. -/
noncomputable def Tryd.pinned : Pinned := { name := "ytoldgiejblekaaadoorr", sum := "35f54f2d404b10b2f37c6452e3d4d0b425b5a60b5571fa254bd04714d6a2f00f", checked := Tryd.checked }
namespace Rows
def none {H : Type} : Left H := { results := [], args := [] }

/- WHAT THE LISTED PACKAGE-LEVEL VARIABLES READ AS WHEN THE CALL BEGINS. Each datum BY PROGRAM (the guide's laid-datum.mjs) off the statement by which the dump's own 'gosem.cut.vars' lays the variable. In a bare row this is a premise. The card (YtoldgiejblekaaaDoorRCards.lean) ties it to the program's text. -/
def laid_errors_errorType {H : Type} : DataW H := .iface "internal/reflectlite.rtype" (.agg [.ptr (.lit (.string [101, 114, 114, 111, 114]))])

/-- 'twainlaw09.CircEvals': WHATEVER THE INPUT: true; the input reads as it did. -/
def circEvalsSpec : ChangeSpec := { name := "circEvals", fn := fun _ => fun
  | [d1, d2] => { results := [.lit (.bool true)], args := [d1, d2] }
  | _ => none }
def circEvalsRow : OpenClaim := { program := "ytoldgiejblekaaadoorr", sum := "35f54f2d404b10b2f37c6452e3d4d0b425b5a60b5571fa254bd04714d6a2f00f", func := "twain/twainlaw09.CircEvals", spec := "circEvals", inPlace := ["internal/reflectlite.ValueOf", "(internal/reflectlite.Value).Type", "(internal/reflectlite.Value).IsNil", "internal/reflectlite.TypeOf", "(internal/reflectlite.Value).Elem", "(internal/reflectlite.Value).Set"], unfollowed := true, recurses := true, named := ["errors.errorType"], apart := false, laid := [("errors.errorType", laid_errors_errorType)] }
def CircEvalsSaid : Prop := circEvalsRow.holds Tryd.pinned (OpenSpec.ofChange circEvalsSpec)

/-- ITS FALSE NEIGHBOUR: 'it returns false'. Refute it at one input. -/
def circEvalsWrong : ChangeSpec := { name := "circEvals", fn := fun _ => fun
  | [d1, d2] => { results := [.lit (.bool false)], args := [d1, d2] }
  | _ => none }
def CircEvalsWrongFalsely : Prop := circEvalsRow.holds Tryd.pinned (OpenSpec.ofChange circEvalsWrong)

/-- 'twainlaw09.CircWords': WHATEVER THE INPUT: true; the input reads as it did. -/
def circWordsSpec : ChangeSpec := { name := "circWords", fn := fun _ => fun
  | [d1, d2] => { results := [.lit (.bool true)], args := [d1, d2] }
  | _ => none }
def circWordsRow : OpenClaim := { program := "ytoldgiejblekaaadoorr", sum := "35f54f2d404b10b2f37c6452e3d4d0b425b5a60b5571fa254bd04714d6a2f00f", func := "twain/twainlaw09.CircWords", spec := "circWords", inPlace := ["internal/reflectlite.ValueOf", "(internal/reflectlite.Value).Type", "(internal/reflectlite.Value).IsNil", "internal/reflectlite.TypeOf", "(internal/reflectlite.Value).Elem", "(internal/reflectlite.Value).Set"], unfollowed := true, recurses := true, named := ["errors.errorType"], apart := false, laid := [("errors.errorType", laid_errors_errorType)] }
def CircWordsSaid : Prop := circWordsRow.holds Tryd.pinned (OpenSpec.ofChange circWordsSpec)

/-- ITS FALSE NEIGHBOUR: 'it returns false'. Refute it at one input. -/
def circWordsWrong : ChangeSpec := { name := "circWords", fn := fun _ => fun
  | [d1, d2] => { results := [.lit (.bool false)], args := [d1, d2] }
  | _ => none }
def CircWordsWrongFalsely : Prop := circWordsRow.holds Tryd.pinned (OpenSpec.ofChange circWordsWrong)

/-- 'twainlaw09.CircTurned': WHATEVER THE INPUT: true; the input reads as it did. -/
def circTurnedSpec : ChangeSpec := { name := "circTurned", fn := fun _ => fun
  | [d1, d2] => { results := [.lit (.bool true)], args := [d1, d2] }
  | _ => none }
def circTurnedRow : OpenClaim := { program := "ytoldgiejblekaaadoorr", sum := "35f54f2d404b10b2f37c6452e3d4d0b425b5a60b5571fa254bd04714d6a2f00f", func := "twain/twainlaw09.CircTurned", spec := "circTurned", inPlace := ["internal/reflectlite.ValueOf", "(internal/reflectlite.Value).Type", "(internal/reflectlite.Value).IsNil", "internal/reflectlite.TypeOf", "(internal/reflectlite.Value).Elem", "(internal/reflectlite.Value).Set"], unfollowed := true, recurses := true, named := ["errors.errorType"], apart := false, laid := [("errors.errorType", laid_errors_errorType)] }
def CircTurnedSaid : Prop := circTurnedRow.holds Tryd.pinned (OpenSpec.ofChange circTurnedSpec)

/-- ITS FALSE NEIGHBOUR: 'it returns false'. Refute it at one input. -/
def circTurnedWrong : ChangeSpec := { name := "circTurned", fn := fun _ => fun
  | [d1, d2] => { results := [.lit (.bool false)], args := [d1, d2] }
  | _ => none }
def CircTurnedWrongFalsely : Prop := circTurnedRow.holds Tryd.pinned (OpenSpec.ofChange circTurnedWrong)

/- THE SECOND FORM. 'bulk': how many values and letters a reading holds, each counted each time it is reached (what is shared counts as often as it is met; a slice's spare places count too). A statement '..UptoSaid' is the law's where the arguments, and the package variables that the reading takes, are together of bulk at most 1048576: NARROWER than '..Said'. Prove '..Said' where nothing that the law and all that it calls make is longer than what came in: it says more and counts as full. Else prove '..UptoSaid'. A law counts once. -/
mutual
def uptoBulk {H : Type} : DataW H → Nat
  | .lit (.string bytes) => bytes.length + 1
  | .lit _ => 1
  | .nil => 1
  | .ptr d => uptoBulk d + 1
  | .slice elems spare => uptoBulkAll elems + uptoBulkAll spare + 1
  | .agg parts => uptoBulkAll parts + 1
  | .iface _ d => uptoBulk d + 1
  | .map entries => uptoBulkEntries entries + 1
  | .held _ => 1
def uptoBulkAll {H : Type} : List (DataW H) → Nat
  | [] => 0
  | d :: r => uptoBulk d + uptoBulkAll r
def uptoBulkEntries {H : Type} : List (Lit × DataW H) → Nat
  | [] => 0
  | x :: r => uptoBulkEntry x + uptoBulkEntries r
def uptoBulkEntry {H : Type} : Lit × DataW H → Nat
  | (.string bytes, d) => bytes.length + uptoBulk d + 1
  | (_, d) => uptoBulk d + 1
 end
def uptoSmall : (H : Type) → List (DataW H) → Bool := fun _ ds => decide (uptoBulkAll ds ≤ 1048576)
def OpenSpec.upto (s : _root_.Go.ChangeSpec) : _root_.Go.OpenSpec := { _root_.Go.OpenSpec.ofChange s with cond := some uptoSmall }

/-- 'twainlaw09.CircEvals', WHERE WHAT IT READS IS OF BULK AT MOST 1048576: true; the input reads as it did. -/
def circEvalsUptoRow : OpenClaim := { program := "ytoldgiejblekaaadoorr", sum := "35f54f2d404b10b2f37c6452e3d4d0b425b5a60b5571fa254bd04714d6a2f00f", func := "twain/twainlaw09.CircEvals", spec := "circEvals", inPlace := ["internal/reflectlite.ValueOf", "(internal/reflectlite.Value).Type", "(internal/reflectlite.Value).IsNil", "internal/reflectlite.TypeOf", "(internal/reflectlite.Value).Elem", "(internal/reflectlite.Value).Set"], unfollowed := true, recurses := true, named := ["errors.errorType"], apart := false, laid := [("errors.errorType", laid_errors_errorType)], narrowed := true }
def CircEvalsUptoSaid : Prop := circEvalsUptoRow.holds Tryd.pinned (OpenSpec.upto circEvalsSpec)

/-- 'twainlaw09.CircWords', WHERE WHAT IT READS IS OF BULK AT MOST 1048576: true; the input reads as it did. -/
def circWordsUptoRow : OpenClaim := { program := "ytoldgiejblekaaadoorr", sum := "35f54f2d404b10b2f37c6452e3d4d0b425b5a60b5571fa254bd04714d6a2f00f", func := "twain/twainlaw09.CircWords", spec := "circWords", inPlace := ["internal/reflectlite.ValueOf", "(internal/reflectlite.Value).Type", "(internal/reflectlite.Value).IsNil", "internal/reflectlite.TypeOf", "(internal/reflectlite.Value).Elem", "(internal/reflectlite.Value).Set"], unfollowed := true, recurses := true, named := ["errors.errorType"], apart := false, laid := [("errors.errorType", laid_errors_errorType)], narrowed := true }
def CircWordsUptoSaid : Prop := circWordsUptoRow.holds Tryd.pinned (OpenSpec.upto circWordsSpec)

/-- 'twainlaw09.CircTurned', WHERE WHAT IT READS IS OF BULK AT MOST 1048576: true; the input reads as it did. -/
def circTurnedUptoRow : OpenClaim := { program := "ytoldgiejblekaaadoorr", sum := "35f54f2d404b10b2f37c6452e3d4d0b425b5a60b5571fa254bd04714d6a2f00f", func := "twain/twainlaw09.CircTurned", spec := "circTurned", inPlace := ["internal/reflectlite.ValueOf", "(internal/reflectlite.Value).Type", "(internal/reflectlite.Value).IsNil", "internal/reflectlite.TypeOf", "(internal/reflectlite.Value).Elem", "(internal/reflectlite.Value).Set"], unfollowed := true, recurses := true, named := ["errors.errorType"], apart := false, laid := [("errors.errorType", laid_errors_errorType)], narrowed := true }
def CircTurnedUptoSaid : Prop := circTurnedUptoRow.holds Tryd.pinned (OpenSpec.upto circTurnedSpec)

end Rows
end Go.Proofs.YtoldgiejblekaaaDoorR
