/-
  NARROWER THAN 'FOR EVERY INPUT', by the rows' own cells (each row's printed sentence says how): CorrDeals: laid · CorrFits: laid · CorrLoads: laid · CorrApart: laid · CorrSpent: laid.
  DERIVED. THE GIVEN ROWS OF THIS SEAT. 5 by the template 'for every input the law returns true; each argument reads behind the call as it read before'; 0 by the template 'total and deterministic' (their statements: YtgmlmngnedhllaaDoorTotals.lean).
  GIVEN WITH THE SEED: the statements are not yours to turn. If you find one false, say at which input.
  Laid BY PROGRAM, IN A SANDBOX (cutbox-rows.mjs): the forced cells as the released guide's own fill.sh prints them over the translation e71c2c9c029d4f1d… (all of the seat's roots in one cut). By AI agents, Wed Nov 11 2026. No macro, syntax, notation, axiom, sorry.
-/
import Derived.Test.YtgmlmngnedhllaaDoorChecked
import GoSem.Claim
import GoSem.ClaimJoined
import GoSem.ClaimMapViews
import Derived.JoinedTies
import Derived.KernelRfl
namespace Go.Proofs.YtgmlmngnedhllaaDoor
/- THE CELL 'sum', in the pinned program and in every row, IS THE sha256 OF THE DUMP (.gsa) THAT YtgmlmngnedhllaaDoorProg.lean LOADS. Nothing in Lean hashes anything: it is a label: what it is worth is what the hold of that sum in a sandbox is worth. -/
noncomputable def Tryd.pinned : Pinned := { name := "ytgmlmngnedhllaadoor", sum := "e71c2c9c029d4f1dacbb7644f73219935cacb49ea6eba7443a254078028d769c", checked := Tryd.checked }
namespace Rows
def none {H : Type} : Left H := { results := [], args := [] }

/- WHAT THE LISTED PACKAGE-LEVEL VARIABLES READ AS WHEN THE CALL BEGINS. Each datum BY PROGRAM (the guide's laid-datum.mjs) off the statement by which the dump's own 'gosem.cut.vars' lays the variable. In a bare row this is a premise. The card (YtgmlmngnedhllaaDoorCards.lean) ties it to the program's text. -/
def laid_errors_errorType {H : Type} : DataW H := .iface "internal/reflectlite.rtype" (.agg [.ptr (.lit (.string [101, 114, 114, 111, 114]))])

/-- 'twainlaw08.CorrDeals': WHATEVER THE INPUT: true; the input reads as it did. -/
def corrDealsSpec : ChangeSpec := { name := "corrDeals", fn := fun _ => fun
  | [d1, d2, d3] => { results := [.lit (.bool true)], args := [d1, d2, d3] }
  | _ => none }
def corrDealsRow : OpenClaim := { program := "ytgmlmngnedhllaadoor", sum := "e71c2c9c029d4f1dacbb7644f73219935cacb49ea6eba7443a254078028d769c", func := "twain/twainlaw08.CorrDeals", spec := "corrDeals", inPlace := ["internal/reflectlite.ValueOf", "(internal/reflectlite.Value).Type", "(internal/reflectlite.Value).IsNil", "internal/reflectlite.TypeOf", "(internal/reflectlite.Value).Elem", "(internal/reflectlite.Value).Set"], unfollowed := true, recurses := true, named := ["errors.errorType"], apart := false, laid := [("errors.errorType", laid_errors_errorType)] }
def CorrDealsSaid : Prop := corrDealsRow.holds Tryd.pinned (OpenSpec.ofChange corrDealsSpec)

/-- ITS FALSE NEIGHBOUR: 'it returns false'. Refute it at one input. -/
def corrDealsWrong : ChangeSpec := { name := "corrDeals", fn := fun _ => fun
  | [d1, d2, d3] => { results := [.lit (.bool false)], args := [d1, d2, d3] }
  | _ => none }
def CorrDealsWrongFalsely : Prop := corrDealsRow.holds Tryd.pinned (OpenSpec.ofChange corrDealsWrong)

/-- 'twainlaw08.CorrFits': WHATEVER THE INPUT: true; the input reads as it did. -/
def corrFitsSpec : ChangeSpec := { name := "corrFits", fn := fun _ => fun
  | [d] => { results := [.lit (.bool true)], args := [d] }
  | _ => none }
def corrFitsRow : OpenClaim := { program := "ytgmlmngnedhllaadoor", sum := "e71c2c9c029d4f1dacbb7644f73219935cacb49ea6eba7443a254078028d769c", func := "twain/twainlaw08.CorrFits", spec := "corrFits", inPlace := ["internal/reflectlite.ValueOf", "(internal/reflectlite.Value).Type", "(internal/reflectlite.Value).IsNil", "internal/reflectlite.TypeOf", "(internal/reflectlite.Value).Elem", "(internal/reflectlite.Value).Set"], unfollowed := true, recurses := true, named := ["errors.errorType"], apart := false, laid := [("errors.errorType", laid_errors_errorType)] }
def CorrFitsSaid : Prop := corrFitsRow.holds Tryd.pinned (OpenSpec.ofChange corrFitsSpec)

/-- ITS FALSE NEIGHBOUR: 'it returns false'. Refute it at one input. -/
def corrFitsWrong : ChangeSpec := { name := "corrFits", fn := fun _ => fun
  | [d] => { results := [.lit (.bool false)], args := [d] }
  | _ => none }
def CorrFitsWrongFalsely : Prop := corrFitsRow.holds Tryd.pinned (OpenSpec.ofChange corrFitsWrong)

/-- 'twainlaw08.CorrLoads': WHATEVER THE INPUT: true; the input reads as it did. -/
def corrLoadsSpec : ChangeSpec := { name := "corrLoads", fn := fun _ => fun
  | [d1, d2, d3] => { results := [.lit (.bool true)], args := [d1, d2, d3] }
  | _ => none }
def corrLoadsRow : OpenClaim := { program := "ytgmlmngnedhllaadoor", sum := "e71c2c9c029d4f1dacbb7644f73219935cacb49ea6eba7443a254078028d769c", func := "twain/twainlaw08.CorrLoads", spec := "corrLoads", inPlace := ["internal/reflectlite.ValueOf", "(internal/reflectlite.Value).Type", "(internal/reflectlite.Value).IsNil", "internal/reflectlite.TypeOf", "(internal/reflectlite.Value).Elem", "(internal/reflectlite.Value).Set"], unfollowed := true, recurses := true, named := ["errors.errorType"], apart := false, laid := [("errors.errorType", laid_errors_errorType)] }
def CorrLoadsSaid : Prop := corrLoadsRow.holds Tryd.pinned (OpenSpec.ofChange corrLoadsSpec)

/-- ITS FALSE NEIGHBOUR: 'it returns false'. Refute it at one input. -/
def corrLoadsWrong : ChangeSpec := { name := "corrLoads", fn := fun _ => fun
  | [d1, d2, d3] => { results := [.lit (.bool false)], args := [d1, d2, d3] }
  | _ => none }
def CorrLoadsWrongFalsely : Prop := corrLoadsRow.holds Tryd.pinned (OpenSpec.ofChange corrLoadsWrong)

/-- 'twainlaw08.CorrApart': WHATEVER THE INPUT: true; the input reads as it did. -/
def corrApartSpec : ChangeSpec := { name := "corrApart", fn := fun _ => fun
  | [d1, d2, d3] => { results := [.lit (.bool true)], args := [d1, d2, d3] }
  | _ => none }
def corrApartRow : OpenClaim := { program := "ytgmlmngnedhllaadoor", sum := "e71c2c9c029d4f1dacbb7644f73219935cacb49ea6eba7443a254078028d769c", func := "twain/twainlaw08.CorrApart", spec := "corrApart", inPlace := ["internal/reflectlite.ValueOf", "(internal/reflectlite.Value).Type", "(internal/reflectlite.Value).IsNil", "internal/reflectlite.TypeOf", "(internal/reflectlite.Value).Elem", "(internal/reflectlite.Value).Set"], unfollowed := true, recurses := true, named := ["errors.errorType"], apart := false, laid := [("errors.errorType", laid_errors_errorType)] }
def CorrApartSaid : Prop := corrApartRow.holds Tryd.pinned (OpenSpec.ofChange corrApartSpec)

/-- ITS FALSE NEIGHBOUR: 'it returns false'. Refute it at one input. -/
def corrApartWrong : ChangeSpec := { name := "corrApart", fn := fun _ => fun
  | [d1, d2, d3] => { results := [.lit (.bool false)], args := [d1, d2, d3] }
  | _ => none }
def CorrApartWrongFalsely : Prop := corrApartRow.holds Tryd.pinned (OpenSpec.ofChange corrApartWrong)

/-- 'twainlaw08.CorrSpent': WHATEVER THE INPUT: true; the input reads as it did. -/
def corrSpentSpec : ChangeSpec := { name := "corrSpent", fn := fun _ => fun
  | [d1, d2, d3] => { results := [.lit (.bool true)], args := [d1, d2, d3] }
  | _ => none }
def corrSpentRow : OpenClaim := { program := "ytgmlmngnedhllaadoor", sum := "e71c2c9c029d4f1dacbb7644f73219935cacb49ea6eba7443a254078028d769c", func := "twain/twainlaw08.CorrSpent", spec := "corrSpent", inPlace := ["internal/reflectlite.ValueOf", "(internal/reflectlite.Value).Type", "(internal/reflectlite.Value).IsNil", "internal/reflectlite.TypeOf", "(internal/reflectlite.Value).Elem", "(internal/reflectlite.Value).Set"], unfollowed := true, recurses := true, named := ["errors.errorType"], apart := false, laid := [("errors.errorType", laid_errors_errorType)] }
def CorrSpentSaid : Prop := corrSpentRow.holds Tryd.pinned (OpenSpec.ofChange corrSpentSpec)

/-- ITS FALSE NEIGHBOUR: 'it returns false'. Refute it at one input. -/
def corrSpentWrong : ChangeSpec := { name := "corrSpent", fn := fun _ => fun
  | [d1, d2, d3] => { results := [.lit (.bool false)], args := [d1, d2, d3] }
  | _ => none }
def CorrSpentWrongFalsely : Prop := corrSpentRow.holds Tryd.pinned (OpenSpec.ofChange corrSpentWrong)

/- THE SECOND FORM. 'bulk': how many values and letters a reading holds, each counted each time it is reached (what is shared counts as often as it is met; a slice's spare places count too). A statement '..UptoSaid' is the law's where the arguments, and the package variables that the reading takes, are together of bulk at most 1048576: NARROWER than '..Said'. Prove '..Said' where nothing that the law and all that it calls make is longer than what came in: it says more and counts as full. Else prove '..UptoSaid'. A law counts once. -/
mutual
def uptoBulk {H : Type} : DataW H → Nat
  | .lit (.string bytes) => bytes.length + 1
  | .lit _ => 1
  | .nil => 1
  | .ptr d => uptoBulk d + 1
  | .slice elems spare => uptoBulkAll elems + uptoBulkAll spare + 1
  | .agg parts => uptoBulkAll parts + 1
  | .iface _ d => uptoBulk d + 1
  | .map entries => uptoBulkEntries entries + 1
  | .held _ => 1
def uptoBulkAll {H : Type} : List (DataW H) → Nat
  | [] => 0
  | d :: r => uptoBulk d + uptoBulkAll r
def uptoBulkEntries {H : Type} : List (Lit × DataW H) → Nat
  | [] => 0
  | x :: r => uptoBulkEntry x + uptoBulkEntries r
def uptoBulkEntry {H : Type} : Lit × DataW H → Nat
  | (.string bytes, d) => bytes.length + uptoBulk d + 1
  | (_, d) => uptoBulk d + 1
 end
def uptoSmall : (H : Type) → List (DataW H) → Bool := fun _ ds => decide (uptoBulkAll ds ≤ 1048576)
def OpenSpec.upto (s : _root_.Go.ChangeSpec) : _root_.Go.OpenSpec := { _root_.Go.OpenSpec.ofChange s with cond := some uptoSmall }

/-- 'twainlaw08.CorrDeals', WHERE WHAT IT READS IS OF BULK AT MOST 1048576: true; the input reads as it did. -/
def corrDealsUptoRow : OpenClaim := { program := "ytgmlmngnedhllaadoor", sum := "e71c2c9c029d4f1dacbb7644f73219935cacb49ea6eba7443a254078028d769c", func := "twain/twainlaw08.CorrDeals", spec := "corrDeals", inPlace := ["internal/reflectlite.ValueOf", "(internal/reflectlite.Value).Type", "(internal/reflectlite.Value).IsNil", "internal/reflectlite.TypeOf", "(internal/reflectlite.Value).Elem", "(internal/reflectlite.Value).Set"], unfollowed := true, recurses := true, named := ["errors.errorType"], apart := false, laid := [("errors.errorType", laid_errors_errorType)], narrowed := true }
def CorrDealsUptoSaid : Prop := corrDealsUptoRow.holds Tryd.pinned (OpenSpec.upto corrDealsSpec)

/-- 'twainlaw08.CorrFits', WHERE WHAT IT READS IS OF BULK AT MOST 1048576: true; the input reads as it did. -/
def corrFitsUptoRow : OpenClaim := { program := "ytgmlmngnedhllaadoor", sum := "e71c2c9c029d4f1dacbb7644f73219935cacb49ea6eba7443a254078028d769c", func := "twain/twainlaw08.CorrFits", spec := "corrFits", inPlace := ["internal/reflectlite.ValueOf", "(internal/reflectlite.Value).Type", "(internal/reflectlite.Value).IsNil", "internal/reflectlite.TypeOf", "(internal/reflectlite.Value).Elem", "(internal/reflectlite.Value).Set"], unfollowed := true, recurses := true, named := ["errors.errorType"], apart := false, laid := [("errors.errorType", laid_errors_errorType)], narrowed := true }
def CorrFitsUptoSaid : Prop := corrFitsUptoRow.holds Tryd.pinned (OpenSpec.upto corrFitsSpec)

/-- 'twainlaw08.CorrLoads', WHERE WHAT IT READS IS OF BULK AT MOST 1048576: true; the input reads as it did. -/
def corrLoadsUptoRow : OpenClaim := { program := "ytgmlmngnedhllaadoor", sum := "e71c2c9c029d4f1dacbb7644f73219935cacb49ea6eba7443a254078028d769c", func := "twain/twainlaw08.CorrLoads", spec := "corrLoads", inPlace := ["internal/reflectlite.ValueOf", "(internal/reflectlite.Value).Type", "(internal/reflectlite.Value).IsNil", "internal/reflectlite.TypeOf", "(internal/reflectlite.Value).Elem", "(internal/reflectlite.Value).Set"], unfollowed := true, recurses := true, named := ["errors.errorType"], apart := false, laid := [("errors.errorType", laid_errors_errorType)], narrowed := true }
def CorrLoadsUptoSaid : Prop := corrLoadsUptoRow.holds Tryd.pinned (OpenSpec.upto corrLoadsSpec)

/-- 'twainlaw08.CorrApart', WHERE WHAT IT READS IS OF BULK AT MOST 1048576: true; the input reads as it did. -/
def corrApartUptoRow : OpenClaim := { program := "ytgmlmngnedhllaadoor", sum := "e71c2c9c029d4f1dacbb7644f73219935cacb49ea6eba7443a254078028d769c", func := "twain/twainlaw08.CorrApart", spec := "corrApart", inPlace := ["internal/reflectlite.ValueOf", "(internal/reflectlite.Value).Type", "(internal/reflectlite.Value).IsNil", "internal/reflectlite.TypeOf", "(internal/reflectlite.Value).Elem", "(internal/reflectlite.Value).Set"], unfollowed := true, recurses := true, named := ["errors.errorType"], apart := false, laid := [("errors.errorType", laid_errors_errorType)], narrowed := true }
def CorrApartUptoSaid : Prop := corrApartUptoRow.holds Tryd.pinned (OpenSpec.upto corrApartSpec)

/-- 'twainlaw08.CorrSpent', WHERE WHAT IT READS IS OF BULK AT MOST 1048576: true; the input reads as it did. -/
def corrSpentUptoRow : OpenClaim := { program := "ytgmlmngnedhllaadoor", sum := "e71c2c9c029d4f1dacbb7644f73219935cacb49ea6eba7443a254078028d769c", func := "twain/twainlaw08.CorrSpent", spec := "corrSpent", inPlace := ["internal/reflectlite.ValueOf", "(internal/reflectlite.Value).Type", "(internal/reflectlite.Value).IsNil", "internal/reflectlite.TypeOf", "(internal/reflectlite.Value).Elem", "(internal/reflectlite.Value).Set"], unfollowed := true, recurses := true, named := ["errors.errorType"], apart := false, laid := [("errors.errorType", laid_errors_errorType)], narrowed := true }
def CorrSpentUptoSaid : Prop := corrSpentUptoRow.holds Tryd.pinned (OpenSpec.upto corrSpentSpec)

end Rows
end Go.Proofs.YtgmlmngnedhllaaDoor
