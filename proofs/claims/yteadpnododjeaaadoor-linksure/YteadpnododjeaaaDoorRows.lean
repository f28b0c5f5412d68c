/-
  NARROWER THAN 'FOR EVERY INPUT', by the rows' own cells (each row's printed sentence says how): LinkFrames: laid · LinkPlays: laid · LinkSure: laid · LinkEnds: laid · LinkFull: laid · LinkOwn: laid · LinkTurned: laid.
  DERIVED. THE GIVEN ROWS OF THIS SEAT. 7 by the template 'for every input the law returns true; each argument reads behind the call as it read before'; 0 by the template 'total and deterministic' (their statements: YteadpnododjeaaaDoorTotals.lean).
  GIVEN WITH THE SEED: the statements are not yours to turn. If you find one false, say at which input.
  Laid BY PROGRAM, IN A SANDBOX (cutbox-rows.mjs): the forced cells as the released guide's own fill.sh prints them over the translation d48d2b158c34add8… (all of the seat's roots in one cut). By AI agents, Wed Nov 11 2026. No macro, syntax, notation, axiom, sorry.
-/
import Derived.Test.YteadpnododjeaaaDoorChecked
import GoSem.Claim
import GoSem.ClaimJoined
import GoSem.ClaimMapViews
import Derived.JoinedTies
import Derived.KernelRfl
namespace Go.Proofs.YteadpnododjeaaaDoor
/- THE CELL 'sum', in the pinned program and in every row, IS THE sha256 OF THE DUMP (.gsa) THAT YteadpnododjeaaaDoorProg.lean LOADS. Nothing in Lean hashes anything: it is a label: what it is worth is what the hold of that sum in a sandbox is worth. -/
noncomputable def Tryd.pinned : Pinned := { name := "yteadpnododjeaaadoor", sum := "d48d2b158c34add88ba6a6a6c290b6ee9260e9a6306988943c96aa7fc65c7bcb", checked := Tryd.checked }
namespace Rows
def none {H : Type} : Left H := { results := [], args := [] }

/- WHAT THE LISTED PACKAGE-LEVEL VARIABLES READ AS WHEN THE CALL BEGINS. Each datum BY PROGRAM (the guide's laid-datum.mjs) off the statement by which the dump's own 'gosem.cut.vars' lays the variable. In a bare row this is a premise. The card (YteadpnododjeaaaDoorCards.lean) ties it to the program's text. -/
def laid_errors_errorType {H : Type} : DataW H := .iface "internal/reflectlite.rtype" (.agg [.ptr (.lit (.string [101, 114, 114, 111, 114]))])
def laid_twain_link_halves {H : Type} : DataW H := .agg [.lit (.int .u32 0), .lit (.int .u32 498536548), .lit (.int .u32 997073096), .lit (.int .u32 651767980), .lit (.int .u32 1994146192), .lit (.int .u32 1802195444), .lit (.int .u32 1303535960), .lit (.int .u32 1342533948), .lit (.int .u32 3988292384), .lit (.int .u32 4027552580), .lit (.int .u32 3604390888), .lit (.int .u32 3412177804), .lit (.int .u32 2607071920), .lit (.int .u32 2262029012), .lit (.int .u32 2685067896), .lit (.int .u32 3183342108)]

/-- 'twainlaw07.LinkFrames': WHATEVER THE INPUT: true; the input reads as it did. -/
def linkFramesSpec : ChangeSpec := { name := "linkFrames", fn := fun _ => fun
  | [d1, d2, d3] => { results := [.lit (.bool true)], args := [d1, d2, d3] }
  | _ => none }
def linkFramesRow : OpenClaim := { program := "yteadpnododjeaaadoor", sum := "d48d2b158c34add88ba6a6a6c290b6ee9260e9a6306988943c96aa7fc65c7bcb", func := "twain/twainlaw07.LinkFrames", spec := "linkFrames", inPlace := ["internal/reflectlite.ValueOf", "(internal/reflectlite.Value).Type", "(internal/reflectlite.Value).IsNil", "internal/reflectlite.TypeOf", "(internal/reflectlite.Value).Elem", "(internal/reflectlite.Value).Set"], unfollowed := true, recurses := true, named := ["errors.errorType", "twain/link.halves"], apart := false, laid := [("errors.errorType", laid_errors_errorType), ("twain/link.halves", laid_twain_link_halves)] }
def LinkFramesSaid : Prop := linkFramesRow.holds Tryd.pinned (OpenSpec.ofChange linkFramesSpec)

/-- ITS FALSE NEIGHBOUR: 'it returns false'. Refute it at one input. -/
def linkFramesWrong : ChangeSpec := { name := "linkFrames", fn := fun _ => fun
  | [d1, d2, d3] => { results := [.lit (.bool false)], args := [d1, d2, d3] }
  | _ => none }
def LinkFramesWrongFalsely : Prop := linkFramesRow.holds Tryd.pinned (OpenSpec.ofChange linkFramesWrong)

/-- 'twainlaw07.LinkPlays': WHATEVER THE INPUT: true; the input reads as it did. -/
def linkPlaysSpec : ChangeSpec := { name := "linkPlays", fn := fun _ => fun
  | [d] => { results := [.lit (.bool true)], args := [d] }
  | _ => none }
def linkPlaysRow : OpenClaim := { program := "yteadpnododjeaaadoor", sum := "d48d2b158c34add88ba6a6a6c290b6ee9260e9a6306988943c96aa7fc65c7bcb", func := "twain/twainlaw07.LinkPlays", spec := "linkPlays", inPlace := ["internal/reflectlite.ValueOf", "(internal/reflectlite.Value).Type", "(internal/reflectlite.Value).IsNil", "internal/reflectlite.TypeOf", "(internal/reflectlite.Value).Elem", "(internal/reflectlite.Value).Set"], unfollowed := true, recurses := true, named := ["errors.errorType", "twain/link.halves"], apart := false, laid := [("errors.errorType", laid_errors_errorType), ("twain/link.halves", laid_twain_link_halves)] }
def LinkPlaysSaid : Prop := linkPlaysRow.holds Tryd.pinned (OpenSpec.ofChange linkPlaysSpec)

/-- ITS FALSE NEIGHBOUR: 'it returns false'. Refute it at one input. -/
def linkPlaysWrong : ChangeSpec := { name := "linkPlays", fn := fun _ => fun
  | [d] => { results := [.lit (.bool false)], args := [d] }
  | _ => none }
def LinkPlaysWrongFalsely : Prop := linkPlaysRow.holds Tryd.pinned (OpenSpec.ofChange linkPlaysWrong)

/-- 'twainlaw07.LinkSure': WHATEVER THE INPUT: true; the input reads as it did. -/
def linkSureSpec : ChangeSpec := { name := "linkSure", fn := fun _ => fun
  | [d] => { results := [.lit (.bool true)], args := [d] }
  | _ => none }
def linkSureRow : OpenClaim := { program := "yteadpnododjeaaadoor", sum := "d48d2b158c34add88ba6a6a6c290b6ee9260e9a6306988943c96aa7fc65c7bcb", func := "twain/twainlaw07.LinkSure", spec := "linkSure", inPlace := ["internal/reflectlite.ValueOf", "(internal/reflectlite.Value).Type", "(internal/reflectlite.Value).IsNil", "internal/reflectlite.TypeOf", "(internal/reflectlite.Value).Elem", "(internal/reflectlite.Value).Set"], unfollowed := true, recurses := true, named := ["errors.errorType", "twain/link.halves"], apart := false, laid := [("errors.errorType", laid_errors_errorType), ("twain/link.halves", laid_twain_link_halves)] }
def LinkSureSaid : Prop := linkSureRow.holds Tryd.pinned (OpenSpec.ofChange linkSureSpec)

/-- ITS FALSE NEIGHBOUR: 'it returns false'. Refute it at one input. -/
def linkSureWrong : ChangeSpec := { name := "linkSure", fn := fun _ => fun
  | [d] => { results := [.lit (.bool false)], args := [d] }
  | _ => none }
def LinkSureWrongFalsely : Prop := linkSureRow.holds Tryd.pinned (OpenSpec.ofChange linkSureWrong)

/-- 'twainlaw07.LinkEnds': WHATEVER THE INPUT: true; the input reads as it did. -/
def linkEndsSpec : ChangeSpec := { name := "linkEnds", fn := fun _ => fun
  | [d] => { results := [.lit (.bool true)], args := [d] }
  | _ => none }
def linkEndsRow : OpenClaim := { program := "yteadpnododjeaaadoor", sum := "d48d2b158c34add88ba6a6a6c290b6ee9260e9a6306988943c96aa7fc65c7bcb", func := "twain/twainlaw07.LinkEnds", spec := "linkEnds", inPlace := ["internal/reflectlite.ValueOf", "(internal/reflectlite.Value).Type", "(internal/reflectlite.Value).IsNil", "internal/reflectlite.TypeOf", "(internal/reflectlite.Value).Elem", "(internal/reflectlite.Value).Set"], unfollowed := true, recurses := true, named := ["errors.errorType", "twain/link.halves"], apart := false, laid := [("errors.errorType", laid_errors_errorType), ("twain/link.halves", laid_twain_link_halves)] }
def LinkEndsSaid : Prop := linkEndsRow.holds Tryd.pinned (OpenSpec.ofChange linkEndsSpec)

/-- ITS FALSE NEIGHBOUR: 'it returns false'. Refute it at one input. -/
def linkEndsWrong : ChangeSpec := { name := "linkEnds", fn := fun _ => fun
  | [d] => { results := [.lit (.bool false)], args := [d] }
  | _ => none }
def LinkEndsWrongFalsely : Prop := linkEndsRow.holds Tryd.pinned (OpenSpec.ofChange linkEndsWrong)

/-- 'twainlaw07.LinkFull': WHATEVER THE INPUT: true; the input reads as it did. -/
def linkFullSpec : ChangeSpec := { name := "linkFull", fn := fun _ => fun
  | [d] => { results := [.lit (.bool true)], args := [d] }
  | _ => none }
def linkFullRow : OpenClaim := { program := "yteadpnododjeaaadoor", sum := "d48d2b158c34add88ba6a6a6c290b6ee9260e9a6306988943c96aa7fc65c7bcb", func := "twain/twainlaw07.LinkFull", spec := "linkFull", inPlace := ["internal/reflectlite.ValueOf", "(internal/reflectlite.Value).Type", "(internal/reflectlite.Value).IsNil", "internal/reflectlite.TypeOf", "(internal/reflectlite.Value).Elem", "(internal/reflectlite.Value).Set"], unfollowed := true, recurses := true, named := ["errors.errorType", "twain/link.halves"], apart := false, laid := [("errors.errorType", laid_errors_errorType), ("twain/link.halves", laid_twain_link_halves)] }
def LinkFullSaid : Prop := linkFullRow.holds Tryd.pinned (OpenSpec.ofChange linkFullSpec)

/-- ITS FALSE NEIGHBOUR: 'it returns false'. Refute it at one input. -/
def linkFullWrong : ChangeSpec := { name := "linkFull", fn := fun _ => fun
  | [d] => { results := [.lit (.bool false)], args := [d] }
  | _ => none }
def LinkFullWrongFalsely : Prop := linkFullRow.holds Tryd.pinned (OpenSpec.ofChange linkFullWrong)

/-- 'twainlaw07.LinkOwn': WHATEVER THE INPUT: true; the input reads as it did. -/
def linkOwnSpec : ChangeSpec := { name := "linkOwn", fn := fun _ => fun
  | [d] => { results := [.lit (.bool true)], args := [d] }
  | _ => none }
def linkOwnRow : OpenClaim := { program := "yteadpnododjeaaadoor", sum := "d48d2b158c34add88ba6a6a6c290b6ee9260e9a6306988943c96aa7fc65c7bcb", func := "twain/twainlaw07.LinkOwn", spec := "linkOwn", inPlace := ["internal/reflectlite.ValueOf", "(internal/reflectlite.Value).Type", "(internal/reflectlite.Value).IsNil", "internal/reflectlite.TypeOf", "(internal/reflectlite.Value).Elem", "(internal/reflectlite.Value).Set"], unfollowed := true, recurses := true, named := ["errors.errorType", "twain/link.halves"], apart := false, laid := [("errors.errorType", laid_errors_errorType), ("twain/link.halves", laid_twain_link_halves)] }
def LinkOwnSaid : Prop := linkOwnRow.holds Tryd.pinned (OpenSpec.ofChange linkOwnSpec)

/-- ITS FALSE NEIGHBOUR: 'it returns false'. Refute it at one input. -/
def linkOwnWrong : ChangeSpec := { name := "linkOwn", fn := fun _ => fun
  | [d] => { results := [.lit (.bool false)], args := [d] }
  | _ => none }
def LinkOwnWrongFalsely : Prop := linkOwnRow.holds Tryd.pinned (OpenSpec.ofChange linkOwnWrong)

/-- 'twainlaw07.LinkTurned': WHATEVER THE INPUT: true; the input reads as it did. -/
def linkTurnedSpec : ChangeSpec := { name := "linkTurned", fn := fun _ => fun
  | [d1, d2, d3] => { results := [.lit (.bool true)], args := [d1, d2, d3] }
  | _ => none }
def linkTurnedRow : OpenClaim := { program := "yteadpnododjeaaadoor", sum := "d48d2b158c34add88ba6a6a6c290b6ee9260e9a6306988943c96aa7fc65c7bcb", func := "twain/twainlaw07.LinkTurned", spec := "linkTurned", inPlace := ["internal/reflectlite.ValueOf", "(internal/reflectlite.Value).Type", "(internal/reflectlite.Value).IsNil", "internal/reflectlite.TypeOf", "(internal/reflectlite.Value).Elem", "(internal/reflectlite.Value).Set"], unfollowed := true, recurses := true, named := ["errors.errorType", "twain/link.halves"], apart := false, laid := [("errors.errorType", laid_errors_errorType), ("twain/link.halves", laid_twain_link_halves)] }
def LinkTurnedSaid : Prop := linkTurnedRow.holds Tryd.pinned (OpenSpec.ofChange linkTurnedSpec)

/-- ITS FALSE NEIGHBOUR: 'it returns false'. Refute it at one input. -/
def linkTurnedWrong : ChangeSpec := { name := "linkTurned", fn := fun _ => fun
  | [d1, d2, d3] => { results := [.lit (.bool false)], args := [d1, d2, d3] }
  | _ => none }
def LinkTurnedWrongFalsely : Prop := linkTurnedRow.holds Tryd.pinned (OpenSpec.ofChange linkTurnedWrong)

/- THE SECOND FORM. 'bulk': how many values and letters a reading holds, each counted each time it is reached (what is shared counts as often as it is met; a slice's spare places count too). A statement '..UptoSaid' is the law's where the arguments, and the package variables that the reading takes, are together of bulk at most 1048576: NARROWER than '..Said'. Prove '..Said' where nothing that the law and all that it calls make is longer than what came in: it says more and counts as full. Else prove '..UptoSaid'. A law counts once. -/
mutual
def uptoBulk {H : Type} : DataW H → Nat
  | .lit (.string bytes) => bytes.length + 1
  | .lit _ => 1
  | .nil => 1
  | .ptr d => uptoBulk d + 1
  | .slice elems spare => uptoBulkAll elems + uptoBulkAll spare + 1
  | .agg parts => uptoBulkAll parts + 1
  | .iface _ d => uptoBulk d + 1
  | .map entries => uptoBulkEntries entries + 1
  | .held _ => 1
def uptoBulkAll {H : Type} : List (DataW H) → Nat
  | [] => 0
  | d :: r => uptoBulk d + uptoBulkAll r
def uptoBulkEntries {H : Type} : List (Lit × DataW H) → Nat
  | [] => 0
  | x :: r => uptoBulkEntry x + uptoBulkEntries r
def uptoBulkEntry {H : Type} : Lit × DataW H → Nat
  | (.string bytes, d) => bytes.length + uptoBulk d + 1
  | (_, d) => uptoBulk d + 1
 end
def uptoSmall : (H : Type) → List (DataW H) → Bool := fun _ ds => decide (uptoBulkAll ds ≤ 1048576)
def OpenSpec.upto (s : _root_.Go.ChangeSpec) : _root_.Go.OpenSpec := { _root_.Go.OpenSpec.ofChange s with cond := some uptoSmall }

/-- 'twainlaw07.LinkFrames', WHERE WHAT IT READS IS OF BULK AT MOST 1048576: true; the input reads as it did. -/
def linkFramesUptoRow : OpenClaim := { program := "yteadpnododjeaaadoor", sum := "d48d2b158c34add88ba6a6a6c290b6ee9260e9a6306988943c96aa7fc65c7bcb", func := "twain/twainlaw07.LinkFrames", spec := "linkFrames", inPlace := ["internal/reflectlite.ValueOf", "(internal/reflectlite.Value).Type", "(internal/reflectlite.Value).IsNil", "internal/reflectlite.TypeOf", "(internal/reflectlite.Value).Elem", "(internal/reflectlite.Value).Set"], unfollowed := true, recurses := true, named := ["errors.errorType", "twain/link.halves"], apart := false, laid := [("errors.errorType", laid_errors_errorType), ("twain/link.halves", laid_twain_link_halves)], narrowed := true }
def LinkFramesUptoSaid : Prop := linkFramesUptoRow.holds Tryd.pinned (OpenSpec.upto linkFramesSpec)

/-- 'twainlaw07.LinkPlays', WHERE WHAT IT READS IS OF BULK AT MOST 1048576: true; the input reads as it did. -/
def linkPlaysUptoRow : OpenClaim := { program := "yteadpnododjeaaadoor", sum := "d48d2b158c34add88ba6a6a6c290b6ee9260e9a6306988943c96aa7fc65c7bcb", func := "twain/twainlaw07.LinkPlays", spec := "linkPlays", inPlace := ["internal/reflectlite.ValueOf", "(internal/reflectlite.Value).Type", "(internal/reflectlite.Value).IsNil", "internal/reflectlite.TypeOf", "(internal/reflectlite.Value).Elem", "(internal/reflectlite.Value).Set"], unfollowed := true, recurses := true, named := ["errors.errorType", "twain/link.halves"], apart := false, laid := [("errors.errorType", laid_errors_errorType), ("twain/link.halves", laid_twain_link_halves)], narrowed := true }
def LinkPlaysUptoSaid : Prop := linkPlaysUptoRow.holds Tryd.pinned (OpenSpec.upto linkPlaysSpec)

/-- 'twainlaw07.LinkSure', WHERE WHAT IT READS IS OF BULK AT MOST 1048576: true; the input reads as it did. -/
def linkSureUptoRow : OpenClaim := { program := "yteadpnododjeaaadoor", sum := "d48d2b158c34add88ba6a6a6c290b6ee9260e9a6306988943c96aa7fc65c7bcb", func := "twain/twainlaw07.LinkSure", spec := "linkSure", inPlace := ["internal/reflectlite.ValueOf", "(internal/reflectlite.Value).Type", "(internal/reflectlite.Value).IsNil", "internal/reflectlite.TypeOf", "(internal/reflectlite.Value).Elem", "(internal/reflectlite.Value).Set"], unfollowed := true, recurses := true, named := ["errors.errorType", "twain/link.halves"], apart := false, laid := [("errors.errorType", laid_errors_errorType), ("twain/link.halves", laid_twain_link_halves)], narrowed := true }
def LinkSureUptoSaid : Prop := linkSureUptoRow.holds Tryd.pinned (OpenSpec.upto linkSureSpec)

/-- 'twainlaw07.LinkEnds', WHERE WHAT IT READS IS OF BULK AT MOST 1048576: true; the input reads as it did. -/
def linkEndsUptoRow : OpenClaim := { program := "yteadpnododjeaaadoor", sum := "d48d2b158c34add88ba6a6a6c290b6ee9260e9a6306988943c96aa7fc65c7bcb", func := "twain/twainlaw07.LinkEnds", spec := "linkEnds", inPlace := ["internal/reflectlite.ValueOf", "(internal/reflectlite.Value).Type", "(internal/reflectlite.Value).IsNil", "internal/reflectlite.TypeOf", "(internal/reflectlite.Value).Elem", "(internal/reflectlite.Value).Set"], unfollowed := true, recurses := true, named := ["errors.errorType", "twain/link.halves"], apart := false, laid := [("errors.errorType", laid_errors_errorType), ("twain/link.halves", laid_twain_link_halves)], narrowed := true }
def LinkEndsUptoSaid : Prop := linkEndsUptoRow.holds Tryd.pinned (OpenSpec.upto linkEndsSpec)

/-- 'twainlaw07.LinkFull', WHERE WHAT IT READS IS OF BULK AT MOST 1048576: true; the input reads as it did. -/
def linkFullUptoRow : OpenClaim := { program := "yteadpnododjeaaadoor", sum := "d48d2b158c34add88ba6a6a6c290b6ee9260e9a6306988943c96aa7fc65c7bcb", func := "twain/twainlaw07.LinkFull", spec := "linkFull", inPlace := ["internal/reflectlite.ValueOf", "(internal/reflectlite.Value).Type", "(internal/reflectlite.Value).IsNil", "internal/reflectlite.TypeOf", "(internal/reflectlite.Value).Elem", "(internal/reflectlite.Value).Set"], unfollowed := true, recurses := true, named := ["errors.errorType", "twain/link.halves"], apart := false, laid := [("errors.errorType", laid_errors_errorType), ("twain/link.halves", laid_twain_link_halves)], narrowed := true }
def LinkFullUptoSaid : Prop := linkFullUptoRow.holds Tryd.pinned (OpenSpec.upto linkFullSpec)

/-- 'twainlaw07.LinkOwn', WHERE WHAT IT READS IS OF BULK AT MOST 1048576: true; the input reads as it did. -/
def linkOwnUptoRow : OpenClaim := { program := "yteadpnododjeaaadoor", sum := "d48d2b158c34add88ba6a6a6c290b6ee9260e9a6306988943c96aa7fc65c7bcb", func := "twain/twainlaw07.LinkOwn", spec := "linkOwn", inPlace := ["internal/reflectlite.ValueOf", "(internal/reflectlite.Value).Type", "(internal/reflectlite.Value).IsNil", "internal/reflectlite.TypeOf", "(internal/reflectlite.Value).Elem", "(internal/reflectlite.Value).Set"], unfollowed := true, recurses := true, named := ["errors.errorType", "twain/link.halves"], apart := false, laid := [("errors.errorType", laid_errors_errorType), ("twain/link.halves", laid_twain_link_halves)], narrowed := true }
def LinkOwnUptoSaid : Prop := linkOwnUptoRow.holds Tryd.pinned (OpenSpec.upto linkOwnSpec)

/-- 'twainlaw07.LinkTurned', WHERE WHAT IT READS IS OF BULK AT MOST 1048576: true; the input reads as it did. -/
def linkTurnedUptoRow : OpenClaim := { program := "yteadpnododjeaaadoor", sum := "d48d2b158c34add88ba6a6a6c290b6ee9260e9a6306988943c96aa7fc65c7bcb", func := "twain/twainlaw07.LinkTurned", spec := "linkTurned", inPlace := ["internal/reflectlite.ValueOf", "(internal/reflectlite.Value).Type", "(internal/reflectlite.Value).IsNil", "internal/reflectlite.TypeOf", "(internal/reflectlite.Value).Elem", "(internal/reflectlite.Value).Set"], unfollowed := true, recurses := true, named := ["errors.errorType", "twain/link.halves"], apart := false, laid := [("errors.errorType", laid_errors_errorType), ("twain/link.halves", laid_twain_link_halves)], narrowed := true }
def LinkTurnedUptoSaid : Prop := linkTurnedUptoRow.holds Tryd.pinned (OpenSpec.upto linkTurnedSpec)

end Rows
end Go.Proofs.YteadpnododjeaaaDoor
