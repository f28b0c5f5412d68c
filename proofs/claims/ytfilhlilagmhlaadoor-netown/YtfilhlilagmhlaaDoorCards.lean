/-
  DERIVED. GIVEN WITH THE SEED: THE CARDS: each row of YtfilhlilagmhlaaDoorRows.lean that lists a variable, with what it lists TIED to the program's text (the seventh form; the later family's looks); each row that meets fmt, with fmt's text TOLD by the authors' own Lean function (tested against real Go, not proved from fmt's source: count such statements apart). THE CARD IS WHAT COUNTS. Prove the row's statement (the work); the ties are given (YtfilhlilagmhlaaDoorTie.lean); close each card by the builder's one call (the guide's Derived/Test/ToyasCard.lean, 'card_holds'). Laid BY PROGRAM, IN A SANDBOX (cutbox-door.mjs). By AI agents, Wed Nov 11 2026. No macro, syntax, notation, axiom, sorry.
-/
import Derived.Test.YtfilhlilagmhlaaDoorRows
import GoSem.ClaimSeven
namespace Go.Proofs.YtfilhlilagmhlaaDoor
namespace Rows

/-- THE TIED CARD OF 'twainlaw06.NetPlays'. -/
def netPlaysCard : Claim7 := { stood := { row := netPlaysRow, standIns := [], harness := (true, "af088442ccc77bc479c7e2a923c38a3a8be4bb0b16855ca1d3eb794268a7b65b"), looks := true }, kinds := [], alts := [], laidByText := true, laidKinds := [.handle], laidTests := true, laidLooks := .later }
def NetPlaysCardSaid : Prop := Claim7.holds Tryd.pinned (.plain (OpenSpec.ofChange netPlaysSpec)) netPlaysCard

/-- THE TIED CARD OF 'twainlaw06.NetFull'. -/
def netFullCard : Claim7 := { stood := { row := netFullRow, standIns := [], harness := (true, "af088442ccc77bc479c7e2a923c38a3a8be4bb0b16855ca1d3eb794268a7b65b"), looks := true }, kinds := [], alts := [], laidByText := true, laidKinds := [.handle], laidTests := true, laidLooks := .later }
def NetFullCardSaid : Prop := Claim7.holds Tryd.pinned (.plain (OpenSpec.ofChange netFullSpec)) netFullCard

/-- THE TIED CARD OF 'twainlaw06.NetOwn'. -/
def netOwnCard : Claim7 := { stood := { row := netOwnRow, standIns := [], harness := (true, "af088442ccc77bc479c7e2a923c38a3a8be4bb0b16855ca1d3eb794268a7b65b"), looks := true }, kinds := [], alts := [], laidByText := true, laidKinds := [.handle], laidTests := true, laidLooks := .later }
def NetOwnCardSaid : Prop := Claim7.holds Tryd.pinned (.plain (OpenSpec.ofChange netOwnSpec)) netOwnCard

/-- THE TIED CARD OF 'twainlaw06.NetOrder'. -/
def netOrderCard : Claim7 := { stood := { row := netOrderRow, standIns := [], harness := (true, "af088442ccc77bc479c7e2a923c38a3a8be4bb0b16855ca1d3eb794268a7b65b"), looks := true }, kinds := [], alts := [], laidByText := true, laidKinds := [.handle], laidTests := true, laidLooks := .later }
def NetOrderCardSaid : Prop := Claim7.holds Tryd.pinned (.plain (OpenSpec.ofChange netOrderSpec)) netOrderCard

/-- THE SECOND FORM's CARD OF 'twainlaw06.NetPlays'. -/
def netPlaysUptoCard : Claim7 := { stood := { row := netPlaysUptoRow, standIns := [], harness := (true, "af088442ccc77bc479c7e2a923c38a3a8be4bb0b16855ca1d3eb794268a7b65b"), looks := true }, kinds := [], alts := [], laidByText := true, laidKinds := [.handle], laidTests := true, laidLooks := .later }
def NetPlaysUptoCardSaid : Prop := Claim7.holds Tryd.pinned (.plain (OpenSpec.upto netPlaysSpec)) netPlaysUptoCard

/-- THE SECOND FORM's CARD OF 'twainlaw06.NetFull'. -/
def netFullUptoCard : Claim7 := { stood := { row := netFullUptoRow, standIns := [], harness := (true, "af088442ccc77bc479c7e2a923c38a3a8be4bb0b16855ca1d3eb794268a7b65b"), looks := true }, kinds := [], alts := [], laidByText := true, laidKinds := [.handle], laidTests := true, laidLooks := .later }
def NetFullUptoCardSaid : Prop := Claim7.holds Tryd.pinned (.plain (OpenSpec.upto netFullSpec)) netFullUptoCard

/-- THE SECOND FORM's CARD OF 'twainlaw06.NetOwn'. -/
def netOwnUptoCard : Claim7 := { stood := { row := netOwnUptoRow, standIns := [], harness := (true, "af088442ccc77bc479c7e2a923c38a3a8be4bb0b16855ca1d3eb794268a7b65b"), looks := true }, kinds := [], alts := [], laidByText := true, laidKinds := [.handle], laidTests := true, laidLooks := .later }
def NetOwnUptoCardSaid : Prop := Claim7.holds Tryd.pinned (.plain (OpenSpec.upto netOwnSpec)) netOwnUptoCard

/-- THE SECOND FORM's CARD OF 'twainlaw06.NetOrder'. -/
def netOrderUptoCard : Claim7 := { stood := { row := netOrderUptoRow, standIns := [], harness := (true, "af088442ccc77bc479c7e2a923c38a3a8be4bb0b16855ca1d3eb794268a7b65b"), looks := true }, kinds := [], alts := [], laidByText := true, laidKinds := [.handle], laidTests := true, laidLooks := .later }
def NetOrderUptoCardSaid : Prop := Claim7.holds Tryd.pinned (.plain (OpenSpec.upto netOrderSpec)) netOrderUptoCard
end Rows
end Go.Proofs.YtfilhlilagmhlaaDoor
