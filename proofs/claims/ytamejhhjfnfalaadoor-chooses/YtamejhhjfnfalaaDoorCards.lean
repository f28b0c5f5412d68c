/-
  DERIVED. GIVEN WITH THE SEED: THE CARDS: each row of YtamejhhjfnfalaaDoorRows.lean that lists a variable, with what it lists TIED to the program's text (the seventh form; the later family's looks); each row that meets fmt, with fmt's text TOLD by the authors' own Lean function (tested against real Go, not proved from fmt's source: count such statements apart). THE CARD IS WHAT COUNTS. Prove the row's statement (the work); the ties are given (YtamejhhjfnfalaaDoorTie.lean); close each card by the builder's one call (the guide's Derived/Test/ToyasCard.lean, 'card_holds'). Laid BY PROGRAM, IN A SANDBOX (cutbox-door.mjs). By AI agents, Wed Nov 11 2026. No macro, syntax, notation, axiom, sorry.
-/
import Derived.Test.YtamejhhjfnfalaaDoorRows
import GoSem.ClaimSeven
namespace Go.Proofs.YtamejhhjfnfalaaDoor
namespace Rows

/-- THE TIED CARD OF 'twainlaw10.GarbleTables'. -/
def garbleTablesCard : Claim7 := { stood := { row := garbleTablesRow, standIns := [], harness := (true, "5258487eed3348d1b606a2cc7a4f2dbbcedb964a6cacec907ab5fd8989dbca5a"), looks := true }, kinds := [], alts := [], laidByText := true, laidKinds := [.handle], laidTests := true, laidLooks := .later }
def GarbleTablesCardSaid : Prop := Claim7.holds Tryd.pinned (.plain (OpenSpec.ofChange garbleTablesSpec)) garbleTablesCard

/-- THE TIED CARD OF 'twainlaw10.GarbleRight'. -/
def garbleRightCard : Claim7 := { stood := { row := garbleRightRow, standIns := [], harness := (true, "5258487eed3348d1b606a2cc7a4f2dbbcedb964a6cacec907ab5fd8989dbca5a"), looks := true }, kinds := [], alts := [], laidByText := true, laidKinds := [.handle], laidTests := true, laidLooks := .later }
def GarbleRightCardSaid : Prop := Claim7.holds Tryd.pinned (.plain (OpenSpec.ofChange garbleRightSpec)) garbleRightCard

/-- THE TIED CARD OF 'twainlaw10.GarbleEvals'. -/
def garbleEvalsCard : Claim7 := { stood := { row := garbleEvalsRow, standIns := [], harness := (true, "5258487eed3348d1b606a2cc7a4f2dbbcedb964a6cacec907ab5fd8989dbca5a"), looks := true }, kinds := [], alts := [], laidByText := true, laidKinds := [.handle], laidTests := true, laidLooks := .later }
def GarbleEvalsCardSaid : Prop := Claim7.holds Tryd.pinned (.plain (OpenSpec.ofChange garbleEvalsSpec)) garbleEvalsCard

/-- THE TIED CARD OF 'twainlaw10.GarbleChooses'. -/
def garbleChoosesCard : Claim7 := { stood := { row := garbleChoosesRow, standIns := [], harness := (true, "5258487eed3348d1b606a2cc7a4f2dbbcedb964a6cacec907ab5fd8989dbca5a"), looks := true }, kinds := [], alts := [], laidByText := true, laidKinds := [.handle], laidTests := true, laidLooks := .later }
def GarbleChoosesCardSaid : Prop := Claim7.holds Tryd.pinned (.plain (OpenSpec.ofChange garbleChoosesSpec)) garbleChoosesCard

/-- THE TIED CARD OF 'twainlaw10.GarbleFree'. -/
def garbleFreeCard : Claim7 := { stood := { row := garbleFreeRow, standIns := [], harness := (true, "5258487eed3348d1b606a2cc7a4f2dbbcedb964a6cacec907ab5fd8989dbca5a"), looks := true }, kinds := [], alts := [], laidByText := true, laidKinds := [.handle], laidTests := true, laidLooks := .later }
def GarbleFreeCardSaid : Prop := Claim7.holds Tryd.pinned (.plain (OpenSpec.ofChange garbleFreeSpec)) garbleFreeCard

/-- THE SECOND FORM's CARD OF 'twainlaw10.GarbleTables'. -/
def garbleTablesUptoCard : Claim7 := { stood := { row := garbleTablesUptoRow, standIns := [], harness := (true, "5258487eed3348d1b606a2cc7a4f2dbbcedb964a6cacec907ab5fd8989dbca5a"), looks := true }, kinds := [], alts := [], laidByText := true, laidKinds := [.handle], laidTests := true, laidLooks := .later }
def GarbleTablesUptoCardSaid : Prop := Claim7.holds Tryd.pinned (.plain (OpenSpec.upto garbleTablesSpec)) garbleTablesUptoCard

/-- THE SECOND FORM's CARD OF 'twainlaw10.GarbleRight'. -/
def garbleRightUptoCard : Claim7 := { stood := { row := garbleRightUptoRow, standIns := [], harness := (true, "5258487eed3348d1b606a2cc7a4f2dbbcedb964a6cacec907ab5fd8989dbca5a"), looks := true }, kinds := [], alts := [], laidByText := true, laidKinds := [.handle], laidTests := true, laidLooks := .later }
def GarbleRightUptoCardSaid : Prop := Claim7.holds Tryd.pinned (.plain (OpenSpec.upto garbleRightSpec)) garbleRightUptoCard

/-- THE SECOND FORM's CARD OF 'twainlaw10.GarbleEvals'. -/
def garbleEvalsUptoCard : Claim7 := { stood := { row := garbleEvalsUptoRow, standIns := [], harness := (true, "5258487eed3348d1b606a2cc7a4f2dbbcedb964a6cacec907ab5fd8989dbca5a"), looks := true }, kinds := [], alts := [], laidByText := true, laidKinds := [.handle], laidTests := true, laidLooks := .later }
def GarbleEvalsUptoCardSaid : Prop := Claim7.holds Tryd.pinned (.plain (OpenSpec.upto garbleEvalsSpec)) garbleEvalsUptoCard

/-- THE SECOND FORM's CARD OF 'twainlaw10.GarbleChooses'. -/
def garbleChoosesUptoCard : Claim7 := { stood := { row := garbleChoosesUptoRow, standIns := [], harness := (true, "5258487eed3348d1b606a2cc7a4f2dbbcedb964a6cacec907ab5fd8989dbca5a"), looks := true }, kinds := [], alts := [], laidByText := true, laidKinds := [.handle], laidTests := true, laidLooks := .later }
def GarbleChoosesUptoCardSaid : Prop := Claim7.holds Tryd.pinned (.plain (OpenSpec.upto garbleChoosesSpec)) garbleChoosesUptoCard

/-- THE SECOND FORM's CARD OF 'twainlaw10.GarbleFree'. -/
def garbleFreeUptoCard : Claim7 := { stood := { row := garbleFreeUptoRow, standIns := [], harness := (true, "5258487eed3348d1b606a2cc7a4f2dbbcedb964a6cacec907ab5fd8989dbca5a"), looks := true }, kinds := [], alts := [], laidByText := true, laidKinds := [.handle], laidTests := true, laidLooks := .later }
def GarbleFreeUptoCardSaid : Prop := Claim7.holds Tryd.pinned (.plain (OpenSpec.upto garbleFreeSpec)) garbleFreeUptoCard
end Rows
end Go.Proofs.YtamejhhjfnfalaaDoor
