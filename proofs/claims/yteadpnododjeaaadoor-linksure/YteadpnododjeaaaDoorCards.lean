/-
  DERIVED. GIVEN WITH THE SEED: THE CARDS: each row of YteadpnododjeaaaDoorRows.lean that lists a variable, with what it lists TIED to the program's text (the seventh form; the later family's looks); each row that meets fmt, with fmt's text TOLD by the authors' own Lean function (tested against real Go, not proved from fmt's source: count such statements apart). THE CARD IS WHAT COUNTS. Prove the row's statement (the work); the ties are given (YteadpnododjeaaaDoorTie.lean); close each card by the builder's one call (the guide's Derived/Test/ToyasCard.lean, 'card_holds'). Laid BY PROGRAM, IN A SANDBOX (cutbox-door.mjs). By AI agents, Wed Nov 11 2026. No macro, syntax, notation, axiom, sorry.
-/
import Derived.Test.YteadpnododjeaaaDoorRows
import GoSem.ClaimSeven
namespace Go.Proofs.YteadpnododjeaaaDoor
namespace Rows

/-- THE TIED CARD OF 'twainlaw07.LinkFrames'. -/
def linkFramesCard : Claim7 := { stood := { row := linkFramesRow, standIns := [], harness := (true, "36dffc7b8a931df1150ba8c91d9b7cdbb3b0ec0b7909f5a5bf3b26bf131734ab"), looks := true }, kinds := [], alts := [], laidByText := true, laidKinds := [.handle, .data], laidTests := true, laidLooks := .later }
def LinkFramesCardSaid : Prop := Claim7.holds Tryd.pinned (.plain (OpenSpec.ofChange linkFramesSpec)) linkFramesCard

/-- THE TIED CARD OF 'twainlaw07.LinkPlays'. -/
def linkPlaysCard : Claim7 := { stood := { row := linkPlaysRow, standIns := [], harness := (true, "36dffc7b8a931df1150ba8c91d9b7cdbb3b0ec0b7909f5a5bf3b26bf131734ab"), looks := true }, kinds := [], alts := [], laidByText := true, laidKinds := [.handle, .data], laidTests := true, laidLooks := .later }
def LinkPlaysCardSaid : Prop := Claim7.holds Tryd.pinned (.plain (OpenSpec.ofChange linkPlaysSpec)) linkPlaysCard

/-- THE TIED CARD OF 'twainlaw07.LinkSure'. -/
def linkSureCard : Claim7 := { stood := { row := linkSureRow, standIns := [], harness := (true, "36dffc7b8a931df1150ba8c91d9b7cdbb3b0ec0b7909f5a5bf3b26bf131734ab"), looks := true }, kinds := [], alts := [], laidByText := true, laidKinds := [.handle, .data], laidTests := true, laidLooks := .later }
def LinkSureCardSaid : Prop := Claim7.holds Tryd.pinned (.plain (OpenSpec.ofChange linkSureSpec)) linkSureCard

/-- THE TIED CARD OF 'twainlaw07.LinkEnds'. -/
def linkEndsCard : Claim7 := { stood := { row := linkEndsRow, standIns := [], harness := (true, "36dffc7b8a931df1150ba8c91d9b7cdbb3b0ec0b7909f5a5bf3b26bf131734ab"), looks := true }, kinds := [], alts := [], laidByText := true, laidKinds := [.handle, .data], laidTests := true, laidLooks := .later }
def LinkEndsCardSaid : Prop := Claim7.holds Tryd.pinned (.plain (OpenSpec.ofChange linkEndsSpec)) linkEndsCard

/-- THE TIED CARD OF 'twainlaw07.LinkFull'. -/
def linkFullCard : Claim7 := { stood := { row := linkFullRow, standIns := [], harness := (true, "36dffc7b8a931df1150ba8c91d9b7cdbb3b0ec0b7909f5a5bf3b26bf131734ab"), looks := true }, kinds := [], alts := [], laidByText := true, laidKinds := [.handle, .data], laidTests := true, laidLooks := .later }
def LinkFullCardSaid : Prop := Claim7.holds Tryd.pinned (.plain (OpenSpec.ofChange linkFullSpec)) linkFullCard

/-- THE TIED CARD OF 'twainlaw07.LinkOwn'. -/
def linkOwnCard : Claim7 := { stood := { row := linkOwnRow, standIns := [], harness := (true, "36dffc7b8a931df1150ba8c91d9b7cdbb3b0ec0b7909f5a5bf3b26bf131734ab"), looks := true }, kinds := [], alts := [], laidByText := true, laidKinds := [.handle, .data], laidTests := true, laidLooks := .later }
def LinkOwnCardSaid : Prop := Claim7.holds Tryd.pinned (.plain (OpenSpec.ofChange linkOwnSpec)) linkOwnCard

/-- THE TIED CARD OF 'twainlaw07.LinkTurned'. -/
def linkTurnedCard : Claim7 := { stood := { row := linkTurnedRow, standIns := [], harness := (true, "36dffc7b8a931df1150ba8c91d9b7cdbb3b0ec0b7909f5a5bf3b26bf131734ab"), looks := true }, kinds := [], alts := [], laidByText := true, laidKinds := [.handle, .data], laidTests := true, laidLooks := .later }
def LinkTurnedCardSaid : Prop := Claim7.holds Tryd.pinned (.plain (OpenSpec.ofChange linkTurnedSpec)) linkTurnedCard

/-- THE SECOND FORM's CARD OF 'twainlaw07.LinkFrames'. -/
def linkFramesUptoCard : Claim7 := { stood := { row := linkFramesUptoRow, standIns := [], harness := (true, "36dffc7b8a931df1150ba8c91d9b7cdbb3b0ec0b7909f5a5bf3b26bf131734ab"), looks := true }, kinds := [], alts := [], laidByText := true, laidKinds := [.handle, .data], laidTests := true, laidLooks := .later }
def LinkFramesUptoCardSaid : Prop := Claim7.holds Tryd.pinned (.plain (OpenSpec.upto linkFramesSpec)) linkFramesUptoCard

/-- THE SECOND FORM's CARD OF 'twainlaw07.LinkPlays'. -/
def linkPlaysUptoCard : Claim7 := { stood := { row := linkPlaysUptoRow, standIns := [], harness := (true, "36dffc7b8a931df1150ba8c91d9b7cdbb3b0ec0b7909f5a5bf3b26bf131734ab"), looks := true }, kinds := [], alts := [], laidByText := true, laidKinds := [.handle, .data], laidTests := true, laidLooks := .later }
def LinkPlaysUptoCardSaid : Prop := Claim7.holds Tryd.pinned (.plain (OpenSpec.upto linkPlaysSpec)) linkPlaysUptoCard

/-- THE SECOND FORM's CARD OF 'twainlaw07.LinkSure'. -/
def linkSureUptoCard : Claim7 := { stood := { row := linkSureUptoRow, standIns := [], harness := (true, "36dffc7b8a931df1150ba8c91d9b7cdbb3b0ec0b7909f5a5bf3b26bf131734ab"), looks := true }, kinds := [], alts := [], laidByText := true, laidKinds := [.handle, .data], laidTests := true, laidLooks := .later }
def LinkSureUptoCardSaid : Prop := Claim7.holds Tryd.pinned (.plain (OpenSpec.upto linkSureSpec)) linkSureUptoCard

/-- THE SECOND FORM's CARD OF 'twainlaw07.LinkEnds'. -/
def linkEndsUptoCard : Claim7 := { stood := { row := linkEndsUptoRow, standIns := [], harness := (true, "36dffc7b8a931df1150ba8c91d9b7cdbb3b0ec0b7909f5a5bf3b26bf131734ab"), looks := true }, kinds := [], alts := [], laidByText := true, laidKinds := [.handle, .data], laidTests := true, laidLooks := .later }
def LinkEndsUptoCardSaid : Prop := Claim7.holds Tryd.pinned (.plain (OpenSpec.upto linkEndsSpec)) linkEndsUptoCard

/-- THE SECOND FORM's CARD OF 'twainlaw07.LinkFull'. -/
def linkFullUptoCard : Claim7 := { stood := { row := linkFullUptoRow, standIns := [], harness := (true, "36dffc7b8a931df1150ba8c91d9b7cdbb3b0ec0b7909f5a5bf3b26bf131734ab"), looks := true }, kinds := [], alts := [], laidByText := true, laidKinds := [.handle, .data], laidTests := true, laidLooks := .later }
def LinkFullUptoCardSaid : Prop := Claim7.holds Tryd.pinned (.plain (OpenSpec.upto linkFullSpec)) linkFullUptoCard

/-- THE SECOND FORM's CARD OF 'twainlaw07.LinkOwn'. -/
def linkOwnUptoCard : Claim7 := { stood := { row := linkOwnUptoRow, standIns := [], harness := (true, "36dffc7b8a931df1150ba8c91d9b7cdbb3b0ec0b7909f5a5bf3b26bf131734ab"), looks := true }, kinds := [], alts := [], laidByText := true, laidKinds := [.handle, .data], laidTests := true, laidLooks := .later }
def LinkOwnUptoCardSaid : Prop := Claim7.holds Tryd.pinned (.plain (OpenSpec.upto linkOwnSpec)) linkOwnUptoCard

/-- THE SECOND FORM's CARD OF 'twainlaw07.LinkTurned'. -/
def linkTurnedUptoCard : Claim7 := { stood := { row := linkTurnedUptoRow, standIns := [], harness := (true, "36dffc7b8a931df1150ba8c91d9b7cdbb3b0ec0b7909f5a5bf3b26bf131734ab"), looks := true }, kinds := [], alts := [], laidByText := true, laidKinds := [.handle, .data], laidTests := true, laidLooks := .later }
def LinkTurnedUptoCardSaid : Prop := Claim7.holds Tryd.pinned (.plain (OpenSpec.upto linkTurnedSpec)) linkTurnedUptoCard
end Rows
end Go.Proofs.YteadpnododjeaaaDoor
