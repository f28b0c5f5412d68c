/-
  DERIVED. GIVEN WITH THE SEED: THE CARDS: each row of YtgmlmngnedhllaaDoorRows.lean that lists a variable, with what it lists TIED to the program's text (the seventh form; the later family's looks); each row that meets fmt, with fmt's text TOLD by the authors' own Lean function (tested against real Go, not proved from fmt's source: count such statements apart). THE CARD IS WHAT COUNTS. Prove the row's statement (the work); the ties are given (YtgmlmngnedhllaaDoorTie.lean); close each card by the builder's one call (the guide's Derived/Test/ToyasCard.lean, 'card_holds'). Laid BY PROGRAM, IN A SANDBOX (cutbox-door.mjs). By AI agents, Wed Nov 11 2026. No macro, syntax, notation, axiom, sorry.
-/
import Derived.Test.YtgmlmngnedhllaaDoorRows
import GoSem.ClaimSeven
namespace Go.Proofs.YtgmlmngnedhllaaDoor
namespace Rows

/-- THE TIED CARD OF 'twainlaw08.CorrDeals'. -/
def corrDealsCard : Claim7 := { stood := { row := corrDealsRow, standIns := [], harness := (true, "877870c930d03529825f287044bef164cb77073e8a265551f51c924488e43b11"), looks := true }, kinds := [], alts := [], laidByText := true, laidKinds := [.handle], laidTests := true, laidLooks := .later }
def CorrDealsCardSaid : Prop := Claim7.holds Tryd.pinned (.plain (OpenSpec.ofChange corrDealsSpec)) corrDealsCard

/-- THE TIED CARD OF 'twainlaw08.CorrFits'. -/
def corrFitsCard : Claim7 := { stood := { row := corrFitsRow, standIns := [], harness := (true, "877870c930d03529825f287044bef164cb77073e8a265551f51c924488e43b11"), looks := true }, kinds := [], alts := [], laidByText := true, laidKinds := [.handle], laidTests := true, laidLooks := .later }
def CorrFitsCardSaid : Prop := Claim7.holds Tryd.pinned (.plain (OpenSpec.ofChange corrFitsSpec)) corrFitsCard

/-- THE TIED CARD OF 'twainlaw08.CorrLoads'. -/
def corrLoadsCard : Claim7 := { stood := { row := corrLoadsRow, standIns := [], harness := (true, "877870c930d03529825f287044bef164cb77073e8a265551f51c924488e43b11"), looks := true }, kinds := [], alts := [], laidByText := true, laidKinds := [.handle], laidTests := true, laidLooks := .later }
def CorrLoadsCardSaid : Prop := Claim7.holds Tryd.pinned (.plain (OpenSpec.ofChange corrLoadsSpec)) corrLoadsCard

/-- THE TIED CARD OF 'twainlaw08.CorrApart'. -/
def corrApartCard : Claim7 := { stood := { row := corrApartRow, standIns := [], harness := (true, "877870c930d03529825f287044bef164cb77073e8a265551f51c924488e43b11"), looks := true }, kinds := [], alts := [], laidByText := true, laidKinds := [.handle], laidTests := true, laidLooks := .later }
def CorrApartCardSaid : Prop := Claim7.holds Tryd.pinned (.plain (OpenSpec.ofChange corrApartSpec)) corrApartCard

/-- THE TIED CARD OF 'twainlaw08.CorrSpent'. -/
def corrSpentCard : Claim7 := { stood := { row := corrSpentRow, standIns := [], harness := (true, "877870c930d03529825f287044bef164cb77073e8a265551f51c924488e43b11"), looks := true }, kinds := [], alts := [], laidByText := true, laidKinds := [.handle], laidTests := true, laidLooks := .later }
def CorrSpentCardSaid : Prop := Claim7.holds Tryd.pinned (.plain (OpenSpec.ofChange corrSpentSpec)) corrSpentCard

/-- THE SECOND FORM's CARD OF 'twainlaw08.CorrDeals'. -/
def corrDealsUptoCard : Claim7 := { stood := { row := corrDealsUptoRow, standIns := [], harness := (true, "877870c930d03529825f287044bef164cb77073e8a265551f51c924488e43b11"), looks := true }, kinds := [], alts := [], laidByText := true, laidKinds := [.handle], laidTests := true, laidLooks := .later }
def CorrDealsUptoCardSaid : Prop := Claim7.holds Tryd.pinned (.plain (OpenSpec.upto corrDealsSpec)) corrDealsUptoCard

/-- THE SECOND FORM's CARD OF 'twainlaw08.CorrFits'. -/
def corrFitsUptoCard : Claim7 := { stood := { row := corrFitsUptoRow, standIns := [], harness := (true, "877870c930d03529825f287044bef164cb77073e8a265551f51c924488e43b11"), looks := true }, kinds := [], alts := [], laidByText := true, laidKinds := [.handle], laidTests := true, laidLooks := .later }
def CorrFitsUptoCardSaid : Prop := Claim7.holds Tryd.pinned (.plain (OpenSpec.upto corrFitsSpec)) corrFitsUptoCard

/-- THE SECOND FORM's CARD OF 'twainlaw08.CorrLoads'. -/
def corrLoadsUptoCard : Claim7 := { stood := { row := corrLoadsUptoRow, standIns := [], harness := (true, "877870c930d03529825f287044bef164cb77073e8a265551f51c924488e43b11"), looks := true }, kinds := [], alts := [], laidByText := true, laidKinds := [.handle], laidTests := true, laidLooks := .later }
def CorrLoadsUptoCardSaid : Prop := Claim7.holds Tryd.pinned (.plain (OpenSpec.upto corrLoadsSpec)) corrLoadsUptoCard

/-- THE SECOND FORM's CARD OF 'twainlaw08.CorrApart'. -/
def corrApartUptoCard : Claim7 := { stood := { row := corrApartUptoRow, standIns := [], harness := (true, "877870c930d03529825f287044bef164cb77073e8a265551f51c924488e43b11"), looks := true }, kinds := [], alts := [], laidByText := true, laidKinds := [.handle], laidTests := true, laidLooks := .later }
def CorrApartUptoCardSaid : Prop := Claim7.holds Tryd.pinned (.plain (OpenSpec.upto corrApartSpec)) corrApartUptoCard

/-- THE SECOND FORM's CARD OF 'twainlaw08.CorrSpent'. -/
def corrSpentUptoCard : Claim7 := { stood := { row := corrSpentUptoRow, standIns := [], harness := (true, "877870c930d03529825f287044bef164cb77073e8a265551f51c924488e43b11"), looks := true }, kinds := [], alts := [], laidByText := true, laidKinds := [.handle], laidTests := true, laidLooks := .later }
def CorrSpentUptoCardSaid : Prop := Claim7.holds Tryd.pinned (.plain (OpenSpec.upto corrSpentSpec)) corrSpentUptoCard
end Rows
end Go.Proofs.YtgmlmngnedhllaaDoor
