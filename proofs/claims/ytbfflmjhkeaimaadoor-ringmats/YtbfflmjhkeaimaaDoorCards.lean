/-
  DERIVED. GIVEN WITH THE SEED: THE CARDS: each row of YtbfflmjhkeaimaaDoorRows.lean that lists a variable, with what it lists TIED to the program's text (the seventh form; the later family's looks); each row that meets fmt, with fmt's text TOLD by the authors' own Lean function (tested against real Go, not proved from fmt's source: count such statements apart). THE CARD IS WHAT COUNTS. Prove the row's statement (the work); the ties are given (YtbfflmjhkeaimaaDoorTie.lean); close each card by the builder's one call (the guide's Derived/Test/ToyasCard.lean, 'card_holds'). Laid BY PROGRAM, IN A SANDBOX (cutbox-door.mjs). By AI agents, Wed Nov 11 2026. No macro, syntax, notation, axiom, sorry.
-/
import Derived.Test.YtbfflmjhkeaimaaDoorRows
import GoSem.ClaimSeven
namespace Go.Proofs.YtbfflmjhkeaimaaDoor
namespace Rows

/-- THE TIED CARD OF 'twainlaw02.RingWords'. -/
def ringWordsCard : Claim7 := { stood := { row := ringWordsRow, standIns := [], harness := (true, "5ab762023077c403f21856b29a1ed81f96879f1cff0b6af4e0d2504e0ae0ecc2"), looks := true }, kinds := [], alts := [], laidByText := true, laidKinds := [.handle], laidTests := true, laidLooks := .later }
def RingWordsCardSaid : Prop := Claim7.holds Tryd.pinned (.plain (OpenSpec.ofChange ringWordsSpec)) ringWordsCard

/-- THE TIED CARD OF 'twainlaw02.RingFloor'. -/
def ringFloorCard : Claim7 := { stood := { row := ringFloorRow, standIns := [], harness := (true, "5ab762023077c403f21856b29a1ed81f96879f1cff0b6af4e0d2504e0ae0ecc2"), looks := true }, kinds := [], alts := [], laidByText := true, laidKinds := [.handle], laidTests := true, laidLooks := .later }
def RingFloorCardSaid : Prop := Claim7.holds Tryd.pinned (.plain (OpenSpec.ofChange ringFloorSpec)) ringFloorCard

/-- THE TIED CARD OF 'twainlaw02.RingMats'. -/
def ringMatsCard : Claim7 := { stood := { row := ringMatsRow, standIns := [], harness := (true, "5ab762023077c403f21856b29a1ed81f96879f1cff0b6af4e0d2504e0ae0ecc2"), looks := true }, kinds := [], alts := [], laidByText := true, laidKinds := [.handle], laidTests := true, laidLooks := .later }
def RingMatsCardSaid : Prop := Claim7.holds Tryd.pinned (.plain (OpenSpec.ofChange ringMatsSpec)) ringMatsCard

/-- THE TIED CARD OF 'twainlaw02.RingLabels'. -/
def ringLabelsCard : Claim7 := { stood := { row := ringLabelsRow, standIns := [], harness := (true, "5ab762023077c403f21856b29a1ed81f96879f1cff0b6af4e0d2504e0ae0ecc2"), looks := true }, kinds := [], alts := [], laidByText := true, laidKinds := [.handle], laidTests := true, laidLooks := .later }
def RingLabelsCardSaid : Prop := Claim7.holds Tryd.pinned (.plain (OpenSpec.ofChange ringLabelsSpec)) ringLabelsCard

/-- THE TIED CARD OF 'twainlaw02.RingOrders'. -/
def ringOrdersCard : Claim7 := { stood := { row := ringOrdersRow, standIns := [], harness := (true, "5ab762023077c403f21856b29a1ed81f96879f1cff0b6af4e0d2504e0ae0ecc2"), looks := true }, kinds := [], alts := [], laidByText := true, laidKinds := [.handle], laidTests := true, laidLooks := .later }
def RingOrdersCardSaid : Prop := Claim7.holds Tryd.pinned (.plain (OpenSpec.ofChange ringOrdersSpec)) ringOrdersCard

/-- THE TIED CARD OF 'twainlaw02.RingTurned'. -/
def ringTurnedCard : Claim7 := { stood := { row := ringTurnedRow, standIns := [], harness := (true, "5ab762023077c403f21856b29a1ed81f96879f1cff0b6af4e0d2504e0ae0ecc2"), looks := true }, kinds := [], alts := [], laidByText := true, laidKinds := [.handle], laidTests := true, laidLooks := .later }
def RingTurnedCardSaid : Prop := Claim7.holds Tryd.pinned (.plain (OpenSpec.ofChange ringTurnedSpec)) ringTurnedCard

/-- THE TIED CARD OF 'twainlaw02.RingOrder'. -/
def ringOrderCard : Claim7 := { stood := { row := ringOrderRow, standIns := [], harness := (true, "5ab762023077c403f21856b29a1ed81f96879f1cff0b6af4e0d2504e0ae0ecc2"), looks := true }, kinds := [], alts := [], laidByText := true, laidKinds := [.handle], laidTests := true, laidLooks := .later }
def RingOrderCardSaid : Prop := Claim7.holds Tryd.pinned (.plain (OpenSpec.ofChange ringOrderSpec)) ringOrderCard

/-- THE SECOND FORM's CARD OF 'twainlaw02.RingWords'. -/
def ringWordsUptoCard : Claim7 := { stood := { row := ringWordsUptoRow, standIns := [], harness := (true, "5ab762023077c403f21856b29a1ed81f96879f1cff0b6af4e0d2504e0ae0ecc2"), looks := true }, kinds := [], alts := [], laidByText := true, laidKinds := [.handle], laidTests := true, laidLooks := .later }
def RingWordsUptoCardSaid : Prop := Claim7.holds Tryd.pinned (.plain (OpenSpec.upto ringWordsSpec)) ringWordsUptoCard

/-- THE SECOND FORM's CARD OF 'twainlaw02.RingFloor'. -/
def ringFloorUptoCard : Claim7 := { stood := { row := ringFloorUptoRow, standIns := [], harness := (true, "5ab762023077c403f21856b29a1ed81f96879f1cff0b6af4e0d2504e0ae0ecc2"), looks := true }, kinds := [], alts := [], laidByText := true, laidKinds := [.handle], laidTests := true, laidLooks := .later }
def RingFloorUptoCardSaid : Prop := Claim7.holds Tryd.pinned (.plain (OpenSpec.upto ringFloorSpec)) ringFloorUptoCard

/-- THE SECOND FORM's CARD OF 'twainlaw02.RingMats'. -/
def ringMatsUptoCard : Claim7 := { stood := { row := ringMatsUptoRow, standIns := [], harness := (true, "5ab762023077c403f21856b29a1ed81f96879f1cff0b6af4e0d2504e0ae0ecc2"), looks := true }, kinds := [], alts := [], laidByText := true, laidKinds := [.handle], laidTests := true, laidLooks := .later }
def RingMatsUptoCardSaid : Prop := Claim7.holds Tryd.pinned (.plain (OpenSpec.upto ringMatsSpec)) ringMatsUptoCard

/-- THE SECOND FORM's CARD OF 'twainlaw02.RingLabels'. -/
def ringLabelsUptoCard : Claim7 := { stood := { row := ringLabelsUptoRow, standIns := [], harness := (true, "5ab762023077c403f21856b29a1ed81f96879f1cff0b6af4e0d2504e0ae0ecc2"), looks := true }, kinds := [], alts := [], laidByText := true, laidKinds := [.handle], laidTests := true, laidLooks := .later }
def RingLabelsUptoCardSaid : Prop := Claim7.holds Tryd.pinned (.plain (OpenSpec.upto ringLabelsSpec)) ringLabelsUptoCard

/-- THE SECOND FORM's CARD OF 'twainlaw02.RingOrders'. -/
def ringOrdersUptoCard : Claim7 := { stood := { row := ringOrdersUptoRow, standIns := [], harness := (true, "5ab762023077c403f21856b29a1ed81f96879f1cff0b6af4e0d2504e0ae0ecc2"), looks := true }, kinds := [], alts := [], laidByText := true, laidKinds := [.handle], laidTests := true, laidLooks := .later }
def RingOrdersUptoCardSaid : Prop := Claim7.holds Tryd.pinned (.plain (OpenSpec.upto ringOrdersSpec)) ringOrdersUptoCard

/-- THE SECOND FORM's CARD OF 'twainlaw02.RingTurned'. -/
def ringTurnedUptoCard : Claim7 := { stood := { row := ringTurnedUptoRow, standIns := [], harness := (true, "5ab762023077c403f21856b29a1ed81f96879f1cff0b6af4e0d2504e0ae0ecc2"), looks := true }, kinds := [], alts := [], laidByText := true, laidKinds := [.handle], laidTests := true, laidLooks := .later }
def RingTurnedUptoCardSaid : Prop := Claim7.holds Tryd.pinned (.plain (OpenSpec.upto ringTurnedSpec)) ringTurnedUptoCard

/-- THE SECOND FORM's CARD OF 'twainlaw02.RingOrder'. -/
def ringOrderUptoCard : Claim7 := { stood := { row := ringOrderUptoRow, standIns := [], harness := (true, "5ab762023077c403f21856b29a1ed81f96879f1cff0b6af4e0d2504e0ae0ecc2"), looks := true }, kinds := [], alts := [], laidByText := true, laidKinds := [.handle], laidTests := true, laidLooks := .later }
def RingOrderUptoCardSaid : Prop := Claim7.holds Tryd.pinned (.plain (OpenSpec.upto ringOrderSpec)) ringOrderUptoCard
end Rows
end Go.Proofs.YtbfflmjhkeaimaaDoor
