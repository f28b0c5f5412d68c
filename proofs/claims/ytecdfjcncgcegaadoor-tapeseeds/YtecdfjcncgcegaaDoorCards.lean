/-
  DERIVED. GIVEN WITH THE SEED: THE CARDS: each row of YtecdfjcncgcegaaDoorRows.lean that lists a variable, with what it lists TIED to the program's text (the seventh form; the later family's looks); each row that meets fmt, with fmt's text TOLD by the authors' own Lean function (tested against real Go, not proved from fmt's source: count such statements apart). THE CARD IS WHAT COUNTS. Prove the row's statement (the work); the ties are given (YtecdfjcncgcegaaDoorTie.lean); close each card by the builder's one call (the guide's Derived/Test/ToyasCard.lean, 'card_holds'). Laid BY PROGRAM, IN A SANDBOX (cutbox-door.mjs). By AI agents, Wed Nov 11 2026. No macro, syntax, notation, axiom, sorry.
-/
import Derived.Test.YtecdfjcncgcegaaDoorRows
import GoSem.ClaimSeven
namespace Go.Proofs.YtecdfjcncgcegaaDoor
namespace Rows

/-- THE TIED CARD OF 'twainlaw04.TapeReads'. -/
def tapeReadsCard : Claim7 := { stood := { row := tapeReadsRow, standIns := [], harness := (true, "17f9bdfcb89e54385c26f9350ad88b3a922043ad7ff7d1f811a46c2229af0065"), looks := true }, kinds := [], alts := [], laidByText := true, laidKinds := [.handle], laidTests := true, laidLooks := .later }
def TapeReadsCardSaid : Prop := Claim7.holds Tryd.pinned (.plain (OpenSpec.ofChange tapeReadsSpec)) tapeReadsCard

/-- THE TIED CARD OF 'twainlaw04.TapeSeeds'. -/
def tapeSeedsCard : Claim7 := { stood := { row := tapeSeedsRow, standIns := [], harness := (true, "17f9bdfcb89e54385c26f9350ad88b3a922043ad7ff7d1f811a46c2229af0065"), looks := true }, kinds := [], alts := [], laidByText := true, laidKinds := [.handle], laidTests := true, laidLooks := .later }
def TapeSeedsCardSaid : Prop := Claim7.holds Tryd.pinned (.plain (OpenSpec.ofChange tapeSeedsSpec)) tapeSeedsCard

/-- THE TIED CARD OF 'twainlaw04.TapeEnds'. -/
def tapeEndsCard : Claim7 := { stood := { row := tapeEndsRow, standIns := [], harness := (true, "17f9bdfcb89e54385c26f9350ad88b3a922043ad7ff7d1f811a46c2229af0065"), looks := true }, kinds := [], alts := [], laidByText := true, laidKinds := [.handle], laidTests := true, laidLooks := .later }
def TapeEndsCardSaid : Prop := Claim7.holds Tryd.pinned (.plain (OpenSpec.ofChange tapeEndsSpec)) tapeEndsCard

/-- THE TIED CARD OF 'twainlaw04.TapeLabels'. -/
def tapeLabelsCard : Claim7 := { stood := { row := tapeLabelsRow, standIns := [], harness := (true, "17f9bdfcb89e54385c26f9350ad88b3a922043ad7ff7d1f811a46c2229af0065"), looks := true }, kinds := [], alts := [], laidByText := true, laidKinds := [.handle], laidTests := true, laidLooks := .later }
def TapeLabelsCardSaid : Prop := Claim7.holds Tryd.pinned (.plain (OpenSpec.ofChange tapeLabelsSpec)) tapeLabelsCard

/-- THE SECOND FORM's CARD OF 'twainlaw04.TapeReads'. -/
def tapeReadsUptoCard : Claim7 := { stood := { row := tapeReadsUptoRow, standIns := [], harness := (true, "17f9bdfcb89e54385c26f9350ad88b3a922043ad7ff7d1f811a46c2229af0065"), looks := true }, kinds := [], alts := [], laidByText := true, laidKinds := [.handle], laidTests := true, laidLooks := .later }
def TapeReadsUptoCardSaid : Prop := Claim7.holds Tryd.pinned (.plain (OpenSpec.upto tapeReadsSpec)) tapeReadsUptoCard

/-- THE SECOND FORM's CARD OF 'twainlaw04.TapeSeeds'. -/
def tapeSeedsUptoCard : Claim7 := { stood := { row := tapeSeedsUptoRow, standIns := [], harness := (true, "17f9bdfcb89e54385c26f9350ad88b3a922043ad7ff7d1f811a46c2229af0065"), looks := true }, kinds := [], alts := [], laidByText := true, laidKinds := [.handle], laidTests := true, laidLooks := .later }
def TapeSeedsUptoCardSaid : Prop := Claim7.holds Tryd.pinned (.plain (OpenSpec.upto tapeSeedsSpec)) tapeSeedsUptoCard

/-- THE SECOND FORM's CARD OF 'twainlaw04.TapeEnds'. -/
def tapeEndsUptoCard : Claim7 := { stood := { row := tapeEndsUptoRow, standIns := [], harness := (true, "17f9bdfcb89e54385c26f9350ad88b3a922043ad7ff7d1f811a46c2229af0065"), looks := true }, kinds := [], alts := [], laidByText := true, laidKinds := [.handle], laidTests := true, laidLooks := .later }
def TapeEndsUptoCardSaid : Prop := Claim7.holds Tryd.pinned (.plain (OpenSpec.upto tapeEndsSpec)) tapeEndsUptoCard

/-- THE SECOND FORM's CARD OF 'twainlaw04.TapeLabels'. -/
def tapeLabelsUptoCard : Claim7 := { stood := { row := tapeLabelsUptoRow, standIns := [], harness := (true, "17f9bdfcb89e54385c26f9350ad88b3a922043ad7ff7d1f811a46c2229af0065"), looks := true }, kinds := [], alts := [], laidByText := true, laidKinds := [.handle], laidTests := true, laidLooks := .later }
def TapeLabelsUptoCardSaid : Prop := Claim7.holds Tryd.pinned (.plain (OpenSpec.upto tapeLabelsSpec)) tapeLabelsUptoCard
end Rows
end Go.Proofs.YtecdfjcncgcegaaDoor
