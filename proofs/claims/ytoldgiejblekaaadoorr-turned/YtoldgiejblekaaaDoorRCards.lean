/-
  DERIVED. GIVEN WITH THE SEED: THE CARDS: each row of YtoldgiejblekaaaDoorRRows.lean that lists a variable, with what it lists TIED to the program's text (the seventh form; the later family's looks); each row that meets fmt, with fmt's text TOLD by the authors' own Lean function (tested against real Go, not proved from fmt's source: count such statements apart). THE CARD IS WHAT COUNTS. Prove the row's statement (the work); the ties are given (YtoldgiejblekaaaDoorRTie.lean); close each card by the builder's one call (the guide's Derived/Test/ToyasCard.lean, 'card_holds'). Laid BY PROGRAM, IN A SANDBOX (cutbox-door.mjs). By AI agents, Wed Nov 11 2026. No macro, syntax, notation, axiom, sorry.
-/
import Derived.Test.YtoldgiejblekaaaDoorRRows
import GoSem.ClaimSeven
namespace Go.Proofs.YtoldgiejblekaaaDoorR
namespace Rows

/-- THE TIED CARD OF 'twainlaw09.CircEvals'. -/
def circEvalsCard : Claim7 := { stood := { row := circEvalsRow, standIns := [], harness := (true, "8141efc72a285ec8ff6a457fae20497ce4e5a1381e492c6dd343d2415a4a4d44"), looks := true }, kinds := [], alts := [], laidByText := true, laidKinds := [.handle], laidTests := true, laidLooks := .later }
def CircEvalsCardSaid : Prop := Claim7.holds Tryd.pinned (.plain (OpenSpec.ofChange circEvalsSpec)) circEvalsCard

/-- THE TIED CARD OF 'twainlaw09.CircWords'. -/
def circWordsCard : Claim7 := { stood := { row := circWordsRow, standIns := [], harness := (true, "8141efc72a285ec8ff6a457fae20497ce4e5a1381e492c6dd343d2415a4a4d44"), looks := true }, kinds := [], alts := [], laidByText := true, laidKinds := [.handle], laidTests := true, laidLooks := .later }
def CircWordsCardSaid : Prop := Claim7.holds Tryd.pinned (.plain (OpenSpec.ofChange circWordsSpec)) circWordsCard

/-- THE TIED CARD OF 'twainlaw09.CircTurned'. -/
def circTurnedCard : Claim7 := { stood := { row := circTurnedRow, standIns := [], harness := (true, "8141efc72a285ec8ff6a457fae20497ce4e5a1381e492c6dd343d2415a4a4d44"), looks := true }, kinds := [], alts := [], laidByText := true, laidKinds := [.handle], laidTests := true, laidLooks := .later }
def CircTurnedCardSaid : Prop := Claim7.holds Tryd.pinned (.plain (OpenSpec.ofChange circTurnedSpec)) circTurnedCard

/-- THE SECOND FORM's CARD OF 'twainlaw09.CircEvals'. -/
def circEvalsUptoCard : Claim7 := { stood := { row := circEvalsUptoRow, standIns := [], harness := (true, "8141efc72a285ec8ff6a457fae20497ce4e5a1381e492c6dd343d2415a4a4d44"), looks := true }, kinds := [], alts := [], laidByText := true, laidKinds := [.handle], laidTests := true, laidLooks := .later }
def CircEvalsUptoCardSaid : Prop := Claim7.holds Tryd.pinned (.plain (OpenSpec.upto circEvalsSpec)) circEvalsUptoCard

/-- THE SECOND FORM's CARD OF 'twainlaw09.CircWords'. -/
def circWordsUptoCard : Claim7 := { stood := { row := circWordsUptoRow, standIns := [], harness := (true, "8141efc72a285ec8ff6a457fae20497ce4e5a1381e492c6dd343d2415a4a4d44"), looks := true }, kinds := [], alts := [], laidByText := true, laidKinds := [.handle], laidTests := true, laidLooks := .later }
def CircWordsUptoCardSaid : Prop := Claim7.holds Tryd.pinned (.plain (OpenSpec.upto circWordsSpec)) circWordsUptoCard

/-- THE SECOND FORM's CARD OF 'twainlaw09.CircTurned'. -/
def circTurnedUptoCard : Claim7 := { stood := { row := circTurnedUptoRow, standIns := [], harness := (true, "8141efc72a285ec8ff6a457fae20497ce4e5a1381e492c6dd343d2415a4a4d44"), looks := true }, kinds := [], alts := [], laidByText := true, laidKinds := [.handle], laidTests := true, laidLooks := .later }
def CircTurnedUptoCardSaid : Prop := Claim7.holds Tryd.pinned (.plain (OpenSpec.upto circTurnedSpec)) circTurnedUptoCard
end Rows
end Go.Proofs.YtoldgiejblekaaaDoorR
