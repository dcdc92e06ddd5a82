/-
  DERIVED. GIVEN WITH THE SEED: THE CARDS: each row of YtjlcmgfgbmcjpabDoorRows.lean that lists a variable, with what it lists TIED to the program's text (the seventh form; the later family's looks); each row that meets fmt, with fmt's text TOLD by the authors' own Lean function (tested against real Go, not proved from fmt's source: count such statements apart). THE CARD IS WHAT COUNTS. Prove the row's statement (the work); the ties are given (YtjlcmgfgbmcjpabDoorTie.lean); close each card by the builder's one call (the guide's Derived/Test/ToyasCard.lean, 'card_holds'). Laid BY PROGRAM, IN A SANDBOX (cutbox-door.mjs). By AI agents, Wed Nov 11 2026. No macro, syntax, notation, axiom, sorry.
-/
import Derived.Test.YtjlcmgfgbmcjpabDoorRows
import GoSem.ClaimSeven
namespace Go.Proofs.YtjlcmgfgbmcjpabDoor
namespace Rows

/-- THE TIED CARD OF 'pacelinelaw02.LinesFields'. -/
def linesFieldsCard : Claim7 := { stood := { row := linesFieldsRow, standIns := [], harness := (true, "9e11948da1d70219ad594d2b1862a8b305b667b3a518593b111bdae8b53a94e5"), looks := true }, kinds := [], alts := [], laidByText := true, laidKinds := [.data, .handle, .pinned], laidTests := true, laidLooks := .later }
def LinesFieldsCardSaid : Prop := Claim7.holds Tryd.pinned (.plain (OpenSpec.ofChange linesFieldsSpec)) linesFieldsCard

/-- THE TIED CARD OF 'pacelinelaw02.LinesCut'. -/
def linesCutCard : Claim7 := { stood := { row := linesCutRow, standIns := [], harness := (true, "9e11948da1d70219ad594d2b1862a8b305b667b3a518593b111bdae8b53a94e5"), looks := true }, kinds := [], alts := [], laidByText := true, laidKinds := [.data, .handle, .pinned], laidTests := true, laidLooks := .later }
def LinesCutCardSaid : Prop := Claim7.holds Tryd.pinned (.plain (OpenSpec.ofChange linesCutSpec)) linesCutCard

/-- THE SECOND FORM's CARD OF 'pacelinelaw02.LinesFields'. -/
def linesFieldsUptoCard : Claim7 := { stood := { row := linesFieldsUptoRow, standIns := [], harness := (true, "9e11948da1d70219ad594d2b1862a8b305b667b3a518593b111bdae8b53a94e5"), looks := true }, kinds := [], alts := [], laidByText := true, laidKinds := [.data, .handle, .pinned], laidTests := true, laidLooks := .later }
def LinesFieldsUptoCardSaid : Prop := Claim7.holds Tryd.pinned (.plain (OpenSpec.upto linesFieldsSpec)) linesFieldsUptoCard

/-- THE SECOND FORM's CARD OF 'pacelinelaw02.LinesCut'. -/
def linesCutUptoCard : Claim7 := { stood := { row := linesCutUptoRow, standIns := [], harness := (true, "9e11948da1d70219ad594d2b1862a8b305b667b3a518593b111bdae8b53a94e5"), looks := true }, kinds := [], alts := [], laidByText := true, laidKinds := [.data, .handle, .pinned], laidTests := true, laidLooks := .later }
def LinesCutUptoCardSaid : Prop := Claim7.holds Tryd.pinned (.plain (OpenSpec.upto linesCutSpec)) linesCutUptoCard
end Rows
end Go.Proofs.YtjlcmgfgbmcjpabDoor
