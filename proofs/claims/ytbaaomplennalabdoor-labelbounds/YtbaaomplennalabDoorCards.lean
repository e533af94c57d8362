/-
  DERIVED. GIVEN WITH THE SEED: THE CARDS: each row of YtbaaomplennalabDoorRows.lean that lists a variable, with what it lists TIED to the program's text (the seventh form; the later family's looks); each row that meets fmt, with fmt's text TOLD by the authors' own Lean function (tested against real Go, not proved from fmt's source: count such statements apart). THE CARD IS WHAT COUNTS. Prove the row's statement (the work); the ties are given (YtbaaomplennalabDoorTie.lean); close each card by the builder's one call (the guide's Derived/Test/ToyasCard.lean, 'card_holds'). Laid BY PROGRAM, IN A SANDBOX (cutbox-door.mjs). By AI agents, Wed Nov 11 2026. No macro, syntax, notation, axiom, sorry.
-/
import Derived.Test.YtbaaomplennalabDoorRows
import GoSem.ClaimSeven
namespace Go.Proofs.YtbaaomplennalabDoor
namespace Rows

/-- THE TIED CARD OF 'donjonlaw4.LabelSteps'. -/
def labelStepsCard : Claim7 := { stood := { row := labelStepsRow, standIns := [], harness := (true, "af437d80e8042b58bb810e4d4c3308142131f85807d741a840a59ea6e549bac5"), looks := true }, kinds := [], alts := [], laidByText := true, laidKinds := [.data, .data, .data], laidTests := true, laidLooks := .later }
def LabelStepsCardSaid : Prop := Claim7.holds Tryd.pinned (.plain (OpenSpec.ofChange labelStepsSpec)) labelStepsCard

/-- THE TIED CARD OF 'donjonlaw4.LabelBounds'. -/
def labelBoundsCard : Claim7 := { stood := { row := labelBoundsRow, standIns := [], harness := (true, "af437d80e8042b58bb810e4d4c3308142131f85807d741a840a59ea6e549bac5"), looks := true }, kinds := [], alts := [], laidByText := true, laidKinds := [.data, .data, .data, .data, .sentinel, .sentinel, .pinned], laidTests := true, laidLooks := .later }
def LabelBoundsCardSaid : Prop := Claim7.holds Tryd.pinned (.plain (OpenSpec.ofChange labelBoundsSpec)) labelBoundsCard

/-- THE SECOND FORM's CARD OF 'donjonlaw4.LabelSteps'. -/
def labelStepsUptoCard : Claim7 := { stood := { row := labelStepsUptoRow, standIns := [], harness := (true, "af437d80e8042b58bb810e4d4c3308142131f85807d741a840a59ea6e549bac5"), looks := true }, kinds := [], alts := [], laidByText := true, laidKinds := [.data, .data, .data], laidTests := true, laidLooks := .later }
def LabelStepsUptoCardSaid : Prop := Claim7.holds Tryd.pinned (.plain (OpenSpec.upto labelStepsSpec)) labelStepsUptoCard

/-- THE SECOND FORM's CARD OF 'donjonlaw4.LabelBounds'. -/
def labelBoundsUptoCard : Claim7 := { stood := { row := labelBoundsUptoRow, standIns := [], harness := (true, "af437d80e8042b58bb810e4d4c3308142131f85807d741a840a59ea6e549bac5"), looks := true }, kinds := [], alts := [], laidByText := true, laidKinds := [.data, .data, .data, .data, .sentinel, .sentinel, .pinned], laidTests := true, laidLooks := .later }
def LabelBoundsUptoCardSaid : Prop := Claim7.holds Tryd.pinned (.plain (OpenSpec.upto labelBoundsSpec)) labelBoundsUptoCard
end Rows
end Go.Proofs.YtbaaomplennalabDoor
