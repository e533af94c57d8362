/-
  DERIVED. GIVEN WITH THE SEED: THE CARDS: each row of YtolccbdogfmcaaaDoorRows.lean that lists a variable, with what it lists TIED to the program's text (the seventh form; the later family's looks); each row that meets fmt, with fmt's text TOLD by the authors' own Lean function (tested against real Go, not proved from fmt's source: count such statements apart). THE CARD IS WHAT COUNTS. Prove the row's statement (the work); the ties are given (YtolccbdogfmcaaaDoorTie.lean); close each card by the builder's one call (the guide's Derived/Test/ToyasCard.lean, 'card_holds'). Laid BY PROGRAM, IN A SANDBOX (cutbox-door.mjs). By AI agents, Wed Nov 11 2026. No macro, syntax, notation, axiom, sorry.
-/
import Derived.Test.YtolccbdogfmcaaaDoorRows
import GoSem.ClaimSeven
namespace Go.Proofs.YtolccbdogfmcaaaDoor
namespace Rows

/-- THE TIED CARD OF 'donjonlaw15.IsaTexts'. -/
def isaTextsCard : Claim7 := { stood := { row := isaTextsRow, standIns := [], harness := (true, "b539a67b63327a0cf631c5172bd348763e039640d37d9cb0ebaf6665b250d669"), looks := true }, kinds := [], alts := [], laidByText := true, laidKinds := [.data, .data, .data, .data, .sentinel, .sentinel, .data, .pinned], laidTests := true, laidLooks := .later }
def IsaTextsCardSaid : Prop := Claim7.holds Tryd.pinned (.plain (OpenSpec.ofChange isaTextsSpec)) isaTextsCard

/-- THE TIED CARD OF 'donjonlaw15.IsaBounds'. -/
def isaBoundsCard : Claim7 := { stood := { row := isaBoundsRow, standIns := [], harness := (true, "b539a67b63327a0cf631c5172bd348763e039640d37d9cb0ebaf6665b250d669"), looks := true }, kinds := [], alts := [], laidByText := true, laidKinds := [.data, .data, .data, .data, .sentinel, .sentinel, .data, .pinned], laidTests := true, laidLooks := .later }
def IsaBoundsCardSaid : Prop := Claim7.holds Tryd.pinned (.plain (OpenSpec.ofChange isaBoundsSpec)) isaBoundsCard

/-- THE TIED CARD OF 'donjonlaw15.IsaTurns'. -/
def isaTurnsCard : Claim7 := { stood := { row := isaTurnsRow, standIns := [], harness := (true, "b539a67b63327a0cf631c5172bd348763e039640d37d9cb0ebaf6665b250d669"), looks := true }, kinds := [], alts := [], laidByText := true, laidKinds := [.data, .data, .data, .data, .sentinel, .sentinel, .data, .pinned], laidTests := true, laidLooks := .later }
def IsaTurnsCardSaid : Prop := Claim7.holds Tryd.pinned (.plain (OpenSpec.ofChange isaTurnsSpec)) isaTurnsCard

/-- THE SECOND FORM's CARD OF 'donjonlaw15.IsaTexts'. -/
def isaTextsUptoCard : Claim7 := { stood := { row := isaTextsUptoRow, standIns := [], harness := (true, "b539a67b63327a0cf631c5172bd348763e039640d37d9cb0ebaf6665b250d669"), looks := true }, kinds := [], alts := [], laidByText := true, laidKinds := [.data, .data, .data, .data, .sentinel, .sentinel, .data, .pinned], laidTests := true, laidLooks := .later }
def IsaTextsUptoCardSaid : Prop := Claim7.holds Tryd.pinned (.plain (OpenSpec.upto isaTextsSpec)) isaTextsUptoCard

/-- THE SECOND FORM's CARD OF 'donjonlaw15.IsaBounds'. -/
def isaBoundsUptoCard : Claim7 := { stood := { row := isaBoundsUptoRow, standIns := [], harness := (true, "b539a67b63327a0cf631c5172bd348763e039640d37d9cb0ebaf6665b250d669"), looks := true }, kinds := [], alts := [], laidByText := true, laidKinds := [.data, .data, .data, .data, .sentinel, .sentinel, .data, .pinned], laidTests := true, laidLooks := .later }
def IsaBoundsUptoCardSaid : Prop := Claim7.holds Tryd.pinned (.plain (OpenSpec.upto isaBoundsSpec)) isaBoundsUptoCard

/-- THE SECOND FORM's CARD OF 'donjonlaw15.IsaTurns'. -/
def isaTurnsUptoCard : Claim7 := { stood := { row := isaTurnsUptoRow, standIns := [], harness := (true, "b539a67b63327a0cf631c5172bd348763e039640d37d9cb0ebaf6665b250d669"), looks := true }, kinds := [], alts := [], laidByText := true, laidKinds := [.data, .data, .data, .data, .sentinel, .sentinel, .data, .pinned], laidTests := true, laidLooks := .later }
def IsaTurnsUptoCardSaid : Prop := Claim7.holds Tryd.pinned (.plain (OpenSpec.upto isaTurnsSpec)) isaTurnsUptoCard
end Rows
end Go.Proofs.YtolccbdogfmcaaaDoor
