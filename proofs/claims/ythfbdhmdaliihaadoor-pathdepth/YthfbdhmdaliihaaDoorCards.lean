/-
  DERIVED. GIVEN WITH THE SEED: THE CARDS: each row of YthfbdhmdaliihaaDoorRows.lean that lists a variable, with what it lists TIED to the program's text (the seventh form; the later family's looks); each row that meets fmt, with fmt's text TOLD by the authors' own Lean function (tested against real Go, not proved from fmt's source: count such statements apart). THE CARD IS WHAT COUNTS. Prove the row's statement (the work); the ties are given (YthfbdhmdaliihaaDoorTie.lean); close each card by the builder's one call (the guide's Derived/Test/ToyasCard.lean, 'card_holds'). Laid BY PROGRAM, IN A SANDBOX (cutbox-door.mjs). By AI agents, Wed Nov 11 2026. No macro, syntax, notation, axiom, sorry.
-/
import Derived.Test.YthfbdhmdaliihaaDoorRows
import GoSem.ClaimSeven
namespace Go.Proofs.YthfbdhmdaliihaaDoor
namespace Rows

/-- THE TIED CARD OF 'donjonlaw7.PathChecks'. -/
def pathChecksCard : Claim7 := { stood := { row := pathChecksRow, standIns := [], harness := (true, "116a8ae64edd58de5338ab23d0008b0ac1e1cc98e60b8bb15731ef5a1b6d89b5"), looks := false }, kinds := [], alts := [], laidByText := true, laidKinds := [.data, .pinned], laidTests := true, laidLooks := .later }
def PathChecksCardSaid : Prop := Claim7.holds Tryd.pinned (.plain (OpenSpec.ofChange pathChecksSpec)) pathChecksCard

/-- THE TIED CARD OF 'donjonlaw7.PathParts'. -/
def pathPartsCard : Claim7 := { stood := { row := pathPartsRow, standIns := [], harness := (true, "116a8ae64edd58de5338ab23d0008b0ac1e1cc98e60b8bb15731ef5a1b6d89b5"), looks := false }, kinds := [], alts := [], laidByText := true, laidKinds := [.data, .pinned], laidTests := true, laidLooks := .later }
def PathPartsCardSaid : Prop := Claim7.holds Tryd.pinned (.plain (OpenSpec.ofChange pathPartsSpec)) pathPartsCard

/-- THE TIED CARD OF 'donjonlaw7.PathIn'. -/
def pathInCard : Claim7 := { stood := { row := pathInRow, standIns := [], harness := (true, "116a8ae64edd58de5338ab23d0008b0ac1e1cc98e60b8bb15731ef5a1b6d89b5"), looks := false }, kinds := [], alts := [], laidByText := true, laidKinds := [.data, .pinned], laidTests := true, laidLooks := .later }
def PathInCardSaid : Prop := Claim7.holds Tryd.pinned (.plain (OpenSpec.ofChange pathInSpec)) pathInCard

/-- THE TIED CARD OF 'donjonlaw7.PathDepth'. -/
def pathDepthCard : Claim7 := { stood := { row := pathDepthRow, standIns := [], harness := (true, "116a8ae64edd58de5338ab23d0008b0ac1e1cc98e60b8bb15731ef5a1b6d89b5"), looks := false }, kinds := [], alts := [], laidByText := true, laidKinds := [.data, .pinned], laidTests := true, laidLooks := .later }
def PathDepthCardSaid : Prop := Claim7.holds Tryd.pinned (.plain (OpenSpec.ofChange pathDepthSpec)) pathDepthCard

/-- THE TIED CARD OF 'donjonlaw7.PathTurns'. -/
def pathTurnsCard : Claim7 := { stood := { row := pathTurnsRow, standIns := [], harness := (true, "116a8ae64edd58de5338ab23d0008b0ac1e1cc98e60b8bb15731ef5a1b6d89b5"), looks := false }, kinds := [], alts := [], laidByText := true, laidKinds := [.data, .pinned], laidTests := true, laidLooks := .later }
def PathTurnsCardSaid : Prop := Claim7.holds Tryd.pinned (.plain (OpenSpec.ofChange pathTurnsSpec)) pathTurnsCard

/-- THE SECOND FORM's CARD OF 'donjonlaw7.PathChecks'. -/
def pathChecksUptoCard : Claim7 := { stood := { row := pathChecksUptoRow, standIns := [], harness := (true, "116a8ae64edd58de5338ab23d0008b0ac1e1cc98e60b8bb15731ef5a1b6d89b5"), looks := false }, kinds := [], alts := [], laidByText := true, laidKinds := [.data, .pinned], laidTests := true, laidLooks := .later }
def PathChecksUptoCardSaid : Prop := Claim7.holds Tryd.pinned (.plain (OpenSpec.upto pathChecksSpec)) pathChecksUptoCard

/-- THE SECOND FORM's CARD OF 'donjonlaw7.PathParts'. -/
def pathPartsUptoCard : Claim7 := { stood := { row := pathPartsUptoRow, standIns := [], harness := (true, "116a8ae64edd58de5338ab23d0008b0ac1e1cc98e60b8bb15731ef5a1b6d89b5"), looks := false }, kinds := [], alts := [], laidByText := true, laidKinds := [.data, .pinned], laidTests := true, laidLooks := .later }
def PathPartsUptoCardSaid : Prop := Claim7.holds Tryd.pinned (.plain (OpenSpec.upto pathPartsSpec)) pathPartsUptoCard

/-- THE SECOND FORM's CARD OF 'donjonlaw7.PathIn'. -/
def pathInUptoCard : Claim7 := { stood := { row := pathInUptoRow, standIns := [], harness := (true, "116a8ae64edd58de5338ab23d0008b0ac1e1cc98e60b8bb15731ef5a1b6d89b5"), looks := false }, kinds := [], alts := [], laidByText := true, laidKinds := [.data, .pinned], laidTests := true, laidLooks := .later }
def PathInUptoCardSaid : Prop := Claim7.holds Tryd.pinned (.plain (OpenSpec.upto pathInSpec)) pathInUptoCard

/-- THE SECOND FORM's CARD OF 'donjonlaw7.PathDepth'. -/
def pathDepthUptoCard : Claim7 := { stood := { row := pathDepthUptoRow, standIns := [], harness := (true, "116a8ae64edd58de5338ab23d0008b0ac1e1cc98e60b8bb15731ef5a1b6d89b5"), looks := false }, kinds := [], alts := [], laidByText := true, laidKinds := [.data, .pinned], laidTests := true, laidLooks := .later }
def PathDepthUptoCardSaid : Prop := Claim7.holds Tryd.pinned (.plain (OpenSpec.upto pathDepthSpec)) pathDepthUptoCard

/-- THE SECOND FORM's CARD OF 'donjonlaw7.PathTurns'. -/
def pathTurnsUptoCard : Claim7 := { stood := { row := pathTurnsUptoRow, standIns := [], harness := (true, "116a8ae64edd58de5338ab23d0008b0ac1e1cc98e60b8bb15731ef5a1b6d89b5"), looks := false }, kinds := [], alts := [], laidByText := true, laidKinds := [.data, .pinned], laidTests := true, laidLooks := .later }
def PathTurnsUptoCardSaid : Prop := Claim7.holds Tryd.pinned (.plain (OpenSpec.upto pathTurnsSpec)) pathTurnsUptoCard
end Rows
end Go.Proofs.YthfbdhmdaliihaaDoor
