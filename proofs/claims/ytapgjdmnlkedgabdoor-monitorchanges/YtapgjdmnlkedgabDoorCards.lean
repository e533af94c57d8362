/-
  DERIVED. GIVEN WITH THE SEED: THE CARDS: each row of YtapgjdmnlkedgabDoorRows.lean that lists a variable, with what it lists TIED to the program's text (the seventh form; the later family's looks); each row that meets fmt, with fmt's text TOLD by the authors' own Lean function (tested against real Go, not proved from fmt's source: count such statements apart). THE CARD IS WHAT COUNTS. Prove the row's statement (the work); the ties are given (YtapgjdmnlkedgabDoorTie.lean); close each card by the builder's one call (the guide's Derived/Test/ToyasCard.lean, 'card_holds'). Laid BY PROGRAM, IN A SANDBOX (cutbox-door.mjs). By AI agents, Wed Nov 11 2026. No macro, syntax, notation, axiom, sorry.
-/
import Derived.Test.YtapgjdmnlkedgabDoorRows
import GoSem.ClaimSeven
namespace Go.Proofs.YtapgjdmnlkedgabDoor
namespace Rows

/-- THE TIED CARD OF 'donjonlaw13.MonitorChanges'. -/
def monitorChangesCard : Claim7 := { stood := { row := monitorChangesRow, standIns := [], harness := (true, "82539425017ddc7fb3252cd36f5e872a03efa66715da249b08b28a926668fcb3"), looks := false }, kinds := [], alts := [], laidByText := true, laidKinds := [.data, .pinned], laidTests := true, laidLooks := .later }
def MonitorChangesCardSaid : Prop := Claim7.holds Tryd.pinned (.plain (OpenSpec.ofChange monitorChangesSpec)) monitorChangesCard

/-- THE TIED CARD OF 'donjonlaw13.MonitorModes'. -/
def monitorModesCard : Claim7 := { stood := { row := monitorModesRow, standIns := [], harness := (true, "82539425017ddc7fb3252cd36f5e872a03efa66715da249b08b28a926668fcb3"), looks := false }, kinds := [], alts := [], laidByText := true, laidKinds := [.data, .pinned], laidTests := true, laidLooks := .later }
def MonitorModesCardSaid : Prop := Claim7.holds Tryd.pinned (.plain (OpenSpec.ofChange monitorModesSpec)) monitorModesCard

/-- THE SECOND FORM's CARD OF 'donjonlaw13.MonitorChanges'. -/
def monitorChangesUptoCard : Claim7 := { stood := { row := monitorChangesUptoRow, standIns := [], harness := (true, "82539425017ddc7fb3252cd36f5e872a03efa66715da249b08b28a926668fcb3"), looks := false }, kinds := [], alts := [], laidByText := true, laidKinds := [.data, .pinned], laidTests := true, laidLooks := .later }
def MonitorChangesUptoCardSaid : Prop := Claim7.holds Tryd.pinned (.plain (OpenSpec.upto monitorChangesSpec)) monitorChangesUptoCard

/-- THE SECOND FORM's CARD OF 'donjonlaw13.MonitorModes'. -/
def monitorModesUptoCard : Claim7 := { stood := { row := monitorModesUptoRow, standIns := [], harness := (true, "82539425017ddc7fb3252cd36f5e872a03efa66715da249b08b28a926668fcb3"), looks := false }, kinds := [], alts := [], laidByText := true, laidKinds := [.data, .pinned], laidTests := true, laidLooks := .later }
def MonitorModesUptoCardSaid : Prop := Claim7.holds Tryd.pinned (.plain (OpenSpec.upto monitorModesSpec)) monitorModesUptoCard
end Rows
end Go.Proofs.YtapgjdmnlkedgabDoor
