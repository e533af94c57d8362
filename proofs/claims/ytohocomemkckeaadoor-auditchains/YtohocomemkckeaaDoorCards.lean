/-
  DERIVED. GIVEN WITH THE SEED: THE CARDS: each row of YtohocomemkckeaaDoorRows.lean that lists a variable, with what it lists TIED to the program's text (the seventh form; the later family's looks); each row that meets fmt, with fmt's text TOLD by the authors' own Lean function (tested against real Go, not proved from fmt's source: count such statements apart). THE CARD IS WHAT COUNTS. Prove the row's statement (the work); the ties are given (YtohocomemkckeaaDoorTie.lean); close each card by the builder's one call (the guide's Derived/Test/ToyasCard.lean, 'card_holds'). Laid BY PROGRAM, IN A SANDBOX (cutbox-door.mjs). By AI agents, Wed Nov 11 2026. No macro, syntax, notation, axiom, sorry.
-/
import Derived.Test.YtohocomemkckeaaDoorRows
import GoSem.ClaimSeven
namespace Go.Proofs.YtohocomemkckeaaDoor
namespace Rows

/-- THE TIED CARD OF 'donjonlaw14.AuditFull'. -/
def auditFullCard : Claim7 := { stood := { row := auditFullRow, standIns := [], harness := (true, "052aae7d7c61d0559c358ce877d8e8726035cc27fbbc1962590f7850a3f6fd46"), looks := false }, kinds := [], alts := [], laidByText := true, laidKinds := [.data, .data, .data, .data], laidTests := true, laidLooks := .later }
def AuditFullCardSaid : Prop := Claim7.holds Tryd.pinned (.plain (OpenSpec.ofChange auditFullSpec)) auditFullCard

/-- THE TIED CARD OF 'donjonlaw14.AuditStays'. -/
def auditStaysCard : Claim7 := { stood := { row := auditStaysRow, standIns := [], harness := (true, "052aae7d7c61d0559c358ce877d8e8726035cc27fbbc1962590f7850a3f6fd46"), looks := false }, kinds := [], alts := [], laidByText := true, laidKinds := [.data, .data, .data, .data], laidTests := true, laidLooks := .later }
def AuditStaysCardSaid : Prop := Claim7.holds Tryd.pinned (.plain (OpenSpec.ofChange auditStaysSpec)) auditStaysCard

/-- THE TIED CARD OF 'donjonlaw14.AuditChains'. -/
def auditChainsCard : Claim7 := { stood := { row := auditChainsRow, standIns := [], harness := (true, "052aae7d7c61d0559c358ce877d8e8726035cc27fbbc1962590f7850a3f6fd46"), looks := false }, kinds := [], alts := [], laidByText := true, laidKinds := [.data, .data, .data, .data], laidTests := true, laidLooks := .later }
def AuditChainsCardSaid : Prop := Claim7.holds Tryd.pinned (.plain (OpenSpec.ofChange auditChainsSpec)) auditChainsCard

/-- THE TIED CARD OF 'donjonlaw14.AuditBounds'. -/
def auditBoundsCard : Claim7 := { stood := { row := auditBoundsRow, standIns := [], harness := (true, "052aae7d7c61d0559c358ce877d8e8726035cc27fbbc1962590f7850a3f6fd46"), looks := false }, kinds := [], alts := [], laidByText := true, laidKinds := [.data, .data, .data, .data], laidTests := true, laidLooks := .later }
def AuditBoundsCardSaid : Prop := Claim7.holds Tryd.pinned (.plain (OpenSpec.ofChange auditBoundsSpec)) auditBoundsCard

/-- THE SECOND FORM's CARD OF 'donjonlaw14.AuditFull'. -/
def auditFullUptoCard : Claim7 := { stood := { row := auditFullUptoRow, standIns := [], harness := (true, "052aae7d7c61d0559c358ce877d8e8726035cc27fbbc1962590f7850a3f6fd46"), looks := false }, kinds := [], alts := [], laidByText := true, laidKinds := [.data, .data, .data, .data], laidTests := true, laidLooks := .later }
def AuditFullUptoCardSaid : Prop := Claim7.holds Tryd.pinned (.plain (OpenSpec.upto auditFullSpec)) auditFullUptoCard

/-- THE SECOND FORM's CARD OF 'donjonlaw14.AuditStays'. -/
def auditStaysUptoCard : Claim7 := { stood := { row := auditStaysUptoRow, standIns := [], harness := (true, "052aae7d7c61d0559c358ce877d8e8726035cc27fbbc1962590f7850a3f6fd46"), looks := false }, kinds := [], alts := [], laidByText := true, laidKinds := [.data, .data, .data, .data], laidTests := true, laidLooks := .later }
def AuditStaysUptoCardSaid : Prop := Claim7.holds Tryd.pinned (.plain (OpenSpec.upto auditStaysSpec)) auditStaysUptoCard

/-- THE SECOND FORM's CARD OF 'donjonlaw14.AuditChains'. -/
def auditChainsUptoCard : Claim7 := { stood := { row := auditChainsUptoRow, standIns := [], harness := (true, "052aae7d7c61d0559c358ce877d8e8726035cc27fbbc1962590f7850a3f6fd46"), looks := false }, kinds := [], alts := [], laidByText := true, laidKinds := [.data, .data, .data, .data], laidTests := true, laidLooks := .later }
def AuditChainsUptoCardSaid : Prop := Claim7.holds Tryd.pinned (.plain (OpenSpec.upto auditChainsSpec)) auditChainsUptoCard

/-- THE SECOND FORM's CARD OF 'donjonlaw14.AuditBounds'. -/
def auditBoundsUptoCard : Claim7 := { stood := { row := auditBoundsUptoRow, standIns := [], harness := (true, "052aae7d7c61d0559c358ce877d8e8726035cc27fbbc1962590f7850a3f6fd46"), looks := false }, kinds := [], alts := [], laidByText := true, laidKinds := [.data, .data, .data, .data], laidTests := true, laidLooks := .later }
def AuditBoundsUptoCardSaid : Prop := Claim7.holds Tryd.pinned (.plain (OpenSpec.upto auditBoundsSpec)) auditBoundsUptoCard
end Rows
end Go.Proofs.YtohocomemkckeaaDoor
