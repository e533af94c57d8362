/-
  DERIVED. GIVEN WITH THE SEED: THE CARDS: each row of YtacjfbomjglnjaaDoorRows.lean that lists a variable, with what it lists TIED to the program's text (the seventh form; the later family's looks); each row that meets fmt, with fmt's text TOLD by the authors' own Lean function (tested against real Go, not proved from fmt's source: count such statements apart). THE CARD IS WHAT COUNTS. Prove the row's statement (the work); the ties are given (YtacjfbomjglnjaaDoorTie.lean); close each card by the builder's one call (the guide's Derived/Test/ToyasCard.lean, 'card_holds'). Laid BY PROGRAM, IN A SANDBOX (cutbox-door.mjs). By AI agents, Wed Nov 11 2026. No macro, syntax, notation, axiom, sorry.
-/
import Derived.Test.YtacjfbomjglnjaaDoorRows
import GoSem.ClaimSeven
namespace Go.Proofs.YtacjfbomjglnjaaDoor
namespace Rows

/-- THE TIED CARD OF 'donjonlaw11.TreeChecks'. -/
def treeChecksCard : Claim7 := { stood := { row := treeChecksRow, standIns := [], harness := (true, "5c922abba35957430557301b0b6b7aaa2b8fd2386e27c8f0e422598da48da311"), looks := false }, kinds := [], alts := [], laidByText := true, laidKinds := [.data, .data, .data, .data, .pinned], laidTests := true, laidLooks := .later }
def TreeChecksCardSaid : Prop := Claim7.holds Tryd.pinned (.plain (OpenSpec.ofChange treeChecksSpec)) treeChecksCard

/-- THE TIED CARD OF 'donjonlaw11.TreePlays'. -/
def treePlaysCard : Claim7 := { stood := { row := treePlaysRow, standIns := [], harness := (true, "5c922abba35957430557301b0b6b7aaa2b8fd2386e27c8f0e422598da48da311"), looks := false }, kinds := [], alts := [], laidByText := true, laidKinds := [.data, .data, .data], laidTests := true, laidLooks := .later }
def TreePlaysCardSaid : Prop := Claim7.holds Tryd.pinned (.plain (OpenSpec.ofChange treePlaysSpec)) treePlaysCard

/-- THE TIED CARD OF 'donjonlaw11.TreeFirst'. -/
def treeFirstCard : Claim7 := { stood := { row := treeFirstRow, standIns := [], harness := (true, "5c922abba35957430557301b0b6b7aaa2b8fd2386e27c8f0e422598da48da311"), looks := false }, kinds := [], alts := [], laidByText := true, laidKinds := [.data, .data, .data, .data, .pinned], laidTests := true, laidLooks := .later }
def TreeFirstCardSaid : Prop := Claim7.holds Tryd.pinned (.plain (OpenSpec.ofChange treeFirstSpec)) treeFirstCard

/-- THE TIED CARD OF 'donjonlaw11.TreeRises'. -/
def treeRisesCard : Claim7 := { stood := { row := treeRisesRow, standIns := [], harness := (true, "5c922abba35957430557301b0b6b7aaa2b8fd2386e27c8f0e422598da48da311"), looks := false }, kinds := [], alts := [], laidByText := true, laidKinds := [.data, .data, .data, .data, .pinned], laidTests := true, laidLooks := .later }
def TreeRisesCardSaid : Prop := Claim7.holds Tryd.pinned (.plain (OpenSpec.ofChange treeRisesSpec)) treeRisesCard

/-- THE TIED CARD OF 'donjonlaw11.TreeUnders'. -/
def treeUndersCard : Claim7 := { stood := { row := treeUndersRow, standIns := [], harness := (true, "5c922abba35957430557301b0b6b7aaa2b8fd2386e27c8f0e422598da48da311"), looks := false }, kinds := [], alts := [], laidByText := true, laidKinds := [.data, .data, .data], laidTests := true, laidLooks := .later }
def TreeUndersCardSaid : Prop := Claim7.holds Tryd.pinned (.plain (OpenSpec.ofChange treeUndersSpec)) treeUndersCard

/-- THE TIED CARD OF 'donjonlaw11.TreeLabels'. -/
def treeLabelsCard : Claim7 := { stood := { row := treeLabelsRow, standIns := [], harness := (true, "5c922abba35957430557301b0b6b7aaa2b8fd2386e27c8f0e422598da48da311"), looks := false }, kinds := [], alts := [], laidByText := true, laidKinds := [.data, .data, .data, .data, .pinned], laidTests := true, laidLooks := .later }
def TreeLabelsCardSaid : Prop := Claim7.holds Tryd.pinned (.plain (OpenSpec.ofChange treeLabelsSpec)) treeLabelsCard

/-- THE SECOND FORM's CARD OF 'donjonlaw11.TreeChecks'. -/
def treeChecksUptoCard : Claim7 := { stood := { row := treeChecksUptoRow, standIns := [], harness := (true, "5c922abba35957430557301b0b6b7aaa2b8fd2386e27c8f0e422598da48da311"), looks := false }, kinds := [], alts := [], laidByText := true, laidKinds := [.data, .data, .data, .data, .pinned], laidTests := true, laidLooks := .later }
def TreeChecksUptoCardSaid : Prop := Claim7.holds Tryd.pinned (.plain (OpenSpec.upto treeChecksSpec)) treeChecksUptoCard

/-- THE SECOND FORM's CARD OF 'donjonlaw11.TreePlays'. -/
def treePlaysUptoCard : Claim7 := { stood := { row := treePlaysUptoRow, standIns := [], harness := (true, "5c922abba35957430557301b0b6b7aaa2b8fd2386e27c8f0e422598da48da311"), looks := false }, kinds := [], alts := [], laidByText := true, laidKinds := [.data, .data, .data], laidTests := true, laidLooks := .later }
def TreePlaysUptoCardSaid : Prop := Claim7.holds Tryd.pinned (.plain (OpenSpec.upto treePlaysSpec)) treePlaysUptoCard

/-- THE SECOND FORM's CARD OF 'donjonlaw11.TreeFirst'. -/
def treeFirstUptoCard : Claim7 := { stood := { row := treeFirstUptoRow, standIns := [], harness := (true, "5c922abba35957430557301b0b6b7aaa2b8fd2386e27c8f0e422598da48da311"), looks := false }, kinds := [], alts := [], laidByText := true, laidKinds := [.data, .data, .data, .data, .pinned], laidTests := true, laidLooks := .later }
def TreeFirstUptoCardSaid : Prop := Claim7.holds Tryd.pinned (.plain (OpenSpec.upto treeFirstSpec)) treeFirstUptoCard

/-- THE SECOND FORM's CARD OF 'donjonlaw11.TreeRises'. -/
def treeRisesUptoCard : Claim7 := { stood := { row := treeRisesUptoRow, standIns := [], harness := (true, "5c922abba35957430557301b0b6b7aaa2b8fd2386e27c8f0e422598da48da311"), looks := false }, kinds := [], alts := [], laidByText := true, laidKinds := [.data, .data, .data, .data, .pinned], laidTests := true, laidLooks := .later }
def TreeRisesUptoCardSaid : Prop := Claim7.holds Tryd.pinned (.plain (OpenSpec.upto treeRisesSpec)) treeRisesUptoCard

/-- THE SECOND FORM's CARD OF 'donjonlaw11.TreeUnders'. -/
def treeUndersUptoCard : Claim7 := { stood := { row := treeUndersUptoRow, standIns := [], harness := (true, "5c922abba35957430557301b0b6b7aaa2b8fd2386e27c8f0e422598da48da311"), looks := false }, kinds := [], alts := [], laidByText := true, laidKinds := [.data, .data, .data], laidTests := true, laidLooks := .later }
def TreeUndersUptoCardSaid : Prop := Claim7.holds Tryd.pinned (.plain (OpenSpec.upto treeUndersSpec)) treeUndersUptoCard

/-- THE SECOND FORM's CARD OF 'donjonlaw11.TreeLabels'. -/
def treeLabelsUptoCard : Claim7 := { stood := { row := treeLabelsUptoRow, standIns := [], harness := (true, "5c922abba35957430557301b0b6b7aaa2b8fd2386e27c8f0e422598da48da311"), looks := false }, kinds := [], alts := [], laidByText := true, laidKinds := [.data, .data, .data, .data, .pinned], laidTests := true, laidLooks := .later }
def TreeLabelsUptoCardSaid : Prop := Claim7.holds Tryd.pinned (.plain (OpenSpec.upto treeLabelsSpec)) treeLabelsUptoCard
end Rows
end Go.Proofs.YtacjfbomjglnjaaDoor
