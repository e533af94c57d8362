/-
  DERIVED. GIVEN WITH THE SEED: THE CARDS: each row of YtapgjdmnlkedgaaDoorRows.lean that lists a variable, with what it lists TIED to the program's text (the seventh form; the later family's looks); each row that meets fmt, with fmt's text TOLD by the authors' own Lean function (tested against real Go, not proved from fmt's source: count such statements apart). THE CARD IS WHAT COUNTS. Prove the row's statement (the work); the ties are given (YtapgjdmnlkedgaaDoorTie.lean); close each card by the builder's one call (the guide's Derived/Test/ToyasCard.lean, 'card_holds'). Laid BY PROGRAM, IN A SANDBOX (cutbox-door.mjs). By AI agents, Wed Nov 11 2026. No macro, syntax, notation, axiom, sorry.
-/
import Derived.Test.YtapgjdmnlkedgaaDoorRows
import GoSem.ClaimSeven
namespace Go.Proofs.YtapgjdmnlkedgaaDoor
namespace Rows

/-- THE TIED CARD OF 'donjonlaw13.MonitorAsks'. -/
def monitorAsksCard : Claim7 := { stood := { row := monitorAsksRow, standIns := [], harness := (true, "c7a966e556a74ce63fa2031d0a7714173bc8ad025f20d444e949122ab9626a42"), looks := false }, kinds := [], alts := [], laidByText := true, laidKinds := [.data, .pinned], laidTests := true, laidLooks := .later }
def MonitorAsksCardSaid : Prop := Claim7.holds Tryd.pinned (.plain (OpenSpec.ofChange monitorAsksSpec)) monitorAsksCard

/-- THE TIED CARD OF 'donjonlaw13.MonitorSecure'. -/
def monitorSecureCard : Claim7 := { stood := { row := monitorSecureRow, standIns := [], harness := (true, "c7a966e556a74ce63fa2031d0a7714173bc8ad025f20d444e949122ab9626a42"), looks := false }, kinds := [], alts := [], laidByText := true, laidKinds := [.data, .pinned], laidTests := true, laidLooks := .later }
def MonitorSecureCardSaid : Prop := Claim7.holds Tryd.pinned (.plain (OpenSpec.ofChange monitorSecureSpec)) monitorSecureCard

/-- THE TIED CARD OF 'donjonlaw13.MonitorBlind'. -/
def monitorBlindCard : Claim7 := { stood := { row := monitorBlindRow, standIns := [], harness := (true, "c7a966e556a74ce63fa2031d0a7714173bc8ad025f20d444e949122ab9626a42"), looks := false }, kinds := [], alts := [], laidByText := true, laidKinds := [.data, .pinned], laidTests := true, laidLooks := .later }
def MonitorBlindCardSaid : Prop := Claim7.holds Tryd.pinned (.plain (OpenSpec.ofChange monitorBlindSpec)) monitorBlindCard

/-- THE TIED CARD OF 'donjonlaw13.MonitorMore'. -/
def monitorMoreCard : Claim7 := { stood := { row := monitorMoreRow, standIns := [], harness := (true, "c7a966e556a74ce63fa2031d0a7714173bc8ad025f20d444e949122ab9626a42"), looks := false }, kinds := [], alts := [], laidByText := true, laidKinds := [.data, .pinned], laidTests := true, laidLooks := .later }
def MonitorMoreCardSaid : Prop := Claim7.holds Tryd.pinned (.plain (OpenSpec.ofChange monitorMoreSpec)) monitorMoreCard

/-- THE TIED CARD OF 'donjonlaw13.MonitorHigher'. -/
def monitorHigherCard : Claim7 := { stood := { row := monitorHigherRow, standIns := [], harness := (true, "c7a966e556a74ce63fa2031d0a7714173bc8ad025f20d444e949122ab9626a42"), looks := false }, kinds := [], alts := [], laidByText := true, laidKinds := [.data, .pinned], laidTests := true, laidLooks := .later }
def MonitorHigherCardSaid : Prop := Claim7.holds Tryd.pinned (.plain (OpenSpec.ofChange monitorHigherSpec)) monitorHigherCard

/-- THE TIED CARD OF 'donjonlaw13.MonitorUsers'. -/
def monitorUsersCard : Claim7 := { stood := { row := monitorUsersRow, standIns := [], harness := (true, "c7a966e556a74ce63fa2031d0a7714173bc8ad025f20d444e949122ab9626a42"), looks := false }, kinds := [], alts := [], laidByText := true, laidKinds := [.data, .pinned], laidTests := true, laidLooks := .later }
def MonitorUsersCardSaid : Prop := Claim7.holds Tryd.pinned (.plain (OpenSpec.ofChange monitorUsersSpec)) monitorUsersCard

/-- THE SECOND FORM's CARD OF 'donjonlaw13.MonitorAsks'. -/
def monitorAsksUptoCard : Claim7 := { stood := { row := monitorAsksUptoRow, standIns := [], harness := (true, "c7a966e556a74ce63fa2031d0a7714173bc8ad025f20d444e949122ab9626a42"), looks := false }, kinds := [], alts := [], laidByText := true, laidKinds := [.data, .pinned], laidTests := true, laidLooks := .later }
def MonitorAsksUptoCardSaid : Prop := Claim7.holds Tryd.pinned (.plain (OpenSpec.upto monitorAsksSpec)) monitorAsksUptoCard

/-- THE SECOND FORM's CARD OF 'donjonlaw13.MonitorSecure'. -/
def monitorSecureUptoCard : Claim7 := { stood := { row := monitorSecureUptoRow, standIns := [], harness := (true, "c7a966e556a74ce63fa2031d0a7714173bc8ad025f20d444e949122ab9626a42"), looks := false }, kinds := [], alts := [], laidByText := true, laidKinds := [.data, .pinned], laidTests := true, laidLooks := .later }
def MonitorSecureUptoCardSaid : Prop := Claim7.holds Tryd.pinned (.plain (OpenSpec.upto monitorSecureSpec)) monitorSecureUptoCard

/-- THE SECOND FORM's CARD OF 'donjonlaw13.MonitorBlind'. -/
def monitorBlindUptoCard : Claim7 := { stood := { row := monitorBlindUptoRow, standIns := [], harness := (true, "c7a966e556a74ce63fa2031d0a7714173bc8ad025f20d444e949122ab9626a42"), looks := false }, kinds := [], alts := [], laidByText := true, laidKinds := [.data, .pinned], laidTests := true, laidLooks := .later }
def MonitorBlindUptoCardSaid : Prop := Claim7.holds Tryd.pinned (.plain (OpenSpec.upto monitorBlindSpec)) monitorBlindUptoCard

/-- THE SECOND FORM's CARD OF 'donjonlaw13.MonitorMore'. -/
def monitorMoreUptoCard : Claim7 := { stood := { row := monitorMoreUptoRow, standIns := [], harness := (true, "c7a966e556a74ce63fa2031d0a7714173bc8ad025f20d444e949122ab9626a42"), looks := false }, kinds := [], alts := [], laidByText := true, laidKinds := [.data, .pinned], laidTests := true, laidLooks := .later }
def MonitorMoreUptoCardSaid : Prop := Claim7.holds Tryd.pinned (.plain (OpenSpec.upto monitorMoreSpec)) monitorMoreUptoCard

/-- THE SECOND FORM's CARD OF 'donjonlaw13.MonitorHigher'. -/
def monitorHigherUptoCard : Claim7 := { stood := { row := monitorHigherUptoRow, standIns := [], harness := (true, "c7a966e556a74ce63fa2031d0a7714173bc8ad025f20d444e949122ab9626a42"), looks := false }, kinds := [], alts := [], laidByText := true, laidKinds := [.data, .pinned], laidTests := true, laidLooks := .later }
def MonitorHigherUptoCardSaid : Prop := Claim7.holds Tryd.pinned (.plain (OpenSpec.upto monitorHigherSpec)) monitorHigherUptoCard

/-- THE SECOND FORM's CARD OF 'donjonlaw13.MonitorUsers'. -/
def monitorUsersUptoCard : Claim7 := { stood := { row := monitorUsersUptoRow, standIns := [], harness := (true, "c7a966e556a74ce63fa2031d0a7714173bc8ad025f20d444e949122ab9626a42"), looks := false }, kinds := [], alts := [], laidByText := true, laidKinds := [.data, .pinned], laidTests := true, laidLooks := .later }
def MonitorUsersUptoCardSaid : Prop := Claim7.holds Tryd.pinned (.plain (OpenSpec.upto monitorUsersSpec)) monitorUsersUptoCard
end Rows
end Go.Proofs.YtapgjdmnlkedgaaDoor
