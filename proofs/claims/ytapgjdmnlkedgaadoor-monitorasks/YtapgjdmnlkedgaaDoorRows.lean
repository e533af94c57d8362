/-
  NARROWER THAN 'FOR EVERY INPUT', by the rows' own cells (each row's printed sentence says how): MonitorAsks: laid · MonitorSecure: laid · MonitorBlind: laid · MonitorMore: laid · MonitorHigher: laid · MonitorUsers: laid.
  DERIVED. THE GIVEN ROWS OF THIS SEAT. 6 by the template 'for every input the law returns true; each argument reads behind the call as it read before'; 0 by the template 'total and deterministic' (their statements: YtapgjdmnlkedgaaDoorTotals.lean).
  GIVEN WITH THE SEED: the statements are not yours to turn. If you find one false, say at which input.
  Laid BY PROGRAM, IN A SANDBOX (cutbox-rows.mjs): the forced cells as the released guide's own fill.sh prints them over the translation 3df2ad5b58506491… (all of the seat's roots in one cut). By AI agents, Wed Nov 11 2026. No macro, syntax, notation, axiom, sorry.
-/
import Derived.Test.YtapgjdmnlkedgaaDoorChecked
import GoSem.PinnedTables
import GoSem.Claim
import GoSem.ClaimJoined
import GoSem.ClaimMapViews
import Derived.JoinedTies
import Derived.KernelRfl
namespace Go.Proofs.YtapgjdmnlkedgaaDoor
/- THE CELL 'sum', in the pinned program and in every row, IS THE sha256 OF THE DUMP (.gsa) THAT YtapgjdmnlkedgaaDoorProg.lean LOADS. Nothing in Lean hashes anything: it is a label: what it is worth is what the hold of that sum in a sandbox is worth. -/
noncomputable def Tryd.pinned : Pinned := { name := "ytapgjdmnlkedgaadoor", sum := "3df2ad5b58506491c5f7916b58fa484438effb7811000681bd2d53fe9d6ff08d", checked := Tryd.checked }
namespace Rows
def none {H : Type} : Left H := { results := [], args := [] }

/- WHAT THE LISTED PACKAGE-LEVEL VARIABLES READ AS WHEN THE CALL BEGINS. Each datum BY PROGRAM (the guide's laid-datum.mjs) off the statement by which the dump's own 'gosem.cut.vars' lays the variable. In a bare row this is a premise. The card (YtapgjdmnlkedgaaDoorCards.lean) ties it to the program's text. -/
def laid_unicode_utf8_acceptRanges {H : Type} : DataW H := .agg [.agg [.lit (.int .u8 128), .lit (.int .u8 191)], .agg [.lit (.int .u8 160), .lit (.int .u8 191)], .agg [.lit (.int .u8 128), .lit (.int .u8 159)], .agg [.lit (.int .u8 144), .lit (.int .u8 191)], .agg [.lit (.int .u8 128), .lit (.int .u8 143)], .agg [.lit (.int .u8 0), .lit (.int .u8 0)], .agg [.lit (.int .u8 0), .lit (.int .u8 0)], .agg [.lit (.int .u8 0), .lit (.int .u8 0)], .agg [.lit (.int .u8 0), .lit (.int .u8 0)], .agg [.lit (.int .u8 0), .lit (.int .u8 0)], .agg [.lit (.int .u8 0), .lit (.int .u8 0)], .agg [.lit (.int .u8 0), .lit (.int .u8 0)], .agg [.lit (.int .u8 0), .lit (.int .u8 0)], .agg [.lit (.int .u8 0), .lit (.int .u8 0)], .agg [.lit (.int .u8 0), .lit (.int .u8 0)], .agg [.lit (.int .u8 0), .lit (.int .u8 0)]]
/-- One of Go's own tables, pinned by name: the form's constant. -/
def laid_unicode_utf8_first : DataW Unit := Go.Pinned.utf8First

/-- 'donjonlaw13.MonitorAsks': WHATEVER THE INPUT: true; the input reads as it did. -/
def monitorAsksSpec : ChangeSpec := { name := "monitorAsks", fn := fun _ => fun
  | [d1, d2, d3, d4, d5, d6, d7, d8] => { results := [.lit (.bool true)], args := [d1, d2, d3, d4, d5, d6, d7, d8] }
  | _ => none }
def monitorAsksRow : OpenClaim := { program := "ytapgjdmnlkedgaadoor", sum := "3df2ad5b58506491c5f7916b58fa484438effb7811000681bd2d53fe9d6ff08d", func := "donjon/donjonlaw13.MonitorAsks", spec := "monitorAsks", inPlace := ["internal/bytealg.CountString", "internal/bytealg.IndexByteString", "internal/bytealg.IndexString", "internal/bytealg.abigen_runtime_cmpstring"], unfollowed := true, recurses := true, named := ["unicode/utf8.first", "unicode/utf8.acceptRanges", "internal/bytealg.MaxLen"], apart := false, laid := [("unicode/utf8.acceptRanges", laid_unicode_utf8_acceptRanges), ("unicode/utf8.first", laid_unicode_utf8_first)] }
def MonitorAsksSaid : Prop := monitorAsksRow.holds Tryd.pinned (OpenSpec.ofChange monitorAsksSpec)

/-- ITS FALSE NEIGHBOUR: 'it returns false'. Refute it at one input. -/
def monitorAsksWrong : ChangeSpec := { name := "monitorAsks", fn := fun _ => fun
  | [d1, d2, d3, d4, d5, d6, d7, d8] => { results := [.lit (.bool false)], args := [d1, d2, d3, d4, d5, d6, d7, d8] }
  | _ => none }
def MonitorAsksWrongFalsely : Prop := monitorAsksRow.holds Tryd.pinned (OpenSpec.ofChange monitorAsksWrong)

/-- 'donjonlaw13.MonitorSecure': WHATEVER THE INPUT: true; the input reads as it did. -/
def monitorSecureSpec : ChangeSpec := { name := "monitorSecure", fn := fun _ => fun
  | [d1, d2, d3, d4, d5, d6] => { results := [.lit (.bool true)], args := [d1, d2, d3, d4, d5, d6] }
  | _ => none }
def monitorSecureRow : OpenClaim := { program := "ytapgjdmnlkedgaadoor", sum := "3df2ad5b58506491c5f7916b58fa484438effb7811000681bd2d53fe9d6ff08d", func := "donjon/donjonlaw13.MonitorSecure", spec := "monitorSecure", inPlace := ["internal/bytealg.CountString", "internal/bytealg.IndexByteString", "internal/bytealg.IndexString", "internal/bytealg.abigen_runtime_cmpstring"], unfollowed := true, recurses := true, named := ["unicode/utf8.first", "unicode/utf8.acceptRanges", "internal/bytealg.MaxLen"], apart := false, laid := [("unicode/utf8.acceptRanges", laid_unicode_utf8_acceptRanges), ("unicode/utf8.first", laid_unicode_utf8_first)] }
def MonitorSecureSaid : Prop := monitorSecureRow.holds Tryd.pinned (OpenSpec.ofChange monitorSecureSpec)

/-- ITS FALSE NEIGHBOUR: 'it returns false'. Refute it at one input. -/
def monitorSecureWrong : ChangeSpec := { name := "monitorSecure", fn := fun _ => fun
  | [d1, d2, d3, d4, d5, d6] => { results := [.lit (.bool false)], args := [d1, d2, d3, d4, d5, d6] }
  | _ => none }
def MonitorSecureWrongFalsely : Prop := monitorSecureRow.holds Tryd.pinned (OpenSpec.ofChange monitorSecureWrong)

/-- 'donjonlaw13.MonitorBlind': WHATEVER THE INPUT: true; the input reads as it did. -/
def monitorBlindSpec : ChangeSpec := { name := "monitorBlind", fn := fun _ => fun
  | [d1, d2, d3, d4, d5, d6, d7] => { results := [.lit (.bool true)], args := [d1, d2, d3, d4, d5, d6, d7] }
  | _ => none }
def monitorBlindRow : OpenClaim := { program := "ytapgjdmnlkedgaadoor", sum := "3df2ad5b58506491c5f7916b58fa484438effb7811000681bd2d53fe9d6ff08d", func := "donjon/donjonlaw13.MonitorBlind", spec := "monitorBlind", inPlace := ["internal/bytealg.CountString", "internal/bytealg.IndexByteString", "internal/bytealg.IndexString", "internal/bytealg.abigen_runtime_cmpstring"], unfollowed := true, recurses := true, named := ["unicode/utf8.first", "unicode/utf8.acceptRanges", "internal/bytealg.MaxLen"], apart := false, laid := [("unicode/utf8.acceptRanges", laid_unicode_utf8_acceptRanges), ("unicode/utf8.first", laid_unicode_utf8_first)] }
def MonitorBlindSaid : Prop := monitorBlindRow.holds Tryd.pinned (OpenSpec.ofChange monitorBlindSpec)

/-- ITS FALSE NEIGHBOUR: 'it returns false'. Refute it at one input. -/
def monitorBlindWrong : ChangeSpec := { name := "monitorBlind", fn := fun _ => fun
  | [d1, d2, d3, d4, d5, d6, d7] => { results := [.lit (.bool false)], args := [d1, d2, d3, d4, d5, d6, d7] }
  | _ => none }
def MonitorBlindWrongFalsely : Prop := monitorBlindRow.holds Tryd.pinned (OpenSpec.ofChange monitorBlindWrong)

/-- 'donjonlaw13.MonitorMore': WHATEVER THE INPUT: true; the input reads as it did. -/
def monitorMoreSpec : ChangeSpec := { name := "monitorMore", fn := fun _ => fun
  | [d1, d2, d3, d4] => { results := [.lit (.bool true)], args := [d1, d2, d3, d4] }
  | _ => none }
def monitorMoreRow : OpenClaim := { program := "ytapgjdmnlkedgaadoor", sum := "3df2ad5b58506491c5f7916b58fa484438effb7811000681bd2d53fe9d6ff08d", func := "donjon/donjonlaw13.MonitorMore", spec := "monitorMore", inPlace := ["internal/bytealg.CountString", "internal/bytealg.IndexByteString", "internal/bytealg.IndexString", "internal/bytealg.abigen_runtime_cmpstring"], unfollowed := true, recurses := true, named := ["unicode/utf8.first", "unicode/utf8.acceptRanges", "internal/bytealg.MaxLen"], apart := false, laid := [("unicode/utf8.acceptRanges", laid_unicode_utf8_acceptRanges), ("unicode/utf8.first", laid_unicode_utf8_first)] }
def MonitorMoreSaid : Prop := monitorMoreRow.holds Tryd.pinned (OpenSpec.ofChange monitorMoreSpec)

/-- ITS FALSE NEIGHBOUR: 'it returns false'. Refute it at one input. -/
def monitorMoreWrong : ChangeSpec := { name := "monitorMore", fn := fun _ => fun
  | [d1, d2, d3, d4] => { results := [.lit (.bool false)], args := [d1, d2, d3, d4] }
  | _ => none }
def MonitorMoreWrongFalsely : Prop := monitorMoreRow.holds Tryd.pinned (OpenSpec.ofChange monitorMoreWrong)

/-- 'donjonlaw13.MonitorHigher': WHATEVER THE INPUT: true; the input reads as it did. -/
def monitorHigherSpec : ChangeSpec := { name := "monitorHigher", fn := fun _ => fun
  | [d1, d2, d3, d4, d5] => { results := [.lit (.bool true)], args := [d1, d2, d3, d4, d5] }
  | _ => none }
def monitorHigherRow : OpenClaim := { program := "ytapgjdmnlkedgaadoor", sum := "3df2ad5b58506491c5f7916b58fa484438effb7811000681bd2d53fe9d6ff08d", func := "donjon/donjonlaw13.MonitorHigher", spec := "monitorHigher", inPlace := ["internal/bytealg.CountString", "internal/bytealg.IndexByteString", "internal/bytealg.IndexString", "internal/bytealg.abigen_runtime_cmpstring"], unfollowed := true, recurses := true, named := ["unicode/utf8.first", "unicode/utf8.acceptRanges", "internal/bytealg.MaxLen"], apart := false, laid := [("unicode/utf8.acceptRanges", laid_unicode_utf8_acceptRanges), ("unicode/utf8.first", laid_unicode_utf8_first)] }
def MonitorHigherSaid : Prop := monitorHigherRow.holds Tryd.pinned (OpenSpec.ofChange monitorHigherSpec)

/-- ITS FALSE NEIGHBOUR: 'it returns false'. Refute it at one input. -/
def monitorHigherWrong : ChangeSpec := { name := "monitorHigher", fn := fun _ => fun
  | [d1, d2, d3, d4, d5] => { results := [.lit (.bool false)], args := [d1, d2, d3, d4, d5] }
  | _ => none }
def MonitorHigherWrongFalsely : Prop := monitorHigherRow.holds Tryd.pinned (OpenSpec.ofChange monitorHigherWrong)

/-- 'donjonlaw13.MonitorUsers': WHATEVER THE INPUT: true; the input reads as it did. -/
def monitorUsersSpec : ChangeSpec := { name := "monitorUsers", fn := fun _ => fun
  | [d1, d2, d3, d4, d5] => { results := [.lit (.bool true)], args := [d1, d2, d3, d4, d5] }
  | _ => none }
def monitorUsersRow : OpenClaim := { program := "ytapgjdmnlkedgaadoor", sum := "3df2ad5b58506491c5f7916b58fa484438effb7811000681bd2d53fe9d6ff08d", func := "donjon/donjonlaw13.MonitorUsers", spec := "monitorUsers", inPlace := ["internal/bytealg.CountString", "internal/bytealg.IndexByteString", "internal/bytealg.IndexString", "internal/bytealg.abigen_runtime_cmpstring"], unfollowed := true, recurses := true, named := ["unicode/utf8.first", "unicode/utf8.acceptRanges", "internal/bytealg.MaxLen"], apart := false, laid := [("unicode/utf8.acceptRanges", laid_unicode_utf8_acceptRanges), ("unicode/utf8.first", laid_unicode_utf8_first)] }
def MonitorUsersSaid : Prop := monitorUsersRow.holds Tryd.pinned (OpenSpec.ofChange monitorUsersSpec)

/-- ITS FALSE NEIGHBOUR: 'it returns false'. Refute it at one input. -/
def monitorUsersWrong : ChangeSpec := { name := "monitorUsers", fn := fun _ => fun
  | [d1, d2, d3, d4, d5] => { results := [.lit (.bool false)], args := [d1, d2, d3, d4, d5] }
  | _ => none }
def MonitorUsersWrongFalsely : Prop := monitorUsersRow.holds Tryd.pinned (OpenSpec.ofChange monitorUsersWrong)

/- THE SECOND FORM. 'bulk': how many values and letters a reading holds, each counted each time it is reached (what is shared counts as often as it is met; a slice's spare places count too). A statement '..UptoSaid' is the law's where the arguments, and the package variables that the reading takes, are together of bulk at most 1048576: NARROWER than '..Said'. Prove '..Said' where nothing that the law and all that it calls make is longer than what came in: it says more and counts as full. Else prove '..UptoSaid'. A law counts once. -/
mutual
def uptoBulk {H : Type} : DataW H → Nat
  | .lit (.string bytes) => bytes.length + 1
  | .lit _ => 1
  | .nil => 1
  | .ptr d => uptoBulk d + 1
  | .slice elems spare => uptoBulkAll elems + uptoBulkAll spare + 1
  | .agg parts => uptoBulkAll parts + 1
  | .iface _ d => uptoBulk d + 1
  | .map entries => uptoBulkEntries entries + 1
  | .held _ => 1
def uptoBulkAll {H : Type} : List (DataW H) → Nat
  | [] => 0
  | d :: r => uptoBulk d + uptoBulkAll r
def uptoBulkEntries {H : Type} : List (Lit × DataW H) → Nat
  | [] => 0
  | x :: r => uptoBulkEntry x + uptoBulkEntries r
def uptoBulkEntry {H : Type} : Lit × DataW H → Nat
  | (.string bytes, d) => bytes.length + uptoBulk d + 1
  | (_, d) => uptoBulk d + 1
 end
def uptoSmall : (H : Type) → List (DataW H) → Bool := fun _ ds => decide (uptoBulkAll ds ≤ 1048576)
def OpenSpec.upto (s : _root_.Go.ChangeSpec) : _root_.Go.OpenSpec := { _root_.Go.OpenSpec.ofChange s with cond := some uptoSmall }

/-- 'donjonlaw13.MonitorAsks', WHERE WHAT IT READS IS OF BULK AT MOST 1048576: true; the input reads as it did. -/
def monitorAsksUptoRow : OpenClaim := { program := "ytapgjdmnlkedgaadoor", sum := "3df2ad5b58506491c5f7916b58fa484438effb7811000681bd2d53fe9d6ff08d", func := "donjon/donjonlaw13.MonitorAsks", spec := "monitorAsks", inPlace := ["internal/bytealg.CountString", "internal/bytealg.IndexByteString", "internal/bytealg.IndexString", "internal/bytealg.abigen_runtime_cmpstring"], unfollowed := true, recurses := true, named := ["unicode/utf8.first", "unicode/utf8.acceptRanges", "internal/bytealg.MaxLen"], apart := false, laid := [("unicode/utf8.acceptRanges", laid_unicode_utf8_acceptRanges), ("unicode/utf8.first", laid_unicode_utf8_first)], narrowed := true }
def MonitorAsksUptoSaid : Prop := monitorAsksUptoRow.holds Tryd.pinned (OpenSpec.upto monitorAsksSpec)

/-- 'donjonlaw13.MonitorSecure', WHERE WHAT IT READS IS OF BULK AT MOST 1048576: true; the input reads as it did. -/
def monitorSecureUptoRow : OpenClaim := { program := "ytapgjdmnlkedgaadoor", sum := "3df2ad5b58506491c5f7916b58fa484438effb7811000681bd2d53fe9d6ff08d", func := "donjon/donjonlaw13.MonitorSecure", spec := "monitorSecure", inPlace := ["internal/bytealg.CountString", "internal/bytealg.IndexByteString", "internal/bytealg.IndexString", "internal/bytealg.abigen_runtime_cmpstring"], unfollowed := true, recurses := true, named := ["unicode/utf8.first", "unicode/utf8.acceptRanges", "internal/bytealg.MaxLen"], apart := false, laid := [("unicode/utf8.acceptRanges", laid_unicode_utf8_acceptRanges), ("unicode/utf8.first", laid_unicode_utf8_first)], narrowed := true }
def MonitorSecureUptoSaid : Prop := monitorSecureUptoRow.holds Tryd.pinned (OpenSpec.upto monitorSecureSpec)

/-- 'donjonlaw13.MonitorBlind', WHERE WHAT IT READS IS OF BULK AT MOST 1048576: true; the input reads as it did. -/
def monitorBlindUptoRow : OpenClaim := { program := "ytapgjdmnlkedgaadoor", sum := "3df2ad5b58506491c5f7916b58fa484438effb7811000681bd2d53fe9d6ff08d", func := "donjon/donjonlaw13.MonitorBlind", spec := "monitorBlind", inPlace := ["internal/bytealg.CountString", "internal/bytealg.IndexByteString", "internal/bytealg.IndexString", "internal/bytealg.abigen_runtime_cmpstring"], unfollowed := true, recurses := true, named := ["unicode/utf8.first", "unicode/utf8.acceptRanges", "internal/bytealg.MaxLen"], apart := false, laid := [("unicode/utf8.acceptRanges", laid_unicode_utf8_acceptRanges), ("unicode/utf8.first", laid_unicode_utf8_first)], narrowed := true }
def MonitorBlindUptoSaid : Prop := monitorBlindUptoRow.holds Tryd.pinned (OpenSpec.upto monitorBlindSpec)

/-- 'donjonlaw13.MonitorMore', WHERE WHAT IT READS IS OF BULK AT MOST 1048576: true; the input reads as it did. -/
def monitorMoreUptoRow : OpenClaim := { program := "ytapgjdmnlkedgaadoor", sum := "3df2ad5b58506491c5f7916b58fa484438effb7811000681bd2d53fe9d6ff08d", func := "donjon/donjonlaw13.MonitorMore", spec := "monitorMore", inPlace := ["internal/bytealg.CountString", "internal/bytealg.IndexByteString", "internal/bytealg.IndexString", "internal/bytealg.abigen_runtime_cmpstring"], unfollowed := true, recurses := true, named := ["unicode/utf8.first", "unicode/utf8.acceptRanges", "internal/bytealg.MaxLen"], apart := false, laid := [("unicode/utf8.acceptRanges", laid_unicode_utf8_acceptRanges), ("unicode/utf8.first", laid_unicode_utf8_first)], narrowed := true }
def MonitorMoreUptoSaid : Prop := monitorMoreUptoRow.holds Tryd.pinned (OpenSpec.upto monitorMoreSpec)

/-- 'donjonlaw13.MonitorHigher', WHERE WHAT IT READS IS OF BULK AT MOST 1048576: true; the input reads as it did. -/
def monitorHigherUptoRow : OpenClaim := { program := "ytapgjdmnlkedgaadoor", sum := "3df2ad5b58506491c5f7916b58fa484438effb7811000681bd2d53fe9d6ff08d", func := "donjon/donjonlaw13.MonitorHigher", spec := "monitorHigher", inPlace := ["internal/bytealg.CountString", "internal/bytealg.IndexByteString", "internal/bytealg.IndexString", "internal/bytealg.abigen_runtime_cmpstring"], unfollowed := true, recurses := true, named := ["unicode/utf8.first", "unicode/utf8.acceptRanges", "internal/bytealg.MaxLen"], apart := false, laid := [("unicode/utf8.acceptRanges", laid_unicode_utf8_acceptRanges), ("unicode/utf8.first", laid_unicode_utf8_first)], narrowed := true }
def MonitorHigherUptoSaid : Prop := monitorHigherUptoRow.holds Tryd.pinned (OpenSpec.upto monitorHigherSpec)

/-- 'donjonlaw13.MonitorUsers', WHERE WHAT IT READS IS OF BULK AT MOST 1048576: true; the input reads as it did. -/
def monitorUsersUptoRow : OpenClaim := { program := "ytapgjdmnlkedgaadoor", sum := "3df2ad5b58506491c5f7916b58fa484438effb7811000681bd2d53fe9d6ff08d", func := "donjon/donjonlaw13.MonitorUsers", spec := "monitorUsers", inPlace := ["internal/bytealg.CountString", "internal/bytealg.IndexByteString", "internal/bytealg.IndexString", "internal/bytealg.abigen_runtime_cmpstring"], unfollowed := true, recurses := true, named := ["unicode/utf8.first", "unicode/utf8.acceptRanges", "internal/bytealg.MaxLen"], apart := false, laid := [("unicode/utf8.acceptRanges", laid_unicode_utf8_acceptRanges), ("unicode/utf8.first", laid_unicode_utf8_first)], narrowed := true }
def MonitorUsersUptoSaid : Prop := monitorUsersUptoRow.holds Tryd.pinned (OpenSpec.upto monitorUsersSpec)

end Rows
end Go.Proofs.YtapgjdmnlkedgaaDoor
