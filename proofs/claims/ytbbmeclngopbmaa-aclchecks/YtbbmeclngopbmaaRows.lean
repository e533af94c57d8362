/-
  No cell of these rows narrows 'for every input' (looked for: loops, veiled, ifaces, maps, wideKeys, modest, calm, conditions, laid).
  DERIVED. THE GIVEN ROWS OF THIS SEAT. 5 by the template 'for every input the law returns true; each argument reads behind the call as it read before'; 0 by the template 'total and deterministic' (their statements: YtbbmeclngopbmaaTotals.lean).
  GIVEN WITH THE SEED: the statements are not yours to turn. If you find one false, say at which input.
  Laid BY PROGRAM, IN A SANDBOX (cutbox-rows.mjs): the forced cells as the released guide's own fill.sh prints them over the translation 682dc1b2baf16c29… (all of the seat's roots in one cut). By AI agents, Wed Nov 11 2026. No macro, syntax, notation, axiom, sorry.
-/
import Derived.Test.YtbbmeclngopbmaaChecked
import GoSem.Claim
import GoSem.ClaimJoined
import GoSem.ClaimMapViews
import Derived.JoinedTies
import Derived.KernelRfl
namespace Go.Proofs.Ytbbmeclngopbmaa
/- THE CELL 'sum', in the pinned program and in every row, IS THE sha256 OF THE DUMP (.gsa) THAT YtbbmeclngopbmaaProg.lean LOADS. Nothing in Lean hashes anything: it is a label: what it is worth is what the hold of that sum in a sandbox is worth. -/
noncomputable def Try.pinned : Pinned := { name := "ytbbmeclngopbmaa", sum := "682dc1b2baf16c2937e7f20fa88f9f7039d9372e9fa6ab9d53653faa64421f89", checked := Try.checked }
namespace Rows
def none {H : Type} : Left H := { results := [], args := [] }

/-- 'donjonlaw5.AclChecks': WHATEVER THE INPUT: true; the input reads as it did. -/
def aclChecksSpec : ChangeSpec := { name := "aclChecks", fn := fun _ => fun
  | [d1, d2] => { results := [.lit (.bool true)], args := [d1, d2] }
  | _ => none }
def aclChecksRow : OpenClaim := { program := "ytbbmeclngopbmaa", sum := "682dc1b2baf16c2937e7f20fa88f9f7039d9372e9fa6ab9d53653faa64421f89", func := "donjon/donjonlaw5.AclChecks", spec := "aclChecks", inPlace := ["internal/bytealg.abigen_runtime_cmpstring"], unfollowed := true, recurses := true, apart := false }
def AclChecksSaid : Prop := aclChecksRow.holds Try.pinned (OpenSpec.ofChange aclChecksSpec)

/-- ITS FALSE NEIGHBOUR: 'it returns false'. Refute it at one input. -/
def aclChecksWrong : ChangeSpec := { name := "aclChecks", fn := fun _ => fun
  | [d1, d2] => { results := [.lit (.bool false)], args := [d1, d2] }
  | _ => none }
def AclChecksWrongFalsely : Prop := aclChecksRow.holds Try.pinned (OpenSpec.ofChange aclChecksWrong)

/-- 'donjonlaw5.AclPlays': WHATEVER THE INPUT: true; the input reads as it did. -/
def aclPlaysSpec : ChangeSpec := { name := "aclPlays", fn := fun _ => fun
  | [d] => { results := [.lit (.bool true)], args := [d] }
  | _ => none }
def aclPlaysRow : OpenClaim := { program := "ytbbmeclngopbmaa", sum := "682dc1b2baf16c2937e7f20fa88f9f7039d9372e9fa6ab9d53653faa64421f89", func := "donjon/donjonlaw5.AclPlays", spec := "aclPlays", inPlace := ["internal/bytealg.abigen_runtime_cmpstring"], unfollowed := true, recurses := true, apart := false }
def AclPlaysSaid : Prop := aclPlaysRow.holds Try.pinned (OpenSpec.ofChange aclPlaysSpec)

/-- ITS FALSE NEIGHBOUR: 'it returns false'. Refute it at one input. -/
def aclPlaysWrong : ChangeSpec := { name := "aclPlays", fn := fun _ => fun
  | [d] => { results := [.lit (.bool false)], args := [d] }
  | _ => none }
def AclPlaysWrongFalsely : Prop := aclPlaysRow.holds Try.pinned (OpenSpec.ofChange aclPlaysWrong)

/-- 'donjonlaw5.AclOthers': WHATEVER THE INPUT: true; the input reads as it did. -/
def aclOthersSpec : ChangeSpec := { name := "aclOthers", fn := fun _ => fun
  | [d1, d2, d3, d4] => { results := [.lit (.bool true)], args := [d1, d2, d3, d4] }
  | _ => none }
def aclOthersRow : OpenClaim := { program := "ytbbmeclngopbmaa", sum := "682dc1b2baf16c2937e7f20fa88f9f7039d9372e9fa6ab9d53653faa64421f89", func := "donjon/donjonlaw5.AclOthers", spec := "aclOthers", inPlace := ["internal/bytealg.abigen_runtime_cmpstring"], unfollowed := true, recurses := true, apart := false }
def AclOthersSaid : Prop := aclOthersRow.holds Try.pinned (OpenSpec.ofChange aclOthersSpec)

/-- ITS FALSE NEIGHBOUR: 'it returns false'. Refute it at one input. -/
def aclOthersWrong : ChangeSpec := { name := "aclOthers", fn := fun _ => fun
  | [d1, d2, d3, d4] => { results := [.lit (.bool false)], args := [d1, d2, d3, d4] }
  | _ => none }
def AclOthersWrongFalsely : Prop := aclOthersRow.holds Try.pinned (OpenSpec.ofChange aclOthersWrong)

/-- 'donjonlaw5.AclFull': WHATEVER THE INPUT: true; the input reads as it did. -/
def aclFullSpec : ChangeSpec := { name := "aclFull", fn := fun _ => fun
  | [d1, d2] => { results := [.lit (.bool true)], args := [d1, d2] }
  | _ => none }
def aclFullRow : OpenClaim := { program := "ytbbmeclngopbmaa", sum := "682dc1b2baf16c2937e7f20fa88f9f7039d9372e9fa6ab9d53653faa64421f89", func := "donjon/donjonlaw5.AclFull", spec := "aclFull", inPlace := ["internal/bytealg.abigen_runtime_cmpstring"], unfollowed := true, recurses := true, apart := false }
def AclFullSaid : Prop := aclFullRow.holds Try.pinned (OpenSpec.ofChange aclFullSpec)

/-- ITS FALSE NEIGHBOUR: 'it returns false'. Refute it at one input. -/
def aclFullWrong : ChangeSpec := { name := "aclFull", fn := fun _ => fun
  | [d1, d2] => { results := [.lit (.bool false)], args := [d1, d2] }
  | _ => none }
def AclFullWrongFalsely : Prop := aclFullRow.holds Try.pinned (OpenSpec.ofChange aclFullWrong)

/-- 'donjonlaw5.AclTurns': WHATEVER THE INPUT: true; the input reads as it did. -/
def aclTurnsSpec : ChangeSpec := { name := "aclTurns", fn := fun _ => fun
  | [d1, d2, d3] => { results := [.lit (.bool true)], args := [d1, d2, d3] }
  | _ => none }
def aclTurnsRow : OpenClaim := { program := "ytbbmeclngopbmaa", sum := "682dc1b2baf16c2937e7f20fa88f9f7039d9372e9fa6ab9d53653faa64421f89", func := "donjon/donjonlaw5.AclTurns", spec := "aclTurns", inPlace := ["internal/bytealg.abigen_runtime_cmpstring"], unfollowed := true, recurses := true, apart := false }
def AclTurnsSaid : Prop := aclTurnsRow.holds Try.pinned (OpenSpec.ofChange aclTurnsSpec)

/-- ITS FALSE NEIGHBOUR: 'it returns false'. Refute it at one input. -/
def aclTurnsWrong : ChangeSpec := { name := "aclTurns", fn := fun _ => fun
  | [d1, d2, d3] => { results := [.lit (.bool false)], args := [d1, d2, d3] }
  | _ => none }
def AclTurnsWrongFalsely : Prop := aclTurnsRow.holds Try.pinned (OpenSpec.ofChange aclTurnsWrong)

/- THE SECOND FORM. 'bulk': how many values and letters a reading holds, each counted each time it is reached (what is shared counts as often as it is met; a slice's spare places count too). A statement '..UptoSaid' is the law's where the arguments, and the package variables that the reading takes, are together of bulk at most 1048576: NARROWER than '..Said'. Prove '..Said' where nothing that the law and all that it calls make is longer than what came in: it says more and counts as full. Else prove '..UptoSaid'. A law counts once. -/
mutual
def uptoBulk {H : Type} : DataW H → Nat
  | .lit (.string bytes) => bytes.length + 1
  | .lit _ => 1
  | .nil => 1
  | .ptr d => uptoBulk d + 1
  | .slice elems spare => uptoBulkAll elems + uptoBulkAll spare + 1
  | .agg parts => uptoBulkAll parts + 1
  | .iface _ d => uptoBulk d + 1
  | .map entries => uptoBulkEntries entries + 1
  | .held _ => 1
def uptoBulkAll {H : Type} : List (DataW H) → Nat
  | [] => 0
  | d :: r => uptoBulk d + uptoBulkAll r
def uptoBulkEntries {H : Type} : List (Lit × DataW H) → Nat
  | [] => 0
  | x :: r => uptoBulkEntry x + uptoBulkEntries r
def uptoBulkEntry {H : Type} : Lit × DataW H → Nat
  | (.string bytes, d) => bytes.length + uptoBulk d + 1
  | (_, d) => uptoBulk d + 1
 end
def uptoSmall : (H : Type) → List (DataW H) → Bool := fun _ ds => decide (uptoBulkAll ds ≤ 1048576)
def OpenSpec.upto (s : _root_.Go.ChangeSpec) : _root_.Go.OpenSpec := { _root_.Go.OpenSpec.ofChange s with cond := some uptoSmall }

/-- 'donjonlaw5.AclChecks', WHERE WHAT IT READS IS OF BULK AT MOST 1048576: true; the input reads as it did. -/
def aclChecksUptoRow : OpenClaim := { program := "ytbbmeclngopbmaa", sum := "682dc1b2baf16c2937e7f20fa88f9f7039d9372e9fa6ab9d53653faa64421f89", func := "donjon/donjonlaw5.AclChecks", spec := "aclChecks", inPlace := ["internal/bytealg.abigen_runtime_cmpstring"], unfollowed := true, recurses := true, apart := false, narrowed := true }
def AclChecksUptoSaid : Prop := aclChecksUptoRow.holds Try.pinned (OpenSpec.upto aclChecksSpec)

/-- 'donjonlaw5.AclPlays', WHERE WHAT IT READS IS OF BULK AT MOST 1048576: true; the input reads as it did. -/
def aclPlaysUptoRow : OpenClaim := { program := "ytbbmeclngopbmaa", sum := "682dc1b2baf16c2937e7f20fa88f9f7039d9372e9fa6ab9d53653faa64421f89", func := "donjon/donjonlaw5.AclPlays", spec := "aclPlays", inPlace := ["internal/bytealg.abigen_runtime_cmpstring"], unfollowed := true, recurses := true, apart := false, narrowed := true }
def AclPlaysUptoSaid : Prop := aclPlaysUptoRow.holds Try.pinned (OpenSpec.upto aclPlaysSpec)

/-- 'donjonlaw5.AclOthers', WHERE WHAT IT READS IS OF BULK AT MOST 1048576: true; the input reads as it did. -/
def aclOthersUptoRow : OpenClaim := { program := "ytbbmeclngopbmaa", sum := "682dc1b2baf16c2937e7f20fa88f9f7039d9372e9fa6ab9d53653faa64421f89", func := "donjon/donjonlaw5.AclOthers", spec := "aclOthers", inPlace := ["internal/bytealg.abigen_runtime_cmpstring"], unfollowed := true, recurses := true, apart := false, narrowed := true }
def AclOthersUptoSaid : Prop := aclOthersUptoRow.holds Try.pinned (OpenSpec.upto aclOthersSpec)

/-- 'donjonlaw5.AclFull', WHERE WHAT IT READS IS OF BULK AT MOST 1048576: true; the input reads as it did. -/
def aclFullUptoRow : OpenClaim := { program := "ytbbmeclngopbmaa", sum := "682dc1b2baf16c2937e7f20fa88f9f7039d9372e9fa6ab9d53653faa64421f89", func := "donjon/donjonlaw5.AclFull", spec := "aclFull", inPlace := ["internal/bytealg.abigen_runtime_cmpstring"], unfollowed := true, recurses := true, apart := false, narrowed := true }
def AclFullUptoSaid : Prop := aclFullUptoRow.holds Try.pinned (OpenSpec.upto aclFullSpec)

/-- 'donjonlaw5.AclTurns', WHERE WHAT IT READS IS OF BULK AT MOST 1048576: true; the input reads as it did. -/
def aclTurnsUptoRow : OpenClaim := { program := "ytbbmeclngopbmaa", sum := "682dc1b2baf16c2937e7f20fa88f9f7039d9372e9fa6ab9d53653faa64421f89", func := "donjon/donjonlaw5.AclTurns", spec := "aclTurns", inPlace := ["internal/bytealg.abigen_runtime_cmpstring"], unfollowed := true, recurses := true, apart := false, narrowed := true }
def AclTurnsUptoSaid : Prop := aclTurnsUptoRow.holds Try.pinned (OpenSpec.upto aclTurnsSpec)

end Rows
end Go.Proofs.Ytbbmeclngopbmaa
