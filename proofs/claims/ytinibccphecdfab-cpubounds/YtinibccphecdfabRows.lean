/-
  No cell of these rows narrows 'for every input' (looked for: loops, veiled, ifaces, maps, wideKeys, modest, calm, conditions, laid).
  DERIVED. THE GIVEN ROWS OF THIS SEAT. 5 by the template 'for every input the law returns true; each argument reads behind the call as it read before'; 0 by the template 'total and deterministic' (their statements: YtinibccphecdfabTotals.lean).
  GIVEN WITH THE SEED: the statements are not yours to turn. If you find one false, say at which input.
  Laid BY PROGRAM, IN A SANDBOX (cutbox-rows.mjs): the forced cells as the released guide's own fill.sh prints them over the translation 2aed6c5ff450bd25… (all of the seat's roots in one cut). By AI agents, Wed Nov 11 2026. No macro, syntax, notation, axiom, sorry.
-/
import Derived.Test.YtinibccphecdfabChecked
import GoSem.Claim
import GoSem.ClaimJoined
import GoSem.ClaimMapViews
import Derived.JoinedTies
import Derived.KernelRfl
namespace Go.Proofs.Ytinibccphecdfab
/- THE CELL 'sum', in the pinned program and in every row, IS THE sha256 OF THE DUMP (.gsa) THAT YtinibccphecdfabProg.lean LOADS. Nothing in Lean hashes anything: it is a label: what it is worth is what the hold of that sum in a sandbox is worth. -/
noncomputable def Try.pinned : Pinned := { name := "ytinibccphecdfab", sum := "2aed6c5ff450bd251f0e3c7beef384a38cc56b43b5cc0bf6a7a91fdb525bcaaf", checked := Try.checked }
namespace Rows
def none {H : Type} : Left H := { results := [], args := [] }

/-- 'donjonlaw16.CpuJumps': WHATEVER THE INPUT: true; the input reads as it did. -/
def cpuJumpsSpec : ChangeSpec := { name := "cpuJumps", fn := fun _ => fun
  | [d1, d2, d3] => { results := [.lit (.bool true)], args := [d1, d2, d3] }
  | _ => none }
def cpuJumpsRow : OpenClaim := { program := "ytinibccphecdfab", sum := "2aed6c5ff450bd251f0e3c7beef384a38cc56b43b5cc0bf6a7a91fdb525bcaaf", func := "donjon/donjonlaw16.CpuJumps", spec := "cpuJumps", inPlace := ["math.Float64frombits", "math.Float64bits"], unfollowed := true, recurses := true, apart := false }
def CpuJumpsSaid : Prop := cpuJumpsRow.holds Try.pinned (OpenSpec.ofChange cpuJumpsSpec)

/-- ITS FALSE NEIGHBOUR: 'it returns false'. Refute it at one input. -/
def cpuJumpsWrong : ChangeSpec := { name := "cpuJumps", fn := fun _ => fun
  | [d1, d2, d3] => { results := [.lit (.bool false)], args := [d1, d2, d3] }
  | _ => none }
def CpuJumpsWrongFalsely : Prop := cpuJumpsRow.holds Try.pinned (OpenSpec.ofChange cpuJumpsWrong)

/-- 'donjonlaw16.CpuPointers': WHATEVER THE INPUT: true; the input reads as it did. -/
def cpuPointersSpec : ChangeSpec := { name := "cpuPointers", fn := fun _ => fun
  | [d1, d2, d3] => { results := [.lit (.bool true)], args := [d1, d2, d3] }
  | _ => none }
def cpuPointersRow : OpenClaim := { program := "ytinibccphecdfab", sum := "2aed6c5ff450bd251f0e3c7beef384a38cc56b43b5cc0bf6a7a91fdb525bcaaf", func := "donjon/donjonlaw16.CpuPointers", spec := "cpuPointers", inPlace := ["math.Float64frombits", "math.Float64bits"], unfollowed := true, recurses := true, apart := false }
def CpuPointersSaid : Prop := cpuPointersRow.holds Try.pinned (OpenSpec.ofChange cpuPointersSpec)

/-- ITS FALSE NEIGHBOUR: 'it returns false'. Refute it at one input. -/
def cpuPointersWrong : ChangeSpec := { name := "cpuPointers", fn := fun _ => fun
  | [d1, d2, d3] => { results := [.lit (.bool false)], args := [d1, d2, d3] }
  | _ => none }
def CpuPointersWrongFalsely : Prop := cpuPointersRow.holds Try.pinned (OpenSpec.ofChange cpuPointersWrong)

/-- 'donjonlaw16.CpuStack': WHATEVER THE INPUT: true; the input reads as it did. -/
def cpuStackSpec : ChangeSpec := { name := "cpuStack", fn := fun _ => fun
  | [d] => { results := [.lit (.bool true)], args := [d] }
  | _ => none }
def cpuStackRow : OpenClaim := { program := "ytinibccphecdfab", sum := "2aed6c5ff450bd251f0e3c7beef384a38cc56b43b5cc0bf6a7a91fdb525bcaaf", func := "donjon/donjonlaw16.CpuStack", spec := "cpuStack", inPlace := ["math.Float64frombits", "math.Float64bits"], unfollowed := true, recurses := true, apart := false }
def CpuStackSaid : Prop := cpuStackRow.holds Try.pinned (OpenSpec.ofChange cpuStackSpec)

/-- ITS FALSE NEIGHBOUR: 'it returns false'. Refute it at one input. -/
def cpuStackWrong : ChangeSpec := { name := "cpuStack", fn := fun _ => fun
  | [d] => { results := [.lit (.bool false)], args := [d] }
  | _ => none }
def CpuStackWrongFalsely : Prop := cpuStackRow.holds Try.pinned (OpenSpec.ofChange cpuStackWrong)

/-- 'donjonlaw16.CpuBounds': WHATEVER THE INPUT: true; the input reads as it did. -/
def cpuBoundsSpec : ChangeSpec := { name := "cpuBounds", fn := fun _ => fun
  | [d1, d2, d3, d4] => { results := [.lit (.bool true)], args := [d1, d2, d3, d4] }
  | _ => none }
def cpuBoundsRow : OpenClaim := { program := "ytinibccphecdfab", sum := "2aed6c5ff450bd251f0e3c7beef384a38cc56b43b5cc0bf6a7a91fdb525bcaaf", func := "donjon/donjonlaw16.CpuBounds", spec := "cpuBounds", inPlace := ["math.Float64frombits", "math.Float64bits"], unfollowed := true, recurses := true, apart := false }
def CpuBoundsSaid : Prop := cpuBoundsRow.holds Try.pinned (OpenSpec.ofChange cpuBoundsSpec)

/-- ITS FALSE NEIGHBOUR: 'it returns false'. Refute it at one input. -/
def cpuBoundsWrong : ChangeSpec := { name := "cpuBounds", fn := fun _ => fun
  | [d1, d2, d3, d4] => { results := [.lit (.bool false)], args := [d1, d2, d3, d4] }
  | _ => none }
def CpuBoundsWrongFalsely : Prop := cpuBoundsRow.holds Try.pinned (OpenSpec.ofChange cpuBoundsWrong)

/-- 'donjonlaw16.CpuModes': WHATEVER THE INPUT: true; the input reads as it did. -/
def cpuModesSpec : ChangeSpec := { name := "cpuModes", fn := fun _ => fun
  | [d1, d2, d3, d4] => { results := [.lit (.bool true)], args := [d1, d2, d3, d4] }
  | _ => none }
def cpuModesRow : OpenClaim := { program := "ytinibccphecdfab", sum := "2aed6c5ff450bd251f0e3c7beef384a38cc56b43b5cc0bf6a7a91fdb525bcaaf", func := "donjon/donjonlaw16.CpuModes", spec := "cpuModes", inPlace := ["math.Float64frombits", "math.Float64bits"], unfollowed := true, recurses := true, apart := false }
def CpuModesSaid : Prop := cpuModesRow.holds Try.pinned (OpenSpec.ofChange cpuModesSpec)

/-- ITS FALSE NEIGHBOUR: 'it returns false'. Refute it at one input. -/
def cpuModesWrong : ChangeSpec := { name := "cpuModes", fn := fun _ => fun
  | [d1, d2, d3, d4] => { results := [.lit (.bool false)], args := [d1, d2, d3, d4] }
  | _ => none }
def CpuModesWrongFalsely : Prop := cpuModesRow.holds Try.pinned (OpenSpec.ofChange cpuModesWrong)

/- THE SECOND FORM. 'bulk': how many values and letters a reading holds, each counted each time it is reached (what is shared counts as often as it is met; a slice's spare places count too). A statement '..UptoSaid' is the law's where the arguments, and the package variables that the reading takes, are together of bulk at most 1048576: NARROWER than '..Said'. Prove '..Said' where nothing that the law and all that it calls make is longer than what came in: it says more and counts as full. Else prove '..UptoSaid'. A law counts once. -/
mutual
def uptoBulk {H : Type} : DataW H → Nat
  | .lit (.string bytes) => bytes.length + 1
  | .lit _ => 1
  | .nil => 1
  | .ptr d => uptoBulk d + 1
  | .slice elems spare => uptoBulkAll elems + uptoBulkAll spare + 1
  | .agg parts => uptoBulkAll parts + 1
  | .iface _ d => uptoBulk d + 1
  | .map entries => uptoBulkEntries entries + 1
  | .held _ => 1
def uptoBulkAll {H : Type} : List (DataW H) → Nat
  | [] => 0
  | d :: r => uptoBulk d + uptoBulkAll r
def uptoBulkEntries {H : Type} : List (Lit × DataW H) → Nat
  | [] => 0
  | x :: r => uptoBulkEntry x + uptoBulkEntries r
def uptoBulkEntry {H : Type} : Lit × DataW H → Nat
  | (.string bytes, d) => bytes.length + uptoBulk d + 1
  | (_, d) => uptoBulk d + 1
 end
def uptoSmall : (H : Type) → List (DataW H) → Bool := fun _ ds => decide (uptoBulkAll ds ≤ 1048576)
def OpenSpec.upto (s : _root_.Go.ChangeSpec) : _root_.Go.OpenSpec := { _root_.Go.OpenSpec.ofChange s with cond := some uptoSmall }

/-- 'donjonlaw16.CpuJumps', WHERE WHAT IT READS IS OF BULK AT MOST 1048576: true; the input reads as it did. -/
def cpuJumpsUptoRow : OpenClaim := { program := "ytinibccphecdfab", sum := "2aed6c5ff450bd251f0e3c7beef384a38cc56b43b5cc0bf6a7a91fdb525bcaaf", func := "donjon/donjonlaw16.CpuJumps", spec := "cpuJumps", inPlace := ["math.Float64frombits", "math.Float64bits"], unfollowed := true, recurses := true, apart := false, narrowed := true }
def CpuJumpsUptoSaid : Prop := cpuJumpsUptoRow.holds Try.pinned (OpenSpec.upto cpuJumpsSpec)

/-- 'donjonlaw16.CpuPointers', WHERE WHAT IT READS IS OF BULK AT MOST 1048576: true; the input reads as it did. -/
def cpuPointersUptoRow : OpenClaim := { program := "ytinibccphecdfab", sum := "2aed6c5ff450bd251f0e3c7beef384a38cc56b43b5cc0bf6a7a91fdb525bcaaf", func := "donjon/donjonlaw16.CpuPointers", spec := "cpuPointers", inPlace := ["math.Float64frombits", "math.Float64bits"], unfollowed := true, recurses := true, apart := false, narrowed := true }
def CpuPointersUptoSaid : Prop := cpuPointersUptoRow.holds Try.pinned (OpenSpec.upto cpuPointersSpec)

/-- 'donjonlaw16.CpuStack', WHERE WHAT IT READS IS OF BULK AT MOST 1048576: true; the input reads as it did. -/
def cpuStackUptoRow : OpenClaim := { program := "ytinibccphecdfab", sum := "2aed6c5ff450bd251f0e3c7beef384a38cc56b43b5cc0bf6a7a91fdb525bcaaf", func := "donjon/donjonlaw16.CpuStack", spec := "cpuStack", inPlace := ["math.Float64frombits", "math.Float64bits"], unfollowed := true, recurses := true, apart := false, narrowed := true }
def CpuStackUptoSaid : Prop := cpuStackUptoRow.holds Try.pinned (OpenSpec.upto cpuStackSpec)

/-- 'donjonlaw16.CpuBounds', WHERE WHAT IT READS IS OF BULK AT MOST 1048576: true; the input reads as it did. -/
def cpuBoundsUptoRow : OpenClaim := { program := "ytinibccphecdfab", sum := "2aed6c5ff450bd251f0e3c7beef384a38cc56b43b5cc0bf6a7a91fdb525bcaaf", func := "donjon/donjonlaw16.CpuBounds", spec := "cpuBounds", inPlace := ["math.Float64frombits", "math.Float64bits"], unfollowed := true, recurses := true, apart := false, narrowed := true }
def CpuBoundsUptoSaid : Prop := cpuBoundsUptoRow.holds Try.pinned (OpenSpec.upto cpuBoundsSpec)

/-- 'donjonlaw16.CpuModes', WHERE WHAT IT READS IS OF BULK AT MOST 1048576: true; the input reads as it did. -/
def cpuModesUptoRow : OpenClaim := { program := "ytinibccphecdfab", sum := "2aed6c5ff450bd251f0e3c7beef384a38cc56b43b5cc0bf6a7a91fdb525bcaaf", func := "donjon/donjonlaw16.CpuModes", spec := "cpuModes", inPlace := ["math.Float64frombits", "math.Float64bits"], unfollowed := true, recurses := true, apart := false, narrowed := true }
def CpuModesUptoSaid : Prop := cpuModesUptoRow.holds Try.pinned (OpenSpec.upto cpuModesSpec)

end Rows
end Go.Proofs.Ytinibccphecdfab
