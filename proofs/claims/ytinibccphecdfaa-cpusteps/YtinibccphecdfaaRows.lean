/-
  No cell of these rows narrows 'for every input' (looked for: loops, veiled, ifaces, maps, wideKeys, modest, calm, conditions, laid).
  DERIVED. THE GIVEN ROWS OF THIS SEAT. 6 by the template 'for every input the law returns true; each argument reads behind the call as it read before'; 0 by the template 'total and deterministic' (their statements: YtinibccphecdfaaTotals.lean).
  GIVEN WITH THE SEED: the statements are not yours to turn. If you find one false, say at which input.
  Laid BY PROGRAM, IN A SANDBOX (cutbox-rows.mjs): the forced cells as the released guide's own fill.sh prints them over the translation 18ab6b9699565904… (all of the seat's roots in one cut). By AI agents, Wed Nov 11 2026. No macro, syntax, notation, axiom, sorry.
-/
import Derived.Test.YtinibccphecdfaaChecked
import GoSem.Claim
import GoSem.ClaimJoined
import GoSem.ClaimMapViews
import Derived.JoinedTies
import Derived.KernelRfl
namespace Go.Proofs.Ytinibccphecdfaa
/- THE CELL 'sum', in the pinned program and in every row, IS THE sha256 OF THE DUMP (.gsa) THAT YtinibccphecdfaaProg.lean LOADS. Nothing in Lean hashes anything: it is a label: what it is worth is what the hold of that sum in a sandbox is worth. -/
noncomputable def Try.pinned : Pinned := { name := "ytinibccphecdfaa", sum := "18ab6b9699565904c307d5d479c6d325ec4e6fd1eb52b06be5b4a92739735760", checked := Try.checked }
namespace Rows
def none {H : Type} : Left H := { results := [], args := [] }

/-- 'donjonlaw16.CpuSteps': WHATEVER THE INPUT: true; the input reads as it did. -/
def cpuStepsSpec : ChangeSpec := { name := "cpuSteps", fn := fun _ => fun
  | [d1, d2, d3] => { results := [.lit (.bool true)], args := [d1, d2, d3] }
  | _ => none }
def cpuStepsRow : OpenClaim := { program := "ytinibccphecdfaa", sum := "18ab6b9699565904c307d5d479c6d325ec4e6fd1eb52b06be5b4a92739735760", func := "donjon/donjonlaw16.CpuSteps", spec := "cpuSteps", inPlace := ["math.Float64frombits", "math.Float64bits"], unfollowed := true, recurses := true, apart := false }
def CpuStepsSaid : Prop := cpuStepsRow.holds Try.pinned (OpenSpec.ofChange cpuStepsSpec)

/-- ITS FALSE NEIGHBOUR: 'it returns false'. Refute it at one input. -/
def cpuStepsWrong : ChangeSpec := { name := "cpuSteps", fn := fun _ => fun
  | [d1, d2, d3] => { results := [.lit (.bool false)], args := [d1, d2, d3] }
  | _ => none }
def CpuStepsWrongFalsely : Prop := cpuStepsRow.holds Try.pinned (OpenSpec.ofChange cpuStepsWrong)

/-- 'donjonlaw16.CpuRings': WHATEVER THE INPUT: true; the input reads as it did. -/
def cpuRingsSpec : ChangeSpec := { name := "cpuRings", fn := fun _ => fun
  | [d1, d2, d3] => { results := [.lit (.bool true)], args := [d1, d2, d3] }
  | _ => none }
def cpuRingsRow : OpenClaim := { program := "ytinibccphecdfaa", sum := "18ab6b9699565904c307d5d479c6d325ec4e6fd1eb52b06be5b4a92739735760", func := "donjon/donjonlaw16.CpuRings", spec := "cpuRings", inPlace := ["math.Float64frombits", "math.Float64bits"], unfollowed := true, recurses := true, apart := false }
def CpuRingsSaid : Prop := cpuRingsRow.holds Try.pinned (OpenSpec.ofChange cpuRingsSpec)

/-- ITS FALSE NEIGHBOUR: 'it returns false'. Refute it at one input. -/
def cpuRingsWrong : ChangeSpec := { name := "cpuRings", fn := fun _ => fun
  | [d1, d2, d3] => { results := [.lit (.bool false)], args := [d1, d2, d3] }
  | _ => none }
def CpuRingsWrongFalsely : Prop := cpuRingsRow.holds Try.pinned (OpenSpec.ofChange cpuRingsWrong)

/-- 'donjonlaw16.CpuHalts': WHATEVER THE INPUT: true; the input reads as it did. -/
def cpuHaltsSpec : ChangeSpec := { name := "cpuHalts", fn := fun _ => fun
  | [d1, d2] => { results := [.lit (.bool true)], args := [d1, d2] }
  | _ => none }
def cpuHaltsRow : OpenClaim := { program := "ytinibccphecdfaa", sum := "18ab6b9699565904c307d5d479c6d325ec4e6fd1eb52b06be5b4a92739735760", func := "donjon/donjonlaw16.CpuHalts", spec := "cpuHalts", inPlace := ["math.Float64frombits", "math.Float64bits"], unfollowed := true, recurses := true, apart := false }
def CpuHaltsSaid : Prop := cpuHaltsRow.holds Try.pinned (OpenSpec.ofChange cpuHaltsSpec)

/-- ITS FALSE NEIGHBOUR: 'it returns false'. Refute it at one input. -/
def cpuHaltsWrong : ChangeSpec := { name := "cpuHalts", fn := fun _ => fun
  | [d1, d2] => { results := [.lit (.bool false)], args := [d1, d2] }
  | _ => none }
def CpuHaltsWrongFalsely : Prop := cpuHaltsRow.holds Try.pinned (OpenSpec.ofChange cpuHaltsWrong)

/-- 'donjonlaw16.CpuFaults': WHATEVER THE INPUT: true; the input reads as it did. -/
def cpuFaultsSpec : ChangeSpec := { name := "cpuFaults", fn := fun _ => fun
  | [d1, d2, d3] => { results := [.lit (.bool true)], args := [d1, d2, d3] }
  | _ => none }
def cpuFaultsRow : OpenClaim := { program := "ytinibccphecdfaa", sum := "18ab6b9699565904c307d5d479c6d325ec4e6fd1eb52b06be5b4a92739735760", func := "donjon/donjonlaw16.CpuFaults", spec := "cpuFaults", inPlace := ["math.Float64frombits", "math.Float64bits"], unfollowed := true, recurses := true, apart := false }
def CpuFaultsSaid : Prop := cpuFaultsRow.holds Try.pinned (OpenSpec.ofChange cpuFaultsSpec)

/-- ITS FALSE NEIGHBOUR: 'it returns false'. Refute it at one input. -/
def cpuFaultsWrong : ChangeSpec := { name := "cpuFaults", fn := fun _ => fun
  | [d1, d2, d3] => { results := [.lit (.bool false)], args := [d1, d2, d3] }
  | _ => none }
def CpuFaultsWrongFalsely : Prop := cpuFaultsRow.holds Try.pinned (OpenSpec.ofChange cpuFaultsWrong)

/-- 'donjonlaw16.CpuFloats': WHATEVER THE INPUT: true; the input reads as it did. -/
def cpuFloatsSpec : ChangeSpec := { name := "cpuFloats", fn := fun _ => fun
  | [d1, d2, d3] => { results := [.lit (.bool true)], args := [d1, d2, d3] }
  | _ => none }
def cpuFloatsRow : OpenClaim := { program := "ytinibccphecdfaa", sum := "18ab6b9699565904c307d5d479c6d325ec4e6fd1eb52b06be5b4a92739735760", func := "donjon/donjonlaw16.CpuFloats", spec := "cpuFloats", inPlace := ["math.Float64frombits", "math.Float64bits"], unfollowed := true, recurses := true, apart := false }
def CpuFloatsSaid : Prop := cpuFloatsRow.holds Try.pinned (OpenSpec.ofChange cpuFloatsSpec)

/-- ITS FALSE NEIGHBOUR: 'it returns false'. Refute it at one input. -/
def cpuFloatsWrong : ChangeSpec := { name := "cpuFloats", fn := fun _ => fun
  | [d1, d2, d3] => { results := [.lit (.bool false)], args := [d1, d2, d3] }
  | _ => none }
def CpuFloatsWrongFalsely : Prop := cpuFloatsRow.holds Try.pinned (OpenSpec.ofChange cpuFloatsWrong)

/-- 'donjonlaw16.CpuConverts': WHATEVER THE INPUT: true; the input reads as it did. -/
def cpuConvertsSpec : ChangeSpec := { name := "cpuConverts", fn := fun _ => fun
  | [d1, d2] => { results := [.lit (.bool true)], args := [d1, d2] }
  | _ => none }
def cpuConvertsRow : OpenClaim := { program := "ytinibccphecdfaa", sum := "18ab6b9699565904c307d5d479c6d325ec4e6fd1eb52b06be5b4a92739735760", func := "donjon/donjonlaw16.CpuConverts", spec := "cpuConverts", inPlace := ["math.Float64frombits", "math.Float64bits"], unfollowed := true, recurses := true, apart := false }
def CpuConvertsSaid : Prop := cpuConvertsRow.holds Try.pinned (OpenSpec.ofChange cpuConvertsSpec)

/-- ITS FALSE NEIGHBOUR: 'it returns false'. Refute it at one input. -/
def cpuConvertsWrong : ChangeSpec := { name := "cpuConverts", fn := fun _ => fun
  | [d1, d2] => { results := [.lit (.bool false)], args := [d1, d2] }
  | _ => none }
def CpuConvertsWrongFalsely : Prop := cpuConvertsRow.holds Try.pinned (OpenSpec.ofChange cpuConvertsWrong)

/- THE SECOND FORM. 'bulk': how many values and letters a reading holds, each counted each time it is reached (what is shared counts as often as it is met; a slice's spare places count too). A statement '..UptoSaid' is the law's where the arguments, and the package variables that the reading takes, are together of bulk at most 1048576: NARROWER than '..Said'. Prove '..Said' where nothing that the law and all that it calls make is longer than what came in: it says more and counts as full. Else prove '..UptoSaid'. A law counts once. -/
mutual
def uptoBulk {H : Type} : DataW H → Nat
  | .lit (.string bytes) => bytes.length + 1
  | .lit _ => 1
  | .nil => 1
  | .ptr d => uptoBulk d + 1
  | .slice elems spare => uptoBulkAll elems + uptoBulkAll spare + 1
  | .agg parts => uptoBulkAll parts + 1
  | .iface _ d => uptoBulk d + 1
  | .map entries => uptoBulkEntries entries + 1
  | .held _ => 1
def uptoBulkAll {H : Type} : List (DataW H) → Nat
  | [] => 0
  | d :: r => uptoBulk d + uptoBulkAll r
def uptoBulkEntries {H : Type} : List (Lit × DataW H) → Nat
  | [] => 0
  | x :: r => uptoBulkEntry x + uptoBulkEntries r
def uptoBulkEntry {H : Type} : Lit × DataW H → Nat
  | (.string bytes, d) => bytes.length + uptoBulk d + 1
  | (_, d) => uptoBulk d + 1
 end
def uptoSmall : (H : Type) → List (DataW H) → Bool := fun _ ds => decide (uptoBulkAll ds ≤ 1048576)
def OpenSpec.upto (s : _root_.Go.ChangeSpec) : _root_.Go.OpenSpec := { _root_.Go.OpenSpec.ofChange s with cond := some uptoSmall }

/-- 'donjonlaw16.CpuSteps', WHERE WHAT IT READS IS OF BULK AT MOST 1048576: true; the input reads as it did. -/
def cpuStepsUptoRow : OpenClaim := { program := "ytinibccphecdfaa", sum := "18ab6b9699565904c307d5d479c6d325ec4e6fd1eb52b06be5b4a92739735760", func := "donjon/donjonlaw16.CpuSteps", spec := "cpuSteps", inPlace := ["math.Float64frombits", "math.Float64bits"], unfollowed := true, recurses := true, apart := false, narrowed := true }
def CpuStepsUptoSaid : Prop := cpuStepsUptoRow.holds Try.pinned (OpenSpec.upto cpuStepsSpec)

/-- 'donjonlaw16.CpuRings', WHERE WHAT IT READS IS OF BULK AT MOST 1048576: true; the input reads as it did. -/
def cpuRingsUptoRow : OpenClaim := { program := "ytinibccphecdfaa", sum := "18ab6b9699565904c307d5d479c6d325ec4e6fd1eb52b06be5b4a92739735760", func := "donjon/donjonlaw16.CpuRings", spec := "cpuRings", inPlace := ["math.Float64frombits", "math.Float64bits"], unfollowed := true, recurses := true, apart := false, narrowed := true }
def CpuRingsUptoSaid : Prop := cpuRingsUptoRow.holds Try.pinned (OpenSpec.upto cpuRingsSpec)

/-- 'donjonlaw16.CpuHalts', WHERE WHAT IT READS IS OF BULK AT MOST 1048576: true; the input reads as it did. -/
def cpuHaltsUptoRow : OpenClaim := { program := "ytinibccphecdfaa", sum := "18ab6b9699565904c307d5d479c6d325ec4e6fd1eb52b06be5b4a92739735760", func := "donjon/donjonlaw16.CpuHalts", spec := "cpuHalts", inPlace := ["math.Float64frombits", "math.Float64bits"], unfollowed := true, recurses := true, apart := false, narrowed := true }
def CpuHaltsUptoSaid : Prop := cpuHaltsUptoRow.holds Try.pinned (OpenSpec.upto cpuHaltsSpec)

/-- 'donjonlaw16.CpuFaults', WHERE WHAT IT READS IS OF BULK AT MOST 1048576: true; the input reads as it did. -/
def cpuFaultsUptoRow : OpenClaim := { program := "ytinibccphecdfaa", sum := "18ab6b9699565904c307d5d479c6d325ec4e6fd1eb52b06be5b4a92739735760", func := "donjon/donjonlaw16.CpuFaults", spec := "cpuFaults", inPlace := ["math.Float64frombits", "math.Float64bits"], unfollowed := true, recurses := true, apart := false, narrowed := true }
def CpuFaultsUptoSaid : Prop := cpuFaultsUptoRow.holds Try.pinned (OpenSpec.upto cpuFaultsSpec)

/-- 'donjonlaw16.CpuFloats', WHERE WHAT IT READS IS OF BULK AT MOST 1048576: true; the input reads as it did. -/
def cpuFloatsUptoRow : OpenClaim := { program := "ytinibccphecdfaa", sum := "18ab6b9699565904c307d5d479c6d325ec4e6fd1eb52b06be5b4a92739735760", func := "donjon/donjonlaw16.CpuFloats", spec := "cpuFloats", inPlace := ["math.Float64frombits", "math.Float64bits"], unfollowed := true, recurses := true, apart := false, narrowed := true }
def CpuFloatsUptoSaid : Prop := cpuFloatsUptoRow.holds Try.pinned (OpenSpec.upto cpuFloatsSpec)

/-- 'donjonlaw16.CpuConverts', WHERE WHAT IT READS IS OF BULK AT MOST 1048576: true; the input reads as it did. -/
def cpuConvertsUptoRow : OpenClaim := { program := "ytinibccphecdfaa", sum := "18ab6b9699565904c307d5d479c6d325ec4e6fd1eb52b06be5b4a92739735760", func := "donjon/donjonlaw16.CpuConverts", spec := "cpuConverts", inPlace := ["math.Float64frombits", "math.Float64bits"], unfollowed := true, recurses := true, apart := false, narrowed := true }
def CpuConvertsUptoSaid : Prop := cpuConvertsUptoRow.holds Try.pinned (OpenSpec.upto cpuConvertsSpec)

end Rows
end Go.Proofs.Ytinibccphecdfaa
