/-
  No cell of these rows narrows 'for every input' (looked for: loops, veiled, ifaces, maps, wideKeys, modest, calm, conditions, laid).
  DERIVED. THE GIVEN ROWS OF THIS SEAT. 6 by the template 'for every input the law returns true; each argument reads behind the call as it read before'; 0 by the template 'total and deterministic' (their statements: YtgoajapgcmpflabTotals.lean).
  GIVEN WITH THE SEED: the statements are not yours to turn. If you find one false, say at which input.
  Laid BY PROGRAM, IN A SANDBOX (cutbox-rows.mjs): the forced cells as the released guide's own fill.sh prints them over the translation 7cf2bbf0b44c7fd3… (all of the seat's roots in one cut). By AI agents, Wed Nov 11 2026. No macro, syntax, notation, axiom, sorry.
-/
import Derived.Test.YtgoajapgcmpflabChecked
import GoSem.Claim
import GoSem.ClaimJoined
import GoSem.ClaimMapViews
import Derived.JoinedTies
import Derived.KernelRfl
namespace Go.Proofs.Ytgoajapgcmpflab
/- THE CELL 'sum', in the pinned program and in every row, IS THE sha256 OF THE DUMP (.gsa) THAT YtgoajapgcmpflabProg.lean LOADS. Nothing in Lean hashes anything: it is a label: what it is worth is what the hold of that sum in a sandbox is worth. -/
noncomputable def Try.pinned : Pinned := { name := "ytgoajapgcmpflab", sum := "7cf2bbf0b44c7fd35d85d876a3e6d9bd608081c03e068cba7791cae56ffb003c", checked := Try.checked }
namespace Rows
def none {H : Type} : Left H := { results := [], args := [] }

/-- 'donjonlaw1.WordSmall': WHATEVER THE INPUT: true; the input reads as it did. -/
def wordSmallSpec : ChangeSpec := { name := "wordSmall", fn := fun _ => fun
  | [d1, d2] => { results := [.lit (.bool true)], args := [d1, d2] }
  | _ => none }
def wordSmallRow : OpenClaim := { program := "ytgoajapgcmpflab", sum := "7cf2bbf0b44c7fd35d85d876a3e6d9bd608081c03e068cba7791cae56ffb003c", func := "donjon/donjonlaw1.WordSmall", spec := "wordSmall", inPlace := ["math.Float64frombits", "math.Float64bits"], apart := false }
def WordSmallSaid : Prop := wordSmallRow.holds Try.pinned (OpenSpec.ofChange wordSmallSpec)

/-- ITS FALSE NEIGHBOUR: 'it returns false'. Refute it at one input. -/
def wordSmallWrong : ChangeSpec := { name := "wordSmall", fn := fun _ => fun
  | [d1, d2] => { results := [.lit (.bool false)], args := [d1, d2] }
  | _ => none }
def WordSmallWrongFalsely : Prop := wordSmallRow.holds Try.pinned (OpenSpec.ofChange wordSmallWrong)

/-- 'donjonlaw1.WordNans': WHATEVER THE INPUT: true; the input reads as it did. -/
def wordNansSpec : ChangeSpec := { name := "wordNans", fn := fun _ => fun
  | [d1, d2, d3] => { results := [.lit (.bool true)], args := [d1, d2, d3] }
  | _ => none }
def wordNansRow : OpenClaim := { program := "ytgoajapgcmpflab", sum := "7cf2bbf0b44c7fd35d85d876a3e6d9bd608081c03e068cba7791cae56ffb003c", func := "donjon/donjonlaw1.WordNans", spec := "wordNans", inPlace := ["math.Float64frombits", "math.Float64bits"], apart := false }
def WordNansSaid : Prop := wordNansRow.holds Try.pinned (OpenSpec.ofChange wordNansSpec)

/-- ITS FALSE NEIGHBOUR: 'it returns false'. Refute it at one input. -/
def wordNansWrong : ChangeSpec := { name := "wordNans", fn := fun _ => fun
  | [d1, d2, d3] => { results := [.lit (.bool false)], args := [d1, d2, d3] }
  | _ => none }
def WordNansWrongFalsely : Prop := wordNansRow.holds Try.pinned (OpenSpec.ofChange wordNansWrong)

/-- 'donjonlaw1.WordNoughts': WHATEVER THE INPUT: true; the input reads as it did. -/
def wordNoughtsSpec : ChangeSpec := { name := "wordNoughts", fn := fun _ => fun
  | [d] => { results := [.lit (.bool true)], args := [d] }
  | _ => none }
def wordNoughtsRow : OpenClaim := { program := "ytgoajapgcmpflab", sum := "7cf2bbf0b44c7fd35d85d876a3e6d9bd608081c03e068cba7791cae56ffb003c", func := "donjon/donjonlaw1.WordNoughts", spec := "wordNoughts", inPlace := ["math.Float64frombits", "math.Float64bits"], apart := false }
def WordNoughtsSaid : Prop := wordNoughtsRow.holds Try.pinned (OpenSpec.ofChange wordNoughtsSpec)

/-- ITS FALSE NEIGHBOUR: 'it returns false'. Refute it at one input. -/
def wordNoughtsWrong : ChangeSpec := { name := "wordNoughts", fn := fun _ => fun
  | [d] => { results := [.lit (.bool false)], args := [d] }
  | _ => none }
def WordNoughtsWrongFalsely : Prop := wordNoughtsRow.holds Try.pinned (OpenSpec.ofChange wordNoughtsWrong)

/-- 'donjonlaw1.WordInfs': WHATEVER THE INPUT: true; the input reads as it did. -/
def wordInfsSpec : ChangeSpec := { name := "wordInfs", fn := fun _ => fun
  | [d] => { results := [.lit (.bool true)], args := [d] }
  | _ => none }
def wordInfsRow : OpenClaim := { program := "ytgoajapgcmpflab", sum := "7cf2bbf0b44c7fd35d85d876a3e6d9bd608081c03e068cba7791cae56ffb003c", func := "donjon/donjonlaw1.WordInfs", spec := "wordInfs", inPlace := ["math.Float64frombits", "math.Float64bits"], apart := false }
def WordInfsSaid : Prop := wordInfsRow.holds Try.pinned (OpenSpec.ofChange wordInfsSpec)

/-- ITS FALSE NEIGHBOUR: 'it returns false'. Refute it at one input. -/
def wordInfsWrong : ChangeSpec := { name := "wordInfs", fn := fun _ => fun
  | [d] => { results := [.lit (.bool false)], args := [d] }
  | _ => none }
def WordInfsWrongFalsely : Prop := wordInfsRow.holds Try.pinned (OpenSpec.ofChange wordInfsWrong)

/-- 'donjonlaw1.WordCuts': WHATEVER THE INPUT: true; the input reads as it did. -/
def wordCutsSpec : ChangeSpec := { name := "wordCuts", fn := fun _ => fun
  | [d1, d2] => { results := [.lit (.bool true)], args := [d1, d2] }
  | _ => none }
def wordCutsRow : OpenClaim := { program := "ytgoajapgcmpflab", sum := "7cf2bbf0b44c7fd35d85d876a3e6d9bd608081c03e068cba7791cae56ffb003c", func := "donjon/donjonlaw1.WordCuts", spec := "wordCuts", inPlace := ["math.Float64frombits", "math.Float64bits"], apart := false }
def WordCutsSaid : Prop := wordCutsRow.holds Try.pinned (OpenSpec.ofChange wordCutsSpec)

/-- ITS FALSE NEIGHBOUR: 'it returns false'. Refute it at one input. -/
def wordCutsWrong : ChangeSpec := { name := "wordCuts", fn := fun _ => fun
  | [d1, d2] => { results := [.lit (.bool false)], args := [d1, d2] }
  | _ => none }
def WordCutsWrongFalsely : Prop := wordCutsRow.holds Try.pinned (OpenSpec.ofChange wordCutsWrong)

/-- 'donjonlaw1.WordBounds': WHATEVER THE INPUT: true; the input reads as it did. -/
def wordBoundsSpec : ChangeSpec := { name := "wordBounds", fn := fun _ => fun
  | [d1, d2] => { results := [.lit (.bool true)], args := [d1, d2] }
  | _ => none }
def wordBoundsRow : OpenClaim := { program := "ytgoajapgcmpflab", sum := "7cf2bbf0b44c7fd35d85d876a3e6d9bd608081c03e068cba7791cae56ffb003c", func := "donjon/donjonlaw1.WordBounds", spec := "wordBounds", inPlace := ["math.Float64frombits", "math.Float64bits"], apart := false }
def WordBoundsSaid : Prop := wordBoundsRow.holds Try.pinned (OpenSpec.ofChange wordBoundsSpec)

/-- ITS FALSE NEIGHBOUR: 'it returns false'. Refute it at one input. -/
def wordBoundsWrong : ChangeSpec := { name := "wordBounds", fn := fun _ => fun
  | [d1, d2] => { results := [.lit (.bool false)], args := [d1, d2] }
  | _ => none }
def WordBoundsWrongFalsely : Prop := wordBoundsRow.holds Try.pinned (OpenSpec.ofChange wordBoundsWrong)

/- THE SECOND FORM. 'bulk': how many values and letters a reading holds, each counted each time it is reached (what is shared counts as often as it is met; a slice's spare places count too). A statement '..UptoSaid' is the law's where the arguments, and the package variables that the reading takes, are together of bulk at most 1048576: NARROWER than '..Said'. Prove '..Said' where nothing that the law and all that it calls make is longer than what came in: it says more and counts as full. Else prove '..UptoSaid'. A law counts once. -/
mutual
def uptoBulk {H : Type} : DataW H → Nat
  | .lit (.string bytes) => bytes.length + 1
  | .lit _ => 1
  | .nil => 1
  | .ptr d => uptoBulk d + 1
  | .slice elems spare => uptoBulkAll elems + uptoBulkAll spare + 1
  | .agg parts => uptoBulkAll parts + 1
  | .iface _ d => uptoBulk d + 1
  | .map entries => uptoBulkEntries entries + 1
  | .held _ => 1
def uptoBulkAll {H : Type} : List (DataW H) → Nat
  | [] => 0
  | d :: r => uptoBulk d + uptoBulkAll r
def uptoBulkEntries {H : Type} : List (Lit × DataW H) → Nat
  | [] => 0
  | x :: r => uptoBulkEntry x + uptoBulkEntries r
def uptoBulkEntry {H : Type} : Lit × DataW H → Nat
  | (.string bytes, d) => bytes.length + uptoBulk d + 1
  | (_, d) => uptoBulk d + 1
 end
def uptoSmall : (H : Type) → List (DataW H) → Bool := fun _ ds => decide (uptoBulkAll ds ≤ 1048576)
def OpenSpec.upto (s : _root_.Go.ChangeSpec) : _root_.Go.OpenSpec := { _root_.Go.OpenSpec.ofChange s with cond := some uptoSmall }

/-- 'donjonlaw1.WordSmall', WHERE WHAT IT READS IS OF BULK AT MOST 1048576: true; the input reads as it did. -/
def wordSmallUptoRow : OpenClaim := { program := "ytgoajapgcmpflab", sum := "7cf2bbf0b44c7fd35d85d876a3e6d9bd608081c03e068cba7791cae56ffb003c", func := "donjon/donjonlaw1.WordSmall", spec := "wordSmall", inPlace := ["math.Float64frombits", "math.Float64bits"], apart := false, narrowed := true }
def WordSmallUptoSaid : Prop := wordSmallUptoRow.holds Try.pinned (OpenSpec.upto wordSmallSpec)

/-- 'donjonlaw1.WordNans', WHERE WHAT IT READS IS OF BULK AT MOST 1048576: true; the input reads as it did. -/
def wordNansUptoRow : OpenClaim := { program := "ytgoajapgcmpflab", sum := "7cf2bbf0b44c7fd35d85d876a3e6d9bd608081c03e068cba7791cae56ffb003c", func := "donjon/donjonlaw1.WordNans", spec := "wordNans", inPlace := ["math.Float64frombits", "math.Float64bits"], apart := false, narrowed := true }
def WordNansUptoSaid : Prop := wordNansUptoRow.holds Try.pinned (OpenSpec.upto wordNansSpec)

/-- 'donjonlaw1.WordNoughts', WHERE WHAT IT READS IS OF BULK AT MOST 1048576: true; the input reads as it did. -/
def wordNoughtsUptoRow : OpenClaim := { program := "ytgoajapgcmpflab", sum := "7cf2bbf0b44c7fd35d85d876a3e6d9bd608081c03e068cba7791cae56ffb003c", func := "donjon/donjonlaw1.WordNoughts", spec := "wordNoughts", inPlace := ["math.Float64frombits", "math.Float64bits"], apart := false, narrowed := true }
def WordNoughtsUptoSaid : Prop := wordNoughtsUptoRow.holds Try.pinned (OpenSpec.upto wordNoughtsSpec)

/-- 'donjonlaw1.WordInfs', WHERE WHAT IT READS IS OF BULK AT MOST 1048576: true; the input reads as it did. -/
def wordInfsUptoRow : OpenClaim := { program := "ytgoajapgcmpflab", sum := "7cf2bbf0b44c7fd35d85d876a3e6d9bd608081c03e068cba7791cae56ffb003c", func := "donjon/donjonlaw1.WordInfs", spec := "wordInfs", inPlace := ["math.Float64frombits", "math.Float64bits"], apart := false, narrowed := true }
def WordInfsUptoSaid : Prop := wordInfsUptoRow.holds Try.pinned (OpenSpec.upto wordInfsSpec)

/-- 'donjonlaw1.WordCuts', WHERE WHAT IT READS IS OF BULK AT MOST 1048576: true; the input reads as it did. -/
def wordCutsUptoRow : OpenClaim := { program := "ytgoajapgcmpflab", sum := "7cf2bbf0b44c7fd35d85d876a3e6d9bd608081c03e068cba7791cae56ffb003c", func := "donjon/donjonlaw1.WordCuts", spec := "wordCuts", inPlace := ["math.Float64frombits", "math.Float64bits"], apart := false, narrowed := true }
def WordCutsUptoSaid : Prop := wordCutsUptoRow.holds Try.pinned (OpenSpec.upto wordCutsSpec)

/-- 'donjonlaw1.WordBounds', WHERE WHAT IT READS IS OF BULK AT MOST 1048576: true; the input reads as it did. -/
def wordBoundsUptoRow : OpenClaim := { program := "ytgoajapgcmpflab", sum := "7cf2bbf0b44c7fd35d85d876a3e6d9bd608081c03e068cba7791cae56ffb003c", func := "donjon/donjonlaw1.WordBounds", spec := "wordBounds", inPlace := ["math.Float64frombits", "math.Float64bits"], apart := false, narrowed := true }
def WordBoundsUptoSaid : Prop := wordBoundsUptoRow.holds Try.pinned (OpenSpec.upto wordBoundsSpec)

end Rows
end Go.Proofs.Ytgoajapgcmpflab
