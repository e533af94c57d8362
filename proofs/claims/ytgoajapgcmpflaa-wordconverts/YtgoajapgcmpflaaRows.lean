/-
  No cell of these rows narrows 'for every input' (looked for: loops, veiled, ifaces, maps, wideKeys, modest, calm, conditions, laid).
  DERIVED. THE GIVEN ROWS OF THIS SEAT. 6 by the template 'for every input the law returns true; each argument reads behind the call as it read before'; 0 by the template 'total and deterministic' (their statements: YtgoajapgcmpflaaTotals.lean).
  GIVEN WITH THE SEED: the statements are not yours to turn. If you find one false, say at which input.
  Laid BY PROGRAM, IN A SANDBOX (cutbox-rows.mjs): the forced cells as the released guide's own fill.sh prints them over the translation 317a057553e34dfb… (all of the seat's roots in one cut). By AI agents, Wed Nov 11 2026. No macro, syntax, notation, axiom, sorry.
-/
import Derived.Test.YtgoajapgcmpflaaChecked
import GoSem.Claim
import GoSem.ClaimJoined
import GoSem.ClaimMapViews
import Derived.JoinedTies
import Derived.KernelRfl
namespace Go.Proofs.Ytgoajapgcmpflaa
/- THE CELL 'sum', in the pinned program and in every row, IS THE sha256 OF THE DUMP (.gsa) THAT YtgoajapgcmpflaaProg.lean LOADS. Nothing in Lean hashes anything: it is a label: what it is worth is what the hold of that sum in a sandbox is worth. -/
noncomputable def Try.pinned : Pinned := { name := "ytgoajapgcmpflaa", sum := "317a057553e34dfb986dcf27b52aac59f297998e5b292f3402decb6f8b030e30", checked := Try.checked }
namespace Rows
def none {H : Type} : Left H := { results := [], args := [] }

/-- 'donjonlaw1.WordFloats': WHATEVER THE INPUT: true; the input reads as it did. -/
def wordFloatsSpec : ChangeSpec := { name := "wordFloats", fn := fun _ => fun
  | [d1, d2] => { results := [.lit (.bool true)], args := [d1, d2] }
  | _ => none }
def wordFloatsRow : OpenClaim := { program := "ytgoajapgcmpflaa", sum := "317a057553e34dfb986dcf27b52aac59f297998e5b292f3402decb6f8b030e30", func := "donjon/donjonlaw1.WordFloats", spec := "wordFloats", inPlace := ["math.Float64frombits", "math.Float64bits"], apart := false }
def WordFloatsSaid : Prop := wordFloatsRow.holds Try.pinned (OpenSpec.ofChange wordFloatsSpec)

/-- ITS FALSE NEIGHBOUR: 'it returns false'. Refute it at one input. -/
def wordFloatsWrong : ChangeSpec := { name := "wordFloats", fn := fun _ => fun
  | [d1, d2] => { results := [.lit (.bool false)], args := [d1, d2] }
  | _ => none }
def WordFloatsWrongFalsely : Prop := wordFloatsRow.holds Try.pinned (OpenSpec.ofChange wordFloatsWrong)

/-- 'donjonlaw1.WordInts': WHATEVER THE INPUT: true; the input reads as it did. -/
def wordIntsSpec : ChangeSpec := { name := "wordInts", fn := fun _ => fun
  | [d1, d2] => { results := [.lit (.bool true)], args := [d1, d2] }
  | _ => none }
def wordIntsRow : OpenClaim := { program := "ytgoajapgcmpflaa", sum := "317a057553e34dfb986dcf27b52aac59f297998e5b292f3402decb6f8b030e30", func := "donjon/donjonlaw1.WordInts", spec := "wordInts", inPlace := ["math.Float64frombits", "math.Float64bits"], apart := false }
def WordIntsSaid : Prop := wordIntsRow.holds Try.pinned (OpenSpec.ofChange wordIntsSpec)

/-- ITS FALSE NEIGHBOUR: 'it returns false'. Refute it at one input. -/
def wordIntsWrong : ChangeSpec := { name := "wordInts", fn := fun _ => fun
  | [d1, d2] => { results := [.lit (.bool false)], args := [d1, d2] }
  | _ => none }
def WordIntsWrongFalsely : Prop := wordIntsRow.holds Try.pinned (OpenSpec.ofChange wordIntsWrong)

/-- 'donjonlaw1.WordLess': WHATEVER THE INPUT: true; the input reads as it did. -/
def wordLessSpec : ChangeSpec := { name := "wordLess", fn := fun _ => fun
  | [d1, d2] => { results := [.lit (.bool true)], args := [d1, d2] }
  | _ => none }
def wordLessRow : OpenClaim := { program := "ytgoajapgcmpflaa", sum := "317a057553e34dfb986dcf27b52aac59f297998e5b292f3402decb6f8b030e30", func := "donjon/donjonlaw1.WordLess", spec := "wordLess", inPlace := ["math.Float64frombits", "math.Float64bits"], apart := false }
def WordLessSaid : Prop := wordLessRow.holds Try.pinned (OpenSpec.ofChange wordLessSpec)

/-- ITS FALSE NEIGHBOUR: 'it returns false'. Refute it at one input. -/
def wordLessWrong : ChangeSpec := { name := "wordLess", fn := fun _ => fun
  | [d1, d2] => { results := [.lit (.bool false)], args := [d1, d2] }
  | _ => none }
def WordLessWrongFalsely : Prop := wordLessRow.holds Try.pinned (OpenSpec.ofChange wordLessWrong)

/-- 'donjonlaw1.WordConverts': WHATEVER THE INPUT: true; the input reads as it did. -/
def wordConvertsSpec : ChangeSpec := { name := "wordConverts", fn := fun _ => fun
  | [d] => { results := [.lit (.bool true)], args := [d] }
  | _ => none }
def wordConvertsRow : OpenClaim := { program := "ytgoajapgcmpflaa", sum := "317a057553e34dfb986dcf27b52aac59f297998e5b292f3402decb6f8b030e30", func := "donjon/donjonlaw1.WordConverts", spec := "wordConverts", inPlace := ["math.Float64frombits", "math.Float64bits"], apart := false }
def WordConvertsSaid : Prop := wordConvertsRow.holds Try.pinned (OpenSpec.ofChange wordConvertsSpec)

/-- ITS FALSE NEIGHBOUR: 'it returns false'. Refute it at one input. -/
def wordConvertsWrong : ChangeSpec := { name := "wordConverts", fn := fun _ => fun
  | [d] => { results := [.lit (.bool false)], args := [d] }
  | _ => none }
def WordConvertsWrongFalsely : Prop := wordConvertsRow.holds Try.pinned (OpenSpec.ofChange wordConvertsWrong)

/-- 'donjonlaw1.WordSigns': WHATEVER THE INPUT: true; the input reads as it did. -/
def wordSignsSpec : ChangeSpec := { name := "wordSigns", fn := fun _ => fun
  | [d1, d2] => { results := [.lit (.bool true)], args := [d1, d2] }
  | _ => none }
def wordSignsRow : OpenClaim := { program := "ytgoajapgcmpflaa", sum := "317a057553e34dfb986dcf27b52aac59f297998e5b292f3402decb6f8b030e30", func := "donjon/donjonlaw1.WordSigns", spec := "wordSigns", inPlace := ["math.Float64frombits", "math.Float64bits"], apart := false }
def WordSignsSaid : Prop := wordSignsRow.holds Try.pinned (OpenSpec.ofChange wordSignsSpec)

/-- ITS FALSE NEIGHBOUR: 'it returns false'. Refute it at one input. -/
def wordSignsWrong : ChangeSpec := { name := "wordSigns", fn := fun _ => fun
  | [d1, d2] => { results := [.lit (.bool false)], args := [d1, d2] }
  | _ => none }
def WordSignsWrongFalsely : Prop := wordSignsRow.holds Try.pinned (OpenSpec.ofChange wordSignsWrong)

/-- 'donjonlaw1.WordClasses': WHATEVER THE INPUT: true; the input reads as it did. -/
def wordClassesSpec : ChangeSpec := { name := "wordClasses", fn := fun _ => fun
  | [d] => { results := [.lit (.bool true)], args := [d] }
  | _ => none }
def wordClassesRow : OpenClaim := { program := "ytgoajapgcmpflaa", sum := "317a057553e34dfb986dcf27b52aac59f297998e5b292f3402decb6f8b030e30", func := "donjon/donjonlaw1.WordClasses", spec := "wordClasses", inPlace := ["math.Float64frombits", "math.Float64bits"], apart := false }
def WordClassesSaid : Prop := wordClassesRow.holds Try.pinned (OpenSpec.ofChange wordClassesSpec)

/-- ITS FALSE NEIGHBOUR: 'it returns false'. Refute it at one input. -/
def wordClassesWrong : ChangeSpec := { name := "wordClasses", fn := fun _ => fun
  | [d] => { results := [.lit (.bool false)], args := [d] }
  | _ => none }
def WordClassesWrongFalsely : Prop := wordClassesRow.holds Try.pinned (OpenSpec.ofChange wordClassesWrong)

/- THE SECOND FORM. 'bulk': how many values and letters a reading holds, each counted each time it is reached (what is shared counts as often as it is met; a slice's spare places count too). A statement '..UptoSaid' is the law's where the arguments, and the package variables that the reading takes, are together of bulk at most 1048576: NARROWER than '..Said'. Prove '..Said' where nothing that the law and all that it calls make is longer than what came in: it says more and counts as full. Else prove '..UptoSaid'. A law counts once. -/
mutual
def uptoBulk {H : Type} : DataW H → Nat
  | .lit (.string bytes) => bytes.length + 1
  | .lit _ => 1
  | .nil => 1
  | .ptr d => uptoBulk d + 1
  | .slice elems spare => uptoBulkAll elems + uptoBulkAll spare + 1
  | .agg parts => uptoBulkAll parts + 1
  | .iface _ d => uptoBulk d + 1
  | .map entries => uptoBulkEntries entries + 1
  | .held _ => 1
def uptoBulkAll {H : Type} : List (DataW H) → Nat
  | [] => 0
  | d :: r => uptoBulk d + uptoBulkAll r
def uptoBulkEntries {H : Type} : List (Lit × DataW H) → Nat
  | [] => 0
  | x :: r => uptoBulkEntry x + uptoBulkEntries r
def uptoBulkEntry {H : Type} : Lit × DataW H → Nat
  | (.string bytes, d) => bytes.length + uptoBulk d + 1
  | (_, d) => uptoBulk d + 1
 end
def uptoSmall : (H : Type) → List (DataW H) → Bool := fun _ ds => decide (uptoBulkAll ds ≤ 1048576)
def OpenSpec.upto (s : _root_.Go.ChangeSpec) : _root_.Go.OpenSpec := { _root_.Go.OpenSpec.ofChange s with cond := some uptoSmall }

/-- 'donjonlaw1.WordFloats', WHERE WHAT IT READS IS OF BULK AT MOST 1048576: true; the input reads as it did. -/
def wordFloatsUptoRow : OpenClaim := { program := "ytgoajapgcmpflaa", sum := "317a057553e34dfb986dcf27b52aac59f297998e5b292f3402decb6f8b030e30", func := "donjon/donjonlaw1.WordFloats", spec := "wordFloats", inPlace := ["math.Float64frombits", "math.Float64bits"], apart := false, narrowed := true }
def WordFloatsUptoSaid : Prop := wordFloatsUptoRow.holds Try.pinned (OpenSpec.upto wordFloatsSpec)

/-- 'donjonlaw1.WordInts', WHERE WHAT IT READS IS OF BULK AT MOST 1048576: true; the input reads as it did. -/
def wordIntsUptoRow : OpenClaim := { program := "ytgoajapgcmpflaa", sum := "317a057553e34dfb986dcf27b52aac59f297998e5b292f3402decb6f8b030e30", func := "donjon/donjonlaw1.WordInts", spec := "wordInts", inPlace := ["math.Float64frombits", "math.Float64bits"], apart := false, narrowed := true }
def WordIntsUptoSaid : Prop := wordIntsUptoRow.holds Try.pinned (OpenSpec.upto wordIntsSpec)

/-- 'donjonlaw1.WordLess', WHERE WHAT IT READS IS OF BULK AT MOST 1048576: true; the input reads as it did. -/
def wordLessUptoRow : OpenClaim := { program := "ytgoajapgcmpflaa", sum := "317a057553e34dfb986dcf27b52aac59f297998e5b292f3402decb6f8b030e30", func := "donjon/donjonlaw1.WordLess", spec := "wordLess", inPlace := ["math.Float64frombits", "math.Float64bits"], apart := false, narrowed := true }
def WordLessUptoSaid : Prop := wordLessUptoRow.holds Try.pinned (OpenSpec.upto wordLessSpec)

/-- 'donjonlaw1.WordConverts', WHERE WHAT IT READS IS OF BULK AT MOST 1048576: true; the input reads as it did. -/
def wordConvertsUptoRow : OpenClaim := { program := "ytgoajapgcmpflaa", sum := "317a057553e34dfb986dcf27b52aac59f297998e5b292f3402decb6f8b030e30", func := "donjon/donjonlaw1.WordConverts", spec := "wordConverts", inPlace := ["math.Float64frombits", "math.Float64bits"], apart := false, narrowed := true }
def WordConvertsUptoSaid : Prop := wordConvertsUptoRow.holds Try.pinned (OpenSpec.upto wordConvertsSpec)

/-- 'donjonlaw1.WordSigns', WHERE WHAT IT READS IS OF BULK AT MOST 1048576: true; the input reads as it did. -/
def wordSignsUptoRow : OpenClaim := { program := "ytgoajapgcmpflaa", sum := "317a057553e34dfb986dcf27b52aac59f297998e5b292f3402decb6f8b030e30", func := "donjon/donjonlaw1.WordSigns", spec := "wordSigns", inPlace := ["math.Float64frombits", "math.Float64bits"], apart := false, narrowed := true }
def WordSignsUptoSaid : Prop := wordSignsUptoRow.holds Try.pinned (OpenSpec.upto wordSignsSpec)

/-- 'donjonlaw1.WordClasses', WHERE WHAT IT READS IS OF BULK AT MOST 1048576: true; the input reads as it did. -/
def wordClassesUptoRow : OpenClaim := { program := "ytgoajapgcmpflaa", sum := "317a057553e34dfb986dcf27b52aac59f297998e5b292f3402decb6f8b030e30", func := "donjon/donjonlaw1.WordClasses", spec := "wordClasses", inPlace := ["math.Float64frombits", "math.Float64bits"], apart := false, narrowed := true }
def WordClassesUptoSaid : Prop := wordClassesUptoRow.holds Try.pinned (OpenSpec.upto wordClassesSpec)

end Rows
end Go.Proofs.Ytgoajapgcmpflaa
