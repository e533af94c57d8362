/-
  No cell of these rows narrows 'for every input' (looked for: loops, veiled, ifaces, maps, wideKeys, modest, calm, conditions, laid).
  DERIVED. THE GIVEN ROWS OF THIS SEAT. 3 by the template 'for every input the law returns true; each argument reads behind the call as it read before'; 0 by the template 'total and deterministic' (their statements: YtplhleggemafbaaTotals.lean).
  GIVEN WITH THE SEED: the statements are not yours to turn. If you find one false, say at which input.
  Laid BY PROGRAM, IN A SANDBOX (cutbox-rows.mjs): the forced cells as the released guide's own fill.sh prints them over the translation 781aa8d724f3bb72… (all of the seat's roots in one cut). By AI agents, Wed Nov 11 2026. No macro, syntax, notation, axiom, sorry.
-/
import Derived.Test.YtplhleggemafbaaChecked
import GoSem.Claim
import GoSem.ClaimJoined
import GoSem.ClaimMapViews
import Derived.JoinedTies
import Derived.KernelRfl
namespace Go.Proofs.Ytplhleggemafbaa
/- THE CELL 'sum', in the pinned program and in every row, IS THE sha256 OF THE DUMP (.gsa) THAT YtplhleggemafbaaProg.lean LOADS. Nothing in Lean hashes anything: it is a label: what it is worth is what the hold of that sum in a sandbox is worth. -/
noncomputable def Try.pinned : Pinned := { name := "ytplhleggemafbaa", sum := "781aa8d724f3bb7284a584c21704b5483d67df741e7edb721bdcbbcb2637c4d1", checked := Try.checked }
namespace Rows
def none {H : Type} : Left H := { results := [], args := [] }

/-- 'donjonlaw8.HashAsks': WHATEVER THE INPUT: true; the input reads as it did. -/
def hashAsksSpec : ChangeSpec := { name := "hashAsks", fn := fun _ => fun
  | [d1, d2, d3, d4] => { results := [.lit (.bool true)], args := [d1, d2, d3, d4] }
  | _ => none }
def hashAsksRow : OpenClaim := { program := "ytplhleggemafbaa", sum := "781aa8d724f3bb7284a584c21704b5483d67df741e7edb721bdcbbcb2637c4d1", func := "donjon/donjonlaw8.HashAsks", spec := "hashAsks", apart := false }
def HashAsksSaid : Prop := hashAsksRow.holds Try.pinned (OpenSpec.ofChange hashAsksSpec)

/-- ITS FALSE NEIGHBOUR: 'it returns false'. Refute it at one input. -/
def hashAsksWrong : ChangeSpec := { name := "hashAsks", fn := fun _ => fun
  | [d1, d2, d3, d4] => { results := [.lit (.bool false)], args := [d1, d2, d3, d4] }
  | _ => none }
def HashAsksWrongFalsely : Prop := hashAsksRow.holds Try.pinned (OpenSpec.ofChange hashAsksWrong)

/-- 'donjonlaw8.HashJoins': WHATEVER THE INPUT: true; the input reads as it did. -/
def hashJoinsSpec : ChangeSpec := { name := "hashJoins", fn := fun _ => fun
  | [d1, d2, d3, d4] => { results := [.lit (.bool true)], args := [d1, d2, d3, d4] }
  | _ => none }
def hashJoinsRow : OpenClaim := { program := "ytplhleggemafbaa", sum := "781aa8d724f3bb7284a584c21704b5483d67df741e7edb721bdcbbcb2637c4d1", func := "donjon/donjonlaw8.HashJoins", spec := "hashJoins", apart := false }
def HashJoinsSaid : Prop := hashJoinsRow.holds Try.pinned (OpenSpec.ofChange hashJoinsSpec)

/-- ITS FALSE NEIGHBOUR: 'it returns false'. Refute it at one input. -/
def hashJoinsWrong : ChangeSpec := { name := "hashJoins", fn := fun _ => fun
  | [d1, d2, d3, d4] => { results := [.lit (.bool false)], args := [d1, d2, d3, d4] }
  | _ => none }
def HashJoinsWrongFalsely : Prop := hashJoinsRow.holds Try.pinned (OpenSpec.ofChange hashJoinsWrong)

/-- 'donjonlaw8.HashSalts': WHATEVER THE INPUT: true; the input reads as it did. -/
def hashSaltsSpec : ChangeSpec := { name := "hashSalts", fn := fun _ => fun
  | [d1, d2, d3] => { results := [.lit (.bool true)], args := [d1, d2, d3] }
  | _ => none }
def hashSaltsRow : OpenClaim := { program := "ytplhleggemafbaa", sum := "781aa8d724f3bb7284a584c21704b5483d67df741e7edb721bdcbbcb2637c4d1", func := "donjon/donjonlaw8.HashSalts", spec := "hashSalts", apart := false }
def HashSaltsSaid : Prop := hashSaltsRow.holds Try.pinned (OpenSpec.ofChange hashSaltsSpec)

/-- ITS FALSE NEIGHBOUR: 'it returns false'. Refute it at one input. -/
def hashSaltsWrong : ChangeSpec := { name := "hashSalts", fn := fun _ => fun
  | [d1, d2, d3] => { results := [.lit (.bool false)], args := [d1, d2, d3] }
  | _ => none }
def HashSaltsWrongFalsely : Prop := hashSaltsRow.holds Try.pinned (OpenSpec.ofChange hashSaltsWrong)

/- THE SECOND FORM. 'bulk': how many values and letters a reading holds, each counted each time it is reached (what is shared counts as often as it is met; a slice's spare places count too). A statement '..UptoSaid' is the law's where the arguments, and the package variables that the reading takes, are together of bulk at most 1048576: NARROWER than '..Said'. Prove '..Said' where nothing that the law and all that it calls make is longer than what came in: it says more and counts as full. Else prove '..UptoSaid'. A law counts once. -/
mutual
def uptoBulk {H : Type} : DataW H → Nat
  | .lit (.string bytes) => bytes.length + 1
  | .lit _ => 1
  | .nil => 1
  | .ptr d => uptoBulk d + 1
  | .slice elems spare => uptoBulkAll elems + uptoBulkAll spare + 1
  | .agg parts => uptoBulkAll parts + 1
  | .iface _ d => uptoBulk d + 1
  | .map entries => uptoBulkEntries entries + 1
  | .held _ => 1
def uptoBulkAll {H : Type} : List (DataW H) → Nat
  | [] => 0
  | d :: r => uptoBulk d + uptoBulkAll r
def uptoBulkEntries {H : Type} : List (Lit × DataW H) → Nat
  | [] => 0
  | x :: r => uptoBulkEntry x + uptoBulkEntries r
def uptoBulkEntry {H : Type} : Lit × DataW H → Nat
  | (.string bytes, d) => bytes.length + uptoBulk d + 1
  | (_, d) => uptoBulk d + 1
 end
def uptoSmall : (H : Type) → List (DataW H) → Bool := fun _ ds => decide (uptoBulkAll ds ≤ 1048576)
def OpenSpec.upto (s : _root_.Go.ChangeSpec) : _root_.Go.OpenSpec := { _root_.Go.OpenSpec.ofChange s with cond := some uptoSmall }

/-- 'donjonlaw8.HashAsks', WHERE WHAT IT READS IS OF BULK AT MOST 1048576: true; the input reads as it did. -/
def hashAsksUptoRow : OpenClaim := { program := "ytplhleggemafbaa", sum := "781aa8d724f3bb7284a584c21704b5483d67df741e7edb721bdcbbcb2637c4d1", func := "donjon/donjonlaw8.HashAsks", spec := "hashAsks", apart := false, narrowed := true }
def HashAsksUptoSaid : Prop := hashAsksUptoRow.holds Try.pinned (OpenSpec.upto hashAsksSpec)

/-- 'donjonlaw8.HashJoins', WHERE WHAT IT READS IS OF BULK AT MOST 1048576: true; the input reads as it did. -/
def hashJoinsUptoRow : OpenClaim := { program := "ytplhleggemafbaa", sum := "781aa8d724f3bb7284a584c21704b5483d67df741e7edb721bdcbbcb2637c4d1", func := "donjon/donjonlaw8.HashJoins", spec := "hashJoins", apart := false, narrowed := true }
def HashJoinsUptoSaid : Prop := hashJoinsUptoRow.holds Try.pinned (OpenSpec.upto hashJoinsSpec)

/-- 'donjonlaw8.HashSalts', WHERE WHAT IT READS IS OF BULK AT MOST 1048576: true; the input reads as it did. -/
def hashSaltsUptoRow : OpenClaim := { program := "ytplhleggemafbaa", sum := "781aa8d724f3bb7284a584c21704b5483d67df741e7edb721bdcbbcb2637c4d1", func := "donjon/donjonlaw8.HashSalts", spec := "hashSalts", apart := false, narrowed := true }
def HashSaltsUptoSaid : Prop := hashSaltsUptoRow.holds Try.pinned (OpenSpec.upto hashSaltsSpec)

end Rows
end Go.Proofs.Ytplhleggemafbaa
