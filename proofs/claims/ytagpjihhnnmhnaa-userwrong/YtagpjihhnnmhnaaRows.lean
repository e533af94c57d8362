/-
  No cell of these rows narrows 'for every input' (looked for: loops, veiled, ifaces, maps, wideKeys, modest, calm, conditions, laid).
  DERIVED. THE GIVEN ROWS OF THIS SEAT. 5 by the template 'for every input the law returns true; each argument reads behind the call as it read before'; 0 by the template 'total and deterministic' (their statements: YtagpjihhnnmhnaaTotals.lean).
  GIVEN WITH THE SEED: the statements are not yours to turn. If you find one false, say at which input.
  Laid BY PROGRAM, IN A SANDBOX (cutbox-rows.mjs): the forced cells as the released guide's own fill.sh prints them over the translation a64dea6f8f771b08… (all of the seat's roots in one cut). By AI agents, Wed Nov 11 2026. No macro, syntax, notation, axiom, sorry.
-/
import Derived.Test.YtagpjihhnnmhnaaChecked
import GoSem.Claim
import GoSem.ClaimJoined
import GoSem.ClaimMapViews
import Derived.JoinedTies
import Derived.KernelRfl
namespace Go.Proofs.Ytagpjihhnnmhnaa
/- THE CELL 'sum', in the pinned program and in every row, IS THE sha256 OF THE DUMP (.gsa) THAT YtagpjihhnnmhnaaProg.lean LOADS. Nothing in Lean hashes anything: it is a label: what it is worth is what the hold of that sum in a sandbox is worth. -/
noncomputable def Try.pinned : Pinned := { name := "ytagpjihhnnmhnaa", sum := "a64dea6f8f771b0892bd6e04492f3a3d3af063520d1d2a048edfc7f9c8521288", checked := Try.checked }
namespace Rows
def none {H : Type} : Left H := { results := [], args := [] }

/-- 'donjonlaw9.UserChecks': WHATEVER THE INPUT: true; the input reads as it did. -/
def userChecksSpec : ChangeSpec := { name := "userChecks", fn := fun _ => fun
  | [d] => { results := [.lit (.bool true)], args := [d] }
  | _ => none }
def userChecksRow : OpenClaim := { program := "ytagpjihhnnmhnaa", sum := "a64dea6f8f771b0892bd6e04492f3a3d3af063520d1d2a048edfc7f9c8521288", func := "donjon/donjonlaw9.UserChecks", spec := "userChecks", unfollowed := true, recurses := true, apart := false }
def UserChecksSaid : Prop := userChecksRow.holds Try.pinned (OpenSpec.ofChange userChecksSpec)

/-- ITS FALSE NEIGHBOUR: 'it returns false'. Refute it at one input. -/
def userChecksWrong : ChangeSpec := { name := "userChecks", fn := fun _ => fun
  | [d] => { results := [.lit (.bool false)], args := [d] }
  | _ => none }
def UserChecksWrongFalsely : Prop := userChecksRow.holds Try.pinned (OpenSpec.ofChange userChecksWrong)

/-- 'donjonlaw9.UserEnters': WHATEVER THE INPUT: true; the input reads as it did. -/
def userEntersSpec : ChangeSpec := { name := "userEnters", fn := fun _ => fun
  | [d1, d2, d3, d4] => { results := [.lit (.bool true)], args := [d1, d2, d3, d4] }
  | _ => none }
def userEntersRow : OpenClaim := { program := "ytagpjihhnnmhnaa", sum := "a64dea6f8f771b0892bd6e04492f3a3d3af063520d1d2a048edfc7f9c8521288", func := "donjon/donjonlaw9.UserEnters", spec := "userEnters", unfollowed := true, recurses := true, apart := false }
def UserEntersSaid : Prop := userEntersRow.holds Try.pinned (OpenSpec.ofChange userEntersSpec)

/-- ITS FALSE NEIGHBOUR: 'it returns false'. Refute it at one input. -/
def userEntersWrong : ChangeSpec := { name := "userEnters", fn := fun _ => fun
  | [d1, d2, d3, d4] => { results := [.lit (.bool false)], args := [d1, d2, d3, d4] }
  | _ => none }
def UserEntersWrongFalsely : Prop := userEntersRow.holds Try.pinned (OpenSpec.ofChange userEntersWrong)

/-- 'donjonlaw9.UserLower': WHATEVER THE INPUT: true; the input reads as it did. -/
def userLowerSpec : ChangeSpec := { name := "userLower", fn := fun _ => fun
  | [d1, d2, d3, d4] => { results := [.lit (.bool true)], args := [d1, d2, d3, d4] }
  | _ => none }
def userLowerRow : OpenClaim := { program := "ytagpjihhnnmhnaa", sum := "a64dea6f8f771b0892bd6e04492f3a3d3af063520d1d2a048edfc7f9c8521288", func := "donjon/donjonlaw9.UserLower", spec := "userLower", unfollowed := true, recurses := true, apart := false }
def UserLowerSaid : Prop := userLowerRow.holds Try.pinned (OpenSpec.ofChange userLowerSpec)

/-- ITS FALSE NEIGHBOUR: 'it returns false'. Refute it at one input. -/
def userLowerWrong : ChangeSpec := { name := "userLower", fn := fun _ => fun
  | [d1, d2, d3, d4] => { results := [.lit (.bool false)], args := [d1, d2, d3, d4] }
  | _ => none }
def UserLowerWrongFalsely : Prop := userLowerRow.holds Try.pinned (OpenSpec.ofChange userLowerWrong)

/-- 'donjonlaw9.UserWrong': WHATEVER THE INPUT: true; the input reads as it did. -/
def userWrongSpec : ChangeSpec := { name := "userWrong", fn := fun _ => fun
  | [d1, d2, d3] => { results := [.lit (.bool true)], args := [d1, d2, d3] }
  | _ => none }
def userWrongRow : OpenClaim := { program := "ytagpjihhnnmhnaa", sum := "a64dea6f8f771b0892bd6e04492f3a3d3af063520d1d2a048edfc7f9c8521288", func := "donjon/donjonlaw9.UserWrong", spec := "userWrong", unfollowed := true, recurses := true, apart := false }
def UserWrongSaid : Prop := userWrongRow.holds Try.pinned (OpenSpec.ofChange userWrongSpec)

/-- ITS FALSE NEIGHBOUR: 'it returns false'. Refute it at one input. -/
def userWrongWrong : ChangeSpec := { name := "userWrong", fn := fun _ => fun
  | [d1, d2, d3] => { results := [.lit (.bool false)], args := [d1, d2, d3] }
  | _ => none }
def UserWrongWrongFalsely : Prop := userWrongRow.holds Try.pinned (OpenSpec.ofChange userWrongWrong)

/-- 'donjonlaw9.UserOrder': WHATEVER THE INPUT: true; the input reads as it did. -/
def userOrderSpec : ChangeSpec := { name := "userOrder", fn := fun _ => fun
  | [d1, d2, d3] => { results := [.lit (.bool true)], args := [d1, d2, d3] }
  | _ => none }
def userOrderRow : OpenClaim := { program := "ytagpjihhnnmhnaa", sum := "a64dea6f8f771b0892bd6e04492f3a3d3af063520d1d2a048edfc7f9c8521288", func := "donjon/donjonlaw9.UserOrder", spec := "userOrder", unfollowed := true, recurses := true, apart := false }
def UserOrderSaid : Prop := userOrderRow.holds Try.pinned (OpenSpec.ofChange userOrderSpec)

/-- ITS FALSE NEIGHBOUR: 'it returns false'. Refute it at one input. -/
def userOrderWrong : ChangeSpec := { name := "userOrder", fn := fun _ => fun
  | [d1, d2, d3] => { results := [.lit (.bool false)], args := [d1, d2, d3] }
  | _ => none }
def UserOrderWrongFalsely : Prop := userOrderRow.holds Try.pinned (OpenSpec.ofChange userOrderWrong)

/- THE SECOND FORM. 'bulk': how many values and letters a reading holds, each counted each time it is reached (what is shared counts as often as it is met; a slice's spare places count too). A statement '..UptoSaid' is the law's where the arguments, and the package variables that the reading takes, are together of bulk at most 1048576: NARROWER than '..Said'. Prove '..Said' where nothing that the law and all that it calls make is longer than what came in: it says more and counts as full. Else prove '..UptoSaid'. A law counts once. -/
mutual
def uptoBulk {H : Type} : DataW H → Nat
  | .lit (.string bytes) => bytes.length + 1
  | .lit _ => 1
  | .nil => 1
  | .ptr d => uptoBulk d + 1
  | .slice elems spare => uptoBulkAll elems + uptoBulkAll spare + 1
  | .agg parts => uptoBulkAll parts + 1
  | .iface _ d => uptoBulk d + 1
  | .map entries => uptoBulkEntries entries + 1
  | .held _ => 1
def uptoBulkAll {H : Type} : List (DataW H) → Nat
  | [] => 0
  | d :: r => uptoBulk d + uptoBulkAll r
def uptoBulkEntries {H : Type} : List (Lit × DataW H) → Nat
  | [] => 0
  | x :: r => uptoBulkEntry x + uptoBulkEntries r
def uptoBulkEntry {H : Type} : Lit × DataW H → Nat
  | (.string bytes, d) => bytes.length + uptoBulk d + 1
  | (_, d) => uptoBulk d + 1
 end
def uptoSmall : (H : Type) → List (DataW H) → Bool := fun _ ds => decide (uptoBulkAll ds ≤ 1048576)
def OpenSpec.upto (s : _root_.Go.ChangeSpec) : _root_.Go.OpenSpec := { _root_.Go.OpenSpec.ofChange s with cond := some uptoSmall }

/-- 'donjonlaw9.UserChecks', WHERE WHAT IT READS IS OF BULK AT MOST 1048576: true; the input reads as it did. -/
def userChecksUptoRow : OpenClaim := { program := "ytagpjihhnnmhnaa", sum := "a64dea6f8f771b0892bd6e04492f3a3d3af063520d1d2a048edfc7f9c8521288", func := "donjon/donjonlaw9.UserChecks", spec := "userChecks", unfollowed := true, recurses := true, apart := false, narrowed := true }
def UserChecksUptoSaid : Prop := userChecksUptoRow.holds Try.pinned (OpenSpec.upto userChecksSpec)

/-- 'donjonlaw9.UserEnters', WHERE WHAT IT READS IS OF BULK AT MOST 1048576: true; the input reads as it did. -/
def userEntersUptoRow : OpenClaim := { program := "ytagpjihhnnmhnaa", sum := "a64dea6f8f771b0892bd6e04492f3a3d3af063520d1d2a048edfc7f9c8521288", func := "donjon/donjonlaw9.UserEnters", spec := "userEnters", unfollowed := true, recurses := true, apart := false, narrowed := true }
def UserEntersUptoSaid : Prop := userEntersUptoRow.holds Try.pinned (OpenSpec.upto userEntersSpec)

/-- 'donjonlaw9.UserLower', WHERE WHAT IT READS IS OF BULK AT MOST 1048576: true; the input reads as it did. -/
def userLowerUptoRow : OpenClaim := { program := "ytagpjihhnnmhnaa", sum := "a64dea6f8f771b0892bd6e04492f3a3d3af063520d1d2a048edfc7f9c8521288", func := "donjon/donjonlaw9.UserLower", spec := "userLower", unfollowed := true, recurses := true, apart := false, narrowed := true }
def UserLowerUptoSaid : Prop := userLowerUptoRow.holds Try.pinned (OpenSpec.upto userLowerSpec)

/-- 'donjonlaw9.UserWrong', WHERE WHAT IT READS IS OF BULK AT MOST 1048576: true; the input reads as it did. -/
def userWrongUptoRow : OpenClaim := { program := "ytagpjihhnnmhnaa", sum := "a64dea6f8f771b0892bd6e04492f3a3d3af063520d1d2a048edfc7f9c8521288", func := "donjon/donjonlaw9.UserWrong", spec := "userWrong", unfollowed := true, recurses := true, apart := false, narrowed := true }
def UserWrongUptoSaid : Prop := userWrongUptoRow.holds Try.pinned (OpenSpec.upto userWrongSpec)

/-- 'donjonlaw9.UserOrder', WHERE WHAT IT READS IS OF BULK AT MOST 1048576: true; the input reads as it did. -/
def userOrderUptoRow : OpenClaim := { program := "ytagpjihhnnmhnaa", sum := "a64dea6f8f771b0892bd6e04492f3a3d3af063520d1d2a048edfc7f9c8521288", func := "donjon/donjonlaw9.UserOrder", spec := "userOrder", unfollowed := true, recurses := true, apart := false, narrowed := true }
def UserOrderUptoSaid : Prop := userOrderUptoRow.holds Try.pinned (OpenSpec.upto userOrderSpec)

end Rows
end Go.Proofs.Ytagpjihhnnmhnaa
