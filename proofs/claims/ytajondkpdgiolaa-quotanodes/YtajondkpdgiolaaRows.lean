/-
  No cell of these rows narrows 'for every input' (looked for: loops, veiled, ifaces, maps, wideKeys, modest, calm, conditions, laid).
  DERIVED. THE GIVEN ROWS OF THIS SEAT. 4 by the template 'for every input the law returns true; each argument reads behind the call as it read before'; 0 by the template 'total and deterministic' (their statements: YtajondkpdgiolaaTotals.lean).
  GIVEN WITH THE SEED: the statements are not yours to turn. If you find one false, say at which input.
  Laid BY PROGRAM, IN A SANDBOX (cutbox-rows.mjs): the forced cells as the released guide's own fill.sh prints them over the translation a57fcbfbbd364e0e… (all of the seat's roots in one cut). By AI agents, Wed Nov 11 2026. No macro, syntax, notation, axiom, sorry.
-/
import Derived.Test.YtajondkpdgiolaaChecked
import GoSem.Claim
import GoSem.ClaimJoined
import GoSem.ClaimMapViews
import Derived.JoinedTies
import Derived.KernelRfl
namespace Go.Proofs.Ytajondkpdgiolaa
/- THE CELL 'sum', in the pinned program and in every row, IS THE sha256 OF THE DUMP (.gsa) THAT YtajondkpdgiolaaProg.lean LOADS. Nothing in Lean hashes anything: it is a label: what it is worth is what the hold of that sum in a sandbox is worth. -/
noncomputable def Try.pinned : Pinned := { name := "ytajondkpdgiolaa", sum := "a57fcbfbbd364e0e409d6e17b9c3a5803fb3edb691c47fbef763cb88c9061585", checked := Try.checked }
namespace Rows
def none {H : Type} : Left H := { results := [], args := [] }

/-- 'donjonlaw12.QuotaNodes': WHATEVER THE INPUT: true; the input reads as it did. -/
def quotaNodesSpec : ChangeSpec := { name := "quotaNodes", fn := fun _ => fun
  | [d1, d2, d3, d4] => { results := [.lit (.bool true)], args := [d1, d2, d3, d4] }
  | _ => none }
def quotaNodesRow : OpenClaim := { program := "ytajondkpdgiolaa", sum := "a57fcbfbbd364e0e409d6e17b9c3a5803fb3edb691c47fbef763cb88c9061585", func := "donjon/donjonlaw12.QuotaNodes", spec := "quotaNodes", plainKeys := false, apart := false }
def QuotaNodesSaid : Prop := quotaNodesRow.holds Try.pinned (OpenSpec.ofChange quotaNodesSpec)

/-- ITS FALSE NEIGHBOUR: 'it returns false'. Refute it at one input. -/
def quotaNodesWrong : ChangeSpec := { name := "quotaNodes", fn := fun _ => fun
  | [d1, d2, d3, d4] => { results := [.lit (.bool false)], args := [d1, d2, d3, d4] }
  | _ => none }
def QuotaNodesWrongFalsely : Prop := quotaNodesRow.holds Try.pinned (OpenSpec.ofChange quotaNodesWrong)

/-- 'donjonlaw12.QuotaCounts': WHATEVER THE INPUT: true; the input reads as it did. -/
def quotaCountsSpec : ChangeSpec := { name := "quotaCounts", fn := fun _ => fun
  | [d1, d2] => { results := [.lit (.bool true)], args := [d1, d2] }
  | _ => none }
def quotaCountsRow : OpenClaim := { program := "ytajondkpdgiolaa", sum := "a57fcbfbbd364e0e409d6e17b9c3a5803fb3edb691c47fbef763cb88c9061585", func := "donjon/donjonlaw12.QuotaCounts", spec := "quotaCounts", inPlace := ["internal/reflectlite.ValueOf", "internal/reflectlite.Swapper", "(internal/reflectlite.Value).Len"], unfollowed := true, recurses := true, plainKeys := false, apart := false }
def QuotaCountsSaid : Prop := quotaCountsRow.holds Try.pinned (OpenSpec.ofChange quotaCountsSpec)

/-- ITS FALSE NEIGHBOUR: 'it returns false'. Refute it at one input. -/
def quotaCountsWrong : ChangeSpec := { name := "quotaCounts", fn := fun _ => fun
  | [d1, d2] => { results := [.lit (.bool false)], args := [d1, d2] }
  | _ => none }
def QuotaCountsWrongFalsely : Prop := quotaCountsRow.holds Try.pinned (OpenSpec.ofChange quotaCountsWrong)

/-- 'donjonlaw12.QuotaApart': WHATEVER THE INPUT: true; the input reads as it did. -/
def quotaApartSpec : ChangeSpec := { name := "quotaApart", fn := fun _ => fun
  | [d1, d2, d3, d4] => { results := [.lit (.bool true)], args := [d1, d2, d3, d4] }
  | _ => none }
def quotaApartRow : OpenClaim := { program := "ytajondkpdgiolaa", sum := "a57fcbfbbd364e0e409d6e17b9c3a5803fb3edb691c47fbef763cb88c9061585", func := "donjon/donjonlaw12.QuotaApart", spec := "quotaApart", inPlace := ["internal/reflectlite.ValueOf", "internal/reflectlite.Swapper", "(internal/reflectlite.Value).Len"], unfollowed := true, recurses := true, plainKeys := false, apart := false }
def QuotaApartSaid : Prop := quotaApartRow.holds Try.pinned (OpenSpec.ofChange quotaApartSpec)

/-- ITS FALSE NEIGHBOUR: 'it returns false'. Refute it at one input. -/
def quotaApartWrong : ChangeSpec := { name := "quotaApart", fn := fun _ => fun
  | [d1, d2, d3, d4] => { results := [.lit (.bool false)], args := [d1, d2, d3, d4] }
  | _ => none }
def QuotaApartWrongFalsely : Prop := quotaApartRow.holds Try.pinned (OpenSpec.ofChange quotaApartWrong)

/-- 'donjonlaw12.QuotaShare': WHATEVER THE INPUT: true; the input reads as it did. -/
def quotaShareSpec : ChangeSpec := { name := "quotaShare", fn := fun _ => fun
  | [d1, d2, d3, d4] => { results := [.lit (.bool true)], args := [d1, d2, d3, d4] }
  | _ => none }
def quotaShareRow : OpenClaim := { program := "ytajondkpdgiolaa", sum := "a57fcbfbbd364e0e409d6e17b9c3a5803fb3edb691c47fbef763cb88c9061585", func := "donjon/donjonlaw12.QuotaShare", spec := "quotaShare", plainKeys := false, apart := false }
def QuotaShareSaid : Prop := quotaShareRow.holds Try.pinned (OpenSpec.ofChange quotaShareSpec)

/-- ITS FALSE NEIGHBOUR: 'it returns false'. Refute it at one input. -/
def quotaShareWrong : ChangeSpec := { name := "quotaShare", fn := fun _ => fun
  | [d1, d2, d3, d4] => { results := [.lit (.bool false)], args := [d1, d2, d3, d4] }
  | _ => none }
def QuotaShareWrongFalsely : Prop := quotaShareRow.holds Try.pinned (OpenSpec.ofChange quotaShareWrong)

/- THE SECOND FORM. 'bulk': how many values and letters a reading holds, each counted each time it is reached (what is shared counts as often as it is met; a slice's spare places count too). A statement '..UptoSaid' is the law's where the arguments, and the package variables that the reading takes, are together of bulk at most 1048576: NARROWER than '..Said'. Prove '..Said' where nothing that the law and all that it calls make is longer than what came in: it says more and counts as full. Else prove '..UptoSaid'. A law counts once. -/
mutual
def uptoBulk {H : Type} : DataW H → Nat
  | .lit (.string bytes) => bytes.length + 1
  | .lit _ => 1
  | .nil => 1
  | .ptr d => uptoBulk d + 1
  | .slice elems spare => uptoBulkAll elems + uptoBulkAll spare + 1
  | .agg parts => uptoBulkAll parts + 1
  | .iface _ d => uptoBulk d + 1
  | .map entries => uptoBulkEntries entries + 1
  | .held _ => 1
def uptoBulkAll {H : Type} : List (DataW H) → Nat
  | [] => 0
  | d :: r => uptoBulk d + uptoBulkAll r
def uptoBulkEntries {H : Type} : List (Lit × DataW H) → Nat
  | [] => 0
  | x :: r => uptoBulkEntry x + uptoBulkEntries r
def uptoBulkEntry {H : Type} : Lit × DataW H → Nat
  | (.string bytes, d) => bytes.length + uptoBulk d + 1
  | (_, d) => uptoBulk d + 1
 end
def uptoSmall : (H : Type) → List (DataW H) → Bool := fun _ ds => decide (uptoBulkAll ds ≤ 1048576)
def OpenSpec.upto (s : _root_.Go.ChangeSpec) : _root_.Go.OpenSpec := { _root_.Go.OpenSpec.ofChange s with cond := some uptoSmall }

/-- 'donjonlaw12.QuotaNodes', WHERE WHAT IT READS IS OF BULK AT MOST 1048576: true; the input reads as it did. -/
def quotaNodesUptoRow : OpenClaim := { program := "ytajondkpdgiolaa", sum := "a57fcbfbbd364e0e409d6e17b9c3a5803fb3edb691c47fbef763cb88c9061585", func := "donjon/donjonlaw12.QuotaNodes", spec := "quotaNodes", plainKeys := false, apart := false, narrowed := true }
def QuotaNodesUptoSaid : Prop := quotaNodesUptoRow.holds Try.pinned (OpenSpec.upto quotaNodesSpec)

/-- 'donjonlaw12.QuotaCounts', WHERE WHAT IT READS IS OF BULK AT MOST 1048576: true; the input reads as it did. -/
def quotaCountsUptoRow : OpenClaim := { program := "ytajondkpdgiolaa", sum := "a57fcbfbbd364e0e409d6e17b9c3a5803fb3edb691c47fbef763cb88c9061585", func := "donjon/donjonlaw12.QuotaCounts", spec := "quotaCounts", inPlace := ["internal/reflectlite.ValueOf", "internal/reflectlite.Swapper", "(internal/reflectlite.Value).Len"], unfollowed := true, recurses := true, plainKeys := false, apart := false, narrowed := true }
def QuotaCountsUptoSaid : Prop := quotaCountsUptoRow.holds Try.pinned (OpenSpec.upto quotaCountsSpec)

/-- 'donjonlaw12.QuotaApart', WHERE WHAT IT READS IS OF BULK AT MOST 1048576: true; the input reads as it did. -/
def quotaApartUptoRow : OpenClaim := { program := "ytajondkpdgiolaa", sum := "a57fcbfbbd364e0e409d6e17b9c3a5803fb3edb691c47fbef763cb88c9061585", func := "donjon/donjonlaw12.QuotaApart", spec := "quotaApart", inPlace := ["internal/reflectlite.ValueOf", "internal/reflectlite.Swapper", "(internal/reflectlite.Value).Len"], unfollowed := true, recurses := true, plainKeys := false, apart := false, narrowed := true }
def QuotaApartUptoSaid : Prop := quotaApartUptoRow.holds Try.pinned (OpenSpec.upto quotaApartSpec)

/-- 'donjonlaw12.QuotaShare', WHERE WHAT IT READS IS OF BULK AT MOST 1048576: true; the input reads as it did. -/
def quotaShareUptoRow : OpenClaim := { program := "ytajondkpdgiolaa", sum := "a57fcbfbbd364e0e409d6e17b9c3a5803fb3edb691c47fbef763cb88c9061585", func := "donjon/donjonlaw12.QuotaShare", spec := "quotaShare", plainKeys := false, apart := false, narrowed := true }
def QuotaShareUptoSaid : Prop := quotaShareUptoRow.holds Try.pinned (OpenSpec.upto quotaShareSpec)

end Rows
end Go.Proofs.Ytajondkpdgiolaa
