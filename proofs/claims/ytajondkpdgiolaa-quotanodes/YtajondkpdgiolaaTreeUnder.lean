/-
  NODES TOLD BY DIRECTORIES: the document's own Under (donjonref11); the law's Same.
-/
import Derived.Test.YtajondkpdgiolaaTreeRows
import Derived.Test.YtajondkpdgiolaaNodeSameL
import Derived.Test.YtajondkpdgiolaaLPathBase
namespace Go.Proofs.Ytajondkpdgiolaa
open Go.RowKit
set_option maxRecDepth 8000
set_option linter.unusedSimpArgs false
set_option linter.unusedVariables false

def scell (s : ByteArray) : List Value := [.string s]
abbrev OwnT (W : World) (base : Nat) (v : Value) (l : List ByteArray) : Prop := OwnR 9 1 scell W base v l
theorem slash_lit (u : ByteArray) : eqs u slashS = (u.toList == [47]) := by
  unfold eqs
  rw [show slashS.toList = [47] from by simp [slashS]]
def sameN (l m : List Nod) : Bool := l.length == m.length && allEq nodEq l m
theorem sameN_iff {l m : List Nod} : sameN l m = true ↔ l = m := by
  unfold sameN
  rw [Bool.and_eq_true, allEq_iff (fun _ _ => nodEq_iff), beq_iff_eq]
  constructor
  · exact fun h => h.2
  · rintro rfl
    exact ⟨rfl, rfl⟩
def Fits (l : List PN) : Prop := ∀ x ∈ l, x.n.acl.length ≤ 1000000 ∧ x.n.words.length ≤ 1000000
theorem names_get {l : List PN} {i : Nat} {x : PN} (h : l[i]? = some x) : (namesP l)[i]? = some x.n := by
  unfold namesP
  rw [List.getElem?_map, h]
  rfl
end Go.Proofs.Ytajondkpdgiolaa
