/-
  NAMES, FOR THE STAGES BEHIND THE SEVENTH: package path's Name and the document's own (donjonref7).
-/
import Derived.Test.YtajondkpdgiolaaCommon
import Derived.Lib.Strings
import Derived.Lib.Bytealg
import Derived.Laws.RangeAny
namespace Go.Proofs.Ytajondkpdgiolaa
open Go.RowKit
set_option maxRecDepth 8000
set_option linter.unusedSimpArgs false
set_option linter.unusedVariables false

def eqs (a b : ByteArray) : Bool := a.toList == b.toList
theorem toL (a : ByteArray) : a.toList = a.data.toList := Lib.toList_data a
theorem eqs_iff {a b : ByteArray} : eqs a b = true ↔ a = b := by
  unfold eqs
  rw [toL, toL]
  simp only [beq_iff_eq]
  exact ⟨fun h => by cases a; cases b; simpa using h, fun h => by rw [h]⟩
theorem eqs_self (a : ByteArray) : eqs a a = true := eqs_iff.2 rfl
theorem eqs_ne {a b : ByteArray} (h : a ≠ b) : eqs a b = false := by
  cases he : eqs a b
  · rfl
  · exact absurd (eqs_iff.1 he) h
def okB (c : UInt8) : Bool := (decide (97 ≤ c.toNat) && decide (c.toNat ≤ 122)) || (decide (48 ≤ c.toNat) && decide (c.toNat ≤ 57))
def name (u : ByteArray) : Bool := decide (1 ≤ u.size) && (decide (u.size ≤ 12) && u.data.toList.all okB)
theorem all_drop {u : ByteArray} {i : Nat} (h : i < u.size) : (u.data.toList.drop i).all okB = (okB (u[i]'h) && (u.data.toList.drop (i + 1)).all okB) := by
  have hi : i < u.data.toList.length := by rw [Array.length_toList]; exact h
  rw [List.drop_eq_getElem_cons hi, List.all_cons]
  rfl
theorem below_iter (w : World) (s : ByteArray) (pos : Nat) : Below w.heap.size w (w.iter s pos) := (Below.refl _ _).alloc (Nat.le_refl _) _
end Go.Proofs.Ytajondkpdgiolaa
