/-
  NAMES AND PATHS AS BYTES, AND THE DOCUMENT'S OWN SMALL FUNCTIONS (donjonref7).
-/
import Derived.Test.YtjpabjmicaopcaaCommon
import Derived.Test.YtjpabjmicaopcaaNames
import Derived.WalkKit
import Derived.WalkLawsBesides
import Derived.Lib.Strings
import Derived.Lib.Bytealg
import Derived.KernelRfl
import Derived.ProofKit
import Derived.Below
namespace Go.Proofs.Ytjpabjmicaopcaa
open Go.RowKit
set_option maxRecDepth 8000
set_option linter.unusedSimpArgs false
/-- Where the last slash among the first i bytes stands; nought, if none does. -/
def slashTo (u : ByteArray) : Nat → Nat
  | 0 => 0
  | i + 1 => if u.data.toList.getD i 0 = 47 then i else slashTo u i
theorem slashTo_le (u : ByteArray) : ∀ i, slashTo u i ≤ i
  | 0 => Nat.le_refl _
  | i + 1 => by
    unfold slashTo
    split
    · omega
    · have := slashTo_le u i; omega
theorem byte_at {u : ByteArray} {i : Nat} (h : i < u.size) : u.data.toList.getD i 0 = u[i]'h := by
  have hi : i < u.data.toList.length := by rw [Array.length_toList]; exact h
  rw [List.getD_eq_getElem?_getD, List.getElem?_eq_getElem hi]
  rfl
def parentOf (u : ByteArray) : ByteArray := if u.size < 2 then ⟨#[]⟩ else if slashTo u u.size = 0 then ⟨#[47]⟩ else u.extract 0 (slashTo u u.size)
def lastOf (u : ByteArray) : ByteArray := if u.size < 2 then ⟨#[]⟩ else u.extract (slashTo u u.size + 1) u.size
def slashS : ByteArray := ⟨#[47]⟩
def joinOf (p n : ByteArray) : ByteArray := if eqs p slashS = true then p ++ n else p ++ slashS ++ n
theorem eqs_lit {u : ByteArray} (b : Bool) (h : eqs u slashS = b) : (u.toList == [47]) = b := by
  have : slashS.toList = [47] := by rw [toL]; rfl
  unfold eqs at h
  rw [this] at h
  exact h
def inOf (u v : ByteArray) : Bool := if eqs v slashS = true then decide (1 < u.size) else decide (v.size < u.size) && (eqs (u.extract 0 v.size) v && decide (u.data.toList.getD v.size 0 = 47))
end Go.Proofs.Ytjpabjmicaopcaa
