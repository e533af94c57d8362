/-
  A LABEL THAT CAME IN; NUMBERS THAT CAME IN (where there is no tree: TreeOpen has both).
-/
import Derived.Test.YtjpabjmicaopcaaLabOpen
import Derived.Test.YtjpabjmicaopcaaRws
namespace Go.Proofs.Ytjpabjmicaopcaa
open Go.ChangeShapes Go.WideShapes Go.ChangeAt Go.RowKit
set_option maxRecDepth 8000
set_option linter.unusedVariables false
set_option linter.unusedSimpArgs false
section
variable {H : Type} {enc : TypeId × Value → H} {W : World} {base : Nat} {sp : Nat → Bool} {held : Bool}
theorem undLb : Try.prog.underlying 24 = some (.struct (Try.prog.fieldsOf 24)) := by kernel_rfl
theorem open_lb {r : Reach} {b0 : Nat} {v : Value} {d : DataW H} {p : List MemPlace} (hv : Value.okWide Try.prog W r b0 24 v) (h : DataW.Trod enc Try.prog W 0 (fun _ => true) true 24 v d p) : ∃ l : Lab, v = l.v := by
  obtain ⟨cs, rfl, l, rfl, _⟩ := open_struct undLb reads_lab hv h
  exact ⟨l, rfl⟩
end
end Go.Proofs.Ytjpabjmicaopcaa
