/-
  BRACKETS THAT COME IN.
-/
import Derived.Test.YtinibccphecdfaaWIsaOpen
import Derived.Test.YtinibccphecdfaaPt1
namespace Go.Proofs.Ytinibccphecdfaa
open Go.ChangeShapes Go.WideShapes Go.ChangeAt Go.RowKit
set_option maxRecDepth 8000
set_option linter.unusedVariables false
set_option linter.unusedSimpArgs false

theorem undRg : Try.prog.underlying 55 = some (.struct (Try.prog.fieldsOf 55)) := by kernel_rfl
theorem cRgs : Try.prog.cellsOf 55 = 4 := by kernel_rfl
section
variable {H : Type} {enc : TypeId × Value → H} {W : World} {base : Nat} {sp : Nat → Bool} {held : Bool}
theorem reads_rgs : Reads enc W base sp held 55 fun cs => ∃ x : Rg, cs = [.int .i64 x.a, .int .i64 x.b, .int .i64 x.c, .int .i64 x.g] := fun n cs x h => by
  have hl := struct_len undRg cRgs h
  obtain ⟨s, e0, w0⟩ := read_field (i := 0) (ty := 3) (off := 0) undRg (by kernel_rfl) cIntI (reads_int Try.underlying3) h
  obtain ⟨c, e1, w1⟩ := read_field (i := 1) (ty := 3) (off := 1) undRg (by kernel_rfl) cIntI (reads_int Try.underlying3) h
  obtain ⟨i, e2, w2⟩ := read_field (i := 2) (ty := 3) (off := 2) undRg (by kernel_rfl) cIntI (reads_int Try.underlying3) h
  obtain ⟨g, e3, w3⟩ := read_field (i := 3) (ty := 3) (off := 3) undRg (by kernel_rfl) cIntI (reads_int Try.underlying3) h
  match cs, hl with
  | [v0, v1, v2, v3], _ =>
    simp at e0 e1 e2 e3
    subst e0 e1 e2 e3
    exact ⟨⟨s, c, i, g⟩, rfl⟩
end
theorem open_rgs {H : Type} {enc : TypeId × Value → H} {W : World} {r : Reach} {b0 base : Nat} {sp : Nat → Bool} {held : Bool} {v : Value} {d : DataW H} {p : List MemPlace}
    (hv : Value.okWide Try.prog W r b0 55 v) (h : DataW.Trod enc Try.prog W base sp held 55 v d p) : ∃ x : Rg, v = x.v := by
  obtain ⟨cs, rfl, i, rfl⟩ := open_structI undRg reads_rgs hv h
  exact ⟨i, rfl⟩
end Go.Proofs.Ytinibccphecdfaa
