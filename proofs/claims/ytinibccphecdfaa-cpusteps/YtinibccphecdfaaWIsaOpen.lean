/-
  INSTRUCTIONS AND POINTERS THAT COME IN.
-/
import Derived.Test.YtinibccphecdfaaPt1
import Derived.Test.YtinibccphecdfaaPt4
namespace Go.Proofs.Ytinibccphecdfaa
open Go.ChangeShapes Go.WideShapes Go.ChangeAt Go.RowKit
set_option maxRecDepth 8000
set_option linter.unusedVariables false
set_option linter.unusedSimpArgs false

/-- A struct as a parameter: its cells, and how they read. -/
theorem open_structI {H : Type} {enc : TypeId × Value → H} {W : World} {r : Reach} {b0 base : Nat} {sp : Nat → Bool} {held : Bool} {t : TypeId} {fs : Array Field} {v : Value} {d : DataW H} {p : List MemPlace} {q : List Value → Prop} (hs : Try.prog.underlying t = some (.struct fs)) (hq : Reads enc W base sp held t q)
    (hv : Value.okWide Try.prog W r b0 t v) (h : DataW.Trod enc Try.prog W base sp held t v d p) : ∃ cs : List Value, v = .agg cs.toArray ∧ q cs := by
  obtain ⟨cs, rfl, hsz⟩ := okWide_struct hs hv
  obtain ⟨fuel, hf⟩ := h
  exact ⟨cs.toList, by simp, hq fuel cs.toList (d, p) hf⟩
theorem undI : Try.prog.underlying 64 = some (.struct (Try.prog.fieldsOf 64)) := by kernel_rfl
theorem cIns : Try.prog.cellsOf 64 = 3 := by kernel_rfl
theorem cIntI : Try.prog.cellsOf 3 = 1 := by kernel_rfl
def Ins.fits (i : Ins) : Prop := (-9223372036854775808 ≤ i.o ∧ i.o ≤ 9223372036854775807) ∧ (-9223372036854775808 ≤ i.p ∧ i.p ≤ 9223372036854775807) ∧ (-9223372036854775808 ≤ i.n ∧ i.n ≤ 9223372036854775807)
section
variable {H : Type} {enc : TypeId × Value → H} {W : World} {base : Nat} {sp : Nat → Bool} {held : Bool}
theorem reads_ins : Reads enc W base sp held 64 fun cs => ∃ i : Ins, cs = ins3 i ∧ i.fits := fun n cs x h => by
  have hl := struct_len undI cIns h
  obtain ⟨s, e0, w0⟩ := read_field (i := 0) (ty := 3) (off := 0) undI (by kernel_rfl) cIntI (reads_int Try.underlying3) h
  obtain ⟨c, e1, w1⟩ := read_field (i := 1) (ty := 3) (off := 1) undI (by kernel_rfl) cIntI (reads_int Try.underlying3) h
  obtain ⟨i, e2, w2⟩ := read_field (i := 2) (ty := 3) (off := 2) undI (by kernel_rfl) cIntI (reads_int Try.underlying3) h
  match cs, hl with
  | [v0, v1, v2], _ =>
    simp at e0 e1 e2
    subst e0 e1 e2
    exact ⟨⟨s, c, i⟩, rfl, int_fits w0, int_fits w1, int_fits w2⟩
end
theorem open_ins {H : Type} {enc : TypeId × Value → H} {W : World} {r : Reach} {b0 base : Nat} {sp : Nat → Bool} {held : Bool} {v : Value} {d : DataW H} {p : List MemPlace}
    (hv : Value.okWide Try.prog W r b0 64 v) (h : DataW.Trod enc Try.prog W base sp held 64 v d p) : ∃ i : Ins, v = i.v ∧ i.fits := by
  obtain ⟨cs, rfl, i, rfl, hf⟩ := open_structI undI reads_ins hv h
  exact ⟨i, rfl, hf⟩
theorem undPt : Try.prog.underlying 24 = some (.struct (Try.prog.fieldsOf 24)) := by kernel_rfl
theorem cPtr : Try.prog.cellsOf 24 = 3 := by kernel_rfl
section
variable {H : Type} {enc : TypeId × Value → H} {W : World} {base : Nat} {sp : Nat → Bool} {held : Bool}
theorem reads_ptr : Reads enc W base sp held 24 fun cs => ∃ i : Ptr, cs = ptr3 i := fun n cs x h => by
  have hl := struct_len undPt cPtr h
  obtain ⟨s, e0, w0⟩ := read_field (i := 0) (ty := 3) (off := 0) undPt (by kernel_rfl) cIntI (reads_int Try.underlying3) h
  obtain ⟨c, e1, w1⟩ := read_field (i := 1) (ty := 3) (off := 1) undPt (by kernel_rfl) cIntI (reads_int Try.underlying3) h
  obtain ⟨i, e2, w2⟩ := read_field (i := 2) (ty := 3) (off := 2) undPt (by kernel_rfl) cIntI (reads_int Try.underlying3) h
  match cs, hl with
  | [v0, v1, v2], _ =>
    simp at e0 e1 e2
    subst e0 e1 e2
    exact ⟨⟨s, c, i⟩, rfl⟩
end
theorem open_ptr {H : Type} {enc : TypeId × Value → H} {W : World} {r : Reach} {b0 base : Nat} {sp : Nat → Bool} {held : Bool} {v : Value} {d : DataW H} {p : List MemPlace}
    (hv : Value.okWide Try.prog W r b0 24 v) (h : DataW.Trod enc Try.prog W base sp held 24 v d p) : ∃ i : Ptr, v = i.v := by
  obtain ⟨cs, rfl, i, rfl⟩ := open_structI undPt reads_ptr hv h
  exact ⟨i, rfl⟩
end Go.Proofs.Ytinibccphecdfaa
