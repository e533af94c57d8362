/-
  LABELS, USERS, RULES AND CONFIGS THAT CAME IN.
-/
import Derived.Test.YtagpjihhnnmhnaaOpens
import Derived.Test.YtagpjihhnnmhnaaUserRefConfig
import Derived.Test.YtagpjihhnnmhnaaUserRefEnter
namespace Go.Proofs.Ytagpjihhnnmhnaa
open Go.ChangeShapes Go.WideShapes Go.ChangeAt Go.RowKit
set_option linter.unusedVariables false
set_option linter.unusedSimpArgs false

def lcells (l : Lab) : List Value := [.int .i64 l.s, .int .i64 l.c, .int .i64 l.i, .int .i64 l.k]
def Lab.fits (l : Lab) : Prop := (-9223372036854775808 ≤ l.s ∧ l.s ≤ 9223372036854775807) ∧ (-9223372036854775808 ≤ l.c ∧ l.c ≤ 9223372036854775807) ∧ (-9223372036854775808 ≤ l.i ∧ l.i ≤ 9223372036854775807) ∧ -9223372036854775808 ≤ l.k ∧ l.k ≤ 9223372036854775807
theorem cInt : Try.prog.cellsOf 3 = 1 := by kernel_rfl
theorem cStr : Try.prog.cellsOf 9 = 1 := by kernel_rfl
theorem cLab : Try.prog.cellsOf 35 = 4 := by kernel_rfl
section
variable {H : Type} {enc : TypeId × Value → H} {W : World} {base : Nat} {sp : Nat → Bool} {held : Bool}
theorem reads_lab : Reads enc W base sp held 35 fun cs => ∃ l, cs = lcells l ∧ l.fits := fun n cs x h => by
  have hl := struct_len und cLab h
  obtain ⟨s, e0, w0⟩ := read_field (i := 0) (ty := 3) (off := 0) und (by kernel_rfl) cInt (reads_int Try.underlying3) h
  obtain ⟨c, e1, w1⟩ := read_field (i := 1) (ty := 3) (off := 1) und (by kernel_rfl) cInt (reads_int Try.underlying3) h
  obtain ⟨i, e2, w2⟩ := read_field (i := 2) (ty := 3) (off := 2) und (by kernel_rfl) cInt (reads_int Try.underlying3) h
  obtain ⟨k, e3, w3⟩ := read_field (i := 3) (ty := 3) (off := 3) und (by kernel_rfl) cInt (reads_int Try.underlying3) h
  match cs, hl with
  | [v0, v1, v2, v3], _ =>
    simp at e0 e1 e2 e3
    subst e0 e1 e2 e3
    exact ⟨⟨s, c, i, k⟩, rfl, int_fits w0, int_fits w1, int_fits w2, int_fits w3⟩
theorem undU : Try.prog.underlying 40 = some (.struct (Try.prog.fieldsOf 40)) := by kernel_rfl
theorem cUsr : Try.prog.cellsOf 40 = 8 := by kernel_rfl
theorem cU64 : Try.prog.cellsOf 38 = 1 := by kernel_rfl
theorem cBool : Try.prog.cellsOf 4 = 1 := by kernel_rfl
def Usr.fits (u : Usr) : Prop := u.name.size ≤ 9223372036854775807 ∧ (-9223372036854775808 ≤ u.salt ∧ u.salt ≤ 9223372036854775807) ∧ u.hash < 18446744073709551616 ∧ u.clear.fits
theorem reads_usr : Reads enc W base sp held 40 fun cs => ∃ u, cs = (ucells u).toList ∧ u.fits := fun n cs x h => by
  have hl := struct_len undU cUsr h
  obtain ⟨nm, e0, w0⟩ := read_field (i := 0) (ty := 9) (off := 0) undU (by kernel_rfl) cStr (reads_string Try.underlying9) h
  obtain ⟨sa, e1, w1⟩ := read_field (i := 1) (ty := 3) (off := 1) undU (by kernel_rfl) cInt (reads_int Try.underlying3) h
  obtain ⟨ha, e2, w2⟩ := read_field (i := 2) (ty := 38) (off := 2) undU (by kernel_rfl) cU64 (reads_int Try.underlying38) h
  obtain ⟨l, e3, w3⟩ := read_field (i := 3) (ty := 35) (off := 3) undU (by kernel_rfl) cLab reads_lab h
  obtain ⟨b, e4⟩ := read_field (i := 4) (ty := 4) (off := 7) undU (by kernel_rfl) cBool (reads_bool Try.underlying4) h
  obtain ⟨hn, rfl, whn⟩ := nat_u64 w2
  match cs, hl with
  | [v0, v1, v2, v3, v4, v5, v6, v7], _ =>
    simp [lcells] at e0 e1 e2 e3 e4
    obtain ⟨rfl, rfl, rfl, rfl⟩ := e3
    subst e0 e1 e2 e4
    exact ⟨⟨nm, sa, hn, l, b⟩, rfl, w0, int_fits w1, whn, w3⟩
theorem undR : Try.prog.underlying 61 = some (.struct (Try.prog.fieldsOf 61)) := by kernel_rfl
theorem cRul : Try.prog.cellsOf 61 = 9 := by kernel_rfl
def rcells (r : Rul) : List Value := lcells r.src ++ (lcells r.dst ++ [.string r.word])
theorem reads_rul : Reads enc W base sp held 61 fun cs => ∃ r, cs = rcells r ∧ r.word.size ≤ 9223372036854775807 := fun n cs x h => by
  have hl := struct_len undR cRul h
  obtain ⟨l1, e0, _⟩ := read_field (i := 0) (ty := 35) (off := 0) undR (by kernel_rfl) cLab reads_lab h
  obtain ⟨l2, e1, _⟩ := read_field (i := 1) (ty := 35) (off := 4) undR (by kernel_rfl) cLab reads_lab h
  obtain ⟨s, e2, w2⟩ := read_field (i := 2) (ty := 9) (off := 8) undR (by kernel_rfl) cStr (reads_string Try.underlying9) h
  match cs, hl with
  | [v0, v1, v2, v3, v4, v5, v6, v7, v8], _ =>
    simp [lcells] at e0 e1 e2
    obtain ⟨rfl, rfl, rfl, rfl⟩ := e0
    obtain ⟨rfl, rfl, rfl, rfl⟩ := e1
    subst e2
    exact ⟨⟨l1, l2, s⟩, rfl, w2⟩
end
section
variable {H : Type} {enc : TypeId × Value → H} {W : World}
theorem open_labs {n : Nat} {a : Option Addr} {len cap : Nat} {x : DataW H × List MemPlace} (h : DataW.trod enc Try.prog W 0 (fun _ => true) true n 22 [.slice a len cap] = some x) : ∃ l, l.length = len ∧ LabsAt W a l ∧ (∀ g ∈ l, Lab.fits g) := by
  obtain ⟨l, hl, hc, hf, _⟩ := open_rows (f := lcells) (q := Lab.fits) Try.underlying22 cLab reads_lab h
  refine ⟨l, hl, fun j g hg => ?_, hf⟩
  obtain ⟨y, hy, hk⟩ := hc j g hg
  refine ⟨y, hy, ⟨hk 0 (by omega), ?_, ?_, ?_⟩⟩
  · rw [← add_off y (j * 4) 1 (by decide)]; exact hk 1 (by omega)
  · rw [← add_off y (j * 4) 2 (by decide)]; exact hk 2 (by omega)
  · rw [← add_off y (j * 4) 3 (by decide)]; exact hk 3 (by omega)
theorem open_usrs {n : Nat} {a : Option Addr} {len cap : Nat} {x : DataW H × List MemPlace} (h : DataW.trod enc Try.prog W 0 (fun _ => true) true n 23 [.slice a len cap] = some x) : ∃ l, l.length = len ∧ UsrsAt W a l ∧ (∀ g ∈ l, Usr.fits g) := by
  obtain ⟨l, hl, hc, hf, _⟩ := open_rows (f := fun u => (ucells u).toList) (q := Usr.fits) Try.underlying23 cUsr reads_usr h
  refine ⟨l, hl, fun j g hg => ?_, hf⟩
  obtain ⟨y, hy, hk⟩ := hc j g hg
  refine ⟨y, hy, ⟨hk 0 (by omega), ?_, ?_, ?_, ?_, ?_, ?_, ?_⟩⟩
  · rw [← add_off y (j * 8) 1 (by decide)]; exact hk 1 (by omega)
  · rw [← add_off y (j * 8) 2 (by decide)]; exact hk 2 (by omega)
  · rw [← add_off y (j * 8) 3 (by decide)]; exact hk 3 (by omega)
  · rw [← add_off y (j * 8) 4 (by decide)]; exact hk 4 (by omega)
  · rw [← add_off y (j * 8) 5 (by decide)]; exact hk 5 (by omega)
  · rw [← add_off y (j * 8) 6 (by decide)]; exact hk 6 (by omega)
  · rw [← add_off y (j * 8) 7 (by decide)]; exact hk 7 (by omega)
theorem open_ruls {n : Nat} {a : Option Addr} {len cap : Nat} {x : DataW H × List MemPlace} (h : DataW.trod enc Try.prog W 0 (fun _ => true) true n 24 [.slice a len cap] = some x) : ∃ l, l.length = len ∧ RulsAt W a l ∧ (∀ r ∈ l, r.word.size ≤ 9223372036854775807) := by
  obtain ⟨l, hl, hc, hf, _⟩ := open_rows (f := rcells) (q := fun r => r.word.size ≤ 9223372036854775807) Try.underlying24 cRul reads_rul h
  refine ⟨l, hl, fun j g hg => ?_, hf⟩
  obtain ⟨y, hy, hk⟩ := hc j g hg
  refine ⟨y, hy, ⟨hk 0 (by omega), ?_, ?_, ?_, ?_, ?_, ?_, ?_, ?_⟩⟩
  · rw [← add_off y (j * 9) 1 (by decide)]; exact hk 1 (by omega)
  · rw [← add_off y (j * 9) 2 (by decide)]; exact hk 2 (by omega)
  · rw [← add_off y (j * 9) 3 (by decide)]; exact hk 3 (by omega)
  · rw [← add_off y (j * 9) 4 (by decide)]; exact hk 4 (by omega)
  · rw [← add_off y (j * 9) 5 (by decide)]; exact hk 5 (by omega)
  · rw [← add_off y (j * 9) 6 (by decide)]; exact hk 6 (by omega)
  · rw [← add_off y (j * 9) 7 (by decide)]; exact hk 7 (by omega)
  · rw [← add_off y (j * 9) 8 (by decide)]; exact hk 8 (by omega)
end
end Go.Proofs.Ytagpjihhnnmhnaa
