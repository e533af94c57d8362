/-
  STRUCTS THAT CAME IN, WHATEVER THEIR NUMBER OF CELLS; labels. For every stage from the tenth on.
-/
import Derived.Test.YtjpabjmicaopcaaOpens
import Derived.Test.YtjpabjmicaopcaaLabs
namespace Go.Proofs.Ytjpabjmicaopcaa
open Go.ChangeShapes Go.WideShapes Go.ChangeAt Go.RowKit
set_option maxRecDepth 8000
set_option linter.unusedVariables false
set_option linter.unusedSimpArgs false

def lcells (l : Lab) : List Value := [.int .i64 l.s, .int .i64 l.c, .int .i64 l.i, .int .i64 l.k]
def fitsI (n : Int) : Prop := -9223372036854775808 ≤ n ∧ n ≤ 9223372036854775807
def Lab.fits (l : Lab) : Prop := fitsI l.s ∧ fitsI l.c ∧ fitsI l.i ∧ fitsI l.k
theorem cInt : Try.prog.cellsOf 3 = 1 := by kernel_rfl
theorem cStr : Try.prog.cellsOf 9 = 1 := by kernel_rfl
theorem cBool : Try.prog.cellsOf 4 = 1 := by kernel_rfl
theorem cLab : Try.prog.cellsOf 24 = 4 := by kernel_rfl
/-- A struct as a parameter: its cells, and how they read. -/
theorem open_struct {H : Type} {enc : TypeId × Value → H} {W : World} {r : Reach} {b0 base : Nat} {sp : Nat → Bool} {held : Bool} {t : TypeId} {fs : Array Field} {v : Value} {d : DataW H} {p : List MemPlace} {q : List Value → Prop} (hs : Try.prog.underlying t = some (.struct fs)) (hq : Reads enc W base sp held t q)
    (hv : Value.okWide Try.prog W r b0 t v) (h : DataW.Trod enc Try.prog W base sp held t v d p) : ∃ cs : List Value, v = .agg cs.toArray ∧ q cs := by
  obtain ⟨cs, rfl, hsz⟩ := okWide_struct hs hv
  obtain ⟨fuel, hf⟩ := h
  exact ⟨cs.toList, by simp, hq fuel cs.toList (d, p) hf⟩
section
variable {H : Type} {enc : TypeId × Value → H} {W : World} {base : Nat} {sp : Nat → Bool} {held : Bool}
theorem reads_lab : Reads enc W base sp held 24 fun cs => ∃ l, cs = lcells l ∧ l.fits := fun n cs x h => by
  have hl := struct_len und cLab h
  obtain ⟨s, e0, w0⟩ := read_field (i := 0) (ty := 3) (off := 0) und (by kernel_rfl) cInt (reads_int Try.underlying3) h
  obtain ⟨c, e1, w1⟩ := read_field (i := 1) (ty := 3) (off := 1) und (by kernel_rfl) cInt (reads_int Try.underlying3) h
  obtain ⟨i, e2, w2⟩ := read_field (i := 2) (ty := 3) (off := 2) und (by kernel_rfl) cInt (reads_int Try.underlying3) h
  obtain ⟨k, e3, w3⟩ := read_field (i := 3) (ty := 3) (off := 3) und (by kernel_rfl) cInt (reads_int Try.underlying3) h
  match cs, hl with
  | [v0, v1, v2, v3], _ =>
    simp at e0 e1 e2 e3
    subst e0 e1 e2 e3
    exact ⟨⟨s, c, i, k⟩, rfl, int_fits w0, int_fits w1, int_fits w2, int_fits w3⟩
end
/-- A row within a struct. -/
theorem reads_rows {α : Type} {H : Type} {enc : TypeId × Value → H} {W : World} {t e : TypeId} {sz : Nat} {f : α → List Value} {q : α → Prop} (ht : Try.prog.underlying t = some (.slice e)) (hc : Try.prog.cellsOf e = sz) (hp : Reads enc W 0 (fun _ => true) true e fun cs => ∃ g, cs = f g ∧ q g) (hone : Try.prog.cellsOf t = 1) :
    Reads enc W 0 (fun _ => true) true t fun cs => ∃ (l : List α) (a : Option Addr) (cap : Nat), cs = [.slice a l.length cap] ∧ (∀ j g, l[j]? = some g → ∃ y, a = some y ∧ (∀ i, i < sz → W.cell? (y.add (j * sz + i)) = (f g)[i]?)) ∧ (∀ g ∈ l, q g) ∧ (a = none → cap = 0) ∧ l.length ≤ cap := fun n cs x h => by
  have h' := h
  rcases Go.Deep.open_slice ht h with ⟨hcs, _⟩ | ⟨ad, l, c', m, n', Dd, Pl, hcs, _⟩
  · subst hcs
    obtain ⟨L, hL, h1, h2, h3, h4, _⟩ := open_rows (f := f) (q := q) ht hc hp h'
    exact ⟨L, _, _, by rw [hL], h1, h2, h3, by omega⟩
  · subst hcs
    obtain ⟨L, hL, h1, h2, h3, h4, _⟩ := open_rows (f := f) (q := q) ht hc hp h'
    exact ⟨L, _, _, by rw [hL], h1, h2, h3, by omega⟩
end Go.Proofs.Ytjpabjmicaopcaa
