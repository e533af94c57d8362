/-
  BRACKETS AND POINTERS THAT COME IN, READ AND READ AGAIN.
-/
import Derived.Test.YthabdffmfadmnaaRows
import Derived.Test.YthabdffmfadmnaaRingThree
import Derived.ProofKit
import Derived.OpenShut
import Derived.Lib.SmallJoins
namespace Go.Proofs.Ythabdffmfadmnaa
open Go.ChangeShapes Go.WideShapes Go.ChangeAt Go.RowKit Go.Joins
set_option linter.unusedVariables false
set_option linter.unusedSimpArgs false

theorem own : ownKnob Try.prog.godebug = none := by kernel_rfl
theorem int_und : Try.prog.underlying 3 = some (.int .i64) := by kernel_rfl
theorem rg_cells : Try.prog.cellsOf 23 = 4 := by kernel_rfl
/-- A bracket's reading. -/
def rgD {H : Type} (l : Rg) : DataW H := .agg [.lit (.int .i64 l.a), .lit (.int .i64 l.b), .lit (.int .i64 l.c), .lit (.int .i64 l.g)]
theorem rg_fields : ∃ f0 f1 f2 f3 : Field, Try.prog.underlying 23 = some (.struct #[f0, f1, f2, f3]) ∧ Go.Deep.oneCellFields Try.prog #[f0, f1, f2, f3] = true ∧ f0.type = 3 ∧ f1.type = 3 ∧ f2.type = 3 ∧ f3.type = 3 := by
  have h : ((Try.prog.fieldsOf 23).map (·.type)) = #[3, 3, 3, 3] := by kernel_rfl
  have ho : Go.Deep.oneCellFields Try.prog (Try.prog.fieldsOf 23) = true := by kernel_rfl
  have hu := und
  generalize Try.prog.fieldsOf 23 = fs at h ho hu
  obtain ⟨l⟩ := fs
  simp only [List.map_toArray, Array.mk.injEq] at h
  match l, h with
  | [f0, f1, f2, f3], h =>
    simp only [List.map_cons, List.map_nil, List.cons.injEq, and_true] at h
    exact ⟨f0, f1, f2, f3, hu, ho, h.1, h.2.1, h.2.2.1, h.2.2.2⟩
theorem open_rg {H : Type} {enc : TypeId × Value → H} {W : World} {r : Reach} {b0 base : Nat} {sp : Nat → Bool} {held : Bool} {v : Value} {d : DataW H} {p : List MemPlace}
    (hv : Value.okWide Try.prog W r b0 23 v) (h : DataW.Trod enc Try.prog W base sp held 23 v d p) :
    ∃ l : Rg, v = l.v ∧ d = rgD l ∧ p = [] ∧ ∀ (W' : World) (base' : Nat) (sp' : Nat → Bool) (held' : Bool), DataW.Trod enc Try.prog W' base' sp' held' 23 l.v (rgD l) [] := by
  obtain ⟨f0, f1, f2, f3, hu, ho, t0, t1, t2, t3⟩ := rg_fields
  obtain ⟨c0, c1, c2, c3, y0, y1, y2, y3, m, rfl, rfl, rfl, k0, k1, k2, k3⟩ := open_agg4 hu ho rg_cells hv h
  rw [t0] at k0
  rw [t1] at k1
  rw [t2] at k2
  rw [t3] at k3
  obtain ⟨a0, e0, rfl, w0⟩ := DataW.trod_int int_und k0
  obtain ⟨a1, e1, rfl, w1⟩ := DataW.trod_int int_und k1
  obtain ⟨a2, e2, rfl, w2⟩ := DataW.trod_int int_und k2
  obtain ⟨a3, e3, rfl, w3⟩ := DataW.trod_int int_und k3
  simp at e0 e1 e2 e3
  subst e0 e1 e2 e3
  refine ⟨⟨a0, a1, a2, a3⟩, rfl, rfl, rfl, fun W' base' sp' held' => ?_⟩
  exact shut_agg4 (y0 := (.lit (.int .i64 a0), [])) (y1 := (.lit (.int .i64 a1), [])) (y2 := (.lit (.int .i64 a2), [])) (y3 := (.lit (.int .i64 a3), [])) hu ho rg_cells
      ⟨1, by rw [t0]; simp [DataW.trod, int_und, w0]⟩ ⟨1, by rw [t1]; simp [DataW.trod, int_und, w1]⟩ ⟨1, by rw [t2]; simp [DataW.trod, int_und, w2]⟩ ⟨1, by rw [t3]; simp [DataW.trod, int_und, w3]⟩
theorem undP : Try.prog.underlying 25 = some (.struct (Try.prog.fieldsOf 25)) := by kernel_rfl
theorem pt_cells : Try.prog.cellsOf 25 = 3 := by kernel_rfl
/-- A pointer's reading. -/
def ptD {H : Type} (l : Pt) : DataW H := .agg [.lit (.int .i64 l.s), .lit (.int .i64 l.o), .lit (.int .i64 l.r)]
theorem pt_fields : ∃ f0 f1 f2 : Field, Try.prog.underlying 25 = some (.struct #[f0, f1, f2]) ∧ Go.Deep.oneCellFields Try.prog #[f0, f1, f2] = true ∧ f0.type = 3 ∧ f1.type = 3 ∧ f2.type = 3 := by
  have h : ((Try.prog.fieldsOf 25).map (·.type)) = #[3, 3, 3] := by kernel_rfl
  have ho : Go.Deep.oneCellFields Try.prog (Try.prog.fieldsOf 25) = true := by kernel_rfl
  have hu := undP
  generalize Try.prog.fieldsOf 25 = fs at h ho hu
  obtain ⟨l⟩ := fs
  simp only [List.map_toArray, Array.mk.injEq] at h
  match l, h with
  | [f0, f1, f2], h =>
    simp only [List.map_cons, List.map_nil, List.cons.injEq, and_true] at h
    exact ⟨f0, f1, f2, hu, ho, h.1, h.2.1, h.2.2⟩
theorem open_pt {H : Type} {enc : TypeId × Value → H} {W : World} {r : Reach} {b0 base : Nat} {sp : Nat → Bool} {held : Bool} {v : Value} {d : DataW H} {p : List MemPlace}
    (hv : Value.okWide Try.prog W r b0 25 v) (h : DataW.Trod enc Try.prog W base sp held 25 v d p) :
    ∃ l : Pt, v = l.v ∧ d = ptD l ∧ p = [] ∧ ∀ (W' : World) (base' : Nat) (sp' : Nat → Bool) (held' : Bool), DataW.Trod enc Try.prog W' base' sp' held' 25 l.v (ptD l) [] := by
  obtain ⟨f0, f1, f2, hu, ho, t0, t1, t2⟩ := pt_fields
  obtain ⟨c0, c1, c2, y0, y1, y2, m, rfl, rfl, rfl, k0, k1, k2⟩ := open_agg3 hu ho pt_cells hv h
  rw [t0] at k0
  rw [t1] at k1
  rw [t2] at k2
  obtain ⟨a0, e0, rfl, w0⟩ := DataW.trod_int int_und k0
  obtain ⟨a1, e1, rfl, w1⟩ := DataW.trod_int int_und k1
  obtain ⟨a2, e2, rfl, w2⟩ := DataW.trod_int int_und k2
  simp at e0 e1 e2
  subst e0 e1 e2
  refine ⟨⟨a0, a1, a2⟩, rfl, rfl, rfl, fun W' base' sp' held' => ?_⟩
  exact shut_agg3 (y0 := (.lit (.int .i64 a0), [])) (y1 := (.lit (.int .i64 a1), [])) (y2 := (.lit (.int .i64 a2), [])) hu ho pt_cells
      ⟨1, by rw [t0]; simp [DataW.trod, int_und, w0]⟩ ⟨1, by rw [t1]; simp [DataW.trod, int_und, w1]⟩ ⟨1, by rw [t2]; simp [DataW.trod, int_und, w2]⟩
end Go.Proofs.Ythabdffmfadmnaa
