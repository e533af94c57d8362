/-
  THE TABLE OF POWERS OF TEN, AS THE LISTED VARIABLES GIVE IT; a label that comes in, read and read again.
-/
import Derived.Test.YtbaaomplennalaaDoorRows
import Derived.Test.YtbaaomplennalaaDoorLabelText
import Derived.ProofKit
import Derived.LaidMore
import Derived.OpenShut
import Derived.Stop.Joined
import Derived.Stop.LaidErr
import Derived.Lib.SmallJoins
namespace Go.Proofs.YtbaaomplennalaaDoor
open Go.ChangeShapes Go.WideShapes Go.ChangeAt Go.RowKit Go.Joins
set_option linter.unusedVariables false
set_option linter.unusedSimpArgs false

theorem own : ownKnob Tryd.prog.godebug = none := by kernel_rfl
abbrev laid3 : List (String × DataW Unit) := [("math/bits.deBruijn32tab", Rows.laid_math_bits_deBruijn32tab), ("math/bits.deBruijn64tab", Rows.laid_math_bits_deBruijn64tab), ("internal/strconv.uint64pow10", Rows.laid_internal_strconv_uint64pow10)]
theorem tab_datum : (Rows.laid_internal_strconv_uint64pow10 : DataW Unit) = Lib.tabData .u64 Lib.pow10Tab := by kernel_rfl
theorem tabN : Tryd.prog.globalNamed "internal/strconv.uint64pow10" = some 3 := by kernel_rfl
theorem tabT : (Tryd.prog.globals[3]?).map (·.type) = some 87 := by kernel_rfl
theorem tabU : Tryd.prog.underlying 87 = some (.array 20 66) := by kernel_rfl
theorem tabE : Tryd.prog.underlying 66 = some (.int .u64) := by kernel_rfl
theorem tabC : Tryd.prog.cellsOf 66 = 1 := by kernel_rfl
theorem tabS : Tryd.prog.cellsOf 87 = 20 := by kernel_rfl
theorem tab_head {rest : List (String × DataW Unit)} {W : World} (h : laidMet Tryd.prog (("internal/strconv.uint64pow10", Rows.laid_internal_strconv_uint64pow10) :: rest) W) : Tab W := by
  rw [tab_datum] at h
  exact Lib.tabIs_of_head tabN tabT tabU tabE tabC tabS h
theorem tab_laid {W : World} (h : laidMetH Tryd.prog laid3 W) : Tab W := by
  rw [MakeChecks.laidMetH_plain _ _ _ (by kernel_rfl)] at h
  exact tab_head h.tail.tail
/-- The door's own heap meets the condition. -/
theorem door_met (os : Os) (args : Array Value) : laidMetH Tryd.prog laid3 ((World.doorLaid Tryd.prog 72 os).forCall (fun _ _ => 0) ⟨#[], args, []⟩).memory :=
  laidMetH_of_parts3 (fuel := 8) (laidMet_of_run' 8 (by kernel_rfl) (by kernel_rfl)) (by kernel_rfl) (by kernel_rfl)

theorem int_und : Tryd.prog.underlying 3 = some (.int .i64) := by kernel_rfl
theorem lab_cells : Tryd.prog.cellsOf 23 = 4 := by kernel_rfl
/-- A label's reading. -/
def labD {H : Type} (l : Lab) : DataW H := .agg [.lit (.int .i64 l.s), .lit (.int .i64 l.c), .lit (.int .i64 l.i), .lit (.int .i64 l.k)]
theorem lab_fields : ∃ f0 f1 f2 f3 : Field, Tryd.prog.underlying 23 = some (.struct #[f0, f1, f2, f3]) ∧ Go.Deep.oneCellFields Tryd.prog #[f0, f1, f2, f3] = true ∧ f0.type = 3 ∧ f1.type = 3 ∧ f2.type = 3 ∧ f3.type = 3 := by
  have h : ((Tryd.prog.fieldsOf 23).map (·.type)) = #[3, 3, 3, 3] := by kernel_rfl
  have ho : Go.Deep.oneCellFields Tryd.prog (Tryd.prog.fieldsOf 23) = true := by kernel_rfl
  have hu := und
  generalize Tryd.prog.fieldsOf 23 = fs at h ho hu
  obtain ⟨l⟩ := fs
  simp only [List.map_toArray, Array.mk.injEq] at h
  match l, h with
  | [f0, f1, f2, f3], h =>
    simp only [List.map_cons, List.map_nil, List.cons.injEq, and_true] at h
    exact ⟨f0, f1, f2, f3, hu, ho, h.1, h.2.1, h.2.2.1, h.2.2.2⟩
theorem open_lab {H : Type} {enc : TypeId × Value → H} {W : World} {r : Reach} {b0 base : Nat} {sp : Nat → Bool} {held : Bool} {v : Value} {d : DataW H} {p : List MemPlace}
    (hv : Value.okWide Tryd.prog W r b0 23 v) (h : DataW.Trod enc Tryd.prog W base sp held 23 v d p) :
    ∃ l : Lab, v = l.v ∧ d = labD l ∧ p = [] ∧ l.fits ∧ ∀ (W' : World) (base' : Nat) (sp' : Nat → Bool) (held' : Bool), DataW.Trod enc Tryd.prog W' base' sp' held' 23 l.v (labD l) [] := by
  obtain ⟨f0, f1, f2, f3, hu, ho, t0, t1, t2, t3⟩ := lab_fields
  obtain ⟨c0, c1, c2, c3, y0, y1, y2, y3, m, rfl, rfl, rfl, k0, k1, k2, k3⟩ := open_agg4 hu ho lab_cells hv h
  rw [t0] at k0
  rw [t1] at k1
  rw [t2] at k2
  rw [t3] at k3
  obtain ⟨a0, e0, rfl, w0⟩ := DataW.trod_int int_und k0
  obtain ⟨a1, e1, rfl, w1⟩ := DataW.trod_int int_und k1
  obtain ⟨a2, e2, rfl, w2⟩ := DataW.trod_int int_und k2
  obtain ⟨a3, e3, rfl, w3⟩ := DataW.trod_int int_und k3
  simp at e0 e1 e2 e3
  subst e0 e1 e2 e3
  refine ⟨⟨a0, a1, a2, a3⟩, rfl, rfl, rfl, ?_, fun W' base' sp' held' => ?_⟩
  · have q : ∀ n, (Lit.int .i64 n).wf = true → Fits n := fun n h => by
      unfold Fits
      simpa [Lit.wf, IntKind.min, IntKind.max, IntKind.bits, IntKind.signed] using h
    exact ⟨q _ w0, q _ w1, q _ w2, q _ w3⟩
  · exact shut_agg4 (y0 := (.lit (.int .i64 a0), [])) (y1 := (.lit (.int .i64 a1), [])) (y2 := (.lit (.int .i64 a2), [])) (y3 := (.lit (.int .i64 a3), [])) hu ho lab_cells
      ⟨1, by rw [t0]; simp [DataW.trod, int_und, w0]⟩ ⟨1, by rw [t1]; simp [DataW.trod, int_und, w1]⟩ ⟨1, by rw [t2]; simp [DataW.trod, int_und, w2]⟩ ⟨1, by rw [t3]; simp [DataW.trod, int_und, w3]⟩
end Go.Proofs.YtbaaomplennalaaDoor
