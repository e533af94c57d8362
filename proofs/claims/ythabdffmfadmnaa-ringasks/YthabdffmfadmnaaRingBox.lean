/-
  PACKAGE ring: a bracket's own block: that it may be stored to, and what a store leaves.
-/
import Derived.Test.YthabdffmfadmnaaRingThree
import Derived.Deep.RegionWith
import Derived.Deep.Cut
import Derived.Deep.CutRange
import Derived.Deep.RegionHeld3
namespace Go.Proofs.Ythabdffmfadmnaa
open Go.RowKit
set_option linter.unusedSimpArgs false

abbrev Free (W : World) (g : Nat) : Prop := W.frozen? ⟨g, 0, none⟩ = false ∧ W.frozen? ⟨g, 1, none⟩ = false ∧ W.frozen? ⟨g, 2, none⟩ = false ∧ W.frozen? ⟨g, 3, none⟩ = false
theorem Free.keep {W W' : World} {g : Nat} (h : Free W g) (hg : g < W.heap.size) (hb : Below W.heap.size W W') : Free W' g :=
  ⟨(hb.frozen (p := ⟨g, 0, none⟩) hg).trans h.1, (hb.frozen (p := ⟨g, 1, none⟩) hg).trans h.2.1, (hb.frozen (p := ⟨g, 2, none⟩) hg).trans h.2.2.1, (hb.frozen (p := ⟨g, 3, none⟩) hg).trans h.2.2.2⟩
theorem free_alloc (w : World) (cs : Array Value) (t : TypeId) : Free (w.alloc (.cells cs t)) w.heap.size :=
  ⟨World.frozen?_alloc_new w cs t 0, World.frozen?_alloc_new w cs t 1, World.frozen?_alloc_new w cs t 2, World.frozen?_alloc_new w cs t 3⟩
def put4 (W : World) (g : Nat) (l : Rg) : World := (((W.setCell ⟨g, 0, none⟩ (.int .i64 l.a)).setCell ⟨g, 1, none⟩ (.int .i64 l.b)).setCell ⟨g, 2, none⟩ (.int .i64 l.c)).setCell ⟨g, 3, none⟩ (.int .i64 l.g)
theorem put4_at {W : World} {g : Nat} {l l' : Rg} (h : Boxed W g l) : Boxed (put4 W g l') g l' := by
  obtain ⟨a, b, c, d⟩ := h
  refine ⟨?_, ?_, ?_, ?_⟩ <;> simp [put4, World.cell?_setCell_other, World.cell?_setCell_same', *]
theorem put4_other {W : World} {g g' : Nat} {l l' : Rg} (h : Boxed W g' l') (hne : g ≠ g') : Boxed (put4 W g l) g' l' := by
  obtain ⟨a, b, c, d⟩ := h
  refine ⟨?_, ?_, ?_, ?_⟩ <;> simp [put4, World.cell?_setCell_far, *]
theorem put4_below {w W : World} {B g : Nat} {l : Rg} (h : Below B w W) (hg : B ≤ g) : Below B w (put4 W g l) :=
  (((h.setCell (p := ⟨g, 0, none⟩) hg _).setCell (p := ⟨g, 1, none⟩) hg _).setCell (p := ⟨g, 2, none⟩) hg _).setCell (p := ⟨g, 3, none⟩) hg _
theorem stored1 {w W : World} {g : Nat} {a A : Rg} (hB : Below g w W) (hS : Boxed W g a) : Below g w (put4 W g A) ∧ Boxed (put4 W g A) g A := ⟨put4_below hB (Nat.le_refl _), put4_at hS⟩

/-- A pointer in a block of its own. -/
abbrev BoxedP (W : World) (g : Nat) (l : Pt) : Prop := W.cell? ⟨g, 0, none⟩ = some (.int .i64 l.s) ∧ W.cell? ⟨g, 1, none⟩ = some (.int .i64 l.o) ∧ W.cell? ⟨g, 2, none⟩ = some (.int .i64 l.r)
theorem BoxedP.keep {W W' : World} {g : Nat} {l : Pt} (h : BoxedP W g l) (hb : Below W.heap.size W W') : BoxedP W' g l := by
  obtain ⟨a, b, c⟩ := h
  have hg := World.block_lt_of_cell? _ _ a
  exact ⟨(hb.cell (p := ⟨g, 0, none⟩) hg).trans a, (hb.cell (p := ⟨g, 1, none⟩) hg).trans b, (hb.cell (p := ⟨g, 2, none⟩) hg).trans c⟩
theorem boxedP_alloc (w : World) (l : Pt) : BoxedP (w.alloc (.cells #[.int .i64 l.s, .int .i64 l.o, .int .i64 l.r] 25)) w.heap.size l := by
  refine ⟨?_, ?_, ?_⟩ <;> simp [World.cell?_alloc_at]
theorem put4_otherP {W : World} {g g' : Nat} {l : Rg} {l' : Pt} (h : BoxedP W g' l') (hne : g ≠ g') : BoxedP (put4 W g l) g' l' := by
  obtain ⟨a, b, c⟩ := h
  refine ⟨?_, ?_, ?_⟩ <;> simp [put4, World.cell?_setCell_far, *]
theorem putP_at {W : World} {g : Nat} {l : Pt} (m : Int) (h : BoxedP W g l) : BoxedP (W.setCell ⟨g, 2, none⟩ (.int .i64 m)) g ⟨l.s, l.o, m⟩ := by
  obtain ⟨a, b, c⟩ := h
  refine ⟨?_, ?_, ?_⟩ <;> simp [World.cell?_setCell_other, World.cell?_setCell_same', *]
theorem putP_other {W : World} {g g' : Nat} {l : Rg} (m : Int) (h : Boxed W g' l) (hne : g ≠ g') : Boxed (W.setCell ⟨g, 2, none⟩ (.int .i64 m)) g' l := by
  obtain ⟨a, b, c, d⟩ := h
  refine ⟨?_, ?_, ?_, ?_⟩ <;> simp [World.cell?_setCell_far, *]
theorem run_eql_pt (x : Pt) (w : World) : (binOp .eql 25 x.v x.v).run Try.prog w = .ok (.bool true) w := by
  go_simp
  repeat' split
  all_goals simp_all
end Go.Proofs.Ythabdffmfadmnaa
