/-
  LABELS IN BLOCKS OF THE CALL'S OWN THAT ARE SET ANEW; users that lie elsewhere.
-/
import Derived.Test.YtagpjihhnnmhnaaUserPure
import Derived.Test.YtagpjihhnnmhnaaUserFns
namespace Go.Proofs.Ytagpjihhnnmhnaa
open Go.RowKit
set_option linter.unusedSimpArgs false
set_option linter.unusedVariables false

abbrev Free (W : World) (g : Nat) : Prop := W.frozen? ⟨g, 0, none⟩ = false ∧ W.frozen? ⟨g, 1, none⟩ = false ∧ W.frozen? ⟨g, 2, none⟩ = false ∧ W.frozen? ⟨g, 3, none⟩ = false
theorem Free.keep {W W' : World} {g : Nat} (h : Free W g) (hg : g < W.heap.size) (hb : Below W.heap.size W W') : Free W' g :=
  ⟨(hb.frozen (p := ⟨g, 0, none⟩) hg).trans h.1, (hb.frozen (p := ⟨g, 1, none⟩) hg).trans h.2.1, (hb.frozen (p := ⟨g, 2, none⟩) hg).trans h.2.2.1, (hb.frozen (p := ⟨g, 3, none⟩) hg).trans h.2.2.2⟩
theorem free_alloc (w : World) (cs : Array Value) (t : TypeId) : Free (w.alloc (.cells cs t)) w.heap.size :=
  ⟨World.frozen?_alloc_new w cs t 0, World.frozen?_alloc_new w cs t 1, World.frozen?_alloc_new w cs t 2, World.frozen?_alloc_new w cs t 3⟩
/-- A label is stored into a block. -/
def put4 (W : World) (g : Nat) (l : Lab) : World := (((W.setCell ⟨g, 0, none⟩ (.int .i64 l.s)).setCell ⟨g, 1, none⟩ (.int .i64 l.c)).setCell ⟨g, 2, none⟩ (.int .i64 l.i)).setCell ⟨g, 3, none⟩ (.int .i64 l.k)
theorem put4_at {W : World} {g : Nat} {l l' : Lab} (h : Boxed W g l) : Boxed (put4 W g l') g l' := by
  obtain ⟨a, b, c, d⟩ := h
  refine ⟨?_, ?_, ?_, ?_⟩ <;> simp [put4, World.cell?_setCell_other, World.cell?_setCell_same', *]
theorem put4_other {W : World} {g g' : Nat} {l l' : Lab} (h : Boxed W g' l') (hne : g ≠ g') : Boxed (put4 W g l) g' l' := by
  obtain ⟨a, b, c, d⟩ := h
  refine ⟨?_, ?_, ?_, ?_⟩ <;> simp [put4, World.cell?_setCell_far, *]
theorem put4_below {w W : World} {B g : Nat} {l : Lab} (h : Below B w W) (hg : B ≤ g) : Below B w (put4 W g l) :=
  (((h.setCell (p := ⟨g, 0, none⟩) hg _).setCell (p := ⟨g, 1, none⟩) hg _).setCell (p := ⟨g, 2, none⟩) hg _).setCell (p := ⟨g, 3, none⟩) hg _
theorem put4_heap (W : World) (g : Nat) (l : Lab) (k : Nat) (h : k ≠ g) : (put4 W g l).heap[k]? = W.heap[k]? := by
  unfold put4
  rw [heap_setCell_other _ ⟨g, 3, none⟩ k _ h, heap_setCell_other _ ⟨g, 2, none⟩ k _ h, heap_setCell_other _ ⟨g, 1, none⟩ k _ h, heap_setCell_other _ ⟨g, 0, none⟩ k _ h]
theorem put4_free {W : World} {g g' : Nat} {l : Lab} (h : Free W g') (hne : g' ≠ g) : Free (put4 W g l) g' :=
  ⟨(World.frozen?_of_block (a := ⟨g', 0, none⟩) (put4_heap W g l g' hne)).trans h.1, (World.frozen?_of_block (a := ⟨g', 1, none⟩) (put4_heap W g l g' hne)).trans h.2.1, (World.frozen?_of_block (a := ⟨g', 2, none⟩) (put4_heap W g l g' hne)).trans h.2.2.1, (World.frozen?_of_block (a := ⟨g', 3, none⟩) (put4_heap W g l g' hne)).trans h.2.2.2⟩
theorem OwnU.put4 {W : World} {base : Nat} {v : Value} {us : List Usr} {g : Nat} {l : Lab} (h : OwnU W base v us) (hg : g < base) : OwnU (put4 W g l) base v us := by
  refine ⟨h.1, ?_⟩
  rcases h.2 with h1 | ⟨g', cap, cur, hv, hb, hg', rest⟩
  · exact .inl h1
  · exact .inr ⟨g', cap, cur, hv, hb, (put4_heap W g l g' (by omega)).trans hg', rest⟩
/-- Two labels in the first two blocks of a call. -/
structure TwoB (w W : World) (A B : Lab) : Prop where
  below : Below w.heap.size w W
  a : Boxed W w.heap.size A
  fa : Free W w.heap.size
  b : Boxed W (w.heap.size + 1) B
  fb : Free W (w.heap.size + 1)
theorem TwoB.keep {w W W' : World} {A B : Lab} (h : TwoB w W A B) (b : Below W.heap.size W W') : TwoB w W' A B :=
  ⟨Below.then h.below b, h.a.keep b, h.fa.keep (World.block_lt_of_cell? _ _ h.a.1) b, h.b.keep b, h.fb.keep (World.block_lt_of_cell? _ _ h.b.1) b⟩
theorem two_alloc (w : World) (A B : Lab) : TwoB w ((w.alloc (.cells #[.int .i64 A.s, .int .i64 A.c, .int .i64 A.i, .int .i64 A.k] 35)).alloc (.cells #[.int .i64 B.s, .int .i64 B.c, .int .i64 B.i, .int .i64 B.k] 35)) A B := by
  have h1 := (boxed_alloc w A).keep (alloc_below _ (.cells #[.int .i64 B.s, .int .i64 B.c, .int .i64 B.i, .int .i64 B.k] 35))
  have h2 := boxed_alloc (w.alloc (.cells #[.int .i64 A.s, .int .i64 A.c, .int .i64 A.i, .int .i64 A.k] 35)) B
  have h3 := (free_alloc w #[.int .i64 A.s, .int .i64 A.c, .int .i64 A.i, .int .i64 A.k] 35).keep (by simp) (alloc_below _ (.cells #[.int .i64 B.s, .int .i64 B.c, .int .i64 B.i, .int .i64 B.k] 35))
  have h4 := free_alloc (w.alloc (.cells #[.int .i64 A.s, .int .i64 A.c, .int .i64 A.i, .int .i64 A.k] 35)) #[.int .i64 B.s, .int .i64 B.c, .int .i64 B.i, .int .i64 B.k] 35
  simp only [World.size_alloc] at h2 h4
  exact ⟨below2 _ _ _, h1, h3, h2, h4⟩
theorem TwoB.putA {w W : World} {A B : Lab} (h : TwoB w W A B) (A' : Lab) : Below w.heap.size w (put4 W w.heap.size A') ∧ Boxed (put4 W w.heap.size A') w.heap.size A' ∧ Boxed (put4 W w.heap.size A') (w.heap.size + 1) B ∧ Free (put4 W w.heap.size A') (w.heap.size + 1) :=
  ⟨put4_below h.below (Nat.le_refl _), put4_at h.a, put4_other h.b (by omega), put4_free h.fb (by omega)⟩
end Go.Proofs.Ytagpjihhnnmhnaa
