/-
  LABELS IN BLOCKS OF THEIR OWN: three of them, kept, stored into.
-/
import Derived.Test.YtbaaomplennalaaDoorLabelFacts
import Derived.Deep.RegionWith
import Derived.Deep.Cut
import Derived.Deep.RegionHeld3
namespace Go.Proofs.YtbaaomplennalaaDoor
open Go.RowKit

abbrev Three (W : World) (g : Nat) (a b c : Lab) : Prop := Boxed W g a ∧ Boxed W (g + 1) b ∧ Boxed W (g + 1 + 1) c
theorem keep3 {W W' : World} {g : Nat} {a b c : Lab} (hb : Below W.heap.size W W') (h : Three W g a b c) : Three W' g a b c := ⟨h.1.keep hb, h.2.1.keep hb, h.2.2.keep hb⟩

/-- A block of four cells that may be written. -/
abbrev Free (W : World) (g : Nat) : Prop := W.frozen? ⟨g, 0, none⟩ = false ∧ W.frozen? ⟨g, 1, none⟩ = false ∧ W.frozen? ⟨g, 2, none⟩ = false ∧ W.frozen? ⟨g, 3, none⟩ = false
theorem Free.keep {W W' : World} {g : Nat} (h : Free W g) (hg : g < W.heap.size) (hb : Below W.heap.size W W') : Free W' g :=
  ⟨(hb.frozen (p := ⟨g, 0, none⟩) hg).trans h.1, (hb.frozen (p := ⟨g, 1, none⟩) hg).trans h.2.1, (hb.frozen (p := ⟨g, 2, none⟩) hg).trans h.2.2.1, (hb.frozen (p := ⟨g, 3, none⟩) hg).trans h.2.2.2⟩
theorem free_alloc (w : World) (cs : Array Value) (t : TypeId) : Free (w.alloc (.cells cs t)) w.heap.size :=
  ⟨World.frozen?_alloc_new w cs t 0, World.frozen?_alloc_new w cs t 1, World.frozen?_alloc_new w cs t 2, World.frozen?_alloc_new w cs t 3⟩
abbrev Frees (W : World) (g : Nat) : Prop := Free W g ∧ Free W (g + 1) ∧ Free W (g + 1 + 1)
theorem keepF {W W' : World} {g : Nat} {a b c : Lab} (hb : Below W.heap.size W W') (h : Three W g a b c) (k : Frees W g) : Frees W' g :=
  ⟨k.1.keep (World.block_lt_of_cell? _ _ h.1.1) hb, k.2.1.keep (World.block_lt_of_cell? _ _ h.2.1.1) hb, k.2.2.keep (World.block_lt_of_cell? _ _ h.2.2.1) hb⟩

/-- A label is stored into a block. -/
def put4 (W : World) (g : Nat) (l : Lab) : World := (((W.setCell ⟨g, 0, none⟩ (.int .i64 l.s)).setCell ⟨g, 1, none⟩ (.int .i64 l.c)).setCell ⟨g, 2, none⟩ (.int .i64 l.i)).setCell ⟨g, 3, none⟩ (.int .i64 l.k)
theorem put4_at {W : World} {g : Nat} {l l' : Lab} (h : Boxed W g l) : Boxed (put4 W g l') g l' := by
  obtain ⟨a, b, c, d⟩ := h
  refine ⟨?_, ?_, ?_, ?_⟩ <;> simp [put4, World.cell?_setCell_other, World.cell?_setCell_same', *]
theorem put4_other {W : World} {g g' : Nat} {l l' : Lab} (h : Boxed W g' l') (hne : g ≠ g') : Boxed (put4 W g l) g' l' := by
  obtain ⟨a, b, c, d⟩ := h
  refine ⟨?_, ?_, ?_, ?_⟩ <;> simp [put4, World.cell?_setCell_far, *]
theorem put4_below {w W : World} {B g : Nat} {l : Lab} (h : Below B w W) (hg : B ≤ g) : Below B w (put4 W g l) :=
  (((h.setCell (p := ⟨g, 0, none⟩) hg _).setCell (p := ⟨g, 1, none⟩) hg _).setCell (p := ⟨g, 2, none⟩) hg _).setCell (p := ⟨g, 3, none⟩) hg _
theorem stored3 {w W : World} {g : Nat} {a b c A B C : Lab} (hB : Below g w W) (hS : Three W g a b c) : Below g w (put4 (put4 (put4 W g A) (g + 1) B) (g + 1 + 1) C) ∧ Three (put4 (put4 (put4 W g A) (g + 1) B) (g + 1 + 1) C) g A B C := by
  refine ⟨put4_below (put4_below (put4_below hB (Nat.le_refl _)) (by omega)) (by omega), ?_, ?_, ?_⟩
  · exact put4_other (put4_other (put4_at hS.1) (by omega)) (by omega)
  · exact put4_other (put4_at (put4_other hS.2.1 (by omega))) (by omega)
  · exact put4_at (put4_other (put4_other hS.2.2 (by omega)) (by omega))

/-- Three labels are boxed. -/
theorem three_alloc (w : World) (a b c : Lab) : Three (((w.alloc (.cells #[.int .i64 a.s, .int .i64 a.c, .int .i64 a.i, .int .i64 a.k] 23)).alloc (.cells #[.int .i64 b.s, .int .i64 b.c, .int .i64 b.i, .int .i64 b.k] 23)).alloc (.cells #[.int .i64 c.s, .int .i64 c.c, .int .i64 c.i, .int .i64 c.k] 23)) w.heap.size a b c
    ∧ Frees (((w.alloc (.cells #[.int .i64 a.s, .int .i64 a.c, .int .i64 a.i, .int .i64 a.k] 23)).alloc (.cells #[.int .i64 b.s, .int .i64 b.c, .int .i64 b.i, .int .i64 b.k] 23)).alloc (.cells #[.int .i64 c.s, .int .i64 c.c, .int .i64 c.i, .int .i64 c.k] 23)) w.heap.size := by
  constructor
  · have h1 := (boxed_alloc w a).keep (below2 _ (.cells #[.int .i64 b.s, .int .i64 b.c, .int .i64 b.i, .int .i64 b.k] 23) (.cells #[.int .i64 c.s, .int .i64 c.c, .int .i64 c.i, .int .i64 c.k] 23))
    have h2 := (boxed_alloc (w.alloc (.cells #[.int .i64 a.s, .int .i64 a.c, .int .i64 a.i, .int .i64 a.k] 23)) b).keep ((Below.refl _ _).alloc (Nat.le_refl _) (.cells #[.int .i64 c.s, .int .i64 c.c, .int .i64 c.i, .int .i64 c.k] 23))
    have h3 := boxed_alloc ((w.alloc (.cells #[.int .i64 a.s, .int .i64 a.c, .int .i64 a.i, .int .i64 a.k] 23)).alloc (.cells #[.int .i64 b.s, .int .i64 b.c, .int .i64 b.i, .int .i64 b.k] 23)) c
    simp only [World.size_alloc] at h2 h3
    exact ⟨h1, h2, h3⟩
  · have h1 := (free_alloc w #[.int .i64 a.s, .int .i64 a.c, .int .i64 a.i, .int .i64 a.k] 23).keep (by simp) (below2 _ (.cells #[.int .i64 b.s, .int .i64 b.c, .int .i64 b.i, .int .i64 b.k] 23) (.cells #[.int .i64 c.s, .int .i64 c.c, .int .i64 c.i, .int .i64 c.k] 23))
    have h2 := (free_alloc (w.alloc (.cells #[.int .i64 a.s, .int .i64 a.c, .int .i64 a.i, .int .i64 a.k] 23)) #[.int .i64 b.s, .int .i64 b.c, .int .i64 b.i, .int .i64 b.k] 23).keep (by simp) ((Below.refl _ _).alloc (Nat.le_refl _) (.cells #[.int .i64 c.s, .int .i64 c.c, .int .i64 c.i, .int .i64 c.k] 23))
    have h3 := free_alloc ((w.alloc (.cells #[.int .i64 a.s, .int .i64 a.c, .int .i64 a.i, .int .i64 a.k] 23)).alloc (.cells #[.int .i64 b.s, .int .i64 b.c, .int .i64 b.i, .int .i64 b.k] 23)) #[.int .i64 c.s, .int .i64 c.c, .int .i64 c.i, .int .i64 c.k] 23
    simp only [World.size_alloc] at h2 h3
    exact ⟨h1, h2, h3⟩
theorem keepB {w W W' : World} {g : Nat} {a b c : Lab} (hb : Below W.heap.size W W') (h : Below g w W ∧ g ≤ W.heap.size ∧ Three W g a b c) : Below g w W' ∧ g ≤ W'.heap.size ∧ Three W' g a b c :=
  ⟨h.1.trans (hb.mono h.2.1), Nat.le_trans h.2.1 hb.size, keep3 hb h.2.2⟩
theorem ov_any (a b : Lab) (w : World) : Calls Tryd.prog 15 #[a.v, b.v] w fun e w' => e = .returned (.bool (ov a b)) ∧ Below w.heap.size w w' := over_any a b w
theorem good_nl (a : Lab) : ∃ n : NL, n.ok ∧ goodL a = n.lab := let ⟨n, e, h⟩ := (good_GL a).nl; ⟨n, h, e⟩
end Go.Proofs.YtbaaomplennalaaDoor
