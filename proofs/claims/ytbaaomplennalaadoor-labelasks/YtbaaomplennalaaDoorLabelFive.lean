/-
  FIVE LABELS IN BLOCKS: three, and two more that are made on the way.
-/
import Derived.Test.YtbaaomplennalaaDoorLabelMore
namespace Go.Proofs.YtbaaomplennalaaDoor
open Go.RowKit

/-- A label's block that is made on the way, and is still empty. -/
abbrev ZB (W : World) (g n : Nat) : Prop := g + 1 + 1 < n ∧ Boxed W n ⟨0, 0, 0, 0⟩ ∧ Free W n
abbrev St3 (w : World) (g : Nat) (A B C : Lab) (W : World) : Prop := Below g w W ∧ g ≤ W.heap.size ∧ Three W g A B C
theorem ZB.keep {W W' : World} {g n : Nat} (h : ZB W g n) (hb : Below W.heap.size W W') : ZB W' g n := ⟨h.1, h.2.1.keep hb, h.2.2.keep (World.block_lt_of_cell? _ _ h.2.1.1) hb⟩
theorem zb_alloc {w W : World} {g : Nat} {A B C : Lab} (h : St3 w g A B C W) : ZB (W.alloc (.cells #[.int .i64 0, .int .i64 0, .int .i64 0, .int .i64 0] 23)) g W.heap.size :=
  ⟨World.block_lt_of_cell? _ _ h.2.2.2.2.1, boxed_alloc W ⟨0, 0, 0, 0⟩, free_alloc W _ _⟩
theorem alloc_below (W : World) (o : Obj) : Below W.heap.size W (W.alloc o) := (Below.refl _ _).alloc (Nat.le_refl _) o
theorem St3.put {w W : World} {g n : Nat} {A B C l : Lab} (h : St3 w g A B C W) (z : ZB W g n) : St3 w g A B C (put4 W n l) := by
  have hn := z.1
  refine ⟨put4_below h.1 (by omega), by simpa [put4] using h.2.1, put4_other h.2.2.1 (by omega), put4_other h.2.2.2.1 (by omega), put4_other h.2.2.2.2 (by omega)⟩
theorem ZB.put {W : World} {g n m : Nat} {l : Lab} (z : ZB W g n) (hne : m ≠ n) : ZB (put4 W m l) g n := by
  refine ⟨z.1, put4_other z.2.1 hne, ?_⟩
  obtain ⟨a, b, c, d⟩ := z.2.2
  refine ⟨?_, ?_, ?_, ?_⟩ <;> simp [put4, *]
theorem ne_alloc {W : World} {g n : Nat} (z : ZB W g n) : n ≠ W.heap.size := by have := World.block_lt_of_cell? _ _ z.2.1.1; show n ≠ _; simp at this; omega
theorem keep5 {w W W' : World} {g p q : Nat} {A B C J M : Lab} (hb : Below W.heap.size W W') (h : St3 w g A B C W ∧ Boxed W p J ∧ Boxed W q M) : St3 w g A B C W' ∧ Boxed W' p J ∧ Boxed W' q M :=
  ⟨keepB hb h.1, h.2.1.keep hb, h.2.2.keep hb⟩
theorem drew5 {w W : World} {g p q : Nat} {A B C J M : Lab} (h : St3 w g A B C W ∧ Boxed W p J ∧ Boxed W q M) : St3 w g A B C W.drew ∧ Boxed W.drew p J ∧ Boxed W.drew q M :=
  keep5 (Below.refl _ _).drew h
theorem GL_chk {l : Lab} (h : GL l) : chkL l = 0 := by
  obtain ⟨a, b, c, d, e, f, g, i⟩ := h
  have : okL l = true := by simp only [okL, inB, Bool.and_eq_true, decide_eq_true_eq]; exact ⟨⟨⟨⟨a, b⟩, c, d⟩, e, f⟩, g, i⟩
  unfold chkL; rw [if_pos this]
theorem join_over (a b : NL) : (a.join b).over a := by unfold NL.over; rw [join_comm a b, join_assoc, join_self]
theorem over_join {a b c : NL} (h : c.over a) (k : c.over b) : c.over (a.join b) := by
  unfold NL.over at *; rw [← join_assoc, h, k]
theorem over_meet_l (a b : NL) : a.over (a.meet b) := join_meet a b
theorem meet_over {a b c : NL} (h : a.over c) (k : b.over c) : (a.meet b).over c := by
  rw [over_meet] at *; rw [meet_assoc, k, h]
end Go.Proofs.YtbaaomplennalaaDoor
