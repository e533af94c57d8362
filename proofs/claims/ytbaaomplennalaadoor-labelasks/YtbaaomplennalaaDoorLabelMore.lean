/-
  MORE PLAIN FACTS ON LABELS.
-/
import Derived.Test.YtbaaomplennalaaDoorLabelThree
namespace Go.Proofs.YtbaaomplennalaaDoor
open Go.RowKit

/-- Less is a strict order of all labels. -/
theorem less_iff (a b : Lab) : lessL a b = true ↔ a.s < b.s ∨ (a.s = b.s ∧ (a.c < b.c ∨ (a.c = b.c ∧ (a.i < b.i ∨ (a.i = b.i ∧ a.k < b.k))))) := by
  unfold lessL
  repeat' split
  all_goals simp_all
  all_goals omega
theorem less_irrefl (a : Lab) : lessL a a = false := by
  rw [← Bool.not_eq_true, less_iff]; omega
theorem less_trans {a b c : Lab} (h : lessL a b = true) (k : lessL b c = true) : lessL a c = true := by
  rw [less_iff] at *; omega
theorem less_total {a b : Lab} (h : a ≠ b) : lessL a b = !lessL b a := by
  have hn : ¬ (a.s = b.s ∧ a.c = b.c ∧ a.i = b.i ∧ a.k = b.k) := fun ⟨h1, h2, h3, h4⟩ => h (by cases a; cases b; simp_all)
  cases h2 : lessL b a
  · have : ¬ lessL b a = true := by rw [h2]; decide
    rw [less_iff] at this
    rw [Bool.not_false, less_iff]; omega
  · rw [less_iff] at h2
    rw [Bool.not_true, ← Bool.not_eq_true, less_iff]; omega
end Go.Proofs.YtbaaomplennalaaDoor
