/-
  THE DOCUMENT's OWN LABELS (donjonref4): Check, Over, Join, Meet, Less, decimal, Text: what each call returns.
-/
import Derived.Test.YtbaaomplennalaaDoorLabelTextsBase
namespace Go.Proofs.YtbaaomplennalaaDoor
open Go.RowKit
set_option linter.unusedSimpArgs false

set_option maxHeartbeats 400000 in
theorem rjoin_any (a b : Lab) (w : World) :
    Calls Tryd.prog 18 #[a.v, b.v] w fun e w' => e = .returned (joinL a b).v ∧ Below w.heap.size w w' := by
  go_enter Tryd.func18, Tryd.ntmps18
  go_wp2
  all_goals (refine bodyPost_ret (v := (joinL a b).v) (by simp [results, Tryd.results18, go_sem, joinL, gmax, gmin, *] <;> omega) rfl ⟨rfl, below3 _ _ _ _⟩)
set_option maxHeartbeats 400000 in
theorem rmeet_any (a b : Lab) (w : World) :
    Calls Tryd.prog 20 #[a.v, b.v] w fun e w' => e = .returned (meetL a b).v ∧ Below w.heap.size w w' := by
  go_enter Tryd.func20, Tryd.ntmps20
  go_wp2
  all_goals (refine bodyPost_ret (v := (meetL a b).v) (by simp [results, Tryd.results20, go_sem, meetL, gmax, gmin, *] <;> omega) rfl ⟨rfl, below3 _ _ _ _⟩)
set_option maxHeartbeats 400000 in
theorem rless_any (a b : Lab) (w : World) :
    Calls Tryd.prog 24 #[a.v, b.v] w fun e w' => e = .returned (.bool (lessL a b)) ∧ Below w.heap.size w w' := by
  go_enter Tryd.func24, Tryd.ntmps24
  go_wp2
  all_goals (refine bodyPost_ret (v := .bool (lessL a b)) (by simp only [lessL]; simp [results, Tryd.results24, go_sem, *]) rfl ⟨rfl, below2 _ _ _⟩)

/-- The document's Over of four numbers. -/
def rov (a b : Lab) : Bool := decide (a.s ≥ b.s) && (bits .and .i64 a.c b.c == b.c) && decide (a.i ≤ b.i) && (bits .and .i64 a.k b.k == a.k)
set_option maxHeartbeats 1000000 in
theorem rover_any (a b : Lab) (w : World) :
    Calls Tryd.prog 16 #[a.v, b.v] w fun e w' => e = .returned (.bool (rov a b)) ∧ Below w.heap.size w w' := by
  cases h0 : decide (a.s ≥ b.s)
  · have e : rov a b = false := by simp only [rov, h0]; simp
    rw [e]
    go_enter Tryd.func16, Tryd.ntmps16
    go_wp2
    go_ret
    exact ⟨rfl, below2 _ _ _⟩
  cases h1 : (bits .and .i64 a.c b.c == b.c)
  · have e : rov a b = false := by simp only [rov, h0, h1]; simp
    rw [e]
    go_enter Tryd.func16, Tryd.ntmps16
    go_wp2
    go_ret
    exact ⟨rfl, below2 _ _ _⟩
  cases h2 : decide (a.i ≤ b.i)
  · have e : rov a b = false := by simp only [rov, h0, h1, h2]; simp
    rw [e]
    go_enter Tryd.func16, Tryd.ntmps16
    go_wp2
    go_ret
    exact ⟨rfl, below2 _ _ _⟩
  have e : rov a b = (bits .and .i64 a.k b.k == a.k) := by simp only [rov, h0, h1, h2]; simp
  rw [e]
  go_enter Tryd.func16, Tryd.ntmps16
  go_wp2
  go_ret
  exact ⟨rfl, below2 _ _ _⟩

def b8 (l : Lab) : List Bool := [decide (l.s < 0), decide (l.s > 3), decide (l.i < 0), decide (l.i > 3), decide (l.c < 0), decide (l.c > 255), decide (l.k < 0), decide (l.k > 255)]
theorem chk_b8 (l : Lab) : chkL l = if (b8 l).any id = true then 1 else 0 := by
  unfold chkL okL inB b8
  simp only [List.any_cons, List.any_nil, id, Bool.or_eq_true, Bool.or_false, decide_eq_true_eq, Bool.and_eq_true]
  split <;> split <;> omega
set_option maxHeartbeats 4000000 in
theorem rcheck_any (l : Lab) (w : World) :
    Calls Tryd.prog 13 #[l.v] w fun e w' => e = .returned (.int .i64 (chkL l)) ∧ Below w.heap.size w w' := by
  rw [chk_b8]
  unfold b8
  cases h0 : decide (l.s < 0)
  case true =>
    simp only [h0, List.any_cons, List.any_nil, id, Bool.or_true, Bool.true_or, Bool.or_false, Bool.false_or, if_true]
    go_enter Tryd.func13, Tryd.ntmps13
    go_wp2
    go_ret
    exact ⟨rfl, alloc_below _ _⟩
  cases h1 : decide (l.s > 3)
  case true =>
    simp only [h0, h1, List.any_cons, List.any_nil, id, Bool.or_true, Bool.true_or, Bool.or_false, Bool.false_or, if_true]
    go_enter Tryd.func13, Tryd.ntmps13
    go_wp2
    go_ret
    exact ⟨rfl, alloc_below _ _⟩
  cases h2 : decide (l.i < 0)
  case true =>
    simp only [h0, h1, h2, List.any_cons, List.any_nil, id, Bool.or_true, Bool.true_or, Bool.or_false, Bool.false_or, if_true]
    go_enter Tryd.func13, Tryd.ntmps13
    go_wp2
    go_ret
    exact ⟨rfl, alloc_below _ _⟩
  cases h3 : decide (l.i > 3)
  case true =>
    simp only [h0, h1, h2, h3, List.any_cons, List.any_nil, id, Bool.or_true, Bool.true_or, Bool.or_false, Bool.false_or, if_true]
    go_enter Tryd.func13, Tryd.ntmps13
    go_wp2
    go_ret
    exact ⟨rfl, alloc_below _ _⟩
  cases h4 : decide (l.c < 0)
  case true =>
    simp only [h0, h1, h2, h3, h4, List.any_cons, List.any_nil, id, Bool.or_true, Bool.true_or, Bool.or_false, Bool.false_or, if_true]
    go_enter Tryd.func13, Tryd.ntmps13
    go_wp2
    go_ret
    exact ⟨rfl, alloc_below _ _⟩
  cases h5 : decide (l.c > 255)
  case true =>
    simp only [h0, h1, h2, h3, h4, h5, List.any_cons, List.any_nil, id, Bool.or_true, Bool.true_or, Bool.or_false, Bool.false_or, if_true]
    go_enter Tryd.func13, Tryd.ntmps13
    go_wp2
    go_ret
    exact ⟨rfl, alloc_below _ _⟩
  cases h6 : decide (l.k < 0)
  case true =>
    simp only [h0, h1, h2, h3, h4, h5, h6, List.any_cons, List.any_nil, id, Bool.or_true, Bool.true_or, Bool.or_false, Bool.false_or, if_true]
    go_enter Tryd.func13, Tryd.ntmps13
    go_wp2
    go_ret
    exact ⟨rfl, alloc_below _ _⟩
  cases h7 : decide (l.k > 255)
  case true =>
    simp only [h0, h1, h2, h3, h4, h5, h6, h7, List.any_cons, List.any_nil, id, Bool.or_true, Bool.true_or, Bool.or_false, Bool.false_or, if_true]
    go_enter Tryd.func13, Tryd.ntmps13
    go_wp2
    go_ret
    exact ⟨rfl, alloc_below _ _⟩
  simp only [h0, h1, h2, h3, h4, h5, h6, h7, List.any_cons, List.any_nil, id, Bool.or_false, Bool.false_or, Bool.false_eq_true, if_false]
  go_enter Tryd.func13, Tryd.ntmps13
  go_wp2
  go_ret
  exact ⟨rfl, alloc_below _ _⟩
end Go.Proofs.YtbaaomplennalaaDoor
