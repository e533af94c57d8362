/-
  THE CONTRACTS OF PACKAGE disk's SMALL FUNCTIONS: has, begin, front, Stop, Dead, Ops.
-/
import Derived.Test.YtgjnlocokkjejaaDiskBase
namespace Go.Proofs.Ytgjnlocokkjejaa
open Go.RowKit

section
variable {w : World} {db pb mb n nn : Nat} {pl : Nat → List Int} {D : DataW (List Int)} {ops left : Int} {dead : Bool}

set_option maxHeartbeats 400000 in
theorem has_any (h : DiskAt w db pb mb n nn pl D ops left dead) (k : Int) :
    Calls Try.prog 34 #[.pointer (some ⟨db, 0, none⟩), .int .i64 k] w fun e w' => e = .returned (.bool (decide (0 ≤ k) && decide (k < n))) ∧ w' = w := by
  have c0 := h.c0
  by_cases h0 : 0 ≤ k
  · go_enter Try.func34, Try.ntmps34
    go_wp2
    go_ret
    exact ⟨by simp [h0], rfl⟩
  · go_enter Try.func34, Try.ntmps34
    go_wp2
    go_ret
    exact ⟨by simp; omega, rfl⟩

set_option maxHeartbeats 400000 in
theorem dead_any (h : DiskAt w db pb mb n nn pl D ops left dead) :
    Calls Try.prog 22 #[.pointer (some ⟨db, 0, none⟩)] w fun e w' => e = .returned (.bool dead) ∧ w' = w := by
  have c4 := h.c4
  go_enter Try.func22, Try.ntmps22
  go_wp2
  go_ret
  exact ⟨rfl, rfl⟩

set_option maxHeartbeats 400000 in
theorem ops_any (h : DiskAt w db pb mb n nn pl D ops left dead) :
    Calls Try.prog 23 #[.pointer (some ⟨db, 0, none⟩)] w fun e w' => e = .returned (.int .i64 ops) ∧ w' = w := by
  have c2 := h.c2
  go_enter Try.func23, Try.ntmps23
  go_wp2
  go_ret
  exact ⟨rfl, rfl⟩

set_option maxHeartbeats 400000 in
/-- Stop. -/
theorem stop_any (hD : DiskAt w db pb mb n nn pl D ops left dead) (k : Int) :
    Calls Try.prog 18 #[.pointer (some ⟨db, 0, none⟩), .int .i64 k] w fun e w' => e = .returned (.tuple #[]) ∧ DiskAt w' db pb mb n nn pl D ops (max k 0) dead ∧ Kept [db] w w' := by
  have c3 := hD.c3
  have f3 := hD.fz 3
  by_cases hk : k < 0
  · have e1 : max k 0 = 0 := by omega
    rw [e1]
    go_enter Try.func18, Try.ntmps18
    go_wp2
    refine bodyPost_end (results_none rfl _ _ _) rfl ?_
    exact ⟨rfl, hD.set_left _, (Kept.refl _ w).setCell (by simp) _⟩
  · have e1 : max k 0 = k := by omega
    rw [e1]
    go_enter Try.func18, Try.ntmps18
    go_wp2
    refine bodyPost_end (results_none rfl _ _ _) rfl ?_
    exact ⟨rfl, hD.set_left _, (Kept.refl _ w).setCell (by simp) _⟩

/-- An operation that nothing refuses: at the stop. -/
theorem begin_stops (h : DiskAt w db pb mb n nn pl D ops left dead) (hl : left = 1) :
    Calls Try.prog 35 #[.pointer (some ⟨db, 0, none⟩)] w fun e w' => e = .returned (.bool false) ∧ DiskAt w' db pb mb n nn pl D ops 0 true ∧ Kept [db] w w' := by
  subst hl
  have c3 := h.c3
  have c4 := h.c4
  have f3 := h.fz 3
  have f4 := h.fz 4
  have c4' := (h.set_left 0).c4
  have f4' := (h.set_left 0).fz 4
  go_enter Try.func35, Try.ntmps35
  go_wp2
  go_ret
  exact ⟨rfl, (h.set_left 0).set_dead true, ((Kept.refl _ w).setCell (by simp) _).setCell (by simp) _⟩

/-- .. ahead of it. -/
theorem begin_counts (h : DiskAt w db pb mb n nn pl D ops left dead) (hl : 1 < left) (ho : 0 ≤ ops) (ho2 : ops < 1000000) (hb : left < 9223372036854775808) :
    Calls Try.prog 35 #[.pointer (some ⟨db, 0, none⟩)] w fun e w' => e = .returned (.bool true) ∧ DiskAt w' db pb mb n nn pl D (ops + 1) (left - 1) dead ∧ Kept [db] w w' := by
  have c3 := h.c3
  have c2 := h.c2
  have f3 := h.fz 3
  have c2' := (h.set_left (left - 1)).c2
  have f2' := (h.set_left (left - 1)).fz 2
  have e1 : (left == 1) = false := by simp; omega
  go_enter Try.func35, Try.ntmps35
  go_wp2
  go_ret
  exact ⟨rfl, (h.set_left (left - 1)).set_ops (ops + 1), ((Kept.refl _ w).setCell (by simp) _).setCell (by simp) _⟩

/-- .. where none is to come. -/
theorem begin_goes (h : DiskAt w db pb mb n nn pl D ops left dead) (hl : left < 1) (ho : 0 ≤ ops) (ho2 : ops < 1000000) :
    Calls Try.prog 35 #[.pointer (some ⟨db, 0, none⟩)] w fun e w' => e = .returned (.bool true) ∧ DiskAt w' db pb mb n nn pl D (ops + 1) left dead ∧ Kept [db] w w' := by
  have c3 := h.c3
  have c2 := h.c2
  have f2 := h.fz 2
  have e1 : (left == 1) = false := by simp; omega
  go_enter Try.func35, Try.ntmps35
  go_wp2
  go_ret
  exact ⟨rfl, h.set_ops (ops + 1), (Kept.refl _ w).setCell (by simp) _⟩
end

/-- What a pick keeps. -/
def frontOf (pick : Int) : Int := (pick.tmod 129 + 129) % 129
theorem frontOf_lo (p : Int) : 0 ≤ frontOf p := by unfold frontOf; omega
theorem frontOf_hi (p : Int) : frontOf p ≤ 128 := by unfold frontOf; omega
theorem frontOf_eq (p : Int) : frontOf p = p % 129 := by
  unfold frontOf
  rw [Int.tmod_eq_emod]
  split <;> simp

set_option maxHeartbeats 400000 in
theorem front_any (p : Int) (w : World) :
    Calls Try.prog 41 #[.int .i64 p] w fun e w' => e = .returned (.int .i64 (frontOf p)) ∧ w' = w := by
  have h1 := Int.lt_tmod_of_pos p (b := 129) (by decide)
  have h2 := Int.tmod_lt_of_pos p (b := 129) (by decide)
  have h3 := frontOf_lo p
  have h4 := frontOf_hi p
  go_enter Try.func41, Try.ntmps41
  go_wp2
  go_ret
  exact ⟨rfl, rfl⟩

end Go.Proofs.Ytgjnlocokkjejaa
