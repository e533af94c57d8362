/-
  THE CONTRACTS OF THE DOCUMENT'S OWN Class AND FMax: they answer what the program's do.
-/
import Derived.Test.YtgoajapgcmpflaaMax
namespace Go.Proofs.Ytgoajapgcmpflaa
open Go.RowKit

theorem wrap_U (a : Int) : IntKind.u64.wrap a = ((U a : Nat) : Int) := by unfold U; rw [IntKind.wrap_u64]; omega

/-- The exponent's and the fraction's field. -/
def ex (a : Int) : Nat := rung (U a) / 4503599627370496
def fr (a : Int) : Nat := rung (U a) % 4503599627370496

theorem ex_bits (a : Int) : bits .and .u64 (IntKind.u64.wrap a / 4503599627370496) 2047 = ((ex a : Nat) : Int) := by
  have h := U_lt a
  rw [wrap_U]
  have e : ((U a : Nat) : Int) / 4503599627370496 = ((U a / 4503599627370496 : Nat) : Int) := by omega
  rw [e, show (2047 : Int) = ((2047 : Nat) : Int) from rfl, u64_and_nat _ _ (by omega) (by decide), nat_mask11]
  unfold ex rung
  omega
theorem fr_bits (a : Int) : bits .and .u64 (IntKind.u64.wrap a) 4503599627370495 = ((fr a : Nat) : Int) := by
  have h := U_lt a
  rw [wrap_U, show (4503599627370495 : Int) = ((4503599627370495 : Nat) : Int) from rfl, u64_and_nat _ _ (by omega) (by decide), nat_mask52]
  unfold fr rung
  omega

set_option maxHeartbeats 400000 in
theorem donjonref1_Class_walk (a E M v : Int) (w : World) (hE : bits .and .u64 (IntKind.u64.wrap a / 4503599627370496) 2047 = E) (hM : bits .and .u64 (IntKind.u64.wrap a) 4503599627370495 = M)
    (hv : v = if E = 2047 then (if M = 0 then 1 else 0) else if E = 0 then (if M = 0 then 4 else 3) else 2) :
    Calls Try.prog 26 #[.int .i64 a] w fun e w' => e = .returned (.int .i64 v) ∧ w' = w := by
  by_cases h1 : E = 2047
  · rw [if_pos h1] at hv
    by_cases h2 : M = 0
    all_goals
      simp only [h2, if_true, if_false] at hv
      subst hv
      go_enter Try.func26, Try.ntmps26
      go_wp2
      go_ret
      exact ⟨rfl, rfl⟩
  · rw [if_neg h1] at hv
    by_cases h3 : E = 0
    · rw [if_pos h3] at hv
      by_cases h2 : M = 0
      all_goals
        simp only [h2, if_true, if_false] at hv
        subst hv
        go_enter Try.func26, Try.ntmps26
        go_wp2
        go_ret
        exact ⟨rfl, rfl⟩
    · rw [if_neg h3] at hv
      subst hv
      go_enter Try.func26, Try.ntmps26
      go_wp2
      go_ret
      exact ⟨rfl, rfl⟩

theorem donjonref1_Class_any (a : Int) (w : World) :
    Calls Try.prog 26 #[.int .i64 a] w fun e w' => e = .returned (.int .i64 (cls a)) ∧ w' = w := by
  refine donjonref1_Class_walk a _ _ _ w (ex_bits a) (fr_bits a) ?_
  have h := rung_lt (U a)
  unfold cls ex fr
  repeat' split
  all_goals omega

/-- The greater one, as the document's own text picks it. -/
def rmax (a b : Int) : Int :=
  if 9218868437227405312 < rung (U a) then NAN else if 9218868437227405312 < rung (U b) then NAN
  else if key (U b) < key (U a) then a else if key (U a) < key (U b) then b else if a < 0 then b else a

set_option maxHeartbeats 400000 in
theorem rmax_walk (a b v : Int) (w : World) (t1 t2 t3 t4 : Bool)
    (h1 : (FloatKind.f64.format.order (U a) (U a) != some .eq) = t1) (h2 : (FloatKind.f64.format.order (U b) (U b) != some .eq) = t2)
    (h3 : (FloatKind.f64.format.order (U a) (U b) == some .gt) = t3) (h4 : (FloatKind.f64.format.order (U a) (U b) == some .lt) = t4)
    (hv : v = if t1 = true then NAN else if t2 = true then NAN else if t3 = true then a else if t4 = true then b else if a < 0 then b else a) :
    Calls Try.prog 19 #[.int .i64 a, .int .i64 b] w fun e w' => e = .returned (.int .i64 v) ∧ w' = w := by
  cases t1 <;> cases t2 <;> cases t3 <;> cases t4 <;> by_cases h5 : a < 0
  all_goals
    simp only [h5, if_true, if_false, Bool.false_eq_true] at hv
    subst hv
    go_enter Try.func19, Try.ntmps19
    go_wp2_with (go_at_call 34; refine (donjonref1_float_any _ _).mono ?_; rintro e w' ⟨rfl, rfl⟩)
    go_ret
    exact ⟨rfl, rfl⟩

theorem donjonref1_FMax_any (a b : Int) (w : World) :
    Calls Try.prog 19 #[.int .i64 a, .int .i64 b] w fun e w' => e = .returned (.int .i64 (rmax a b)) ∧ w' = w := by
  refine rmax_walk a b _ w _ _ _ _ rfl rfl rfl rfl ?_
  have e1 : (FloatKind.f64.format.order (U a) (U a) != some .eq) = decide (9218868437227405312 < rung (U a)) := isN_iff (U a)
  have e2 : (FloatKind.f64.format.order (U b) (U b) != some .eq) = decide (9218868437227405312 < rung (U b)) := isN_iff (U b)
  rw [e1, e2]
  unfold rmax
  by_cases g1 : 9218868437227405312 < rung (U a)
  · simp [g1]
  · by_cases g2 : 9218868437227405312 < rung (U b)
    · simp [g1, g2]
    · rw [order_gt (by omega) (by omega), order_lt (by omega) (by omega)]
      simp [g1, g2]

theorem fmax_rmax {a b : Int} (a0 : -9223372036854775808 ≤ a) (a1 : a ≤ 9223372036854775807) (b0 : -9223372036854775808 ≤ b) (b1 : b ≤ 9223372036854775807) : fmax a b = rmax a b := by
  unfold rmax
  rcases fmax_cases a0 a1 b0 b1 with ⟨h, e⟩ | ⟨h1, h2, ⟨h3, e⟩ | ⟨h3, e⟩ | ⟨h3, e⟩⟩
  · rw [e]
    rcases h with h | h
    · rw [if_pos h]
    · rw [if_pos h]; split <;> rfl
  · rw [e, if_neg (by omega), if_neg (by omega), if_pos h3]
  · rw [e, if_neg (by omega), if_neg (by omega), if_neg (by omega), if_pos h3]
  · rw [e, if_neg (show ¬ 9218868437227405312 < rung (U a) by omega), if_neg (show ¬ 9218868437227405312 < rung (U b) by omega), if_neg (show ¬ key (U b) < key (U a) by omega), if_neg (show ¬ key (U a) < key (U b) by omega)]

end Go.Proofs.Ytgoajapgcmpflaa
