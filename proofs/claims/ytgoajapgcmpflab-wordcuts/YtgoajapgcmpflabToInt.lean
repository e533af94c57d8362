/-
  THE CONTRACT OF ToInt: a float, cut off behind the point, where that is a word; else refused.
-/
import Derived.Test.YtgoajapgcmpflabOps
namespace Go.Proofs.Ytgoajapgcmpflab
open Go.RowKit

/-- One, in units of the least float. -/
def E74 : Nat := 1074
theorem E74v : E74 = 1074 := rfl
def Q : Nat := 2 ^ E74
theorem Q_pos : 0 < Q := Nat.two_pow_pos E74
theorem Q_eq : Q = 2 ^ E74 := rfl

theorem cut_zero (s : Bool) (n d : Nat) : Ieee.Toward.zero.cut s n d = n / 2 ^ d := by
  simp only [Ieee.Toward.cut, Nat.shiftLeft_eq, Nat.one_mul]
  show n / 2 ^ min d (n.log2 + 2) + 0 = n / 2 ^ d
  rw [Nat.add_zero]
  by_cases h : d ≤ n.log2 + 2
  · rw [Nat.min_eq_left h]
  · rw [Nat.min_eq_right (by omega)]
    have hl : n < 2 ^ (n.log2 + 1) := Nat.lt_log2_self
    have h1 : 2 ^ (n.log2 + 1) ≤ 2 ^ (n.log2 + 2) := Nat.pow_le_pow_right (by omega) (by omega)
    have h2 : 2 ^ (n.log2 + 1) ≤ 2 ^ d := Nat.pow_le_pow_right (by omega) (by omega)
    rw [Nat.div_eq_of_lt (by omega), Nat.div_eq_of_lt (by omega)]

theorem div_Q (m u : Nat) : m * 2 ^ (u - 1074) / 2 ^ (1074 - u) = m * 2 ^ u / Q := by
  rw [Q_eq, ← E74v]
  generalize E74 = z
  by_cases h : z ≤ u
  · rw [show z - u = 0 from by omega, Nat.pow_zero, Nat.div_one]
    have e : 2 ^ u = 2 ^ (u - z) * 2 ^ z := by rw [← Nat.pow_add]; congr 1; omega
    rw [e, ← Nat.mul_assoc, Nat.mul_div_cancel _ (Nat.two_pow_pos _)]
  · rw [show u - z = 0 from by omega, Nat.pow_zero, Nat.mul_one]
    have e : 2 ^ z = 2 ^ (z - u) * 2 ^ u := by rw [← Nat.pow_add]; congr 1; omega
    rw [e, Nat.mul_div_mul_right _ _ (Nat.two_pow_pos _)]

/-- A float cut off behind its point. -/
def tr (n : Nat) : Int := sg (sgn n) (val (rung n) / Q)

theorem toInt_fin {n : Nat} (h : rung n < 9218868437227405312) : (FloatKind.f64.decode n).toInt .zero = some (tr n) := by
  unfold FloatKind.decode
  rw [read_fin h]
  have e : Ieee.Datum.toInt .zero (.number (sgn n) (mag (rung n)) (-1074 + (up (rung n) : Int))) =
      some (Ieee.signed (sgn n) (Ieee.Toward.zero.cut (sgn n) (mag (rung n) <<< (-1074 + (up (rung n) : Int)).toNat) (-(-1074 + (up (rung n) : Int))).toNat) 0) := rfl
  rw [e, signed_eq, cut_zero, Nat.shiftLeft_eq, show (-1074 + (up (rung n) : Int)).toNat = up (rung n) - 1074 from by omega,
    show (-(-1074 + (up (rung n) : Int))).toNat = 1074 - up (rung n) from by omega, div_Q, ← val_eq, Nat.pow_zero, Nat.mul_one]
  rfl

theorem val_K : val 4890909195324358656 = 9223372036854775808 * Q := by decide +kernel

theorem tr_bounds {n : Nat} (h : rung n ≤ 4890909195324358656) : val (rung n) / Q ≤ 9223372036854775808 ∧ (rung n < 4890909195324358656 → val (rung n) / Q < 9223372036854775808) := by
  constructor
  · apply Nat.div_le_of_le_mul
    rw [Nat.mul_comm, ← val_K]
    rcases Nat.lt_or_eq_of_le h with h1 | h1
    · exact Nat.le_of_lt (val_mono_lt h1)
    · rw [h1]; exact Nat.le_refl _
  · intro h1
    rw [Nat.div_lt_iff_lt_mul Q_pos, ← val_K]
    exact val_mono_lt h1

/-- Where ToInt answers. -/
def okI (a : Int) : Prop := -4890909195324358656 ≤ key (U a) ∧ key (U a) < 4890909195324358656

theorem okI_parts {a : Int} (h : okI a) : rung (U a) ≤ 4890909195324358656 ∧ (sgn (U a) = false → rung (U a) < 4890909195324358656) := by
  obtain ⟨h1, h2⟩ := h
  unfold key sg at h1 h2
  cases hs : sgn (U a) <;> rw [hs] at h1 h2 <;> simp only [Bool.false_eq_true, if_false, if_true] at h1 h2
  · exact ⟨by omega, fun _ => by omega⟩
  · exact ⟨by omega, fun h => by cases h⟩

theorem tr_range {a : Int} (h : okI a) : -9223372036854775808 ≤ tr (U a) ∧ tr (U a) ≤ 9223372036854775807 := by
  obtain ⟨h1, h2⟩ := okI_parts h
  obtain ⟨h3, h4⟩ := tr_bounds h1
  unfold tr sg
  generalize val (rung (U a)) / Q = q at *
  cases hs : sgn (U a)
  · have := h4 (h2 hs)
    simp only [Bool.false_eq_true, if_false]; omega
  · simp only [if_true]; omega

theorem floatToInt_ok {a : Int} (h : okI a) : floatToIntVal .f64 (U a) .i64 = some (tr (U a)) := by
  have h1 := (okI_parts h).1
  have h2 := tr_range h
  unfold floatToIntVal
  rw [toInt_fin (by omega)]
  have e : IntKind.min .i64 = -9223372036854775808 ∧ IntKind.max .i64 = 9223372036854775807 := by decide +kernel
  simp only
  rw [if_pos (by rw [e.1, e.2]; exact h2)]

theorem toInt_lt {a : Int} (h : ¬ 9218868437227405312 < rung (U a)) : (FloatKind.f64.format.order (U a) 14114281232179134464 == some .lt) = decide (key (U a) < -4890909195324358656) := by
  rw [order_lt (by omega) (by decide)]
  have : key 14114281232179134464 = -4890909195324358656 := by decide +kernel
  rw [this]
theorem toInt_ge {a : Int} (h : ¬ 9218868437227405312 < rung (U a)) :
    (FloatKind.f64.format.order (U a) 4890909195324358656 == some .gt || FloatKind.f64.format.order (U a) 4890909195324358656 == some .eq) = decide (4890909195324358656 ≤ key (U a)) := by
  have e : key 4890909195324358656 = 4890909195324358656 := by decide +kernel
  rw [order_gt (by omega) (by decide), order_eq (by omega) (by decide), e]
  by_cases h1 : 4890909195324358656 < key (U a)
  · rw [decide_eq_true h1, decide_eq_true (by omega : (4890909195324358656 : Int) ≤ key (U a)), Bool.true_or]
  · rw [decide_eq_false h1, Bool.false_or, decide_eq_decide]; omega

set_option maxHeartbeats 1000000 in
theorem toInt_walk_no (a : Int) (w : World) (t1 t2 : Bool)
    (h1 : isN (U a) = t1) (h2 : (FloatKind.f64.format.order (U a) 14114281232179134464 == some .lt) = t2)
    (h3 : t1 = false → t2 = false → (FloatKind.f64.format.order (U a) 4890909195324358656 == some .gt || FloatKind.f64.format.order (U a) 4890909195324358656 == some .eq) = true) :
    Calls Try.prog 12 #[.int .i64 a] w fun e w' => e = .returned (.tuple #[.int .i64 0, .int .i64 1]) ∧ w' = w := by
  cases t1
  · cases t2
    · have h4 := h3 rfl rfl
      clear h3
      go_enter Try.func12, Try.ntmps12
      go_wp2_with (first | (go_at_call 21; refine (word_toFloat_any _ _).mono ?_; rintro e w' ⟨rfl, rfl⟩) | (go_at_call 22; refine (isNaN_any _ _).mono ?_; rintro e w' ⟨rfl, rfl⟩))
      go_ret2
      exact ⟨rfl, rfl⟩
    · clear h3
      go_enter Try.func12, Try.ntmps12
      go_wp2_with (first | (go_at_call 21; refine (word_toFloat_any _ _).mono ?_; rintro e w' ⟨rfl, rfl⟩) | (go_at_call 22; refine (isNaN_any _ _).mono ?_; rintro e w' ⟨rfl, rfl⟩))
      go_ret2
      exact ⟨rfl, rfl⟩
  · clear h2 h3
    go_enter Try.func12, Try.ntmps12
    go_wp2_with (first | (go_at_call 21; refine (word_toFloat_any _ _).mono ?_; rintro e w' ⟨rfl, rfl⟩) | (go_at_call 22; refine (isNaN_any _ _).mono ?_; rintro e w' ⟨rfl, rfl⟩))
    go_ret2
    exact ⟨rfl, rfl⟩

set_option maxHeartbeats 1000000 in
theorem toInt_walk_yes (a v : Int) (w : World) (h1 : isN (U a) = false) (h2 : (FloatKind.f64.format.order (U a) 14114281232179134464 == some .lt) = false)
    (h3 : (FloatKind.f64.format.order (U a) 4890909195324358656 == some .gt || FloatKind.f64.format.order (U a) 4890909195324358656 == some .eq) = false)
    (h4 : ∀ w, (convert 36 2 (.float .f64 (U a))).run Try.prog w = .ok (.int .i64 v) w) :
    Calls Try.prog 12 #[.int .i64 a] w fun e w' => e = .returned (.tuple #[.int .i64 v, .int .i64 0]) ∧ w' = w := by
  go_enter Try.func12, Try.ntmps12
  go_wp2_with (first | (go_at_call 21; refine (word_toFloat_any _ _).mono ?_; rintro e w' ⟨rfl, rfl⟩) | (go_at_call 22; refine (isNaN_any _ _).mono ?_; rintro e w' ⟨rfl, rfl⟩))
  go_ret2
  exact ⟨rfl, rfl⟩

theorem word_ToInt_no {a : Int} (h : ¬ okI a) (w : World) :
    Calls Try.prog 12 #[.int .i64 a] w fun e w' => e = .returned (.tuple #[.int .i64 0, .int .i64 1]) ∧ w' = w := by
  refine toInt_walk_no a w _ _ rfl rfl ?_
  intro h1 h2
  rw [isN_iff] at h1
  have h1' : ¬ 9218868437227405312 < rung (U a) := of_decide_eq_false h1
  rw [toInt_lt h1'] at h2
  rw [toInt_ge h1']
  have h2' := of_decide_eq_false h2
  apply decide_eq_true
  unfold okI at h
  omega

theorem word_ToInt_yes {a : Int} (h : okI a) (w : World) :
    Calls Try.prog 12 #[.int .i64 a] w fun e w' => e = .returned (.tuple #[.int .i64 (tr (U a)), .int .i64 0]) ∧ w' = w := by
  have h0 := (okI_parts h).1
  have h1 : ¬ 9218868437227405312 < rung (U a) := by omega
  obtain ⟨h2, h3⟩ := h
  refine toInt_walk_yes a _ w ?_ ?_ ?_ ?_
  · rw [isN_iff]; exact decide_eq_false h1
  · rw [toInt_lt h1]; exact decide_eq_false (by omega)
  · rw [toInt_ge h1]; exact decide_eq_false (by omega)
  · intro w'
    exact run_convert_float_int w' 36 2 .f64 .i64 (U a) _ (by rw [Try.underlying36]; rfl) Try.underlying2 (floatToInt_ok ⟨h2, h3⟩)

/-- ToInt's answer, as a pair. -/
def okB (a : Int) : Bool := decide (-4890909195324358656 ≤ key (U a)) && decide (key (U a) < 4890909195324358656)
def toV (a : Int) : Int := if okB a = true then tr (U a) else 0
def toE (a : Int) : Int := if okB a = true then 0 else 1
theorem okB_iff (a : Int) : okB a = true ↔ okI a := by
  unfold okB okI
  rw [Bool.and_eq_true, decide_eq_true_iff, decide_eq_true_iff]
theorem word_ToInt_any (a : Int) (w : World) :
    Calls Try.prog 12 #[.int .i64 a] w fun e w' => e = .returned (.tuple #[.int .i64 (toV a), .int .i64 (toE a)]) ∧ w' = w := by
  unfold toV toE
  by_cases h : okB a = true
  · rw [if_pos h, if_pos h]; exact word_ToInt_yes ((okB_iff a).mp h) w
  · rw [if_neg h, if_neg h]; exact word_ToInt_no (fun k => h ((okB_iff a).mpr k)) w

end Go.Proofs.Ytgoajapgcmpflab
