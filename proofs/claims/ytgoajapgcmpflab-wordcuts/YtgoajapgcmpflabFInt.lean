/-
  WHOLE NUMBERS AS FLOATS: a whole number that is a float becomes that float, and comes back as it was.
-/
import Derived.Test.YtgoajapgcmpflabToInt
namespace Go.Proofs.Ytgoajapgcmpflab
open Go.RowKit

/-- What FromInt answers. -/
def fromI (n : Int) : Int := toW (floatOfInt .f64 n)

theorem floatOfInt_eq (n : Int) : floatOfInt .f64 n = FloatKind.f64.format.nearest (decide (n < 0)) n.natAbs 0 := rfl

theorem floatOfInt_exact {n : Int} {r : Nat} (hr : r < 9218868437227405312) (h : val r = n.natAbs * Q) : floatOfInt .f64 n = wd (decide (n < 0)) r := by
  rw [floatOfInt_eq]
  exact near_exact _ hr (i := E74) (j := 0) (by have := E74v; omega) (by rw [h, Nat.pow_zero, Nat.mul_one]; rfl)

theorem fromI_exact {n : Int} {r : Nat} (hr : r < 9218868437227405312) (h : val r = n.natAbs * Q) : fromI n = Wd (decide (n < 0)) r := by
  unfold fromI
  rw [floatOfInt_exact hr h, toW_wd _ (by omega)]

theorem key_Wd (s : Bool) {r : Nat} (h : r < 9223372036854775808) : key (U (Wd s r)) = sg s r := by
  unfold key
  rw [U_Wd s h, (wd_parts s h).1, (wd_parts s h).2.1]
theorem rung_Wd (s : Bool) {r : Nat} (h : r < 9223372036854775808) : rung (U (Wd s r)) = r ∧ sgn (U (Wd s r)) = s := by
  rw [U_Wd s h]
  exact ⟨(wd_parts s h).1, (wd_parts s h).2.1⟩

theorem tr_Wd {n : Int} {r : Nat} (hr : r < 9218868437227405312) (h : val r = n.natAbs * Q) : tr (U (Wd (decide (n < 0)) r)) = n := by
  unfold tr
  rw [(rung_Wd _ (by omega)).1, (rung_Wd _ (by omega)).2, h, Nat.mul_div_cancel _ Q_pos]
  unfold sg
  by_cases hn : n < 0
  · rw [decide_eq_true hn, if_pos rfl]; omega
  · rw [decide_eq_false hn, if_neg (by decide)]; omega

theorem okI_Wd {n : Int} {r : Nat} (hr : r < 9218868437227405312) (h : val r = n.natAbs * Q) (h0 : -9223372036854775808 ≤ n) (h1 : n ≤ 9223372036854775807) : okI (Wd (decide (n < 0)) r) := by
  have k1 : n.natAbs < 9223372036854775808 → r < 4890909195324358656 := by
    intro hl
    rw [← val_lt_iff, h, val_K]
    exact Nat.mul_lt_mul_of_pos_right hl Q_pos
  have k2 : n.natAbs = 9223372036854775808 → r = 4890909195324358656 := by
    intro hl
    apply val_inj
    rw [h, val_K, hl]
  unfold okI
  rw [key_Wd _ (by omega)]
  unfold sg
  by_cases hn : n < 0
  · rw [decide_eq_true hn, if_pos rfl]; omega
  · rw [decide_eq_false hn, if_neg (by decide)]; omega

/-- There and back. -/
theorem back {n : Int} {r : Nat} (hr : r < 9218868437227405312) (h : val r = n.natAbs * Q) (h0 : -9223372036854775808 ≤ n) (h1 : n ≤ 9223372036854775807) : toV (fromI n) = n ∧ toE (fromI n) = 0 := by
  rw [fromI_exact hr h]
  have ok := (okB_iff _).mpr (okI_Wd hr h h0 h1)
  unfold toV toE
  rw [if_pos ok, if_pos ok]
  exact ⟨tr_Wd hr h, rfl⟩

/-- A small whole number is a float. -/
theorem repr_small {m : Nat} (h : m ≤ 9007199254740992) : ∃ r, r < 9218868437227405312 ∧ val r = m * Q := by
  rcases Nat.lt_or_eq_of_le h with h1 | h1
  · exact repr m E74 h1 (by have := E74v; omega)
  · subst h1
    obtain ⟨r, hr, e⟩ := repr 4503599627370496 (E74 + 1) (by omega) (by have := E74v; omega)
    refine ⟨r, hr, ?_⟩
    rw [e, Nat.pow_succ, Nat.mul_comm (2 ^ E74) 2, ← Nat.mul_assoc, Q_eq]

/-- A float cut off behind its point is a float. -/
theorem repr_cut (r : Nat) (h : r < 9218868437227405312) : ∃ t, t < 9218868437227405312 ∧ val t = val r / Q * Q := by
  by_cases hu : E74 ≤ up r
  · refine ⟨r, h, ?_⟩
    have e : val r = mag r * 2 ^ (up r - E74) * Q := by
      rw [val_eq, Q_eq, Nat.mul_assoc, ← Nat.pow_add]; congr 2; omega
    rw [e, Nat.mul_div_cancel _ Q_pos]
  · apply repr_small
    have e : val r < 9007199254740992 * Q := by
      have hl := val_lt_pow r
      have hq : 2 ^ (53 + up r) ≤ 2 ^ (53 + E74) := Nat.pow_le_pow_right (by omega) (by omega)
      rw [Nat.pow_add 2 53 E74, ← Q_eq, show (2 : Nat) ^ 53 = 9007199254740992 from by decide] at hq
      exact Nat.lt_of_lt_of_le hl hq
    have := (Nat.div_lt_iff_lt_mul Q_pos).mpr e
    omega

theorem tr_natAbs (n : Nat) : (tr n).natAbs = val (rung n) / Q := by
  unfold tr sg
  generalize val (rung n) / Q = q
  split <;> omega

/-- What ToInt answers comes back. -/
theorem back_tr {a : Int} (h : okI a) : toV (fromI (tr (U a))) = tr (U a) ∧ toE (fromI (tr (U a))) = 0 := by
  obtain ⟨t, ht, e⟩ := repr_cut (rung (U a)) (by have := (okI_parts h).1; omega)
  have hr := tr_range h
  exact back ht (by rw [e, tr_natAbs]) hr.1 hr.2

end Go.Proofs.Ytgoajapgcmpflab
