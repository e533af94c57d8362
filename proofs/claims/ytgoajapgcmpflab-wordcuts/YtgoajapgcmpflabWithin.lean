/-
  THE CONTRACT OF within: what is left over of a number, not below nought.
-/
import Derived.Test.YtgoajapgcmpflabFlat
namespace Go.Proofs.Ytgoajapgcmpflab
open Go.RowKit

theorem emod_cases (a n : Int) (hn : 0 < n) : (0 ≤ a.tmod n ∧ a.tmod n = a % n) ∨ (a.tmod n < 0 ∧ a.tmod n + n = a % n) := by
  have h1 := Int.emod_add_mul_ediv a n
  have h2 := Int.emod_nonneg a (Int.ne_of_gt hn)
  have h3 := Int.emod_lt_of_pos a hn
  rw [Int.tmod_eq_emod]
  by_cases h : 0 ≤ a ∨ n ∣ a
  · rw [if_pos h]; left; omega
  · rw [if_neg h]; right
    have hz : a % n ≠ 0 := fun k => h (Or.inr (Int.dvd_of_emod_eq_zero k))
    omega

set_option maxHeartbeats 400000 in
theorem within_any (a n : Int) (hn : 0 < n) (hn2 : n < 4294967296) (w : World) :
    Calls Try.prog 10 #[.int .i64 a, .int .i64 n] w fun e w' => e = .returned (.int .i64 (a % n)) ∧ w' = w := by
  have h3 := Int.emod_lt_of_pos a hn
  have h4 := Int.emod_nonneg a (Int.ne_of_gt hn)
  rcases emod_cases a n hn with ⟨h1, h2⟩ | ⟨h1, h2⟩
  all_goals
    go_enter Try.func10, Try.ntmps10
    go_wp2
    go_ret
    exact ⟨rfl, rfl⟩

/-- The float two to the k. -/
theorem val_two (k : Nat) : val ((1023 + k) * 4503599627370496) = 2 ^ k * Q := by
  unfold val
  rw [if_neg (by omega), show (1023 + k) * 4503599627370496 % 4503599627370496 = 0 from by omega, show (1023 + k) * 4503599627370496 / 4503599627370496 - 1 = 1022 + k from by omega,
    Nat.add_zero, Q_eq, show 4503599627370496 = 2 ^ 52 from by decide, ← Nat.pow_add, ← Nat.pow_add]
  congr 1
  have := E74v
  omega

theorem two_eq (s : Bool) (k : Nat) : Wd s ((1023 + k) * 4503599627370496) = if s = true then (1023 + (k : Int)) * 4503599627370496 - 9223372036854775808 else (1023 + (k : Int)) * 4503599627370496 := by
  unfold Wd
  split <;> omega

/-- Two to the k, within a word's bounds, with either sign. -/
theorem two_in (k : Nat) (h : k < 63) : toV (Wd false ((1023 + k) * 4503599627370496)) = ((2 ^ k : Nat) : Int) ∧ toE (Wd false ((1023 + k) * 4503599627370496)) = 0 ∧ fromI ((2 ^ k : Nat) : Int) = Wd false ((1023 + k) * 4503599627370496) ∧
    toV (Wd true ((1023 + k) * 4503599627370496)) = -((2 ^ k : Nat) : Int) ∧ toE (Wd true ((1023 + k) * 4503599627370496)) = 0 ∧ fromI (-((2 ^ k : Nat) : Int)) = Wd true ((1023 + k) * 4503599627370496) := by
  have p : 0 < 2 ^ k := Nat.two_pow_pos k
  have q : 2 ^ k ≤ 2 ^ 62 := Nat.pow_le_pow_right (by omega) (by omega)
  have hr : (1023 + k) * 4503599627370496 < 9218868437227405312 := by omega
  have v := val_two k
  generalize 2 ^ k = N at *
  have v1 : val ((1023 + k) * 4503599627370496) = (N : Int).natAbs * Q := by rw [Int.natAbs_natCast]; exact v
  have v2 : val ((1023 + k) * 4503599627370496) = (-(N : Int)).natAbs * Q := by rw [Int.natAbs_neg, Int.natAbs_natCast]; exact v
  have d1 : decide ((N : Int) < 0) = false := decide_eq_false (by omega)
  have d2 : decide (-(N : Int) < 0) = true := decide_eq_true (by omega)
  have b1 := back hr v1 (by omega) (by omega)
  have b2 := back hr v2 (by omega) (by omega)
  have f1 := fromI_exact hr v1
  have f2 := fromI_exact hr v2
  rw [d1] at f1
  rw [d2] at f2
  rw [f1] at b1
  rw [f2] at b2
  exact ⟨b1.1, b1.2, f1, b2.1, b2.2, f2⟩

/-- The least whole number. -/
theorem two_least : toV (-4332462841530417152) = -9223372036854775808 ∧ toE (-4332462841530417152) = 0 := by decide +kernel

/-- Beyond a word's bounds. -/
theorem two_out (s : Bool) (k : Nat) (h : 63 ≤ k) (h1 : k < 1024) (h2 : s = true → 64 ≤ k) : toV (Wd s ((1023 + k) * 4503599627370496)) = 0 ∧ toE (Wd s ((1023 + k) * 4503599627370496)) = 1 := by
  have no : ¬ okB (Wd s ((1023 + k) * 4503599627370496)) = true := by
    intro hk
    have ok := (okB_iff _).mp hk
    unfold okI at ok
    rw [key_Wd s (by omega)] at ok
    unfold sg at ok
    cases s
    · simp only [Bool.false_eq_true, if_false] at ok; omega
    · have := h2 rfl
      simp only [if_true] at ok; omega
  unfold toV toE
  rw [if_neg no, if_neg no]
  exact ⟨rfl, rfl⟩

end Go.Proofs.Ytgoajapgcmpflab
