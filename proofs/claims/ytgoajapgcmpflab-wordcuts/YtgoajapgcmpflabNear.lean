/-
  ROUNDING TO THE NEAREST FLOAT, no Go in sight: what is rounded stays on its side of every float; so a number that is a float is that float.
-/
import Derived.Test.YtgoajapgcmpflabIeee
namespace Go.Proofs.Ytgoajapgcmpflab

theorem cut_even_le (s : Bool) (n d m : Nat) (h : n ≤ m * 2 ^ d) : Ieee.Toward.even.cut s n d ≤ m := by
  simp only [Ieee.Toward.cut, Nat.shiftLeft_eq, Nat.one_mul]
  by_cases hd : d ≤ n.log2 + 2
  · rw [Nat.min_eq_left hd]
    have p : 0 < 2 ^ d := Nat.two_pow_pos _
    generalize hg : 2 ^ d = g at *
    have hq : n / g ≤ m := Nat.div_le_of_le_mul (by rw [Nat.mul_comm]; exact h)
    have hdm := Nat.div_add_mod n g
    by_cases he : n / g = m
    · have hr : n % g = 0 := by
        rw [he, Nat.mul_comm g m] at hdm
        omega
      rw [hr, he]
      have : (decide (g < 2 * 0) || (g == 2 * 0 && m % 2 == 1)) = false := by
        rw [decide_eq_false (by omega), Bool.false_or, beq_eq_false_iff_ne.mpr (by omega), Bool.false_and]
      rw [this]; exact Nat.le_refl m
    · have : ((decide (g < 2 * (n % g)) || (g == 2 * (n % g) && n / g % 2 == 1)) : Bool).toNat ≤ 1 := Bool.toNat_le _
      omega
  · rw [Nat.min_eq_right (by omega)]
    have hl : n < 2 ^ (n.log2 + 1) := Nat.lt_log2_self
    have e : 2 ^ (n.log2 + 2) = 2 * 2 ^ (n.log2 + 1) := by rw [Nat.pow_succ 2 (n.log2 + 1), Nat.mul_comm]
    generalize hg : 2 ^ (n.log2 + 1) = g at *
    rw [e]
    have q0 : n / (2 * g) = 0 := Nat.div_eq_of_lt (by omega)
    have r0 : n % (2 * g) = n := Nat.mod_eq_of_lt (by omega)
    rw [q0, r0]
    have : (decide (2 * g < 2 * n) || (2 * g == 2 * n && 0 % 2 == 1)) = false := by
      rw [decide_eq_false (by omega), Bool.false_or, beq_eq_false_iff_ne.mpr (by omega), Bool.false_and]
    rw [this]; exact Nat.zero_le m

theorem le_cut_even (s : Bool) (n d m : Nat) (h : m * 2 ^ d ≤ n) : m ≤ Ieee.Toward.even.cut s n d := by
  simp only [Ieee.Toward.cut, Nat.shiftLeft_eq, Nat.one_mul]
  by_cases hd : d ≤ n.log2 + 2
  · rw [Nat.min_eq_left hd]
    have p : 0 < 2 ^ d := Nat.two_pow_pos _
    have hq : m ≤ n / 2 ^ d := (Nat.le_div_iff_mul_le p).mpr h
    omega
  · have hl : n < 2 ^ (n.log2 + 1) := Nat.lt_log2_self
    have hp : 2 ^ (n.log2 + 1) ≤ 2 ^ d := Nat.pow_le_pow_right (by omega) (by omega)
    have : m = 0 := by
      rcases Nat.eq_zero_or_pos m with h0 | h0
      · exact h0
      · have : 1 * 2 ^ d ≤ m * 2 ^ d := Nat.mul_le_mul_right _ h0
        omega
    rw [this]; exact Nat.zero_le _

/-- How far above the least place the last digit that is kept lies; the rung, not capped. -/
def lastUp (X : Nat) (P : Int) : Nat := (max (P + (X.log2 : Int) - 52) (-1074) + 1074).toNat
def nr (X : Nat) (P : Int) : Nat :=
  lastUp X P * 4503599627370496 + Ieee.Toward.even.cut false (X * 2 ^ (P - (-1074 + (lastUp X P : Int))).toNat) (-1074 + (lastUp X P : Int) - P).toNat

/-- The word of a sign and a rung. -/
def wd (s : Bool) (r : Nat) : Nat := if s = true then 9223372036854775808 + r else r

theorem word_wd (s : Bool) (r : Nat) : FloatKind.f64.format.word s r = wd s r := rfl

theorem cut_sign (s t : Bool) (n d : Nat) : Ieee.Toward.even.cut s n d = Ieee.Toward.even.cut t n d := rfl

theorem nearest_eq (s : Bool) (X : Nat) (P : Int) (h : X ≠ 0) : FloatKind.f64.format.nearest s X P = wd s (min (nr X P) 9218868437227405312) := by
  have e : max (P + (X.log2 : Int) - 52) (-1074) = -1074 + (lastUp X P : Int) := by unfold lastUp; omega
  have u : FloatKind.f64.format.nearest s X P = (if X = 0 then wd s 0 else
      wd s (min ((max (P + (X.log2 : Int) - 52) (-1074) - (-1074)).toNat * 4503599627370496 + Ieee.Toward.even.cut s (X <<< (P - max (P + (X.log2 : Int) - 52) (-1074)).toNat) (max (P + (X.log2 : Int) - 52) (-1074) - P).toNat) 9218868437227405312)) := rfl
  rw [u, if_neg h, e, Nat.shiftLeft_eq, cut_sign s false]
  unfold nr
  have e2 : (-1074 + (lastUp X P : Int) - (-1074)).toNat = lastUp X P := by omega
  rw [e2]

theorem nearest_zero (s : Bool) (P : Int) : FloatKind.f64.format.nearest s 0 P = wd s 0 := rfl

theorem mag_lt (r : Nat) : mag r < 9007199254740992 := by unfold mag; split <;> omega
theorem mag_ge {r : Nat} (h : up r ≠ 0) : 4503599627370496 ≤ mag r := by
  unfold up at h; unfold mag
  rw [if_neg (by omega)]; omega
theorem rung_eq (r : Nat) : r = up r * 4503599627370496 + mag r := by
  unfold up mag
  split <;> omega
theorem rung_up_ge {r : Nat} (h : up r ≠ 0) : (up r + 1) * 4503599627370496 ≤ r := by
  unfold up at *; omega

theorem pow_bounds (X : Nat) (h : X ≠ 0) : 2 ^ X.log2 ≤ X ∧ X < 2 ^ (X.log2 + 1) := ⟨Nat.log2_self_le h, Nat.lt_log2_self⟩

/-- What is scaled by two to the i, against what is scaled by two to the j: the two shifts of the rounding. -/
theorem shift_le {X V i j a b : Nat} (hij : i + b = j + a) (hab : a = 0 ∨ b = 0) : X * 2 ^ i ≤ V * 2 ^ j ↔ X * 2 ^ a ≤ V * 2 ^ b := by
  have p : ∀ k, 0 < 2 ^ k := fun k => Nat.two_pow_pos k
  rcases hab with rfl | rfl
  · -- j = i + b
    rw [show j = b + i from by omega, Nat.pow_add, ← Nat.mul_assoc, Nat.pow_zero, Nat.mul_one]
    exact Nat.mul_le_mul_right_iff (p i)
  · rw [show i = a + j from by omega, Nat.pow_add, ← Nat.mul_assoc, Nat.pow_zero, Nat.mul_one]
    exact Nat.mul_le_mul_right_iff (p j)
theorem shift_ge {X V i j a b : Nat} (hij : i + b = j + a) (hab : a = 0 ∨ b = 0) : V * 2 ^ j ≤ X * 2 ^ i ↔ V * 2 ^ b ≤ X * 2 ^ a :=
  shift_le (X := V) (V := X) (by omega) (by omega)

theorem val_lt_pow (r : Nat) : val r < 2 ^ (53 + up r) := by
  rw [val_eq, Nat.pow_add]
  exact Nat.mul_lt_mul_of_pos_right (mag_lt r) (Nat.two_pow_pos _)
theorem val_ge_pow {r : Nat} (h : up r ≠ 0) : 2 ^ (52 + up r) ≤ val r := by
  rw [val_eq, Nat.pow_add]
  exact Nat.mul_le_mul_right _ (mag_ge h)

theorem lastUp_cases (X : Nat) (P : Int) : (lastUp X P : Int) = P + X.log2 - 52 + 1074 ∨ lastUp X P = 0 ∧ P + (X.log2 : Int) - 52 ≤ -1074 := by
  unfold lastUp; omega

/-- X scaled lies below two to the (53 + lastUp); and, if lastUp is not nought, not below two to the (52 + lastUp). -/
theorem scaled_lt {X i j : Nat} {P : Int} (h : X ≠ 0) (hP : P = -1074 + (i : Int) - (j : Int)) : X * 2 ^ i < 2 ^ (53 + lastUp X P + j) := by
  have hb := (pow_bounds X h).2
  have : X * 2 ^ i < 2 ^ (X.log2 + 1) * 2 ^ i := Nat.mul_lt_mul_of_pos_right hb (Nat.two_pow_pos _)
  rw [← Nat.pow_add] at this
  have l := lastUp_cases X P
  exact Nat.lt_of_lt_of_le this (Nat.pow_le_pow_right (by omega) (by omega))
theorem scaled_ge {X i j : Nat} {P : Int} (h : X ≠ 0) (hP : P = -1074 + (i : Int) - (j : Int)) (hu : lastUp X P ≠ 0) : 2 ^ (52 + lastUp X P + j) ≤ X * 2 ^ i := by
  have hb := (pow_bounds X h).1
  have : 2 ^ X.log2 * 2 ^ i ≤ X * 2 ^ i := Nat.mul_le_mul_right _ hb
  rw [← Nat.pow_add] at this
  have l := lastUp_cases X P
  exact Nat.le_trans (Nat.pow_le_pow_right (by omega) (by omega)) this

/-- The digits that are kept, against m. -/
theorem kept_le {X i j : Nat} {P : Int} (hP : P = -1074 + (i : Int) - (j : Int)) (m : Nat) (h : X * 2 ^ i ≤ m * 2 ^ (lastUp X P) * 2 ^ j) :
    Ieee.Toward.even.cut false (X * 2 ^ (P - (-1074 + (lastUp X P : Int))).toNat) (-1074 + (lastUp X P : Int) - P).toNat ≤ m := by
  apply cut_even_le
  rw [Nat.mul_assoc, ← Nat.pow_add] at h
  exact (shift_le (by omega) (by omega)).mp h
theorem le_kept {X i j : Nat} {P : Int} (hP : P = -1074 + (i : Int) - (j : Int)) (m : Nat) (h : m * 2 ^ (lastUp X P) * 2 ^ j ≤ X * 2 ^ i) :
    m ≤ Ieee.Toward.even.cut false (X * 2 ^ (P - (-1074 + (lastUp X P : Int))).toNat) (-1074 + (lastUp X P : Int) - P).toNat := by
  apply le_cut_even
  rw [Nat.mul_assoc, ← Nat.pow_add] at h
  exact (shift_ge (by omega) (by omega)).mp h

theorem kept_max {X i j : Nat} {P : Int} (h0 : X ≠ 0) (hP : P = -1074 + (i : Int) - (j : Int)) :
    Ieee.Toward.even.cut false (X * 2 ^ (P - (-1074 + (lastUp X P : Int))).toNat) (-1074 + (lastUp X P : Int) - P).toNat ≤ 9007199254740992 := by
  refine kept_le (i := i) (j := j) hP _ ?_
  have := scaled_lt h0 hP
  rw [Nat.pow_add, Nat.pow_add] at this
  exact Nat.le_of_lt this
theorem kept_min {X i j : Nat} {P : Int} (h0 : X ≠ 0) (hP : P = -1074 + (i : Int) - (j : Int)) (hu : lastUp X P ≠ 0) :
    4503599627370496 ≤ Ieee.Toward.even.cut false (X * 2 ^ (P - (-1074 + (lastUp X P : Int))).toNat) (-1074 + (lastUp X P : Int) - P).toNat := by
  refine le_kept (i := i) (j := j) hP _ ?_
  have := scaled_ge h0 hP hu
  rw [Nat.pow_add, Nat.pow_add] at this
  exact this

/-- WHAT IS NOT ABOVE A FLOAT IS NOT ROUNDED ABOVE IT. -/
theorem near_le {X i j r : Nat} {P : Int} (h0 : X ≠ 0) (hP : P = -1074 + (i : Int) - (j : Int)) (h : X * 2 ^ i ≤ val r * 2 ^ j) : nr X P ≤ r := by
  have km := kept_max (i := i) (j := j) h0 hP
  have re := rung_eq r
  unfold nr
  rcases Nat.lt_trichotomy (up r) (lastUp X P) with hlt | heq | hgt
  · exfalso
    have a := scaled_ge h0 hP (by omega)
    have b := val_lt_pow r
    have c : 2 ^ (53 + up r) ≤ 2 ^ (52 + lastUp X P) := Nat.pow_le_pow_right (by omega) (by omega)
    rw [Nat.pow_add 2 (52 + lastUp X P) j] at a
    have d : val r * 2 ^ j < 2 ^ (52 + lastUp X P) * 2 ^ j := Nat.mul_lt_mul_of_pos_right (Nat.lt_of_lt_of_le b c) (Nat.two_pow_pos _)
    omega
  · have := kept_le (i := i) (j := j) hP (mag r) (by rw [← heq, ← val_eq]; exact h)
    rw [← heq] at this ⊢
    omega
  · have g := rung_up_ge (r := r) (by omega)
    have : (lastUp X P + 2) * 4503599627370496 ≤ (up r + 1) * 4503599627370496 := Nat.mul_le_mul_right _ (by omega)
    omega

/-- WHAT IS NOT BELOW A FLOAT IS NOT ROUNDED BELOW IT. -/
theorem near_ge {X i j r : Nat} {P : Int} (h0 : X ≠ 0) (hP : P = -1074 + (i : Int) - (j : Int)) (h : val r * 2 ^ j ≤ X * 2 ^ i) : r ≤ nr X P := by
  have re := rung_eq r
  have ml := mag_lt r
  unfold nr
  rcases Nat.lt_trichotomy (up r) (lastUp X P) with hlt | heq | hgt
  · have km := kept_min (i := i) (j := j) h0 hP (by omega)
    have : (up r + 1) * 4503599627370496 ≤ lastUp X P * 4503599627370496 := Nat.mul_le_mul_right _ (by omega)
    omega
  · have := le_kept (i := i) (j := j) hP (mag r) (by rw [← heq, ← val_eq]; exact h)
    rw [← heq] at this ⊢
    omega
  · exfalso
    have a := scaled_lt h0 hP
    have b := val_ge_pow (r := r) (by omega)
    have c : 2 ^ (53 + lastUp X P) ≤ 2 ^ (52 + up r) := Nat.pow_le_pow_right (by omega) (by omega)
    rw [Nat.pow_add 2 (53 + lastUp X P) j] at a
    have d : 2 ^ (53 + lastUp X P) * 2 ^ j ≤ val r * 2 ^ j := Nat.mul_le_mul_right _ (Nat.le_trans c b)
    omega

/-- A NUMBER THAT IS A FLOAT IS ROUNDED TO THAT FLOAT. -/
theorem near_exact {X i j r : Nat} {P : Int} (s : Bool) (hr : r < 9218868437227405312) (hP : P = -1074 + (i : Int) - (j : Int)) (h : X * 2 ^ i = val r * 2 ^ j) :
    FloatKind.f64.format.nearest s X P = wd s r := by
  by_cases h0 : X = 0
  · subst h0
    have : val r = 0 := by
      rw [Nat.zero_mul] at h
      rcases Nat.mul_eq_zero.mp h.symm with h | h
      · exact h
      · exact absurd h (Nat.ne_of_gt (Nat.two_pow_pos _))
    have : r = 0 := val_inj (by rw [this]; rfl)
    rw [this, nearest_zero]
  · rw [nearest_eq s X P h0]
    have a := near_le h0 hP (Nat.le_of_eq h)
    have b := near_ge h0 hP (Nat.le_of_eq h.symm)
    have : nr X P = r := by omega
    rw [this, Nat.min_eq_left (by omega)]

/-- Every product of a number below two to the 53 by a power of two is a float, if it is not too great. -/
theorem repr (m u : Nat) (hm : m < 9007199254740992) (hu : u ≤ 2045) : ∃ r, r < 9218868437227405312 ∧ val r = m * 2 ^ u := by
  by_cases h : 4503599627370496 ≤ m
  · refine ⟨u * 4503599627370496 + m, by omega, ?_⟩
    unfold val
    rw [if_neg (by omega)]
    have e1 : (u * 4503599627370496 + m) / 4503599627370496 - 1 = u := by omega
    have e2 : 4503599627370496 + (u * 4503599627370496 + m) % 4503599627370496 = m := by omega
    rw [e1, e2]
  · induction u generalizing m with
    | zero =>
      refine ⟨m, by omega, ?_⟩
      unfold val
      rw [if_pos (by omega), Nat.pow_zero, Nat.mul_one]
    | succ k ih =>
      by_cases h2 : 4503599627370496 ≤ 2 * m
      · refine ⟨k * 4503599627370496 + 2 * m, by omega, ?_⟩
        unfold val
        rw [if_neg (by omega)]
        have e1 : (k * 4503599627370496 + 2 * m) / 4503599627370496 - 1 = k := by omega
        have e2 : 4503599627370496 + (k * 4503599627370496 + 2 * m) % 4503599627370496 = 2 * m := by omega
        rw [e1, e2, Nat.pow_succ, Nat.mul_comm (2 ^ k) 2, ← Nat.mul_assoc, Nat.mul_comm m 2]
      · obtain ⟨r, hr, e⟩ := ih (2 * m) (by omega) (by omega) h2
        refine ⟨r, hr, ?_⟩
        rw [e, Nat.pow_succ, Nat.mul_comm (2 ^ k) 2, ← Nat.mul_assoc, Nat.mul_comm m 2]

end Go.Proofs.Ytgoajapgcmpflab
