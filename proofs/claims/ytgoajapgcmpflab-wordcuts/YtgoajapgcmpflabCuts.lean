/-
  A QUOTIENT OF SMALL WHOLE NUMBERS, as a float, cut off behind the point, is that of the whole numbers.
-/
import Derived.Test.YtgoajapgcmpflabSmall
namespace Go.Proofs.Ytgoajapgcmpflab
open Go.RowKit

/-- The rounding of a quotient stays between two neighbours, k and a hair below k + 1. -/
theorem quo_between {a b k m n uA uB : Nat} (hm : 4503599627370496 ≤ m) (hn : n < 9007199254740992) (hb1 : b ≤ 1048576)
    (ea : m * 2 ^ uA = a * Q) (eb : n * 2 ^ uB = b * Q) (b0 : 1 ≤ b) (n0 : 0 < n) (ha : a ≤ 33554432) (hk : k = a / b) (X : Nat)
    (hX : X = 2 * (m * 2 ^ 54 / n) + (m * 2 ^ 54 % n != 0).toNat) :
    k * Q * 2 ^ (uB + 55) ≤ X * 2 ^ (uA + E74) ∧ X * 2 ^ (uA + E74) ≤ (k * 1048576 + 1048575) * 2 ^ (E74 - 20) * 2 ^ (uB + 55) := by
  have hE := E74v
  -- the places of both: they lie near one another
  have hA : uA + 27 ≤ E74 := by
    rcases Nat.lt_or_ge E74 (uA + 27) with h | h
    · exfalso
      have p : 2 ^ E74 ≤ 2 ^ (uA + 26) := Nat.pow_le_pow_right (by omega) (by omega)
      have q : 4503599627370496 * 2 ^ uA ≤ m * 2 ^ uA := Nat.mul_le_mul_right _ hm
      have r : a * Q ≤ 33554432 * Q := Nat.mul_le_mul_right _ ha
      rw [← Q_eq, Nat.pow_add] at p
      have pos : 0 < 2 ^ uA := Nat.two_pow_pos _
      generalize 2 ^ uA = z at *
      omega
    · exact h
  have hB : E74 ≤ uB + 52 := by
    rcases Nat.lt_or_ge (uB + 52) E74 with h | h
    · exfalso
      have p : 2 ^ (uB + 53) ≤ 2 ^ E74 := Nat.pow_le_pow_right (by omega) (by omega)
      have q : n * 2 ^ uB < 9007199254740992 * 2 ^ uB := Nat.mul_lt_mul_of_pos_right hn (Nat.two_pow_pos _)
      have r : 1 * Q ≤ b * Q := Nat.mul_le_mul_right _ b0
      rw [← Q_eq, Nat.pow_add] at p
      generalize 2 ^ uB = z at *
      omega
    · exact h
  obtain ⟨g, hg⟩ : ∃ g, uB + 34 = uA + g := ⟨uB + 34 - uA, by omega⟩
  -- whole numbers
  have k1 : k * b ≤ a := by rw [hk]; exact Nat.div_mul_le_self a b
  have k2 : a < (k + 1) * b := by
    rw [hk, Nat.add_mul, Nat.one_mul]
    have := Nat.div_add_mod a b
    have := Nat.mod_lt a b0
    rw [Nat.mul_comm b] at *
    omega
  have k3 : a * 1048576 ≤ b * (k * 1048576 + 1048575) := by
    rw [Nat.add_mul, Nat.one_mul] at k2
    rw [Nat.mul_add, ← Nat.mul_assoc, Nat.mul_comm b k]
    generalize k * b = z at *
    omega
  have pQ := Q_pos
  have pA : 0 < 2 ^ uA := Nat.two_pow_pos _
  have pg : 0 < 2 ^ g := Nat.two_pow_pos _
  -- D, the dividend
  have d0 : m * 2 ^ 54 * 2 ^ uA = a * Q * 2 ^ 54 := by rw [Nat.mul_right_comm, ea]
  have e34 : 2 ^ uB * 2 ^ 34 = 2 ^ uA * 2 ^ g := by rw [← Nat.pow_add, ← Nat.pow_add, hg]
  -- below
  have low : n * (k * 2 ^ 20 * 2 ^ g) ≤ m * 2 ^ 54 := by
    have s1 : n * (k * 2 ^ 20 * 2 ^ g) * 2 ^ uA = k * b * Q * 2 ^ 54 := by
      have : n * (k * 2 ^ 20 * 2 ^ g) * 2 ^ uA = k * 2 ^ 20 * (n * (2 ^ uA * 2 ^ g)) := by
        simp only [Nat.mul_comm, Nat.mul_left_comm, Nat.mul_assoc]
      rw [this, ← e34, ← Nat.mul_assoc n, eb]
      have : k * 2 ^ 20 * (b * Q * 2 ^ 34) = k * b * Q * (2 ^ 20 * 2 ^ 34) := by
        simp only [Nat.mul_comm, Nat.mul_left_comm, Nat.mul_assoc]
      rw [this, ← Nat.pow_add]
    have s2 : k * b * Q * 2 ^ 54 ≤ a * Q * 2 ^ 54 := Nat.mul_le_mul_right _ (Nat.mul_le_mul_right _ k1)
    rw [← s1, ← d0] at s2
    exact Nat.le_of_mul_le_mul_right s2 pA
  -- above
  have high : m * 2 ^ 54 ≤ n * ((k * 1048576 + 1048575) * 2 ^ g) := by
    have s1 : n * ((k * 1048576 + 1048575) * 2 ^ g) * 2 ^ uA = b * (k * 1048576 + 1048575) * Q * 2 ^ 34 := by
      have : n * ((k * 1048576 + 1048575) * 2 ^ g) * 2 ^ uA = (k * 1048576 + 1048575) * (n * (2 ^ uA * 2 ^ g)) := by
        generalize k * 1048576 + 1048575 = z
        simp only [Nat.mul_comm, Nat.mul_left_comm]
      rw [this, ← e34, ← Nat.mul_assoc n, eb]
      generalize k * 1048576 + 1048575 = z
      simp only [Nat.mul_comm, Nat.mul_left_comm, Nat.mul_assoc]
    have s2 : a * 1048576 * Q * 2 ^ 34 ≤ b * (k * 1048576 + 1048575) * Q * 2 ^ 34 := Nat.mul_le_mul_right _ (Nat.mul_le_mul_right _ k3)
    have s3 : a * Q * 2 ^ 54 = a * 1048576 * Q * 2 ^ 34 := by
      rw [show (2 : Nat) ^ 54 = 1048576 * 2 ^ 34 from by decide]
      generalize (2 : Nat) ^ 34 = z
      simp only [Nat.mul_comm, Nat.mul_left_comm, Nat.mul_assoc]
    rw [← s1, ← s3, ← d0] at s2
    exact Nat.le_of_mul_le_mul_right s2 pA
  obtain ⟨D, hD⟩ : ∃ D, D = m * 2 ^ 54 := ⟨_, rfl⟩
  rw [← hD] at low high hX
  have q1 : k * 2 ^ 20 * 2 ^ g ≤ D / n := (Nat.le_div_iff_mul_le n0).mpr (by rw [Nat.mul_comm]; exact low)
  have q2 : D / n ≤ (k * 1048576 + 1048575) * 2 ^ g := Nat.div_le_of_le_mul high
  have x1 : 2 * (k * 2 ^ 20 * 2 ^ g) ≤ X := by rw [hX]; omega
  have x2 : X ≤ 2 * ((k * 1048576 + 1048575) * 2 ^ g) := by
    rw [hX]
    by_cases hz : D % n = 0
    · rw [hz]
      show 2 * (D / n) + 0 ≤ _
      omega
    · have hb : (D % n != 0).toNat ≤ 1 := Bool.toNat_le _
      have hne : D / n ≠ (k * 1048576 + 1048575) * 2 ^ g := by
        intro h
        have := Nat.div_add_mod D n
        rw [h] at this
        omega
      omega
  clear hX
  have e55 : 2 ^ (uB + 55) = 2 ^ uA * 2 ^ g * 2 ^ 21 := by rw [← Nat.pow_add, ← Nat.pow_add, show uB + 55 = uA + g + 21 from by omega]
  have eA : 2 ^ (uA + E74) = 2 ^ uA * Q := by rw [Nat.pow_add, ← Q_eq]
  have e20 : Q = 2 ^ (E74 - 20) * 2 ^ 20 := by rw [Q_eq, ← Nat.pow_add, Nat.sub_add_cancel (by omega)]
  rw [e55, eA]
  generalize 2 ^ uA = α at *
  generalize 2 ^ g = γ at *
  constructor
  · have : k * Q * (α * γ * 2 ^ 21) = 2 * (k * 2 ^ 20 * γ) * (α * Q) := by
      rw [show (2 : Nat) ^ 21 = 2 * 2 ^ 20 from by decide]
      generalize (2 : Nat) ^ 20 = z
      simp only [Nat.mul_comm, Nat.mul_left_comm, Nat.mul_assoc]
    rw [this]
    exact Nat.mul_le_mul_right _ x1
  · have : (k * 1048576 + 1048575) * 2 ^ (E74 - 20) * (α * γ * 2 ^ 21) = 2 * ((k * 1048576 + 1048575) * γ) * (α * Q) := by
      rw [e20, show (2 : Nat) ^ 21 = 2 * 2 ^ 20 from by decide]
      generalize (2 : Nat) ^ 20 = z
      generalize k * 1048576 + 1048575 = y
      generalize 2 ^ (E74 - 20) = v
      simp only [Nat.mul_comm, Nat.mul_left_comm, Nat.mul_assoc]
    rw [this]
    exact Nat.mul_le_mul_right _ x2

/-- The quotient of small whole numbers, cut off. -/
theorem quo_cut {A B : Int} (hA : A.natAbs ≤ 33554432) (hB : B.natAbs ≤ 1048576) (b0 : B ≠ 0) : toV (fop .quo (fromI A) (fromI B)) = A.tdiv B ∧ toE (fop .quo (fromI A) (fromI B)) = 0 := by
  obtain ⟨r2, l2, e2, _, u2, s2⟩ := small_word B (by omega)
  have n2 := normal_of b0 e2
  have m2 := mag_lt r2
  have z2 : r2 ≠ 0 := fun h => b0 (rung_of_zero e2 h)
  by_cases a0 : A = 0
  · subst a0
    have f0 : fromI 0 = 0 := by decide +kernel
    have hp := parts_zero
    rw [f0]
    have e : floatBits .quo .f64 (U 0) (U (fromI B)) = some (wd (sgn (U 0) ^^ sgn (U (fromI B))) 0) := by
      rw [div_fin (by rw [hp.1]; decide) (by omega) (by omega), hp.1, show mag 0 = 0 from rfl, Nat.zero_mul, Nat.zero_div, Nat.zero_mod]
      rw [show 2 * 0 + ((0 : Nat) != 0).toNat = 0 from rfl, nearest_zero]
    rw [fop_some (Nat.zero_le _) e, Int.zero_tdiv]
    cases (sgn (U 0) ^^ sgn (U (fromI B))) <;> decide +kernel
  · obtain ⟨r1, l1, e1, _, u1, s1⟩ := small_word A (by omega)
    have n1 := normal_of a0 e1
    have hB0 : 1 ≤ B.natAbs := by omega
    have hq := quo_word a0 b0 u1 u2 l1 l2 e1 e2
    generalize hX : 2 * (mag r1 * 2 ^ 54 / mag r2) + (mag r1 * 2 ^ 54 % mag r2 != 0).toNat = X at hq
    obtain ⟨w1, w2⟩ := quo_between n1.2.1 m2 hB (by rw [← val_eq]; exact e1) (by rw [← val_eq]; exact e2) hB0 (by omega) hA rfl X hX.symm
    obtain ⟨k, hk⟩ : ∃ k, k = A.natAbs / B.natAbs := ⟨_, rfl⟩
    rw [← hk] at w1 w2
    have kA : k ≤ 33554432 := by rw [hk]; exact Nat.le_trans (Nat.div_le_self _ _) hA
    obtain ⟨rk, lk, ek⟩ := repr_small (m := k) (by omega)
    obtain ⟨rc, lc, ec⟩ := repr (k * 1048576 + 1048575) (E74 - 20) (by omega) (by have := E74v; omega)
    have P : (up r1 : Int) - (up r2 : Int) - 55 = -1074 + ((up r1 + E74 : Nat) : Int) - ((up r2 + 55 : Nat) : Int) := by have := E74v; omega
    have X0 : X ≠ 0 := by
      intro h
      rw [h, Nat.zero_mul] at w1
      -- then k is nought, and the dividend is not
      have d1 : mag r1 * 2 ^ 54 / mag r2 = 0 := by omega
      have d2 : mag r1 * 2 ^ 54 < mag r2 := by
        rcases (Nat.div_eq_zero_iff).mp d1 with h | h
        · omega
        · exact h
      have d3 : 4503599627370496 * 2 ^ 54 ≤ mag r1 * 2 ^ 54 := Nat.mul_le_mul_right _ n1.2.1
      omega
    have g1 : rk ≤ nr X ((up r1 : Int) - (up r2 : Int) - 55) := near_ge X0 P (by rw [ek]; exact w1)
    have g2 : nr X ((up r1 : Int) - (up r2 : Int) - 55) ≤ rc := near_le X0 P (by rw [ec]; exact w2)
    rw [nearest_eq _ X _ X0, Nat.min_eq_left (by omega)] at hq
    generalize nr X ((up r1 : Int) - (up r2 : Int) - 55) = R at *
    have v1 : k * Q ≤ val R := by
      rw [← ek]
      rcases Nat.lt_or_eq_of_le g1 with h | h
      · exact Nat.le_of_lt (val_mono_lt h)
      · rw [h]; exact Nat.le_refl _
    have v2 : val R < (k + 1) * Q := by
      have h1 : val R ≤ val rc := by
        rcases Nat.lt_or_eq_of_le g2 with h | h
        · exact Nat.le_of_lt (val_mono_lt h)
        · rw [h]; exact Nat.le_refl _
      have h2 : val rc < (k + 1) * Q := by
        rw [ec]
        have e20 : Q = 1048576 * 2 ^ (E74 - 20) := by
          rw [Q_eq, show 1048576 = 2 ^ 20 from by decide, ← Nat.pow_add, show 20 + (E74 - 20) = E74 from by have := E74v; omega]
        rw [e20, ← Nat.mul_assoc]
        exact Nat.mul_lt_mul_of_pos_right (by omega) (Nat.two_pow_pos _)
      omega
    have v3 : val R / Q = k := by
      apply Nat.le_antisymm
      · have := (Nat.div_lt_iff_lt_mul Q_pos).mpr v2; omega
      · exact (Nat.le_div_iff_mul_le Q_pos).mpr v1
    have v4 : R < 4890909195324358656 := by
      rw [← val_lt_iff, val_K]
      exact Nat.lt_of_lt_of_le v2 (Nat.mul_le_mul_right _ (by omega))
    rw [fop_some (by omega) hq]
    have ok : okB (Wd (sgn (U (fromI A)) ^^ sgn (U (fromI B))) R) = true := by
      apply (okB_iff _).mpr
      unfold okI
      rw [key_Wd _ (by omega)]
      unfold sg
      split <;> omega
    unfold toV toE
    rw [if_pos ok, if_pos ok]
    refine ⟨?_, rfl⟩
    unfold tr
    rw [(rung_Wd _ (by omega)).1, (rung_Wd _ (by omega)).2, v3, s1, s2, hk]
    clear hk kA
    by_cases ha : A < 0
    · obtain ⟨n, rfl⟩ : ∃ n : Nat, A = -(n : Int) := ⟨A.natAbs, by omega⟩
      by_cases hb : B < 0
      · obtain ⟨m, rfl⟩ : ∃ m : Nat, B = -(m : Int) := ⟨B.natAbs, by omega⟩
        rw [decide_eq_true ha, decide_eq_true hb, Int.neg_tdiv, Int.tdiv_neg, Int.neg_neg, Int.natAbs_neg, Int.natAbs_neg, Int.natAbs_natCast, Int.natAbs_natCast]
        rfl
      · obtain ⟨m, rfl⟩ : ∃ m : Nat, B = (m : Int) := ⟨B.natAbs, by omega⟩
        rw [decide_eq_true ha, decide_eq_false hb, Int.neg_tdiv, Int.natAbs_neg, Int.natAbs_natCast, Int.natAbs_natCast]
        rfl
    · obtain ⟨n, rfl⟩ : ∃ n : Nat, A = (n : Int) := ⟨A.natAbs, by omega⟩
      by_cases hb : B < 0
      · obtain ⟨m, rfl⟩ : ∃ m : Nat, B = -(m : Int) := ⟨B.natAbs, by omega⟩
        rw [decide_eq_false ha, decide_eq_true hb, Int.tdiv_neg, Int.natAbs_neg, Int.natAbs_natCast, Int.natAbs_natCast]
        rfl
      · obtain ⟨m, rfl⟩ : ∃ m : Nat, B = (m : Int) := ⟨B.natAbs, by omega⟩
        rw [decide_eq_false ha, decide_eq_false hb, Int.natAbs_natCast, Int.natAbs_natCast]
        rfl

end Go.Proofs.Ytgoajapgcmpflab
