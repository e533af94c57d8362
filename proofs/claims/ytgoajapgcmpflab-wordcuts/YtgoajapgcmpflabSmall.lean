/-
  SMALL WHOLE NUMBERS AS FLOATS: sums, differences, products and quotients of them are what whole numbers give.
-/
import Derived.Test.YtgoajapgcmpflabWithin
namespace Go.Proofs.Ytgoajapgcmpflab
open Go.RowKit

/-- The word of a small whole number. -/
theorem small_word (N : Int) (h : N.natAbs ≤ 9007199254740992) : ∃ r, r < 9218868437227405312 ∧ val r = N.natAbs * Q ∧ fromI N = Wd (decide (N < 0)) r ∧ rung (U (fromI N)) = r ∧ sgn (U (fromI N)) = decide (N < 0) := by
  obtain ⟨r, hr, e⟩ := repr_small h
  have f := fromI_exact hr e
  refine ⟨r, hr, e, f, ?_, ?_⟩
  · rw [f]; exact (rung_Wd _ (by omega)).1
  · rw [f]; exact (rung_Wd _ (by omega)).2

theorem sgQ (N : Int) : sg (decide (N < 0)) (N.natAbs * Q) = N * (Q : Int) := by
  unfold sg
  rw [Int.natCast_mul]
  by_cases h : N < 0
  · rw [decide_eq_true h, if_pos rfl, show ((N.natAbs : Nat) : Int) = -N from by omega, Int.neg_mul, Int.neg_neg]
  · rw [decide_eq_false h, if_neg (by decide), show ((N.natAbs : Nat) : Int) = N from by omega]
theorem sgQ_not (N : Int) : sg (!decide (N < 0)) (N.natAbs * Q) = -(N * (Q : Int)) := by
  rw [← sgQ N]
  unfold sg
  cases decide (N < 0) <;> simp

theorem rung_of_zero {N : Int} {r : Nat} (e : val r = N.natAbs * Q) (h : r = 0) : N = 0 := by
  rw [h, val_zero] at e
  rcases Nat.mul_eq_zero.mp e.symm with h | h
  · omega
  · exact absurd h (Nat.ne_of_gt Q_pos)

theorem small_add {A B : Int} (hA : A.natAbs ≤ 33554432) (hB : B.natAbs ≤ 33554432) : fop .add (fromI A) (fromI B) = fromI (A + B) := by
  obtain ⟨r1, h1, e1, _, u1, s1⟩ := small_word A (by omega)
  obtain ⟨r2, h2, e2, _, u2, s2⟩ := small_word B (by omega)
  obtain ⟨r, h, e, f, _, _⟩ := small_word (A + B) (by omega)
  rw [f]
  refine fop_some (by omega) (add_exact (by omega) (by omega) h ?_ ?_)
  · rw [u1, u2, s1, s2, e1, e2, e, sgQ, sgQ, sgQ, Int.add_mul]
  · intro hz
    have := rung_of_zero e hz
    rw [s1, s2]
    by_cases ha : A < 0
    · rw [decide_eq_true ha, decide_eq_false (by omega : ¬ B < 0), decide_eq_false (by omega : ¬ A + B < 0)]; rfl
    · rw [decide_eq_false ha, decide_eq_false (by omega : ¬ A + B < 0)]; rfl

theorem small_sub {A B : Int} (hA : A.natAbs ≤ 33554432) (hB : B.natAbs ≤ 33554432) : fop .sub (fromI A) (fromI B) = fromI (A - B) := by
  obtain ⟨r1, h1, e1, _, u1, s1⟩ := small_word A (by omega)
  obtain ⟨r2, h2, e2, _, u2, s2⟩ := small_word B (by omega)
  obtain ⟨r, h, e, f, _, _⟩ := small_word (A - B) (by omega)
  rw [f]
  refine fop_some (by omega) (sub_exact (by omega) (by omega) h ?_ ?_)
  · rw [u1, u2, s1, s2, e1, e2, e, sgQ, sgQ_not, sgQ, Int.sub_mul]; omega
  · intro hz
    have := rung_of_zero e hz
    rw [s1, s2]
    by_cases ha : A < 0
    · rw [decide_eq_true ha, decide_eq_true (by omega : B < 0), decide_eq_false (by omega : ¬ A - B < 0)]; rfl
    · rw [decide_eq_false ha, decide_eq_false (by omega : ¬ A - B < 0)]; rfl

theorem xor_signs {A B : Int} (hA : A ≠ 0) (hB : B ≠ 0) : (decide (A < 0) ^^ decide (B < 0)) = decide (A * B < 0) := by
  by_cases ha : A < 0
  · by_cases hb : B < 0
    · have : 0 < A * B := Int.mul_pos_of_neg_of_neg ha hb
      rw [decide_eq_true ha, decide_eq_true hb, decide_eq_false (by omega)]; rfl
    · have : A * B < 0 := Int.mul_neg_of_neg_of_pos ha (by omega)
      rw [decide_eq_true ha, decide_eq_false hb, decide_eq_true this]; rfl
  · by_cases hb : B < 0
    · have : A * B < 0 := Int.mul_neg_of_pos_of_neg (by omega) hb
      rw [decide_eq_false ha, decide_eq_true hb, decide_eq_true this]; rfl
    · have : 0 < A * B := Int.mul_pos (by omega) (by omega)
      rw [decide_eq_false ha, decide_eq_false hb, decide_eq_false (by omega)]; rfl

theorem abs_mul {A B : Int} (hA : A.natAbs ≤ 33554432) (hB : B.natAbs ≤ 33554432) : (A * B).natAbs ≤ 1125899906842624 := by
  rw [Int.natAbs_mul]
  exact Nat.mul_le_mul hA hB

theorem small_mul {A B : Int} (hA : A.natAbs ≤ 33554432) (hB : B.natAbs ≤ 33554432) (a0 : A ≠ 0) (b0 : B ≠ 0) : fop .mul (fromI A) (fromI B) = fromI (A * B) := by
  obtain ⟨r1, h1, e1, _, u1, s1⟩ := small_word A (by omega)
  obtain ⟨r2, h2, e2, _, u2, s2⟩ := small_word B (by omega)
  obtain ⟨r, h, e, f, _, _⟩ := small_word (A * B) (by have := abs_mul hA hB; omega)
  rw [f]
  refine fop_some (by omega) ?_
  rw [mul_fin (by omega) (by omega), u1, u2, s1, s2, xor_signs a0 b0]
  refine congrArg some (near_exact _ h (i := up r1 + up r2) (j := E74) (by have := E74v; omega) ?_)
  rw [e, Int.natAbs_mul, ← Q_eq, Nat.pow_add]
  have g : mag r1 * mag r2 * (2 ^ up r1 * 2 ^ up r2) = (mag r1 * 2 ^ up r1) * (mag r2 * 2 ^ up r2) := by
    rw [Nat.mul_assoc, Nat.mul_assoc]; congr 1; rw [← Nat.mul_assoc, ← Nat.mul_assoc, Nat.mul_comm (mag r2)]
  have alg : ∀ a b z : Nat, a * z * (b * z) = a * b * z * z := by
    intro a b z
    rw [Nat.mul_mul_mul_comm, Nat.mul_assoc (a * b)]
  rw [g, ← val_eq, ← val_eq, e1, e2]
  exact alg _ _ _

/-- A whole number that is not nought is a normal float. -/
theorem normal_of {N : Int} {r : Nat} (h0 : N ≠ 0) (e : val r = N.natAbs * Q) : up r ≠ 0 ∧ 4503599627370496 ≤ mag r ∧ (mag r).log2 = 52 := by
  have hv : Q ≤ val r := by
    rw [e]
    have : 1 * Q ≤ N.natAbs * Q := Nat.mul_le_mul_right _ (by omega)
    omega
  have hu : up r ≠ 0 := by
    intro h
    have l := val_lt_pow r
    rw [h] at l
    have : 2 ^ (53 + 0) ≤ 2 ^ E74 := Nat.pow_le_pow_right (by omega) (by have := E74v; omega)
    rw [← Q_eq] at this
    omega
  have hm := mag_ge hu
  refine ⟨hu, hm, ?_⟩
  have hl := mag_lt r
  exact (Nat.log2_eq_iff (by omega)).mpr ⟨hm, hl⟩

/-- The digits of the quotient, of two whole numbers that are not nought. -/
theorem quo_word {A B : Int} {r1 r2 : Nat} (a0 : A ≠ 0) (b0 : B ≠ 0) (h1 : rung (U (fromI A)) = r1) (h2 : rung (U (fromI B)) = r2) (l1 : r1 < 9218868437227405312) (l2 : r2 < 9218868437227405312)
    (e1 : val r1 = A.natAbs * Q) (e2 : val r2 = B.natAbs * Q) :
    floatBits .quo .f64 (U (fromI A)) (U (fromI B)) = some (FloatKind.f64.format.nearest (sgn (U (fromI A)) ^^ sgn (U (fromI B)))
      (2 * (mag r1 * 2 ^ 54 / mag r2) + (mag r1 * 2 ^ 54 % mag r2 != 0).toNat) ((up r1 : Int) - (up r2 : Int) - 55)) := by
  have n1 := normal_of a0 e1
  have n2 := normal_of b0 e2
  have hz : r2 ≠ 0 := by
    intro h
    exact b0 (rung_of_zero e2 h)
  rw [div_fin (by omega) (by omega) (by omega), h1, h2, n1.2.2, n2.2.2]
  congr 2
  omega

theorem small_div {A B : Int} (hA : A.natAbs ≤ 33554432) (hB : B.natAbs ≤ 33554432) (a0 : A ≠ 0) (b0 : B ≠ 0) : fop .quo (fromI (A * B)) (fromI B) = fromI A := by
  have ab0 : A * B ≠ 0 := Int.mul_ne_zero a0 b0
  obtain ⟨rA, hA', eA, fA, _, _⟩ := small_word A (by omega)
  obtain ⟨rB, hB', eB, _, uB, sB⟩ := small_word B (by omega)
  obtain ⟨rC, hC', eC, _, uC, sC⟩ := small_word (A * B) (by have := abs_mul hA hB; omega)
  have nB := normal_of b0 eB
  have nC := normal_of ab0 eC
  have lB := mag_lt rB
  -- the digits of the product are those of both, but for a power of two
  have key1 : mag rC * 2 ^ up rC = A.natAbs * (mag rB * 2 ^ up rB) := by
    rw [← val_eq, ← val_eq, eC, eB, Int.natAbs_mul, Nat.mul_assoc]
  have aN : 1 ≤ A.natAbs := by omega
  have hle : up rB ≤ up rC := by
    rcases Nat.lt_or_ge (up rC) (up rB) with hlt | hge
    · exfalso
      have vl : val rC < val rB := by
        apply val_mono_lt
        have g1 := rung_eq rC
        have g2 := rung_up_ge nB.1
        have g3 := mag_lt rC
        have : (up rC + 2) * 4503599627370496 ≤ (up rB + 1) * 4503599627370496 := Nat.mul_le_mul_right _ (by omega)
        omega
      rw [eC, eB, Int.natAbs_mul] at vl
      have : 1 * (B.natAbs * Q) ≤ A.natAbs * (B.natAbs * Q) := Nat.mul_le_mul_right _ aN
      rw [Nat.one_mul, ← Nat.mul_assoc] at this
      omega
    · exact hge
  obtain ⟨d, hd⟩ : ∃ d, up rC = up rB + d := ⟨up rC - up rB, by omega⟩
  have key2 : mag rC * 2 ^ d = A.natAbs * mag rB := by
    rw [hd, Nat.add_comm, Nat.pow_add, ← Nat.mul_assoc, ← Nat.mul_assoc] at key1
    exact Nat.eq_of_mul_eq_mul_right (Nat.two_pow_pos _) key1
  have hd54 : d ≤ 54 := by
    rcases Nat.lt_or_ge 54 d with hlt | hge
    · exfalso
      have p : 2 ^ 54 ≤ 2 ^ d := Nat.pow_le_pow_right (by omega) (by omega)
      have q1 : 4503599627370496 * 2 ^ 54 ≤ mag rC * 2 ^ d := Nat.mul_le_mul nC.2.1 p
      have q2 : A.natAbs * mag rB ≤ 33554432 * 9007199254740992 := Nat.mul_le_mul hA (by omega)
      omega
    · exact hge
  have key3 : mag rC * 2 ^ 54 = mag rB * (A.natAbs * 2 ^ (54 - d)) := by
    have : 2 ^ 54 = 2 ^ d * 2 ^ (54 - d) := by rw [← Nat.pow_add]; congr 1; omega
    rw [this, ← Nat.mul_assoc, key2, Nat.mul_comm A.natAbs, Nat.mul_assoc]
  have mB : 0 < mag rB := by omega
  rw [fA]
  refine fop_some (by omega) ?_
  rw [quo_word ab0 b0 uC uB hC' hB' eC eB, key3, Nat.mul_div_cancel_left _ mB, Nat.mul_mod_right, sC, sB, ← xor_signs a0 b0, Bool.xor_assoc, Bool.xor_self, Bool.xor_false]
  refine congrArg some (near_exact _ hA' (i := E74) (j := 55 - d) (by have := E74v; omega) ?_)
  have : 2 ^ (55 - d) = 2 * 2 ^ (54 - d) := by rw [show 55 - d = (54 - d) + 1 from by omega, Nat.pow_succ, Nat.mul_comm]
  rw [eA, this, ← Q_eq]
  show (2 * (A.natAbs * 2 ^ (54 - d)) + 0) * Q = A.natAbs * Q * (2 * 2 ^ (54 - d))
  rw [Nat.add_zero, Nat.mul_assoc A.natAbs Q, Nat.mul_left_comm Q, Nat.mul_comm Q, Nat.mul_left_comm 2, Nat.mul_assoc, Nat.mul_assoc]

end Go.Proofs.Ytgoajapgcmpflab
