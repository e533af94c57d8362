/-
  MORE PLAIN FACTS ON FLOATS AS WORDS: words that are no number, infinities and noughts among the operands; differences; quotients.
-/
import Derived.Test.YtgoajapgcmpflabFInt
namespace Go.Proofs.Ytgoajapgcmpflab
open Go.RowKit

/-- A word that is no number: what all answer of it. -/
theorem nan_facts {A b : Int} (h : 9218868437227405312 < rung (U A)) (A0 : -9223372036854775808 ≤ A) (A1 : A ≤ 9223372036854775807) (b0 : -9223372036854775808 ≤ b) (b1 : b ≤ 9223372036854775807) :
    cls A = 0 ∧ fop .add A b = 9221120237041090561 ∧ fop .add b A = 9221120237041090561 ∧ fop .sub b A = 9221120237041090561 ∧ fop .mul A b = 9221120237041090561 ∧ fop .quo A b = 9221120237041090561 ∧
    fop .quo b A = 9221120237041090561 ∧ fmax A b = 9221120237041090561 ∧ fmax b A = 9221120237041090561 ∧ less A b = 2 ∧ less b A = 2 ∧ toE A = 1 := by
  refine ⟨cls_zero.mpr h, fop_nan_left _ _ h, fop_nan_right _ _ h, fop_nan_right _ _ h, fop_nan_left _ _ h, fop_nan_left _ _ h, fop_nan_right _ _ h, ?_, ?_, ?_, ?_, ?_⟩
  · rcases fmax_cases A0 A1 b0 b1 with ⟨_, e⟩ | ⟨h1, _, _⟩
    · exact e
    · omega
  · rcases fmax_cases b0 b1 A0 A1 with ⟨_, e⟩ | ⟨_, h1, _⟩
    · exact e
    · omega
  · have := less_cases A b; omega
  · have := less_cases b A; omega
  · unfold toE
    rw [if_neg]
    intro k
    have := (okI_parts ((okB_iff A).mp k)).1
    omega

/-- The sign turned: the other one of the two. -/
theorem read_flip (y : Nat) : FloatKind.f64.format.read (wd (!sgn y) (rung y)) = (FloatKind.f64.format.read y).opposite := by
  have hp := wd_parts (!sgn y) (rung_lt y)
  rcases Nat.lt_trichotomy (rung y) 9218868437227405312 with h | h | h
  · rw [read_fin (by rw [hp.1]; exact h), read_fin h, hp.1, hp.2.1]; rfl
  · rw [read_inf (by rw [hp.1]; exact h), read_inf h, hp.2.1]; rfl
  · rw [read_nan (by rw [hp.1]; exact h), read_nan h, hp.1, hp.2.1]; rfl
theorem sub_eq_add (x y : Nat) : floatBits .sub .f64 x y = floatBits .add .f64 x (wd (!sgn y) (rung y)) := by
  simp only [floatBits, Ieee.Format.sub, Ieee.Format.add, read_flip]

theorem sub_exact {x y r : Nat} {s : Bool} (hx : rung x < 9218868437227405312) (hy : rung y < 9218868437227405312) (hr : r < 9218868437227405312)
    (h : sg (sgn x) (val (rung x)) + sg (!sgn y) (val (rung y)) = sg s (val r)) (h0 : r = 0 → s = (sgn x && !sgn y)) : floatBits .sub .f64 x y = some (wd s r) := by
  have hp := wd_parts (!sgn y) (rung_lt y)
  rw [sub_eq_add]
  refine add_exact hx (by rw [hp.1]; exact hy) hr ?_ ?_
  · rw [hp.1, hp.2.1]; exact h
  · rw [hp.2.1]; exact h0

theorem add_fin_inf {x y : Nat} (hx : rung x < 9218868437227405312) (hy : rung y = 9218868437227405312) : floatBits .add .f64 x y = some (wd (sgn y) 9218868437227405312) := by
  simp only [floatBits, Ieee.Format.add, read_fin hx, read_inf hy]; rfl
theorem sub_fin_inf {x y : Nat} (hx : rung x < 9218868437227405312) (hy : rung y = 9218868437227405312) : floatBits .sub .f64 x y = some (wd (!sgn y) 9218868437227405312) := by
  have hp := wd_parts (!sgn y) (rung_lt y)
  rw [sub_eq_add, add_fin_inf hx (by rw [hp.1]; exact hy), hp.2.1]
theorem div_fin_inf {x y : Nat} (hx : rung x < 9218868437227405312) (hy : rung y = 9218868437227405312) : floatBits .quo .f64 x y = some (wd (sgn x ^^ sgn y) 0) := by
  simp only [floatBits, Ieee.Format.div, read_fin hx, read_inf hy]; rfl
theorem div_fin_zero {x y : Nat} (hx : rung x < 9218868437227405312) (hx0 : rung x ≠ 0) (hy : rung y = 0) : floatBits .quo .f64 x y = some (wd (sgn x ^^ sgn y) 9218868437227405312) := by
  have hm : mag (rung x) ≠ 0 := fun h => hx0 (mag_zero.mp h)
  have hn : mag (rung y) = 0 := mag_zero.mpr hy
  simp only [floatBits, Ieee.Format.div, read_fin hx, read_fin (n := y) (by omega), Ieee.Datum.quotient, hn, hm, if_true, if_false]
  rfl
theorem mul_zero {x y : Nat} (hx : rung x < 9218868437227405312) (hy : rung y = 0) : floatBits .mul .f64 x y = some (wd (sgn x ^^ sgn y) 0) := by
  rw [mul_fin hx (by omega), mag_zero.mpr hy, Nat.mul_zero, nearest_zero]

/-- The quotient of two finite floats, the second not a nought. -/
theorem div_fin {x y : Nat} (hx : rung x < 9218868437227405312) (hy : rung y < 9218868437227405312) (hy0 : rung y ≠ 0) :
    floatBits .quo .f64 x y = some (FloatKind.f64.format.nearest (sgn x ^^ sgn y)
      (2 * (mag (rung x) * 2 ^ (54 + (mag (rung y)).log2 - (mag (rung x)).log2) / mag (rung y)) + (mag (rung x) * 2 ^ (54 + (mag (rung y)).log2 - (mag (rung x)).log2) % mag (rung y) != 0).toNat)
      (-1074 + (up (rung x) : Int) - (-1074 + (up (rung y) : Int)) - ((54 + (mag (rung y)).log2 - (mag (rung x)).log2 : Nat) : Int) - 1)) := by
  have hn : mag (rung y) ≠ 0 := fun h => hy0 (mag_zero.mp h)
  simp only [floatBits, Ieee.Format.div, read_fin hx, read_fin hy, Ieee.Datum.quotient, hn, if_false, Nat.shiftLeft_eq]
  rfl

/-- The words of the infinities, of the noughts. -/
theorem parts_inf : rung (U 9218868437227405312) = 9218868437227405312 ∧ sgn (U 9218868437227405312) = false := by decide +kernel
theorem parts_neg : rung (U (-4503599627370496)) = 9218868437227405312 ∧ sgn (U (-4503599627370496)) = true := by decide +kernel
theorem parts_zero : rung (U 0) = 0 ∧ sgn (U 0) = false := by decide +kernel
theorem parts_sign : rung (U (-9223372036854775808)) = 0 ∧ sgn (U (-9223372036854775808)) = true := by decide +kernel

end Go.Proofs.Ytgoajapgcmpflab
