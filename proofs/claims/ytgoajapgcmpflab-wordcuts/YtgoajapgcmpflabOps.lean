/-
  SUMS, PRODUCTS AND QUOTIENTS OF WORDS AS FLOATS: plain facts, by sign and rung.
-/
import Derived.Test.YtgoajapgcmpflabNear
import Derived.Test.YtgoajapgcmpflabMax
namespace Go.Proofs.Ytgoajapgcmpflab
open Go.RowKit

theorem dec_cases (x y : Int) : x < y ∧ decide (x < y) = true ∨ ¬ x < y ∧ decide (x < y) = false := by
  by_cases h : x < y
  · exact Or.inl ⟨h, decide_eq_true h⟩
  · exact Or.inr ⟨h, decide_eq_false h⟩

/-- The word, with its sign, of a sign and a rung. -/
def Wd (s : Bool) (r : Nat) : Int := if s = true then (r : Int) - 9223372036854775808 else (r : Int)

theorem wd_parts (s : Bool) {r : Nat} (h : r < 9223372036854775808) : rung (wd s r) = r ∧ sgn (wd s r) = s ∧ wd s r < 18446744073709551616 := by
  unfold wd rung sgn
  cases s
  · simp only [Bool.false_eq_true, if_false]
    refine ⟨by omega, ?_, by omega⟩
    rw [Nat.div_eq_of_lt h]; rfl
  · simp only [if_true]
    refine ⟨by omega, ?_, by omega⟩
    have : (9223372036854775808 + r) / 9223372036854775808 = 1 := by omega
    rw [this]; rfl
theorem Wd_range (s : Bool) {r : Nat} (h : r < 9223372036854775808) : -9223372036854775808 ≤ Wd s r ∧ Wd s r ≤ 9223372036854775807 := by
  unfold Wd
  split <;> omega
theorem U_Wd (s : Bool) {r : Nat} (h : r < 9223372036854775808) : U (Wd s r) = wd s r := by
  unfold U Wd wd
  rw [IntKind.wrap_u64]
  split <;> omega
theorem S_wd (s : Bool) {r : Nat} (h : r < 9223372036854775808) : S (wd s r) = Wd s r := by
  rw [← U_Wd s h]
  exact S_U (Wd_range s h).1 (Wd_range s h).2
theorem toW_wd (s : Bool) {r : Nat} (h : r ≤ 9218868437227405312) : toW (wd s r) = Wd s r := by
  unfold toW
  rw [isN_iff, (wd_parts s (by omega)).1, if_neg (by simp; omega), S_wd s (by omega)]
theorem wd_of (n : Nat) (h : n < 18446744073709551616) : n = wd (sgn n) (rung n) := by
  have e := word_split n h
  unfold wd
  by_cases hs : sgn n = true
  · rw [if_pos hs] at e ⊢; exact e
  · rw [if_neg hs] at e ⊢; omega
theorem Wd_of {a : Int} (h0 : -9223372036854775808 ≤ a) (h1 : a ≤ 9223372036854775807) : a = Wd (sgn (U a)) (rung (U a)) := by
  have e : U a = wd (sgn (U a)) (rung (U a)) := wd_of (U a) (U_lt a)
  have f := S_U h0 h1
  rw [e, S_wd _ (rung_lt _)] at f
  exact f.symm
theorem Wd_neg (s : Bool) {r : Nat} (h : r < 9223372036854775808) : decide (Wd s r < 0) = s := by
  unfold Wd
  cases s
  · simp only [Bool.false_eq_true, if_false]; exact decide_eq_false (by omega)
  · simp only [if_true]; exact decide_eq_true (by omega)
theorem Wd_xor (s : Bool) {r : Nat} (h : r < 9223372036854775808) : bits .xor .i64 (Wd s r) (-9223372036854775808) = Wd (!s) r := by
  rw [xor_sign (Wd_range s h).1 (Wd_range s h).2]
  unfold Wd
  cases s
  · simp only [Bool.false_eq_true, if_false, Bool.not_false, if_true]; rw [if_neg (by omega)]
  · simp only [if_true, Bool.not_true, Bool.false_eq_true, if_false]; rw [if_pos (by omega)]; omega

/-- Whatever is rounded is a word with that sign, no NaN. -/
theorem nearest_wd (X : Nat) (P : Int) : ∃ r, r ≤ 9218868437227405312 ∧ ∀ s, FloatKind.f64.format.nearest s X P = wd s r := by
  by_cases h : X = 0
  · exact ⟨0, by omega, fun s => by rw [h, nearest_zero]⟩
  · exact ⟨min (nr X P) 9218868437227405312, Nat.min_le_right _ _, fun s => nearest_eq s X P h⟩

theorem bits_nan_left (o : BinOp) {x : Nat} (y : Nat) (h : 9218868437227405312 < rung x) : floatBits o .f64 x y = none := by
  unfold floatBits
  cases o <;> try rfl
  all_goals
    simp only [Ieee.Format.add, Ieee.Format.sub, Ieee.Format.mul, Ieee.Format.div, read_nan h]
    rfl
theorem bits_nan_right (o : BinOp) (x : Nat) {y : Nat} (h : 9218868437227405312 < rung y) : floatBits o .f64 x y = none := by
  unfold floatBits
  cases o <;> try rfl
  all_goals
    simp only [Ieee.Format.add, Ieee.Format.sub, Ieee.Format.mul, Ieee.Format.div, read_nan h]
    cases FloatKind.f64.format.read x <;> rfl

theorem fop_none {o : BinOp} {a b : Int} (h : floatBits o .f64 (U a) (U b) = none) : fop o a b = NAN := by
  unfold fop; rw [h]
theorem fop_some {o : BinOp} {a b : Int} {s : Bool} {r : Nat} (hr : r ≤ 9218868437227405312) (h : floatBits o .f64 (U a) (U b) = some (wd s r)) : fop o a b = Wd s r := by
  unfold fop; rw [h]; exact toW_wd s hr
theorem fop_nan_left (o : BinOp) {a : Int} (b : Int) (h : 9218868437227405312 < rung (U a)) : fop o a b = NAN := fop_none (bits_nan_left o _ h)
theorem fop_nan_right (o : BinOp) (a : Int) {b : Int} (h : 9218868437227405312 < rung (U b)) : fop o a b = NAN := fop_none (bits_nan_right o _ h)

/-! ### Products -/
theorem mul_fin {x y : Nat} (hx : rung x < 9218868437227405312) (hy : rung y < 9218868437227405312) :
    floatBits .mul .f64 x y = some (FloatKind.f64.format.nearest (sgn x ^^ sgn y) (mag (rung x) * mag (rung y)) (-1074 + (up (rung x) : Int) + (-1074 + (up (rung y) : Int)))) := by
  simp only [floatBits, Ieee.Format.mul, read_fin hx, read_fin hy]
  rfl
theorem mul_inf_inf {x y : Nat} (hx : rung x = 9218868437227405312) (hy : rung y = 9218868437227405312) :
    floatBits .mul .f64 x y = some (wd (sgn x ^^ sgn y) 9218868437227405312) := by
  simp only [floatBits, Ieee.Format.mul, read_inf hx, read_inf hy]
  rfl
theorem mag_zero {r : Nat} : mag r = 0 ↔ r = 0 := by
  unfold mag
  split <;> omega
theorem mul_inf_fin {x y : Nat} (hx : rung x = 9218868437227405312) (hy : rung y < 9218868437227405312) :
    floatBits .mul .f64 x y = if rung y = 0 then none else some (wd (sgn x ^^ sgn y) 9218868437227405312) := by
  simp only [floatBits, Ieee.Format.mul, read_inf hx, read_fin hy, Ieee.Datum.product, mag_zero]
  split <;> rfl
theorem mul_fin_inf {x y : Nat} (hx : rung x < 9218868437227405312) (hy : rung y = 9218868437227405312) :
    floatBits .mul .f64 x y = if rung x = 0 then none else some (wd (sgn x ^^ sgn y) 9218868437227405312) := by
  simp only [floatBits, Ieee.Format.mul, read_fin hx, read_inf hy, Ieee.Datum.product, mag_zero]
  rw [Bool.xor_comm]
  split <;> rfl

/-- A product's rung, by the rungs of both. -/
theorem mul_rung {r t : Nat} (hr : r ≤ 9218868437227405312) (ht : t ≤ 9218868437227405312) :
    ((r = 0 ∧ t = 9218868437227405312 ∨ r = 9218868437227405312 ∧ t = 0) ∧ ∀ x y, rung x = r → rung y = t → floatBits .mul .f64 x y = none) ∨
    ∃ q, q ≤ 9218868437227405312 ∧ ∀ x y, rung x = r → rung y = t → floatBits .mul .f64 x y = some (wd (sgn x ^^ sgn y) q) := by
  by_cases h1 : r = 9218868437227405312
  · by_cases h2 : t = 9218868437227405312
    · right; exact ⟨9218868437227405312, Nat.le_refl _, fun x y ex ey => mul_inf_inf (by omega) (by omega)⟩
    · by_cases h3 : t = 0
      · left; exact ⟨Or.inr ⟨h1, h3⟩, fun x y ex ey => by rw [mul_inf_fin (by omega) (by omega), if_pos (by omega)]⟩
      · right; exact ⟨9218868437227405312, Nat.le_refl _, fun x y ex ey => by rw [mul_inf_fin (by omega) (by omega), if_neg (by omega)]⟩
  · by_cases h2 : t = 9218868437227405312
    · by_cases h3 : r = 0
      · left; exact ⟨Or.inl ⟨h3, h2⟩, fun x y ex ey => by rw [mul_fin_inf (by omega) (by omega), if_pos (by omega)]⟩
      · right; exact ⟨9218868437227405312, Nat.le_refl _, fun x y ex ey => by rw [mul_fin_inf (by omega) (by omega), if_neg (by omega)]⟩
    · right
      obtain ⟨q, hq, e⟩ := nearest_wd (mag r * mag t) (-1074 + (up r : Int) + (-1074 + (up t : Int)))
      exact ⟨q, hq, fun x y ex ey => by rw [mul_fin (by omega) (by omega), ex, ey, e]⟩

theorem mul_comm_bits (x y : Nat) : floatBits .mul .f64 x y = floatBits .mul .f64 y x := by
  simp only [floatBits, Ieee.Format.mul]
  cases FloatKind.f64.format.read x <;> cases FloatKind.f64.format.read y <;> simp only [Ieee.Datum.product, Option.map, Bool.xor_comm, Nat.mul_comm, Int.add_comm]

/-! ### Sums -/
theorem add_comm_bits (x y : Nat) : floatBits .add .f64 x y = floatBits .add .f64 y x := by
  simp only [floatBits, Ieee.Format.add]
  cases hx : FloatKind.f64.format.read x <;> cases hy : FloatKind.f64.format.read y <;> simp only [Ieee.Datum.sum, Option.map]
  · rename_i s m i t n j
    rw [Int.min_comm i j, Bool.and_comm s t, Int.add_comm]
  · rename_i s t
    by_cases h : s = t
    · subst h; simp
    · rw [if_neg h, if_neg (fun e => h e.symm)]

/-- The sum of two finite floats: what is rounded, and its sign. -/
theorem sum_parts (s t : Bool) (m n i j : Nat) : ∃ total : Int, ∃ base : Nat,
    Ieee.Datum.sum (.number s m (-1074 + (i : Int))) (.number t n (-1074 + (j : Int))) = some (.number (if total = 0 then s && t else decide (total < 0)) total.natAbs (-1074 + (base : Int))) ∧
    total * ((2 ^ base : Nat) : Int) = sg s (m * 2 ^ i) + sg t (n * 2 ^ j) := by
  have e1 : (-1074 + (i : Int) - (-1074 + ((min i j : Nat) : Int))).toNat = i - min i j := by omega
  have e2 : (-1074 + (j : Int) - (-1074 + ((min i j : Nat) : Int))).toNat = j - min i j := by omega
  have e3 : min (-1074 + (i : Int)) (-1074 + (j : Int)) = -1074 + ((min i j : Nat) : Int) := by omega
  have f1 : m * 2 ^ i = m * 2 ^ (i - min i j) * 2 ^ min i j := by rw [Nat.mul_assoc, ← Nat.pow_add]; congr 2; omega
  have f2 : n * 2 ^ j = n * 2 ^ (j - min i j) * 2 ^ min i j := by rw [Nat.mul_assoc, ← Nat.pow_add]; congr 2; omega
  refine ⟨sg s (m * 2 ^ (i - min i j)) + sg t (n * 2 ^ (j - min i j)), min i j, ?_, ?_⟩
  · simp only [Ieee.Datum.sum, e1, e2, e3, signed_eq]
  · rw [Int.add_mul, sg_mul, sg_mul, ← f1, ← f2]

/-- A sum that is a float. -/
theorem add_exact {x y r : Nat} {s : Bool} (hx : rung x < 9218868437227405312) (hy : rung y < 9218868437227405312) (hr : r < 9218868437227405312)
    (h : sg (sgn x) (val (rung x)) + sg (sgn y) (val (rung y)) = sg s (val r)) (h0 : r = 0 → s = (sgn x && sgn y)) : floatBits .add .f64 x y = some (wd s r) := by
  simp only [floatBits, Ieee.Format.add, read_fin hx, read_fin hy]
  obtain ⟨total, base, e, ht⟩ := sum_parts (sgn x) (sgn y) (mag (rung x)) (mag (rung y)) (up (rung x)) (up (rung y))
  rw [← val_eq, ← val_eq, h] at ht
  rw [e]
  have p : 0 < 2 ^ base := Nat.two_pow_pos _
  have hn : total.natAbs * 2 ^ base = val r * 2 ^ 0 := by
    have : (total * ((2 ^ base : Nat) : Int)).natAbs = (sg s (val r)).natAbs := by rw [ht]
    rw [Int.natAbs_mul, Int.natAbs_natCast] at this
    rw [this, Nat.pow_zero, Nat.mul_one]
    unfold sg; split <;> omega
  have hs : (if total = 0 then sgn x && sgn y else decide (total < 0)) = s := by
    by_cases hz : total = 0
    · rw [if_pos hz]
      refine (h0 ?_).symm
      rw [hz, Int.zero_mul] at ht
      have : val r = 0 := by unfold sg at ht; split at ht <;> omega
      exact val_inj (by rw [this]; rfl)
    · rw [if_neg hz]
      have pz : (0 : Int) < ((2 ^ base : Nat) : Int) := by omega
      cases s
      · apply decide_eq_false
        intro hlt
        have : total * ((2 ^ base : Nat) : Int) < 0 := Int.mul_neg_of_neg_of_pos hlt pz
        rw [ht] at this
        simp only [sg, Bool.false_eq_true, if_false] at this
        omega
      · apply decide_eq_true
        rcases Int.lt_trichotomy total 0 with h1 | h1 | h1
        · exact h1
        · exact absurd h1 hz
        · exfalso
          have : 0 < total * ((2 ^ base : Nat) : Int) := Int.mul_pos h1 pz
          rw [ht] at this
          simp only [sg, if_true] at this
          omega
  rw [hs]
  show some (FloatKind.f64.format.nearest s total.natAbs (-1074 + (base : Int))) = some (wd s r)
  rw [near_exact s hr (i := base) (j := 0) (by omega) hn]

end Go.Proofs.Ytgoajapgcmpflab
