/-
  PLAIN FACTS ON 64-BIT FLOATS, no Go in sight: which words are no number; that the order of floats is the order of their signed rungs.
-/
import GoSem.Core.Float
import Derived.Laws.FloatBits
namespace Go.Proofs.Ytgoajapgcmpflab

/-- The rung of a word: all bits but the sign. -/
def rung (n : Nat) : Nat := n % 9223372036854775808
/-- The sign of a word. -/
def sgn (n : Nat) : Bool := n / 9223372036854775808 % 2 == 1
/-- A natural number with a sign. -/
def sg (s : Bool) (n : Nat) : Int := if s then -(n : Int) else (n : Int)
/-- The signed rung. -/
def key (n : Nat) : Int := sg (sgn n) (rung n)
/-- Is the word no number? -/
def isN (n : Nat) : Bool := FloatKind.f64.format.order n n != some .eq
/-- What a rung stands for, in units of the least float. -/
def val (r : Nat) : Nat := if r < 4503599627370496 then r else (4503599627370496 + r % 4503599627370496) * 2 ^ (r / 4503599627370496 - 1)

theorem read_eq (n : Nat) : FloatKind.f64.format.read n =
    if rung n < 4503599627370496 then .number (sgn n) (rung n) (-1074)
    else if rung n < 9218868437227405312 then .number (sgn n) (4503599627370496 + rung n % 4503599627370496) (-1074 + (rung n / 4503599627370496 - 1 : Nat))
    else if rung n = 9218868437227405312 then .infinity (sgn n)
    else .nan (sgn n) (rung n - 9218868437227405312) := rfl

theorem val_mono_lt {a b : Nat} (h : a < b) : val a < val b := by
  unfold val
  have p1 : 0 < 2 ^ (a / 4503599627370496 - 1) := Nat.two_pow_pos _
  have p2 : 0 < 2 ^ (b / 4503599627370496 - 1) := Nat.two_pow_pos _
  by_cases ha : a < 4503599627370496
  · rw [if_pos ha]
    by_cases hb : b < 4503599627370496
    · rw [if_pos hb]; exact h
    · rw [if_neg hb]
      have : 4503599627370496 * 1 ≤ (4503599627370496 + b % 4503599627370496) * 2 ^ (b / 4503599627370496 - 1) := Nat.mul_le_mul (by omega) p2
      omega
  · have hb : ¬ b < 4503599627370496 := by omega
    rw [if_neg ha, if_neg hb]
    by_cases hq : a / 4503599627370496 = b / 4503599627370496
    · rw [← hq]
      exact Nat.mul_lt_mul_of_pos_right (by omega) p1
    · have hlt : a / 4503599627370496 < b / 4503599627370496 := by omega
      have e : 2 ^ (b / 4503599627370496 - 1) = 2 ^ (a / 4503599627370496 - 1) * 2 ^ (b / 4503599627370496 - a / 4503599627370496) := by
        rw [← Nat.pow_add]; congr 1; omega
      have p3 : 2 ≤ 2 ^ (b / 4503599627370496 - a / 4503599627370496) := by
        have : 2 ^ 1 ≤ 2 ^ (b / 4503599627370496 - a / 4503599627370496) := Nat.pow_le_pow_right (by omega) (by omega)
        omega
      have l1 : (4503599627370496 + a % 4503599627370496) * 2 ^ (a / 4503599627370496 - 1) < 9007199254740992 * 2 ^ (a / 4503599627370496 - 1) := Nat.mul_lt_mul_of_pos_right (by omega) p1
      have l2 : 9007199254740992 * 2 ^ (a / 4503599627370496 - 1) ≤ 4503599627370496 * 2 ^ (b / 4503599627370496 - 1) := by
        rw [e]
        have : 4503599627370496 * 2 * 2 ^ (a / 4503599627370496 - 1) ≤ 4503599627370496 * 2 ^ (b / 4503599627370496 - a / 4503599627370496) * 2 ^ (a / 4503599627370496 - 1) := Nat.mul_le_mul_right _ (Nat.mul_le_mul_left _ p3)
        rw [Nat.mul_comm (2 ^ (a / 4503599627370496 - 1)), ← Nat.mul_assoc]
        omega
      have l3 : 4503599627370496 * 2 ^ (b / 4503599627370496 - 1) ≤ (4503599627370496 + b % 4503599627370496) * 2 ^ (b / 4503599627370496 - 1) := Nat.mul_le_mul_right _ (by omega)
      omega

theorem val_zero : val 0 = 0 := rfl

theorem val_lt_iff {a b : Nat} : val a < val b ↔ a < b := by
  constructor
  · intro h
    rcases Nat.lt_trichotomy a b with h1 | h1 | h1
    · exact h1
    · subst h1; omega
    · have := val_mono_lt h1; omega
  · exact val_mono_lt

theorem val_inj {a b : Nat} (h : val a = val b) : a = b := by
  rcases Nat.lt_trichotomy a b with h1 | h1 | h1
  · have := val_mono_lt h1; omega
  · exact h1
  · have := val_mono_lt h1; omega

theorem sg_lt_iff (s t : Bool) (a b : Nat) : sg s (val a) < sg t (val b) ↔ sg s a < sg t b := by
  have h1 := @val_lt_iff a b
  have h2 := @val_lt_iff b a
  have h3 := @val_lt_iff 0 a
  have h4 := @val_lt_iff 0 b
  rw [val_zero] at h3 h4
  cases s <;> cases t <;> simp only [sg, if_true, Bool.false_eq_true, if_false] <;> omega

theorem sg_eq_iff (s t : Bool) (a b : Nat) : sg s (val a) = sg t (val b) ↔ sg s a = sg t b := by
  have h1 := sg_lt_iff s t a b
  have h2 := sg_lt_iff t s b a
  omega

/-- How two integers stand. -/
def cmpI (a b : Int) : Ordering := if a < b then .lt else if a = b then .eq else .gt

theorem compare_int (a b : Int) : compare a b = cmpI a b := rfl

theorem cmpI_val (s t : Bool) (a b : Nat) : cmpI (sg s (val a)) (sg t (val b)) = cmpI (sg s a) (sg t b) := by
  unfold cmpI
  simp only [sg_lt_iff, sg_eq_iff]

theorem cmpI_mul (a b : Int) (k : Nat) (hk : 0 < k) : cmpI (a * k) (b * k) = cmpI a b := by
  have h1 : a * (k : Int) < b * (k : Int) ↔ a < b := Int.mul_lt_mul_right (by omega)
  have h2 : a * (k : Int) = b * (k : Int) ↔ a = b := Int.mul_eq_mul_right_iff (by omega)
  unfold cmpI
  simp only [h1, h2]

theorem signed_eq (s : Bool) (m k : Nat) : Ieee.signed s m k = sg s (m * 2 ^ k) := by
  unfold Ieee.signed sg
  rw [Nat.shiftLeft_eq]

theorem sg_mul (s : Bool) (n k : Nat) : sg s n * (k : Int) = sg s (n * k) := by
  cases s <;> simp [sg, Int.neg_mul]

/-- A finite word's sign, digits and place, the place counted from the least. -/
def mag (r : Nat) : Nat := if r < 4503599627370496 then r else 4503599627370496 + r % 4503599627370496
def up (r : Nat) : Nat := r / 4503599627370496 - 1

theorem val_eq (r : Nat) : val r = mag r * 2 ^ up r := by
  unfold val mag up
  by_cases h : r < 4503599627370496
  · rw [if_pos h, if_pos h, show r / 4503599627370496 = 0 from by omega]; simp
  · rw [if_neg h, if_neg h]

theorem read_fin {n : Nat} (h : rung n < 9218868437227405312) : FloatKind.f64.format.read n = .number (sgn n) (mag (rung n)) (-1074 + (up (rung n) : Int)) := by
  rw [read_eq]
  unfold mag up
  by_cases h1 : rung n < 4503599627370496
  · rw [if_pos h1, if_pos h1, show rung n / 4503599627370496 = 0 from by omega]; rfl
  · rw [if_neg h1, if_pos h, if_neg h1]

theorem read_inf {n : Nat} (h : rung n = 9218868437227405312) : FloatKind.f64.format.read n = .infinity (sgn n) := by
  rw [read_eq, if_neg (by omega), if_neg (by omega), if_pos h]

theorem read_nan {n : Nat} (h : 9218868437227405312 < rung n) : FloatKind.f64.format.read n = .nan (sgn n) (rung n - 9218868437227405312) := by
  rw [read_eq, if_neg (by omega), if_neg (by omega), if_neg (by omega)]

theorem order_scaled (s t : Bool) (m n i j : Nat) :
    Ieee.Datum.order (.number s m (-1074 + (i : Int))) (.number t n (-1074 + (j : Int))) = some (cmpI (sg s (m * 2 ^ i)) (sg t (n * 2 ^ j))) := by
  have e1 : (-1074 + (i : Int) - min (-1074 + (i : Int)) (-1074 + (j : Int))).toNat = i - min i j := by omega
  have e2 : (-1074 + (j : Int) - min (-1074 + (i : Int)) (-1074 + (j : Int))).toNat = j - min i j := by omega
  have f1 : m * 2 ^ i = m * 2 ^ (i - min i j) * 2 ^ min i j := by rw [Nat.mul_assoc, ← Nat.pow_add]; congr 2; omega
  have f2 : n * 2 ^ j = n * 2 ^ (j - min i j) * 2 ^ min i j := by rw [Nat.mul_assoc, ← Nat.pow_add]; congr 2; omega
  simp only [Ieee.Datum.order, e1, e2, compare_int, signed_eq]
  rw [f1, f2, ← sg_mul s (m * 2 ^ (i - min i j)), ← sg_mul t (n * 2 ^ (j - min i j)), cmpI_mul _ _ _ (Nat.two_pow_pos _)]

theorem sg_inf (s : Bool) {r : Nat} (h : r < 9218868437227405312) (t : Bool) : cmpI (sg s 9218868437227405312) (sg t r) = (if s then .lt else .gt) := by
  unfold cmpI sg
  cases s <;> cases t <;> simp only [if_true, Bool.false_eq_true, if_false]
  · rw [if_neg (by omega), if_neg (by omega)]
  · rw [if_neg (by omega), if_neg (by omega)]
  · rw [if_pos (by omega)]
  · rw [if_pos (by omega)]

theorem sg_inf' (t : Bool) {r : Nat} (h : r < 9218868437227405312) (s : Bool) : cmpI (sg s r) (sg t 9218868437227405312) = (if t then .gt else .lt) := by
  unfold cmpI sg
  cases s <;> cases t <;> simp only [if_true, Bool.false_eq_true, if_false]
  · rw [if_pos (by omega)]
  · rw [if_neg (by omega), if_neg (by omega)]
  · rw [if_pos (by omega)]
  · rw [if_neg (by omega), if_neg (by omega)]

/-- THE ORDER OF FLOATS IS THE ORDER OF THEIR SIGNED RUNGS. -/
theorem order_key {x y : Nat} (hx : rung x ≤ 9218868437227405312) (hy : rung y ≤ 9218868437227405312) :
    FloatKind.f64.format.order x y = some (cmpI (key x) (key y)) := by
  unfold Ieee.Format.order key
  by_cases h1 : rung x = 9218868437227405312
  · by_cases h2 : rung y = 9218868437227405312
    · rw [read_inf h1, read_inf h2, h1, h2]
      cases sgn x <;> cases sgn y <;> rfl
    · have h3 : rung y < 9218868437227405312 := by omega
      rw [read_inf h1, read_fin h3, h1, sg_inf _ h3]; rfl
  · have h4 : rung x < 9218868437227405312 := by omega
    by_cases h2 : rung y = 9218868437227405312
    · rw [read_inf h2, read_fin h4, h2, sg_inf' _ h4]; rfl
    · have h3 : rung y < 9218868437227405312 := by omega
      rw [read_fin h3, read_fin h4, order_scaled, ← val_eq, ← val_eq, cmpI_val]

theorem order_nan_left {x : Nat} (y : Nat) (hx : 9218868437227405312 < rung x) : FloatKind.f64.format.order x y = none := by
  unfold Ieee.Format.order
  rw [read_nan hx]; rfl

theorem order_nan_right (x : Nat) {y : Nat} (hy : 9218868437227405312 < rung y) : FloatKind.f64.format.order x y = none := by
  unfold Ieee.Format.order
  rw [read_nan hy]
  cases FloatKind.f64.format.read x <;> rfl

theorem isN_iff (n : Nat) : isN n = decide (9218868437227405312 < rung n) := by
  unfold isN
  by_cases h : 9218868437227405312 < rung n
  · rw [order_nan_left n h, decide_eq_true h]; rfl
  · rw [order_key (by omega) (by omega), decide_eq_false h]
    unfold cmpI
    rw [if_neg (by omega), if_pos rfl]; rfl

theorem order_lt {x y : Nat} (hx : rung x ≤ 9218868437227405312) (hy : rung y ≤ 9218868437227405312) :
    (FloatKind.f64.format.order x y == some .lt) = decide (key x < key y) := by
  rw [order_key hx hy]; unfold cmpI
  by_cases h : key x < key y
  · rw [if_pos h, decide_eq_true h]; rfl
  · rw [if_neg h, decide_eq_false h]
    by_cases h2 : key x = key y
    · rw [if_pos h2]; rfl
    · rw [if_neg h2]; rfl

theorem order_gt {x y : Nat} (hx : rung x ≤ 9218868437227405312) (hy : rung y ≤ 9218868437227405312) :
    (FloatKind.f64.format.order x y == some .gt) = decide (key y < key x) := by
  rw [order_key hx hy]; unfold cmpI
  by_cases h : key x < key y
  · rw [if_pos h, decide_eq_false (by omega)]; rfl
  · rw [if_neg h]
    by_cases h2 : key x = key y
    · rw [if_pos h2, decide_eq_false (by omega)]; rfl
    · rw [if_neg h2, decide_eq_true (by omega)]; rfl

theorem order_eq {x y : Nat} (hx : rung x ≤ 9218868437227405312) (hy : rung y ≤ 9218868437227405312) :
    (FloatKind.f64.format.order x y == some .eq) = decide (key x = key y) := by
  rw [order_key hx hy]; unfold cmpI
  by_cases h : key x < key y
  · rw [if_pos h, decide_eq_false (by omega)]; rfl
  · rw [if_neg h]
    by_cases h2 : key x = key y
    · rw [if_pos h2, decide_eq_true h2]; rfl
    · rw [if_neg h2, decide_eq_false h2]; rfl

end Go.Proofs.Ytgoajapgcmpflab
