/-
  BITS OF WORDS: a sum of parts that do not meet is their or; the low bits are a remainder; one bit turned.
-/
import Derived.Test.YtolccbdogfmcaaaDoorIsaPure
import Derived.Test.YtolccbdogfmcaaaDoorLabs
namespace Go.Proofs.YtolccbdogfmcaaaDoor
open Go.RowKit
set_option maxRecDepth 8000
set_option linter.unusedSimpArgs false
set_option linter.unusedVariables false

theorem bor63 (a b : Nat) (ha : a < 9223372036854775808) (hb : b < 9223372036854775808) : bits .or .i64 (a : Int) (b : Int) = ((a ||| b : Nat) : Int) := by
  have hx : a ||| b < 2 ^ 63 := Nat.or_lt_two_pow (by omega) (by omega)
  show IntKind.i64.wrap ((BitVec.ofInt 64 (a : Int) ||| BitVec.ofInt 64 (b : Int)).toNat : Int) = _
  rw [BitVec.toNat_or, ofInt_nat a (by omega), ofInt_nat b (by omega), wrap_small _ (by omega)]
theorem or_sum {x k b : Nat} (hb : b < 2 ^ k) : (x * 2 ^ k) ||| b = x * 2 ^ k + b := by
  have := Nat.shiftLeft_add_eq_or_of_lt hb x
  rw [Nat.shiftLeft_eq] at this
  exact this.symm
/-- Two parts that do not meet. -/
theorem or_parts {x : Int} {b : Int} (k : Nat) (m : Int) (hm : m = ((2 ^ k : Nat) : Int)) (hx : 0 ≤ x) (hb0 : 0 ≤ b) (hb : b < m) (hs : x * m + b < 9223372036854775808) : bits .or .i64 (x * m) b = x * m + b := by
  obtain ⟨xn, rfl⟩ := Int.eq_ofNat_of_zero_le hx
  obtain ⟨bn, rfl⟩ := Int.eq_ofNat_of_zero_le hb0
  subst hm
  have e1 : ((xn : Int) * ((2 ^ k : Nat) : Int)) = ((xn * 2 ^ k : Nat) : Int) := by rw [Int.natCast_mul]
  rw [e1] at hs ⊢
  have h1 : xn * 2 ^ k + bn < 9223372036854775808 := by omega
  rw [bor63 _ _ (by omega) (by omega), or_sum (by omega), Int.natCast_add]
theorem or_ins {o p n : Int} (h0 : 0 ≤ o) (h1 : o ≤ 22) (h2 : 0 ≤ p) (h3 : p ≤ 3) : bits .or .i64 (bits .or .i64 (o * 72057594037927936) (p * 281474976710656)) (n % 4294967296) = o * 72057594037927936 + p * 281474976710656 + n % 4294967296 := by
  rw [or_parts 56 72057594037927936 (by decide) h0 (by omega) (by omega) (by omega)]
  have e : o * 72057594037927936 + p * 281474976710656 = (o * 256 + p) * 281474976710656 := by omega
  have e2 : (o * 256 + p) * 281474976710656 = ((o * 256 + p) * 65536) * 4294967296 := by omega
  rw [e, e2]
  exact or_parts 32 4294967296 (by decide) (by omega) (by omega) (by omega) (by omega)
theorem or_ptr {r s f : Int} (h0 : 0 ≤ r) (h1 : r < 8) (h2 : 0 ≤ s) (h3 : s < 65536) : bits .or .i64 (bits .or .i64 (r * 281474976710656) (s * 4294967296)) (f % 4294967296) = r * 281474976710656 + s * 4294967296 + f % 4294967296 := by
  rw [or_parts 48 281474976710656 (by decide) h0 (by omega) (by omega) (by omega)]
  have e : r * 281474976710656 + s * 4294967296 = (r * 65536 + s) * 4294967296 := by omega
  rw [e]
  exact or_parts 32 4294967296 (by decide) (by omega) (by omega) (by omega) (by omega)
theorem ofInt_any (x : Int) : (BitVec.ofInt 64 x).toNat = (x % 18446744073709551616).toNat := by
  rw [BitVec.toNat_ofInt]
  rfl
theorem and_low (k x : Nat) : x &&& (2 ^ k - 1) = x % 2 ^ k := Nat.and_two_pow_sub_one_eq_mod x k
theorem mask_nat (k : Nat) (hk : k ≤ 62) (x : Int) : ((x % 18446744073709551616).toNat % 2 ^ k : Nat) = (x % ((2 ^ k : Nat) : Int)).toNat := by
  have hd : ((2 ^ k : Nat) : Int) ∣ 18446744073709551616 := by
    have : (18446744073709551616 : Int) = ((2 ^ 64 : Nat) : Int) := by decide
    rw [this]
    exact Int.natCast_dvd_natCast.2 (Nat.pow_dvd_pow 2 (by omega))
  have hp : (0 : Int) < ((2 ^ k : Nat) : Int) := by exact_mod_cast Nat.two_pow_pos k
  have h1 : x % 18446744073709551616 % ((2 ^ k : Nat) : Int) = x % ((2 ^ k : Nat) : Int) := Int.emod_emod_of_dvd x hd
  have h0 : 0 ≤ x % 18446744073709551616 := by omega
  rw [← h1]
  obtain ⟨u, hu⟩ := Int.eq_ofNat_of_zero_le h0
  rw [hu, Int.toNat_natCast, ← Int.natCast_emod, Int.toNat_natCast]
/-- The low bits of a whole number. -/
theorem and_i64 (k : Nat) (hk : k ≤ 62) (m c : Int) (hm : m = ((2 ^ k : Nat) : Int)) (hc : c = m - 1) (x : Int) : bits .and .i64 x c = x % m := by
  have hp : 0 < 2 ^ k := Nat.two_pow_pos k
  have hk63 : 2 ^ k < 9223372036854775808 := Nat.lt_of_le_of_lt (Nat.pow_le_pow_right (by decide) hk) (by decide)
  have ec : c = ((2 ^ k - 1 : Nat) : Int) := by rw [hc, hm]; omega
  subst ec
  show IntKind.i64.wrap ((BitVec.ofInt 64 x &&& BitVec.ofInt 64 ((2 ^ k - 1 : Nat) : Int)).toNat : Int) = _
  rw [BitVec.toNat_and, ofInt_nat (2 ^ k - 1) (by omega), ofInt_any, and_low, mask_nat k hk, ← hm]
  have h0 : 0 ≤ x % m := Int.emod_nonneg _ (by omega)
  have h1 : x % m < m := Int.emod_lt_of_pos _ (by omega)
  rw [Int.toNat_of_nonneg h0, IntKind.wrap_i64]
  omega
theorem and_u64 (k : Nat) (hk : k ≤ 62) (m c : Int) (hm : m = ((2 ^ k : Nat) : Int)) (hc : c = m - 1) (x : Int) : bits .and .u64 x c = x % m := by
  have hp : 0 < 2 ^ k := Nat.two_pow_pos k
  have hk63 : 2 ^ k < 9223372036854775808 := Nat.lt_of_le_of_lt (Nat.pow_le_pow_right (by decide) hk) (by decide)
  have ec : c = ((2 ^ k - 1 : Nat) : Int) := by rw [hc, hm]; omega
  subst ec
  show IntKind.u64.wrap ((BitVec.ofInt 64 x &&& BitVec.ofInt 64 ((2 ^ k - 1 : Nat) : Int)).toNat : Int) = _
  rw [BitVec.toNat_and, ofInt_nat (2 ^ k - 1) (by omega), ofInt_any, and_low, mask_nat k hk, ← hm]
  have h0 : 0 ≤ x % m := Int.emod_nonneg _ (by omega)
  have h1 : x % m < m := Int.emod_lt_of_pos _ (by omega)
  rw [Int.toNat_of_nonneg h0, IntKind.wrap_u64]
  omega
/-- A bit that was nought, turned. -/
theorem xor_bit {h l k : Nat} (hl : l < 2 ^ k) : (h * 2 ^ (k + 1) + l) ^^^ 2 ^ k = h * 2 ^ (k + 1) + 2 ^ k + l := by
  have hl2 : l < 2 ^ (k + 1) := Nat.lt_of_lt_of_le hl (Nat.pow_le_pow_right (by decide) (Nat.le_succ k))
  have hs : 2 ^ k + l < 2 ^ (k + 1) := by rw [Nat.pow_succ]; omega
  have hb : (h * 2 ^ (k + 1) + l).testBit k = false := by
    rw [Nat.mul_comm, Nat.testBit_two_pow_mul_add _ hl2, if_pos (Nat.lt_succ_self k)]
    exact Nat.testBit_lt_two_pow hl
  have h1 : (h * 2 ^ (k + 1) + l) ^^^ 2 ^ k = (h * 2 ^ (k + 1) + l) ||| 2 ^ k := by
    apply Nat.eq_of_testBit_eq
    intro j
    rw [Nat.testBit_xor, Nat.testBit_or, Nat.testBit_two_pow]
    by_cases hj : k = j
    · subst hj; simp [hb]
    · simp [hj]
  have h2 : (1 * 2 ^ k) ||| l = 1 * 2 ^ k + l := or_sum hl
  rw [Nat.one_mul] at h2
  rw [h1, ← or_sum hl2, Nat.or_assoc, Nat.or_comm l, h2, or_sum hs]
  omega
theorem bxor63 (a b : Nat) (ha : a < 9223372036854775808) (hb : b < 9223372036854775808) : bits .xor .i64 (a : Int) (b : Int) = ((a ^^^ b : Nat) : Int) := by
  have hx : a ^^^ b < 2 ^ 63 := Nat.xor_lt_two_pow (by omega) (by omega)
  show IntKind.i64.wrap ((BitVec.ofInt 64 (a : Int) ^^^ BitVec.ofInt 64 (b : Int)).toNat : Int) = _
  rw [BitVec.toNat_xor, ofInt_nat a (by omega), ofInt_nat b (by omega), wrap_small _ (by omega)]
end Go.Proofs.YtolccbdogfmcaaaDoor
