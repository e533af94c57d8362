/-
  THE GREATER OF TWO FLOATS: plain facts: where neither is less, both are one word, or noughts; the answer is one of the two, and not less than either.
-/
import Derived.Test.YtgoajapgcmpflabMore
namespace Go.Proofs.Ytgoajapgcmpflab
open Go.RowKit

theorem less_cases (a b : Int) : (9218868437227405312 < rung (U a) ∨ 9218868437227405312 < rung (U b)) ∧ less a b = 2 ∨
    rung (U a) ≤ 9218868437227405312 ∧ rung (U b) ≤ 9218868437227405312 ∧ (key (U a) < key (U b) ∧ less a b = 1 ∨ ¬ key (U a) < key (U b) ∧ less a b = 0) := by
  unfold less
  by_cases h1 : 9218868437227405312 < rung (U a)
  · simp [h1]
  · by_cases h2 : 9218868437227405312 < rung (U b)
    · simp [h1, h2]
    · by_cases h3 : key (U a) < key (U b)
      · simp [h1, h2, h3]; omega
      · simp [h1, h2, h3]; omega

theorem key_pos {a : Int} (h0 : 0 ≤ a) (h1 : a ≤ 9223372036854775807) : key (U a) = a := by
  have h := U_pos h0 h1
  unfold key sg
  rw [h.2.1]
  simp only [Bool.false_eq_true, if_false]
  exact h.2.2
theorem key_neg {a : Int} (h0 : a < 0) (h1 : -9223372036854775808 ≤ a) : key (U a) = -(a + 9223372036854775808) := by
  have h := U_neg h0 h1
  unfold key sg
  rw [h.2.1]
  simp only [if_true]
  omega

/-- Neither less: one word, or two noughts. -/
theorem key_eq_cases {a b : Int} (a0 : -9223372036854775808 ≤ a) (a1 : a ≤ 9223372036854775807) (b0 : -9223372036854775808 ≤ b) (b1 : b ≤ 9223372036854775807)
    (h : key (U a) = key (U b)) : a = b ∨ a = 0 ∧ b = -9223372036854775808 ∨ a = -9223372036854775808 ∧ b = 0 := by
  by_cases ha : a < 0 <;> by_cases hb : b < 0
  · rw [key_neg ha a0, key_neg hb b0] at h; omega
  · rw [key_neg ha a0, key_pos (by omega) b1] at h; omega
  · rw [key_pos (by omega) a1, key_neg hb b0] at h; omega
  · rw [key_pos (by omega) a1, key_pos (by omega) b1] at h; omega

theorem and_self {a : Int} (a0 : -9223372036854775808 ≤ a) (a1 : a ≤ 9223372036854775807) : bits .and .i64 a a = a := by
  have e0 : bits .and .i64 a a = IntKind.i64.wrap (((BitVec.ofInt 64 a).toNat &&& (BitVec.ofInt 64 a).toNat : Nat) : Int) :=
    congrArg (fun n : Nat => IntKind.i64.wrap (n : Int)) (BitVec.toNat_and (BitVec.ofInt 64 a) (BitVec.ofInt 64 a))
  rw [e0, wrap64_i, Nat.and_self, ofInt_U]
  exact S_U a0 a1
theorem and_noughts : bits .and .i64 0 (-9223372036854775808) = 0 := by decide +kernel
theorem and_noughts' : bits .and .i64 (-9223372036854775808) 0 = 0 := by decide +kernel

/-- The greater one: none, if either is; else one of the two; not less than either. -/
theorem fmax_cases {a b : Int} (a0 : -9223372036854775808 ≤ a) (a1 : a ≤ 9223372036854775807) (b0 : -9223372036854775808 ≤ b) (b1 : b ≤ 9223372036854775807) :
    (9218868437227405312 < rung (U a) ∨ 9218868437227405312 < rung (U b)) ∧ fmax a b = NAN ∨
    rung (U a) ≤ 9218868437227405312 ∧ rung (U b) ≤ 9218868437227405312 ∧
      (key (U b) < key (U a) ∧ fmax a b = a ∨ key (U a) < key (U b) ∧ fmax a b = b ∨ key (U a) = key (U b) ∧ fmax a b = (if a < 0 then b else a)) := by
  unfold fmax
  rcases less_cases a b with ⟨h, e⟩ | ⟨h1, h2, ⟨h3, e⟩ | ⟨h3, e⟩⟩
  · left; exact ⟨h, by rw [if_pos e]⟩
  · right; refine ⟨h1, h2, Or.inr (Or.inl ⟨h3, ?_⟩)⟩
    rw [if_neg (by omega), if_pos e]
  · right; refine ⟨h1, h2, ?_⟩
    rw [if_neg (by omega), if_neg (by omega)]
    rcases less_cases b a with ⟨h, e'⟩ | ⟨_, _, ⟨h4, e'⟩ | ⟨h4, e'⟩⟩
    · omega
    · left; exact ⟨h4, by rw [if_pos e']⟩
    · right; right
      refine ⟨by omega, ?_⟩
      rw [if_neg (by omega)]
      rcases key_eq_cases a0 a1 b0 b1 (by omega) with rfl | ⟨rfl, rfl⟩ | ⟨rfl, rfl⟩
      · rw [and_self a0 a1]; split <;> rfl
      · rw [and_noughts]; rfl
      · rw [and_noughts']; rfl

end Go.Proofs.Ytgoajapgcmpflab
