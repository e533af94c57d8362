/-
  TEXTS IN THEIR ORDER, byte by byte.
-/
import Derived.Test.YtjpabjmicaopcaaNames
namespace Go.Proofs.Ytjpabjmicaopcaa
set_option linter.unusedSimpArgs false
set_option linter.unusedVariables false

def lt (a b : ByteArray) : Bool := Op.bytesLess a.toList b.toList
def cmpB (a b : ByteArray) : Int := Lib.compareBytes a.data.toList b.data.toList
theorem cmp_facts : ∀ a b : List UInt8, (Lib.compareBytes a b < 0 ↔ Op.bytesLess a b = true) ∧ (Lib.compareBytes a b = 0 ↔ a = b)
  | [], [] => by simp [Lib.compareBytes, Op.bytesLess]
  | [], _ :: _ => by simp [Lib.compareBytes, Op.bytesLess]
  | _ :: _, [] => by simp [Lib.compareBytes, Op.bytesLess]
  | a :: xs, b :: ys => by
    have ih := cmp_facts xs ys
    unfold Lib.compareBytes Op.bytesLess
    by_cases h1 : a < b
    · have : a ≠ b := fun e => by subst e; exact UInt8.lt_irrefl _ h1
      simp [h1, this]
    · by_cases h2 : b < a
      · have : a ≠ b := fun e => by subst e; exact UInt8.lt_irrefl _ h2
        simp [h1, h2, this]
      · have h3 : a = b := UInt8.le_antisymm (UInt8.not_lt.1 h2) (UInt8.not_lt.1 h1)
        subst h3
        simp [h1, ih]
theorem cmp_lt (a b : ByteArray) : cmpB a b < 0 ↔ lt a b = true := by
  unfold cmpB lt
  rw [toL, toL]
  exact (cmp_facts _ _).1
theorem cmp_eq0 (a b : ByteArray) : cmpB a b = 0 ↔ a = b := by
  unfold cmpB
  rw [(cmp_facts _ _).2, ← eqs_iff]
  unfold eqs
  rw [toL, toL]
  simp
theorem less_irrefl : ∀ a : List UInt8, Op.bytesLess a a = false
  | [] => rfl
  | a :: xs => by simp [Op.bytesLess, less_irrefl xs, UInt8.lt_irrefl]
theorem less_trans : ∀ a b c : List UInt8, Op.bytesLess a b = true → Op.bytesLess b c = true → Op.bytesLess a c = true
  | _, [], [], _, h => by simp [Op.bytesLess] at h
  | [], [], _ :: _, h, _ => by simp [Op.bytesLess] at h
  | [], _ :: _, [], _, h => by simp [Op.bytesLess] at h
  | [], _ :: _, _ :: _, _, _ => rfl
  | _ :: _, [], _, h, _ => by simp [Op.bytesLess] at h
  | _ :: _, _ :: _, [], _, h => by simp [Op.bytesLess] at h
  | a :: xs, b :: ys, c :: zs, h1, h2 => by
    have ih := less_trans xs ys zs
    simp only [Op.bytesLess] at h1 h2 ⊢
    have hab : a < b ∨ (a = b ∧ Op.bytesLess xs ys = true) := by
      by_cases h : a < b
      · exact .inl h
      · right
        by_cases h' : a = b
        · subst h'; simp [h] at h1; exact ⟨rfl, h1⟩
        · simp [h, h'] at h1
    have hbc : b < c ∨ (b = c ∧ Op.bytesLess ys zs = true) := by
      by_cases h : b < c
      · exact .inl h
      · right
        by_cases h' : b = c
        · subst h'; simp [h] at h2; exact ⟨rfl, h2⟩
        · simp [h, h'] at h2
    rcases hab with h | ⟨rfl, h⟩
    · have : a < c := by
        rcases hbc with k | ⟨rfl, _⟩
        · exact UInt8.lt_trans h k
        · exact h
      simp [this]
    · rcases hbc with k | ⟨rfl, k⟩
      · simp [k]
      · simp [ih h k, UInt8.lt_irrefl]
theorem lt_irrefl (a : ByteArray) : lt a a = false := less_irrefl _
theorem lt_trans {a b c : ByteArray} (h : lt a b = true) (k : lt b c = true) : lt a c = true := less_trans _ _ _ h k
theorem lt_ne {a b : ByteArray} (h : lt a b = true) : a ≠ b := fun e => by subst e; rw [lt_irrefl] at h; cases h
theorem lt_asymm {a b : ByteArray} (h : lt a b = true) : lt b a = false := by
  cases hb : lt b a
  · rfl
  · have := lt_trans h hb; rw [lt_irrefl] at this; cases this
theorem cmp_anti : ∀ a b : List UInt8, 0 < Lib.compareBytes a b → Op.bytesLess b a = true
  | [], [], h => by simp [Lib.compareBytes] at h
  | [], _ :: _, h => by simp [Lib.compareBytes] at h
  | _ :: _, [], _ => rfl
  | a :: xs, b :: ys, h => by
    have ih := cmp_anti xs ys
    unfold Lib.compareBytes at h
    unfold Op.bytesLess
    by_cases h1 : a < b
    · simp [h1] at h
    · by_cases h2 : b < a
      · simp [h2]
      · have h3 : a = b := UInt8.le_antisymm (UInt8.not_lt.1 h2) (UInt8.not_lt.1 h1)
        subst h3
        simp [h1] at h ⊢
        exact ih h
theorem lt_total (a b : ByteArray) : lt a b = true ∨ a = b ∨ lt b a = true := by
  rcases Int.lt_trichotomy (cmpB a b) 0 with h | h | h
  · exact .inl ((cmp_lt a b).1 h)
  · exact .inr (.inl ((cmp_eq0 a b).1 h))
  · refine .inr (.inr ?_)
    unfold lt
    rw [toL, toL]
    exact cmp_anti _ _ h

theorem leq_of {a b : ByteArray} (h : lt a b = false) : (Op.bytesLess b.toList a.toList || b.toList == a.toList) = true := by
  rcases lt_total a b with h1 | h1 | h1
  · rw [h] at h1; cases h1
  · subst h1; simp
  · have : Op.bytesLess b.toList a.toList = true := h1
    simp [this]
theorem leq_not {a b : ByteArray} (h : lt a b = true) : (Op.bytesLess b.toList a.toList || b.toList == a.toList) = false := by
  have h1 : Op.bytesLess b.toList a.toList = false := lt_asymm h
  have h2 : (b.toList == a.toList) = false := eqs_ne (lt_ne h).symm
  rw [h1, h2]; rfl
end Go.Proofs.Ytjpabjmicaopcaa
