/-
  WHAT IS WRITTEN IS READ AGAIN: texts, labels, numbers, behind whatever bytes and ahead of whatever bytes.
-/
import Derived.Test.YtecleampjeebaaaNodePst
namespace Go.Proofs.Ytecleampjeebaaa
open Go.RowKit
set_option linter.unusedSimpArgs false
set_option linter.unusedVariables false

theorem u8_at (pre rest : List UInt8) (c : UInt8) : u8V (pre ++ c :: rest) ⟨pre.length, 0⟩ = c.toNat ∧ u8R (pre ++ c :: rest) ⟨pre.length, 0⟩ = ⟨pre.length + 1, 0⟩ := by
  have h : pre.length < (pre ++ c :: rest).length := by simp
  constructor
  · unfold u8V
    rw [if_pos ⟨rfl, h⟩]
    simp [List.getD_eq_getElem?_getD]
  · unfold u8R
    rw [if_pos rfl, if_pos h]
theorem lowB_small {x : Int} (h0 : 0 ≤ x) (h1 : x < 256) : ((lowB x).toNat : Int) = x := by rw [lowB_nat]; omega
theorem text_back (pre rest : List UInt8) (s : ByteArray) (hs : s.size < 256) : textV (pre ++ encT s ++ rest) ⟨pre.length, 0⟩ = s ∧ textR (pre ++ encT s ++ rest) ⟨pre.length, 0⟩ = ⟨(pre ++ encT s).length, 0⟩ := by
  have hl : pre ++ encT s ++ rest = pre ++ lowB s.size :: (s.data.toList ++ rest) := by simp [encT]
  have hd : (pre ++ encT s ++ rest).drop (pre.length + 1) = s.data.toList ++ rest := by
    rw [hl, List.drop_append]
    simp
  have hn : (pre ++ encT s ++ rest).length = pre.length + 1 + s.size + rest.length := by
    rw [hl]
    simp
    omega
  obtain ⟨h1, h2⟩ := u8_at pre (s.data.toList ++ rest) (lowB s.size)
  rw [← hl] at h1 h2
  have hb : (lowB s.size).toNat = s.size := by
    have := lowB_small (x := (s.size : Int)) (by omega) (by omega)
    omega
  rw [hb] at h1
  constructor
  · unfold textV
    rw [h2, h1, if_pos ⟨rfl, by rw [hn]; dsimp only; omega⟩]
    dsimp only
    rw [hd, List.take_append_of_le_length (by rw [Array.length_toList]; exact Nat.le_refl _), List.take_of_length_le (by rw [Array.length_toList]; exact Nat.le_refl _)]
  · unfold textR
    rw [h2, h1, if_pos rfl, if_pos (by rw [hn]; dsimp only; omega), List.length_append, encT_len]
    congr 1
    dsimp only
    omega
/-- A label that four bytes can say. -/
structure Lab.Byte (x : Lab) : Prop where
  s : 0 ≤ x.s ∧ x.s < 256
  c : 0 ≤ x.c ∧ x.c < 256
  i : 0 ≤ x.i ∧ x.i < 256
  k : 0 ≤ x.k ∧ x.k < 256
theorem lab_back (pre rest : List UInt8) (x : Lab) (hx : x.Byte) : labV (pre ++ encL x ++ rest) ⟨pre.length, 0⟩ = x ∧ labR (pre ++ encL x ++ rest) ⟨pre.length, 0⟩ = ⟨(pre ++ encL x).length, 0⟩ := by
  have e0 : pre ++ encL x ++ rest = pre ++ lowB x.s :: (lowB x.c :: lowB x.i :: lowB x.k :: rest) := by simp [encL]
  have e1 : pre ++ encL x ++ rest = (pre ++ [lowB x.s]) ++ lowB x.c :: (lowB x.i :: lowB x.k :: rest) := by simp [encL]
  have e2 : pre ++ encL x ++ rest = (pre ++ [lowB x.s, lowB x.c]) ++ lowB x.i :: (lowB x.k :: rest) := by simp [encL]
  have e3 : pre ++ encL x ++ rest = (pre ++ [lowB x.s, lowB x.c, lowB x.i]) ++ lowB x.k :: rest := by simp [encL]
  obtain ⟨a0, b0⟩ := u8_at pre (lowB x.c :: lowB x.i :: lowB x.k :: rest) (lowB x.s)
  obtain ⟨a1, b1⟩ := u8_at (pre ++ [lowB x.s]) (lowB x.i :: lowB x.k :: rest) (lowB x.c)
  obtain ⟨a2, b2⟩ := u8_at (pre ++ [lowB x.s, lowB x.c]) (lowB x.k :: rest) (lowB x.i)
  obtain ⟨a3, b3⟩ := u8_at (pre ++ [lowB x.s, lowB x.c, lowB x.i]) rest (lowB x.k)
  rw [← e0] at a0 b0
  rw [← e1] at a1 b1
  rw [← e2] at a2 b2
  rw [← e3] at a3 b3
  generalize pre ++ encL x ++ rest = l at *
  have n1 : (pre ++ [lowB x.s]).length = pre.length + 1 := by simp
  have n2 : (pre ++ [lowB x.s, lowB x.c]).length = pre.length + 2 := by simp
  have n3 : (pre ++ [lowB x.s, lowB x.c, lowB x.i]).length = pre.length + 3 := by simp
  rw [n1] at a1 b1
  rw [n2] at a2 b2
  rw [n3] at a3 b3
  unfold labV labR
  rw [b0, b1, b2, b3, a0, a1, a2, a3, lowB_small hx.s.1 hx.s.2, lowB_small hx.c.1 hx.c.2, lowB_small hx.i.1 hx.i.2, lowB_small hx.k.1 hx.k.2, List.length_append, encL_len]
  exact ⟨rfl, rfl⟩
theorem num_to (pre rest : List UInt8) (s : Nat) (hs : s < 18446744073709551616) (k : Nat) (hk : k ≤ 8) : numTo (pre ++ saltTo s 8 ++ rest) ⟨pre.length, 0⟩ k = s / 2 ^ (8 * (8 - k)) ∧ numR (pre ++ saltTo s 8 ++ rest) ⟨pre.length, 0⟩ k = ⟨pre.length + k, 0⟩ := by
  induction k with
  | zero =>
    refine ⟨?_, rfl⟩
    rw [numTo, Nat.div_eq_of_lt]
    exact hs
  | succ k ih =>
    obtain ⟨h1, h2⟩ := ih (by omega)
    have hsp : pre ++ saltTo s 8 ++ rest = (pre ++ saltTo s k) ++ UInt8.ofNat (s / 2 ^ (8 * (7 - k))) :: (((saltTo s 8).drop (k + 1)) ++ rest) := by
      have hd : saltTo s 8 = saltTo s k ++ UInt8.ofNat (s / 2 ^ (8 * (7 - k))) :: (saltTo s 8).drop (k + 1) := by
        have ht : (saltTo s 8).take (k + 1) = saltTo s (k + 1) := by
          unfold saltTo
          rw [← List.map_take, List.take_range, Nat.min_eq_left (by omega)]
        have := List.take_append_drop (k + 1) (saltTo s 8)
        rw [ht, saltTo_succ] at this
        rw [List.append_assoc] at this
        exact this.symm
      obtain ⟨D, hD⟩ : ∃ D, (saltTo s 8).drop (k + 1) = D := ⟨_, rfl⟩
      rw [hD] at hd ⊢
      rw [hd]
      simp
    have hu := u8_at (pre ++ saltTo s k) (((saltTo s 8).drop (k + 1)) ++ rest) (UInt8.ofNat (s / 2 ^ (8 * (7 - k))))
    rw [← hsp, List.length_append, saltTo_len] at hu
    rw [numTo, numR, h2, h1, hu.1, hu.2]
    refine ⟨?_, rfl⟩
    have hp : 8 * (8 - k) = 8 * (7 - k) + 8 := by omega
    have hq : 8 * (8 - (k + 1)) = 8 * (7 - k) := by omega
    rw [hp, hq, Nat.pow_add, ← Nat.div_div_eq_div_mul]
    simp [UInt8.toNat_ofNat']
    omega
theorem num_back (pre rest : List UInt8) (x : Int) (hx : -9223372036854775808 ≤ x ∧ x ≤ 9223372036854775807) : numV (pre ++ encW x ++ rest) ⟨pre.length, 0⟩ = x ∧ numR8 (pre ++ encW x ++ rest) ⟨pre.length, 0⟩ = ⟨(pre ++ encW x).length, 0⟩ := by
  obtain ⟨h1, h2⟩ := num_to pre rest (saltN x) (saltN_lt x) 8 (Nat.le_refl _)
  unfold numV numR8 encW
  rw [h1, h2, List.length_append, saltTo_len]
  refine ⟨?_, rfl⟩
  simp
  unfold wordV saltN
  split <;> omega
end Go.Proofs.Ytecleampjeebaaa
