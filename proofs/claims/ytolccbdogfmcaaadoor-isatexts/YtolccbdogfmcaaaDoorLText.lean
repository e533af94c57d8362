/-
  NUMBERS AND LABELS AS TEXTS, for the stages behind the fourth: digits (donjonref14), decimal and Text (donjonref4).
-/
import Derived.Test.YtolccbdogfmcaaaDoorLabs
import Derived.Test.YtolccbdogfmcaaaDoorChr
import Derived.Lib.ItoaLen
namespace Go.Proofs.YtolccbdogfmcaaaDoor
open Go.RowKit
set_option maxRecDepth 8000
set_option linter.unusedSimpArgs false
set_option linter.unusedVariables false

def itoaB (n : Int) : ByteArray := ⟨(Lib.itoa n).toArray⟩
def dgB (n : Nat) : ByteArray := ⟨(Lib.decDigits n).toArray⟩
theorem app_listB (x y : List UInt8) : (⟨x.toArray⟩ : ByteArray) ++ ⟨y.toArray⟩ = ⟨(x ++ y).toArray⟩ := by
  apply ByteArray.ext
  simp [ByteArray.data_append]
theorem dg_low (n : Nat) (h : n < 10) : dgB n = chr (48 + n) := by
  unfold dgB
  rw [Lib.decDigits, dif_pos h]
  rfl
theorem dg_next (n : Nat) (h : 10 ≤ n) : dgB n = dgB (n / 10) ++ dgB (n % 10) := by
  unfold dgB
  rw [app_listB]
  congr 2
  have h2 : n % 10 < 10 := Nat.mod_lt _ (by decide)
  rw [Lib.decDigits, dif_neg (by omega), Lib.decDigits.eq_def (n % 10), dif_pos h2]
theorem dg_size : ∀ k n : Nat, n < 10 ^ (k + 1) → (dgB n).size ≤ k + 1
  | 0, n, h => by
    rw [dg_low n (by omega)]
    exact Nat.le_refl _
  | k + 1, n, h => by
    by_cases h10 : n < 10
    · rw [dg_low n h10]
      show 1 ≤ _
      omega
    · rw [dg_next n (by omega), ByteArray.size_append, dg_low (n % 10) (Nat.mod_lt _ (by decide))]
      have := dg_size k (n / 10) (by rw [Nat.pow_succ] at h; omega)
      show _ + 1 ≤ _
      omega
theorem dg_20 {n : Nat} (h : n < 18446744073709551616) : (dgB n).size ≤ 20 := dg_size 19 n (Nat.lt_trans h (by decide))
theorem itoa_pos (n : Nat) : itoaB (n : Int) = dgB n := by
  unfold itoaB dgB Lib.itoa
  rw [if_neg (by omega), Int.toNat_natCast]
theorem itoa_neg (n : Nat) (h : 0 < n) : itoaB (-(n : Int)) = (⟨#[45]⟩ : ByteArray) ++ dgB n := by
  unfold itoaB dgB Lib.itoa
  rw [if_pos (by omega), Int.natAbs_neg, Int.natAbs_natCast]
  exact (app_listB [45] _).symm
theorem itoaB_size (n : Int) (h0 : -9223372036854775808 ≤ n) (h1 : n ≤ 9223372036854775807) : (itoaB n).size ≤ 21 := by
  have := Lib.itoa_length_le n h0 h1
  unfold itoaB
  show (Lib.itoa n).toArray.size ≤ 21
  simpa using this
/-- A label's text. -/
def ltextB (l : Lab) : ByteArray := itoaB l.s ++ ⟨#[46]⟩ ++ itoaB l.c ++ ⟨#[46]⟩ ++ itoaB l.i ++ ⟨#[46]⟩ ++ itoaB l.k
theorem ltext_size {l : Lab} (h : GL l) : (ltextB l).size ≤ 100 := by
  obtain ⟨a, b, c, d, e, f, g, i⟩ := h
  have h1 := itoaB_size l.s (by omega) (by omega)
  have h2 := itoaB_size l.c (by omega) (by omega)
  have h3 := itoaB_size l.i (by omega) (by omega)
  have h4 := itoaB_size l.k (by omega) (by omega)
  unfold ltextB
  simp only [ByteArray.size_append]
  show _ + 1 + _ + 1 + _ + 1 + _ ≤ _
  omega
end Go.Proofs.YtolccbdogfmcaaaDoor
