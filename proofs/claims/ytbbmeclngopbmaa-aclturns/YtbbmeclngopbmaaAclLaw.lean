/-
  THE LAWS' SMALL FUNCTIONS: known, within.
-/
import Derived.Test.YtbbmeclngopbmaaAclModes
import Derived.Test.YtbbmeclngopbmaaAclRow
namespace Go.Proofs.Ytbbmeclngopbmaa
open Go.RowKit

def exL : List Gr := [⟨star, 1⟩, ⟨⟨#[97]⟩, 6⟩]
theorem lt_lits {a b : ByteArray} (h : Op.bytesLess a.data.toList b.data.toList = true) : lt a b = true := by unfold lt; rw [toL, toL]; exact h
theorem exL_sorted : Sorted exL := List.Pairwise.cons (fun x hx => by simp at hx; subst hx; exact lt_lits rfl) (List.pairwise_singleton _ _)
theorem exL_a : modesL exL ⟨#[97]⟩ = 6 := by
  unfold modesL look exL
  have e1 : eqs star ⟨#[97]⟩ = false := eqs_ne (by intro h; cases h)
  simp [e1, eqs_self]
theorem exL_b : modesL exL ⟨#[98]⟩ = 1 := by
  unfold modesL look exL
  have e1 : eqs star ⟨#[98]⟩ = false := eqs_ne (by intro h; cases h)
  have e2 : eqs ⟨#[97]⟩ ⟨#[98]⟩ = false := eqs_ne (by intro h; cases h)
  simp [e1, e2, eqs_self]

set_option maxHeartbeats 1000000 in
theorem known_any (w : World) : Calls Try.prog 8 #[] w fun e w' => e = .returned (.bool true) ∧ Below w.heap.size w w' := by
  have hG : GAt (w.alloc (.cells #[.string ⟨#[42]⟩, .int .i64 1, .string ⟨#[97]⟩, .int .i64 6] 40)) (some ⟨w.heap.size, 0, none⟩) exL := gat_row (heap_alloc_new w _) exL (fun j _ => by simp [cellsG, exL, star])
  have hB0 := alloc_below w (.cells #[.string ⟨#[42]⟩, .int .i64 1, .string ⟨#[97]⟩, .int .i64 6] 40)
  have h1 := fun W (hB : Below (w.alloc (.cells #[.string ⟨#[42]⟩, .int .i64 1, .string ⟨#[97]⟩, .int .i64 6] 40)).heap.size (w.alloc (.cells #[.string ⟨#[42]⟩, .int .i64 1, .string ⟨#[97]⟩, .int .i64 6] 40)) W) u => modes_any W _ 2 exL u exL_sorted (hG.below hB) (by decide)
  go_enter Try.func8, Try.ntmps8
  go_wp2_with fail
  generalize w.alloc (.cells #[.string ⟨#[42]⟩, .int .i64 1, .string ⟨#[97]⟩, .int .i64 6] 40) = W0 at hG hB0 h1 ⊢
  refine (h1 _ (Below.refl _ _) _).mono ?_
  rw [exL_a]
  rintro e w1 ⟨rfl, hB1⟩
  go_wp2_with fail
  refine (h1 _ hB1 _).mono ?_
  rw [exL_b]
  rintro e w2 ⟨rfl, hB2⟩
  go_wp2_with fail
  go_ret
  exact ⟨rfl, Below.then (Below.then hB0 hB1) hB2⟩

set_option maxHeartbeats 400000 in
theorem within_any (k m : Int) (h0 : 0 < m) (h1 : m < 1000000) (w : World) :
    Calls Try.prog 16 #[.int .i64 k, .int .i64 m] w fun e w' => e = .returned (.int .i64 (k % m)) ∧ w' = w := by
  have b1 := Int.lt_tmod_of_pos k h0
  have b2 := Int.tmod_lt_of_pos k h0
  have hm0 : ¬ m = 0 := by omega
  have hm1 : ¬ m = -1 := by omega
  by_cases hn : k.tmod m < 0
  · have e1 : k % m = k.tmod m + m := by
      rw [Int.tmod_eq_emod] at hn ⊢
      split at hn
      · have := Int.emod_nonneg k (by omega : m ≠ 0); omega
      · rename_i hc; rw [if_neg hc]; rw [Int.natAbs_of_nonneg (by omega)]; omega
    rw [e1]
    clear e1
    go_enter Try.func16, Try.ntmps16
    go_wp2
    go_ret
    exact ⟨rfl, rfl⟩
  · have e1 : k % m = k.tmod m := by
      rw [Int.tmod_eq_emod] at hn ⊢
      split
      · simp
      · rename_i hc
        rw [if_neg hc] at hn
        have := Int.emod_lt_of_pos k h0
        rw [Int.natAbs_of_nonneg (by omega)] at *
        omega
    rw [e1]
    clear e1
    go_enter Try.func16, Try.ntmps16
    go_wp2
    go_ret
    exact ⟨rfl, rfl⟩
end Go.Proofs.Ytbbmeclngopbmaa
