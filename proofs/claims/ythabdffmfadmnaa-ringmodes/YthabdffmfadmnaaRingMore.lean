/-
  PACKAGE ring: Check, Call, Follow, and the laws' Good and known.
-/
import Derived.Test.YthabdffmfadmnaaRingBase
namespace Go.Proofs.Ythabdffmfadmnaa
open Go.RowKit
set_option linter.unusedSimpArgs false

set_option maxHeartbeats 1000000 in
theorem check_any (x : Rg) (w : World) :
    Calls Try.prog 9 #[x.v] w fun e w' => e = .returned (.int .i64 (chkR x)) ∧ Below w.heap.size w w' := by
  by_cases h0 : x.a < 0
  · have e1 : chkR x = 1 := by rw [chkR, if_neg (by unfold OkR; omega)]
    rw [e1]
    go_enter Try.func9, Try.ntmps9
    go_wp2
    go_ret
    exact ⟨rfl, below1 _ _⟩
  by_cases h1 : x.b < x.a
  · have e1 : chkR x = 1 := by rw [chkR, if_neg (by unfold OkR; omega)]
    rw [e1]
    go_enter Try.func9, Try.ntmps9
    go_wp2
    go_ret
    exact ⟨rfl, below1 _ _⟩
  by_cases h2 : x.c < x.b
  · have e1 : chkR x = 1 := by rw [chkR, if_neg (by unfold OkR; omega)]
    rw [e1]
    go_enter Try.func9, Try.ntmps9
    go_wp2
    go_ret
    exact ⟨rfl, below1 _ _⟩
  by_cases h3 : 7 < x.c
  · have e1 : chkR x = 1 := by rw [chkR, if_neg (by unfold OkR; omega)]
    rw [e1]
    go_enter Try.func9, Try.ntmps9
    go_wp2
    go_ret
    exact ⟨rfl, below1 _ _⟩
  by_cases h4 : x.g < 0
  · have e1 : chkR x = 1 := by rw [chkR, if_neg (by unfold OkR; omega)]
    rw [e1]
    go_enter Try.func9, Try.ntmps9
    go_wp2
    go_ret
    exact ⟨rfl, below1 _ _⟩
  by_cases h5 : 16 < x.g
  · have e1 : chkR x = 1 := by rw [chkR, if_neg (by unfold OkR; omega)]
    rw [e1]
    go_enter Try.func9, Try.ntmps9
    go_wp2
    go_ret
    exact ⟨rfl, below1 _ _⟩
  have e1 : chkR x = 0 := by rw [chkR, if_pos (by unfold OkR; omega)]
  rw [e1]
  go_enter Try.func9, Try.ntmps9
  go_wp2
  go_ret
  exact ⟨rfl, below1 _ _⟩

/-- Where a call goes on, and what is answered. -/
def callN (x : Rg) (off r : Int) : Int := if off < 0 ∨ 16 ≤ off ∨ r < 0 ∨ 7 < r then 0 else if x.a ≤ r ∧ r ≤ x.b then r else if x.b < r ∧ r ≤ x.c ∧ off < x.g then x.b else if x.a ≤ r then 0 else x.a
def callE (x : Rg) (off r : Int) : Int := if off < 0 ∨ 16 ≤ off ∨ r < 0 ∨ 7 < r then 34 else if x.a ≤ r ∧ r ≤ x.b then 0 else if x.b < r ∧ r ≤ x.c ∧ off < x.g then 0 else if x.a ≤ r then 34 else 0

set_option maxHeartbeats 2000000 in
theorem call_any (x : Rg) (off r : Int) (w : World) (hx : OkR x) :
    Calls Try.prog 12 #[x.v, .int .i64 off, .int .i64 r] w fun e w' => e = .returned (.tuple #[.int .i64 (callN x off r), .int .i64 (callE x off r)]) ∧ Below w.heap.size w w' := by
  obtain ⟨x0, x1, x2, x3, x4, x5⟩ := hx
  have hc := isRing_any r
  have hm := mayExec_any x r
  have hb := boxed_alloc w x
  have hB := below1 w (.cells #[.int .i64 x.a, .int .i64 x.b, .int .i64 x.c, .int .i64 x.g] 23)
  by_cases h0 : off < 0
  · have e1 : callN x off r = 0 := by simp only [callN]; rw [if_pos (by omega)]
    have e2 : callE x off r = 34 := by simp only [callE]; rw [if_pos (by omega)]
    rw [e1, e2]
    go_enter Try.func12, Try.ntmps12
    go_wp2
    exact bodyPost_ret (v := .tuple #[.int .i64 (0), .int .i64 34]) (by simp [results, Try.results12, go_sem]) rfl ⟨rfl, below1 _ _⟩
  by_cases h1 : 16 ≤ off
  · have e1 : callN x off r = 0 := by simp only [callN]; rw [if_pos (by omega)]
    have e2 : callE x off r = 34 := by simp only [callE]; rw [if_pos (by omega)]
    rw [e1, e2]
    go_enter Try.func12, Try.ntmps12
    go_wp2
    exact bodyPost_ret (v := .tuple #[.int .i64 (0), .int .i64 34]) (by simp [results, Try.results12, go_sem]) rfl ⟨rfl, below1 _ _⟩
  cases h2 : isR r
  · have h2' := h2
    simp [isR] at h2'
    have e1 : callN x off r = 0 := by simp only [callN]; rw [if_pos (by omega)]
    have e2 : callE x off r = 34 := by simp only [callE]; rw [if_pos (by omega)]
    rw [e1, e2]
    rw [h2] at hc
    go_enter Try.func12, Try.ntmps12
    go_wp2_with (first | (go_at_call 23; refine (hc _).mono ?_; rintro e w' ⟨rfl, rfl⟩) | fail)
    exact bodyPost_ret (v := .tuple #[.int .i64 (0), .int .i64 34]) (by simp [results, Try.results12, go_sem]) rfl ⟨rfl, below1 _ _⟩
  have h2' := h2
  simp [isR] at h2'
  rw [h2] at hc
  by_cases h3 : x.a ≤ r ∧ r ≤ x.b
  · obtain ⟨h3a, h3b⟩ := id h3
    have e1 : callN x off r = r := by simp only [callN]; rw [if_neg (by omega), if_pos (by omega)]
    have e2 : callE x off r = 0 := by simp only [callE]; rw [if_neg (by omega), if_pos (by omega)]
    have e3 : mayX x r = true := by simp [mayX]; omega
    rw [e1, e2]
    rw [e3] at hm
    go_enter Try.func12, Try.ntmps12
    go_wp2_with (first | (go_at_call 23; refine (hc _).mono ?_; rintro e w' ⟨rfl, rfl⟩) | fail)
    refine (hm _).mono ?_
    rintro e w1 ⟨rfl, hB1⟩
    obtain ⟨z0, z1, z2, z3⟩ := hb.keep hB1
    go_wp2_with fail
    exact bodyPost_ret (v := .tuple #[.int .i64 (r), .int .i64 0]) (by simp [results, Try.results12, go_sem]) rfl ⟨rfl, Below.then hB hB1⟩
  by_cases h4 : r ≤ x.b
  · have h5 : r < x.a := by omega
    have e1 : callN x off r = x.a := by simp only [callN]; rw [if_neg (by omega), if_neg (by omega), if_neg (by omega), if_neg (by omega)]
    have e2 : callE x off r = 0 := by simp only [callE]; rw [if_neg (by omega), if_neg (by omega), if_neg (by omega), if_neg (by omega)]
    have e3 : mayX x r = false := by simp [mayX]; omega
    rw [e1, e2]
    rw [e3] at hm
    go_enter Try.func12, Try.ntmps12
    go_wp2_with (first | (go_at_call 23; refine (hc _).mono ?_; rintro e w' ⟨rfl, rfl⟩) | fail)
    refine (hm _).mono ?_
    rintro e w1 ⟨rfl, hB1⟩
    obtain ⟨z0, z1, z2, z3⟩ := hb.keep hB1
    go_wp2_with fail
    exact bodyPost_ret (v := .tuple #[.int .i64 (x.a), .int .i64 0]) (by simp [results, Try.results12, go_sem]) rfl ⟨rfl, Below.then hB hB1⟩
  have h6 : x.b < r := by omega
  have h7 : x.a ≤ r := by omega
  by_cases h8 : r ≤ x.c
  · by_cases h9 : off < x.g
    · skip
      have e1 : callN x off r = x.b := by simp only [callN]; rw [if_neg (by omega), if_neg (by omega), if_pos (by omega)]
      have e2 : callE x off r = 0 := by simp only [callE]; rw [if_neg (by omega), if_neg (by omega), if_pos (by omega)]
      have e3 : mayX x r = false := by simp [mayX]; omega
      rw [e1, e2]
      rw [e3] at hm
      go_enter Try.func12, Try.ntmps12
      go_wp2_with (first | (go_at_call 23; refine (hc _).mono ?_; rintro e w' ⟨rfl, rfl⟩) | fail)
      refine (hm _).mono ?_
      rintro e w1 ⟨rfl, hB1⟩
      obtain ⟨z0, z1, z2, z3⟩ := hb.keep hB1
      go_wp2_with fail
      exact bodyPost_ret (v := .tuple #[.int .i64 (x.b), .int .i64 0]) (by simp [results, Try.results12, go_sem]) rfl ⟨rfl, Below.then hB hB1⟩
    · skip
      have e1 : callN x off r = 0 := by simp only [callN]; rw [if_neg (by omega), if_neg (by omega), if_neg (by omega), if_pos (by omega)]
      have e2 : callE x off r = 34 := by simp only [callE]; rw [if_neg (by omega), if_neg (by omega), if_neg (by omega), if_pos (by omega)]
      have e3 : mayX x r = false := by simp [mayX]; omega
      rw [e1, e2]
      rw [e3] at hm
      go_enter Try.func12, Try.ntmps12
      go_wp2_with (first | (go_at_call 23; refine (hc _).mono ?_; rintro e w' ⟨rfl, rfl⟩) | fail)
      refine (hm _).mono ?_
      rintro e w1 ⟨rfl, hB1⟩
      obtain ⟨z0, z1, z2, z3⟩ := hb.keep hB1
      go_wp2_with fail
      exact bodyPost_ret (v := .tuple #[.int .i64 (0), .int .i64 34]) (by simp [results, Try.results12, go_sem]) rfl ⟨rfl, Below.then hB hB1⟩
  · skip
    have e1 : callN x off r = 0 := by simp only [callN]; rw [if_neg (by omega), if_neg (by omega), if_neg (by omega), if_pos (by omega)]
    have e2 : callE x off r = 34 := by simp only [callE]; rw [if_neg (by omega), if_neg (by omega), if_neg (by omega), if_pos (by omega)]
    have e3 : mayX x r = false := by simp [mayX]; omega
    rw [e1, e2]
    rw [e3] at hm
    go_enter Try.func12, Try.ntmps12
    go_wp2_with (first | (go_at_call 23; refine (hc _).mono ?_; rintro e w' ⟨rfl, rfl⟩) | fail)
    refine (hm _).mono ?_
    rintro e w1 ⟨rfl, hB1⟩
    obtain ⟨z0, z1, z2, z3⟩ := hb.keep hB1
    go_wp2_with fail
    exact bodyPost_ret (v := .tuple #[.int .i64 (0), .int .i64 34]) (by simp [results, Try.results12, go_sem]) rfl ⟨rfl, Below.then hB hB1⟩
end Go.Proofs.Ythabdffmfadmnaa
