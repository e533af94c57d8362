/-
  THE DOCUMENT'S OWN RINGS (donjonref6): what each call returns.
-/
import Derived.Test.YthabdffmfadmnaaRingBox
namespace Go.Proofs.Ythabdffmfadmnaa
open Go.RowKit
set_option linter.unusedSimpArgs false

set_option maxHeartbeats 400000 in
theorem risRing_any (r : Int) (w : World) :
    Calls Try.prog 24 #[.int .i64 r] w fun e w' => e = .returned (.bool (isR r)) ∧ w' = w := by
  by_cases h : 0 ≤ r
  · have e1 : isR r = decide (r ≤ 7) := by simp [isR, h]
    rw [e1]
    go_enter Try.func24, Try.ntmps24
    go_wp2
    go_ret
    exact ⟨rfl, rfl⟩
  · have e1 : isR r = false := by simp [isR, h]
    have h' : decide (0 ≤ r) = false := by simpa using h
    rw [e1]
    go_enter Try.func24, Try.ntmps24
    go_wp2
    go_ret
    exact ⟨rfl, rfl⟩

set_option maxHeartbeats 400000 in
theorem rmayRead_any (x : Rg) (r : Int) (w : World) :
    Calls Try.prog 15 #[x.v, .int .i64 r] w fun e w' => e = .returned (.bool (mayR x r)) ∧ Below w.heap.size w w' := by
  have hc := risRing_any r
  cases h : isR r
  · have e1 : mayR x r = false := by simp [isR] at h; simp [mayR]; omega
    rw [e1]; rw [h] at hc
    go_enter Try.func15, Try.ntmps15
    go_wp2_with (go_at_call 24; refine (hc _).mono ?_; rintro e w' ⟨rfl, rfl⟩)
    go_ret
    exact ⟨rfl, below1 _ _⟩
  · have e1 : mayR x r = decide (r ≤ x.b) := by simp [isR] at h; simp [mayR, h]
    rw [e1]; rw [h] at hc
    go_enter Try.func15, Try.ntmps15
    go_wp2_with (go_at_call 24; refine (hc _).mono ?_; rintro e w' ⟨rfl, rfl⟩)
    go_ret
    exact ⟨rfl, below1 _ _⟩

set_option maxHeartbeats 400000 in
theorem rmayWrite_any (x : Rg) (r : Int) (w : World) :
    Calls Try.prog 17 #[x.v, .int .i64 r] w fun e w' => e = .returned (.bool (mayW x r)) ∧ Below w.heap.size w w' := by
  have hc := risRing_any r
  cases h : isR r
  · have e1 : mayW x r = false := by simp [isR] at h; simp [mayW]; omega
    rw [e1]; rw [h] at hc
    go_enter Try.func17, Try.ntmps17
    go_wp2_with (go_at_call 24; refine (hc _).mono ?_; rintro e w' ⟨rfl, rfl⟩)
    go_ret
    exact ⟨rfl, below1 _ _⟩
  · have e1 : mayW x r = decide (r ≤ x.a) := by simp [isR] at h; simp [mayW, h]
    rw [e1]; rw [h] at hc
    go_enter Try.func17, Try.ntmps17
    go_wp2_with (go_at_call 24; refine (hc _).mono ?_; rintro e w' ⟨rfl, rfl⟩)
    go_ret
    exact ⟨rfl, below1 _ _⟩

set_option maxHeartbeats 400000 in
theorem rmayExec_any (x : Rg) (r : Int) (w : World) :
    Calls Try.prog 19 #[x.v, .int .i64 r] w fun e w' => e = .returned (.bool (mayX x r)) ∧ Below w.heap.size w w' := by
  have hc := risRing_any r
  cases h : isR r
  · have e1 : mayX x r = false := by simp [isR] at h; simp [mayX]; omega
    rw [e1]; rw [h] at hc
    go_enter Try.func19, Try.ntmps19
    go_wp2_with (go_at_call 24; refine (hc _).mono ?_; rintro e w' ⟨rfl, rfl⟩)
    go_ret
    exact ⟨rfl, below1 _ _⟩
  · by_cases h1 : x.a ≤ r
    · have e1 : mayX x r = decide (r ≤ x.b) := by simp [isR] at h; simp [mayX, h, h1]
      rw [e1]; rw [h] at hc
      go_enter Try.func19, Try.ntmps19
      go_wp2_with (go_at_call 24; refine (hc _).mono ?_; rintro e w' ⟨rfl, rfl⟩)
      go_ret
      exact ⟨rfl, below1 _ _⟩
    · have e1 : mayX x r = false := by simp [mayX, h1]
      have h' : decide (x.a ≤ r) = false := by simpa using h1
      rw [e1]; rw [h] at hc
      go_enter Try.func19, Try.ntmps19
      go_wp2_with (go_at_call 24; refine (hc _).mono ?_; rintro e w' ⟨rfl, rfl⟩)
      go_ret
      exact ⟨rfl, below1 _ _⟩
set_option maxHeartbeats 1000000 in
theorem rcheck_any (x : Rg) (w : World) :
    Calls Try.prog 10 #[x.v] w fun e w' => e = .returned (.int .i64 (chkR x)) ∧ Below w.heap.size w w' := by
  by_cases h0 : x.a < 0
  · have e1 : chkR x = 1 := by rw [chkR, if_neg (by unfold OkR; omega)]
    rw [e1]
    go_enter Try.func10, Try.ntmps10
    go_wp2
    go_ret
    exact ⟨rfl, below1 _ _⟩
  by_cases h1 : x.b < x.a
  · have e1 : chkR x = 1 := by rw [chkR, if_neg (by unfold OkR; omega)]
    rw [e1]
    go_enter Try.func10, Try.ntmps10
    go_wp2
    go_ret
    exact ⟨rfl, below1 _ _⟩
  by_cases h2 : x.c < x.b
  · have e1 : chkR x = 1 := by rw [chkR, if_neg (by unfold OkR; omega)]
    rw [e1]
    go_enter Try.func10, Try.ntmps10
    go_wp2
    go_ret
    exact ⟨rfl, below1 _ _⟩
  by_cases h3 : 7 < x.c
  · have e1 : chkR x = 1 := by rw [chkR, if_neg (by unfold OkR; omega)]
    rw [e1]
    go_enter Try.func10, Try.ntmps10
    go_wp2
    go_ret
    exact ⟨rfl, below1 _ _⟩
  by_cases h4 : x.g < 0
  · have e1 : chkR x = 1 := by rw [chkR, if_neg (by unfold OkR; omega)]
    rw [e1]
    go_enter Try.func10, Try.ntmps10
    go_wp2
    go_ret
    exact ⟨rfl, below1 _ _⟩
  by_cases h5 : 16 < x.g
  · have e1 : chkR x = 1 := by rw [chkR, if_neg (by unfold OkR; omega)]
    rw [e1]
    go_enter Try.func10, Try.ntmps10
    go_wp2
    go_ret
    exact ⟨rfl, below1 _ _⟩
  have e1 : chkR x = 0 := by rw [chkR, if_pos (by unfold OkR; omega)]
  rw [e1]
  go_enter Try.func10, Try.ntmps10
  go_wp2
  go_ret
  exact ⟨rfl, below1 _ _⟩

set_option maxHeartbeats 1000000 in
theorem rfollow_any (p : Pt) (x : Rg) (r : Int) (w : World) :
    Calls Try.prog 22 #[p.v, x.v, .int .i64 r] w fun e w' => e = .returned (follow p x r).v ∧ Below w.heap.size w w' := by
  go_enter Try.func22, Try.ntmps22
  go_wp2
  all_goals (refine bodyPost_ret (v := (follow p x r).v) ?_ rfl ⟨rfl, below3 _ _ _ _⟩; have e : (follow p x r).r = _ := rfl; simp only [follow, gmax] at e ⊢; simp [results, Try.results22, go_sem, *] <;> omega)


set_option maxHeartbeats 2000000 in
theorem rcall_any (x : Rg) (off r : Int) (w : World) (hx : OkR x) :
    Calls Try.prog 13 #[x.v, .int .i64 off, .int .i64 r] w fun e w' => e = .returned (.tuple #[.int .i64 (callN x off r), .int .i64 (callE x off r)]) ∧ Below w.heap.size w w' := by
  obtain ⟨x0, x1, x2, x3, x4, x5⟩ := hx
  have hc := risRing_any r
  have hm := rmayExec_any x r
  have hb := boxed_alloc w x
  have hB := below1 w (.cells #[.int .i64 x.a, .int .i64 x.b, .int .i64 x.c, .int .i64 x.g] 23)
  cases h2 : isR r
  · have h2' := h2
    simp [isR] at h2'
    have e1 : callN x off r = 0 := by simp only [callN]; rw [if_pos (by omega)]
    have e2 : callE x off r = 34 := by simp only [callE]; rw [if_pos (by omega)]
    rw [e1, e2]
    rw [h2] at hc
    go_enter Try.func13, Try.ntmps13
    go_wp2_with (first | (go_at_call 24; refine (hc _).mono ?_; rintro e w' ⟨rfl, rfl⟩) | fail)
    exact bodyPost_ret (v := .tuple #[.int .i64 (0), .int .i64 34]) (by simp [results, Try.results13, go_sem]) rfl ⟨rfl, below1 _ _⟩
  have h2' := h2
  simp [isR] at h2'
  rw [h2] at hc
  by_cases h0 : off < 0
  · have e1 : callN x off r = 0 := by simp only [callN]; rw [if_pos (by omega)]
    have e2 : callE x off r = 34 := by simp only [callE]; rw [if_pos (by omega)]
    rw [e1, e2]
    go_enter Try.func13, Try.ntmps13
    go_wp2_with (first | (go_at_call 24; refine (hc _).mono ?_; rintro e w' ⟨rfl, rfl⟩) | fail)
    exact bodyPost_ret (v := .tuple #[.int .i64 (0), .int .i64 34]) (by simp [results, Try.results13, go_sem]) rfl ⟨rfl, below1 _ _⟩
  by_cases h1 : 16 ≤ off
  · have e1 : callN x off r = 0 := by simp only [callN]; rw [if_pos (by omega)]
    have e2 : callE x off r = 34 := by simp only [callE]; rw [if_pos (by omega)]
    rw [e1, e2]
    go_enter Try.func13, Try.ntmps13
    go_wp2_with (first | (go_at_call 24; refine (hc _).mono ?_; rintro e w' ⟨rfl, rfl⟩) | fail)
    exact bodyPost_ret (v := .tuple #[.int .i64 (0), .int .i64 34]) (by simp [results, Try.results13, go_sem]) rfl ⟨rfl, below1 _ _⟩
  by_cases h3 : x.a ≤ r ∧ r ≤ x.b
  · obtain ⟨h3a, h3b⟩ := id h3
    have e1 : callN x off r = r := by simp only [callN]; rw [if_neg (by omega), if_pos (by omega)]
    have e2 : callE x off r = 0 := by simp only [callE]; rw [if_neg (by omega), if_pos (by omega)]
    have e3 : mayX x r = true := by simp [mayX]; omega
    rw [e1, e2]
    rw [e3] at hm
    go_enter Try.func13, Try.ntmps13
    go_wp2_with (first | (go_at_call 24; refine (hc _).mono ?_; rintro e w' ⟨rfl, rfl⟩) | fail)
    refine (hm _).mono ?_
    rintro e w1 ⟨rfl, hB1⟩
    obtain ⟨z0, z1, z2, z3⟩ := hb.keep hB1
    go_wp2_with fail
    exact bodyPost_ret (v := .tuple #[.int .i64 (r), .int .i64 0]) (by simp [results, Try.results13, go_sem]) rfl ⟨rfl, Below.then hB hB1⟩
  by_cases h4 : r ≤ x.b
  · have h5 : r < x.a := by omega
    have e1 : callN x off r = x.a := by simp only [callN]; rw [if_neg (by omega), if_neg (by omega), if_neg (by omega), if_neg (by omega)]
    have e2 : callE x off r = 0 := by simp only [callE]; rw [if_neg (by omega), if_neg (by omega), if_neg (by omega), if_neg (by omega)]
    have e3 : mayX x r = false := by simp [mayX]; omega
    rw [e1, e2]
    rw [e3] at hm
    go_enter Try.func13, Try.ntmps13
    go_wp2_with (first | (go_at_call 24; refine (hc _).mono ?_; rintro e w' ⟨rfl, rfl⟩) | fail)
    refine (hm _).mono ?_
    rintro e w1 ⟨rfl, hB1⟩
    obtain ⟨z0, z1, z2, z3⟩ := hb.keep hB1
    go_wp2_with fail
    exact bodyPost_ret (v := .tuple #[.int .i64 (x.a), .int .i64 0]) (by simp [results, Try.results13, go_sem]) rfl ⟨rfl, Below.then hB hB1⟩
  have h6 : x.b < r := by omega
  have h7 : x.a ≤ r := by omega
  by_cases h8 : r ≤ x.c
  · by_cases h9 : off < x.g
    · skip
      have e1 : callN x off r = x.b := by simp only [callN]; rw [if_neg (by omega), if_neg (by omega), if_pos (by omega)]
      have e2 : callE x off r = 0 := by simp only [callE]; rw [if_neg (by omega), if_neg (by omega), if_pos (by omega)]
      have e3 : mayX x r = false := by simp [mayX]; omega
      rw [e1, e2]
      rw [e3] at hm
      go_enter Try.func13, Try.ntmps13
      go_wp2_with (first | (go_at_call 24; refine (hc _).mono ?_; rintro e w' ⟨rfl, rfl⟩) | fail)
      refine (hm _).mono ?_
      rintro e w1 ⟨rfl, hB1⟩
      obtain ⟨z0, z1, z2, z3⟩ := hb.keep hB1
      go_wp2_with fail
      exact bodyPost_ret (v := .tuple #[.int .i64 (x.b), .int .i64 0]) (by simp [results, Try.results13, go_sem]) rfl ⟨rfl, Below.then hB hB1⟩
    · skip
      have e1 : callN x off r = 0 := by simp only [callN]; rw [if_neg (by omega), if_neg (by omega), if_neg (by omega), if_pos (by omega)]
      have e2 : callE x off r = 34 := by simp only [callE]; rw [if_neg (by omega), if_neg (by omega), if_neg (by omega), if_pos (by omega)]
      have e3 : mayX x r = false := by simp [mayX]; omega
      rw [e1, e2]
      rw [e3] at hm
      go_enter Try.func13, Try.ntmps13
      go_wp2_with (first | (go_at_call 24; refine (hc _).mono ?_; rintro e w' ⟨rfl, rfl⟩) | fail)
      refine (hm _).mono ?_
      rintro e w1 ⟨rfl, hB1⟩
      obtain ⟨z0, z1, z2, z3⟩ := hb.keep hB1
      go_wp2_with fail
      exact bodyPost_ret (v := .tuple #[.int .i64 (0), .int .i64 34]) (by simp [results, Try.results13, go_sem]) rfl ⟨rfl, Below.then hB hB1⟩
  · skip
    have e1 : callN x off r = 0 := by simp only [callN]; rw [if_neg (by omega), if_neg (by omega), if_neg (by omega), if_pos (by omega)]
    have e2 : callE x off r = 34 := by simp only [callE]; rw [if_neg (by omega), if_neg (by omega), if_neg (by omega), if_pos (by omega)]
    have e3 : mayX x r = false := by simp [mayX]; omega
    rw [e1, e2]
    rw [e3] at hm
    go_enter Try.func13, Try.ntmps13
    go_wp2_with (first | (go_at_call 24; refine (hc _).mono ?_; rintro e w' ⟨rfl, rfl⟩) | fail)
    refine (hm _).mono ?_
    rintro e w1 ⟨rfl, hB1⟩
    obtain ⟨z0, z1, z2, z3⟩ := hb.keep hB1
    go_wp2_with fail
    exact bodyPost_ret (v := .tuple #[.int .i64 (0), .int .i64 34]) (by simp [results, Try.results13, go_sem]) rfl ⟨rfl, Below.then hB hB1⟩
end Go.Proofs.Ythabdffmfadmnaa
