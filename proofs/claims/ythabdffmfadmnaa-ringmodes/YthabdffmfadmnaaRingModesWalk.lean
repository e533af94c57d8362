/-
  RingModes: the walk.
-/
import Derived.Test.YthabdffmfadmnaaRingBox
namespace Go.Proofs.Ythabdffmfadmnaa
open Go.RowKit
set_option linter.unusedSimpArgs false

set_option maxHeartbeats 8000000 in
theorem ringModes_walk (x : Rg) (r : Int) (w : World) :
    Calls Try.prog 5 #[x.v, .int .i64 r] w fun e w' => e = .returned (.bool true) ∧ Below w.heap.size w w' := by
  have cG := good_any x
  have hok := goodR_ok x
  obtain ⟨y, hy⟩ : ∃ y, goodR x = y := ⟨_, rfl⟩
  rw [hy] at cG hok
  clear hy
  have hok' := hok
  obtain ⟨x0, x1, x2, x3, x4, x5⟩ := hok'
  obtain ⟨n, hn⟩ : ∃ n, r % 8 = n := ⟨_, rfl⟩
  have n0 : 0 ≤ n := by omega
  have n7 : n ≤ 7 := by omega
  have cW := fun W => within_any r 8 (by decide) (by decide) W
  rw [hn] at cW
  clear hn
  have hB0 := below1 w (.cells #[.int .i64 x.a, .int .i64 x.b, .int .i64 x.c, .int .i64 x.g] 23)
  have hS0 := boxed_alloc w x
  have hF0 := free_alloc w #[.int .i64 x.a, .int .i64 x.b, .int .i64 x.c, .int .i64 x.g] 23
  go_enter Try.func5, Try.ntmps5
  go_wp2_with fail
  refine (known_any _).mono ?_
  rintro e w1 ⟨rfl, hb⟩
  replace hS0 := hS0.keep hb
  replace hF0 := hF0.keep (by simp) hb
  replace hB0 := Below.then hB0 hb
  clear hb
  obtain ⟨z0, z1, z2, z3⟩ := id hS0
  go_wp2_with fail
  refine (cG _).mono ?_
  rintro e w2 ⟨rfl, hb⟩
  replace hF0 := hF0.keep (World.block_lt_of_cell? _ _ hS0.1) hb
  replace hS0 := hS0.keep hb
  replace hB0 := Below.then hB0 hb
  clear hb z0 z1 z2 z3
  obtain ⟨z0, z1, z2, z3⟩ := id hS0
  obtain ⟨k0, k1, k2, k3⟩ := id hF0
  go_wp2_with fail
  refine (cW _).mono ?_
  rintro e w' ⟨rfl, rfl⟩
  obtain ⟨hB1, hS1⟩ := stored1 (A := y) hB0 hS0
  simp only [put4] at hB1 hS1
  by_cases hz : n = 0
  · subst hz
    by_cases h1 : 0 ≤ y.a
    · by_cases h2 : y.a ≤ 0
      · skip
        have f1 : mayW y 0 = true := by simp [mayW]; try omega
        have f2 : mayR y 0 = true := by simp [mayR]; try omega
        have f3 : mayX y 0 = true := by simp [mayX]; try omega
        have f4 : True := trivial
        have f5 : True := trivial
        as_aux_lemma =>
          go_wp2_with (first | (go_at_call 16; refine (mayWrite_any _ _ _).mono ?_; rintro e w' ⟨he, hb⟩; simp only [f1, f2, f3, f4, f5] at he; subst he; replace hS1 := hS1.keep hb; replace hB1 := Below.then hB1 hb; clear hb z0 z1 z2 z3; obtain ⟨z0, z1, z2, z3⟩ := id hS1) | (go_at_call 14; refine (mayRead_any _ _ _).mono ?_; rintro e w' ⟨he, hb⟩; simp only [f1, f2, f3, f4, f5] at he; subst he; replace hS1 := hS1.keep hb; replace hB1 := Below.then hB1 hb; clear hb z0 z1 z2 z3; obtain ⟨z0, z1, z2, z3⟩ := id hS1) | (go_at_call 18; refine (mayExec_any _ _ _).mono ?_; rintro e w' ⟨he, hb⟩; simp only [f1, f2, f3, f4, f5] at he; subst he; replace hS1 := hS1.keep hb; replace hB1 := Below.then hB1 hb; clear hb z0 z1 z2 z3; obtain ⟨z0, z1, z2, z3⟩ := id hS1) | fail)
          go_ret
          exact ⟨rfl, hB1⟩
      · skip
        have f1 : mayW y 0 = true := by simp [mayW]; try omega
        have f2 : mayR y 0 = true := by simp [mayR]; try omega
        have f3 : mayX y 0 = false := by simp [mayX]; try omega
        have f4 : True := trivial
        have f5 : True := trivial
        as_aux_lemma =>
          go_wp2_with (first | (go_at_call 16; refine (mayWrite_any _ _ _).mono ?_; rintro e w' ⟨he, hb⟩; simp only [f1, f2, f3, f4, f5] at he; subst he; replace hS1 := hS1.keep hb; replace hB1 := Below.then hB1 hb; clear hb z0 z1 z2 z3; obtain ⟨z0, z1, z2, z3⟩ := id hS1) | (go_at_call 14; refine (mayRead_any _ _ _).mono ?_; rintro e w' ⟨he, hb⟩; simp only [f1, f2, f3, f4, f5] at he; subst he; replace hS1 := hS1.keep hb; replace hB1 := Below.then hB1 hb; clear hb z0 z1 z2 z3; obtain ⟨z0, z1, z2, z3⟩ := id hS1) | (go_at_call 18; refine (mayExec_any _ _ _).mono ?_; rintro e w' ⟨he, hb⟩; simp only [f1, f2, f3, f4, f5] at he; subst he; replace hS1 := hS1.keep hb; replace hB1 := Below.then hB1 hb; clear hb z0 z1 z2 z3; obtain ⟨z0, z1, z2, z3⟩ := id hS1) | fail)
          go_ret
          exact ⟨rfl, hB1⟩
    omega
  have n1 : 1 ≤ n := by omega
  by_cases h1 : n ≤ y.a
  · by_cases h2 : y.a ≤ n
    · skip
      have f1 : mayW y n = true := by simp [mayW]; try omega
      have f2 : mayR y n = true := by simp [mayR]; try omega
      have f3 : mayX y n = true := by simp [mayX]; try omega
      have f4 : mayR y (n - 1) = true := by simp [mayR]; try omega
      have f5 : mayW y (n - 1) = true := by simp [mayW]; try omega
      as_aux_lemma =>
        go_wp2_with (first | (go_at_call 16; refine (mayWrite_any _ _ _).mono ?_; rintro e w' ⟨he, hb⟩; simp only [f1, f2, f3, f4, f5] at he; subst he; replace hS1 := hS1.keep hb; replace hB1 := Below.then hB1 hb; clear hb z0 z1 z2 z3; obtain ⟨z0, z1, z2, z3⟩ := id hS1) | (go_at_call 14; refine (mayRead_any _ _ _).mono ?_; rintro e w' ⟨he, hb⟩; simp only [f1, f2, f3, f4, f5] at he; subst he; replace hS1 := hS1.keep hb; replace hB1 := Below.then hB1 hb; clear hb z0 z1 z2 z3; obtain ⟨z0, z1, z2, z3⟩ := id hS1) | (go_at_call 18; refine (mayExec_any _ _ _).mono ?_; rintro e w' ⟨he, hb⟩; simp only [f1, f2, f3, f4, f5] at he; subst he; replace hS1 := hS1.keep hb; replace hB1 := Below.then hB1 hb; clear hb z0 z1 z2 z3; obtain ⟨z0, z1, z2, z3⟩ := id hS1) | fail)
        go_ret
        exact ⟨rfl, hB1⟩
    · skip
      have f1 : mayW y n = true := by simp [mayW]; try omega
      have f2 : mayR y n = true := by simp [mayR]; try omega
      have f3 : mayX y n = false := by simp [mayX]; try omega
      have f4 : mayR y (n - 1) = true := by simp [mayR]; try omega
      have f5 : mayW y (n - 1) = true := by simp [mayW]; try omega
      as_aux_lemma =>
        go_wp2_with (first | (go_at_call 16; refine (mayWrite_any _ _ _).mono ?_; rintro e w' ⟨he, hb⟩; simp only [f1, f2, f3, f4, f5] at he; subst he; replace hS1 := hS1.keep hb; replace hB1 := Below.then hB1 hb; clear hb z0 z1 z2 z3; obtain ⟨z0, z1, z2, z3⟩ := id hS1) | (go_at_call 14; refine (mayRead_any _ _ _).mono ?_; rintro e w' ⟨he, hb⟩; simp only [f1, f2, f3, f4, f5] at he; subst he; replace hS1 := hS1.keep hb; replace hB1 := Below.then hB1 hb; clear hb z0 z1 z2 z3; obtain ⟨z0, z1, z2, z3⟩ := id hS1) | (go_at_call 18; refine (mayExec_any _ _ _).mono ?_; rintro e w' ⟨he, hb⟩; simp only [f1, f2, f3, f4, f5] at he; subst he; replace hS1 := hS1.keep hb; replace hB1 := Below.then hB1 hb; clear hb z0 z1 z2 z3; obtain ⟨z0, z1, z2, z3⟩ := id hS1) | fail)
        go_ret
        exact ⟨rfl, hB1⟩
  by_cases h2 : n ≤ y.b
  · by_cases h3 : n - 1 ≤ y.a
    · skip
      have f1 : mayW y n = false := by simp [mayW]; try omega
      have f2 : mayR y n = true := by simp [mayR]; try omega
      have f3 : mayX y n = true := by simp [mayX]; try omega
      have f4 : mayR y (n - 1) = true := by simp [mayR]; try omega
      have f5 : mayW y (n - 1) = true := by simp [mayW]; try omega
      as_aux_lemma =>
        go_wp2_with (first | (go_at_call 16; refine (mayWrite_any _ _ _).mono ?_; rintro e w' ⟨he, hb⟩; simp only [f1, f2, f3, f4, f5] at he; subst he; replace hS1 := hS1.keep hb; replace hB1 := Below.then hB1 hb; clear hb z0 z1 z2 z3; obtain ⟨z0, z1, z2, z3⟩ := id hS1) | (go_at_call 14; refine (mayRead_any _ _ _).mono ?_; rintro e w' ⟨he, hb⟩; simp only [f1, f2, f3, f4, f5] at he; subst he; replace hS1 := hS1.keep hb; replace hB1 := Below.then hB1 hb; clear hb z0 z1 z2 z3; obtain ⟨z0, z1, z2, z3⟩ := id hS1) | (go_at_call 18; refine (mayExec_any _ _ _).mono ?_; rintro e w' ⟨he, hb⟩; simp only [f1, f2, f3, f4, f5] at he; subst he; replace hS1 := hS1.keep hb; replace hB1 := Below.then hB1 hb; clear hb z0 z1 z2 z3; obtain ⟨z0, z1, z2, z3⟩ := id hS1) | fail)
        go_ret
        exact ⟨rfl, hB1⟩
    · skip
      have f1 : mayW y n = false := by simp [mayW]; try omega
      have f2 : mayR y n = true := by simp [mayR]; try omega
      have f3 : mayX y n = true := by simp [mayX]; try omega
      have f4 : mayR y (n - 1) = true := by simp [mayR]; try omega
      have f5 : mayW y (n - 1) = false := by simp [mayW]; try omega
      as_aux_lemma =>
        go_wp2_with (first | (go_at_call 16; refine (mayWrite_any _ _ _).mono ?_; rintro e w' ⟨he, hb⟩; simp only [f1, f2, f3, f4, f5] at he; subst he; replace hS1 := hS1.keep hb; replace hB1 := Below.then hB1 hb; clear hb z0 z1 z2 z3; obtain ⟨z0, z1, z2, z3⟩ := id hS1) | (go_at_call 14; refine (mayRead_any _ _ _).mono ?_; rintro e w' ⟨he, hb⟩; simp only [f1, f2, f3, f4, f5] at he; subst he; replace hS1 := hS1.keep hb; replace hB1 := Below.then hB1 hb; clear hb z0 z1 z2 z3; obtain ⟨z0, z1, z2, z3⟩ := id hS1) | (go_at_call 18; refine (mayExec_any _ _ _).mono ?_; rintro e w' ⟨he, hb⟩; simp only [f1, f2, f3, f4, f5] at he; subst he; replace hS1 := hS1.keep hb; replace hB1 := Below.then hB1 hb; clear hb z0 z1 z2 z3; obtain ⟨z0, z1, z2, z3⟩ := id hS1) | fail)
        go_ret
        exact ⟨rfl, hB1⟩
  by_cases h3 : n - 1 ≤ y.a
  · by_cases h4 : n - 1 ≤ y.b
    · skip
      have f1 : mayW y n = false := by simp [mayW]; try omega
      have f2 : mayR y n = false := by simp [mayR]; try omega
      have f3 : mayX y n = false := by simp [mayX]; try omega
      have f4 : mayR y (n - 1) = true := by simp [mayR]; try omega
      have f5 : mayW y (n - 1) = true := by simp [mayW]; try omega
      as_aux_lemma =>
        go_wp2_with (first | (go_at_call 16; refine (mayWrite_any _ _ _).mono ?_; rintro e w' ⟨he, hb⟩; simp only [f1, f2, f3, f4, f5] at he; subst he; replace hS1 := hS1.keep hb; replace hB1 := Below.then hB1 hb; clear hb z0 z1 z2 z3; obtain ⟨z0, z1, z2, z3⟩ := id hS1) | (go_at_call 14; refine (mayRead_any _ _ _).mono ?_; rintro e w' ⟨he, hb⟩; simp only [f1, f2, f3, f4, f5] at he; subst he; replace hS1 := hS1.keep hb; replace hB1 := Below.then hB1 hb; clear hb z0 z1 z2 z3; obtain ⟨z0, z1, z2, z3⟩ := id hS1) | (go_at_call 18; refine (mayExec_any _ _ _).mono ?_; rintro e w' ⟨he, hb⟩; simp only [f1, f2, f3, f4, f5] at he; subst he; replace hS1 := hS1.keep hb; replace hB1 := Below.then hB1 hb; clear hb z0 z1 z2 z3; obtain ⟨z0, z1, z2, z3⟩ := id hS1) | fail)
        go_ret
        exact ⟨rfl, hB1⟩
    · omega
  by_cases h4 : n - 1 ≤ y.b
  · skip
    have f1 : mayW y n = false := by simp [mayW]; try omega
    have f2 : mayR y n = false := by simp [mayR]; try omega
    have f3 : mayX y n = false := by simp [mayX]; try omega
    have f4 : mayR y (n - 1) = true := by simp [mayR]; try omega
    have f5 : mayW y (n - 1) = false := by simp [mayW]; try omega
    as_aux_lemma =>
      go_wp2_with (first | (go_at_call 16; refine (mayWrite_any _ _ _).mono ?_; rintro e w' ⟨he, hb⟩; simp only [f1, f2, f3, f4, f5] at he; subst he; replace hS1 := hS1.keep hb; replace hB1 := Below.then hB1 hb; clear hb z0 z1 z2 z3; obtain ⟨z0, z1, z2, z3⟩ := id hS1) | (go_at_call 14; refine (mayRead_any _ _ _).mono ?_; rintro e w' ⟨he, hb⟩; simp only [f1, f2, f3, f4, f5] at he; subst he; replace hS1 := hS1.keep hb; replace hB1 := Below.then hB1 hb; clear hb z0 z1 z2 z3; obtain ⟨z0, z1, z2, z3⟩ := id hS1) | (go_at_call 18; refine (mayExec_any _ _ _).mono ?_; rintro e w' ⟨he, hb⟩; simp only [f1, f2, f3, f4, f5] at he; subst he; replace hS1 := hS1.keep hb; replace hB1 := Below.then hB1 hb; clear hb z0 z1 z2 z3; obtain ⟨z0, z1, z2, z3⟩ := id hS1) | fail)
      go_ret
      exact ⟨rfl, hB1⟩
  · skip
    have f1 : mayW y n = false := by simp [mayW]; try omega
    have f2 : mayR y n = false := by simp [mayR]; try omega
    have f3 : mayX y n = false := by simp [mayX]; try omega
    have f4 : mayR y (n - 1) = false := by simp [mayR]; try omega
    have f5 : mayW y (n - 1) = false := by simp [mayW]; try omega
    as_aux_lemma =>
      go_wp2_with (first | (go_at_call 16; refine (mayWrite_any _ _ _).mono ?_; rintro e w' ⟨he, hb⟩; simp only [f1, f2, f3, f4, f5] at he; subst he; replace hS1 := hS1.keep hb; replace hB1 := Below.then hB1 hb; clear hb z0 z1 z2 z3; obtain ⟨z0, z1, z2, z3⟩ := id hS1) | (go_at_call 14; refine (mayRead_any _ _ _).mono ?_; rintro e w' ⟨he, hb⟩; simp only [f1, f2, f3, f4, f5] at he; subst he; replace hS1 := hS1.keep hb; replace hB1 := Below.then hB1 hb; clear hb z0 z1 z2 z3; obtain ⟨z0, z1, z2, z3⟩ := id hS1) | (go_at_call 18; refine (mayExec_any _ _ _).mono ?_; rintro e w' ⟨he, hb⟩; simp only [f1, f2, f3, f4, f5] at he; subst he; replace hS1 := hS1.keep hb; replace hB1 := Below.then hB1 hb; clear hb z0 z1 z2 z3; obtain ⟨z0, z1, z2, z3⟩ := id hS1) | fail)
      go_ret
      exact ⟨rfl, hB1⟩
end Go.Proofs.Ythabdffmfadmnaa
