/-
  RingGates: the walk.
-/
import Derived.Test.YthabdffmfadmnaaRingBox
namespace Go.Proofs.Ythabdffmfadmnaa
open Go.RowKit
set_option linter.unusedSimpArgs false

set_option maxHeartbeats 8000000 in
theorem ringGates_walk (x : Rg) (off r : Int) (w : World) :
    Calls Try.prog 4 #[x.v, .int .i64 off, .int .i64 r] w fun e w' => e = .returned (.bool true) ∧ Below w.heap.size w w' := by
  have cG := good_any x
  have hok := goodR_ok x
  obtain ⟨y, hy⟩ : ∃ y, goodR x = y := ⟨_, rfl⟩
  rw [hy] at cG hok
  clear hy
  have hok' := hok
  obtain ⟨x0, x1, x2, x3, x4, x5⟩ := hok'
  obtain ⟨n, hn⟩ : ∃ n, r % 8 = n := ⟨_, rfl⟩
  have n0 : 0 ≤ n := by omega
  have n7 : n ≤ 7 := by omega
  have cW := fun W => within_any r 8 (by decide) (by decide) W
  rw [hn] at cW
  clear hn
  obtain ⟨o, ho⟩ : ∃ o, off % 16 = o := ⟨_, rfl⟩
  have o0 : 0 ≤ o := by omega
  have o7 : o ≤ 15 := by omega
  have cO := fun W => within_any off 16 (by decide) (by decide) W
  rw [ho] at cO
  clear ho
  have hB0 := below1 w (.cells #[.int .i64 x.a, .int .i64 x.b, .int .i64 x.c, .int .i64 x.g] 23)
  have hS0 := boxed_alloc w x
  have hF0 := free_alloc w #[.int .i64 x.a, .int .i64 x.b, .int .i64 x.c, .int .i64 x.g] 23
  go_enter Try.func4, Try.ntmps4
  go_wp2_with fail
  refine (known_any _).mono ?_
  rintro e w1 ⟨rfl, hb⟩
  replace hS0 := hS0.keep hb
  replace hF0 := hF0.keep (by simp) hb
  replace hB0 := Below.then hB0 hb
  clear hb
  obtain ⟨z0, z1, z2, z3⟩ := id hS0
  go_wp2_with fail
  refine (cG _).mono ?_
  rintro e w2 ⟨rfl, hb⟩
  replace hF0 := hF0.keep (World.block_lt_of_cell? _ _ hS0.1) hb
  replace hS0 := hS0.keep hb
  replace hB0 := Below.then hB0 hb
  clear hb z0 z1 z2 z3
  obtain ⟨z0, z1, z2, z3⟩ := id hS0
  obtain ⟨k0, k1, k2, k3⟩ := id hF0
  go_wp2_with fail
  refine (cW _).mono ?_
  rintro e w' ⟨rfl, rfl⟩
  obtain ⟨hB1, hS1⟩ := stored1 (A := y) hB0 hS0
  simp only [put4] at hB1 hS1
  go_wp2_with fail
  refine (cO _).mono ?_
  rintro e w3 ⟨rfl, rfl⟩
  obtain ⟨zz0, zz1, zz2, zz3⟩ := id hS1
  go_wp2_with fail
  refine (call_any y o n _ hok).mono ?_
  rintro e w4 ⟨rfl, hb⟩
  replace hS1 := hS1.keep hb
  replace hB1 := Below.then hB1 hb
  clear hb z0 z1 z2 z3 zz0 zz1 zz2 zz3 hS0 hB0 hF0 k0 k1 k2 k3 cG cW cO hok
  obtain ⟨z0, z1, z2, z3⟩ := id hS1
  by_cases h3 : y.a ≤ n ∧ n ≤ y.b
  · obtain ⟨h3a, h3b⟩ := id h3
    have e1 : callN y o n = n := by simp only [callN]; rw [if_neg (by omega), if_pos (by omega)]
    have e2 : callE y o n = 0 := by simp only [callE]; rw [if_neg (by omega), if_pos (by omega)]
    rw [e1, e2]
    clear e1 e2
    as_aux_lemma =>
      go_wp2_with fail
      go_ret
      exact ⟨rfl, hB1⟩
  by_cases h4 : n ≤ y.b
  · have h5 : n < y.a := by omega
    have h6 : y.a ≠ n := by omega
    have e1 : callN y o n = y.a := by simp only [callN]; rw [if_neg (by omega), if_neg (by omega), if_neg (by omega), if_neg (by omega)]
    have e2 : callE y o n = 0 := by simp only [callE]; rw [if_neg (by omega), if_neg (by omega), if_neg (by omega), if_neg (by omega)]
    rw [e1, e2]
    clear e1 e2
    as_aux_lemma =>
      go_wp2_with fail
      go_ret
      exact ⟨rfl, hB1⟩
  have h6 : y.b < n := by omega
  have h7 : y.a ≤ n := by omega
  by_cases h8 : n ≤ y.c
  · by_cases h9 : o < y.g
    · skip
      have e1 : callN y o n = y.b := by simp only [callN]; rw [if_neg (by omega), if_neg (by omega), if_pos (by omega)]
      have e2 : callE y o n = 0 := by simp only [callE]; rw [if_neg (by omega), if_neg (by omega), if_pos (by omega)]
      rw [e1, e2]
      clear e1 e2
      as_aux_lemma =>
        go_wp2_with fail
        go_ret
        exact ⟨rfl, hB1⟩
    · skip
      have e1 : callN y o n = 0 := by simp only [callN]; rw [if_neg (by omega), if_neg (by omega), if_neg (by omega), if_pos (by omega)]
      have e2 : callE y o n = 34 := by simp only [callE]; rw [if_neg (by omega), if_neg (by omega), if_neg (by omega), if_pos (by omega)]
      rw [e1, e2]
      clear e1 e2
      as_aux_lemma =>
        go_wp2_with fail
        go_ret
        exact ⟨rfl, hB1⟩
  · skip
    have e1 : callN y o n = 0 := by simp only [callN]; rw [if_neg (by omega), if_neg (by omega), if_neg (by omega), if_pos (by omega)]
    have e2 : callE y o n = 34 := by simp only [callE]; rw [if_neg (by omega), if_neg (by omega), if_neg (by omega), if_pos (by omega)]
    rw [e1, e2]
    clear e1 e2
    as_aux_lemma =>
      go_wp2_with fail
      go_ret
      exact ⟨rfl, hB1⟩
end Go.Proofs.Ythabdffmfadmnaa
