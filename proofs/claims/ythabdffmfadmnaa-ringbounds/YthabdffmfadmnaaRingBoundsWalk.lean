/-
  RingBounds: the walk.
-/
import Derived.Test.YthabdffmfadmnaaRingBox
namespace Go.Proofs.Ythabdffmfadmnaa
open Go.RowKit
set_option linter.unusedSimpArgs false

set_option maxHeartbeats 8000000 in
theorem ringBounds_walk (x : Rg) (how by' : Int) (w : World) :
    Calls Try.prog 7 #[x.v, .int .i64 how, .int .i64 by'] w fun e w' => e = .returned (.bool true) ∧ Below w.heap.size w w' := by
  have cG := good_any x
  have hok := goodR_ok x
  obtain ⟨y, hy⟩ : ∃ y, goodR x = y := ⟨_, rfl⟩
  rw [hy] at cG hok
  clear hy
  have hok' := hok
  obtain ⟨x0, x1, x2, x3, x4, x5⟩ := hok'
  obtain ⟨k, hk⟩ : ∃ k, by' % 100 = k := ⟨_, rfl⟩
  have l0 : 0 ≤ k := by omega
  have l9 : k ≤ 99 := by omega
  have cK := fun W => within_any by' 100 (by decide) (by decide) W
  rw [hk] at cK
  clear hk
  obtain ⟨j, hj⟩ : ∃ j, how % 6 = j := ⟨_, rfl⟩
  have hj6 : j = 0 ∨ j = 1 ∨ j = 2 ∨ j = 3 ∨ j = 4 ∨ j = 5 := by omega
  have cJ := fun W => within_any how 6 (by decide) (by decide) W
  rw [hj] at cJ
  clear hj
  have q7 : chkR y = 0 := by rw [chkR, if_pos hok]
  have hB0 := below1 w (.cells #[.int .i64 x.a, .int .i64 x.b, .int .i64 x.c, .int .i64 x.g] 23)
  have hS0 := boxed_alloc w x
  have hF0 := free_alloc w #[.int .i64 x.a, .int .i64 x.b, .int .i64 x.c, .int .i64 x.g] 23
  go_enter Try.func7, Try.ntmps7
  go_wp2_with fail
  refine (known_any _).mono ?_
  rintro e w1 ⟨rfl, hb⟩
  replace hS0 := hS0.keep hb
  replace hF0 := hF0.keep (by simp) hb
  replace hB0 := Below.then hB0 hb
  clear hb
  obtain ⟨z0, z1, z2, z3⟩ := id hS0
  go_wp2_with fail
  refine (cG _).mono ?_
  rintro e w2 ⟨rfl, hb⟩
  replace hF0 := hF0.keep (World.block_lt_of_cell? _ _ hS0.1) hb
  replace hS0 := hS0.keep hb
  replace hB0 := Below.then hB0 hb
  clear hb z0 z1 z2 z3
  obtain ⟨z0, z1, z2, z3⟩ := id hS0
  obtain ⟨k0, k1, k2, k3⟩ := id hF0
  obtain ⟨hB1, hS1⟩ := stored1 (A := y) hB0 hS0
  simp only [put4] at hB1 hS1
  go_wp2_with fail
  refine (cK _).mono ?_
  rintro e w3 ⟨rfl, rfl⟩
  generalize ((((w2.setCell ⟨w.heap.size, 0, none⟩ (.int .i64 y.a)).setCell ⟨w.heap.size, 1, none⟩ (.int .i64 y.b)).setCell ⟨w.heap.size, 2, none⟩ (.int .i64 y.c)).setCell ⟨w.heap.size, 3, none⟩ (.int .i64 y.g)) = W3 at hB1 hS1 ⊢
  clear hS0 hF0 hB0 z0 z1 z2 z3 k0 k1 k2 k3
  obtain ⟨z0, z1, z2, z3⟩ := id hS1
  go_wp2_with fail
  refine (cJ _).mono ?_
  rintro e w4 ⟨rfl, rfl⟩
  have b0 : 1 ≤ 1 + k := by omega
  have b1 : 1 + k ≤ 100 := by omega
  generalize 1 + k = B at b0 b1 ⊢
  clear cG cK cJ l0 l9
  have q1 : callE y 0 (7 + B) = 34 := by simp only [callE]; rw [if_pos (by omega)]
  have q2 : callE y 0 (-B) = 34 := by simp only [callE]; rw [if_pos (by omega)]
  have q3 : mayR y (-B) = false := by simp [mayR]; try omega
  have q4 : mayW y (-B) = false := by simp [mayW]; try omega
  have q5 : mayX y (7 + B) = false := by simp [mayX]; try omega
  have q6 : mayR y (7 + B) = false := by simp [mayR]; try omega
  rcases hj6 with rfl | rfl | rfl | rfl | rfl | rfl
  · have q8 : chkR ⟨-B, y.b, y.c, y.g⟩ = 1 := by rw [chkR, if_neg (by unfold OkR; simp only; omega)]
    as_aux_lemma =>
      have hS2 := boxed_alloc W3 ⟨-B, y.b, y.c, y.g⟩
      replace hB1 := Below.then hB1 (below1 W3 (.cells #[.int .i64 (-B), .int .i64 (y.b), .int .i64 (y.c), .int .i64 (y.g)] 23))
      replace hS1 := hS1.keep (below1 W3 (.cells #[.int .i64 (-B), .int .i64 (y.b), .int .i64 (y.c), .int .i64 (y.g)] 23))
      clear z0 z1 z2 z3
      obtain ⟨z0, z1, z2, z3⟩ := id hS1
      obtain ⟨y0, y1, y2, y3⟩ := id hS2
      go_wp2_with fail
      refine (call_any y 0 (7 + B) _ hok).mono ?_
      rintro e w' ⟨he, hb⟩
      rw [q1] at he
      subst he
      replace hS1 := hS1.keep hb
      replace hS2 := hS2.keep hb
      replace hB1 := Below.then hB1 hb
      clear hb z0 z1 z2 z3 y0 y1 y2 y3
      obtain ⟨z0, z1, z2, z3⟩ := id hS1
      obtain ⟨y0, y1, y2, y3⟩ := id hS2
      go_wp2_with fail
      refine (call_any y 0 (-B) _ hok).mono ?_
      rintro e w' ⟨he, hb⟩
      rw [q2] at he
      subst he
      replace hS1 := hS1.keep hb
      replace hS2 := hS2.keep hb
      replace hB1 := Below.then hB1 hb
      clear hb z0 z1 z2 z3 y0 y1 y2 y3
      obtain ⟨z0, z1, z2, z3⟩ := id hS1
      obtain ⟨y0, y1, y2, y3⟩ := id hS2
      go_wp2_with fail
      refine (check_any y _).mono ?_
      rintro e w' ⟨he, hb⟩
      rw [q7] at he
      subst he
      replace hS1 := hS1.keep hb
      replace hS2 := hS2.keep hb
      replace hB1 := Below.then hB1 hb
      clear hb z0 z1 z2 z3 y0 y1 y2 y3
      obtain ⟨z0, z1, z2, z3⟩ := id hS1
      obtain ⟨y0, y1, y2, y3⟩ := id hS2
      go_wp2_with fail
      refine (check_any ⟨-B, y.b, y.c, y.g⟩ _).mono ?_
      rintro e w' ⟨he, hb⟩
      rw [q8] at he
      subst he
      replace hS1 := hS1.keep hb
      replace hS2 := hS2.keep hb
      replace hB1 := Below.then hB1 hb
      clear hb z0 z1 z2 z3 y0 y1 y2 y3
      obtain ⟨z0, z1, z2, z3⟩ := id hS1
      obtain ⟨y0, y1, y2, y3⟩ := id hS2
      go_wp2_with fail
      refine (mayRead_any y (-B) _).mono ?_
      rintro e w' ⟨he, hb⟩
      rw [q3] at he
      subst he
      replace hS1 := hS1.keep hb
      replace hS2 := hS2.keep hb
      replace hB1 := Below.then hB1 hb
      clear hb z0 z1 z2 z3 y0 y1 y2 y3
      obtain ⟨z0, z1, z2, z3⟩ := id hS1
      obtain ⟨y0, y1, y2, y3⟩ := id hS2
      go_wp2_with fail
      refine (mayWrite_any y (-B) _).mono ?_
      rintro e w' ⟨he, hb⟩
      rw [q4] at he
      subst he
      replace hS1 := hS1.keep hb
      replace hS2 := hS2.keep hb
      replace hB1 := Below.then hB1 hb
      clear hb z0 z1 z2 z3 y0 y1 y2 y3
      obtain ⟨z0, z1, z2, z3⟩ := id hS1
      obtain ⟨y0, y1, y2, y3⟩ := id hS2
      go_wp2_with fail
      refine (mayExec_any y (7 + B) _).mono ?_
      rintro e w' ⟨he, hb⟩
      rw [q5] at he
      subst he
      replace hS1 := hS1.keep hb
      replace hS2 := hS2.keep hb
      replace hB1 := Below.then hB1 hb
      clear hb z0 z1 z2 z3 y0 y1 y2 y3
      obtain ⟨z0, z1, z2, z3⟩ := id hS1
      obtain ⟨y0, y1, y2, y3⟩ := id hS2
      go_wp2_with fail
      refine (mayRead_any y (7 + B) _).mono ?_
      rintro e w' ⟨he, hb⟩
      rw [q6] at he
      subst he
      replace hS1 := hS1.keep hb
      replace hS2 := hS2.keep hb
      replace hB1 := Below.then hB1 hb
      clear hb z0 z1 z2 z3 y0 y1 y2 y3
      obtain ⟨z0, z1, z2, z3⟩ := id hS1
      obtain ⟨y0, y1, y2, y3⟩ := id hS2
      go_wp2_with fail
      go_ret
      exact ⟨rfl, hB1⟩
  · have q8 : chkR ⟨y.b + B, y.b, y.c, y.g⟩ = 1 := by rw [chkR, if_neg (by unfold OkR; simp only; omega)]
    as_aux_lemma =>
      have hS2 := boxed_alloc W3 ⟨y.b + B, y.b, y.c, y.g⟩
      replace hB1 := Below.then hB1 (below1 W3 (.cells #[.int .i64 (y.b + B), .int .i64 (y.b), .int .i64 (y.c), .int .i64 (y.g)] 23))
      replace hS1 := hS1.keep (below1 W3 (.cells #[.int .i64 (y.b + B), .int .i64 (y.b), .int .i64 (y.c), .int .i64 (y.g)] 23))
      clear z0 z1 z2 z3
      obtain ⟨z0, z1, z2, z3⟩ := id hS1
      obtain ⟨y0, y1, y2, y3⟩ := id hS2
      go_wp2_with fail
      refine (call_any y 0 (7 + B) _ hok).mono ?_
      rintro e w' ⟨he, hb⟩
      rw [q1] at he
      subst he
      replace hS1 := hS1.keep hb
      replace hS2 := hS2.keep hb
      replace hB1 := Below.then hB1 hb
      clear hb z0 z1 z2 z3 y0 y1 y2 y3
      obtain ⟨z0, z1, z2, z3⟩ := id hS1
      obtain ⟨y0, y1, y2, y3⟩ := id hS2
      go_wp2_with fail
      refine (call_any y 0 (-B) _ hok).mono ?_
      rintro e w' ⟨he, hb⟩
      rw [q2] at he
      subst he
      replace hS1 := hS1.keep hb
      replace hS2 := hS2.keep hb
      replace hB1 := Below.then hB1 hb
      clear hb z0 z1 z2 z3 y0 y1 y2 y3
      obtain ⟨z0, z1, z2, z3⟩ := id hS1
      obtain ⟨y0, y1, y2, y3⟩ := id hS2
      go_wp2_with fail
      refine (check_any y _).mono ?_
      rintro e w' ⟨he, hb⟩
      rw [q7] at he
      subst he
      replace hS1 := hS1.keep hb
      replace hS2 := hS2.keep hb
      replace hB1 := Below.then hB1 hb
      clear hb z0 z1 z2 z3 y0 y1 y2 y3
      obtain ⟨z0, z1, z2, z3⟩ := id hS1
      obtain ⟨y0, y1, y2, y3⟩ := id hS2
      go_wp2_with fail
      refine (check_any ⟨y.b + B, y.b, y.c, y.g⟩ _).mono ?_
      rintro e w' ⟨he, hb⟩
      rw [q8] at he
      subst he
      replace hS1 := hS1.keep hb
      replace hS2 := hS2.keep hb
      replace hB1 := Below.then hB1 hb
      clear hb z0 z1 z2 z3 y0 y1 y2 y3
      obtain ⟨z0, z1, z2, z3⟩ := id hS1
      obtain ⟨y0, y1, y2, y3⟩ := id hS2
      go_wp2_with fail
      refine (mayRead_any y (-B) _).mono ?_
      rintro e w' ⟨he, hb⟩
      rw [q3] at he
      subst he
      replace hS1 := hS1.keep hb
      replace hS2 := hS2.keep hb
      replace hB1 := Below.then hB1 hb
      clear hb z0 z1 z2 z3 y0 y1 y2 y3
      obtain ⟨z0, z1, z2, z3⟩ := id hS1
      obtain ⟨y0, y1, y2, y3⟩ := id hS2
      go_wp2_with fail
      refine (mayWrite_any y (-B) _).mono ?_
      rintro e w' ⟨he, hb⟩
      rw [q4] at he
      subst he
      replace hS1 := hS1.keep hb
      replace hS2 := hS2.keep hb
      replace hB1 := Below.then hB1 hb
      clear hb z0 z1 z2 z3 y0 y1 y2 y3
      obtain ⟨z0, z1, z2, z3⟩ := id hS1
      obtain ⟨y0, y1, y2, y3⟩ := id hS2
      go_wp2_with fail
      refine (mayExec_any y (7 + B) _).mono ?_
      rintro e w' ⟨he, hb⟩
      rw [q5] at he
      subst he
      replace hS1 := hS1.keep hb
      replace hS2 := hS2.keep hb
      replace hB1 := Below.then hB1 hb
      clear hb z0 z1 z2 z3 y0 y1 y2 y3
      obtain ⟨z0, z1, z2, z3⟩ := id hS1
      obtain ⟨y0, y1, y2, y3⟩ := id hS2
      go_wp2_with fail
      refine (mayRead_any y (7 + B) _).mono ?_
      rintro e w' ⟨he, hb⟩
      rw [q6] at he
      subst he
      replace hS1 := hS1.keep hb
      replace hS2 := hS2.keep hb
      replace hB1 := Below.then hB1 hb
      clear hb z0 z1 z2 z3 y0 y1 y2 y3
      obtain ⟨z0, z1, z2, z3⟩ := id hS1
      obtain ⟨y0, y1, y2, y3⟩ := id hS2
      go_wp2_with fail
      go_ret
      exact ⟨rfl, hB1⟩
  · have q8 : chkR ⟨y.a, y.c + B, y.c, y.g⟩ = 1 := by rw [chkR, if_neg (by unfold OkR; simp only; omega)]
    as_aux_lemma =>
      have hS2 := boxed_alloc W3 ⟨y.a, y.c + B, y.c, y.g⟩
      replace hB1 := Below.then hB1 (below1 W3 (.cells #[.int .i64 (y.a), .int .i64 (y.c + B), .int .i64 (y.c), .int .i64 (y.g)] 23))
      replace hS1 := hS1.keep (below1 W3 (.cells #[.int .i64 (y.a), .int .i64 (y.c + B), .int .i64 (y.c), .int .i64 (y.g)] 23))
      clear z0 z1 z2 z3
      obtain ⟨z0, z1, z2, z3⟩ := id hS1
      obtain ⟨y0, y1, y2, y3⟩ := id hS2
      go_wp2_with fail
      refine (call_any y 0 (7 + B) _ hok).mono ?_
      rintro e w' ⟨he, hb⟩
      rw [q1] at he
      subst he
      replace hS1 := hS1.keep hb
      replace hS2 := hS2.keep hb
      replace hB1 := Below.then hB1 hb
      clear hb z0 z1 z2 z3 y0 y1 y2 y3
      obtain ⟨z0, z1, z2, z3⟩ := id hS1
      obtain ⟨y0, y1, y2, y3⟩ := id hS2
      go_wp2_with fail
      refine (call_any y 0 (-B) _ hok).mono ?_
      rintro e w' ⟨he, hb⟩
      rw [q2] at he
      subst he
      replace hS1 := hS1.keep hb
      replace hS2 := hS2.keep hb
      replace hB1 := Below.then hB1 hb
      clear hb z0 z1 z2 z3 y0 y1 y2 y3
      obtain ⟨z0, z1, z2, z3⟩ := id hS1
      obtain ⟨y0, y1, y2, y3⟩ := id hS2
      go_wp2_with fail
      refine (check_any y _).mono ?_
      rintro e w' ⟨he, hb⟩
      rw [q7] at he
      subst he
      replace hS1 := hS1.keep hb
      replace hS2 := hS2.keep hb
      replace hB1 := Below.then hB1 hb
      clear hb z0 z1 z2 z3 y0 y1 y2 y3
      obtain ⟨z0, z1, z2, z3⟩ := id hS1
      obtain ⟨y0, y1, y2, y3⟩ := id hS2
      go_wp2_with fail
      refine (check_any ⟨y.a, y.c + B, y.c, y.g⟩ _).mono ?_
      rintro e w' ⟨he, hb⟩
      rw [q8] at he
      subst he
      replace hS1 := hS1.keep hb
      replace hS2 := hS2.keep hb
      replace hB1 := Below.then hB1 hb
      clear hb z0 z1 z2 z3 y0 y1 y2 y3
      obtain ⟨z0, z1, z2, z3⟩ := id hS1
      obtain ⟨y0, y1, y2, y3⟩ := id hS2
      go_wp2_with fail
      refine (mayRead_any y (-B) _).mono ?_
      rintro e w' ⟨he, hb⟩
      rw [q3] at he
      subst he
      replace hS1 := hS1.keep hb
      replace hS2 := hS2.keep hb
      replace hB1 := Below.then hB1 hb
      clear hb z0 z1 z2 z3 y0 y1 y2 y3
      obtain ⟨z0, z1, z2, z3⟩ := id hS1
      obtain ⟨y0, y1, y2, y3⟩ := id hS2
      go_wp2_with fail
      refine (mayWrite_any y (-B) _).mono ?_
      rintro e w' ⟨he, hb⟩
      rw [q4] at he
      subst he
      replace hS1 := hS1.keep hb
      replace hS2 := hS2.keep hb
      replace hB1 := Below.then hB1 hb
      clear hb z0 z1 z2 z3 y0 y1 y2 y3
      obtain ⟨z0, z1, z2, z3⟩ := id hS1
      obtain ⟨y0, y1, y2, y3⟩ := id hS2
      go_wp2_with fail
      refine (mayExec_any y (7 + B) _).mono ?_
      rintro e w' ⟨he, hb⟩
      rw [q5] at he
      subst he
      replace hS1 := hS1.keep hb
      replace hS2 := hS2.keep hb
      replace hB1 := Below.then hB1 hb
      clear hb z0 z1 z2 z3 y0 y1 y2 y3
      obtain ⟨z0, z1, z2, z3⟩ := id hS1
      obtain ⟨y0, y1, y2, y3⟩ := id hS2
      go_wp2_with fail
      refine (mayRead_any y (7 + B) _).mono ?_
      rintro e w' ⟨he, hb⟩
      rw [q6] at he
      subst he
      replace hS1 := hS1.keep hb
      replace hS2 := hS2.keep hb
      replace hB1 := Below.then hB1 hb
      clear hb z0 z1 z2 z3 y0 y1 y2 y3
      obtain ⟨z0, z1, z2, z3⟩ := id hS1
      obtain ⟨y0, y1, y2, y3⟩ := id hS2
      go_wp2_with fail
      go_ret
      exact ⟨rfl, hB1⟩
  · have q8 : chkR ⟨y.a, y.b, 7 + B, y.g⟩ = 1 := by rw [chkR, if_neg (by unfold OkR; simp only; omega)]
    as_aux_lemma =>
      have hS2 := boxed_alloc W3 ⟨y.a, y.b, 7 + B, y.g⟩
      replace hB1 := Below.then hB1 (below1 W3 (.cells #[.int .i64 (y.a), .int .i64 (y.b), .int .i64 (7 + B), .int .i64 (y.g)] 23))
      replace hS1 := hS1.keep (below1 W3 (.cells #[.int .i64 (y.a), .int .i64 (y.b), .int .i64 (7 + B), .int .i64 (y.g)] 23))
      clear z0 z1 z2 z3
      obtain ⟨z0, z1, z2, z3⟩ := id hS1
      obtain ⟨y0, y1, y2, y3⟩ := id hS2
      go_wp2_with fail
      refine (call_any y 0 (7 + B) _ hok).mono ?_
      rintro e w' ⟨he, hb⟩
      rw [q1] at he
      subst he
      replace hS1 := hS1.keep hb
      replace hS2 := hS2.keep hb
      replace hB1 := Below.then hB1 hb
      clear hb z0 z1 z2 z3 y0 y1 y2 y3
      obtain ⟨z0, z1, z2, z3⟩ := id hS1
      obtain ⟨y0, y1, y2, y3⟩ := id hS2
      go_wp2_with fail
      refine (call_any y 0 (-B) _ hok).mono ?_
      rintro e w' ⟨he, hb⟩
      rw [q2] at he
      subst he
      replace hS1 := hS1.keep hb
      replace hS2 := hS2.keep hb
      replace hB1 := Below.then hB1 hb
      clear hb z0 z1 z2 z3 y0 y1 y2 y3
      obtain ⟨z0, z1, z2, z3⟩ := id hS1
      obtain ⟨y0, y1, y2, y3⟩ := id hS2
      go_wp2_with fail
      refine (check_any y _).mono ?_
      rintro e w' ⟨he, hb⟩
      rw [q7] at he
      subst he
      replace hS1 := hS1.keep hb
      replace hS2 := hS2.keep hb
      replace hB1 := Below.then hB1 hb
      clear hb z0 z1 z2 z3 y0 y1 y2 y3
      obtain ⟨z0, z1, z2, z3⟩ := id hS1
      obtain ⟨y0, y1, y2, y3⟩ := id hS2
      go_wp2_with fail
      refine (check_any ⟨y.a, y.b, 7 + B, y.g⟩ _).mono ?_
      rintro e w' ⟨he, hb⟩
      rw [q8] at he
      subst he
      replace hS1 := hS1.keep hb
      replace hS2 := hS2.keep hb
      replace hB1 := Below.then hB1 hb
      clear hb z0 z1 z2 z3 y0 y1 y2 y3
      obtain ⟨z0, z1, z2, z3⟩ := id hS1
      obtain ⟨y0, y1, y2, y3⟩ := id hS2
      go_wp2_with fail
      refine (mayRead_any y (-B) _).mono ?_
      rintro e w' ⟨he, hb⟩
      rw [q3] at he
      subst he
      replace hS1 := hS1.keep hb
      replace hS2 := hS2.keep hb
      replace hB1 := Below.then hB1 hb
      clear hb z0 z1 z2 z3 y0 y1 y2 y3
      obtain ⟨z0, z1, z2, z3⟩ := id hS1
      obtain ⟨y0, y1, y2, y3⟩ := id hS2
      go_wp2_with fail
      refine (mayWrite_any y (-B) _).mono ?_
      rintro e w' ⟨he, hb⟩
      rw [q4] at he
      subst he
      replace hS1 := hS1.keep hb
      replace hS2 := hS2.keep hb
      replace hB1 := Below.then hB1 hb
      clear hb z0 z1 z2 z3 y0 y1 y2 y3
      obtain ⟨z0, z1, z2, z3⟩ := id hS1
      obtain ⟨y0, y1, y2, y3⟩ := id hS2
      go_wp2_with fail
      refine (mayExec_any y (7 + B) _).mono ?_
      rintro e w' ⟨he, hb⟩
      rw [q5] at he
      subst he
      replace hS1 := hS1.keep hb
      replace hS2 := hS2.keep hb
      replace hB1 := Below.then hB1 hb
      clear hb z0 z1 z2 z3 y0 y1 y2 y3
      obtain ⟨z0, z1, z2, z3⟩ := id hS1
      obtain ⟨y0, y1, y2, y3⟩ := id hS2
      go_wp2_with fail
      refine (mayRead_any y (7 + B) _).mono ?_
      rintro e w' ⟨he, hb⟩
      rw [q6] at he
      subst he
      replace hS1 := hS1.keep hb
      replace hS2 := hS2.keep hb
      replace hB1 := Below.then hB1 hb
      clear hb z0 z1 z2 z3 y0 y1 y2 y3
      obtain ⟨z0, z1, z2, z3⟩ := id hS1
      obtain ⟨y0, y1, y2, y3⟩ := id hS2
      go_wp2_with fail
      go_ret
      exact ⟨rfl, hB1⟩
  · have q8 : chkR ⟨y.a, y.b, y.c, -B⟩ = 1 := by rw [chkR, if_neg (by unfold OkR; simp only; omega)]
    as_aux_lemma =>
      have hS2 := boxed_alloc W3 ⟨y.a, y.b, y.c, -B⟩
      replace hB1 := Below.then hB1 (below1 W3 (.cells #[.int .i64 (y.a), .int .i64 (y.b), .int .i64 (y.c), .int .i64 (-B)] 23))
      replace hS1 := hS1.keep (below1 W3 (.cells #[.int .i64 (y.a), .int .i64 (y.b), .int .i64 (y.c), .int .i64 (-B)] 23))
      clear z0 z1 z2 z3
      obtain ⟨z0, z1, z2, z3⟩ := id hS1
      obtain ⟨y0, y1, y2, y3⟩ := id hS2
      go_wp2_with fail
      refine (call_any y 0 (7 + B) _ hok).mono ?_
      rintro e w' ⟨he, hb⟩
      rw [q1] at he
      subst he
      replace hS1 := hS1.keep hb
      replace hS2 := hS2.keep hb
      replace hB1 := Below.then hB1 hb
      clear hb z0 z1 z2 z3 y0 y1 y2 y3
      obtain ⟨z0, z1, z2, z3⟩ := id hS1
      obtain ⟨y0, y1, y2, y3⟩ := id hS2
      go_wp2_with fail
      refine (call_any y 0 (-B) _ hok).mono ?_
      rintro e w' ⟨he, hb⟩
      rw [q2] at he
      subst he
      replace hS1 := hS1.keep hb
      replace hS2 := hS2.keep hb
      replace hB1 := Below.then hB1 hb
      clear hb z0 z1 z2 z3 y0 y1 y2 y3
      obtain ⟨z0, z1, z2, z3⟩ := id hS1
      obtain ⟨y0, y1, y2, y3⟩ := id hS2
      go_wp2_with fail
      refine (check_any y _).mono ?_
      rintro e w' ⟨he, hb⟩
      rw [q7] at he
      subst he
      replace hS1 := hS1.keep hb
      replace hS2 := hS2.keep hb
      replace hB1 := Below.then hB1 hb
      clear hb z0 z1 z2 z3 y0 y1 y2 y3
      obtain ⟨z0, z1, z2, z3⟩ := id hS1
      obtain ⟨y0, y1, y2, y3⟩ := id hS2
      go_wp2_with fail
      refine (check_any ⟨y.a, y.b, y.c, -B⟩ _).mono ?_
      rintro e w' ⟨he, hb⟩
      rw [q8] at he
      subst he
      replace hS1 := hS1.keep hb
      replace hS2 := hS2.keep hb
      replace hB1 := Below.then hB1 hb
      clear hb z0 z1 z2 z3 y0 y1 y2 y3
      obtain ⟨z0, z1, z2, z3⟩ := id hS1
      obtain ⟨y0, y1, y2, y3⟩ := id hS2
      go_wp2_with fail
      refine (mayRead_any y (-B) _).mono ?_
      rintro e w' ⟨he, hb⟩
      rw [q3] at he
      subst he
      replace hS1 := hS1.keep hb
      replace hS2 := hS2.keep hb
      replace hB1 := Below.then hB1 hb
      clear hb z0 z1 z2 z3 y0 y1 y2 y3
      obtain ⟨z0, z1, z2, z3⟩ := id hS1
      obtain ⟨y0, y1, y2, y3⟩ := id hS2
      go_wp2_with fail
      refine (mayWrite_any y (-B) _).mono ?_
      rintro e w' ⟨he, hb⟩
      rw [q4] at he
      subst he
      replace hS1 := hS1.keep hb
      replace hS2 := hS2.keep hb
      replace hB1 := Below.then hB1 hb
      clear hb z0 z1 z2 z3 y0 y1 y2 y3
      obtain ⟨z0, z1, z2, z3⟩ := id hS1
      obtain ⟨y0, y1, y2, y3⟩ := id hS2
      go_wp2_with fail
      refine (mayExec_any y (7 + B) _).mono ?_
      rintro e w' ⟨he, hb⟩
      rw [q5] at he
      subst he
      replace hS1 := hS1.keep hb
      replace hS2 := hS2.keep hb
      replace hB1 := Below.then hB1 hb
      clear hb z0 z1 z2 z3 y0 y1 y2 y3
      obtain ⟨z0, z1, z2, z3⟩ := id hS1
      obtain ⟨y0, y1, y2, y3⟩ := id hS2
      go_wp2_with fail
      refine (mayRead_any y (7 + B) _).mono ?_
      rintro e w' ⟨he, hb⟩
      rw [q6] at he
      subst he
      replace hS1 := hS1.keep hb
      replace hS2 := hS2.keep hb
      replace hB1 := Below.then hB1 hb
      clear hb z0 z1 z2 z3 y0 y1 y2 y3
      obtain ⟨z0, z1, z2, z3⟩ := id hS1
      obtain ⟨y0, y1, y2, y3⟩ := id hS2
      go_wp2_with fail
      go_ret
      exact ⟨rfl, hB1⟩
  · have q8 : chkR ⟨y.a, y.b, y.c, 16 + B⟩ = 1 := by rw [chkR, if_neg (by unfold OkR; simp only; omega)]
    as_aux_lemma =>
      have hS2 := boxed_alloc W3 ⟨y.a, y.b, y.c, 16 + B⟩
      replace hB1 := Below.then hB1 (below1 W3 (.cells #[.int .i64 (y.a), .int .i64 (y.b), .int .i64 (y.c), .int .i64 (16 + B)] 23))
      replace hS1 := hS1.keep (below1 W3 (.cells #[.int .i64 (y.a), .int .i64 (y.b), .int .i64 (y.c), .int .i64 (16 + B)] 23))
      clear z0 z1 z2 z3
      obtain ⟨z0, z1, z2, z3⟩ := id hS1
      obtain ⟨y0, y1, y2, y3⟩ := id hS2
      go_wp2_with fail
      refine (call_any y 0 (7 + B) _ hok).mono ?_
      rintro e w' ⟨he, hb⟩
      rw [q1] at he
      subst he
      replace hS1 := hS1.keep hb
      replace hS2 := hS2.keep hb
      replace hB1 := Below.then hB1 hb
      clear hb z0 z1 z2 z3 y0 y1 y2 y3
      obtain ⟨z0, z1, z2, z3⟩ := id hS1
      obtain ⟨y0, y1, y2, y3⟩ := id hS2
      go_wp2_with fail
      refine (call_any y 0 (-B) _ hok).mono ?_
      rintro e w' ⟨he, hb⟩
      rw [q2] at he
      subst he
      replace hS1 := hS1.keep hb
      replace hS2 := hS2.keep hb
      replace hB1 := Below.then hB1 hb
      clear hb z0 z1 z2 z3 y0 y1 y2 y3
      obtain ⟨z0, z1, z2, z3⟩ := id hS1
      obtain ⟨y0, y1, y2, y3⟩ := id hS2
      go_wp2_with fail
      refine (check_any y _).mono ?_
      rintro e w' ⟨he, hb⟩
      rw [q7] at he
      subst he
      replace hS1 := hS1.keep hb
      replace hS2 := hS2.keep hb
      replace hB1 := Below.then hB1 hb
      clear hb z0 z1 z2 z3 y0 y1 y2 y3
      obtain ⟨z0, z1, z2, z3⟩ := id hS1
      obtain ⟨y0, y1, y2, y3⟩ := id hS2
      go_wp2_with fail
      refine (check_any ⟨y.a, y.b, y.c, 16 + B⟩ _).mono ?_
      rintro e w' ⟨he, hb⟩
      rw [q8] at he
      subst he
      replace hS1 := hS1.keep hb
      replace hS2 := hS2.keep hb
      replace hB1 := Below.then hB1 hb
      clear hb z0 z1 z2 z3 y0 y1 y2 y3
      obtain ⟨z0, z1, z2, z3⟩ := id hS1
      obtain ⟨y0, y1, y2, y3⟩ := id hS2
      go_wp2_with fail
      refine (mayRead_any y (-B) _).mono ?_
      rintro e w' ⟨he, hb⟩
      rw [q3] at he
      subst he
      replace hS1 := hS1.keep hb
      replace hS2 := hS2.keep hb
      replace hB1 := Below.then hB1 hb
      clear hb z0 z1 z2 z3 y0 y1 y2 y3
      obtain ⟨z0, z1, z2, z3⟩ := id hS1
      obtain ⟨y0, y1, y2, y3⟩ := id hS2
      go_wp2_with fail
      refine (mayWrite_any y (-B) _).mono ?_
      rintro e w' ⟨he, hb⟩
      rw [q4] at he
      subst he
      replace hS1 := hS1.keep hb
      replace hS2 := hS2.keep hb
      replace hB1 := Below.then hB1 hb
      clear hb z0 z1 z2 z3 y0 y1 y2 y3
      obtain ⟨z0, z1, z2, z3⟩ := id hS1
      obtain ⟨y0, y1, y2, y3⟩ := id hS2
      go_wp2_with fail
      refine (mayExec_any y (7 + B) _).mono ?_
      rintro e w' ⟨he, hb⟩
      rw [q5] at he
      subst he
      replace hS1 := hS1.keep hb
      replace hS2 := hS2.keep hb
      replace hB1 := Below.then hB1 hb
      clear hb z0 z1 z2 z3 y0 y1 y2 y3
      obtain ⟨z0, z1, z2, z3⟩ := id hS1
      obtain ⟨y0, y1, y2, y3⟩ := id hS2
      go_wp2_with fail
      refine (mayRead_any y (7 + B) _).mono ?_
      rintro e w' ⟨he, hb⟩
      rw [q6] at he
      subst he
      replace hS1 := hS1.keep hb
      replace hS2 := hS2.keep hb
      replace hB1 := Below.then hB1 hb
      clear hb z0 z1 z2 z3 y0 y1 y2 y3
      obtain ⟨z0, z1, z2, z3⟩ := id hS1
      obtain ⟨y0, y1, y2, y3⟩ := id hS2
      go_wp2_with fail
      go_ret
      exact ⟨rfl, hB1⟩
end Go.Proofs.Ythabdffmfadmnaa
