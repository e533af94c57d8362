/-
  LabelBounds: the walk.
-/
import Derived.Test.YtbaaomplennalabDoorLabelStepsFacts
import Derived.Test.YtbaaomplennalabDoorLabelParse
namespace Go.Proofs.YtbaaomplennalabDoor
open Go.RowKit
set_option linter.unusedSimpArgs false

theorem four_none : parseE ⟨#[52, 46, 48, 46, 48, 46, 48]⟩ = 1 := by decide +kernel
theorem cats_none : parseE ⟨#[48, 46, 50, 53, 54, 46, 48, 46, 48]⟩ = 1 := by decide +kernel
theorem neg_none : parseE ⟨#[48, 46, 48, 46, 45, 49, 46, 48]⟩ = 1 := by decide +kernel
theorem end_none : parseE ⟨#[48, 46, 48, 46, 48, 46]⟩ = 1 := by decide +kernel

theorem chk_bad {l : Lab} (h : ¬ GL l) : chkL l = 1 := by unfold chkL; rw [if_neg (fun k => h (ok_GL l k))]

set_option maxHeartbeats 8000000 in
theorem labelBounds_walk (q by' : Int) (w : World) (hv : Vars w) :
    Calls Tryd.prog 4 #[.int .i64 q, .int .i64 by'] w fun e w' => e = .returned (.bool true) ∧ Below w.heap.size w w' := by
  have cK := known_any w hv.tab
  obtain ⟨n, hn, hn0, hn5⟩ : ∃ n : Int, by' % 500 = n ∧ 0 ≤ n ∧ n < 500 := ⟨_, rfl, by omega, by omega⟩
  have cW := fun W => within_any by' 500 (by decide) (by decide) W
  rw [hn] at cW
  obtain ⟨k, hk⟩ : ∃ k, k = q % 4 := ⟨_, rfl⟩
  have hk0 : k = 0 ∨ k = 1 ∨ k = 2 ∨ k = 3 := by omega
  have cQ := fun W => within_any q 4 (by decide) (by decide) W
  rw [← hk] at cQ
  clear hk hn
  go_enter Tryd.func4, Tryd.ntmps4
  go_wp2_with fail
  refine cK.mono ?_
  rintro e W1 ⟨rfl, hb1⟩
  clear cK
  go_wp2_with fail
  refine (cW _).mono ?_
  rintro e W2 ⟨rfl, rfl⟩
  go_wp2_with fail
  have hS3 := boxed_alloc W2 ⟨3, 255, 3, 255⟩
  have hF3 := free_alloc W2 #[.int .i64 3, .int .i64 255, .int .i64 3, .int .i64 255] 23
  have hB3 := Below.then hb1 ((Below.refl _ W2).alloc (Nat.le_refl _) (.cells #[.int .i64 3, .int .i64 255, .int .i64 3, .int .i64 255] 23))
  have hgb : w.heap.size ≤ W2.heap.size := hb1.size
  have c1 : chkL ⟨3, 255, 3, 255⟩ = 0 := by decide
  have c2 : chkL ⟨0, 0, 0, 0⟩ = 0 := by decide
  have cC := check_any ⟨3, 255, 3, 255⟩ (W2.alloc (.cells #[.int .i64 3, .int .i64 255, .int .i64 3, .int .i64 255] 23))
  rw [c1] at cC
  generalize (W2.alloc (.cells #[.int .i64 3, .int .i64 255, .int .i64 3, .int .i64 255] 23)) = W3 at *
  generalize W2.heap.size = lb at *
  refine cC.mono ?_
  rintro e W4 ⟨rfl, hb⟩
  have hS4 := hS3.keep hb
  have hF4 := hF3.keep (World.block_lt_of_cell? _ _ hS3.1) hb
  have hB4 := Below.then hB3 hb
  clear cC hS3 hF3 hB3 hb hb1 c1
  go_wp2_with fail
  have cC := check_any ⟨0, 0, 0, 0⟩ W4
  rw [c2] at cC
  refine cC.mono ?_
  rintro e W5 ⟨rfl, hb⟩
  have hS5 := hS4.keep hb
  have hF5 := hF4.keep (World.block_lt_of_cell? _ _ hS4.1) hb
  have hB5 := Below.then hB4 hb
  clear cC hS4 hF4 hB4 hb c2
  go_wp2_with fail
  refine (cQ _).mono ?_
  rintro e W6 ⟨rfl, rfl⟩
  rcases hk0 with rfl | rfl | rfl | rfl
  · have cP := fun W (h : Vars W) => parse_any ⟨#[52, 46, 48, 46, 48, 46, 48]⟩ (by decide) W h
    rw [four_none] at cP
    have cE : chkL ⟨3 + (1 + n), 255, 3, 255⟩ = 1 := chk_bad fun h => by have := h.s1; simp only at this; omega
    have hS7 := set0 (3 + (1 + n)) hS5
    have hB7 := hB5.setCell (p := ⟨lb, 0, none⟩) hgb (.int .i64 (3 + (1 + n)))
    go_wp2_with fail
    generalize hW7 : W6.setCell ⟨lb, 0, none⟩ (.int .i64 (3 + (1 + n))) = W7 at *
    have hv7 := hv.keep hB7
    refine (cP W7 hv7).mono ?_
    clear hS5 hF5 hB5 hW7 cP
    generalize parseV _ = PL
    rintro e W8 ⟨rfl, hb⟩
    have hS8 := hS7.keep hb
    have hB8 := Below.then hB7 hb
    have k0 := fun o => (hS8.keep ((Below.refl _ W8).alloc (Nat.le_refl _) o)).1
    have k1 := fun o => (hS8.keep ((Below.refl _ W8).alloc (Nat.le_refl _) o)).2.1
    have k2 := fun o => (hS8.keep ((Below.refl _ W8).alloc (Nat.le_refl _) o)).2.2.1
    have k3 := fun o => (hS8.keep ((Below.refl _ W8).alloc (Nat.le_refl _) o)).2.2.2
    clear hS7 hB7 hb hv7
    have cC := fun W => check_any ⟨3 + (1 + n), 255, 3, 255⟩ W
    rw [cE] at cC
    go_wp2_with fail
    refine (cC _).mono ?_
    rintro e W9 ⟨rfl, hb⟩
    go_wp2_with fail
    go_ret
    exact ⟨rfl, Below.then (Below.then hB8 ((Below.refl _ W8).alloc (Nat.le_refl _) _)) hb⟩
  · have cP := fun W (h : Vars W) => parse_any ⟨#[48, 46, 50, 53, 54, 46, 48, 46, 48]⟩ (by decide) W h
    rw [cats_none] at cP
    have cE : chkL ⟨3, 255 + (1 + n), 3, 255⟩ = 1 := chk_bad fun h => by have := h.c1; simp only at this; omega
    have hS7 := set1 (255 + (1 + n)) hS5
    have hB7 := hB5.setCell (p := ⟨lb, 1, none⟩) hgb (.int .i64 (255 + (1 + n)))
    go_wp2_with fail
    generalize hW7 : W6.setCell ⟨lb, 1, none⟩ (.int .i64 (255 + (1 + n))) = W7 at *
    have hv7 := hv.keep hB7
    refine (cP W7 hv7).mono ?_
    clear hS5 hF5 hB5 hW7 cP
    generalize parseV _ = PL
    rintro e W8 ⟨rfl, hb⟩
    have hS8 := hS7.keep hb
    have hB8 := Below.then hB7 hb
    have k0 := fun o => (hS8.keep ((Below.refl _ W8).alloc (Nat.le_refl _) o)).1
    have k1 := fun o => (hS8.keep ((Below.refl _ W8).alloc (Nat.le_refl _) o)).2.1
    have k2 := fun o => (hS8.keep ((Below.refl _ W8).alloc (Nat.le_refl _) o)).2.2.1
    have k3 := fun o => (hS8.keep ((Below.refl _ W8).alloc (Nat.le_refl _) o)).2.2.2
    clear hS7 hB7 hb hv7
    have cC := fun W => check_any ⟨3, 255 + (1 + n), 3, 255⟩ W
    rw [cE] at cC
    go_wp2_with fail
    refine (cC _).mono ?_
    rintro e W9 ⟨rfl, hb⟩
    go_wp2_with fail
    go_ret
    exact ⟨rfl, Below.then (Below.then hB8 ((Below.refl _ W8).alloc (Nat.le_refl _) _)) hb⟩
  · have cP := fun W (h : Vars W) => parse_any ⟨#[48, 46, 48, 46, 45, 49, 46, 48]⟩ (by decide) W h
    rw [neg_none] at cP
    have cE : chkL ⟨3, 255, -(1 + n), 255⟩ = 1 := chk_bad fun h => by have := h.i0; simp only at this; omega
    have hS7 := set2 (-(1 + n)) hS5
    have hB7 := hB5.setCell (p := ⟨lb, 2, none⟩) hgb (.int .i64 (-(1 + n)))
    go_wp2_with fail
    generalize hW7 : W6.setCell ⟨lb, 2, none⟩ (.int .i64 (-(1 + n))) = W7 at *
    have hv7 := hv.keep hB7
    refine (cP W7 hv7).mono ?_
    clear hS5 hF5 hB5 hW7 cP
    generalize parseV _ = PL
    rintro e W8 ⟨rfl, hb⟩
    have hS8 := hS7.keep hb
    have hB8 := Below.then hB7 hb
    have k0 := fun o => (hS8.keep ((Below.refl _ W8).alloc (Nat.le_refl _) o)).1
    have k1 := fun o => (hS8.keep ((Below.refl _ W8).alloc (Nat.le_refl _) o)).2.1
    have k2 := fun o => (hS8.keep ((Below.refl _ W8).alloc (Nat.le_refl _) o)).2.2.1
    have k3 := fun o => (hS8.keep ((Below.refl _ W8).alloc (Nat.le_refl _) o)).2.2.2
    clear hS7 hB7 hb hv7
    have cC := fun W => check_any ⟨3, 255, -(1 + n), 255⟩ W
    rw [cE] at cC
    go_wp2_with fail
    refine (cC _).mono ?_
    rintro e W9 ⟨rfl, hb⟩
    go_wp2_with fail
    go_ret
    exact ⟨rfl, Below.then (Below.then hB8 ((Below.refl _ W8).alloc (Nat.le_refl _) _)) hb⟩
  · have cP := fun W (h : Vars W) => parse_any ⟨#[48, 46, 48, 46, 48, 46]⟩ (by decide) W h
    rw [end_none] at cP
    have cE : chkL ⟨3, 255, 3, -(1 + n)⟩ = 1 := chk_bad fun h => by have := h.k0; simp only at this; omega
    have hS7 := set3 (-(1 + n)) hS5
    have hB7 := hB5.setCell (p := ⟨lb, 3, none⟩) hgb (.int .i64 (-(1 + n)))
    go_wp2_with fail
    generalize hW7 : W6.setCell ⟨lb, 3, none⟩ (.int .i64 (-(1 + n))) = W7 at *
    have hv7 := hv.keep hB7
    refine (cP W7 hv7).mono ?_
    clear hS5 hF5 hB5 hW7 cP
    generalize parseV _ = PL
    rintro e W8 ⟨rfl, hb⟩
    have hS8 := hS7.keep hb
    have hB8 := Below.then hB7 hb
    have k0 := fun o => (hS8.keep ((Below.refl _ W8).alloc (Nat.le_refl _) o)).1
    have k1 := fun o => (hS8.keep ((Below.refl _ W8).alloc (Nat.le_refl _) o)).2.1
    have k2 := fun o => (hS8.keep ((Below.refl _ W8).alloc (Nat.le_refl _) o)).2.2.1
    have k3 := fun o => (hS8.keep ((Below.refl _ W8).alloc (Nat.le_refl _) o)).2.2.2
    clear hS7 hB7 hb hv7
    have cC := fun W => check_any ⟨3, 255, 3, -(1 + n)⟩ W
    rw [cE] at cC
    go_wp2_with fail
    refine (cC _).mono ?_
    rintro e W9 ⟨rfl, hb⟩
    go_wp2_with fail
    go_ret
    exact ⟨rfl, Below.then (Below.then hB8 ((Below.refl _ W8).alloc (Nat.le_refl _) _)) hb⟩
end Go.Proofs.YtbaaomplennalabDoor
