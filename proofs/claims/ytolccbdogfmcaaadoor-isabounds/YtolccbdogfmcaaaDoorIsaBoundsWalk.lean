/-
  P1501, P1502: operations, pointers and numbers beyond their bounds are refused: the law's walk.
-/
import Derived.Test.YtolccbdogfmcaaaDoorIsaWordsWalk
namespace Go.Proofs.YtolccbdogfmcaaaDoor
open Go.RowKit
set_option maxRecDepth 8000
set_option linter.unusedSimpArgs false
set_option linter.unusedVariables false

theorem not_text {s : ByteArray} {j : Ins} (ho : 0 ≤ j.o ∧ j.o ≤ 22) (hs : insB j = s) (hE : insE j ≠ 0) : ∀ i, ¬ IsT s i := fun i h => by
  have e : insT i = insT j := by
    have := h.2.trans hs.symm
    unfold insB at this
    have := congrArg (fun b : ByteArray => b.data.toList) this
    simpa using this
  have := ins_inj (insE_zero.1 h.1).1 ho e
  rw [this] at h
  exact hE h.1
theorem dig3 : Lib.decDigits 2147483648 = [50, 49, 52, 55, 52, 56, 51, 54, 52, 56] := by
  rw [dig_step 2147483648 (by decide), dig_step (2147483648 / 10) (by decide), dig_step (2147483648 / 10 / 10) (by decide), dig_step (2147483648 / 10 / 10 / 10) (by decide), dig_step (2147483648 / 10 / 10 / 10 / 10) (by decide), dig_step (2147483648 / 10 / 10 / 10 / 10 / 10) (by decide), dig_step (2147483648 / 10 / 10 / 10 / 10 / 10 / 10) (by decide), dig_step (2147483648 / 10 / 10 / 10 / 10 / 10 / 10 / 10) (by decide), dig_step (2147483648 / 10 / 10 / 10 / 10 / 10 / 10 / 10 / 10) (by decide)]
  simp only [dig_one _ (show 2147483648 / 10 / 10 / 10 / 10 / 10 / 10 / 10 / 10 / 10 < 10 by decide), dig_one _ (show 2147483648 / 10 / 10 / 10 / 10 / 10 / 10 / 10 / 10 % 10 < 10 by decide), dig_one _ (show 2147483648 / 10 / 10 / 10 / 10 / 10 / 10 / 10 % 10 < 10 by decide), dig_one _ (show 2147483648 / 10 / 10 / 10 / 10 / 10 / 10 % 10 < 10 by decide), dig_one _ (show 2147483648 / 10 / 10 / 10 / 10 / 10 % 10 < 10 by decide), dig_one _ (show 2147483648 / 10 / 10 / 10 / 10 % 10 < 10 by decide), dig_one _ (show 2147483648 / 10 / 10 / 10 % 10 < 10 by decide), dig_one _ (show 2147483648 / 10 / 10 % 10 < 10 by decide), dig_one _ (show 2147483648 / 10 % 10 < 10 by decide), dig_one _ (show 2147483648 % 10 < 10 by decide)]
  decide
theorem text_b1 : insB ⟨1, 0, 2147483648⟩ = ⟨#[108, 100, 97, 32, 48, 32, 50, 49, 52, 55, 52, 56, 51, 54, 52, 56]⟩ := by
  unfold insB insT
  rw [itoa_def, itoa_def, if_neg (by decide), if_neg (by decide), show (2147483648 : Int).toNat = 2147483648 from rfl, dig3, show (0 : Int).toNat = 0 from rfl, dig_one 0 (by decide)]
  decide +kernel
theorem text_b2 : insB ⟨1, 4, 0⟩ = ⟨#[108, 100, 97, 32, 52, 32, 48]⟩ := by
  unfold insB insT
  rw [itoa_def, itoa_def, if_neg (by decide), if_neg (by decide), show (4 : Int).toNat = 4 from rfl, show (0 : Int).toNat = 0 from rfl, dig_one 0 (by decide), dig_one 4 (by decide)]
  decide +kernel
set_option maxRecDepth 8000 in
set_option maxHeartbeats 8000000 in
theorem isaBounds_walk {I : World → Prop} (C : IsaOk I) (which by_ : Int) (w : World) (hI : ∀ W, Below w.heap.size w W → I W) :
    Calls Tryd.prog 4 #[.int .i64 which, .int .i64 by_] w fun r w' => r = .returned (.bool true) ∧ Below w.heap.size w w' := by
  have hund := Tryd.underlying23
  have hsz : (Tryd.prog.info? 23).map (·.size) = some 3 := by kernel_rfl
  obtain ⟨n, hn1, hn1000, hbn⟩ : ∃ n : Nat, 1 ≤ n ∧ n ≤ 1000 ∧ 1 + by_ % 1000 = (n : Int) := ⟨(1 + by_ % 1000).toNat, by omega, by omega, by omega⟩
  have kw := w15_any by_ 1000 (by decide) (by decide)
  obtain ⟨b3, hb3⟩ : ∃ b3, by_ % 1000 = b3 := ⟨_, rfl⟩
  have hwr : IntKind.i64.wrap (1 + b3) = (n : Int) := by rw [IntKind.wrap_i64]; omega
  rw [hb3] at kw
  obtain ⟨q6, hq6, hq60, hq65⟩ : ∃ q6 : Int, which % 6 = q6 ∧ 0 ≤ q6 ∧ q6 ≤ 5 := ⟨_, rfl, by omega, by omega⟩
  have kw6 := w15_any which 6 (by decide) (by decide)
  rw [hq6] at kw6
  have hi0 : insE ⟨22, 3, 2147483647⟩ = 0 := by decide +kernel
  clear hq6 hb3 hbn
  go_enter Tryd.func4, Tryd.ntmps4
  go_wp2_with fail
  refine (iknown_any C w (hI _ (Below.refl _ _))).mono ?_
  rintro r W1 ⟨rfl, hB1⟩
  go_wp2_with fail
  refine (kw W1).mono ?_
  rintro r W1' ⟨rfl, hW1⟩
  replace hW1 := hW1.symm
  subst hW1
  have hb2 := blkl_alloc W1 (ins3 ⟨22, 3, 2147483647⟩).toArray 23
  have hB2 := alloc_below W1 (.cells (ins3 ⟨22, 3, 2147483647⟩).toArray 23)
  replace hb2 : BlkL W1.heap.size (ins3 ⟨22, 3, 2147483647⟩) (W1.alloc (.cells (ins3 ⟨22, 3, 2147483647⟩).toArray 23)) := hb2
  have hB02 := Below.then hB1 hB2
  have hwg := hB1.size
  go_upto_region 5 with fail
  generalize W1.alloc (.cells #[.int .i64 22, .int .i64 3, .int .i64 2147483647] 23) = W2 at *
  generalize W1.heap.size = g at *
  have hr2 := hb2.range
  have ke := C.enc ⟨22, 3, 2147483647⟩ W2 (hI _ hB02)
  rw [hi0] at ke
  clear kw hB1 hB2
  go_wp2_with (first | (refine wpList_load_row rfl _ rfl g rfl (ins3 ⟨22, 3, 2147483647⟩) hr2 hund rfl hsz ?_) | fail)
  refine ke.mono ?_
  rintro r W3 ⟨rfl, hB3⟩
  have hb3 := stab_blk _ _ _ _ hb2 hB3
  replace hB3 := Below.then hB02 hB3
  clear ke hr2 hb2 hB02
  go_wp2_with fail
  refine (kw6 W3).mono ?_
  rintro r W3' ⟨rfl, hW3⟩
  replace hW3 := hW3.symm
  subst hW3
  clear kw6
  have hcase : q6 = 0 ∨ q6 = 1 ∨ q6 = 2 ∨ q6 = 3 ∨ q6 = 4 ∨ q6 = 5 := by omega
  go_upto_block 0 with fail
  go_cut [8] from 28 (fun s8 wc => ∃ (i : Ins) (f : Int), s8 = .int .i64 f ∧ insE i = f ∧ BlkL g (ins3 i) wc ∧ Below w.heap.size w wc)
  case first =>
    clear hq60 hq65
    rcases hcase with hq6 | hq6 | hq6 | hq6 | hq6 | hq6
    · subst hq6
      have hw0 : IntKind.i64.wrap (22 + (n : Int)) = 22 + (n : Int) := by rw [IntKind.wrap_i64]; omega
      have hcx := (hb3.1 0 _ rfl).1
      have hfx := (hb3.1 0 _ rfl).2
      have hset : BlkL g (ins3 ⟨22 + (n : Int), 3, 2147483647⟩) (W3.setCell ⟨g, 0, none⟩ (.int .i64 (22 + (n : Int)))) := by
        have h1 := hb3.1.set 0 (.int .i64 (22 + (n : Int))) (by simp [ins3])
        exact ⟨h1, h1.lt rfl⟩
      have hbl := hB3.setCell (p := ⟨g, 0, none⟩) hwg (.int .i64 (22 + (n : Int)))
      have hE : insE ⟨22 + (n : Int), 3, 2147483647⟩ = 3 := by
        unfold insE
        rw [if_pos (by show 22 + (n : Int) < 0 ∨ 22 < 22 + (n : Int); omega)]
      go_wp2_with fail
      go_meet
      exact ⟨_, 3, rfl, hE, hset, hbl⟩
    · subst hq6
      have hw0 : IntKind.i64.wrap (-(n : Int)) = -(n : Int) := by rw [IntKind.wrap_i64]; omega
      have hcx := (hb3.1 0 _ rfl).1
      have hfx := (hb3.1 0 _ rfl).2
      have hset : BlkL g (ins3 ⟨-(n : Int), 3, 2147483647⟩) (W3.setCell ⟨g, 0, none⟩ (.int .i64 (-(n : Int)))) := by
        have h1 := hb3.1.set 0 (.int .i64 (-(n : Int))) (by simp [ins3])
        exact ⟨h1, h1.lt rfl⟩
      have hbl := hB3.setCell (p := ⟨g, 0, none⟩) hwg (.int .i64 (-(n : Int)))
      have hE : insE ⟨-(n : Int), 3, 2147483647⟩ = 3 := by
        unfold insE
        rw [if_pos (by show -(n : Int) < 0 ∨ 22 < -(n : Int); omega)]
      go_wp2_with fail
      go_meet
      exact ⟨_, 3, rfl, hE, hset, hbl⟩
    · subst hq6
      have hw0 : IntKind.i64.wrap (3 + (n : Int)) = 3 + (n : Int) := by rw [IntKind.wrap_i64]; omega
      have hcx := (hb3.1 1 _ rfl).1
      have hfx := (hb3.1 1 _ rfl).2
      have hset : BlkL g (ins3 ⟨22, 3 + (n : Int), 2147483647⟩) (W3.setCell ⟨g, 1, none⟩ (.int .i64 (3 + (n : Int)))) := by
        have h1 := hb3.1.set 1 (.int .i64 (3 + (n : Int))) (by simp [ins3])
        exact ⟨h1, h1.lt rfl⟩
      have hbl := hB3.setCell (p := ⟨g, 1, none⟩) hwg (.int .i64 (3 + (n : Int)))
      have hE : insE ⟨22, 3 + (n : Int), 2147483647⟩ = 1 := by
        unfold insE
        rw [if_neg (by show ¬ ((22 : Int) < 0 ∨ (22 : Int) < 22); omega), if_pos (by show 3 + (n : Int) < 0 ∨ 3 < 3 + (n : Int) ∨ (2147483647 : Int) < -2147483648 ∨ (2147483647 : Int) < 2147483647; omega)]
      go_wp2_with fail
      go_meet
      exact ⟨_, 1, rfl, hE, hset, hbl⟩
    · subst hq6
      have hw0 : IntKind.i64.wrap (-(n : Int)) = -(n : Int) := by rw [IntKind.wrap_i64]; omega
      have hcx := (hb3.1 1 _ rfl).1
      have hfx := (hb3.1 1 _ rfl).2
      have hset : BlkL g (ins3 ⟨22, -(n : Int), 2147483647⟩) (W3.setCell ⟨g, 1, none⟩ (.int .i64 (-(n : Int)))) := by
        have h1 := hb3.1.set 1 (.int .i64 (-(n : Int))) (by simp [ins3])
        exact ⟨h1, h1.lt rfl⟩
      have hbl := hB3.setCell (p := ⟨g, 1, none⟩) hwg (.int .i64 (-(n : Int)))
      have hE : insE ⟨22, -(n : Int), 2147483647⟩ = 1 := by
        unfold insE
        rw [if_neg (by show ¬ ((22 : Int) < 0 ∨ (22 : Int) < 22); omega), if_pos (by show -(n : Int) < 0 ∨ 3 < -(n : Int) ∨ (2147483647 : Int) < -2147483648 ∨ (2147483647 : Int) < 2147483647; omega)]
      go_wp2_with fail
      go_meet
      exact ⟨_, 1, rfl, hE, hset, hbl⟩
    · subst hq6
      have hw0 : IntKind.i64.wrap (2147483647 + (n : Int)) = 2147483647 + (n : Int) := by rw [IntKind.wrap_i64]; omega
      have hcx := (hb3.1 2 _ rfl).1
      have hfx := (hb3.1 2 _ rfl).2
      have hset : BlkL g (ins3 ⟨22, 3, 2147483647 + (n : Int)⟩) (W3.setCell ⟨g, 2, none⟩ (.int .i64 (2147483647 + (n : Int)))) := by
        have h1 := hb3.1.set 2 (.int .i64 (2147483647 + (n : Int))) (by simp [ins3])
        exact ⟨h1, h1.lt rfl⟩
      have hbl := hB3.setCell (p := ⟨g, 2, none⟩) hwg (.int .i64 (2147483647 + (n : Int)))
      have hE : insE ⟨22, 3, 2147483647 + (n : Int)⟩ = 1 := by
        unfold insE
        rw [if_neg (by show ¬ ((22 : Int) < 0 ∨ (22 : Int) < 22); omega), if_pos (by show (3 : Int) < 0 ∨ (3 : Int) < 3 ∨ 2147483647 + (n : Int) < -2147483648 ∨ 2147483647 < 2147483647 + (n : Int); omega)]
      go_wp2_with fail
      go_meet
      exact ⟨_, 1, rfl, hE, hset, hbl⟩
    · subst hq6
      have hw0 : IntKind.i64.wrap (-2147483648 - (n : Int)) = -2147483648 - (n : Int) := by rw [IntKind.wrap_i64]; omega
      have hcx := (hb3.1 2 _ rfl).1
      have hfx := (hb3.1 2 _ rfl).2
      have hset : BlkL g (ins3 ⟨22, 3, -2147483648 - (n : Int)⟩) (W3.setCell ⟨g, 2, none⟩ (.int .i64 (-2147483648 - (n : Int)))) := by
        have h1 := hb3.1.set 2 (.int .i64 (-2147483648 - (n : Int))) (by simp [ins3])
        exact ⟨h1, h1.lt rfl⟩
      have hbl := hB3.setCell (p := ⟨g, 2, none⟩) hwg (.int .i64 (-2147483648 - (n : Int)))
      have hE : insE ⟨22, 3, -2147483648 - (n : Int)⟩ = 1 := by
        unfold insE
        rw [if_neg (by show ¬ ((22 : Int) < 0 ∨ (22 : Int) < 22); omega), if_pos (by show (3 : Int) < 0 ∨ (3 : Int) < 3 ∨ -2147483648 - (n : Int) < -2147483648 ∨ 2147483647 < -2147483648 - (n : Int); omega)]
      go_wp2_with fail
      go_meet
      exact ⟨_, 1, rfl, hE, hset, hbl⟩
  case rest =>
  clear hb3 hB3 hcase
  obtain ⟨i, f, rfl, hE, hb, hB⟩ := hcut
  obtain ⟨X, hX⟩ : ∃ X, X = wc := ⟨_, rfl⟩
  subst hX
  have hr := hb.range
  have ke := C.enc i X (hI _ hB)
  rw [hE] at ke
  clear hE
  go_wp2_with (first | (refine wpList_load_row rfl _ rfl g rfl (ins3 i) hr hund rfl hsz ?_) | fail)
  refine ke.mono ?_
  rintro r Y1 ⟨rfl, hB1⟩
  replace hB := Below.then hB hB1
  clear ke hr hb hB1
  go_wp2_with fail
  refine (C.parse ⟨#[108, 100, 97, 32, 48, 32, 50, 49, 52, 55, 52, 56, 51, 54, 52, 56]⟩ (by decide) Y1 (hI _ hB)).mono ?_
  rintro r Y2 ⟨j2, f2, rfl, hp2, hB2⟩
  obtain rfl := hp2.bad (not_text (j := ⟨1, 0, 2147483648⟩) (by decide) text_b1 (by decide +kernel))
  have hB3 := alloc_below Y2 (.cells (ins3 j2).toArray 23)
  replace hB := Below.then (Below.then hB hB2) hB3
  clear hp2 hB2 hB3
  go_upto_region 22 with fail
  generalize Y2.alloc (.cells #[.int .i64 j2.o, .int .i64 j2.p, .int .i64 j2.n] 23) = Y3 at *
  go_wp2_with fail
  refine (C.parse ⟨#[108, 100, 97, 32, 52, 32, 48]⟩ (by decide) Y3 (hI _ hB)).mono ?_
  rintro r Y4 ⟨j4, f4, rfl, hp4, hB4⟩
  obtain rfl := hp4.bad (not_text (j := ⟨1, 4, 0⟩) (by decide) text_b2 (by decide +kernel))
  have hB5 := alloc_below Y4 (.cells (ins3 j4).toArray 23)
  replace hB := Below.then (Below.then hB hB4) hB5
  clear hp4 hB4 hB5
  go_wp2_with fail
  go_ret
  exact ⟨rfl, hB⟩
end Go.Proofs.YtolccbdogfmcaaaDoor
