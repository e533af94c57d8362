/-
  Proved, with no condition: whatever two int values the law WordSmall is called with, it answers true, that is, for integers of at most 25 bits FAdd, FSub and FMul are exact, and FDiv undoes FMul.
-/
import Derived.Test.YtgoajapgcmpflabRows
import Derived.WalkKit
import Derived.ProofKit
import Derived.OpenShut
import Derived.Test.YtgoajapgcmpflabSmall
namespace Go.Proofs.Ytgoajapgcmpflab.wordSmall
open Go.ChangeShapes Go.WideShapes Go.ChangeAt Go.RowKit
set_option linter.unusedVariables false

theorem own : ownKnob Try.prog.godebug = none := by kernel_rfl

theorem fromI_any (a : Int) (w : World) :
    Calls Try.prog 11 #[.int .i64 a] w fun e w' => e = .returned (.int .i64 (fromI a)) ∧ w' = w := word_FromInt_any a w

set_option maxHeartbeats 1000000 in
theorem small_zero (a b p q x y s d : Int) (w : World) (p0 : 0 ≤ p) (p1 : p < 33554432) (q0 : 0 ≤ q) (q1 : q < 33554432)
    (hw1 : ∀ w, Calls Try.prog 10 #[.int .i64 a, .int .i64 33554432] w fun e w' => e = .returned (.int .i64 p) ∧ w' = w)
    (hw2 : ∀ w, Calls Try.prog 10 #[.int .i64 b, .int .i64 33554432] w fun e w' => e = .returned (.int .i64 q) ∧ w' = w)
    (f1 : fromI (p - 16777216) = x) (f2 : fromI (q - 16777216) = y) (f3 : toV x = p - 16777216) (f4 : toE x = 0)
    (f5 : fromI (p - 16777216 + (q - 16777216)) = s) (f6 : fop .add x y = s) (f7 : fromI (p - 16777216 - (q - 16777216)) = d) (f8 : fop .sub x y = d)
    (hz : p = 16777216 ∨ q = 16777216) :
    Calls Try.prog 3 #[.int .i64 a, .int .i64 b] w fun e w' => e = .returned (.bool true) ∧ Grown w w' := by
  rcases hz with hz | hz
  · have z1 : p ≤ 16777216 := by omega
    have z2 : 16777216 ≤ p := by omega
    clear hz
    rcases (by omega : q < 16777216 ∨ (q ≤ 16777216 ∧ 16777216 ≤ q) ∨ 16777216 < q) with h | ⟨h, h'⟩ | h
    all_goals
      go_enter Try.func3, Try.ntmps3
      go_wp2_with fail
      refine (known_any _).mono ?_
      rintro e w' ⟨rfl, n, rfl⟩
      go_wp2_with fail
      refine (hw1 _).mono ?_
      rintro e w' ⟨rfl, rfl⟩
      go_wp2_with fail
      refine (hw2 _).mono ?_
      rintro e w' ⟨rfl, rfl⟩
      go_wp2_with fail
      refine (fromI_any _ _).mono ?_
      rintro e w' ⟨rfl, rfl⟩
      go_wp2_with fail
      refine (fromI_any _ _).mono ?_
      rintro e w' ⟨rfl, rfl⟩
      go_wp2_with fail
      refine (word_ToInt_any _ _).mono ?_
      rintro e w' ⟨rfl, rfl⟩
      go_wp2_with fail
      refine (word_FAdd_any _ _ _).mono ?_
      rintro e w' ⟨rfl, n, rfl⟩
      go_wp2_with fail
      refine (fromI_any _ _).mono ?_
      rintro e w' ⟨rfl, rfl⟩
      go_wp2_with fail
      refine (word_FSub_any _ _ _).mono ?_
      rintro e w' ⟨rfl, n, rfl⟩
      go_wp2_with fail
      refine (fromI_any _ _).mono ?_
      rintro e w' ⟨rfl, rfl⟩
      go_wp2_with fail
      go_ret
      exact ⟨rfl, grown_drewN _ _⟩
  · have z1 : q ≤ 16777216 := by omega
    have z2 : 16777216 ≤ q := by omega
    clear hz
    rcases (by omega : p < 16777216 ∨ (p ≤ 16777216 ∧ 16777216 ≤ p) ∨ 16777216 < p) with h | ⟨h, h'⟩ | h
    all_goals
      go_enter Try.func3, Try.ntmps3
      go_wp2_with fail
      refine (known_any _).mono ?_
      rintro e w' ⟨rfl, n, rfl⟩
      go_wp2_with fail
      refine (hw1 _).mono ?_
      rintro e w' ⟨rfl, rfl⟩
      go_wp2_with fail
      refine (hw2 _).mono ?_
      rintro e w' ⟨rfl, rfl⟩
      go_wp2_with fail
      refine (fromI_any _ _).mono ?_
      rintro e w' ⟨rfl, rfl⟩
      go_wp2_with fail
      refine (fromI_any _ _).mono ?_
      rintro e w' ⟨rfl, rfl⟩
      go_wp2_with fail
      refine (word_ToInt_any _ _).mono ?_
      rintro e w' ⟨rfl, rfl⟩
      go_wp2_with fail
      refine (word_FAdd_any _ _ _).mono ?_
      rintro e w' ⟨rfl, n, rfl⟩
      go_wp2_with fail
      refine (fromI_any _ _).mono ?_
      rintro e w' ⟨rfl, rfl⟩
      go_wp2_with fail
      refine (word_FSub_any _ _ _).mono ?_
      rintro e w' ⟨rfl, n, rfl⟩
      go_wp2_with fail
      refine (fromI_any _ _).mono ?_
      rintro e w' ⟨rfl, rfl⟩
      go_wp2_with fail
      go_ret
      exact ⟨rfl, grown_drewN _ _⟩

set_option maxHeartbeats 1000000 in
theorem small_rest (a b p q x y s d : Int) (w : World) (p0 : 0 ≤ p) (p1 : p < 33554432) (q0 : 0 ≤ q) (q1 : q < 33554432)
    (hw1 : ∀ w, Calls Try.prog 10 #[.int .i64 a, .int .i64 33554432] w fun e w' => e = .returned (.int .i64 p) ∧ w' = w)
    (hw2 : ∀ w, Calls Try.prog 10 #[.int .i64 b, .int .i64 33554432] w fun e w' => e = .returned (.int .i64 q) ∧ w' = w)
    (f1 : fromI (p - 16777216) = x) (f2 : fromI (q - 16777216) = y) (f3 : toV x = p - 16777216) (f4 : toE x = 0)
    (f5 : fromI (p - 16777216 + (q - 16777216)) = s) (f6 : fop .add x y = s) (f7 : fromI (p - 16777216 - (q - 16777216)) = d) (f8 : fop .sub x y = d) (m M : Int)
    (hM : wrap64 ((p - 16777216) * (q - 16777216)) = M) (g1 : fromI M = m) (g2 : fop .mul x y = m) (g3 : fop .quo m y = x) (hp : p < 16777216 ∨ 16777216 < p) (hq : q < 16777216 ∨ 16777216 < q) :
    Calls Try.prog 3 #[.int .i64 a, .int .i64 b] w fun e w' => e = .returned (.bool true) ∧ Grown w w' := by
  rcases hp with hp | hp <;> rcases hq with hq | hq
  all_goals
    go_enter Try.func3, Try.ntmps3
    go_wp2_with fail
    refine (known_any _).mono ?_
    rintro e w' ⟨rfl, n, rfl⟩
    go_wp2_with fail
    refine (hw1 _).mono ?_
    rintro e w' ⟨rfl, rfl⟩
    go_wp2_with fail
    refine (hw2 _).mono ?_
    rintro e w' ⟨rfl, rfl⟩
    go_wp2_with fail
    refine (fromI_any _ _).mono ?_
    rintro e w' ⟨rfl, rfl⟩
    go_wp2_with fail
    refine (fromI_any _ _).mono ?_
    rintro e w' ⟨rfl, rfl⟩
    go_wp2_with fail
    refine (word_ToInt_any _ _).mono ?_
    rintro e w' ⟨rfl, rfl⟩
    go_wp2_with fail
    refine (word_FAdd_any _ _ _).mono ?_
    rintro e w' ⟨rfl, n, rfl⟩
    go_wp2_with fail
    refine (fromI_any _ _).mono ?_
    rintro e w' ⟨rfl, rfl⟩
    go_wp2_with fail
    refine (word_FSub_any _ _ _).mono ?_
    rintro e w' ⟨rfl, n, rfl⟩
    go_wp2_with fail
    refine (fromI_any _ _).mono ?_
    rintro e w' ⟨rfl, rfl⟩
    go_wp2_with fail
    refine (word_FMul_any _ _ _).mono ?_
    rintro e w' ⟨rfl, n, rfl⟩
    go_wp2_with fail
    refine (fromI_any _ _).mono ?_
    rintro e w' ⟨rfl, rfl⟩
    go_wp2_with fail
    refine (word_FMul_any _ _ _).mono ?_
    rintro e w' ⟨rfl, n, rfl⟩
    go_wp2_with fail
    refine (word_FDiv_any _ _ _).mono ?_
    rintro e w' ⟨rfl, n, rfl⟩
    go_wp2_with fail
    go_ret
    exact ⟨rfl, grown_drewN _ _⟩


/-! ### The walk -/
set_option maxHeartbeats 1000000 in
theorem walk (a0 : Int) (a1 : Int) (w0 : (Lit.int .i64 a0).wf = true) (w1 : (Lit.int .i64 a1).wf = true) (w : World) :
    Calls Try.prog 3 #[.int .i64 a0, .int .i64 a1] w fun e w' => e = .returned (.bool true) ∧ Grown w w' := by
  obtain ⟨p, hp, p0, p1⟩ : ∃ p : Int, a0 % 33554432 = p ∧ 0 ≤ p ∧ p < 33554432 := ⟨_, rfl, by omega, by omega⟩
  obtain ⟨q, hq, q0, q1⟩ : ∃ q : Int, a1 % 33554432 = q ∧ 0 ≤ q ∧ q < 33554432 := ⟨_, rfl, by omega, by omega⟩
  have hw1 : ∀ w, Calls Try.prog 10 #[.int .i64 a0, .int .i64 33554432] w fun e w' => e = .returned (.int .i64 p) ∧ w' = w := by
    intro w; rw [← hp]; exact within_any a0 33554432 (by decide) (by decide) w
  have hw2 : ∀ w, Calls Try.prog 10 #[.int .i64 a1, .int .i64 33554432] w fun e w' => e = .returned (.int .i64 q) ∧ w' = w := by
    intro w; rw [← hq]; exact within_any a1 33554432 (by decide) (by decide) w
  have hA : (p - 16777216).natAbs ≤ 33554432 := by omega
  have hB : (q - 16777216).natAbs ≤ 33554432 := by omega
  obtain ⟨r, hr, er, _⟩ := small_word (p - 16777216) (by omega)
  obtain ⟨f3, f4⟩ := back hr er (by omega) (by omega)
  have f6 := small_add hA hB
  have f8 := small_sub hA hB
  by_cases hz : p = 16777216 ∨ q = 16777216
  · exact small_zero a0 a1 p q _ _ _ _ w p0 p1 q0 q1 hw1 hw2 rfl rfl f3 f4 rfl f6 rfl f8 hz
  · have n1 : p - 16777216 ≠ 0 := by omega
    have n2 : q - 16777216 ≠ 0 := by omega
    have hM : wrap64 ((p - 16777216) * (q - 16777216)) = (p - 16777216) * (q - 16777216) := by
      have := abs_mul hA hB
      generalize (p - 16777216) * (q - 16777216) = z at *
      unfold wrap64; omega
    exact small_rest a0 a1 p q _ _ _ _ w p0 p1 q0 q1 hw1 hw2 rfl rfl f3 f4 rfl f6 rfl f8 _ _ hM rfl (small_mul hA hB n1 n2) (small_div hA hB n1 n2) (by omega) (by omega)

/-! ### The row -/
set_option maxRecDepth 100000 in
theorem lifted (os : Os) (started : os.Started) (H : Type) (enc : TypeId × Value → H) :
    ReturnsInHanded {} Try.checked os 3 .any (Rows.wordSmallSpec.pre6 enc Try.prog Try.f3 Rows.wordSmallRow.domain false) (Rows.wordSmallSpec.post enc Try.prog Try.f3 false true false false) := by
  refine returnsInHanded_of_change (C := Try.checked) own started (by kernel_rfl) Try.func3
    (ChangeSpec.witness6 (enc := enc) (C := Try.checked) false ⟨#[], #[.int .i64 0, .int .i64 0], []⟩ 8 (by kernel_rfl) (by kernel_rfl) (by kernel_rfl) (by kernel_rfl)) ?_
  intro W base args ds gs before hval0 hW hcnd _
  have hval : ∀ (j : Nat) t v, Try.f3.params[j]? = some t → args[j]? = some v → Value.okWide Try.prog W .any base t v := hval0
  have hW' := hW
  obtain ⟨p, q, hA0, hV, rfl, hfz, hnd⟩ := hW
  have hA : DataW.TrodAll enc Try.prog W 0 (fun _ => true) true Try.f3.params.toList args.toList ds p := hA0
  rw [Try.params3] at hA hval
  obtain ⟨v0, vs0, d0, ds0, p0, q0, hargs, rfl, rfl, h0, r0⟩ := trodAll_cons hA
  obtain ⟨v1, vs1, d1, ds1, p1, q1, rfl, rfl, rfl, h1, r1⟩ := trodAll_cons r0
  obtain ⟨rfl, rfl, rfl⟩ := trodAll_nil r1
  obtain rfl : args = #[v0, v1] := by cases args; simp_all
  obtain ⟨rfl, rfl⟩ := trodVars_none hV
  obtain ⟨a0, rfl, rfl, rfl, w0⟩ := open_int Try.underlying3 (hval 0 3 v0 rfl rfl) h0
  obtain ⟨a1, rfl, rfl, rfl, w1⟩ := open_int Try.underlying3 (hval 1 3 v1 rfl rfl) h1
  clear hA0 hval0
  simp only [List.append_nil] at hW'
  refine (walk a0 a1 w0 w1 W).mono fun e W' ⟨he, hg⟩ => ?_
  subst he
  exact ⟨_, rfl, post_of_same (pa := []) (pv := []) hW' (fun _ _ _ => (trodAll_cons_mk (shut_bool Try.underlying4 _) trodAll_mk0)) (fun sp _ => (trodAll_cons_mk (shut_int Try.underlying3 w0) (trodAll_cons_mk (shut_int Try.underlying3 w1) trodAll_mk0))) (fun _ _ => rfl) rfl
    (hg.frame _) hg.2.1 (ok_one (by kernel_rfl) rfl (okWide_bool_mk Try.underlying4 _))⟩

theorem over : Rows.wordSmallRow.holds Try.pinned (OpenSpec.ofChange Rows.wordSmallSpec) :=
  OpenClaim.holds_of_wide 3 Try.f3 rfl rfl rfl rfl rfl rfl rfl ⟨rfl, rfl, rfl, rfl, rfl⟩ rfl rfl rfl rfl rfl (by kernel_rfl) Try.func3 (by kernel_rfl)
    (of_decide_eq_true (by kernel_rfl)) (by unfold Func.isWrapper; first | (rw [if_pos (by decide +kernel)]; kernel_rfl) | (rw [if_neg (by decide +kernel)]; exact ⟨rfl, rfl⟩))
    (fun os started H enc _ => lifted os started H enc)

theorem proved : Rows.WordSmallSaid :=
  over
#print axioms proved
end Go.Proofs.Ytgoajapgcmpflab.wordSmall
