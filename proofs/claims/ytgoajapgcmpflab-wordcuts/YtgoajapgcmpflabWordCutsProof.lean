/-
  Proved, with no condition: whatever two int values the law WordCuts is called with, it answers true, that is, for a dividend from -2^25 to 2^25 - 1 and a divisor from 1 to 2^20, ToInt of FDiv is Go's own integer division, for both signs of the divisor.
-/
import Derived.Test.YtgoajapgcmpflabRows
import Derived.WalkKit
import Derived.ProofKit
import Derived.OpenShut
import Derived.Test.YtgoajapgcmpflabCuts
namespace Go.Proofs.Ytgoajapgcmpflab.wordCuts
open Go.ChangeShapes Go.WideShapes Go.ChangeAt Go.RowKit
set_option linter.unusedVariables false

theorem own : ownKnob Try.prog.godebug = none := by kernel_rfl

theorem fromI_any (a : Int) (w : World) :
    Calls Try.prog 11 #[.int .i64 a] w fun e w' => e = .returned (.int .i64 (fromI a)) ∧ w' = w := word_FromInt_any a w

set_option maxHeartbeats 1000000 in
theorem cuts_walk (a b p q x y z t u n1 n2 : Int) (w : World) (p0 : 0 ≤ p) (p1 : p < 67108864) (q0 : 0 ≤ q) (q1 : q < 1048576)
    (hw1 : ∀ w, Calls Try.prog 10 #[.int .i64 a, .int .i64 67108864] w fun e w' => e = .returned (.int .i64 p) ∧ w' = w)
    (hw2 : ∀ w, Calls Try.prog 10 #[.int .i64 b, .int .i64 1048576] w fun e w' => e = .returned (.int .i64 q) ∧ w' = w)
    (f1 : fromI (p - 33554432) = x) (f2 : fromI (1 + q) = y) (f3 : fromI (-(1 + q)) = z) (f4 : fop .quo x y = t) (f5 : fop .quo x z = u)
    (g1 : toV t = n1) (g2 : toE t = 0) (g3 : toV u = n2) (g4 : toE u = 0) (d1 : (n1 == (p - 33554432).tdiv (1 + q)) = true) (d2 : (n2 == wrap64 (-(p - 33554432).tdiv (1 + q))) = true) :
    Calls Try.prog 7 #[.int .i64 a, .int .i64 b] w fun e w' => e = .returned (.bool true) ∧ Grown w w' := by
  go_enter Try.func7, Try.ntmps7
  go_wp2_with fail
  refine (known_any _).mono ?_
  rintro e w' ⟨rfl, n, rfl⟩
  go_wp2_with fail
  refine (hw1 _).mono ?_
  rintro e w' ⟨rfl, rfl⟩
  go_wp2_with fail
  refine (hw2 _).mono ?_
  rintro e w' ⟨rfl, rfl⟩
  go_wp2_with fail
  refine (fromI_any _ _).mono ?_
  rintro e w' ⟨rfl, rfl⟩
  go_wp2_with fail
  refine (fromI_any _ _).mono ?_
  rintro e w' ⟨rfl, rfl⟩
  go_wp2_with fail
  refine (word_FDiv_any _ _ _).mono ?_
  rintro e w' ⟨rfl, n, rfl⟩
  go_wp2_with fail
  refine (word_ToInt_any _ _).mono ?_
  rintro e w' ⟨rfl, rfl⟩
  go_wp2_with fail
  refine (fromI_any _ _).mono ?_
  rintro e w' ⟨rfl, rfl⟩
  go_wp2_with fail
  refine (fromI_any _ _).mono ?_
  rintro e w' ⟨rfl, rfl⟩
  go_wp2_with fail
  refine (word_FDiv_any _ _ _).mono ?_
  rintro e w' ⟨rfl, n, rfl⟩
  go_wp2_with fail
  refine (word_ToInt_any _ _).mono ?_
  rintro e w' ⟨rfl, rfl⟩
  go_wp2_with fail
  go_ret
  exact ⟨rfl, grown_drewN _ _⟩


/-! ### The walk -/
set_option maxHeartbeats 1000000 in
theorem walk (a0 : Int) (a1 : Int) (w0 : (Lit.int .i64 a0).wf = true) (w1 : (Lit.int .i64 a1).wf = true) (w : World) :
    Calls Try.prog 7 #[.int .i64 a0, .int .i64 a1] w fun e w' => e = .returned (.bool true) ∧ Grown w w' := by
  obtain ⟨p, hp, p0, p1⟩ : ∃ p : Int, a0 % 67108864 = p ∧ 0 ≤ p ∧ p < 67108864 := ⟨_, rfl, by omega, by omega⟩
  obtain ⟨q, hq, q0, q1⟩ : ∃ q : Int, a1 % 1048576 = q ∧ 0 ≤ q ∧ q < 1048576 := ⟨_, rfl, by omega, by omega⟩
  have hw1 : ∀ w, Calls Try.prog 10 #[.int .i64 a0, .int .i64 67108864] w fun e w' => e = .returned (.int .i64 p) ∧ w' = w := by
    intro w; rw [← hp]; exact within_any a0 67108864 (by decide) (by decide) w
  have hw2 : ∀ w, Calls Try.prog 10 #[.int .i64 a1, .int .i64 1048576] w fun e w' => e = .returned (.int .i64 q) ∧ w' = w := by
    intro w; rw [← hq]; exact within_any a1 1048576 (by decide) (by decide) w
  obtain ⟨g1, g2⟩ := @quo_cut (p - 33554432) (1 + q) (by omega) (by omega) (by omega)
  obtain ⟨g3, g4⟩ := @quo_cut (p - 33554432) (-(1 + q)) (by omega) (by omega) (by omega)
  have hb : ((p - 33554432).tdiv (1 + q)).natAbs ≤ (p - 33554432).natAbs := by
    rw [Int.natAbs_tdiv]; exact Nat.div_le_self _ _
  have d2 : wrap64 (-(p - 33554432).tdiv (1 + q)) = (p - 33554432).tdiv (-(1 + q)) := by
    rw [Int.tdiv_neg]
    generalize (p - 33554432).tdiv (1 + q) = z at *
    unfold wrap64; omega
  exact cuts_walk a0 a1 p q _ _ _ _ _ _ _ w p0 p1 q0 q1 hw1 hw2 rfl rfl rfl rfl rfl g1 g2 g3 g4 (beq_self_eq_true _) (by rw [d2]; exact beq_self_eq_true _)

/-! ### The row -/
set_option maxRecDepth 100000 in
theorem lifted (os : Os) (started : os.Started) (H : Type) (enc : TypeId × Value → H) :
    ReturnsInHanded {} Try.checked os 7 .any (Rows.wordCutsSpec.pre6 enc Try.prog Try.f7 Rows.wordCutsRow.domain false) (Rows.wordCutsSpec.post enc Try.prog Try.f7 false true false false) := by
  refine returnsInHanded_of_change (C := Try.checked) own started (by kernel_rfl) Try.func7
    (ChangeSpec.witness6 (enc := enc) (C := Try.checked) false ⟨#[], #[.int .i64 0, .int .i64 0], []⟩ 8 (by kernel_rfl) (by kernel_rfl) (by kernel_rfl) (by kernel_rfl)) ?_
  intro W base args ds gs before hval0 hW hcnd _
  have hval : ∀ (j : Nat) t v, Try.f7.params[j]? = some t → args[j]? = some v → Value.okWide Try.prog W .any base t v := hval0
  have hW' := hW
  obtain ⟨p, q, hA0, hV, rfl, hfz, hnd⟩ := hW
  have hA : DataW.TrodAll enc Try.prog W 0 (fun _ => true) true Try.f7.params.toList args.toList ds p := hA0
  rw [Try.params7] at hA hval
  obtain ⟨v0, vs0, d0, ds0, p0, q0, hargs, rfl, rfl, h0, r0⟩ := trodAll_cons hA
  obtain ⟨v1, vs1, d1, ds1, p1, q1, rfl, rfl, rfl, h1, r1⟩ := trodAll_cons r0
  obtain ⟨rfl, rfl, rfl⟩ := trodAll_nil r1
  obtain rfl : args = #[v0, v1] := by cases args; simp_all
  obtain ⟨rfl, rfl⟩ := trodVars_none hV
  obtain ⟨a0, rfl, rfl, rfl, w0⟩ := open_int Try.underlying3 (hval 0 3 v0 rfl rfl) h0
  obtain ⟨a1, rfl, rfl, rfl, w1⟩ := open_int Try.underlying3 (hval 1 3 v1 rfl rfl) h1
  clear hA0 hval0
  simp only [List.append_nil] at hW'
  refine (walk a0 a1 w0 w1 W).mono fun e W' ⟨he, hg⟩ => ?_
  subst he
  exact ⟨_, rfl, post_of_same (pa := []) (pv := []) hW' (fun _ _ _ => (trodAll_cons_mk (shut_bool Try.underlying4 _) trodAll_mk0)) (fun sp _ => (trodAll_cons_mk (shut_int Try.underlying3 w0) (trodAll_cons_mk (shut_int Try.underlying3 w1) trodAll_mk0))) (fun _ _ => rfl) rfl
    (hg.frame _) hg.2.1 (ok_one (by kernel_rfl) rfl (okWide_bool_mk Try.underlying4 _))⟩

theorem over : Rows.wordCutsRow.holds Try.pinned (OpenSpec.ofChange Rows.wordCutsSpec) :=
  OpenClaim.holds_of_wide 7 Try.f7 rfl rfl rfl rfl rfl rfl rfl ⟨rfl, rfl, rfl, rfl, rfl⟩ rfl rfl rfl rfl rfl (by kernel_rfl) Try.func7 (by kernel_rfl)
    (of_decide_eq_true (by kernel_rfl)) (by unfold Func.isWrapper; first | (rw [if_pos (by decide +kernel)]; kernel_rfl) | (rw [if_neg (by decide +kernel)]; exact ⟨rfl, rfl⟩))
    (fun os started H enc _ => lifted os started H enc)

theorem proved : Rows.WordCutsSaid :=
  over
#print axioms proved
end Go.Proofs.Ytgoajapgcmpflab.wordCuts
