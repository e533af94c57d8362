/-
  Proved, with no condition: whatever int64 value the law WordNoughts is called with, it answers true, that is, the two zeros add, subtract, divide and compare as IEEE 754 has it, and adding either zero to a finite non-zero float gives its own bits back.
-/
import Derived.Test.YtgoajapgcmpflabRows
import Derived.WalkKit
import Derived.ProofKit
import Derived.OpenShut
import Derived.Test.YtgoajapgcmpflabFlat
namespace Go.Proofs.Ytgoajapgcmpflab.wordNoughts
open Go.ChangeShapes Go.WideShapes Go.ChangeAt Go.RowKit
set_option linter.unusedVariables false

theorem own : ownKnob Try.prog.godebug = none := by kernel_rfl


/-! ### The walk -/
set_option maxHeartbeats 1000000 in
theorem walk (a0 : Int) (w0 : (Lit.int .i64 a0).wf = true) (w : World) :
    Calls Try.prog 5 #[.int .i64 a0] w fun e w' => e = .returned (.bool true) ∧ Grown w w' := by
  obtain ⟨l0, l1⟩ := wf64 w0
  have k0 : fop .add 0 (-9223372036854775808) = 0 := by decide +kernel
  have k1 : fop .add (-9223372036854775808) (-9223372036854775808) = -9223372036854775808 := by decide +kernel
  have k2 : fop .sub 0 0 = 0 := by decide +kernel
  have k3 : fop .sub (-9223372036854775808) 0 = -9223372036854775808 := by decide +kernel
  have k4 : fmax 0 (-9223372036854775808) = 0 := by decide +kernel
  have k5 : fmax (-9223372036854775808) 0 = 0 := by decide +kernel
  have k6 : less (-9223372036854775808) 0 = 0 := by decide +kernel
  have k7 : less 0 (-9223372036854775808) = 0 := by decide +kernel
  have k8 : fop .quo 0 0 = 9221120237041090561 := by decide +kernel
  have k9 : fop .quo (-9223372036854775808) 0 = 9221120237041090561 := by decide +kernel
  have k10 : bits .xor .i64 9218868437227405312 (-9223372036854775808) = -4503599627370496 := by decide +kernel
  rcases beq_cases (cls a0) 0 with ⟨h1, g1⟩ | ⟨h1, g1⟩
  · clear g1
    go_enter Try.func5, Try.ntmps5
    go_wp2_with (first | (go_at_call 9; refine (known_any _).mono ?_; rintro e w' ⟨rfl, n, rfl⟩) | (go_at_call 13; refine (word_FAdd_any _ _ _).mono ?_; rintro e w' ⟨rfl, n, rfl⟩) | (go_at_call 14; refine (word_FSub_any _ _ _).mono ?_; rintro e w' ⟨rfl, n, rfl⟩) | (go_at_call 15; refine (word_FMul_any _ _ _).mono ?_; rintro e w' ⟨rfl, n, rfl⟩) | (go_at_call 16; refine (word_FDiv_any _ _ _).mono ?_; rintro e w' ⟨rfl, n, rfl⟩) | (go_at_call 18; refine (word_FMax_any _ _ _).mono ?_; rintro e w' ⟨rfl, rfl⟩) | (go_at_call 19; refine (word_FLess_any _ _ _).mono ?_; rintro e w' ⟨rfl, rfl⟩) | (go_at_call 17; refine (word_Class_any _ _).mono ?_; rintro e w' ⟨rfl, rfl⟩) | (go_at_call 12; refine (word_ToInt_any _ _).mono ?_; rintro e w' ⟨rfl, rfl⟩))
    go_ret
    exact ⟨rfl, grown_drewN _ _⟩
  rcases beq_cases (cls a0) 4 with ⟨h2, g2⟩ | ⟨h2, g2⟩
  · clear h1 g2
    go_enter Try.func5, Try.ntmps5
    go_wp2_with (first | (go_at_call 9; refine (known_any _).mono ?_; rintro e w' ⟨rfl, n, rfl⟩) | (go_at_call 13; refine (word_FAdd_any _ _ _).mono ?_; rintro e w' ⟨rfl, n, rfl⟩) | (go_at_call 14; refine (word_FSub_any _ _ _).mono ?_; rintro e w' ⟨rfl, n, rfl⟩) | (go_at_call 15; refine (word_FMul_any _ _ _).mono ?_; rintro e w' ⟨rfl, n, rfl⟩) | (go_at_call 16; refine (word_FDiv_any _ _ _).mono ?_; rintro e w' ⟨rfl, n, rfl⟩) | (go_at_call 18; refine (word_FMax_any _ _ _).mono ?_; rintro e w' ⟨rfl, rfl⟩) | (go_at_call 19; refine (word_FLess_any _ _ _).mono ?_; rintro e w' ⟨rfl, rfl⟩) | (go_at_call 17; refine (word_Class_any _ _).mono ?_; rintro e w' ⟨rfl, rfl⟩) | (go_at_call 12; refine (word_ToInt_any _ _).mono ?_; rintro e w' ⟨rfl, rfl⟩))
    go_ret
    exact ⟨rfl, grown_drewN _ _⟩
  rcases beq_cases (cls a0) 1 with ⟨h3, g3⟩ | ⟨h3, g3⟩
  · clear h1 h2 g3
    go_enter Try.func5, Try.ntmps5
    go_wp2_with (first | (go_at_call 9; refine (known_any _).mono ?_; rintro e w' ⟨rfl, n, rfl⟩) | (go_at_call 13; refine (word_FAdd_any _ _ _).mono ?_; rintro e w' ⟨rfl, n, rfl⟩) | (go_at_call 14; refine (word_FSub_any _ _ _).mono ?_; rintro e w' ⟨rfl, n, rfl⟩) | (go_at_call 15; refine (word_FMul_any _ _ _).mono ?_; rintro e w' ⟨rfl, n, rfl⟩) | (go_at_call 16; refine (word_FDiv_any _ _ _).mono ?_; rintro e w' ⟨rfl, n, rfl⟩) | (go_at_call 18; refine (word_FMax_any _ _ _).mono ?_; rintro e w' ⟨rfl, rfl⟩) | (go_at_call 19; refine (word_FLess_any _ _ _).mono ?_; rintro e w' ⟨rfl, rfl⟩) | (go_at_call 17; refine (word_Class_any _ _).mono ?_; rintro e w' ⟨rfl, rfl⟩) | (go_at_call 12; refine (word_ToInt_any _ _).mono ?_; rintro e w' ⟨rfl, rfl⟩))
    go_ret
    exact ⟨rfl, grown_drewN _ _⟩
  have hr : rung (U a0) < 9218868437227405312 := by
    have := @cls_zero a0
    have := @cls_one a0
    omega
  have h0 : rung (U a0) ≠ 0 := fun h => h2 (cls_four.mpr h)
  have hv : val (rung (U a0)) ≠ 0 := fun h => h0 (val_inj (by rw [h]; rfl))
  have q1 : fop .quo a0 0 = Wd (sgn (U a0)) 9218868437227405312 := by
    rw [fop_some (Nat.le_refl _) (div_fin_zero hr h0 parts_zero.1), parts_zero.2, Bool.xor_false]
  have q2 : fop .quo a0 (-9223372036854775808) = Wd (!sgn (U a0)) 9218868437227405312 := by
    rw [fop_some (Nat.le_refl _) (div_fin_zero hr h0 parts_sign.1), parts_sign.2, Bool.xor_true]
  have q3 : fop .mul a0 0 = Wd (sgn (U a0)) 0 := by
    rw [fop_some (Nat.zero_le _) (mul_zero hr parts_zero.1), parts_zero.2, Bool.xor_false]
  have q4 : fop .add a0 0 = a0 := by
    rw [fop_some (by omega) (add_exact (s := sgn (U a0)) hr (by rw [parts_zero.1]; decide) hr (by rw [parts_zero.1]; simp [sg, val]) (fun h => absurd h h0))]
    exact (Wd_of l0 l1).symm
  have q5 : fop .add a0 (-9223372036854775808) = a0 := by
    rw [fop_some (by omega) (add_exact (s := sgn (U a0)) hr (by rw [parts_sign.1]; decide) hr (by rw [parts_sign.1]; simp [sg, val]) (fun h => absurd h h0))]
    exact (Wd_of l0 l1).symm
  have q6 : fop .sub a0 a0 = 0 := by
    rw [fop_some (s := false) (Nat.zero_le _) (sub_exact hr hr (by decide) (by cases sgn (U a0) <;> simp [sg, val_zero] <;> omega) (fun _ => by cases sgn (U a0) <;> rfl))]
    rfl
  clear h1 h2 h3 hr h0 hv
  rw [sgn_U l0 l1] at q1 q2 q3
  rcases dec_cases a0 0 with ⟨s1, d1⟩ | ⟨s1, d1⟩
  · rw [d1] at q1 q2 q3
    have p1 : fop .quo a0 0 = -4503599627370496 := q1
    have p2 : fop .quo a0 (-9223372036854775808) = 9218868437227405312 := q2
    have p3 : fop .mul a0 0 = -9223372036854775808 := q3
    have p4 : bits .andNot .i64 (-9223372036854775808) (-9223372036854775808) = 0 := by decide +kernel
    clear q1 q2 q3
    go_enter Try.func5, Try.ntmps5
    go_wp2_with (first | (go_at_call 9; refine (known_any _).mono ?_; rintro e w' ⟨rfl, n, rfl⟩) | (go_at_call 13; refine (word_FAdd_any _ _ _).mono ?_; rintro e w' ⟨rfl, n, rfl⟩) | (go_at_call 14; refine (word_FSub_any _ _ _).mono ?_; rintro e w' ⟨rfl, n, rfl⟩) | (go_at_call 15; refine (word_FMul_any _ _ _).mono ?_; rintro e w' ⟨rfl, n, rfl⟩) | (go_at_call 16; refine (word_FDiv_any _ _ _).mono ?_; rintro e w' ⟨rfl, n, rfl⟩) | (go_at_call 18; refine (word_FMax_any _ _ _).mono ?_; rintro e w' ⟨rfl, rfl⟩) | (go_at_call 19; refine (word_FLess_any _ _ _).mono ?_; rintro e w' ⟨rfl, rfl⟩) | (go_at_call 17; refine (word_Class_any _ _).mono ?_; rintro e w' ⟨rfl, rfl⟩) | (go_at_call 12; refine (word_ToInt_any _ _).mono ?_; rintro e w' ⟨rfl, rfl⟩))
    go_ret
    exact ⟨rfl, grown_drewN _ _⟩
  · rw [d1] at q1 q2 q3
    have p1 : fop .quo a0 0 = 9218868437227405312 := q1
    have p2 : fop .quo a0 (-9223372036854775808) = -4503599627370496 := q2
    have p3 : fop .mul a0 0 = 0 := q3
    have p4 : bits .andNot .i64 0 (-9223372036854775808) = 0 := by decide +kernel
    clear q1 q2 q3
    go_enter Try.func5, Try.ntmps5
    go_wp2_with (first | (go_at_call 9; refine (known_any _).mono ?_; rintro e w' ⟨rfl, n, rfl⟩) | (go_at_call 13; refine (word_FAdd_any _ _ _).mono ?_; rintro e w' ⟨rfl, n, rfl⟩) | (go_at_call 14; refine (word_FSub_any _ _ _).mono ?_; rintro e w' ⟨rfl, n, rfl⟩) | (go_at_call 15; refine (word_FMul_any _ _ _).mono ?_; rintro e w' ⟨rfl, n, rfl⟩) | (go_at_call 16; refine (word_FDiv_any _ _ _).mono ?_; rintro e w' ⟨rfl, n, rfl⟩) | (go_at_call 18; refine (word_FMax_any _ _ _).mono ?_; rintro e w' ⟨rfl, rfl⟩) | (go_at_call 19; refine (word_FLess_any _ _ _).mono ?_; rintro e w' ⟨rfl, rfl⟩) | (go_at_call 17; refine (word_Class_any _ _).mono ?_; rintro e w' ⟨rfl, rfl⟩) | (go_at_call 12; refine (word_ToInt_any _ _).mono ?_; rintro e w' ⟨rfl, rfl⟩))
    go_ret
    exact ⟨rfl, grown_drewN _ _⟩

/-! ### The row -/
set_option maxRecDepth 100000 in
theorem lifted (os : Os) (started : os.Started) (H : Type) (enc : TypeId × Value → H) :
    ReturnsInHanded {} Try.checked os 5 .any (Rows.wordNoughtsSpec.pre6 enc Try.prog Try.f5 Rows.wordNoughtsRow.domain false) (Rows.wordNoughtsSpec.post enc Try.prog Try.f5 false true false false) := by
  refine returnsInHanded_of_change (C := Try.checked) own started (by kernel_rfl) Try.func5
    (ChangeSpec.witness6 (enc := enc) (C := Try.checked) false ⟨#[], #[.int .i64 0], []⟩ 8 (by kernel_rfl) (by kernel_rfl) (by kernel_rfl) (by kernel_rfl)) ?_
  intro W base args ds gs before hval0 hW hcnd _
  have hval : ∀ (j : Nat) t v, Try.f5.params[j]? = some t → args[j]? = some v → Value.okWide Try.prog W .any base t v := hval0
  have hW' := hW
  obtain ⟨p, q, hA0, hV, rfl, hfz, hnd⟩ := hW
  have hA : DataW.TrodAll enc Try.prog W 0 (fun _ => true) true Try.f5.params.toList args.toList ds p := hA0
  rw [Try.params5] at hA hval
  obtain ⟨v0, vs0, d0, ds0, p0, q0, hargs, rfl, rfl, h0, r0⟩ := trodAll_cons hA
  obtain ⟨rfl, rfl, rfl⟩ := trodAll_nil r0
  obtain rfl : args = #[v0] := by cases args; simp_all
  obtain ⟨rfl, rfl⟩ := trodVars_none hV
  obtain ⟨a0, rfl, rfl, rfl, w0⟩ := open_int Try.underlying2 (hval 0 2 v0 rfl rfl) h0
  clear hA0 hval0
  simp only [List.append_nil] at hW'
  refine (walk a0 w0 W).mono fun e W' ⟨he, hg⟩ => ?_
  subst he
  exact ⟨_, rfl, post_of_same (pa := []) (pv := []) hW' (fun _ _ _ => (trodAll_cons_mk (shut_bool Try.underlying4 _) trodAll_mk0)) (fun sp _ => (trodAll_cons_mk (shut_int Try.underlying2 w0) trodAll_mk0)) (fun _ _ => rfl) rfl
    (hg.frame _) hg.2.1 (ok_one (by kernel_rfl) rfl (okWide_bool_mk Try.underlying4 _))⟩

theorem over : Rows.wordNoughtsRow.holds Try.pinned (OpenSpec.ofChange Rows.wordNoughtsSpec) :=
  OpenClaim.holds_of_wide 5 Try.f5 rfl rfl rfl rfl rfl rfl rfl ⟨rfl, rfl, rfl, rfl, rfl⟩ rfl rfl rfl rfl rfl (by kernel_rfl) Try.func5 (by kernel_rfl)
    (of_decide_eq_true (by kernel_rfl)) (by unfold Func.isWrapper; first | (rw [if_pos (by decide +kernel)]; kernel_rfl) | (rw [if_neg (by decide +kernel)]; exact ⟨rfl, rfl⟩))
    (fun os started H enc _ => lifted os started H enc)

theorem proved : Rows.WordNoughtsSaid :=
  over
#print axioms proved
end Go.Proofs.Ytgoajapgcmpflab.wordNoughts
