/-
  Proved, with no condition: whatever int64 value the law WordInfs is called with, it answers true, that is, an infinity absorbs every finite float, stands at its end of the order, and the four operations without an answer give the NaN.
-/
import Derived.Test.YtgoajapgcmpflabRows
import Derived.WalkKit
import Derived.ProofKit
import Derived.OpenShut
import Derived.Test.YtgoajapgcmpflabFlat
namespace Go.Proofs.Ytgoajapgcmpflab.wordInfs
open Go.ChangeShapes Go.WideShapes Go.ChangeAt Go.RowKit
set_option linter.unusedVariables false

theorem own : ownKnob Try.prog.godebug = none := by kernel_rfl


/-! ### The walk -/
set_option maxHeartbeats 1000000 in
theorem walk (a0 : Int) (w0 : (Lit.int .i64 a0).wf = true) (w : World) :
    Calls Try.prog 6 #[.int .i64 a0] w fun e w' => e = .returned (.bool true) ∧ Grown w w' := by
  obtain ⟨l0, l1⟩ := wf64 w0
  have k1 : fop .add 9218868437227405312 (-4503599627370496) = 9221120237041090561 := by decide +kernel
  have k2 : fop .sub 9218868437227405312 9218868437227405312 = 9221120237041090561 := by decide +kernel
  have k3 : fop .quo 9218868437227405312 (-4503599627370496) = 9221120237041090561 := by decide +kernel
  have k4 : fop .mul 9218868437227405312 0 = 9221120237041090561 := by decide +kernel
  have k5 : fop .add 9218868437227405312 9218868437227405312 = 9218868437227405312 := by decide +kernel
  have k6 : fop .mul (-4503599627370496) (-4503599627370496) = 9218868437227405312 := by decide +kernel
  have k7 : less (-4503599627370496) 9218868437227405312 = 1 := by decide +kernel
  have k8 : cls (-4503599627370496) = 1 := by decide +kernel
  have k9 : toE 9218868437227405312 = 1 := by decide +kernel
  have kx : bits .xor .i64 9218868437227405312 (-9223372036854775808) = -4503599627370496 := by decide +kernel
  rcases beq_cases (cls a0) 0 with ⟨h1, g1⟩ | ⟨h1, g1⟩
  · clear g1
    go_enter Try.func6, Try.ntmps6
    go_wp2_with (first | (go_at_call 9; refine (known_any _).mono ?_; rintro e w' ⟨rfl, n, rfl⟩) | (go_at_call 13; refine (word_FAdd_any _ _ _).mono ?_; rintro e w' ⟨rfl, n, rfl⟩) | (go_at_call 14; refine (word_FSub_any _ _ _).mono ?_; rintro e w' ⟨rfl, n, rfl⟩) | (go_at_call 15; refine (word_FMul_any _ _ _).mono ?_; rintro e w' ⟨rfl, n, rfl⟩) | (go_at_call 16; refine (word_FDiv_any _ _ _).mono ?_; rintro e w' ⟨rfl, n, rfl⟩) | (go_at_call 18; refine (word_FMax_any _ _ _).mono ?_; rintro e w' ⟨rfl, rfl⟩) | (go_at_call 19; refine (word_FLess_any _ _ _).mono ?_; rintro e w' ⟨rfl, rfl⟩) | (go_at_call 17; refine (word_Class_any _ _).mono ?_; rintro e w' ⟨rfl, rfl⟩) | (go_at_call 12; refine (word_ToInt_any _ _).mono ?_; rintro e w' ⟨rfl, rfl⟩))
    go_ret
    exact ⟨rfl, grown_drewN _ _⟩
  rcases beq_cases (cls a0) 1 with ⟨h2, g2⟩ | ⟨h2, g2⟩
  · clear h1 g2
    go_enter Try.func6, Try.ntmps6
    go_wp2_with (first | (go_at_call 9; refine (known_any _).mono ?_; rintro e w' ⟨rfl, n, rfl⟩) | (go_at_call 13; refine (word_FAdd_any _ _ _).mono ?_; rintro e w' ⟨rfl, n, rfl⟩) | (go_at_call 14; refine (word_FSub_any _ _ _).mono ?_; rintro e w' ⟨rfl, n, rfl⟩) | (go_at_call 15; refine (word_FMul_any _ _ _).mono ?_; rintro e w' ⟨rfl, n, rfl⟩) | (go_at_call 16; refine (word_FDiv_any _ _ _).mono ?_; rintro e w' ⟨rfl, n, rfl⟩) | (go_at_call 18; refine (word_FMax_any _ _ _).mono ?_; rintro e w' ⟨rfl, rfl⟩) | (go_at_call 19; refine (word_FLess_any _ _ _).mono ?_; rintro e w' ⟨rfl, rfl⟩) | (go_at_call 17; refine (word_Class_any _ _).mono ?_; rintro e w' ⟨rfl, rfl⟩) | (go_at_call 12; refine (word_ToInt_any _ _).mono ?_; rintro e w' ⟨rfl, rfl⟩))
    go_ret
    exact ⟨rfl, grown_drewN _ _⟩
  have hr : rung (U a0) < 9218868437227405312 := by
    have := @cls_zero a0
    have := @cls_one a0
    omega
  have kf : key (U a0) = sg (sgn (U a0)) (rung (U a0)) := rfl
  have ki : key (U 9218868437227405312) = 9218868437227405312 := by decide +kernel
  have kn : key (U (-4503599627370496)) = -9218868437227405312 := by decide +kernel
  have kb : -9218868437227405312 < key (U a0) ∧ key (U a0) < 9218868437227405312 := by
    rw [kf]; unfold sg; split <;> omega
  have q1 : fop .add a0 9218868437227405312 = 9218868437227405312 := by
    rw [fop_some (Nat.le_refl _) (add_fin_inf hr parts_inf.1), parts_inf.2]; rfl
  have q2 : fop .sub a0 9218868437227405312 = -4503599627370496 := by
    rw [fop_some (Nat.le_refl _) (sub_fin_inf hr parts_inf.1), parts_inf.2]; rfl
  have q3 : less a0 9218868437227405312 = 1 := by
    have h := less_cases a0 9218868437227405312
    rw [parts_inf.1, ki] at h; omega
  have q4 : less (-4503599627370496) a0 = 1 := by
    have h := less_cases (-4503599627370496) a0
    rw [parts_neg.1, kn] at h; omega
  have q5 : fmax a0 9218868437227405312 = 9218868437227405312 := by
    rcases fmax_cases l0 l1 (by decide : (-9223372036854775808 : Int) ≤ 9218868437227405312) (by decide) with ⟨h, _⟩ | ⟨_, _, ⟨h, _⟩ | ⟨_, e⟩ | ⟨h, _⟩⟩
    · rw [parts_inf.1] at h; omega
    · rw [ki] at h; omega
    · exact e
    · rw [ki] at h; omega
  have q6 : fmax (-4503599627370496) a0 = a0 := by
    rcases fmax_cases (by decide : (-9223372036854775808 : Int) ≤ -4503599627370496) (by decide) l0 l1 with ⟨h, _⟩ | ⟨_, _, ⟨h, _⟩ | ⟨_, e⟩ | ⟨h, _⟩⟩
    · rw [parts_neg.1] at h; omega
    · rw [kn] at h; omega
    · exact e
    · rw [kn] at h; omega
  have q7 : cls (fop .quo a0 (-4503599627370496)) = 4 := by
    rw [fop_some (Nat.zero_le _) (div_fin_inf hr parts_neg.1)]
    exact cls_four.mpr (rung_Wd _ (by decide)).1
  clear h1 h2 hr kf ki kn kb
  go_enter Try.func6, Try.ntmps6
  go_wp2_with (first | (go_at_call 9; refine (known_any _).mono ?_; rintro e w' ⟨rfl, n, rfl⟩) | (go_at_call 13; refine (word_FAdd_any _ _ _).mono ?_; rintro e w' ⟨rfl, n, rfl⟩) | (go_at_call 14; refine (word_FSub_any _ _ _).mono ?_; rintro e w' ⟨rfl, n, rfl⟩) | (go_at_call 15; refine (word_FMul_any _ _ _).mono ?_; rintro e w' ⟨rfl, n, rfl⟩) | (go_at_call 16; refine (word_FDiv_any _ _ _).mono ?_; rintro e w' ⟨rfl, n, rfl⟩) | (go_at_call 18; refine (word_FMax_any _ _ _).mono ?_; rintro e w' ⟨rfl, rfl⟩) | (go_at_call 19; refine (word_FLess_any _ _ _).mono ?_; rintro e w' ⟨rfl, rfl⟩) | (go_at_call 17; refine (word_Class_any _ _).mono ?_; rintro e w' ⟨rfl, rfl⟩) | (go_at_call 12; refine (word_ToInt_any _ _).mono ?_; rintro e w' ⟨rfl, rfl⟩))
  go_ret
  exact ⟨rfl, grown_drewN _ _⟩

/-! ### The row -/
set_option maxRecDepth 100000 in
theorem lifted (os : Os) (started : os.Started) (H : Type) (enc : TypeId × Value → H) :
    ReturnsInHanded {} Try.checked os 6 .any (Rows.wordInfsSpec.pre6 enc Try.prog Try.f6 Rows.wordInfsRow.domain false) (Rows.wordInfsSpec.post enc Try.prog Try.f6 false true false false) := by
  refine returnsInHanded_of_change (C := Try.checked) own started (by kernel_rfl) Try.func6
    (ChangeSpec.witness6 (enc := enc) (C := Try.checked) false ⟨#[], #[.int .i64 0], []⟩ 8 (by kernel_rfl) (by kernel_rfl) (by kernel_rfl) (by kernel_rfl)) ?_
  intro W base args ds gs before hval0 hW hcnd _
  have hval : ∀ (j : Nat) t v, Try.f6.params[j]? = some t → args[j]? = some v → Value.okWide Try.prog W .any base t v := hval0
  have hW' := hW
  obtain ⟨p, q, hA0, hV, rfl, hfz, hnd⟩ := hW
  have hA : DataW.TrodAll enc Try.prog W 0 (fun _ => true) true Try.f6.params.toList args.toList ds p := hA0
  rw [Try.params6] at hA hval
  obtain ⟨v0, vs0, d0, ds0, p0, q0, hargs, rfl, rfl, h0, r0⟩ := trodAll_cons hA
  obtain ⟨rfl, rfl, rfl⟩ := trodAll_nil r0
  obtain rfl : args = #[v0] := by cases args; simp_all
  obtain ⟨rfl, rfl⟩ := trodVars_none hV
  obtain ⟨a0, rfl, rfl, rfl, w0⟩ := open_int Try.underlying2 (hval 0 2 v0 rfl rfl) h0
  clear hA0 hval0
  simp only [List.append_nil] at hW'
  refine (walk a0 w0 W).mono fun e W' ⟨he, hg⟩ => ?_
  subst he
  exact ⟨_, rfl, post_of_same (pa := []) (pv := []) hW' (fun _ _ _ => (trodAll_cons_mk (shut_bool Try.underlying4 _) trodAll_mk0)) (fun sp _ => (trodAll_cons_mk (shut_int Try.underlying2 w0) trodAll_mk0)) (fun _ _ => rfl) rfl
    (hg.frame _) hg.2.1 (ok_one (by kernel_rfl) rfl (okWide_bool_mk Try.underlying4 _))⟩

theorem over : Rows.wordInfsRow.holds Try.pinned (OpenSpec.ofChange Rows.wordInfsSpec) :=
  OpenClaim.holds_of_wide 6 Try.f6 rfl rfl rfl rfl rfl rfl rfl ⟨rfl, rfl, rfl, rfl, rfl⟩ rfl rfl rfl rfl rfl (by kernel_rfl) Try.func6 (by kernel_rfl)
    (of_decide_eq_true (by kernel_rfl)) (by unfold Func.isWrapper; first | (rw [if_pos (by decide +kernel)]; kernel_rfl) | (rw [if_neg (by decide +kernel)]; exact ⟨rfl, rfl⟩))
    (fun os started H enc _ => lifted os started H enc)

theorem proved : Rows.WordInfsSaid :=
  over
#print axioms proved
end Go.Proofs.Ytgoajapgcmpflab.wordInfs
