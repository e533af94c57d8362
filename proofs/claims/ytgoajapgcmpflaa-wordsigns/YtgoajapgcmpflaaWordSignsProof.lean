/-
  Proved, with no condition: whatever two int64 values the law WordSigns is called with, it answers true, that is, FMul and FAdd commute, FMul's sign bit is the exclusive or of its operands' sign bits, and FMul has no answer only for zero by infinity or where a NaN came in.
-/
import Derived.Test.YtgoajapgcmpflaaRows
import Derived.WalkKit
import Derived.ProofKit
import Derived.OpenShut
import Derived.Test.YtgoajapgcmpflaaOps
namespace Go.Proofs.Ytgoajapgcmpflaa.wordSigns
open Go.ChangeShapes Go.WideShapes Go.ChangeAt Go.RowKit
set_option linter.unusedVariables false

theorem own : ownKnob Try.prog.godebug = none := by kernel_rfl


/-! ### The walk -/
set_option maxHeartbeats 1000000 in
theorem walk (a0 : Int) (a1 : Int) (w0 : (Lit.int .i64 a0).wf = true) (w1 : (Lit.int .i64 a1).wf = true) (w : World) :
    Calls Try.prog 7 #[.int .i64 a0, .int .i64 a1] w fun e w' => e = .returned (.bool true) ∧ Grown w w' := by
  obtain ⟨l0, l1⟩ := wf64 w0
  obtain ⟨m0, m1⟩ := wf64 w1
  have c1 := @cls_zero a0
  have c2 := @cls_zero a1
  rcases beq_cases (cls a0) 0 with ⟨h1, g1⟩ | ⟨h1, g1⟩
  · have H := c1.mp h1
    clear c1 c2
    have f1 : fop .add a0 a1 = 9221120237041090561 := fop_nan_left .add a1 H
    have f2 : fop .mul a0 a1 = 9221120237041090561 := fop_nan_left .mul a1 H
    have f3 : fop .quo a0 a1 = 9221120237041090561 := fop_nan_left .quo a1 H
    have f4 : fmax a0 a1 = 9221120237041090561 := by
      rcases fmax_cases l0 l1 m0 m1 with ⟨_, e⟩ | ⟨h1, h2, _⟩
      · exact e
      · omega
    clear H g1
    go_enter Try.func7, Try.ntmps7
    go_wp2_with (first | (go_at_call 9; refine (known_any _).mono ?_; rintro e w' ⟨rfl, n, rfl⟩) | (go_at_call 10; refine (word_FAdd_any _ _ _).mono ?_; rintro e w' ⟨rfl, n, rfl⟩) | (go_at_call 14; refine (word_FMul_any _ _ _).mono ?_; rintro e w' ⟨rfl, n, rfl⟩) | (go_at_call 16; refine (word_FDiv_any _ _ _).mono ?_; rintro e w' ⟨rfl, n, rfl⟩) | (go_at_call 18; refine (word_FMax_any _ _ _).mono ?_; rintro e w' ⟨rfl, rfl⟩) | (go_at_call 25; refine (word_Class_any _ _).mono ?_; rintro e w' ⟨rfl, rfl⟩))
    go_ret
    exact ⟨rfl, grown_drewN _ _⟩
  rcases beq_cases (cls a1) 0 with ⟨h2, g2⟩ | ⟨h2, g2⟩
  · have H := c2.mp h2
    clear c1 c2 h1
    have f1 : fop .add a0 a1 = 9221120237041090561 := fop_nan_right .add a0 H
    have f2 : fop .mul a0 a1 = 9221120237041090561 := fop_nan_right .mul a0 H
    have f3 : fop .quo a0 a1 = 9221120237041090561 := fop_nan_right .quo a0 H
    have f4 : fmax a0 a1 = 9221120237041090561 := by
      rcases fmax_cases l0 l1 m0 m1 with ⟨_, e⟩ | ⟨h1, h2, _⟩
      · exact e
      · omega
    clear H g2
    go_enter Try.func7, Try.ntmps7
    go_wp2_with (first | (go_at_call 9; refine (known_any _).mono ?_; rintro e w' ⟨rfl, n, rfl⟩) | (go_at_call 10; refine (word_FAdd_any _ _ _).mono ?_; rintro e w' ⟨rfl, n, rfl⟩) | (go_at_call 14; refine (word_FMul_any _ _ _).mono ?_; rintro e w' ⟨rfl, n, rfl⟩) | (go_at_call 16; refine (word_FDiv_any _ _ _).mono ?_; rintro e w' ⟨rfl, n, rfl⟩) | (go_at_call 18; refine (word_FMax_any _ _ _).mono ?_; rintro e w' ⟨rfl, rfl⟩) | (go_at_call 25; refine (word_Class_any _ _).mono ?_; rintro e w' ⟨rfl, rfl⟩))
    go_ret
    exact ⟨rfl, grown_drewN _ _⟩
  have r1 : rung (U a0) ≤ 9218868437227405312 := by omega
  have r2 : rung (U a1) ≤ 9218868437227405312 := by omega
  clear h1 h2 c1 c2
  rcases mul_rung r1 r2 with ⟨hz, hn⟩ | ⟨q, hq, hs⟩
  · have f1 : fop .mul a0 a1 = 9221120237041090561 := fop_none (hn _ _ rfl rfl)
    have f2 : cls 9221120237041090561 = 0 := by decide +kernel
    rcases hz with ⟨z1, z2⟩ | ⟨z1, z2⟩
    · have k1 : cls a0 = 4 := cls_four.mpr z1
      have k2 : cls a1 = 1 := cls_one.mpr z2
      clear hn z1 z2 r1 r2 g1 g2
      go_enter Try.func7, Try.ntmps7
      go_wp2_with (first | (go_at_call 9; refine (known_any _).mono ?_; rintro e w' ⟨rfl, n, rfl⟩) | (go_at_call 10; refine (word_FAdd_any _ _ _).mono ?_; rintro e w' ⟨rfl, n, rfl⟩) | (go_at_call 14; refine (word_FMul_any _ _ _).mono ?_; rintro e w' ⟨rfl, n, rfl⟩) | (go_at_call 16; refine (word_FDiv_any _ _ _).mono ?_; rintro e w' ⟨rfl, n, rfl⟩) | (go_at_call 18; refine (word_FMax_any _ _ _).mono ?_; rintro e w' ⟨rfl, rfl⟩) | (go_at_call 25; refine (word_Class_any _ _).mono ?_; rintro e w' ⟨rfl, rfl⟩))
      go_ret
      exact ⟨rfl, grown_drewN _ _⟩
    · have k1 : cls a0 = 1 := cls_one.mpr z1
      have k2 : cls a1 = 4 := cls_four.mpr z2
      clear hn z1 z2 r1 r2 g1 g2
      go_enter Try.func7, Try.ntmps7
      go_wp2_with (first | (go_at_call 9; refine (known_any _).mono ?_; rintro e w' ⟨rfl, n, rfl⟩) | (go_at_call 10; refine (word_FAdd_any _ _ _).mono ?_; rintro e w' ⟨rfl, n, rfl⟩) | (go_at_call 14; refine (word_FMul_any _ _ _).mono ?_; rintro e w' ⟨rfl, n, rfl⟩) | (go_at_call 16; refine (word_FDiv_any _ _ _).mono ?_; rintro e w' ⟨rfl, n, rfl⟩) | (go_at_call 18; refine (word_FMax_any _ _ _).mono ?_; rintro e w' ⟨rfl, rfl⟩) | (go_at_call 25; refine (word_Class_any _ _).mono ?_; rintro e w' ⟨rfl, rfl⟩))
      go_ret
      exact ⟨rfl, grown_drewN _ _⟩
  · obtain ⟨x0, x1, x2, x3⟩ := xor_parts l0 l1
    have f1 : fop .mul a0 a1 = Wd (sgn (U a0) ^^ sgn (U a1)) q := fop_some hq (hs _ _ rfl rfl)
    have f2 : fop .mul a1 a0 = Wd (sgn (U a0) ^^ sgn (U a1)) q := fop_some hq (by rw [mul_comm_bits]; exact hs _ _ rfl rfl)
    have f3 : fop .mul (bits .xor .i64 a0 (-9223372036854775808)) a1 = Wd (!(sgn (U a0) ^^ sgn (U a1))) q := by
      have e := hs (U (bits .xor .i64 a0 (-9223372036854775808))) (U a1) x2 rfl
      rw [x3, Bool.not_xor] at e
      exact fop_some hq e
    have f4 : fop .add a0 a1 = fop .add a1 a0 := by unfold fop; rw [add_comm_bits]
    have f5 : bits .xor .i64 (Wd (sgn (U a0) ^^ sgn (U a1)) q) (-9223372036854775808) = Wd (!(sgn (U a0) ^^ sgn (U a1))) q := Wd_xor _ (by omega)
    have n1 := Wd_neg (sgn (U a0) ^^ sgn (U a1)) (r := q) (by omega)
    have n0 : (cls (Wd (sgn (U a0) ^^ sgn (U a1)) q) == 0) = false := by
      rw [beq_eq_false_iff_ne]
      intro h
      have := cls_zero.mp h
      rw [U_Wd _ (by omega), (wd_parts _ (by omega)).1] at this
      omega
    rw [sgn_U l0 l1, sgn_U m0 m1] at f1 f2 f3 f5 n1 n0
    clear hs x0 x1 x2 x3 r1 r2
    rcases dec_cases a0 0 with ⟨s1, d1⟩ | ⟨s1, d1⟩ <;> rcases dec_cases a1 0 with ⟨s2, d2⟩ | ⟨s2, d2⟩
    all_goals
      simp only [d1, d2, Bool.xor_self, Bool.xor_false, Bool.false_xor, Bool.not_true, Bool.not_false] at f1 f2 f3 f5 n1 n0
      go_enter Try.func7, Try.ntmps7
      go_wp2_with (first | (go_at_call 9; refine (known_any _).mono ?_; rintro e w' ⟨rfl, n, rfl⟩) | (go_at_call 10; refine (word_FAdd_any _ _ _).mono ?_; rintro e w' ⟨rfl, n, rfl⟩) | (go_at_call 14; refine (word_FMul_any _ _ _).mono ?_; rintro e w' ⟨rfl, n, rfl⟩) | (go_at_call 16; refine (word_FDiv_any _ _ _).mono ?_; rintro e w' ⟨rfl, n, rfl⟩) | (go_at_call 18; refine (word_FMax_any _ _ _).mono ?_; rintro e w' ⟨rfl, rfl⟩) | (go_at_call 25; refine (word_Class_any _ _).mono ?_; rintro e w' ⟨rfl, rfl⟩))
      go_ret
      exact ⟨rfl, grown_drewN _ _⟩

/-! ### The row -/
set_option maxRecDepth 100000 in
theorem lifted (os : Os) (started : os.Started) (H : Type) (enc : TypeId × Value → H) :
    ReturnsInHanded {} Try.checked os 7 .any (Rows.wordSignsSpec.pre6 enc Try.prog Try.f7 Rows.wordSignsRow.domain false) (Rows.wordSignsSpec.post enc Try.prog Try.f7 false true false false) := by
  refine returnsInHanded_of_change (C := Try.checked) own started (by kernel_rfl) Try.func7
    (ChangeSpec.witness6 (enc := enc) (C := Try.checked) false ⟨#[], #[.int .i64 0, .int .i64 0], []⟩ 8 (by kernel_rfl) (by kernel_rfl) (by kernel_rfl) (by kernel_rfl)) ?_
  intro W base args ds gs before hval0 hW hcnd _
  have hval : ∀ (j : Nat) t v, Try.f7.params[j]? = some t → args[j]? = some v → Value.okWide Try.prog W .any base t v := hval0
  have hW' := hW
  obtain ⟨p, q, hA0, hV, rfl, hfz, hnd⟩ := hW
  have hA : DataW.TrodAll enc Try.prog W 0 (fun _ => true) true Try.f7.params.toList args.toList ds p := hA0
  rw [Try.params7] at hA hval
  obtain ⟨v0, vs0, d0, ds0, p0, q0, hargs, rfl, rfl, h0, r0⟩ := trodAll_cons hA
  obtain ⟨v1, vs1, d1, ds1, p1, q1, rfl, rfl, rfl, h1, r1⟩ := trodAll_cons r0
  obtain ⟨rfl, rfl, rfl⟩ := trodAll_nil r1
  obtain rfl : args = #[v0, v1] := by cases args; simp_all
  obtain ⟨rfl, rfl⟩ := trodVars_none hV
  obtain ⟨a0, rfl, rfl, rfl, w0⟩ := open_int Try.underlying2 (hval 0 2 v0 rfl rfl) h0
  obtain ⟨a1, rfl, rfl, rfl, w1⟩ := open_int Try.underlying2 (hval 1 2 v1 rfl rfl) h1
  clear hA0 hval0
  simp only [List.append_nil] at hW'
  refine (walk a0 a1 w0 w1 W).mono fun e W' ⟨he, hg⟩ => ?_
  subst he
  exact ⟨_, rfl, post_of_same (pa := []) (pv := []) hW' (fun _ _ _ => (trodAll_cons_mk (shut_bool Try.underlying4 _) trodAll_mk0)) (fun sp _ => (trodAll_cons_mk (shut_int Try.underlying2 w0) (trodAll_cons_mk (shut_int Try.underlying2 w1) trodAll_mk0))) (fun _ _ => rfl) rfl
    (hg.frame _) hg.2.1 (ok_one (by kernel_rfl) rfl (okWide_bool_mk Try.underlying4 _))⟩

theorem over : Rows.wordSignsRow.holds Try.pinned (OpenSpec.ofChange Rows.wordSignsSpec) :=
  OpenClaim.holds_of_wide 7 Try.f7 rfl rfl rfl rfl rfl rfl rfl ⟨rfl, rfl, rfl, rfl, rfl⟩ rfl rfl rfl rfl rfl (by kernel_rfl) Try.func7 (by kernel_rfl)
    (of_decide_eq_true (by kernel_rfl)) (by unfold Func.isWrapper; first | (rw [if_pos (by decide +kernel)]; kernel_rfl) | (rw [if_neg (by decide +kernel)]; exact ⟨rfl, rfl⟩))
    (fun os started H enc _ => lifted os started H enc)

theorem proved : Rows.WordSignsSaid :=
  over
#print axioms proved
end Go.Proofs.Ytgoajapgcmpflaa.wordSigns
