/-
  Proved, with no condition: whatever three int64 values the law WordSorts is called with, it answers true, that is, FLess is transitive, and FMax of two that are no NaN is one of them, below neither.
-/
import Derived.Test.YtgoajapgcmpflacRows
import Derived.WalkKit
import Derived.ProofKit
import Derived.OpenShut
import Derived.Test.YtgoajapgcmpflacMax
namespace Go.Proofs.Ytgoajapgcmpflac.wordSorts
open Go.ChangeShapes Go.WideShapes Go.ChangeAt Go.RowKit
set_option linter.unusedVariables false

theorem own : ownKnob Try.prog.godebug = none := by kernel_rfl


/-! ### The walk -/
set_option maxHeartbeats 1000000 in
theorem walk (a0 : Int) (a1 : Int) (a2 : Int) (w0 : (Lit.int .i64 a0).wf = true) (w1 : (Lit.int .i64 a1).wf = true) (w2 : (Lit.int .i64 a2).wf = true) (w : World) :
    Calls Try.prog 3 #[.int .i64 a0, .int .i64 a1, .int .i64 a2] w fun e w' => e = .returned (.bool true) ∧ Grown w w' := by
  obtain ⟨l0, l1⟩ := wf64 w0
  obtain ⟨m0, m1⟩ := wf64 w1
  have lab := less_cases a0 a1
  have lbc := less_cases a1 a2
  have lac := less_cases a0 a2
  have laa := less_cases a0 a0
  have lba := less_cases a1 a0
  have lbb := less_cases a1 a1
  have fc := fmax_cases l0 l1 m0 m1
  have c1 := @cls_zero a0
  have c2 := @cls_zero a1
  -- the first test: one of three ways
  have first : (less a0 a1 == 1) = false ∨ less a0 a1 = 1 ∧ (less a1 a2 == 1) = false ∨ less a0 a1 = 1 ∧ less a1 a2 = 1 ∧ less a0 a2 = 1 := by
    rcases beq_cases (less a0 a1) 1 with ⟨e1, _⟩ | ⟨e1, g1⟩
    · rcases beq_cases (less a1 a2) 1 with ⟨e2, _⟩ | ⟨e2, g2⟩
      · exact Or.inr (Or.inr ⟨e1, e2, by omega⟩)
      · exact Or.inr (Or.inl ⟨e1, g2⟩)
    · exact Or.inl g1
  rcases beq_cases (cls a0) 0 with ⟨h1, g1⟩ | ⟨h1, g1⟩
  · clear lab lbc lac laa lba lbb fc c1 c2 g1
    rcases first with f1 | ⟨f1, f2⟩ | ⟨f1, f2, f3⟩
    all_goals
      go_enter Try.func3, Try.ntmps3
      go_wp2_with (first | (go_at_call 4; refine (known_any _).mono ?_; rintro e w' ⟨rfl, n, rfl⟩) | (go_at_call 5; refine (word_FLess_any _ _ _).mono ?_; rintro e w' ⟨rfl, rfl⟩) | (go_at_call 6; refine (word_Class_any _ _).mono ?_; rintro e w' ⟨rfl, rfl⟩) | (go_at_call 7; refine (word_FMax_any _ _ _).mono ?_; rintro e w' ⟨rfl, rfl⟩))
      go_ret
      exact ⟨rfl, grown_drewN _ _⟩
  rcases beq_cases (cls a1) 0 with ⟨h2, g2⟩ | ⟨h2, g2⟩
  · clear lab lbc lac laa lba lbb fc c1 c2 g2 h1
    rcases first with f1 | ⟨f1, f2⟩ | ⟨f1, f2, f3⟩
    all_goals
      go_enter Try.func3, Try.ntmps3
      go_wp2_with (first | (go_at_call 4; refine (known_any _).mono ?_; rintro e w' ⟨rfl, n, rfl⟩) | (go_at_call 5; refine (word_FLess_any _ _ _).mono ?_; rintro e w' ⟨rfl, rfl⟩) | (go_at_call 6; refine (word_Class_any _ _).mono ?_; rintro e w' ⟨rfl, rfl⟩) | (go_at_call 7; refine (word_FMax_any _ _ _).mono ?_; rintro e w' ⟨rfl, rfl⟩))
      go_ret
      exact ⟨rfl, grown_drewN _ _⟩
  have fm : fmax a0 a1 = a0 ∧ less a0 a0 = 0 ∧ less a0 a1 = 0 ∨ fmax a0 a1 = a1 ∧ less a1 a0 = 0 ∧ less a1 a1 = 0 := by
    rcases fc with ⟨_, _⟩ | ⟨q1, q2, ⟨q3, e⟩ | ⟨q3, e⟩ | ⟨q3, e⟩⟩
    · omega
    · left; exact ⟨e, by omega, by omega⟩
    · right; exact ⟨e, by omega, by omega⟩
    · by_cases hs : a0 < 0
      · right; rw [if_pos hs] at e; exact ⟨e, by omega, by omega⟩
      · left; rw [if_neg hs] at e; exact ⟨e, by omega, by omega⟩
  clear lab lbc lac laa lba lbb fc c1 c2 h1 h2
  rcases fm with ⟨k1, k2, k3⟩ | ⟨k1, k2, k3⟩
  · rcases first with f1 | ⟨f1, f2⟩ | ⟨f1, f2, f3⟩
    · clear f1
      go_enter Try.func3, Try.ntmps3
      go_wp2_with (first | (go_at_call 4; refine (known_any _).mono ?_; rintro e w' ⟨rfl, n, rfl⟩) | (go_at_call 5; refine (word_FLess_any _ _ _).mono ?_; rintro e w' ⟨rfl, rfl⟩) | (go_at_call 6; refine (word_Class_any _ _).mono ?_; rintro e w' ⟨rfl, rfl⟩) | (go_at_call 7; refine (word_FMax_any _ _ _).mono ?_; rintro e w' ⟨rfl, rfl⟩))
      go_ret
      exact ⟨rfl, grown_drewN _ _⟩
    · omega
    · omega
  · rcases beq_cases a1 a0 with ⟨q, _⟩ | ⟨q, gq⟩
    · subst q
      rcases first with f1 | ⟨f1, f2⟩ | ⟨f1, f2, f3⟩
      · clear f1
        go_enter Try.func3, Try.ntmps3
        go_wp2_with (first | (go_at_call 4; refine (known_any _).mono ?_; rintro e w' ⟨rfl, n, rfl⟩) | (go_at_call 5; refine (word_FLess_any _ _ _).mono ?_; rintro e w' ⟨rfl, rfl⟩) | (go_at_call 6; refine (word_Class_any _ _).mono ?_; rintro e w' ⟨rfl, rfl⟩) | (go_at_call 7; refine (word_FMax_any _ _ _).mono ?_; rintro e w' ⟨rfl, rfl⟩))
        go_ret
        exact ⟨rfl, grown_drewN _ _⟩
      · omega
      · omega
    · clear q
      rcases first with f1 | ⟨f1, f2⟩ | ⟨f1, f2, f3⟩
      all_goals
        go_enter Try.func3, Try.ntmps3
        go_wp2_with (first | (go_at_call 4; refine (known_any _).mono ?_; rintro e w' ⟨rfl, n, rfl⟩) | (go_at_call 5; refine (word_FLess_any _ _ _).mono ?_; rintro e w' ⟨rfl, rfl⟩) | (go_at_call 6; refine (word_Class_any _ _).mono ?_; rintro e w' ⟨rfl, rfl⟩) | (go_at_call 7; refine (word_FMax_any _ _ _).mono ?_; rintro e w' ⟨rfl, rfl⟩))
        go_ret
        exact ⟨rfl, grown_drewN _ _⟩

/-! ### The row -/
set_option maxRecDepth 100000 in
theorem lifted (os : Os) (started : os.Started) (H : Type) (enc : TypeId × Value → H) :
    ReturnsInHanded {} Try.checked os 3 .any (Rows.wordSortsSpec.pre6 enc Try.prog Try.f3 Rows.wordSortsRow.domain false) (Rows.wordSortsSpec.post enc Try.prog Try.f3 false true false false) := by
  refine returnsInHanded_of_change (C := Try.checked) own started (by kernel_rfl) Try.func3
    (ChangeSpec.witness6 (enc := enc) (C := Try.checked) false ⟨#[], #[.int .i64 0, .int .i64 0, .int .i64 0], []⟩ 8 (by kernel_rfl) (by kernel_rfl) (by kernel_rfl) (by kernel_rfl)) ?_
  intro W base args ds gs before hval0 hW hcnd _
  have hval : ∀ (j : Nat) t v, Try.f3.params[j]? = some t → args[j]? = some v → Value.okWide Try.prog W .any base t v := hval0
  have hW' := hW
  obtain ⟨p, q, hA0, hV, rfl, hfz, hnd⟩ := hW
  have hA : DataW.TrodAll enc Try.prog W 0 (fun _ => true) true Try.f3.params.toList args.toList ds p := hA0
  rw [Try.params3] at hA hval
  obtain ⟨v0, vs0, d0, ds0, p0, q0, hargs, rfl, rfl, h0, r0⟩ := trodAll_cons hA
  obtain ⟨v1, vs1, d1, ds1, p1, q1, rfl, rfl, rfl, h1, r1⟩ := trodAll_cons r0
  obtain ⟨v2, vs2, d2, ds2, p2, q2, rfl, rfl, rfl, h2, r2⟩ := trodAll_cons r1
  obtain ⟨rfl, rfl, rfl⟩ := trodAll_nil r2
  obtain rfl : args = #[v0, v1, v2] := by cases args; simp_all
  obtain ⟨rfl, rfl⟩ := trodVars_none hV
  obtain ⟨a0, rfl, rfl, rfl, w0⟩ := open_int Try.underlying2 (hval 0 2 v0 rfl rfl) h0
  obtain ⟨a1, rfl, rfl, rfl, w1⟩ := open_int Try.underlying2 (hval 1 2 v1 rfl rfl) h1
  obtain ⟨a2, rfl, rfl, rfl, w2⟩ := open_int Try.underlying2 (hval 2 2 v2 rfl rfl) h2
  clear hA0 hval0
  simp only [List.append_nil] at hW'
  refine (walk a0 a1 a2 w0 w1 w2 W).mono fun e W' ⟨he, hg⟩ => ?_
  subst he
  exact ⟨_, rfl, post_of_same (pa := []) (pv := []) hW' (fun _ _ _ => (trodAll_cons_mk (shut_bool Try.underlying4 _) trodAll_mk0)) (fun sp _ => (trodAll_cons_mk (shut_int Try.underlying2 w0) (trodAll_cons_mk (shut_int Try.underlying2 w1) (trodAll_cons_mk (shut_int Try.underlying2 w2) trodAll_mk0)))) (fun _ _ => rfl) rfl
    (hg.frame _) hg.2.1 (ok_one (by kernel_rfl) rfl (okWide_bool_mk Try.underlying4 _))⟩

theorem over : Rows.wordSortsRow.holds Try.pinned (OpenSpec.ofChange Rows.wordSortsSpec) :=
  OpenClaim.holds_of_wide 3 Try.f3 rfl rfl rfl rfl rfl rfl rfl ⟨rfl, rfl, rfl, rfl, rfl⟩ rfl rfl rfl rfl rfl (by kernel_rfl) Try.func3 (by kernel_rfl)
    (of_decide_eq_true (by kernel_rfl)) (by unfold Func.isWrapper; first | (rw [if_pos (by decide +kernel)]; kernel_rfl) | (rw [if_neg (by decide +kernel)]; exact ⟨rfl, rfl⟩))
    (fun os started H enc _ => lifted os started H enc)

theorem proved : Rows.WordSortsSaid :=
  over
#print axioms proved
end Go.Proofs.Ytgoajapgcmpflac.wordSorts
