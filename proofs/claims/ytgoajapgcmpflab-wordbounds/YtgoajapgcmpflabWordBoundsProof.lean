/-
  Proved, with no condition: whatever int and bool the law WordBounds is called with, it answers true, that is, ToInt takes the powers of two that an int64 can hold, the lowest int64 among them, gives ErrArg for the greater ones, and FromInt gives the same float back.
-/
import Derived.Test.YtgoajapgcmpflabRows
import Derived.WalkKit
import Derived.ProofKit
import Derived.OpenShut
import Derived.Test.YtgoajapgcmpflabWithin
namespace Go.Proofs.Ytgoajapgcmpflab.wordBounds
open Go.ChangeShapes Go.WideShapes Go.ChangeAt Go.RowKit
set_option linter.unusedVariables false

theorem own : ownKnob Try.prog.godebug = none := by kernel_rfl

theorem fromI_any (a : Int) (w : World) :
    Calls Try.prog 11 #[.int .i64 a] w fun e w' => e = .returned (.int .i64 (fromI a)) ∧ w' = w := word_FromInt_any a w

set_option maxHeartbeats 1000000 in
theorem in_pos (a K N : Int) (w : World) (hk : 0 ≤ K) (hk1 : K < 63)
    (hw : ∀ w, Calls Try.prog 10 #[.int .i64 a, .int .i64 1100] w fun e w' => e = .returned (.int .i64 K) ∧ w' = w)
    (e0 : wrap64 (2 ^ K.toNat) = N) (t1 : toV ((1023 + K) * 4503599627370496) = N) (t2 : toE ((1023 + K) * 4503599627370496) = 0) (t3 : fromI N = (1023 + K) * 4503599627370496) :
    Calls Try.prog 8 #[.int .i64 a, .bool false] w fun e w' => e = .returned (.bool true) ∧ Grown w w' := by
  go_enter Try.func8, Try.ntmps8
  go_wp2_with (first | (go_at_call 9; refine (known_any _).mono ?_; rintro e w' ⟨rfl, n, rfl⟩) | (go_at_call 10; refine (hw _).mono ?_; rintro e w' ⟨rfl, rfl⟩) | (go_at_call 12; refine (word_ToInt_any _ _).mono ?_; rintro e w' ⟨rfl, rfl⟩) | (go_at_call 11; refine (fromI_any _ _).mono ?_; rintro e w' ⟨rfl, rfl⟩))
  go_ret
  exact ⟨rfl, grown_drewN _ _⟩

set_option maxHeartbeats 1000000 in
theorem in_neg (a K N T : Int) (w : World) (hk : 0 ≤ K) (hk1 : K < 63) (n0 : 0 < N) (n1 : N ≤ 4611686018427387904)
    (hw : ∀ w, Calls Try.prog 10 #[.int .i64 a, .int .i64 1100] w fun e w' => e = .returned (.int .i64 K) ∧ w' = w)
    (e0 : wrap64 (2 ^ K.toNat) = N) (e1 : bits .xor .i64 ((1023 + K) * 4503599627370496) (-9223372036854775808) = T) (t1 : toV T = -N) (t2 : toE T = 0) (t3 : fromI (-N) = T) :
    Calls Try.prog 8 #[.int .i64 a, .bool true] w fun e w' => e = .returned (.bool true) ∧ Grown w w' := by
  go_enter Try.func8, Try.ntmps8
  go_wp2_with (first | (go_at_call 9; refine (known_any _).mono ?_; rintro e w' ⟨rfl, n, rfl⟩) | (go_at_call 10; refine (hw _).mono ?_; rintro e w' ⟨rfl, rfl⟩) | (go_at_call 12; refine (word_ToInt_any _ _).mono ?_; rintro e w' ⟨rfl, rfl⟩) | (go_at_call 11; refine (fromI_any _ _).mono ?_; rintro e w' ⟨rfl, rfl⟩))
  go_ret
  exact ⟨rfl, grown_drewN _ _⟩

set_option maxHeartbeats 1000000 in
theorem out_any (a K T : Int) (b : Bool) (w : World) (hk : 63 < K) (hk1 : K < 1024)
    (hw : ∀ w, Calls Try.prog 10 #[.int .i64 a, .int .i64 1100] w fun e w' => e = .returned (.int .i64 K) ∧ w' = w)
    (e1 : bits .xor .i64 ((1023 + K) * 4503599627370496) (-9223372036854775808) = T) (t1 : toV T = 0) (t2 : toE T = 1)
    (t3 : toV ((1023 + K) * 4503599627370496) = 0) (t4 : toE ((1023 + K) * 4503599627370496) = 1) :
    Calls Try.prog 8 #[.int .i64 a, .bool b] w fun e w' => e = .returned (.bool true) ∧ Grown w w' := by
  cases b
  all_goals
    go_enter Try.func8, Try.ntmps8
    go_wp2_with (first | (go_at_call 9; refine (known_any _).mono ?_; rintro e w' ⟨rfl, n, rfl⟩) | (go_at_call 10; refine (hw _).mono ?_; rintro e w' ⟨rfl, rfl⟩) | (go_at_call 12; refine (word_ToInt_any _ _).mono ?_; rintro e w' ⟨rfl, rfl⟩) | (go_at_call 11; refine (fromI_any _ _).mono ?_; rintro e w' ⟨rfl, rfl⟩))
    go_ret
    exact ⟨rfl, grown_drewN _ _⟩

set_option maxHeartbeats 1000000 in
theorem out_far (a K : Int) (b : Bool) (w : World) (hk : 1024 ≤ K) (hk1 : K < 1100)
    (hw : ∀ w, Calls Try.prog 10 #[.int .i64 a, .int .i64 1100] w fun e w' => e = .returned (.int .i64 K) ∧ w' = w) :
    Calls Try.prog 8 #[.int .i64 a, .bool b] w fun e w' => e = .returned (.bool true) ∧ Grown w w' := by
  go_enter Try.func8, Try.ntmps8
  go_wp2_with (first | (go_at_call 9; refine (known_any _).mono ?_; rintro e w' ⟨rfl, n, rfl⟩) | (go_at_call 10; refine (hw _).mono ?_; rintro e w' ⟨rfl, rfl⟩) | (go_at_call 12; refine (word_ToInt_any _ _).mono ?_; rintro e w' ⟨rfl, rfl⟩) | (go_at_call 11; refine (fromI_any _ _).mono ?_; rintro e w' ⟨rfl, rfl⟩))
  go_ret
  exact ⟨rfl, grown_drewN _ _⟩


/-! ### The walk -/
set_option maxHeartbeats 1000000 in
theorem walk (a0 : Int) (a1 : Bool) (w0 : (Lit.int .i64 a0).wf = true) (w : World) :
    Calls Try.prog 8 #[.int .i64 a0, .bool a1] w fun e w' => e = .returned (.bool true) ∧ Grown w w' := by
  obtain ⟨K, hK, k0, k1⟩ : ∃ K : Nat, a0 % 1100 = (K : Int) ∧ 0 ≤ K ∧ K < 1100 := ⟨(a0 % 1100).toNat, by omega, by omega, by omega⟩
  have hw : ∀ w, Calls Try.prog 10 #[.int .i64 a0, .int .i64 1100] w fun e w' => e = .returned (.int .i64 (K : Int)) ∧ w' = w := by
    intro w
    rw [← hK]
    exact within_any a0 1100 (by decide) (by decide) w
  by_cases h1 : K < 63
  · obtain ⟨t1, t2, t3, t4, t5, t6⟩ := two_in K h1
    have p : 0 < 2 ^ K := Nat.two_pow_pos K
    have q : 2 ^ K ≤ 2 ^ 62 := Nat.pow_le_pow_right (by omega) (by omega)
    have e0 : wrap64 (2 ^ ((K : Int)).toNat) = ((2 ^ K : Nat) : Int) := by
      have : (2 : Int) ^ ((K : Int)).toNat = ((2 ^ K : Nat) : Int) := by rw [Int.toNat_natCast, Int.natCast_pow]; rfl
      rw [this]; unfold wrap64; omega
    have e1 : bits .xor .i64 ((1023 + (K : Int)) * 4503599627370496) (-9223372036854775808) = (1023 + (K : Int)) * 4503599627370496 - 9223372036854775808 := by
      rw [xor_sign (by omega) (by omega), if_neg (by omega)]
    simp only [two_eq, if_true, Bool.false_eq_true, if_false] at t1 t2 t3 t4 t5 t6
    cases a1
    · exact in_pos a0 K _ w (by omega) (by omega) hw e0 t1 t2 t3
    · exact in_neg a0 K _ _ w (by omega) (by omega) (by omega) (by omega) hw e0 e1 t4 t5 t6
  · by_cases h2 : K = 63
    · subst h2
      have e1 : bits .xor .i64 4890909195324358656 (-9223372036854775808) = -4332462841530417152 := by decide +kernel
      have t1 : toV 4890909195324358656 = 0 := by decide +kernel
      have t2 : toE 4890909195324358656 = 1 := by decide +kernel
      obtain ⟨t3, t4⟩ := two_least
      clear h1 k1 hK k0
      cases a1
      all_goals
        go_enter Try.func8, Try.ntmps8
        go_wp2_with (first | (go_at_call 9; refine (known_any _).mono ?_; rintro e w' ⟨rfl, n, rfl⟩) | (go_at_call 10; refine (hw _).mono ?_; rintro e w' ⟨rfl, rfl⟩) | (go_at_call 12; refine (word_ToInt_any _ _).mono ?_; rintro e w' ⟨rfl, rfl⟩) | (go_at_call 11; refine (fromI_any _ _).mono ?_; rintro e w' ⟨rfl, rfl⟩))
        go_ret
        exact ⟨rfl, grown_drewN _ _⟩
    · by_cases h3 : K < 1024
      · obtain ⟨t1, t2⟩ := two_out false K (by omega) h3 (fun h => by cases h)
        obtain ⟨t3, t4⟩ := two_out true K (by omega) h3 (fun _ => by omega)
        have e1 : bits .xor .i64 ((1023 + (K : Int)) * 4503599627370496) (-9223372036854775808) = (1023 + (K : Int)) * 4503599627370496 - 9223372036854775808 := by
          rw [xor_sign (by omega) (by omega), if_neg (by omega)]
        simp only [two_eq, if_true, Bool.false_eq_true, if_false] at t1 t2 t3 t4
        exact out_any a0 K _ a1 w (by omega) (by omega) hw e1 t3 t4 t1 t2
      · exact out_far a0 K a1 w (by omega) (by omega) hw

/-! ### The row -/
set_option maxRecDepth 100000 in
theorem lifted (os : Os) (started : os.Started) (H : Type) (enc : TypeId × Value → H) :
    ReturnsInHanded {} Try.checked os 8 .any (Rows.wordBoundsSpec.pre6 enc Try.prog Try.f8 Rows.wordBoundsRow.domain false) (Rows.wordBoundsSpec.post enc Try.prog Try.f8 false true false false) := by
  refine returnsInHanded_of_change (C := Try.checked) own started (by kernel_rfl) Try.func8
    (ChangeSpec.witness6 (enc := enc) (C := Try.checked) false ⟨#[], #[.int .i64 0, .bool false], []⟩ 8 (by kernel_rfl) (by kernel_rfl) (by kernel_rfl) (by kernel_rfl)) ?_
  intro W base args ds gs before hval0 hW hcnd _
  have hval : ∀ (j : Nat) t v, Try.f8.params[j]? = some t → args[j]? = some v → Value.okWide Try.prog W .any base t v := hval0
  have hW' := hW
  obtain ⟨p, q, hA0, hV, rfl, hfz, hnd⟩ := hW
  have hA : DataW.TrodAll enc Try.prog W 0 (fun _ => true) true Try.f8.params.toList args.toList ds p := hA0
  rw [Try.params8] at hA hval
  obtain ⟨v0, vs0, d0, ds0, p0, q0, hargs, rfl, rfl, h0, r0⟩ := trodAll_cons hA
  obtain ⟨v1, vs1, d1, ds1, p1, q1, rfl, rfl, rfl, h1, r1⟩ := trodAll_cons r0
  obtain ⟨rfl, rfl, rfl⟩ := trodAll_nil r1
  obtain rfl : args = #[v0, v1] := by cases args; simp_all
  obtain ⟨rfl, rfl⟩ := trodVars_none hV
  obtain ⟨a0, rfl, rfl, rfl, w0⟩ := open_int Try.underlying3 (hval 0 3 v0 rfl rfl) h0
  obtain ⟨a1, rfl, rfl, rfl⟩ := open_bool Try.underlying4 (hval 1 4 v1 rfl rfl) h1
  clear hA0 hval0
  simp only [List.append_nil] at hW'
  refine (walk a0 a1 w0 W).mono fun e W' ⟨he, hg⟩ => ?_
  subst he
  exact ⟨_, rfl, post_of_same (pa := []) (pv := []) hW' (fun _ _ _ => (trodAll_cons_mk (shut_bool Try.underlying4 _) trodAll_mk0)) (fun sp _ => (trodAll_cons_mk (shut_int Try.underlying3 w0) (trodAll_cons_mk (shut_bool Try.underlying4 _) trodAll_mk0))) (fun _ _ => rfl) rfl
    (hg.frame _) hg.2.1 (ok_one (by kernel_rfl) rfl (okWide_bool_mk Try.underlying4 _))⟩

theorem over : Rows.wordBoundsRow.holds Try.pinned (OpenSpec.ofChange Rows.wordBoundsSpec) :=
  OpenClaim.holds_of_wide 8 Try.f8 rfl rfl rfl rfl rfl rfl rfl ⟨rfl, rfl, rfl, rfl, rfl⟩ rfl rfl rfl rfl rfl (by kernel_rfl) Try.func8 (by kernel_rfl)
    (of_decide_eq_true (by kernel_rfl)) (by unfold Func.isWrapper; first | (rw [if_pos (by decide +kernel)]; kernel_rfl) | (rw [if_neg (by decide +kernel)]; exact ⟨rfl, rfl⟩))
    (fun os started H enc _ => lifted os started H enc)

theorem proved : Rows.WordBoundsSaid :=
  over
#print axioms proved
end Go.Proofs.Ytgoajapgcmpflab.wordBounds
