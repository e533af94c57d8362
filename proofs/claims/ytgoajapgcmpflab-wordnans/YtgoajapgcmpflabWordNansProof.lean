/-
  Proved, with no condition: whatever int64 values and sign the law WordNans is called with, it answers true, that is, every NaN pattern is classed as NaN, spreads as the one NaN through all operations, is incomparable, and is refused by ToInt.
-/
import Derived.Test.YtgoajapgcmpflabRows
import Derived.WalkKit
import Derived.ProofKit
import Derived.OpenShut
import Derived.Test.YtgoajapgcmpflabFlat
namespace Go.Proofs.Ytgoajapgcmpflab.wordNans
open Go.ChangeShapes Go.WideShapes Go.ChangeAt Go.RowKit
set_option linter.unusedVariables false

theorem own : ownKnob Try.prog.godebug = none := by kernel_rfl

theorem and_low (a : Int) : ∃ F : Nat, bits .and .i64 a 4503599627370495 = (F : Int) ∧ F < 4503599627370496 := by
  have e0 : bits .and .i64 a 4503599627370495 = IntKind.i64.wrap (((BitVec.ofInt 64 a).toNat &&& (BitVec.ofInt 64 4503599627370495).toNat : Nat) : Int) :=
    congrArg (fun n : Nat => IntKind.i64.wrap (n : Int)) (BitVec.toNat_and (BitVec.ofInt 64 a) (BitVec.ofInt 64 4503599627370495))
  refine ⟨U a % 4503599627370496, ?_, by omega⟩
  rw [e0, wrap64_i, ofInt_U, show (BitVec.ofInt 64 4503599627370495).toNat = 4503599627370495 from by decide +kernel, nat_mask52]
  unfold wrap64; omega
theorem or_exp {F : Nat} (h : F < 4503599627370496) : bits .or .i64 (F : Int) 9218868437227405312 = (F : Int) + 9218868437227405312 := by
  have e0 : bits .or .i64 (F : Int) 9218868437227405312 = IntKind.i64.wrap (((BitVec.ofInt 64 (F : Int)).toNat ||| (BitVec.ofInt 64 9218868437227405312).toNat : Nat) : Int) :=
    congrArg (fun n : Nat => IntKind.i64.wrap (n : Int)) (BitVec.toNat_or (BitVec.ofInt 64 (F : Int)) (BitVec.ofInt 64 9218868437227405312))
  have eU : U (F : Int) = F := by unfold U; rw [IntKind.wrap_u64]; omega
  rw [e0, wrap64_i, ofInt_U, eU, show (BitVec.ofInt 64 9218868437227405312).toNat = 9218868437227405312 from by decide +kernel, Nat.or_comm, nat_join 52 _ _ (by decide) h]
  unfold wrap64; omega


/-! ### The walk -/
set_option maxHeartbeats 1000000 in
theorem walk (a0 : Int) (a1 : Int) (a2 : Bool) (w0 : (Lit.int .i64 a0).wf = true) (w1 : (Lit.int .i64 a1).wf = true) (w : World) :
    Calls Try.prog 4 #[.int .i64 a0, .int .i64 a1, .bool a2] w fun e w' => e = .returned (.bool true) ∧ Grown w w' := by
  obtain ⟨b0, b1⟩ := wf64 w1
  obtain ⟨F, hF, F1⟩ : ∃ F : Nat, bits .and .i64 a0 4503599627370495 = (F : Int) ∧ F < 4503599627370496 := and_low a0
  have hG := or_exp F1
  by_cases h0 : F = 0
  · subst h0
    have hG0 : bits .or .i64 0 9218868437227405312 = 9218868437227405312 := by decide +kernel
    have hX : bits .xor .i64 9218868437227405313 (-9223372036854775808) = -4503599627370495 := by decide +kernel
    clear hG
    cases a2
    · obtain ⟨f1, f2, f3, f4, f5, f6, f7, f8, f9, f10, f11, f12⟩ := nan_facts (A := 9218868437227405313) (b := a1) (by decide +kernel) (by decide) (by decide) b0 b1
      go_enter Try.func4, Try.ntmps4
      go_wp2_with (first | (go_at_call 9; refine (known_any _).mono ?_; rintro e w' ⟨rfl, n, rfl⟩) | (go_at_call 13; refine (word_FAdd_any _ _ _).mono ?_; rintro e w' ⟨rfl, n, rfl⟩) | (go_at_call 14; refine (word_FSub_any _ _ _).mono ?_; rintro e w' ⟨rfl, n, rfl⟩) | (go_at_call 15; refine (word_FMul_any _ _ _).mono ?_; rintro e w' ⟨rfl, n, rfl⟩) | (go_at_call 16; refine (word_FDiv_any _ _ _).mono ?_; rintro e w' ⟨rfl, n, rfl⟩) | (go_at_call 18; refine (word_FMax_any _ _ _).mono ?_; rintro e w' ⟨rfl, rfl⟩) | (go_at_call 19; refine (word_FLess_any _ _ _).mono ?_; rintro e w' ⟨rfl, rfl⟩) | (go_at_call 17; refine (word_Class_any _ _).mono ?_; rintro e w' ⟨rfl, rfl⟩) | (go_at_call 12; refine (word_ToInt_any _ _).mono ?_; rintro e w' ⟨rfl, rfl⟩))
      go_ret
      exact ⟨rfl, grown_drewN _ _⟩
    · obtain ⟨f1, f2, f3, f4, f5, f6, f7, f8, f9, f10, f11, f12⟩ := nan_facts (A := -4503599627370495) (b := a1) (by decide +kernel) (by decide) (by decide) b0 b1
      go_enter Try.func4, Try.ntmps4
      go_wp2_with (first | (go_at_call 9; refine (known_any _).mono ?_; rintro e w' ⟨rfl, n, rfl⟩) | (go_at_call 13; refine (word_FAdd_any _ _ _).mono ?_; rintro e w' ⟨rfl, n, rfl⟩) | (go_at_call 14; refine (word_FSub_any _ _ _).mono ?_; rintro e w' ⟨rfl, n, rfl⟩) | (go_at_call 15; refine (word_FMul_any _ _ _).mono ?_; rintro e w' ⟨rfl, n, rfl⟩) | (go_at_call 16; refine (word_FDiv_any _ _ _).mono ?_; rintro e w' ⟨rfl, n, rfl⟩) | (go_at_call 18; refine (word_FMax_any _ _ _).mono ?_; rintro e w' ⟨rfl, rfl⟩) | (go_at_call 19; refine (word_FLess_any _ _ _).mono ?_; rintro e w' ⟨rfl, rfl⟩) | (go_at_call 17; refine (word_Class_any _ _).mono ?_; rintro e w' ⟨rfl, rfl⟩) | (go_at_call 12; refine (word_ToInt_any _ _).mono ?_; rintro e w' ⟨rfl, rfl⟩))
      go_ret
      exact ⟨rfl, grown_drewN _ _⟩
  · have r1 : 9218868437227405312 < rung (U ((F : Int) + 9218868437227405312)) := by
      have := @U_pos ((F : Int) + 9218868437227405312) (by omega) (by omega)
      omega
    obtain ⟨x0, x1, x2, _⟩ := @xor_parts ((F : Int) + 9218868437227405312) (by omega) (by omega)
    have hF0 : ((F : Int) == 0) = false := by rw [beq_eq_false_iff_ne]; omega
    cases a2
    · obtain ⟨f1, f2, f3, f4, f5, f6, f7, f8, f9, f10, f11, f12⟩ := nan_facts (A := ((F : Int) + 9218868437227405312)) (b := a1) r1 (by omega) (by omega) b0 b1
      clear x0 x1 x2 r1
      go_enter Try.func4, Try.ntmps4
      go_wp2_with (first | (go_at_call 9; refine (known_any _).mono ?_; rintro e w' ⟨rfl, n, rfl⟩) | (go_at_call 13; refine (word_FAdd_any _ _ _).mono ?_; rintro e w' ⟨rfl, n, rfl⟩) | (go_at_call 14; refine (word_FSub_any _ _ _).mono ?_; rintro e w' ⟨rfl, n, rfl⟩) | (go_at_call 15; refine (word_FMul_any _ _ _).mono ?_; rintro e w' ⟨rfl, n, rfl⟩) | (go_at_call 16; refine (word_FDiv_any _ _ _).mono ?_; rintro e w' ⟨rfl, n, rfl⟩) | (go_at_call 18; refine (word_FMax_any _ _ _).mono ?_; rintro e w' ⟨rfl, rfl⟩) | (go_at_call 19; refine (word_FLess_any _ _ _).mono ?_; rintro e w' ⟨rfl, rfl⟩) | (go_at_call 17; refine (word_Class_any _ _).mono ?_; rintro e w' ⟨rfl, rfl⟩) | (go_at_call 12; refine (word_ToInt_any _ _).mono ?_; rintro e w' ⟨rfl, rfl⟩))
      go_ret
      exact ⟨rfl, grown_drewN _ _⟩
    · obtain ⟨f1, f2, f3, f4, f5, f6, f7, f8, f9, f10, f11, f12⟩ := nan_facts (A := (bits .xor .i64 ((F : Int) + 9218868437227405312) (-9223372036854775808))) (b := a1) (by rw [x2]; exact r1) x0 x1 b0 b1
      clear x0 x1 x2 r1
      go_enter Try.func4, Try.ntmps4
      go_wp2_with (first | (go_at_call 9; refine (known_any _).mono ?_; rintro e w' ⟨rfl, n, rfl⟩) | (go_at_call 13; refine (word_FAdd_any _ _ _).mono ?_; rintro e w' ⟨rfl, n, rfl⟩) | (go_at_call 14; refine (word_FSub_any _ _ _).mono ?_; rintro e w' ⟨rfl, n, rfl⟩) | (go_at_call 15; refine (word_FMul_any _ _ _).mono ?_; rintro e w' ⟨rfl, n, rfl⟩) | (go_at_call 16; refine (word_FDiv_any _ _ _).mono ?_; rintro e w' ⟨rfl, n, rfl⟩) | (go_at_call 18; refine (word_FMax_any _ _ _).mono ?_; rintro e w' ⟨rfl, rfl⟩) | (go_at_call 19; refine (word_FLess_any _ _ _).mono ?_; rintro e w' ⟨rfl, rfl⟩) | (go_at_call 17; refine (word_Class_any _ _).mono ?_; rintro e w' ⟨rfl, rfl⟩) | (go_at_call 12; refine (word_ToInt_any _ _).mono ?_; rintro e w' ⟨rfl, rfl⟩))
      go_ret
      exact ⟨rfl, grown_drewN _ _⟩

/-! ### The row -/
set_option maxRecDepth 100000 in
theorem lifted (os : Os) (started : os.Started) (H : Type) (enc : TypeId × Value → H) :
    ReturnsInHanded {} Try.checked os 4 .any (Rows.wordNansSpec.pre6 enc Try.prog Try.f4 Rows.wordNansRow.domain false) (Rows.wordNansSpec.post enc Try.prog Try.f4 false true false false) := by
  refine returnsInHanded_of_change (C := Try.checked) own started (by kernel_rfl) Try.func4
    (ChangeSpec.witness6 (enc := enc) (C := Try.checked) false ⟨#[], #[.int .i64 0, .int .i64 0, .bool false], []⟩ 8 (by kernel_rfl) (by kernel_rfl) (by kernel_rfl) (by kernel_rfl)) ?_
  intro W base args ds gs before hval0 hW hcnd _
  have hval : ∀ (j : Nat) t v, Try.f4.params[j]? = some t → args[j]? = some v → Value.okWide Try.prog W .any base t v := hval0
  have hW' := hW
  obtain ⟨p, q, hA0, hV, rfl, hfz, hnd⟩ := hW
  have hA : DataW.TrodAll enc Try.prog W 0 (fun _ => true) true Try.f4.params.toList args.toList ds p := hA0
  rw [Try.params4] at hA hval
  obtain ⟨v0, vs0, d0, ds0, p0, q0, hargs, rfl, rfl, h0, r0⟩ := trodAll_cons hA
  obtain ⟨v1, vs1, d1, ds1, p1, q1, rfl, rfl, rfl, h1, r1⟩ := trodAll_cons r0
  obtain ⟨v2, vs2, d2, ds2, p2, q2, rfl, rfl, rfl, h2, r2⟩ := trodAll_cons r1
  obtain ⟨rfl, rfl, rfl⟩ := trodAll_nil r2
  obtain rfl : args = #[v0, v1, v2] := by cases args; simp_all
  obtain ⟨rfl, rfl⟩ := trodVars_none hV
  obtain ⟨a0, rfl, rfl, rfl, w0⟩ := open_int Try.underlying2 (hval 0 2 v0 rfl rfl) h0
  obtain ⟨a1, rfl, rfl, rfl, w1⟩ := open_int Try.underlying2 (hval 1 2 v1 rfl rfl) h1
  obtain ⟨a2, rfl, rfl, rfl⟩ := open_bool Try.underlying4 (hval 2 4 v2 rfl rfl) h2
  clear hA0 hval0
  simp only [List.append_nil] at hW'
  refine (walk a0 a1 a2 w0 w1 W).mono fun e W' ⟨he, hg⟩ => ?_
  subst he
  exact ⟨_, rfl, post_of_same (pa := []) (pv := []) hW' (fun _ _ _ => (trodAll_cons_mk (shut_bool Try.underlying4 _) trodAll_mk0)) (fun sp _ => (trodAll_cons_mk (shut_int Try.underlying2 w0) (trodAll_cons_mk (shut_int Try.underlying2 w1) (trodAll_cons_mk (shut_bool Try.underlying4 _) trodAll_mk0)))) (fun _ _ => rfl) rfl
    (hg.frame _) hg.2.1 (ok_one (by kernel_rfl) rfl (okWide_bool_mk Try.underlying4 _))⟩

theorem over : Rows.wordNansRow.holds Try.pinned (OpenSpec.ofChange Rows.wordNansSpec) :=
  OpenClaim.holds_of_wide 4 Try.f4 rfl rfl rfl rfl rfl rfl rfl ⟨rfl, rfl, rfl, rfl, rfl⟩ rfl rfl rfl rfl rfl (by kernel_rfl) Try.func4 (by kernel_rfl)
    (of_decide_eq_true (by kernel_rfl)) (by unfold Func.isWrapper; first | (rw [if_pos (by decide +kernel)]; kernel_rfl) | (rw [if_neg (by decide +kernel)]; exact ⟨rfl, rfl⟩))
    (fun os started H enc _ => lifted os started H enc)

theorem proved : Rows.WordNansSaid :=
  over
#print axioms proved
end Go.Proofs.Ytgoajapgcmpflab.wordNans
