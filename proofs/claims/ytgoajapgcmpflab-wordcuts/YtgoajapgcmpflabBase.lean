/-
  THE CONTRACTS OF THE SMALL FUNCTIONS OF PACKAGE word AND OF THE DOCUMENT'S OWN FLOATS: what each call returns, as a plain function of its arguments; a call may draw from the tape (the bits of a NaN), and turns nothing else.
-/
import Derived.Test.YtgoajapgcmpflabProg
import Derived.Test.YtgoajapgcmpflabIeee
import Derived.WalkKit
import Derived.WalkLawsBesides
import Derived.Deep.Draws
import Derived.KernelRfl
import Derived.ProofKit
namespace Go.Proofs.Ytgoajapgcmpflab
open Go.RowKit

/-- A word as bits; bits as a word. -/
def U (a : Int) : Nat := (IntKind.u64.wrap a).toNat
def S (n : Nat) : Int := wrap64 (n : Int)
/-- The NaN's word. -/
def NAN : Int := 9221120237041090561
def toW (n : Nat) : Int := if isN n = true then NAN else S n
def fop (o : BinOp) (a b : Int) : Int :=
  match floatBits o .f64 (U a) (U b) with
  | some r => toW r
  | none => NAN

theorem frombits_run (x : Int) (w : World) : (callFunc 26 #[.int .u64 x]).run Try.prog w = .ok (.value (.float .f64 x.toNat)) w := by kernel_rfl
theorem bits_run (n : Nat) (w : World) : (callFunc 25 #[.float .f64 n]).run Try.prog w = .ok (.value (.int .u64 (n : Int))) w := by kernel_rfl

theorem nan_cut (x y t : Nat) : isN ((Question.nanBits .f64 x y).cut t) = true := by
  rw [isN_iff]
  apply decide_eq_true
  simp only [Question.cut, rung]
  have h : t % 2 = 0 ∨ t % 2 = 1 := by omega
  have hl : t / 2 % (2 ^ 52 - 1) < 4503599627370495 := Nat.mod_lt _ (by decide)
  rcases h with h | h <;> rw [h] <;> omega

/-- An operation that has no answer: a NaN off the tape. -/
theorem run_float_none {P : Program} (w : World) (op : BinOp) (t : TypeId) (x y : Nat) (h : floatBits op .f64 x y = none) (ho : op = .add ∨ op = .sub ∨ op = .mul ∨ op = .quo) :
    ∃ r, isN r = true ∧ (binOp op t (.float .f64 x) (.float .f64 y)).run P w = .ok (.float .f64 r) w.drew := by
  refine ⟨(Question.nanBits .f64 x y).cut (w.tape w.drawn (.nanBits .f64 x y)), nan_cut _ _ _, ?_⟩
  unfold floatBits at h
  rcases ho with rfl | rfl | rfl | rfl <;> simp only at h <;> simp [binOp, Op.floatArith, h, go_sem] <;> rfl

set_option maxHeartbeats 400000 in
theorem word_toFloat_any (a : Int) (w : World) :
    Calls Try.prog 21 #[.int .i64 a] w fun e w' => e = .returned (.float .f64 (U a)) ∧ w' = w := by
  have hf := frombits_run
  go_enter Try.func21, Try.ntmps21
  go_wp2
  go_ret
  exact ⟨rfl, rfl⟩

set_option maxHeartbeats 400000 in
theorem isNaN_any (n : Nat) (w : World) :
    Calls Try.prog 22 #[.float .f64 n] w fun e w' => e = .returned (.bool (isN n)) ∧ w' = w := by
  go_enter Try.func22, Try.ntmps22
  go_wp2
  go_ret
  exact ⟨rfl, rfl⟩

set_option maxHeartbeats 400000 in
theorem word_toWord_any (n : Nat) (w : World) :
    Calls Try.prog 20 #[.float .f64 n] w fun e w' => e = .returned (.int .i64 (toW n)) ∧ w' = w := by
  have hf := bits_run
  unfold toW
  by_cases h : isN n = true
  · rw [if_pos h]
    go_enter Try.func20, Try.ntmps20
    go_wp2_with (go_at_call 22; refine (isNaN_any _ _).mono ?_; rintro e w' ⟨rfl, rfl⟩)
    go_ret
    exact ⟨rfl, rfl⟩
  · rw [if_neg h]
    have h' : isN n = false := by simpa using h
    go_enter Try.func20, Try.ntmps20
    go_wp2_with (go_at_call 22; refine (isNaN_any _ _).mono ?_; rintro e w' ⟨rfl, rfl⟩)
    go_ret
    exact ⟨rfl, rfl⟩




set_option maxHeartbeats 400000 in
theorem word_FAdd_any (a b : Int) (w : World) :
    Calls Try.prog 13 #[.int .i64 a, .int .i64 b] w fun e w' => e = .returned (.int .i64 (fop .add a b)) ∧ ∃ n, w' = w.drewN n := by
  unfold fop
  cases h : floatBits .add .f64 (U a) (U b) with
  | none =>
    obtain ⟨r, hr, hrun⟩ := run_float_none (P := Try.prog) w .add 36 (U a) (U b) h (by simp)
    go_enter Try.func13, Try.ntmps13
    go_wp2_with (first | (go_at_call 21; refine (word_toFloat_any _ _).mono ?_; rintro e w' ⟨rfl, rfl⟩) | (go_at_call 20; refine (word_toWord_any _ _).mono ?_; rintro e w' ⟨rfl, rfl⟩))
    go_ret
    exact ⟨by simp [toW, hr], 1, rfl⟩
  | some r =>
    have hrun := fun w => run_float_arith (P := Try.prog) w .add 36 .f64 (U a) (U b) r h
    go_enter Try.func13, Try.ntmps13
    go_wp2_with (first | (go_at_call 21; refine (word_toFloat_any _ _).mono ?_; rintro e w' ⟨rfl, rfl⟩) | (go_at_call 20; refine (word_toWord_any _ _).mono ?_; rintro e w' ⟨rfl, rfl⟩))
    go_ret
    exact ⟨rfl, 0, rfl⟩


set_option maxHeartbeats 400000 in
theorem word_FSub_any (a b : Int) (w : World) :
    Calls Try.prog 14 #[.int .i64 a, .int .i64 b] w fun e w' => e = .returned (.int .i64 (fop .sub a b)) ∧ ∃ n, w' = w.drewN n := by
  unfold fop
  cases h : floatBits .sub .f64 (U a) (U b) with
  | none =>
    obtain ⟨r, hr, hrun⟩ := run_float_none (P := Try.prog) w .sub 36 (U a) (U b) h (by simp)
    go_enter Try.func14, Try.ntmps14
    go_wp2_with (first | (go_at_call 21; refine (word_toFloat_any _ _).mono ?_; rintro e w' ⟨rfl, rfl⟩) | (go_at_call 20; refine (word_toWord_any _ _).mono ?_; rintro e w' ⟨rfl, rfl⟩))
    go_ret
    exact ⟨by simp [toW, hr], 1, rfl⟩
  | some r =>
    have hrun := fun w => run_float_arith (P := Try.prog) w .sub 36 .f64 (U a) (U b) r h
    go_enter Try.func14, Try.ntmps14
    go_wp2_with (first | (go_at_call 21; refine (word_toFloat_any _ _).mono ?_; rintro e w' ⟨rfl, rfl⟩) | (go_at_call 20; refine (word_toWord_any _ _).mono ?_; rintro e w' ⟨rfl, rfl⟩))
    go_ret
    exact ⟨rfl, 0, rfl⟩


set_option maxHeartbeats 400000 in
theorem word_FMul_any (a b : Int) (w : World) :
    Calls Try.prog 15 #[.int .i64 a, .int .i64 b] w fun e w' => e = .returned (.int .i64 (fop .mul a b)) ∧ ∃ n, w' = w.drewN n := by
  unfold fop
  cases h : floatBits .mul .f64 (U a) (U b) with
  | none =>
    obtain ⟨r, hr, hrun⟩ := run_float_none (P := Try.prog) w .mul 36 (U a) (U b) h (by simp)
    go_enter Try.func15, Try.ntmps15
    go_wp2_with (first | (go_at_call 21; refine (word_toFloat_any _ _).mono ?_; rintro e w' ⟨rfl, rfl⟩) | (go_at_call 20; refine (word_toWord_any _ _).mono ?_; rintro e w' ⟨rfl, rfl⟩))
    go_ret
    exact ⟨by simp [toW, hr], 1, rfl⟩
  | some r =>
    have hrun := fun w => run_float_arith (P := Try.prog) w .mul 36 .f64 (U a) (U b) r h
    go_enter Try.func15, Try.ntmps15
    go_wp2_with (first | (go_at_call 21; refine (word_toFloat_any _ _).mono ?_; rintro e w' ⟨rfl, rfl⟩) | (go_at_call 20; refine (word_toWord_any _ _).mono ?_; rintro e w' ⟨rfl, rfl⟩))
    go_ret
    exact ⟨rfl, 0, rfl⟩


set_option maxHeartbeats 400000 in
theorem word_FDiv_any (a b : Int) (w : World) :
    Calls Try.prog 16 #[.int .i64 a, .int .i64 b] w fun e w' => e = .returned (.int .i64 (fop .quo a b)) ∧ ∃ n, w' = w.drewN n := by
  unfold fop
  cases h : floatBits .quo .f64 (U a) (U b) with
  | none =>
    obtain ⟨r, hr, hrun⟩ := run_float_none (P := Try.prog) w .quo 36 (U a) (U b) h (by simp)
    go_enter Try.func16, Try.ntmps16
    go_wp2_with (first | (go_at_call 21; refine (word_toFloat_any _ _).mono ?_; rintro e w' ⟨rfl, rfl⟩) | (go_at_call 20; refine (word_toWord_any _ _).mono ?_; rintro e w' ⟨rfl, rfl⟩))
    go_ret
    exact ⟨by simp [toW, hr], 1, rfl⟩
  | some r =>
    have hrun := fun w => run_float_arith (P := Try.prog) w .quo 36 .f64 (U a) (U b) r h
    go_enter Try.func16, Try.ntmps16
    go_wp2_with (first | (go_at_call 21; refine (word_toFloat_any _ _).mono ?_; rintro e w' ⟨rfl, rfl⟩) | (go_at_call 20; refine (word_toWord_any _ _).mono ?_; rintro e w' ⟨rfl, rfl⟩))
    go_ret
    exact ⟨rfl, 0, rfl⟩


set_option maxHeartbeats 400000 in
theorem word_FromInt_any (a : Int) (w : World) :
    Calls Try.prog 11 #[.int .i64 a] w fun e w' => e = .returned (.int .i64 (toW (floatOfInt .f64 a))) ∧ w' = w := by
  go_enter Try.func11, Try.ntmps11
  go_wp2_with (go_at_call 20; refine (word_toWord_any _ _).mono ?_; rintro e w' ⟨rfl, rfl⟩)
  go_ret
  exact ⟨rfl, rfl⟩





theorem grown_drewN (w : World) (n : Nat) : Grown w (w.drewN n) := by
  induction n with
  | zero => exact Grown.refl _
  | succ k ih => exact Grown.drew ih

theorem known1 : fop .quo 4607182418800017408 (-9223372036854775808) = -4503599627370496 := by decide +kernel
theorem known2 : fop .add 9218868437227405312 (-4503599627370496) = 9221120237041090561 := by decide +kernel

set_option maxHeartbeats 400000 in
/-- The chapter's examples hold. -/
theorem known_any (w : World) :
    Calls Try.prog 9 #[] w fun e w' => e = .returned (.bool true) ∧ ∃ n, w' = w.drewN n := by
  have k1 := known1
  have k2 := known2
  go_enter Try.func9, Try.ntmps9
  go_wp2_with (first | (go_at_call 16; refine (word_FDiv_any _ _ _).mono ?_; rintro e w' ⟨rfl, n1, rfl⟩) | (go_at_call 13; refine (word_FAdd_any _ _ _).mono ?_; rintro e w' ⟨rfl, n2, rfl⟩))
  go_ret
  exact ⟨rfl, _, rfl⟩

end Go.Proofs.Ytgoajapgcmpflab
