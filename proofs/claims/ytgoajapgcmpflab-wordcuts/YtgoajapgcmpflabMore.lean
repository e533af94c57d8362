/-
  THE CONTRACTS OF FLess, Class, FMax AND ToInt, of the program and of the document's own floats: by the rung of a word, all bits but its sign.
-/
import Derived.Test.YtgoajapgcmpflabBase
namespace Go.Proofs.Ytgoajapgcmpflab
open Go.RowKit

theorem U_lt (a : Int) : U a < 18446744073709551616 := by unfold U; rw [IntKind.wrap_u64]; omega
theorem rung_lt (n : Nat) : rung n < 9223372036854775808 := by unfold rung; omega
theorem rung_rung (n : Nat) : rung (rung n) = rung n := by unfold rung; omega
theorem sgn_rung (n : Nat) : sgn (rung n) = false := by
  unfold sgn rung
  rw [Nat.div_eq_of_lt (Nat.mod_lt _ (by decide))]; rfl
theorem key_rung (n : Nat) : key (rung n) = (rung n : Int) := by
  unfold key; rw [sgn_rung, rung_rung]; rfl

/-- A word in range, by its bits. -/
theorem U_pos {a : Int} (h0 : 0 ≤ a) (h1 : a ≤ 9223372036854775807) : (U a : Int) = a ∧ sgn (U a) = false ∧ (rung (U a) : Int) = a := by
  have e : (U a : Int) = a := by unfold U; rw [IntKind.wrap_u64]; omega
  have r : (rung (U a) : Int) = a := by unfold rung; omega
  refine ⟨e, ?_, r⟩
  unfold sgn
  rw [Nat.div_eq_of_lt (by omega)]; rfl
theorem U_neg {a : Int} (h0 : a < 0) (h1 : -9223372036854775808 ≤ a) : (U a : Int) = a + 18446744073709551616 ∧ sgn (U a) = true ∧ (rung (U a) : Int) = a + 9223372036854775808 := by
  have e : (U a : Int) = a + 18446744073709551616 := by unfold U; rw [IntKind.wrap_u64]; omega
  have r : (rung (U a) : Int) = a + 9223372036854775808 := by unfold rung; omega
  refine ⟨e, ?_, r⟩
  unfold sgn
  have : U a / 9223372036854775808 = 1 := by omega
  rw [this]; rfl
theorem sgn_U {a : Int} (h0 : -9223372036854775808 ≤ a) (h1 : a ≤ 9223372036854775807) : sgn (U a) = decide (a < 0) := by
  by_cases h : a < 0
  · rw [(U_neg h h0).2.1, decide_eq_true h]
  · rw [(U_pos (by omega) h1).2.1, decide_eq_false h]
theorem S_U {a : Int} (h0 : -9223372036854775808 ≤ a) (h1 : a ≤ 9223372036854775807) : S (U a) = a := by
  unfold S U wrap64; rw [IntKind.wrap_u64]; omega
theorem U_inj {a b : Int} (a0 : -9223372036854775808 ≤ a) (a1 : a ≤ 9223372036854775807) (b0 : -9223372036854775808 ≤ b) (b1 : b ≤ 9223372036854775807) (h : U a = U b) : a = b := by
  rw [← S_U a0 a1, ← S_U b0 b1, h]
/-- A word from its sign and rung. -/
theorem word_split (n : Nat) (h : n < 18446744073709551616) : n = (if sgn n = true then 9223372036854775808 else 0) + rung n := by
  have hq : n / 9223372036854775808 = 0 ∨ n / 9223372036854775808 = 1 := by omega
  unfold sgn rung
  rcases hq with hq | hq <;> rw [hq] <;> simp <;> omega

theorem beq_cases (x y : Int) : x = y ∧ (x == y) = true ∨ x ≠ y ∧ (x == y) = false := by
  by_cases h : x = y
  · left; exact ⟨h, by rw [h]; exact beq_self_eq_true y⟩
  · right; exact ⟨h, beq_eq_false_iff_ne.mpr h⟩

theorem wf64 {a : Int} (h : (Lit.int .i64 a).wf = true) : -9223372036854775808 ≤ a ∧ a ≤ 9223372036854775807 := by
  simpa [Lit.wf, IntKind.min, IntKind.max, IntKind.bits, IntKind.signed] using h

theorem xor_top (x : Nat) (h : x < 9223372036854775808) : x ^^^ 9223372036854775808 = 9223372036854775808 + x := by
  apply Nat.eq_of_testBit_eq
  intro i
  rw [Nat.testBit_xor]
  have e : (9223372036854775808 : Nat) = 2 ^ 63 := rfl
  rw [e, Nat.testBit_two_pow]
  by_cases h1 : i = 63
  · subst h1
    rw [Nat.testBit_two_pow_add_eq]; simp
  · by_cases h2 : i < 63
    · rw [Nat.testBit_two_pow_add_gt h2, decide_eq_false (by omega), Bool.xor_false]
    · have l1 : x < 2 ^ i := Nat.lt_of_lt_of_le h (e ▸ Nat.pow_le_pow_right (by omega) (by omega))
      have l3 : 2 ^ 64 ≤ 2 ^ i := Nat.pow_le_pow_right (by omega) (by omega)
      have l2 : 2 ^ 63 + x < 2 ^ i := by omega
      rw [Nat.testBit_lt_two_pow l1, Nat.testBit_lt_two_pow l2, decide_eq_false (by omega), Bool.xor_false]
theorem xor_top' (x : Nat) (h : x < 18446744073709551616) : x ^^^ 9223372036854775808 = if x < 9223372036854775808 then 9223372036854775808 + x else x - 9223372036854775808 := by
  by_cases h1 : x < 9223372036854775808
  · rw [if_pos h1, xor_top x h1]
  · rw [if_neg h1]
    obtain ⟨y, rfl⟩ : ∃ y, x = 9223372036854775808 + y := ⟨x - 9223372036854775808, by omega⟩
    rw [← xor_top y (by omega), Nat.xor_assoc, Nat.xor_self, Nat.xor_zero, xor_top y (by omega)]; omega
theorem ofInt_U (a : Int) : (BitVec.ofInt 64 a).toNat = U a := by
  unfold U
  rw [BitVec.toNat_ofInt, IntKind.wrap_u64]
  rfl
theorem wrap64_i (z : Int) : IntKind.i64.wrap z = wrap64 z := by rw [IntKind.wrap_i64, wrap64]
theorem xor_sign {a : Int} (h0 : -9223372036854775808 ≤ a) (h1 : a ≤ 9223372036854775807) :
    bits .xor .i64 a (-9223372036854775808) = if a < 0 then a + 9223372036854775808 else a - 9223372036854775808 := by
  have e : bits .xor .i64 a (-9223372036854775808) = wrap64 (((BitVec.ofInt 64 a).toNat ^^^ (BitVec.ofInt 64 (-9223372036854775808)).toNat : Nat) : Int) := by
    have e0 : bits .xor .i64 a (-9223372036854775808) = IntKind.i64.wrap (((BitVec.ofInt 64 a).toNat ^^^ (BitVec.ofInt 64 (-9223372036854775808)).toNat : Nat) : Int) :=
      congrArg (fun n : Nat => IntKind.i64.wrap (n : Int)) (BitVec.toNat_xor (BitVec.ofInt 64 a) (BitVec.ofInt 64 (-9223372036854775808)))
    rw [e0, wrap64_i]
  rw [e, ofInt_U, show (BitVec.ofInt 64 (-9223372036854775808)).toNat = 9223372036854775808 from by decide +kernel, xor_top' _ (by unfold U; rw [IntKind.wrap_u64]; omega)]
  unfold wrap64 U
  rw [IntKind.wrap_u64]
  split <;> split <;> omega

/-- Less, the class, the greater one, by rungs. -/
def less (a b : Int) : Int :=
  if 9218868437227405312 < rung (U a) then 2 else if 9218868437227405312 < rung (U b) then 2 else if key (U a) < key (U b) then 1 else 0
def cls (a : Int) : Int :=
  if 9218868437227405312 < rung (U a) then 0 else if rung (U a) = 9218868437227405312 then 1 else if rung (U a) = 0 then 4 else if rung (U a) < 4503599627370496 then 3 else 2
def fmax (a b : Int) : Int :=
  if less a b = 2 then NAN else if less a b = 1 then b else if less b a = 1 then a else bits .and .i64 a b

theorem andNot_rung (n : Nat) (h : n < 18446744073709551616) : (bits .andNot .u64 (n : Int) 9223372036854775808).toNat = rung n := by
  have e := u64_andNot_nat n 9223372036854775808 h (by decide)
  have e2 : n &&& 9223372036854775807 = n % 9223372036854775808 := Nat.and_two_pow_sub_one_eq_mod n 63
  rw [show ((9223372036854775808 : Nat) : Int) = 9223372036854775808 from rfl] at e
  rw [e, Int.toNat_natCast]
  exact e2

/-- The sign turned: the rung stays. -/
theorem xor_parts {a : Int} (h0 : -9223372036854775808 ≤ a) (h1 : a ≤ 9223372036854775807) :
    -9223372036854775808 ≤ bits .xor .i64 a (-9223372036854775808) ∧ bits .xor .i64 a (-9223372036854775808) ≤ 9223372036854775807 ∧
    rung (U (bits .xor .i64 a (-9223372036854775808))) = rung (U a) ∧ sgn (U (bits .xor .i64 a (-9223372036854775808))) = !sgn (U a) := by
  rw [xor_sign h0 h1]
  by_cases h : a < 0
  · rw [if_pos h]
    have e1 := U_neg h h0
    have e2 := @U_pos (a + 9223372036854775808) (by omega) (by omega)
    refine ⟨by omega, by omega, by omega, ?_⟩
    rw [e1.2.1, e2.2.1]; rfl
  · rw [if_neg h]
    have e1 := @U_pos a (by omega) h1
    have e2 := @U_neg (a - 9223372036854775808) (by omega) (by omega)
    refine ⟨by omega, by omega, by omega, ?_⟩
    rw [e1.2.1, e2.2.1]; rfl
theorem cls_range (a : Int) : 0 ≤ cls a ∧ cls a ≤ 4 := by
  unfold cls
  repeat' split
  all_goals omega
theorem cls_xor {a : Int} (h0 : -9223372036854775808 ≤ a) (h1 : a ≤ 9223372036854775807) : cls (bits .xor .i64 a (-9223372036854775808)) = cls a := by
  unfold cls
  rw [(xor_parts h0 h1).2.2.1]
theorem cls_four {a : Int} : cls a = 4 ↔ rung (U a) = 0 := by
  unfold cls
  repeat' split
  all_goals omega
theorem cls_zero {a : Int} : cls a = 0 ↔ 9218868437227405312 < rung (U a) := by
  unfold cls
  repeat' split
  all_goals omega
theorem cls_one {a : Int} : cls a = 1 ↔ rung (U a) = 9218868437227405312 := by
  unfold cls
  repeat' split
  all_goals omega
theorem rung_zero {a : Int} (h0 : -9223372036854775808 ≤ a) (h1 : a ≤ 9223372036854775807) : rung (U a) = 0 ↔ a = 0 ∨ a = -9223372036854775808 := by
  by_cases h : a < 0
  · have := U_neg h h0; omega
  · have := @U_pos a (by omega) h1; omega

set_option maxHeartbeats 400000 in
theorem abs_any (n : Nat) (h : n < 18446744073709551616) (w : World) :
    Calls Try.prog 23 #[.float .f64 n] w fun e w' => e = .returned (.float .f64 (rung n)) ∧ w' = w := by
  have hf := bits_run
  have hf2 := frombits_run
  have hr := andNot_rung n h
  go_enter Try.func23, Try.ntmps23
  go_wp2
  go_ret
  exact ⟨rfl, rfl⟩

theorem isInf_test (n : Nat) : (FloatKind.f64.format.order (rung n) 9218868437227405311 == some .gt) = decide (rung n = 9218868437227405312) := by
  by_cases h : 9218868437227405312 < rung n
  · rw [order_nan_left _ (by rw [rung_rung]; exact h), decide_eq_false (by omega)]; rfl
  · rw [order_gt (by rw [rung_rung]; omega) (by decide), key_rung]
    have : key 9218868437227405311 = 9218868437227405311 := by decide +kernel
    rw [this, decide_eq_decide]; omega

set_option maxHeartbeats 400000 in
theorem isInf_any (n : Nat) (h : n < 18446744073709551616) (w : World) :
    Calls Try.prog 24 #[.float .f64 n, .int .i64 0] w fun e w' => e = .returned (.bool (decide (rung n = 9218868437227405312))) ∧ w' = w := by
  have ht := isInf_test n
  go_enter Try.func24, Try.ntmps24
  go_wp2_with (go_at_call 23; refine (abs_any _ h _).mono ?_; rintro e w' ⟨rfl, rfl⟩)
  go_ret
  exact ⟨rfl, rfl⟩

theorem class_zero {n : Nat} (h : ¬ 9218868437227405312 < rung n) : (FloatKind.f64.format.order (rung n) 0 == some .eq) = decide (rung n = 0) := by
  rw [order_eq (by rw [rung_rung]; omega) (by decide), key_rung]
  have : key 0 = 0 := by decide +kernel
  rw [this, decide_eq_decide]; omega
theorem class_small {n : Nat} (h : ¬ 9218868437227405312 < rung n) : (FloatKind.f64.format.order (rung n) 4503599627370496 == some .lt) = decide (rung n < 4503599627370496) := by
  rw [order_lt (by rw [rung_rung]; omega) (by decide), key_rung]
  have : key 4503599627370496 = 4503599627370496 := by decide +kernel
  rw [this, decide_eq_decide]; omega

set_option maxHeartbeats 400000 in
theorem class_walk (a : Int) (w : World) (t1 t2 t3 t4 : Bool) (v : Int)
    (h1 : isN (rung (U a)) = t1) (h2 : decide (rung (rung (U a)) = 9218868437227405312) = t2)
    (h3 : (FloatKind.f64.format.order (rung (U a)) 0 == some .eq) = t3) (h4 : (FloatKind.f64.format.order (rung (U a)) 4503599627370496 == some .lt) = t4)
    (hv : v = if t1 = true then 0 else if t2 = true then 1 else if t3 = true then 4 else if t4 = true then 3 else 2) :
    Calls Try.prog 17 #[.int .i64 a] w fun e w' => e = .returned (.int .i64 v) ∧ w' = w := by
  subst hv
  have hu := U_lt a
  have hr : rung (U a) < 18446744073709551616 := by have := rung_lt (U a); omega
  cases t1 <;> cases t2 <;> cases t3 <;> cases t4
  all_goals
    go_enter Try.func17, Try.ntmps17
    go_wp2_with (first | (go_at_call 21; refine (word_toFloat_any _ _).mono ?_; rintro e w' ⟨rfl, rfl⟩) | (go_at_call 23; refine (abs_any _ hu _).mono ?_; rintro e w' ⟨rfl, rfl⟩) | (go_at_call 22; refine (isNaN_any _ _).mono ?_; rintro e w' ⟨rfl, rfl⟩) | (go_at_call 24; refine (isInf_any _ hr _).mono ?_; rintro e w' ⟨rfl, rfl⟩))
    go_ret
    exact ⟨rfl, rfl⟩

theorem word_Class_any (a : Int) (w : World) :
    Calls Try.prog 17 #[.int .i64 a] w fun e w' => e = .returned (.int .i64 (cls a)) ∧ w' = w := by
  refine class_walk a w _ _ _ _ _ rfl rfl rfl rfl ?_
  unfold cls
  rw [isN_iff, rung_rung]
  by_cases h : 9218868437227405312 < rung (U a)
  · simp [h]
  · rw [class_zero h, class_small h]
    simp [h]

set_option maxHeartbeats 400000 in
theorem less_walk (a b : Int) (w : World) (t1 t2 t3 : Bool) (v : Int)
    (h1 : isN (U a) = t1) (h2 : isN (U b) = t2) (h3 : (FloatKind.f64.format.order (U a) (U b) == some .lt) = t3)
    (hv : v = if t1 = true then 2 else if t2 = true then 2 else if t3 = true then 1 else 0) :
    Calls Try.prog 19 #[.int .i64 a, .int .i64 b] w fun e w' => e = .returned (.int .i64 v) ∧ w' = w := by
  subst hv
  cases t1 <;> cases t2 <;> cases t3
  all_goals
    go_enter Try.func19, Try.ntmps19
    go_wp2_with (first | (go_at_call 21; refine (word_toFloat_any _ _).mono ?_; rintro e w' ⟨rfl, rfl⟩) | (go_at_call 22; refine (isNaN_any _ _).mono ?_; rintro e w' ⟨rfl, rfl⟩))
    go_ret
    exact ⟨rfl, rfl⟩

theorem less_eq (a b : Int) : less a b = if isN (U a) = true then 2 else if isN (U b) = true then 2 else if (FloatKind.f64.format.order (U a) (U b) == some .lt) = true then 1 else 0 := by
  unfold less
  rw [isN_iff, isN_iff]
  by_cases h1 : 9218868437227405312 < rung (U a)
  · simp [h1]
  · by_cases h2 : 9218868437227405312 < rung (U b)
    · simp [h1, h2]
    · rw [order_lt (by omega) (by omega)]
      simp [h1, h2]

theorem word_FLess_any (a b : Int) (w : World) :
    Calls Try.prog 19 #[.int .i64 a, .int .i64 b] w fun e w' => e = .returned (.int .i64 (less a b)) ∧ w' = w :=
  less_walk a b w _ _ _ _ rfl rfl rfl (less_eq a b)


set_option maxHeartbeats 400000 in
theorem word_FMax_any (a b : Int) (w : World) :
    Calls Try.prog 18 #[.int .i64 a, .int .i64 b] w fun e w' => e = .returned (.int .i64 (fmax a b)) ∧ w' = w := by
  unfold fmax
  by_cases h1 : less a b = 2
  · rw [if_pos h1]
    go_enter Try.func18, Try.ntmps18
    go_wp2_with (go_at_call 19; refine (word_FLess_any _ _ _).mono ?_; rintro e w' ⟨rfl, rfl⟩)
    go_ret
    exact ⟨rfl, rfl⟩
  · rw [if_neg h1]
    by_cases h2 : less a b = 1
    · rw [if_pos h2]
      clear h1
      go_enter Try.func18, Try.ntmps18
      go_wp2_with (go_at_call 19; refine (word_FLess_any _ _ _).mono ?_; rintro e w' ⟨rfl, rfl⟩)
      go_ret
      exact ⟨rfl, rfl⟩
    · rw [if_neg h2]
      by_cases h3 : less b a = 1
      · rw [if_pos h3]
        go_enter Try.func18, Try.ntmps18
        go_wp2_with (go_at_call 19; refine (word_FLess_any _ _ _).mono ?_; rintro e w' ⟨rfl, rfl⟩)
        go_ret
        exact ⟨rfl, rfl⟩
      · rw [if_neg h3]
        go_enter Try.func18, Try.ntmps18
        go_wp2_with (go_at_call 19; refine (word_FLess_any _ _ _).mono ?_; rintro e w' ⟨rfl, rfl⟩)
        go_ret
        exact ⟨rfl, rfl⟩

end Go.Proofs.Ytgoajapgcmpflab
