/-
  THE CONTRACT OF THE DOCUMENT'S OWN ToInt: it answers what the program's does; and what FromInt makes of an answer of ToInt.
-/
import Derived.Test.YtgoajapgcmpflaaToInt
import Derived.Test.YtgoajapgcmpflaaRef
namespace Go.Proofs.Ytgoajapgcmpflaa
open Go.RowKit

set_option maxHeartbeats 1000000 in
theorem rint_small (a E M : Int) (w : World) (hE : bits .and .u64 (IntKind.u64.wrap a / 4503599627370496) 2047 = E) (hM : bits .and .u64 (IntKind.u64.wrap a) 4503599627370495 = M)
    (e0 : 0 ≤ E) (e1 : E < 1023) :
    Calls Try.prog 28 #[.int .i64 a] w fun e w' => e = .returned (.tuple #[.int .i64 0, .int .i64 0]) ∧ w' = w := by
  go_enter Try.func28, Try.ntmps28
  go_wp2
  go_ret2
  exact ⟨rfl, rfl⟩

set_option maxHeartbeats 1000000 in
theorem rint_great (a E M O : Int) (w : World) (hE : bits .and .u64 (IntKind.u64.wrap a / 4503599627370496) 2047 = E) (hM : bits .and .u64 (IntKind.u64.wrap a) 4503599627370495 = M)
    (hO : bits .or .u64 M 4503599627370496 = O) (e1 : E < 2048) (e2 : 1086 < E) :
    Calls Try.prog 28 #[.int .i64 a] w fun e w' => e = .returned (.tuple #[.int .i64 0, .int .i64 1]) ∧ w' = w := by
  go_enter Try.func28, Try.ntmps28
  go_wp2
  go_ret2
  exact ⟨rfl, rfl⟩

set_option maxHeartbeats 1000000 in
theorem rint_edge (a E M O : Int) (w : World) (hE : bits .and .u64 (IntKind.u64.wrap a / 4503599627370496) 2047 = E) (hM : bits .and .u64 (IntKind.u64.wrap a) 4503599627370495 = M)
    (hO : bits .or .u64 M 4503599627370496 = O) (e1 : E ≤ 1086) (e2 : 1086 ≤ E) (h : 0 ≤ a ∨ O ≠ 4503599627370496) :
    Calls Try.prog 28 #[.int .i64 a] w fun e w' => e = .returned (.tuple #[.int .i64 0, .int .i64 1]) ∧ w' = w := by
  by_cases ha : 0 ≤ a
  · clear h
    go_enter Try.func28, Try.ntmps28
    go_wp2
    go_ret2
    exact ⟨rfl, rfl⟩
  · have ho : (O != 4503599627370496) = true := by
      rcases h with h | h
      · exact absurd h ha
      · rw [bne_iff_ne]; exact h
    clear h
    go_enter Try.func28, Try.ntmps28
    go_wp2
    go_ret2
    exact ⟨rfl, rfl⟩

set_option maxHeartbeats 1000000 in
theorem rint_up (a E M O V : Int) (w : World) (hE : bits .and .u64 (IntKind.u64.wrap a / 4503599627370496) 2047 = E) (hM : bits .and .u64 (IntKind.u64.wrap a) 4503599627370495 = M)
    (hO : bits .or .u64 M 4503599627370496 = O) (e1 : E ≤ 1085) (e2 : 1075 ≤ E) (hV : IntKind.u64.wrap (O * 2 ^ (E - 1075).toNat) = V) (v0 : 0 ≤ V) (v1 : V ≤ 9223372036854775807) (R : Int)
    (hR : R = if a < 0 then -V else V) :
    Calls Try.prog 28 #[.int .i64 a] w fun e w' => e = .returned (.tuple #[.int .i64 R, .int .i64 0]) ∧ w' = w := by
  have f1 : wrap64 (IntKind.u64.wrap (-V)) = -V := by rw [IntKind.wrap_u64]; unfold wrap64; omega
  have f2 : wrap64 V = V := by unfold wrap64; omega
  by_cases ha : a < 0
  · rw [if_pos ha] at hR
    subst hR
    go_enter Try.func28, Try.ntmps28
    go_wp2
    go_ret2
    exact ⟨congrArg (fun x : Int => Ending.returned (.tuple #[.int .i64 x, .int .i64 0])) f1, rfl⟩
  · rw [if_neg ha] at hR
    subst hR
    go_enter Try.func28, Try.ntmps28
    go_wp2
    go_ret2
    exact ⟨rfl, rfl⟩

set_option maxHeartbeats 1000000 in
theorem rint_least (a E M O V : Int) (w : World) (hE : bits .and .u64 (IntKind.u64.wrap a / 4503599627370496) 2047 = E) (hM : bits .and .u64 (IntKind.u64.wrap a) 4503599627370495 = M)
    (hO : bits .or .u64 M 4503599627370496 = O) (e1 : E ≤ 1086) (e2 : 1086 ≤ E) (o1 : (O != 4503599627370496) = false) (ha : a < 0) (hV : IntKind.u64.wrap (O * 2048) = V) (v0 : V = 9223372036854775808) :
    Calls Try.prog 28 #[.int .i64 a] w fun e w' => e = .returned (.tuple #[.int .i64 (-9223372036854775808), .int .i64 0]) ∧ w' = w := by
  have f1 : wrap64 (IntKind.u64.wrap (-V)) = -9223372036854775808 := by rw [IntKind.wrap_u64]; unfold wrap64; omega
  clear v0
  go_enter Try.func28, Try.ntmps28
  go_wp2
  go_ret2
  exact ⟨congrArg (fun x : Int => Ending.returned (.tuple #[.int .i64 x, .int .i64 0])) f1, rfl⟩

set_option maxHeartbeats 1000000 in
theorem rint_down (a E M O V : Int) (w : World) (hE : bits .and .u64 (IntKind.u64.wrap a / 4503599627370496) 2047 = E) (hM : bits .and .u64 (IntKind.u64.wrap a) 4503599627370495 = M)
    (hO : bits .or .u64 M 4503599627370496 = O) (e1 : E < 1075) (e2 : 1023 ≤ E) (hV : O / 2 ^ (-(E - 1075)).toNat = V) (v0 : 0 ≤ V) (v1 : V ≤ 9223372036854775807) (R : Int)
    (hR : R = if a < 0 then -V else V) :
    Calls Try.prog 28 #[.int .i64 a] w fun e w' => e = .returned (.tuple #[.int .i64 R, .int .i64 0]) ∧ w' = w := by
  have f1 : wrap64 (IntKind.u64.wrap (-V)) = -V := by rw [IntKind.wrap_u64]; unfold wrap64; omega
  have f2 : wrap64 V = V := by unfold wrap64; omega
  by_cases ha : a < 0
  · rw [if_pos ha] at hR
    subst hR
    go_enter Try.func28, Try.ntmps28
    go_wp2
    go_ret2
    exact ⟨congrArg (fun x : Int => Ending.returned (.tuple #[.int .i64 x, .int .i64 0])) f1, rfl⟩
  · rw [if_neg ha] at hR
    subst hR
    go_enter Try.func28, Try.ntmps28
    go_wp2
    go_ret2
    exact ⟨rfl, rfl⟩

/-- The digits of a normal word, as the document's own text takes them. -/
theorem or_bits {M : Nat} (h : M < 4503599627370496) : bits .or .u64 (M : Int) 4503599627370496 = ((4503599627370496 + M : Nat) : Int) := by
  rw [show (4503599627370496 : Int) = ((4503599627370496 : Nat) : Int) from rfl, u64_or_nat _ _ (by omega) (by decide), Nat.or_comm, nat_join 52 _ _ (by decide) h]

theorem parts_of (a : Int) : rung (U a) = ex a * 4503599627370496 + fr a ∧ ex a < 2048 ∧ fr a < 4503599627370496 := by
  have := rung_lt (U a)
  unfold ex fr
  omega

/-- A normal float, cut off: by its fields. -/
theorem val_fields {a : Int} (h : 1 ≤ ex a) : val (rung (U a)) / Q = (4503599627370496 + fr a) * 2 ^ (ex a - 1 - 1074) / 2 ^ (1074 - (ex a - 1)) := by
  rw [div_Q]
  have e := parts_of a
  unfold val
  rw [if_neg (by omega)]
  rfl

theorem val_small {r : Nat} (h : r < 4607182418800017408) : val r / Q = 0 := by
  apply Nat.div_eq_of_lt
  have e : val 4607182418800017408 = Q := by decide +kernel
  rw [← e]
  exact val_mono_lt h

theorem key_bits {a : Int} (a0 : -9223372036854775808 ≤ a) (a1 : a ≤ 9223372036854775807) : key (U a) = if a < 0 then -(rung (U a) : Int) else (rung (U a) : Int) := by
  unfold key sg
  rw [sgn_U a0 a1]
  simp only [decide_eq_true_eq]

theorem tr_bits {a : Int} (a0 : -9223372036854775808 ≤ a) (a1 : a ≤ 9223372036854775807) : tr (U a) = if a < 0 then -((val (rung (U a)) / Q : Nat) : Int) else ((val (rung (U a)) / Q : Nat) : Int) := by
  unfold tr sg
  rw [sgn_U a0 a1]
  simp only [decide_eq_true_eq]

theorem donjonref1_ToInt_any {a : Int} (a0 : -9223372036854775808 ≤ a) (a1 : a ≤ 9223372036854775807) (w : World) :
    Calls Try.prog 28 #[.int .i64 a] w fun e w' => e = .returned (.tuple #[.int .i64 (toV a), .int .i64 (toE a)]) ∧ w' = w := by
  have hE := ex_bits a
  have hM := fr_bits a
  obtain ⟨p1, p2, p3⟩ := parts_of a
  have hO := or_bits p3
  have hk := key_bits a0 a1
  have ht := tr_bits a0 a1
  unfold toV toE
  by_cases h1 : ex a < 1023
  · have ok : okI a := by unfold okI; rw [hk]; split <;> omega
    have e0 : tr (U a) = 0 := by rw [ht, val_small (by omega)]; split <;> rfl
    rw [if_pos ((okB_iff a).mpr ok), if_pos ((okB_iff a).mpr ok), e0]
    exact rint_small a _ _ w hE hM (by omega) (by omega)
  · have vf := val_fields (a := a) (by omega)
    by_cases h2 : 1086 < ex a
    · have no : ¬ okI a := by unfold okI; rw [hk]; split <;> omega
      have nb : ¬ okB a = true := fun k => no ((okB_iff a).mp k)
      rw [if_neg nb, if_neg nb]
      exact rint_great a _ _ _ w hE hM hO (by omega) (by omega)
    · by_cases h3 : ex a = 1086
      · by_cases h4 : 0 ≤ a ∨ fr a ≠ 0
        · have no : ¬ okI a := by unfold okI; rw [hk]; split <;> omega
          have nb : ¬ okB a = true := fun k => no ((okB_iff a).mp k)
          rw [if_neg nb, if_neg nb]
          exact rint_edge a _ _ _ w hE hM hO (by omega) (by omega) (by omega)
        · have ok : okI a := by unfold okI; rw [hk]; split <;> omega
          have f0 : fr a = 0 := by omega
          have e0 : tr (U a) = -9223372036854775808 := by
            rw [ht, if_pos (by omega), vf, h3, f0]
            rfl
          rw [if_pos ((okB_iff a).mpr ok), if_pos ((okB_iff a).mpr ok), e0]
          refine rint_least a _ _ _ _ w hE hM hO (by omega) (by omega) ?_ (by omega) rfl ?_
          · rw [f0]; rfl
          · rw [f0]; rfl
      · have ok : okI a := by unfold okI; rw [hk]; split <;> omega
        have tb := (tr_bounds (okI_parts ok).1).2 (by omega)
        rw [if_pos ((okB_iff a).mpr ok), if_pos ((okB_iff a).mpr ok)]
        by_cases h4 : 1075 ≤ ex a
        · have e1 : val (rung (U a)) / Q = (4503599627370496 + fr a) * 2 ^ (ex a - 1075) := by
            rw [vf, show 1074 - (ex a - 1) = 0 from by omega, Nat.pow_zero, Nat.div_one, show ex a - 1 - 1074 = ex a - 1075 from by omega]
          generalize val (rung (U a)) / Q = v at *
          refine rint_up a _ _ _ (v : Int) w hE hM hO (by omega) (by omega) ?_ (by omega) (by omega) _ ht
          rw [show (((ex a : Nat) : Int) - 1075).toNat = ex a - 1075 from by omega, IntKind.wrap_u64]
          have e2 : ((4503599627370496 + fr a : Nat) : Int) * 2 ^ (ex a - 1075) = (v : Int) := by rw [e1, Int.natCast_mul, Int.natCast_pow]; rfl
          rw [e2]; omega
        · have e1 : val (rung (U a)) / Q = (4503599627370496 + fr a) / 2 ^ (1075 - ex a) := by
            rw [vf, show ex a - 1 - 1074 = 0 from by omega, Nat.pow_zero, Nat.mul_one, show 1074 - (ex a - 1) = 1075 - ex a from by omega]
          generalize val (rung (U a)) / Q = v at *
          refine rint_down a _ _ _ (v : Int) w hE hM hO (by omega) (by omega) ?_ (by omega) (by omega) _ ht
          rw [show (-(((ex a : Nat) : Int) - 1075)).toNat = 1075 - ex a from by omega, e1, Int.natCast_ediv, Int.natCast_pow]; rfl

end Go.Proofs.Ytgoajapgcmpflaa
