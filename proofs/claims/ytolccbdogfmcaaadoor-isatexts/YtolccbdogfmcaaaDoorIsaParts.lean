/-
  PACKAGE isa AS IT LANDED: words' parts (put, get, mask), check, Encode, Decode, pointers.
-/
import Derived.Test.YtolccbdogfmcaaaDoorIsaOk
namespace Go.Proofs.YtolccbdogfmcaaaDoor
open Go.RowKit
set_option maxRecDepth 8000
set_option linter.unusedSimpArgs false
set_option linter.unusedVariables false

theorem mask3_any (w : World) : Calls Tryd.prog 28 #[.int .u64 3] w fun e w' => e = .returned (.int .u64 7) ∧ w' = w := by
  go_enter Tryd.func28, Tryd.ntmps28
  go_wp2
  go_ret
  exact ⟨rfl, rfl⟩
theorem mask8_any (w : World) : Calls Tryd.prog 28 #[.int .u64 8] w fun e w' => e = .returned (.int .u64 255) ∧ w' = w := by
  go_enter Tryd.func28, Tryd.ntmps28
  go_wp2
  go_ret
  exact ⟨rfl, rfl⟩
theorem mask16_any (w : World) : Calls Tryd.prog 28 #[.int .u64 16] w fun e w' => e = .returned (.int .u64 65535) ∧ w' = w := by
  go_enter Tryd.func28, Tryd.ntmps28
  go_wp2
  go_ret
  exact ⟨rfl, rfl⟩
theorem mask32_any (w : World) : Calls Tryd.prog 28 #[.int .u64 32] w fun e w' => e = .returned (.int .u64 4294967295) ∧ w' = w := by
  go_enter Tryd.func28, Tryd.ntmps28
  go_wp2
  go_ret
  exact ⟨rfl, rfl⟩
set_option maxHeartbeats 1000000 in
theorem put56_8 (n : Int) (h0 : 0 ≤ n) (h1 : n ≤ 22) (w : World) : Calls Tryd.prog 23 #[.int .i64 n, .int .u64 56, .int .u64 8] w fun e w' => e = .returned (.int .i64 (n * 72057594037927936)) ∧ Below w.heap.size w w' := by
  obtain ⟨u, hu⟩ : ∃ u, IntKind.u64.wrap n = u := ⟨_, rfl⟩
  obtain ⟨m, hm⟩ : ∃ m, u % 256 = m := ⟨_, rfl⟩
  have hA : bits .and .u64 u 255 = m := by rw [and_u64 8 (by decide) 256 255 (by decide) (by decide), hm]
  have hn : n % 256 = m := by rw [← hm, ← hu, IntKind.wrap_u64]; omega
  have hb : IntKind.u64.wrap (m * 72057594037927936) = m * 72057594037927936 := by rw [IntKind.wrap_u64]; omega
  have hc : IntKind.i64.wrap (m * 72057594037927936) = m * 72057594037927936 := by rw [IntKind.wrap_i64]; omega
  have hr : Aside ((n * 72057594037927936) = m * 72057594037927936) := by show _ = _; omega
  clear hm hn
  go_enter Tryd.func23, Tryd.ntmps23
  go_wp2_with (first | (go_at_call 28; refine (mask8_any _).mono ?_; rintro e w' ⟨rfl, rfl⟩) | fail)
  go_ret
  exact ⟨by rw [hr.out]; rfl, Below.refl _ _⟩
set_option maxHeartbeats 1000000 in
theorem put48_8 (n : Int) (w : World) : Calls Tryd.prog 23 #[.int .i64 n, .int .u64 48, .int .u64 8] w fun e w' => e = .returned (.int .i64 (n % 256 * 281474976710656)) ∧ Below w.heap.size w w' := by
  obtain ⟨u, hu⟩ : ∃ u, IntKind.u64.wrap n = u := ⟨_, rfl⟩
  obtain ⟨m, hm⟩ : ∃ m, u % 256 = m := ⟨_, rfl⟩
  have hA : bits .and .u64 u 255 = m := by rw [and_u64 8 (by decide) 256 255 (by decide) (by decide), hm]
  have hn : n % 256 = m := by rw [← hm, ← hu, IntKind.wrap_u64]; omega
  have hb : IntKind.u64.wrap (m * 281474976710656) = m * 281474976710656 := by rw [IntKind.wrap_u64]; omega
  have hc : IntKind.i64.wrap (m * 281474976710656) = m * 281474976710656 := by rw [IntKind.wrap_i64]; omega
  have hr : Aside ((n % 256 * 281474976710656) = m * 281474976710656) := by show _ = _; omega
  clear hm hn
  go_enter Tryd.func23, Tryd.ntmps23
  go_wp2_with (first | (go_at_call 28; refine (mask8_any _).mono ?_; rintro e w' ⟨rfl, rfl⟩) | fail)
  go_ret
  exact ⟨by rw [hr.out]; rfl, Below.refl _ _⟩
set_option maxHeartbeats 1000000 in
theorem put0_32 (n : Int) (w : World) : Calls Tryd.prog 23 #[.int .i64 n, .int .u64 0, .int .u64 32] w fun e w' => e = .returned (.int .i64 (n % 4294967296)) ∧ Below w.heap.size w w' := by
  obtain ⟨u, hu⟩ : ∃ u, IntKind.u64.wrap n = u := ⟨_, rfl⟩
  obtain ⟨m, hm⟩ : ∃ m, u % 4294967296 = m := ⟨_, rfl⟩
  have hA : bits .and .u64 u 4294967295 = m := by rw [and_u64 32 (by decide) 4294967296 4294967295 (by decide) (by decide), hm]
  have hn : n % 4294967296 = m := by rw [← hm, ← hu, IntKind.wrap_u64]; omega
  have hb : IntKind.u64.wrap (m) = m := by rw [IntKind.wrap_u64]; omega
  have hc : IntKind.i64.wrap (m) = m := by rw [IntKind.wrap_i64]; omega
  have hr : Aside ((n % 4294967296) = m) := by show _ = _; omega
  clear hm hn
  go_enter Tryd.func23, Tryd.ntmps23
  go_wp2_with (first | (go_at_call 28; refine (mask32_any _).mono ?_; rintro e w' ⟨rfl, rfl⟩) | fail)
  go_ret
  exact ⟨by rw [hr.out]; rfl, Below.refl _ _⟩
set_option maxHeartbeats 1000000 in
theorem put48_3 (n : Int) (w : World) : Calls Tryd.prog 23 #[.int .i64 n, .int .u64 48, .int .u64 3] w fun e w' => e = .returned (.int .i64 (n % 8 * 281474976710656)) ∧ Below w.heap.size w w' := by
  obtain ⟨u, hu⟩ : ∃ u, IntKind.u64.wrap n = u := ⟨_, rfl⟩
  obtain ⟨m, hm⟩ : ∃ m, u % 8 = m := ⟨_, rfl⟩
  have hA : bits .and .u64 u 7 = m := by rw [and_u64 3 (by decide) 8 7 (by decide) (by decide), hm]
  have hn : n % 8 = m := by rw [← hm, ← hu, IntKind.wrap_u64]; omega
  have hb : IntKind.u64.wrap (m * 281474976710656) = m * 281474976710656 := by rw [IntKind.wrap_u64]; omega
  have hc : IntKind.i64.wrap (m * 281474976710656) = m * 281474976710656 := by rw [IntKind.wrap_i64]; omega
  have hr : Aside ((n % 8 * 281474976710656) = m * 281474976710656) := by show _ = _; omega
  clear hm hn
  go_enter Tryd.func23, Tryd.ntmps23
  go_wp2_with (first | (go_at_call 28; refine (mask3_any _).mono ?_; rintro e w' ⟨rfl, rfl⟩) | fail)
  go_ret
  exact ⟨by rw [hr.out]; rfl, Below.refl _ _⟩
set_option maxHeartbeats 1000000 in
theorem put32_16 (n : Int) (w : World) : Calls Tryd.prog 23 #[.int .i64 n, .int .u64 32, .int .u64 16] w fun e w' => e = .returned (.int .i64 (n % 65536 * 4294967296)) ∧ Below w.heap.size w w' := by
  obtain ⟨u, hu⟩ : ∃ u, IntKind.u64.wrap n = u := ⟨_, rfl⟩
  obtain ⟨m, hm⟩ : ∃ m, u % 65536 = m := ⟨_, rfl⟩
  have hA : bits .and .u64 u 65535 = m := by rw [and_u64 16 (by decide) 65536 65535 (by decide) (by decide), hm]
  have hn : n % 65536 = m := by rw [← hm, ← hu, IntKind.wrap_u64]; omega
  have hb : IntKind.u64.wrap (m * 4294967296) = m * 4294967296 := by rw [IntKind.wrap_u64]; omega
  have hc : IntKind.i64.wrap (m * 4294967296) = m * 4294967296 := by rw [IntKind.wrap_i64]; omega
  have hr : Aside ((n % 65536 * 4294967296) = m * 4294967296) := by show _ = _; omega
  clear hm hn
  go_enter Tryd.func23, Tryd.ntmps23
  go_wp2_with (first | (go_at_call 28; refine (mask16_any _).mono ?_; rintro e w' ⟨rfl, rfl⟩) | fail)
  go_ret
  exact ⟨by rw [hr.out]; rfl, Below.refl _ _⟩
set_option maxRecDepth 8000 in
set_option maxHeartbeats 4000000 in
theorem icheck_any (i : Ins) (w : World) : Calls Tryd.prog 14 #[i.v] w fun e w' => e = .returned (.int .i64 (insE i)) ∧ Below w.heap.size w w' := by
  have hb0 := blkl_alloc w (ins3 i).toArray 23
  have hB0 := alloc_below w (.cells (ins3 i).toArray 23)
  replace hb0 : BlkL w.heap.size (ins3 i) (w.alloc (.cells (ins3 i).toArray 23)) := hb0
  have z0 := (hb0.1 0 _ rfl).1
  have z1 := (hb0.1 1 _ rfl).1
  have z2 := (hb0.1 2 _ rfl).1
  clear hb0
  by_cases h0 : 0 ≤ i.o
  rotate_left
  · have hE : insE i = 3 := by
      unfold insE
      rw [if_pos (by omega)]
    have b0 : i.o < 0 := by omega
    clear h0
    replace hE : Aside (insE i = 3) := hE
    go_enter Tryd.func14, Tryd.ntmps14
    go_upto_region 1 with fail
    generalize w.alloc (.cells #[.int .i64 i.o, .int .i64 i.p, .int .i64 i.n] 23) = W0 at *
    go_wp2_with fail
    go_ret
    exact ⟨by rw [hE.out]; rfl, hB0⟩
  have g0 : ¬ i.o < 0 := by omega
  by_cases h1 : i.o ≤ 22
  rotate_left
  · have hE : insE i = 3 := by
      unfold insE
      rw [if_pos (by omega)]
    have b1 : 23 ≤ i.o := by omega
    clear h1
    replace hE : Aside (insE i = 3) := hE
    go_enter Tryd.func14, Tryd.ntmps14
    go_upto_region 1 with fail
    generalize w.alloc (.cells #[.int .i64 i.o, .int .i64 i.p, .int .i64 i.n] 23) = W0 at *
    go_wp2_with fail
    go_ret
    exact ⟨by rw [hE.out]; rfl, hB0⟩
  have g1 : ¬ 23 ≤ i.o := by omega
  by_cases h2 : 0 ≤ i.p
  rotate_left
  · have hE : insE i = 1 := by
      unfold insE
      rw [if_neg (by omega), if_pos (by omega)]
    have b2 : i.p < 0 := by omega
    clear h2
    replace hE : Aside (insE i = 1) := hE
    go_enter Tryd.func14, Tryd.ntmps14
    go_upto_region 1 with fail
    generalize w.alloc (.cells #[.int .i64 i.o, .int .i64 i.p, .int .i64 i.n] 23) = W0 at *
    go_wp2_with fail
    go_ret
    exact ⟨by rw [hE.out]; rfl, hB0⟩
  have g2 : ¬ i.p < 0 := by omega
  by_cases h3 : i.p ≤ 3
  rotate_left
  · have hE : insE i = 1 := by
      unfold insE
      rw [if_neg (by omega), if_pos (by omega)]
    have b3 : 3 < i.p := by omega
    clear h3
    replace hE : Aside (insE i = 1) := hE
    go_enter Tryd.func14, Tryd.ntmps14
    go_upto_region 1 with fail
    generalize w.alloc (.cells #[.int .i64 i.o, .int .i64 i.p, .int .i64 i.n] 23) = W0 at *
    go_wp2_with fail
    go_ret
    exact ⟨by rw [hE.out]; rfl, hB0⟩
  have g3 : ¬ 3 < i.p := by omega
  by_cases h4 : -2147483648 ≤ i.n
  rotate_left
  · have hE : insE i = 1 := by
      unfold insE
      rw [if_neg (by omega), if_pos (by omega)]
    have b4 : i.n < -2147483648 := by omega
    clear h4
    replace hE : Aside (insE i = 1) := hE
    go_enter Tryd.func14, Tryd.ntmps14
    go_upto_region 1 with fail
    generalize w.alloc (.cells #[.int .i64 i.o, .int .i64 i.p, .int .i64 i.n] 23) = W0 at *
    go_wp2_with fail
    go_ret
    exact ⟨by rw [hE.out]; rfl, hB0⟩
  have g4 : ¬ i.n < -2147483648 := by omega
  by_cases h5 : i.n ≤ 2147483647
  rotate_left
  · have hE : insE i = 1 := by
      unfold insE
      rw [if_neg (by omega), if_pos (by omega)]
    have b5 : 2147483647 < i.n := by omega
    clear h5
    replace hE : Aside (insE i = 1) := hE
    go_enter Tryd.func14, Tryd.ntmps14
    go_upto_region 1 with fail
    generalize w.alloc (.cells #[.int .i64 i.o, .int .i64 i.p, .int .i64 i.n] 23) = W0 at *
    go_wp2_with fail
    go_ret
    exact ⟨by rw [hE.out]; rfl, hB0⟩
  have g5 : ¬ 2147483647 < i.n := by omega
  have hE : insE i = 0 := insE_zero.2 ⟨⟨h0, h1⟩, h2, h3, h4, h5⟩
  replace hE : Aside (insE i = 0) := hE
  go_enter Tryd.func14, Tryd.ntmps14
  go_upto_region 1 with fail
  generalize w.alloc (.cells #[.int .i64 i.o, .int .i64 i.p, .int .i64 i.n] 23) = W0 at *
  go_wp2_with fail
  go_ret
  exact ⟨by rw [hE.out]; rfl, hB0⟩
end Go.Proofs.YtolccbdogfmcaaaDoor
