/-
  THE DOCUMENT'S OWN INSTRUCTIONS (donjonref15): Encode, Decode, pointers, texts. Written by mk_isaref.py.
-/
import Derived.Test.YtolccbdogfmcaaaIsaBits
import Derived.Test.YtolccbdogfmcaaaWhole
import Derived.Test.YtolccbdogfmcaaaHeld
import Derived.Deep.RegionHeld
import Derived.Deep.CutBlock
namespace Go.Proofs.Ytolccbdogfmcaaa
open Go.RowKit
set_option maxRecDepth 8000
set_option linter.unusedSimpArgs false
set_option linter.unusedVariables false

set_option maxRecDepth 8000 in
set_option maxHeartbeats 4000000 in
theorem riEnc_any (i : Ins) (w : World) : Calls Try.prog 8 #[i.v] w fun e w' => e = .returned (.tuple #[.int .i64 (insW i), .int .i64 (insE i)]) ∧ Below w.heap.size w w' := by
  have hb0 := blkl_alloc w (ins3 i).toArray 23
  have hB0 := alloc_below w (.cells (ins3 i).toArray 23)
  replace hb0 : BlkL w.heap.size (ins3 i) (w.alloc (.cells (ins3 i).toArray 23)) := hb0
  have z0 := (hb0.1 0 _ rfl).1
  have z1 := (hb0.1 1 _ rfl).1
  have z2 := (hb0.1 2 _ rfl).1
  clear hb0
  by_cases h0 : 0 ≤ i.o
  rotate_left
  · have hE : insE i = 3 := by
      unfold insE
      rw [if_pos (by omega)]
    have hW : insW i = 0 := by
      unfold insW
      rw [if_neg (by rw [hE]; decide)]
    have b0 : i.o < 0 := by omega
    clear h0
    replace hE : Aside (insE i = 3) := hE
    replace hW : Aside (insW i = 0) := hW
    go_enter Try.func8, Try.ntmps8
    go_upto_region 1 with fail
    generalize w.alloc (.cells #[.int .i64 i.o, .int .i64 i.p, .int .i64 i.n] 23) = W0 at *
    go_wp2_with fail
    refine bodyPost_ret (v := .tuple #[.int .i64 0, .int .i64 3]) (by simp [results, Try.results8, go_sem]) rfl ?_
    exact ⟨by rw [hW.out, hE.out], hB0⟩
  have g0 : ¬ i.o < 0 := by omega
  by_cases h1 : i.o ≤ 22
  rotate_left
  · have hE : insE i = 3 := by
      unfold insE
      rw [if_pos (by omega)]
    have hW : insW i = 0 := by
      unfold insW
      rw [if_neg (by rw [hE]; decide)]
    have b1 : 22 < i.o := by omega
    clear h1
    replace hE : Aside (insE i = 3) := hE
    replace hW : Aside (insW i = 0) := hW
    go_enter Try.func8, Try.ntmps8
    go_upto_region 1 with fail
    generalize w.alloc (.cells #[.int .i64 i.o, .int .i64 i.p, .int .i64 i.n] 23) = W0 at *
    go_wp2_with fail
    refine bodyPost_ret (v := .tuple #[.int .i64 0, .int .i64 3]) (by simp [results, Try.results8, go_sem]) rfl ?_
    exact ⟨by rw [hW.out, hE.out], hB0⟩
  have g1 : ¬ 22 < i.o := by omega
  by_cases h2 : 0 ≤ i.p
  rotate_left
  · have hE : insE i = 1 := by
      unfold insE
      rw [if_neg (by omega), if_pos (by omega)]
    have hW : insW i = 0 := by
      unfold insW
      rw [if_neg (by rw [hE]; decide)]
    have b2 : i.p < 0 := by omega
    clear h2
    replace hE : Aside (insE i = 1) := hE
    replace hW : Aside (insW i = 0) := hW
    go_enter Try.func8, Try.ntmps8
    go_upto_region 1 with fail
    generalize w.alloc (.cells #[.int .i64 i.o, .int .i64 i.p, .int .i64 i.n] 23) = W0 at *
    go_wp2_with fail
    refine bodyPost_ret (v := .tuple #[.int .i64 0, .int .i64 1]) (by simp [results, Try.results8, go_sem]) rfl ?_
    exact ⟨by rw [hW.out, hE.out], hB0⟩
  have g2 : ¬ i.p < 0 := by omega
  by_cases h3 : i.p ≤ 3
  rotate_left
  · have hE : insE i = 1 := by
      unfold insE
      rw [if_neg (by omega), if_pos (by omega)]
    have hW : insW i = 0 := by
      unfold insW
      rw [if_neg (by rw [hE]; decide)]
    have b3 : 3 < i.p := by omega
    clear h3
    replace hE : Aside (insE i = 1) := hE
    replace hW : Aside (insW i = 0) := hW
    go_enter Try.func8, Try.ntmps8
    go_upto_region 1 with fail
    generalize w.alloc (.cells #[.int .i64 i.o, .int .i64 i.p, .int .i64 i.n] 23) = W0 at *
    go_wp2_with fail
    refine bodyPost_ret (v := .tuple #[.int .i64 0, .int .i64 1]) (by simp [results, Try.results8, go_sem]) rfl ?_
    exact ⟨by rw [hW.out, hE.out], hB0⟩
  have g3 : ¬ 3 < i.p := by omega
  by_cases h4 : -2147483648 ≤ i.n
  rotate_left
  · have hE : insE i = 1 := by
      unfold insE
      rw [if_neg (by omega), if_pos (by omega)]
    have hW : insW i = 0 := by
      unfold insW
      rw [if_neg (by rw [hE]; decide)]
    have b4 : i.n < -2147483648 := by omega
    clear h4
    replace hE : Aside (insE i = 1) := hE
    replace hW : Aside (insW i = 0) := hW
    go_enter Try.func8, Try.ntmps8
    go_upto_region 1 with fail
    generalize w.alloc (.cells #[.int .i64 i.o, .int .i64 i.p, .int .i64 i.n] 23) = W0 at *
    go_wp2_with fail
    refine bodyPost_ret (v := .tuple #[.int .i64 0, .int .i64 1]) (by simp [results, Try.results8, go_sem]) rfl ?_
    exact ⟨by rw [hW.out, hE.out], hB0⟩
  have g4 : ¬ i.n < -2147483648 := by omega
  by_cases h5 : i.n ≤ 2147483647
  rotate_left
  · have hE : insE i = 1 := by
      unfold insE
      rw [if_neg (by omega), if_pos (by omega)]
    have hW : insW i = 0 := by
      unfold insW
      rw [if_neg (by rw [hE]; decide)]
    have b5 : 2147483647 < i.n := by omega
    clear h5
    replace hE : Aside (insE i = 1) := hE
    replace hW : Aside (insW i = 0) := hW
    go_enter Try.func8, Try.ntmps8
    go_upto_region 1 with fail
    generalize w.alloc (.cells #[.int .i64 i.o, .int .i64 i.p, .int .i64 i.n] 23) = W0 at *
    go_wp2_with fail
    refine bodyPost_ret (v := .tuple #[.int .i64 0, .int .i64 1]) (by simp [results, Try.results8, go_sem]) rfl ?_
    exact ⟨by rw [hW.out, hE.out], hB0⟩
  have g5 : ¬ 2147483647 < i.n := by omega
  have hE : insE i = 0 := insE_zero.2 ⟨⟨h0, h1⟩, h2, h3, h4, h5⟩
  have hW : insW i = bits .or .i64 (bits .or .i64 (i.o * 72057594037927936) (i.p * 281474976710656)) (i.n % 4294967296) := by rw [insW_eq hE, or_ins h0 h1 h2 h3]
  replace hE : Aside (insE i = 0) := hE
  replace hW : Aside (insW i = bits .or .i64 (bits .or .i64 (i.o * 72057594037927936) (i.p * 281474976710656)) (i.n % 4294967296)) := hW
  go_enter Try.func8, Try.ntmps8
  go_upto_region 1 with fail
  generalize w.alloc (.cells #[.int .i64 i.o, .int .i64 i.p, .int .i64 i.n] 23) = W0 at *
  go_wp2_with fail
  refine bodyPost_ret (v := .tuple #[.int .i64 (bits .or .i64 (bits .or .i64 (i.o * 72057594037927936) (i.p * 281474976710656)) (i.n % 4294967296)), .int .i64 0]) (by simp [results, Try.results8, go_sem]) rfl ?_
  exact ⟨by rw [hW.out, hE.out], hB0⟩
set_option maxRecDepth 8000 in
set_option maxHeartbeats 4000000 in
theorem riDec_any (x : Int) (hx : -9223372036854775808 ≤ x ∧ x ≤ 9223372036854775807) (w : World) : Calls Try.prog 11 #[.int .i64 x] w fun e w' => e = .returned (.tuple #[(decI x).v, .int .i64 (decE x)]) ∧ Below w.heap.size w w' := by
  have hund := Try.underlying23
  have hsz : (Try.prog.info? 23).map (·.size) = some 3 := by kernel_rfl
  obtain ⟨u, hu⟩ : ∃ u, u64 x = u := ⟨_, rfl⟩
  have hu' : IntKind.u64.wrap x = u := by rw [IntKind.wrap_u64, ← hu]; rfl
  have u0 : 0 ≤ u ∧ u < 18446744073709551616 := by rw [← hu]; unfold u64; omega
  obtain ⟨op, hop⟩ : ∃ op, u / 72057594037927936 = op := ⟨_, rfl⟩
  obtain ⟨pp, hpp⟩ : ∃ pp, u / 281474976710656 % 256 = pp := ⟨_, rfl⟩
  obtain ⟨mid, hmid⟩ : ∃ mid, u / 4294967296 % 65536 = mid := ⟨_, rfl⟩
  obtain ⟨low, hlow⟩ : ∃ low, u % 4294967296 = low := ⟨_, rfl⟩
  obtain ⟨nn, hnn⟩ : ∃ nn, wN x = nn := ⟨_, rfl⟩
  have hA0 : IntKind.i64.wrap op = op := by rw [IntKind.wrap_i64]; omega
  have hA1 : bits .and .u64 (u / 281474976710656) 255 = pp := by rw [and_u64 8 (by decide) 256 255 (by decide) (by decide), hpp]
  have hA2 : IntKind.i64.wrap pp = pp := by rw [IntKind.wrap_i64]; omega
  have hA3 : bits .and .u64 (u / 4294967296) 65535 = mid := by rw [and_u64 16 (by decide) 65536 65535 (by decide) (by decide), hmid]
  have hA4 : IntKind.u32.wrap x = low := by rw [IntKind.wrap_u32, ← hlow, ← hu]; unfold u64; omega
  have hA5 : IntKind.i32.wrap low = nn := by
    rw [IntKind.wrap_i32, ← hnn]
    unfold wN wLow
    rw [hu, hlow]
    split <;> omega
  have hA6 : IntKind.i64.wrap nn = nn := by
    have : -2147483648 ≤ nn ∧ nn < 2147483648 := by
      rw [← hnn]
      unfold wN wLow
      rw [hu]
      split <;> omega
    rw [IntKind.wrap_i64]
    omega
  have d1 : wOp x = op := by unfold wOp; rw [hu, hop]
  have d2 : wP x = pp := by unfold wP; rw [hu, hpp]
  have d3 : wMid x = mid := by unfold wMid; rw [hu, hmid]
  have hDE : Aside (decE x = if 22 < op then 3 else if 3 < pp then 1 else if mid ≠ 0 then 11 else 0) := by show decE x = _; unfold decE; rw [d1, d2, d3]
  have hDI : Aside (decI x = if decE x = 0 then ⟨op, pp, nn⟩ else ⟨0, 0, 0⟩) := by show decI x = _; unfold decI; rw [d1, d2, hnn]
  have hb0 := blkl_alloc w (ins3 ⟨0, 0, 0⟩).toArray 23
  have hB0 := alloc_below w (.cells (ins3 ⟨0, 0, 0⟩).toArray 23)
  clear d1 d2 d3 hu hnn hlow hmid hpp u0
  go_enter Try.func11, Try.ntmps11
  go_upto_region 2 with fail
  by_cases h1 : 22 < op
  · have hE : decE x = 3 := by rw [hDE.out, if_pos h1]
    have hI : Aside (decI x = ⟨0, 0, 0⟩) := by show decI x = _; rw [hDI.out, hE]; rfl
    replace hE : Aside (decE x = 3) := hE
    go_wp2_with fail
    refine bodyPost_ret (v := .tuple #[.agg #[.int .i64 0, .int .i64 0, .int .i64 0], .int .i64 3]) (by simp [results, Try.results11, go_sem]) rfl ?_
    exact ⟨by rw [hI.out, hE.out], alloc_below _ _⟩
  by_cases h2 : 3 < pp
  · have hE : decE x = 1 := by rw [hDE.out, if_neg h1, if_pos h2]
    have hI : Aside (decI x = ⟨0, 0, 0⟩) := by show decI x = _; rw [hDI.out, hE]; rfl
    replace hE : Aside (decE x = 1) := hE
    go_wp2_with fail
    refine bodyPost_ret (v := .tuple #[.agg #[.int .i64 0, .int .i64 0, .int .i64 0], .int .i64 1]) (by simp [results, Try.results11, go_sem]) rfl ?_
    exact ⟨by rw [hI.out, hE.out], alloc_below _ _⟩
  by_cases h3 : mid = 0
  rotate_left
  · have hE : decE x = 11 := by rw [hDE.out, if_neg h1, if_neg h2, if_pos h3]
    have hI : Aside (decI x = ⟨0, 0, 0⟩) := by show decI x = _; rw [hDI.out, hE]; rfl
    replace hE : Aside (decE x = 11) := hE
    replace h3 : (mid != 0) = true := by simpa using h3
    go_wp2_with fail
    refine bodyPost_ret (v := .tuple #[.agg #[.int .i64 0, .int .i64 0, .int .i64 0], .int .i64 11]) (by simp [results, Try.results11, go_sem]) rfl ?_
    exact ⟨by rw [hI.out, hE.out], alloc_below _ _⟩
  · subst h3
    have hE : decE x = 0 := by rw [hDE.out, if_neg h1, if_neg h2, if_neg (by simp)]
    have hI : Aside (decI x = ⟨op, pp, nn⟩) := by show decI x = _; rw [hDI.out, hE]; rfl
    replace hE : Aside (decE x = 0) := hE
    go_wp2_with fail
    refine bodyPost_ret (v := .tuple #[.agg #[.int .i64 op, .int .i64 pp, .int .i64 nn], .int .i64 0]) (by simp [results, Try.results11, go_sem]) rfl ?_
    exact ⟨by rw [hI.out, hE.out], alloc_below _ _⟩
set_option maxHeartbeats 2000000 in
theorem riEncP_any (p : Ptr) (w : World) : Calls Try.prog 13 #[p.v] w fun e w' => e = .returned (.int .i64 (ptrW p)) ∧ Below w.heap.size w w' := by
  have hb0 := blkl_alloc w (ptr3 p).toArray 37
  have hB0 := alloc_below w (.cells (ptr3 p).toArray 37)
  replace hb0 : BlkL w.heap.size (ptr3 p) (w.alloc (.cells (ptr3 p).toArray 37)) := hb0
  have z0 := (hb0.1 0 _ rfl).1
  have z1 := (hb0.1 1 _ rfl).1
  have z2 := (hb0.1 2 _ rfl).1
  have hA1 := and_i64 3 (by decide) 8 7 (by decide) (by decide) p.r
  have hA2 := and_i64 16 (by decide) 65536 65535 (by decide) (by decide) p.s
  have hW : Aside (ptrW p = bits .or .i64 (bits .or .i64 (p.r % 8 * 281474976710656) (p.s % 65536 * 4294967296)) (p.f % 4294967296)) := by
    show ptrW p = _
    rw [or_ptr (by omega) (by omega) (by omega) (by omega)]
    rfl
  clear hb0
  go_enter Try.func13, Try.ntmps13
  go_upto_region 1 with fail
  generalize w.alloc (.cells #[.int .i64 p.s, .int .i64 p.f, .int .i64 p.r] 37) = W0 at *
  go_wp2_with fail
  go_ret
  exact ⟨by rw [hW.out]; rfl, hB0⟩
set_option maxHeartbeats 2000000 in
theorem riDecP_any (x : Int) (hx : -9223372036854775808 ≤ x ∧ x ≤ 9223372036854775807) (w : World) : Calls Try.prog 15 #[.int .i64 x] w fun e w' => e = .returned (wPtr x).v ∧ Below w.heap.size w w' := by
  obtain ⟨u, hu⟩ : ∃ u, u64 x = u := ⟨_, rfl⟩
  have hu' : IntKind.u64.wrap x = u := by rw [IntKind.wrap_u64, ← hu]; rfl
  obtain ⟨rr, hrr⟩ : ∃ rr, u / 281474976710656 % 8 = rr := ⟨_, rfl⟩
  obtain ⟨mid, hmid⟩ : ∃ mid, u / 4294967296 % 65536 = mid := ⟨_, rfl⟩
  obtain ⟨low, hlow⟩ : ∃ low, u % 4294967296 = low := ⟨_, rfl⟩
  have hA1 : bits .and .u64 (u / 281474976710656) 7 = rr := by rw [and_u64 3 (by decide) 8 7 (by decide) (by decide), hrr]
  have hA2 : IntKind.i64.wrap rr = rr := by rw [IntKind.wrap_i64]; omega
  have hA3 : bits .and .u64 (u / 4294967296) 65535 = mid := by rw [and_u64 16 (by decide) 65536 65535 (by decide) (by decide), hmid]
  have hA4 : IntKind.u32.wrap x = low := by rw [IntKind.wrap_u32, ← hlow, ← hu]; unfold u64; omega
  have hA5 : IntKind.i64.wrap mid = mid := by rw [IntKind.wrap_i64]; omega
  have hA6 : IntKind.i64.wrap low = low := by rw [IntKind.wrap_i64]; omega
  have hP : Aside (wPtr x = ⟨mid, low, rr⟩) := by show wPtr x = _; unfold wPtr wMid wLow; rw [hu, hmid, hlow, hrr]
  clear hu hlow hmid hrr
  go_enter Try.func15, Try.ntmps15
  go_wp2_with fail
  refine bodyPost_ret (v := .agg #[.int .i64 mid, .int .i64 low, .int .i64 rr]) (by simp [results, Try.results15, go_sem]) rfl ?_
  exact ⟨by rw [hP.out], alloc_below _ _⟩
end Go.Proofs.Ytolccbdogfmcaaa
