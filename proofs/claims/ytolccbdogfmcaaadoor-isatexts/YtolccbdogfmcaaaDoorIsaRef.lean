/-
  THE DOCUMENT'S OWN INSTRUCTIONS (donjonref15): Encode, Decode, pointers, texts. Written by mk_isaref.py.
-/
import Derived.Test.YtolccbdogfmcaaaDoorIsaBits
import Derived.Test.YtolccbdogfmcaaaDoorWhole
import Derived.Test.YtolccbdogfmcaaaDoorHeld
import Derived.Deep.RegionHeld
import Derived.Deep.CutBlock
namespace Go.Proofs.YtolccbdogfmcaaaDoor
open Go.RowKit
set_option maxRecDepth 8000
set_option linter.unusedSimpArgs false
set_option linter.unusedVariables false

set_option maxRecDepth 8000 in
set_option maxHeartbeats 4000000 in
theorem riEnc_any (i : Ins) (w : World) : Calls Tryd.prog 20 #[i.v] w fun e w' => e = .returned (.tuple #[.int .i64 (insW i), .int .i64 (insE i)]) ∧ Below w.heap.size w w' := by
  have hb0 := blkl_alloc w (ins3 i).toArray 23
  have hB0 := alloc_below w (.cells (ins3 i).toArray 23)
  replace hb0 : BlkL w.heap.size (ins3 i) (w.alloc (.cells (ins3 i).toArray 23)) := hb0
  have z0 := (hb0.1 0 _ rfl).1
  have z1 := (hb0.1 1 _ rfl).1
  have z2 := (hb0.1 2 _ rfl).1
  clear hb0
  by_cases h0 : 0 ≤ i.o
  rotate_left
  · have hE : insE i = 3 := by
      unfold insE
      rw [if_pos (by omega)]
    have hW : insW i = 0 := by
      unfold insW
      rw [if_neg (by rw [hE]; decide)]
    have b0 : i.o < 0 := by omega
    clear h0
    replace hE : Aside (insE i = 3) := hE
    replace hW : Aside (insW i = 0) := hW
    go_enter Tryd.func20, Tryd.ntmps20
    go_upto_region 1 with fail
    generalize w.alloc (.cells #[.int .i64 i.o, .int .i64 i.p, .int .i64 i.n] 23) = W0 at *
    go_wp2_with fail
    refine bodyPost_ret (v := .tuple #[.int .i64 0, .int .i64 3]) (by simp [results, Tryd.results20, go_sem]) rfl ?_
    exact ⟨by rw [hW.out, hE.out], hB0⟩
  have g0 : ¬ i.o < 0 := by omega
  by_cases h1 : i.o ≤ 22
  rotate_left
  · have hE : insE i = 3 := by
      unfold insE
      rw [if_pos (by omega)]
    have hW : insW i = 0 := by
      unfold insW
      rw [if_neg (by rw [hE]; decide)]
    have b1 : 22 < i.o := by omega
    clear h1
    replace hE : Aside (insE i = 3) := hE
    replace hW : Aside (insW i = 0) := hW
    go_enter Tryd.func20, Tryd.ntmps20
    go_upto_region 1 with fail
    generalize w.alloc (.cells #[.int .i64 i.o, .int .i64 i.p, .int .i64 i.n] 23) = W0 at *
    go_wp2_with fail
    refine bodyPost_ret (v := .tuple #[.int .i64 0, .int .i64 3]) (by simp [results, Tryd.results20, go_sem]) rfl ?_
    exact ⟨by rw [hW.out, hE.out], hB0⟩
  have g1 : ¬ 22 < i.o := by omega
  by_cases h2 : 0 ≤ i.p
  rotate_left
  · have hE : insE i = 1 := by
      unfold insE
      rw [if_neg (by omega), if_pos (by omega)]
    have hW : insW i = 0 := by
      unfold insW
      rw [if_neg (by rw [hE]; decide)]
    have b2 : i.p < 0 := by omega
    clear h2
    replace hE : Aside (insE i = 1) := hE
    replace hW : Aside (insW i = 0) := hW
    go_enter Tryd.func20, Tryd.ntmps20
    go_upto_region 1 with fail
    generalize w.alloc (.cells #[.int .i64 i.o, .int .i64 i.p, .int .i64 i.n] 23) = W0 at *
    go_wp2_with fail
    refine bodyPost_ret (v := .tuple #[.int .i64 0, .int .i64 1]) (by simp [results, Tryd.results20, go_sem]) rfl ?_
    exact ⟨by rw [hW.out, hE.out], hB0⟩
  have g2 : ¬ i.p < 0 := by omega
  by_cases h3 : i.p ≤ 3
  rotate_left
  · have hE : insE i = 1 := by
      unfold insE
      rw [if_neg (by omega), if_pos (by omega)]
    have hW : insW i = 0 := by
      unfold insW
      rw [if_neg (by rw [hE]; decide)]
    have b3 : 3 < i.p := by omega
    clear h3
    replace hE : Aside (insE i = 1) := hE
    replace hW : Aside (insW i = 0) := hW
    go_enter Tryd.func20, Tryd.ntmps20
    go_upto_region 1 with fail
    generalize w.alloc (.cells #[.int .i64 i.o, .int .i64 i.p, .int .i64 i.n] 23) = W0 at *
    go_wp2_with fail
    refine bodyPost_ret (v := .tuple #[.int .i64 0, .int .i64 1]) (by simp [results, Tryd.results20, go_sem]) rfl ?_
    exact ⟨by rw [hW.out, hE.out], hB0⟩
  have g3 : ¬ 3 < i.p := by omega
  by_cases h4 : -2147483648 ≤ i.n
  rotate_left
  · have hE : insE i = 1 := by
      unfold insE
      rw [if_neg (by omega), if_pos (by omega)]
    have hW : insW i = 0 := by
      unfold insW
      rw [if_neg (by rw [hE]; decide)]
    have b4 : i.n < -2147483648 := by omega
    clear h4
    replace hE : Aside (insE i = 1) := hE
    replace hW : Aside (insW i = 0) := hW
    go_enter Tryd.func20, Tryd.ntmps20
    go_upto_region 1 with fail
    generalize w.alloc (.cells #[.int .i64 i.o, .int .i64 i.p, .int .i64 i.n] 23) = W0 at *
    go_wp2_with fail
    refine bodyPost_ret (v := .tuple #[.int .i64 0, .int .i64 1]) (by simp [results, Tryd.results20, go_sem]) rfl ?_
    exact ⟨by rw [hW.out, hE.out], hB0⟩
  have g4 : ¬ i.n < -2147483648 := by omega
  by_cases h5 : i.n ≤ 2147483647
  rotate_left
  · have hE : insE i = 1 := by
      unfold insE
      rw [if_neg (by omega), if_pos (by omega)]
    have hW : insW i = 0 := by
      unfold insW
      rw [if_neg (by rw [hE]; decide)]
    have b5 : 2147483647 < i.n := by omega
    clear h5
    replace hE : Aside (insE i = 1) := hE
    replace hW : Aside (insW i = 0) := hW
    go_enter Tryd.func20, Tryd.ntmps20
    go_upto_region 1 with fail
    generalize w.alloc (.cells #[.int .i64 i.o, .int .i64 i.p, .int .i64 i.n] 23) = W0 at *
    go_wp2_with fail
    refine bodyPost_ret (v := .tuple #[.int .i64 0, .int .i64 1]) (by simp [results, Tryd.results20, go_sem]) rfl ?_
    exact ⟨by rw [hW.out, hE.out], hB0⟩
  have g5 : ¬ 2147483647 < i.n := by omega
  have hE : insE i = 0 := insE_zero.2 ⟨⟨h0, h1⟩, h2, h3, h4, h5⟩
  have hW : insW i = bits .or .i64 (bits .or .i64 (i.o * 72057594037927936) (i.p * 281474976710656)) (i.n % 4294967296) := by rw [insW_eq hE, or_ins h0 h1 h2 h3]
  replace hE : Aside (insE i = 0) := hE
  replace hW : Aside (insW i = bits .or .i64 (bits .or .i64 (i.o * 72057594037927936) (i.p * 281474976710656)) (i.n % 4294967296)) := hW
  go_enter Tryd.func20, Tryd.ntmps20
  go_upto_region 1 with fail
  generalize w.alloc (.cells #[.int .i64 i.o, .int .i64 i.p, .int .i64 i.n] 23) = W0 at *
  go_wp2_with fail
  refine bodyPost_ret (v := .tuple #[.int .i64 (bits .or .i64 (bits .or .i64 (i.o * 72057594037927936) (i.p * 281474976710656)) (i.n % 4294967296)), .int .i64 0]) (by simp [results, Tryd.results20, go_sem]) rfl ?_
  exact ⟨by rw [hW.out, hE.out], hB0⟩
end Go.Proofs.YtolccbdogfmcaaaDoor
