/-
  PACKAGE node AS IT LANDED: parse: what was panicked deep within is recovered where the parsing began.
-/
import Derived.Test.YtecleampjeebaaaNodeReadM
import Derived.Test.YtecleampjeebaaaNodeReadE
import Derived.Test.YtecleampjeebaaaNodeReadN
import Derived.Test.YtecleampjeebaaaHeld
import Derived.Defers
import Derived.Recover
namespace Go.Proofs.Ytecleampjeebaaa
open Go.RowKit
set_option linter.unusedSimpArgs false
set_option linter.unusedVariables false

/-- What a function hands back whose results are a struct of the call's own, and a cell beside it. -/
theorem results_row_cell {fn : Func} {p q : Tmp} {T U : TypeId} {d : TypeDesc} (h : fn.results = #[.cell p T, .cell q U]) (tmps : Array Value) (w : World) (g g2 : Nat) (hp : tmps.getD p undef = .pointer (some ⟨g, 0, none⟩)) (hq : tmps.getD q undef = .pointer (some ⟨g2, 0, none⟩)) (cs : List Value) (hr : w.rangeAt g 0 cs)
    (hu : Try.prog.underlying T = some d) (hd : d.isRow = true) (hi : (Try.prog.info? T).map (·.size) = some cs.length) (v : Value) (hv : (loadVar U ⟨g2, 0, none⟩).run Try.prog w = .ok v w) :
    (results fn tmps).run Try.prog w = .ok (.tuple #[.agg cs.toArray, v]) w := by
  have hp' : tmps[p]?.getD undef = .pointer (some ⟨g, 0, none⟩) := by simpa using hp
  have hq' : tmps[q]?.getD undef = .pointer (some ⟨g2, 0, none⟩) := by simpa using hq
  have e := run_loadVar_mid (P := Try.prog) w g 0 T cs d hr hu hd hi
  simp [results, h, hp', hq', asAddr, e, hv]
theorem load_errno (w : World) (g : Nat) (x : Int) (h : w.cell? ⟨g, 0, none⟩ = some (.int .i64 x)) : (loadVar 36 ⟨g, 0, none⟩).run Try.prog w = .ok (.int .i64 x) w := by
  simp [go_sem, h]
/-- Where a parse begins: the answer's block, the error's, the reader's. -/
structure P3 (w W : World) (zs : List Value) : Prop where
  m0 : Blk W w.heap.size zs
  m1 : Blk W (w.heap.size + 1) [.int .i64 0]
  bl : Below w.heap.size w W
  sz : w.heap.size + 3 ≤ W.heap.size
theorem p3_start {w : World} {a : Option Addr} {n cap : Nat} {l : List UInt8} (hn : n < 1000000) (hnc : n ≤ cap) (hb : BytesAt w a n l) (zs : Array Value) (T U V : TypeId) :
    P3 w (((w.alloc (.cells zs T)).alloc (.cells #[.int .i64 0] U)).alloc (.cells #[.slice a n cap] V)) zs.toList ∧ RdN (((w.alloc (.cells zs T)).alloc (.cells #[.int .i64 0] U)).alloc (.cells #[.slice a n cap] V)) (w.heap.size + 2) (w.heap.size + 3) l 0 := by
  have b1 := alloc_below w (.cells zs T)
  have m0 := blk_alloc w zs T
  have s1 := World.size_alloc w (.cells zs T)
  generalize w.alloc (.cells zs T) = W1 at *
  have b2 := alloc_below W1 (.cells #[.int .i64 0] U)
  have m1 := blk_alloc W1 #[.int .i64 0] U
  have s2 := World.size_alloc W1 (.cells #[.int .i64 0] U)
  generalize W1.alloc (.cells #[.int .i64 0] U) = W2 at *
  have b3 := alloc_below W2 (.cells #[.slice a n cap] V)
  have m2 := blk_alloc W2 #[.slice a n cap] V
  have s3 := World.size_alloc W2 (.cells #[.slice a n cap] V)
  generalize W2.alloc (.cells #[.slice a n cap] V) = W3 at *
  rw [s1] at m1
  rw [s2, s1] at m2
  have hB := Below.then (Below.then b1 b2) b3
  have ha : ∀ y, a = some y → 0 < n → y.block < w.heap.size := fun y hy hn => by
    obtain ⟨y', hy', hc⟩ := hb.2 0 hn
    rw [hy] at hy'
    obtain rfl := Option.some.inj hy'
    have := World.block_lt_of_cell? _ _ hc
    rwa [add_block] at this
  refine ⟨⟨(m0.same (b2.block _ (by omega))).same (b3.block _ (by omega)), m1.same (b3.block _ (by omega)), hB, by omega⟩, a, n, cap, ⟨(m2 0 _ rfl).1, (m2 0 _ rfl).2, by rw [List.drop_zero]; exact hb.below hB, fun y hy hn => by have := ha y hy hn; omega, fun y hy hn => by have := ha y hy hn; omega, by omega, by omega, hn, hnc, Nat.zero_le _⟩⟩
theorem P3.call {w W W' : World} {zs : List Value} (h : P3 w W zs) (ht : Rest (w.heap.size + 2) W W') : P3 w W' zs := by
  have h3 := h.sz
  exact ⟨h.m0.same (ht.block _ (by omega) (fun q => by injection q; omega)), h.m1.same (ht.block _ (by omega) (fun q => by injection q; omega)), h.bl.grown ht h.bl.size (fun k hk => by injection hk; omega), Nat.le_trans h.sz ht.size⟩
theorem P3.then {w W W' : World} {zs : List Value} (h : P3 w W zs) (b : Below W.heap.size W W') : P3 w W' zs := by
  have h3 := h.sz
  exact ⟨h.m0.same (b.block _ (by omega)), h.m1.same (b.block _ (by omega)), Below.then h.bl b, Nat.le_trans h.sz b.size⟩
theorem P3.err {w W : World} {zs : List Value} (h : P3 w W zs) (e : Int) : Blk (W.setCell ⟨w.heap.size + 1, 0, none⟩ (.int .i64 e)) w.heap.size zs ∧ (W.setCell ⟨w.heap.size + 1, 0, none⟩ (.int .i64 e)).cell? ⟨w.heap.size + 1, 0, none⟩ = some (.int .i64 e) ∧ Below w.heap.size w (W.setCell ⟨w.heap.size + 1, 0, none⟩ (.int .i64 e)) := by
  have hb : Below (w.heap.size + 1) W (W.setCell ⟨w.heap.size + 1, 0, none⟩ (.int .i64 e)) := (Below.refl _ W).setCell (p := ⟨w.heap.size + 1, 0, none⟩) (Nat.le_refl _) _
  exact ⟨h.m0.same (hb.block _ (by omega)), ((h.m1.set 0 (.int .i64 e) (by simp)) 0 _ rfl).1, h.bl.trans (hb.mono (by omega))⟩
theorem P3.all {w W : World} {zs : List Value} (h : P3 w W zs) (cs : List Value) (hl : zs.length = cs.length) : P3 w (W.setCells w.heap.size 0 cs) cs := by
  have b : Below w.heap.size W (W.setCells w.heap.size 0 cs) := Below.cells (Nat.le_refl _) cs 0 (Below.refl _ _)
  exact ⟨h.m0.setAll hl, h.m1.same (heap_setCells_other (by omega) _ _ _), h.bl.trans b, Nat.le_trans h.sz b.size⟩
theorem catchM_idle (p : Addr) (w : World) :
    CallsD Try.prog 59 #[.pointer (some p)] .returning w fun e u' w' => e = .returned (.tuple #[]) ∧ u' = .returning ∧ w' = w := by
  refine callsD_of_wpS Try.func59 rfl fun c₀ cs hu => ?_
  apply wpS_seq
  apply wpS_region
  simp [wpOpsS, go_sem, recoverD, hu, Try.ntmps59, Exit.thenS]
  refine wpS_of_wp ?_
  change Code.wp Try.prog _ _ { tmps := #[.pointer (some p), .nilIface, .nilIface, undef, undef, undef, undef], defers := [] } w
  go_wp2_with fail
  cases c₀
  simp_all [bodyPostS, results, Try.results59]
set_option maxHeartbeats 400000 in
theorem catchM_panicking (p : Addr) (x er : Int) (w : World) (hc : w.cell? p = some (.int .i64 x)) (hz : w.frozen? p = false) :
    CallsD Try.prog 59 #[.pointer (some p)] (.panicking (thrown er)) w fun e u' w' => e = .returned (.tuple #[]) ∧ u' = .panicking [{ v := .iface 36 (.int .i64 er), recovered := true }] ∧ w' = w.setCell p (.int .i64 er) := by
  have hnil : ∀ w : World, (binOp BinOp.neq 20 (.iface 36 (.int .i64 er)) .nilIface).run Try.prog w = .ok (.bool true) w := fun _ => rfl
  have hta : ∀ w : World, (Instr.typeAssert (.iface 36 (.int .i64 er)) 20 36 false).run Try.prog w = .ok (.int .i64 er) w := fun _ => by first | kernel_rfl | rfl
  refine callsD_of_wpS Try.func59 rfl fun c₀ cs hu => ?_
  apply wpS_seq
  apply wpS_region
  simp [wpOpsS, go_sem, recoverD, hu, thrown, Try.ntmps59, Exit.thenS]
  refine wpS_of_wp ?_
  change Code.wp Try.prog _ _ { tmps := #[.pointer (some p), .iface 36 (.int .i64 er), .iface 36 (.int .i64 er), undef, undef, undef, undef], defers := [] } w
  go_wp2_with fail
  simp [bodyPostS, results, Try.results59]
theorem catchE_idle (p : Addr) (w : World) :
    CallsD Try.prog 60 #[.pointer (some p)] .returning w fun e u' w' => e = .returned (.tuple #[]) ∧ u' = .returning ∧ w' = w := by
  refine callsD_of_wpS Try.func60 rfl fun c₀ cs hu => ?_
  apply wpS_seq
  apply wpS_region
  simp [wpOpsS, go_sem, recoverD, hu, Try.ntmps60, Exit.thenS]
  refine wpS_of_wp ?_
  change Code.wp Try.prog _ _ { tmps := #[.pointer (some p), .nilIface, .nilIface, undef, undef, undef, undef], defers := [] } w
  go_wp2_with fail
  cases c₀
  simp_all [bodyPostS, results, Try.results60]
set_option maxHeartbeats 400000 in
theorem catchE_panicking (p : Addr) (x er : Int) (w : World) (hc : w.cell? p = some (.int .i64 x)) (hz : w.frozen? p = false) :
    CallsD Try.prog 60 #[.pointer (some p)] (.panicking (thrown er)) w fun e u' w' => e = .returned (.tuple #[]) ∧ u' = .panicking [{ v := .iface 36 (.int .i64 er), recovered := true }] ∧ w' = w.setCell p (.int .i64 er) := by
  have hnil : ∀ w : World, (binOp BinOp.neq 20 (.iface 36 (.int .i64 er)) .nilIface).run Try.prog w = .ok (.bool true) w := fun _ => rfl
  have hta : ∀ w : World, (Instr.typeAssert (.iface 36 (.int .i64 er)) 20 36 false).run Try.prog w = .ok (.int .i64 er) w := fun _ => by first | kernel_rfl | rfl
  refine callsD_of_wpS Try.func60 rfl fun c₀ cs hu => ?_
  apply wpS_seq
  apply wpS_region
  simp [wpOpsS, go_sem, recoverD, hu, thrown, Try.ntmps60, Exit.thenS]
  refine wpS_of_wp ?_
  change Code.wp Try.prog _ _ { tmps := #[.pointer (some p), .iface 36 (.int .i64 er), .iface 36 (.int .i64 er), undef, undef, undef, undef], defers := [] } w
  go_wp2_with fail
  simp [bodyPostS, results, Try.results60]
theorem catchN_idle (p : Addr) (w : World) :
    CallsD Try.prog 52 #[.pointer (some p)] .returning w fun e u' w' => e = .returned (.tuple #[]) ∧ u' = .returning ∧ w' = w := by
  refine callsD_of_wpS Try.func52 rfl fun c₀ cs hu => ?_
  apply wpS_seq
  apply wpS_region
  simp [wpOpsS, go_sem, recoverD, hu, Try.ntmps52, Exit.thenS]
  refine wpS_of_wp ?_
  change Code.wp Try.prog _ _ { tmps := #[.pointer (some p), .nilIface, .nilIface, undef, undef, undef, undef], defers := [] } w
  go_wp2_with fail
  cases c₀
  simp_all [bodyPostS, results, Try.results52]
set_option maxHeartbeats 400000 in
theorem catchN_panicking (p : Addr) (x er : Int) (w : World) (hc : w.cell? p = some (.int .i64 x)) (hz : w.frozen? p = false) :
    CallsD Try.prog 52 #[.pointer (some p)] (.panicking (thrown er)) w fun e u' w' => e = .returned (.tuple #[]) ∧ u' = .panicking [{ v := .iface 36 (.int .i64 er), recovered := true }] ∧ w' = w.setCell p (.int .i64 er) := by
  have hnil : ∀ w : World, (binOp BinOp.neq 20 (.iface 36 (.int .i64 er)) .nilIface).run Try.prog w = .ok (.bool true) w := fun _ => rfl
  have hta : ∀ w : World, (Instr.typeAssert (.iface 36 (.int .i64 er)) 20 36 false).run Try.prog w = .ok (.int .i64 er) w := fun _ => by first | kernel_rfl | rfl
  refine callsD_of_wpS Try.func52 rfl fun c₀ cs hu => ?_
  apply wpS_seq
  apply wpS_region
  simp [wpOpsS, go_sem, recoverD, hu, thrown, Try.ntmps52, Exit.thenS]
  refine wpS_of_wp ?_
  change Code.wp Try.prog _ _ { tmps := #[.pointer (some p), .iface 36 (.int .i64 er), .iface 36 (.int .i64 er), undef, undef, undef, undef], defers := [] } w
  go_wp2_with fail
  simp [bodyPostS, results, Try.results52]
end Go.Proofs.Ytecleampjeebaaa
