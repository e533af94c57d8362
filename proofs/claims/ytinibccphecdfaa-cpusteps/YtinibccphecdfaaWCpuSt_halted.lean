/-
  THE DOCUMENT'S OWN PROCESSOR (donjonref16): a step: halted.
-/
import Derived.Test.YtinibccphecdfaaWCpuStH
namespace Go.Proofs.Ytinibccphecdfaa
open Go.RowKit
set_option maxRecDepth 8000
set_option linter.unusedSimpArgs false
set_option linter.unusedVariables false

set_option maxRecDepth 8000 in
set_option maxHeartbeats 8000000 in
theorem rst_halted (c : Cp) (hc : c.Ok) (hl : c.hl = true) (v : Value) (m : List PG) (a : Option Addr) (cap : Nat) (hMG : MG m) (w : World) (hv : SV v c.st w) (hG : RowG w a m) :
    Calls Try.prog 18 #[.agg (stCs c v).toArray, .slice a m.length cap] w (StR (stepC c (m.map (·.g))) w) := by
  have hundS := Try.underlying39
  have hszS := szSt
  have hszI := szIn
  have hszT := szTo
  have h4 := hc.ps
  obtain ⟨O, hO⟩ : ∃ O, stepC c (m.map (·.g)) = O := ⟨_, rfl⟩
  rw [hO]
  replace hO : Aside (stepC c (m.map (·.g)) = O) := hO
  have hop : Aside (stepC c (m.map (·.g)) = okC c) := by show stepC _ _ = _; unfold stepC; rw [if_pos hl]
  have kf := fun (W : World) (h : RowG W a m) => rfet_any c v h4 m a cap hMG.len hMG.ok W h
  obtain ⟨X0, hX0⟩ : ∃ X, stCs c v = X := ⟨_, rfl⟩
  have hlX : X0.length = 18 := by rw [← hX0]; exact st_len h4
  have hone0 : ∀ u ∈ X0, u.oneCell' = true := by rw [← hX0]; exact st_one c v hv.one
  rw [hX0]
  simp only [hX0] at kf
  obtain ⟨hs0, hr0, hq0, hB0⟩ := front_st h4 v w hX0
  have hv0 := hv.below hB0
  have hG0 := hG.below hB0
  clear hG
  have hu3 := hq0.2
  have hszX : (Try.prog.info? 39).map (·.size) = some X0.length := by rw [hlX]; exact hszS
  generalize hmn : m.length = mn at *
  go_enter Try.func18, Try.ntmps18
  go_upto_region 1 with fail
  generalize ((w.alloc (.cells X0.toArray 39)).alloc (.cells zS 39)).alloc (.cells zSt 45) = U0 at *
  simp only [Nat.add_assoc, Nat.reduceAdd]
  clear kf
  have x17 := hs0.hl
  rw [hl] at x17
  go_upto_region 2 with fail
  clear x17
  obtain ⟨T, hTT⟩ : ∃ T : Cp, c = T := ⟨_, rfl⟩
  replace hs0 : StAt w.heap.size T v _ := hTT ▸ hs0
  have hT4 := hs0.ps
  obtain ⟨WA, hWA, hthA, hrA, hkA⟩ := put_st hr0 (d := T) hT4 v
  have hBA := hkA _ _ (Nat.le_succ _) hB0
  have hqA : BlkL (w.heap.size + 2) (stoC none) WA := blk_off hq0 hWA (by omega)
  obtain ⟨WB, hWB, hthB, hqB, hkB⟩ := put_any hqA (ds := stoC none) rfl (by show 0 < 4; decide)
  have hBB := hkB _ _ (by omega) hBA
  have hrB : BlkL (w.heap.size + 1) (stCs T v) WB := blk_off hrA.blk hWB (by omega)
  have hrt := hs0.blk.range
  have hrBr := hrB.range
  have hqBr := hqB.range
  have hlY : (stCs T v).length = 18 := st_len hT4
  have honeY := st_one T v (by exact hv.one)
  obtain ⟨Y, hY⟩ : ∃ Y, stCs T v = Y := ⟨_, rfl⟩
  rw [hY] at hWA hthA hrt hrBr hlY honeY
  have hszY : (Try.prog.info? 39).map (·.size) = some Y.length := by rw [hlY]; exact hszS
  replace hY : Aside (stCs T v = Y) := hY
  replace hTT : Aside (c = T) := hTT
  clear hrA hkA hqA hkB hrB hqB hBA
  go_wp2_with (first | (refine wpList_load_row rfl _ rfl w.heap.size rfl Y hrt hundS rfl hszY ?_) | (refine wpList_store_row rfl _ _ rfl (w.heap.size + 1) rfl Y rfl hthA hszY honeY hWA ?_) | (refine wpList_store_row rfl _ _ rfl (w.heap.size + 2) rfl (stoC none) rfl hthB hszT (sto_one _) hWB ?_) | fail)
  refine bodyPost_ret (v := .tuple #[.agg Y.toArray, .agg (stoC none).toArray, .int .i64 0, .bool false, .int .i64 0]) (results_ref5 rfl _ _ w.heap.size rfl rfl _ _ _ rfl rfl rfl Y (stoC none) hlY rfl hrBr hqBr) rfl ?_
  have hOT : O = okC T := by rw [← hO.out, hop.out, hTT.out]
  rw [hOT]
  exact ⟨v, by show _ = Ending.returned (.tuple #[.agg (stCs T v).toArray, .agg (stoC none).toArray, .int .i64 0, .bool false, .int .i64 0]); rw [hY.out], by show SV v T.st _; rw [← hTT.out]; exact hv.below hBB, hBB⟩
end Go.Proofs.Ytinibccphecdfaa
