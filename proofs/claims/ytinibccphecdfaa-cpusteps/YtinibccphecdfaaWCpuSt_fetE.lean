/-
  THE DOCUMENT'S OWN PROCESSOR (donjonref16): a step: fetE.
-/
import Derived.Test.YtinibccphecdfaaWCpuStH
namespace Go.Proofs.Ytinibccphecdfaa
open Go.RowKit
set_option maxRecDepth 8000
set_option linter.unusedSimpArgs false
set_option linter.unusedVariables false

set_option maxRecDepth 8000 in
set_option maxHeartbeats 8000000 in
theorem rst_fetE (c : Cp) (hc : c.Ok) (hl : c.hl = false) (v : Value) (m : List PG) (a : Option Addr) (cap : Nat) (hMG : MG m) (w : World) (hv : SV v c.st w) (hG : RowG w a m) (hf : ¬ fetE c (m.map (·.g)) = 0) :
    Calls Try.prog 18 #[.agg (stCs c v).toArray, .slice a m.length cap] w (StR (stepC c (m.map (·.g))) w) := by
  have hundS := Try.underlying39
  have hszS := szSt
  have hszI := szIn
  have hszT := szTo
  have h4 := hc.ps
  obtain ⟨O, hO⟩ : ∃ O, stepC c (m.map (·.g)) = O := ⟨_, rfl⟩
  rw [hO]
  replace hO : Aside (stepC c (m.map (·.g)) = O) := hO
  have hop : Aside (stepC c (m.map (·.g)) = flt (fetE c (m.map (·.g)))) := by show stepC _ _ = _; unfold stepC; rw [if_neg (by rw [hl]; decide), if_pos hf]
  have kf := fun (W : World) (h : RowG W a m) => rfet_any c v h4 m a cap hMG.len hMG.ok W h
  have hzz : fetZ c (m.map (·.g)) = ⟨0, 0, 0⟩ := by unfold fetZ; rw [if_neg hf]
  obtain ⟨fe, hfe⟩ : ∃ fe, fetE c (m.map (·.g)) = fe := ⟨_, rfl⟩
  rw [hfe] at hf hop
  simp only [hzz, hfe] at kf
  have hfb : (fe != 0) = true := by simpa using hf
  clear hzz hfe
  obtain ⟨X0, hX0⟩ : ∃ X, stCs c v = X := ⟨_, rfl⟩
  have hlX : X0.length = 18 := by rw [← hX0]; exact st_len h4
  have hone0 : ∀ u ∈ X0, u.oneCell' = true := by rw [← hX0]; exact st_one c v hv.one
  rw [hX0]
  simp only [hX0] at kf
  obtain ⟨hs0, hr0, hq0, hB0⟩ := front_st h4 v w hX0
  have hv0 := hv.below hB0
  have hG0 := hG.below hB0
  clear hG
  have hu3 := hq0.2
  have hszX : (Try.prog.info? 39).map (·.size) = some X0.length := by rw [hlX]; exact hszS
  generalize hmn : m.length = mn at *
  go_enter Try.func18, Try.ntmps18
  go_upto_region 1 with fail
  generalize ((w.alloc (.cells X0.toArray 39)).alloc (.cells zS 39)).alloc (.cells zSt 45) = U0 at *
  simp only [Nat.add_assoc, Nat.reduceAdd]
  have x17 := hs0.hl
  rw [hl] at x17
  have hrs0 : U0.rangeAt w.heap.size 0 X0 := by rw [← hX0]; exact hs0.blk.range
  go_upto_region 3 with fail
  go_wp2_with (first | (refine wpList_load_row rfl _ rfl w.heap.size rfl X0 hrs0 hundS rfl hszX ?_) | fail)
  refine (kf U0 hG0).mono ?_
  rintro e W1 ⟨rfl, hb1⟩
  obtain ⟨W2, hW2, hth2, hi2, hk2⟩ := put3 W1 64 (ins3 ⟨0, 0, 0⟩) rfl
  have hb2 := Below.then hb1 hk2
  replace hr0 := hr0.keep hb2
  replace hq0 := stab_blk _ _ _ _ hq0 hb2
  replace hB0 := Below.then hB0 hb2
  clear kf x17 hrs0 hb1 hk2 hb2
  go_upto_region 4 with (first | (refine wpList_store_row rfl _ _ rfl W1.heap.size rfl (ins3 ⟨0, 0, 0⟩) rfl hth2 hszI (ins3_one _) hW2 ?_) | fail)
  clear hW2 hth2
  obtain ⟨WA, hWA, hthA, hrA, hkA⟩ := put_st hr0 (d := zeroC) rfl nilS
  have hBA := hkA _ _ (Nat.le_succ _) hB0
  have hqA : BlkL (w.heap.size + 2) (stoC none) WA := blk_off hq0 hWA (by omega)
  obtain ⟨WB, hWB, hthB, hqB, hkB⟩ := put_any hqA (ds := stoC none) rfl (by show 0 < 4; decide)
  have hBB := hkB _ _ (by omega) hBA
  have hrB : BlkL (w.heap.size + 1) (stCs zeroC nilS) WB := blk_off hrA.blk hWB (by omega)
  have hrBr := hrB.range
  have hqBr := hqB.range
  have hszZ : (Try.prog.info? 39).map (·.size) = some (stCs zeroC nilS).length := by kernel_rfl
  clear hrA hkA hqA hkB hrB hqB hBA
  go_wp2_with (first | (refine wpList_store_row rfl _ _ rfl (w.heap.size + 1) rfl (stCs zeroC nilS) rfl hthA hszZ (st_one _ _ rfl) hWA ?_) | (refine wpList_store_row rfl _ _ rfl (w.heap.size + 2) rfl (stoC none) rfl hthB hszT (sto_one _) hWB ?_) | fail)
  refine bodyPost_ret (v := .tuple #[.agg (stCs zeroC nilS).toArray, .agg (stoC none).toArray, .int .i64 0, .bool false, .int .i64 fe]) (results_ref5 rfl _ _ w.heap.size rfl rfl _ _ _ rfl rfl rfl (stCs zeroC nilS) (stoC none) rfl rfl hrBr hqBr) rfl ?_
  have hOT : O = flt fe := by rw [← hO.out, hop.out]
  rw [hOT]
  exact ⟨nilS, rfl, SV.nil _, hBB⟩
end Go.Proofs.Ytinibccphecdfaa
