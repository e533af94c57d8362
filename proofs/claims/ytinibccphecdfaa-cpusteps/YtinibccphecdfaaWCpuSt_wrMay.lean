/-
  THE DOCUMENT'S OWN PROCESSOR (donjonref16): a step: wrMay.
-/
import Derived.Test.YtinibccphecdfaaWCpuStH
namespace Go.Proofs.Ytinibccphecdfaa
open Go.RowKit
set_option maxRecDepth 8000
set_option linter.unusedSimpArgs false
set_option linter.unusedVariables false

set_option maxRecDepth 8000 in
set_option maxHeartbeats 8000000 in
theorem rst_wrMay (c : Cp) (hc : c.Ok) (hl : c.hl = false) (v : Value) (m : List PG) (a : Option Addr) (cap : Nat) (hMG : MG m) (w : World) (hv : SV v c.st w) (hG : RowG w a m) (hf : fetE c (m.map (·.g)) = 0) (i : Ins) (hi : fetI c (m.map (·.g)) = i) (ho : i.o = 2) (his : (mSeg c (m.map (·.g)) i).is = true) (hmd : hasM (mSeg c (m.map (·.g)) i).md 2 = true) (hmy : mayW (mSeg c (m.map (·.g)) i).rg (mRing c i) = false) :
    Calls Try.prog 18 #[.agg (stCs c v).toArray, .slice a m.length cap] w (StR (stepC c (m.map (·.g))) w) := by
  have hundS := Try.underlying39
  have hszS := szSt
  have hundG := Try.underlying57
  have hszG := szSg
  have hundP := Try.underlying24
  have hszP := szPt
  have hundI := Try.underlying64
  have hszI := szIn
  have hszT := szTo
  have h4 := hc.ps
  have hok := all_ok hMG
  have hie : insE i = 0 := by rw [← hi]; exact fet_ok hok hf
  have hOp := st_opC hl hf hi
  have hoff := off_ok hok hf
  obtain ⟨⟨o0, o1⟩, p0, p1, n0, n1⟩ := insE_zero.1 hie
  obtain ⟨k, p, x, hk, hk4, hpp, hp, hpo, hx, hg, hms, hmo⟩ := front_p hc m p0 p1
  have kk := fun (W : World) (h : RowG W a m) => rkn_any m a cap p.s hMG.len W h
  have kf := fun (W : World) (h : RowG W a m) => rfet_any c v h4 m a cap hMG.len hMG.ok W h
  have hzz : fetZ c (m.map (·.g)) = i := by unfold fetZ; rw [if_pos hf, hi]
  simp only [hzz, hf] at kf
  simp only [hx] at kk
  obtain ⟨R, hR⟩ : ∃ R, mRing c i = R := ⟨_, rfl⟩
  have hgm : (if c.ring < p.r then p.r else c.ring) = R := by rw [← hR]; unfold mRing; rw [hp]; rfl
  have how : IntKind.i64.wrap (p.f + i.n) = p.f + i.n := by rw [IntKind.wrap_i64]; omega
  have hw1 : IntKind.i64.wrap (c.off + 1) = c.off + 1 := by rw [IntKind.wrap_i64]; omega
  rw [hms] at his hmd hmy
  rw [hR] at hmy
  have hundR := Try.underlying55
  have hszR : (Try.prog.info? 55).map (·.size) = some 4 := by kernel_rfl
  have kmw := fun W : World => rmayWrite_any x.g.rg R W
  simp only [hmy] at kmw
  have hwe : wrE c (m.map (·.g)) i = 32 := by unfold wrE; rw [hms, hmo, hR]; rw [if_neg (show ¬ x.g.is = false by rw [his]; decide), if_pos (.inr hmy)]
  have hop : Aside (opC c (m.map (·.g)) i = flt 32) := by show opC _ _ _ = _; unfold opC; rw [if_neg (show ¬ i.o = 0 by omega), if_neg (show ¬ (i.o = 1 ∨ 4 ≤ i.o ∧ i.o ≤ 11) by omega), if_pos ho, hwe, if_pos (by decide)]; (try rfl)
  rw [hOp]
  obtain ⟨O, hO⟩ : ∃ O, opC c (m.map (·.g)) i = O := ⟨_, rfl⟩
  rw [hO]
  replace hO : Aside (opC c (m.map (·.g)) i = O) := hO
  clear hOp hx hf hi hzz hoff hg hms hmo hpo hp
  obtain ⟨X0, hX0⟩ : ∃ X, stCs c v = X := ⟨_, rfl⟩
  have hlX : X0.length = 18 := by rw [← hX0]; exact st_len h4
  have hone0 : ∀ u ∈ X0, u.oneCell' = true := by rw [← hX0]; exact st_one c v hv.one
  rw [hX0]
  simp only [hX0] at kf
  obtain ⟨hs0, hr0, hq0, hB0⟩ := front_st h4 v w hX0
  have hv0 := hv.below hB0
  have hG0 := hG.below hB0
  clear hG
  have hu3 := hq0.2
  have hszX : (Try.prog.info? 39).map (·.size) = some X0.length := by rw [hlX]; exact hszS
  generalize hmn : m.length = mn at *
  go_enter Try.func18, Try.ntmps18
  go_upto_region 1 with fail
  generalize ((w.alloc (.cells X0.toArray 39)).alloc (.cells zS 39)).alloc (.cells zSt 45) = U0 at *
  simp only [Nat.add_assoc, Nat.reduceAdd]
  have x17 := hs0.hl
  rw [hl] at x17
  have hrs0 : U0.rangeAt w.heap.size 0 X0 := by rw [← hX0]; exact hs0.blk.range
  go_upto_region 3 with fail
  go_wp2_with (first | (refine wpList_load_row rfl _ rfl w.heap.size rfl X0 hrs0 hundS rfl hszX ?_) | fail)
  refine (kf U0 hG0).mono ?_
  rintro e W1 ⟨rfl, hb1⟩
  obtain ⟨W2, hW2, hth2, hi2, hk2⟩ := put3 W1 64 (ins3 i) rfl
  have hb2 := Below.then hb1 hk2
  replace hs0 := hs0.keep hb2
  replace hr0 := hr0.keep hb2
  replace hq0 := stab_blk _ _ _ _ hq0 hb2
  replace hB0 := Below.then hB0 hb2
  replace hv0 := hv0.below hb2
  replace hG0 := hG0.below hb2
  have hgi : U0.heap.size ≤ W1.heap.size := hb1.size
  clear kf x17 hrs0 hb1 hk2 hb2
  go_upto_region 4 with (first | (refine wpList_store_row rfl _ _ rfl W1.heap.size rfl (ins3 i) rfl hth2 hszI (ins3_one _) hW2 ?_) | fail)
  clear hW2 hth2
  generalize W1.heap.size = bi at *
  have hrs0 : W2.rangeAt w.heap.size 0 X0 := by rw [← hX0]; exact hs0.blk.range
  obtain ⟨W3, hW3, hth3, ht3, hk3⟩ := new_st W2 c h4 v 39
  rw [hX0] at hW3 hth3
  have hbit : bi < W2.heap.size := hi2.2
  go_upto_region 7 with (first | (refine wpList_load_row rfl _ rfl w.heap.size rfl X0 hrs0 hundS rfl hszX ?_) | (refine wpList_store_row rfl _ _ rfl W2.heap.size rfl X0 rfl hth3 hszX hone0 hW3 ?_) | fail)
  have xo := ht3.off
  have xof := (ht3.blk.1 1 _ rfl).2
  have ht4 := ht3.setO (c.off + 1)
  have hk4' := hk3.setCell (p := ⟨W2.heap.size, 1, none⟩) (Nat.le_refl _) (.int .i64 (c.off + 1))
  replace hs0 := hs0.keep hk4'
  replace hr0 := hr0.keep hk4'
  replace hq0 := stab_blk _ _ _ _ hq0 hk4'
  replace hi2 := stab_blk _ _ _ _ hi2 hk4'
  replace hB0 := Below.then hB0 hk4'
  replace hv0 := hv0.below hk4'
  replace hG0 := hG0.below hk4'
  clear hW3 hth3 hrs0
  go_upto_region 8 with fail
  clear xo xof ht3 hk3 hk4'
  generalize W3.setCell ⟨W2.heap.size, 1, none⟩ (.int .i64 (c.off + 1)) = W4 at *
  generalize W2.heap.size = bt at *
  have hrp : W4.rangeAt w.heap.size (4 + k * 3) (ptr3 p) := by rw [← hpp]; exact hs0.ptr hk4
  have xip : W4.cell? ⟨bi, 1, none⟩ = some (.int .i64 (k : Int)) := by rw [← hk]; exact (hi2.1 1 _ rfl).1
  have j1 : (k : Int) < 4 := by omega
  have j2 : ¬ (k : Int) < 0 := by omega
  obtain ⟨W5, hW5, hth5, hp5, hk5⟩ := put3 W4 24 (ptr3 p) rfl
  go_upto_region 9 with (first | (refine wpList_load_midg (by rfl) _ rfl w.heap.size (4 + k * 3) rfl (ptr3 p) hrp hundP rfl hszP ?_) | (refine wpList_store_row rfl _ _ rfl W4.heap.size rfl (ptr3 p) rfl hth5 hszP (ptr3J_one _) hW5 ?_) | fail)
  have hbt4 := ht4.blk.2
  replace hs0 := hs0.keep hk5
  replace hr0 := hr0.keep hk5
  replace hq0 := stab_blk _ _ _ _ hq0 hk5
  replace hi2 := stab_blk _ _ _ _ hi2 hk5
  replace ht4 := ht4.keep hk5
  replace hB0 := Below.then hB0 hk5
  replace hv0 := hv0.below hk5
  replace hG0 := hG0.below hk5
  clear hW5 hth5 hrp xip hk5
  generalize W4.heap.size = bp at *
  have xr := hs0.ring
  have xpr := (hp5.1 2 (.int .i64 p.r) rfl).1
  have xps := (hp5.1 0 (.int .i64 p.s) rfl).1
  go_upto_region 10 with fail
  go_wp2_with fail
  refine (kk W5 hG0).mono ?_
  rintro e W6 ⟨rfl, hb6⟩
  obtain ⟨W7, hW7, hth7, hx7, hk7⟩ := put7 W6 57 x.cs rfl
  have hb7 := Below.then hb6 hk7
  replace hs0 := hs0.keep hb7
  replace hr0 := hr0.keep hb7
  replace hq0 := stab_blk _ _ _ _ hq0 hb7
  replace hi2 := stab_blk _ _ _ _ hi2 hb7
  replace ht4 := ht4.keep hb7
  have hbp5 := hp5.2
  replace hp5 := stab_blk _ _ _ _ hp5 hb7
  replace hB0 := Below.then hB0 hb7
  replace hv0 := hv0.below hb7
  replace hG0 := hG0.below hb7
  have hgx : W5.heap.size ≤ W6.heap.size := hb6.size
  clear kk xr xpr xps hb6 hk7 hb7
  go_upto_region 11 with (first | (refine wpList_store_row rfl _ _ rfl W6.heap.size rfl x.cs rfl hth7 hszG (pg_one _) hW7 ?_) | fail)
  clear hW7 hth7
  generalize W6.heap.size = bx at *
  have xio : W7.cell? ⟨bi, 0, none⟩ = some (.int .i64 i.o) := (hi2.1 0 _ rfl).1
  have hbw : w.heap.size + 2 < bi := by omega
  have hib : bi < bt := hbit
  have hTB : bt < bp := hbt4
  have hBX : bp < bx := by omega
  rw [ho] at xio
  have x0 := (hx7.1 0 (.bool x.g.is) rfl).1
  have x1 : W7.cell? ⟨bx, 1, none⟩ = some (.slice x.wa x.g.ws.length x.wc) := (hx7.1 1 _ rfl).1
  have x2 := (hx7.1 2 (.int .i64 x.g.md) rfl).1
  have xq : W7.rangeAt bx 3 [.int .i64 x.g.rg.a, .int .i64 x.g.rg.b, .int .i64 x.g.rg.c, .int .i64 x.g.rg.g] := hx7.mid (fun j u hu => by
    match j, hu with
    | 0, hu => exact hu
    | 1, hu => exact hu
    | 2, hu => exact hu
    | 3, hu => exact hu)
  have xpf := (hp5.1 1 (.int .i64 p.f) rfl).1
  have xin := (hi2.1 2 (.int .i64 i.n) rfl).1
  rw [his] at x0
  have hbits : hasM x.g.md 2 = (bits .and .i64 x.g.md 2 != 0) := rfl
  have q2 : (bits .and .i64 x.g.md 2 == 0) = false := by rw [hbits] at hmd; simpa using hmd
  have q2' : ¬ bits .and .i64 x.g.md 2 = 0 := by simpa using q2
  go_upto_region 23 with fail
  go_wp2_with (first | (refine wpList_load_midg (by rfl) _ rfl bx 3 rfl [.int .i64 x.g.rg.a, .int .i64 x.g.rg.b, .int .i64 x.g.rg.c, .int .i64 x.g.rg.g] xq hundR rfl hszR ?_) | fail)
  refine (kmw W7).mono ?_
  rintro e W8 ⟨rfl, hb8⟩
  replace ht4 := ht4.keep hb8
  replace hr0 := hr0.keep hb8
  replace hq0 := stab_blk _ _ _ _ hq0 hb8
  replace hB0 := Below.then hB0 hb8
  replace hs0 := hs0.keep hb8
  replace hp5 := stab_blk _ _ _ _ hp5 hb8
  have x1' := (hb8.cell (p := ⟨bx, 1, none⟩) hx7.2).trans x1
  clear hb8 kmw x0 x1 x2 xq xpf xin
  obtain ⟨WA, hWA, hthA, hrA, hkA⟩ := put_st hr0 (d := zeroC) rfl nilS
  have hBA := hkA _ _ (Nat.le_succ _) hB0
  have hqA : BlkL (w.heap.size + 2) (stoC none) WA := blk_off hq0 hWA (by omega)
  obtain ⟨WB, hWB, hthB, hqB, hkB⟩ := put_any hqA (ds := stoC none) rfl (by show 0 < 4; decide)
  have hBB := hkB _ _ (by omega) hBA
  have hrB : BlkL (w.heap.size + 1) (stCs zeroC nilS) WB := blk_off hrA.blk hWB (by omega)
  have hrBr := hrB.range
  have hqBr := hqB.range
  have hszZ : (Try.prog.info? 39).map (·.size) = some (stCs zeroC nilS).length := by kernel_rfl
  clear hrA hkA hqA hkB hrB hqB hBA
  go_wp2_with (first | (refine wpList_store_row rfl _ _ rfl (w.heap.size + 1) rfl (stCs zeroC nilS) rfl hthA hszZ (st_one _ _ rfl) hWA ?_) | (refine wpList_store_row rfl _ _ rfl (w.heap.size + 2) rfl (stoC none) rfl hthB hszT (sto_one _) hWB ?_) | fail)
  refine bodyPost_ret (v := .tuple #[.agg (stCs zeroC nilS).toArray, .agg (stoC none).toArray, .int .i64 0, .bool false, .int .i64 32]) (results_ref5 rfl _ _ w.heap.size rfl rfl _ _ _ rfl rfl rfl (stCs zeroC nilS) (stoC none) rfl rfl hrBr hqBr) rfl ?_
  have hOT : O = flt 32 := by rw [← hO.out, hop.out]
  rw [hOT]
  exact ⟨nilS, rfl, SV.nil _, hBB⟩

end Go.Proofs.Ytinibccphecdfaa
