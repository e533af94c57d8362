/-
  CpuRings, walked.
-/
import Derived.Test.YtinibccphecdfaaWCpuLaw3
import Derived.Test.YtinibccphecdfaaWCpuRingsJ
import Derived.Test.YtinibccphecdfaaWCpuRingsT0
import Derived.Test.YtinibccphecdfaaWCpuRingsT1
namespace Go.Proofs.Ytinibccphecdfaa
open Go.RowKit
set_option maxRecDepth 8000
set_option linter.unusedSimpArgs false
set_option linter.unusedVariables false

set_option maxRecDepth 8000 in
set_option maxHeartbeats 8000000 in
theorem cpuRings_walk (l : List PP) (a1 : Option Addr) (c1 : Nat) (c : Cp) (a2 : Option Addr) (c2 : Nat) (n : Int) (w : World) (hL : RowP w a1 l) (hX : BegX w c a2) :
    Calls Try.prog 4 #[.slice a1 l.length c1, .agg (bgCs c (.slice a2 c.st.length c2)).toArray, .int .i64 n] w fun e w' => e = .returned (.bool true) ∧ Below w.heap.size w w' := by
  have hundS := Try.underlying33
  have hszS : (Try.prog.info? 33).map (·.size) = some 18 := by kernel_rfl
  have hundB := Try.underlying28
  have hszB : (Try.prog.info? 28).map (·.size) = some 17 := by kernel_rfl
  have hmi : ∀ (v : Value) (w : World), (Instr.makeInterface 43 v).run Try.prog w = .ok (.iface 43 v) w := fun _ _ => rfl
  have hblen : (bgCs c (.slice a2 c.st.length c2)).length = 17 := by
    have h := st_len (v := .slice a2 c.st.length c2) hX.ps
    rw [bg_st, List.length_append] at h
    simpa using h
  have hx0 : BlkL w.heap.size (bgCs c (.slice a2 c.st.length c2)) (w.alloc (.cells (bgCs c (.slice a2 c.st.length c2)).toArray 28)) := blkl_alloc w _ _
  have hB0 := alloc_below w (.cells (bgCs c (.slice a2 c.st.length c2)).toArray 28)
  have hL0 := hL.below hB0
  have hX0 := hX.below hB0
  have kb := fun (W : World) (h : BegX W c a2) => cbeg_any c a2 c2 W h
  have km := fun (W : World) (h : RowP W a1 l) => cmemo_any l a1 c1 W h
  have hok := begC_ok hX
  have hmok := memPc_ok hL
  obtain ⟨X, hXc⟩ : ∃ X, bgCs c (.slice a2 c.st.length c2) = X := ⟨_, rfl⟩
  rw [hXc] at hx0 hB0 hL0 hX0 hblen ⊢
  simp only [hXc] at kb
  clear hXc hL hX
  have hszX : (Try.prog.info? 28).map (·.size) = some X.length := by rw [hblen]; exact hszB
  clear hblen
  generalize l.length = ln at *
  go_enter Try.func4, Try.ntmps4
  go_upto_region 1 with fail
  generalize w.alloc (.cells X.toArray 28) = U0 at *
  go_wp2_with fail
  refine (ck_any U0).mono ?_
  rintro e W1 ⟨rfl, hb1⟩
  have hx1 := stab_blk _ _ _ _ hx0 hb1
  have hB1 := Below.then hB0 hb1
  have hL1 := hL0.below hb1
  have hX1 := hX0.below hb1
  clear hx0 hB0 hL0 hX0 hb1
  go_upto_region 3 with fail
  go_wp2_with fail
  refine (km W1 hL1).mono ?_
  rintro e W5 ⟨M, vM, rfl, hoM, hMm, hMg, hb5⟩
  have hMl : M.length < 1000000 := by
    have := congrArg List.length hMg
    rw [List.length_map] at this
    have h5 := memPc_len l
    omega
  have hM5 : M.length ≤ 5 := by
    have := congrArg List.length hMg
    rw [List.length_map] at this
    have h5 := memPc_len l
    omega
  have hMok : ∀ g ∈ M.map (·.g), g.Ok := by rw [hMg]; exact hmok
  have hMV := MV.made hoM hMm hMl hMok
  have hB5 := Below.then hB1 hb5
  have hx5 := stab_blk _ _ _ _ hx1 hb5
  have hX5 := hX1.below hb5
  have hrx := hx5.range
  clear km hL1 hB1 hx1 hX1 hoM hMm hMg hb5 hMl hmok
  go_upto_region 4 with fail
  go_wp2_with (first | (refine wpList_load_row rfl _ rfl w.heap.size rfl X hrx hundB rfl hszX ?_) | fail)
  refine (kb W5 hX5).mono ?_
  rintro e W2 ⟨vs, rfl, ho2, hb2⟩
  have hB2 := Below.then hB5 hb2
  have hMV2 := hMV.below hb2
  have hvs2 := SV.own ho2
  have hgs : w.heap.size ≤ W2.heap.size := hB2.size
  clear hrx hx5 hB5 hX5 kb hb2 ho2 hMV hszX hszB hundB
  obtain ⟨d0, hd0⟩ : ∃ d0, begC c = d0 := ⟨_, rfl⟩
  rw [hd0] at hok hvs2 ⊢
  obtain ⟨W3, hW3, hth3, hs3, hb3⟩ := new_stC W2 d0 hok.ps vs
  have hone3 := st_one d0 vs hvs2.one
  have hlen3 : (stCs d0 vs).length = 18 := st_len hok.ps
  obtain ⟨Y, hY⟩ : ∃ Y, stCs d0 vs = Y := ⟨_, rfl⟩
  rw [hY] at hW3 hth3 hone3 hlen3 ⊢
  have hszY : (Try.prog.info? 33).map (·.size) = some Y.length := by rw [hlen3]; exact hszS
  clear hlen3 hd0
  have hB3 := Below.then hB2 hb3
  have hMV3 := MVR.of hMV2 hb3
  have hv3 := hvs2.below hb3
  clear hB2 hMV2 hvs2 hb3
  go_upto_region 5 with (first | (refine wpList_store_row rfl _ _ rfl W2.heap.size rfl Y rfl hth3 hszY hone3 hW3 ?_) | fail)
  clear hW3 hth3 hszY hone3 hY
  generalize W2.heap.size = bs at *
  obtain ⟨aM, cM, hvM, -⟩ := hMV3.mv
  obtain ⟨mn, hmn⟩ : ∃ mn, M.length = mn := ⟨_, rfl⟩
  rw [hmn] at hvM
  subst hvM
  replace hM5 : Aside (M.length ≤ 5) := hM5
  replace hmn : Aside (M.length = mn) := hmn
  have kn40 := fun W : World => w16_any n 40 (by decide) (by decide) W
  obtain ⟨q, hq⟩ : ∃ q, n % 40 = q := ⟨_, rfl⟩
  have hq0 : 0 ≤ q := by omega
  have hq1 : q < 40 := by omega
  simp only [hq] at kn40
  clear hq
  have hw1 : IntKind.i64.wrap (1 + q) = 1 + q := by rw [IntKind.wrap_i64]; omega
  have hszG : (Try.prog.info? 60).map (·.size) = some 6 := by kernel_rfl
  have hszI : (Try.prog.info? 64).map (·.size) = some 3 := by kernel_rfl
  go_wp2_with fail
  go_loopw [7, 9] (fun t7 t9 wr => ∃ (k : Nat) (d : Cp) (v : Value) (M : List PG), (k : Int) ≤ 1 + q ∧ t9 = .int .i64 (k : Int) ∧ d.Ok ∧ StAt bs d v wr ∧ SV v d.st wr ∧ MVR bs t7 M wr ∧ (∀ g ∈ M.map (·.g), g.Ok) ∧ Aside (M.length ≤ 5) ∧ Below w.heap.size w wr) (fun _ t9 _ => 42 - (Go.RowKit.intOf t9).toNat)
  case atStart => exact ⟨0, d0, vs, M, by omega, rfl, hok, hs3, hv3, hMV3, hMok, hM5, hB3⟩
  case round =>
  clear hok hs3 hv3 hMV3 hB3 hMok hmn hM5
  rename_i t7 t9
  obtain ⟨k, d, v, L, hk, rfl, hok, hs, hv, hMR, hMok, hL5, hB⟩ := hrel
  go_wp2_with fail
  refine (kn40 wr).mono ?_
  rintro e W1 ⟨rfl, hw⟩
  rw [hw]
  clear hw W1
  by_cases hkq : (k : Int) < 1 + q
  rotate_left
  · go_wp2_with fail
    go_ret
    exact ⟨rfl, hB⟩
  have hMV := hMR.mv
  have hMG := hMV.mg
  obtain ⟨aL, cL, hv7, -⟩ := hMR.mv
  obtain ⟨ml, hml⟩ : ∃ ml, L.length = ml := ⟨_, rfl⟩
  rw [hml] at hv7
  subst hv7
  replace hml : Aside (L.length = ml) := hml
  obtain ⟨-, hM6⟩ := hMV.box 47
  have hLB6 := alloc_below wr (.cells #[.slice aL ml cL, .bool false, .int .i64 0, .int .i64 0, .int .i64 0, .int .i64 0] 47)
  have hsb := hs.blk.2
  have hgb := hB.size
  go_upto_region 9 with fail
  clear hMV
  generalize wr.alloc (.cells #[.slice aL ml cL, .bool false, .int .i64 0, .int .i64 0, .int .i64 0, .int .i64 0] 47) = W6 at *
  obtain ⟨bm, hbm⟩ : ∃ bm, wr.heap.size = bm := ⟨_, rfl⟩
  have hs6 := hs.keep hLB6
  have hv6 := hv.below hLB6
  rw [hbm] at hM6 hLB6 hsb hgb ⊢
  replace hbm : Aside (wr.heap.size = bm) := hbm
  -- the segment that the processor is in
  have kg1 := msegV bm aL cL L d.seg hMG W6 ⟨(hM6.blk.1 0 _ rfl).1, hM6.row⟩
  have x0 := hs6.seg
  go_wp2_with fail
  refine kg1.mono ?_
  rintro e W7 ⟨vg, rfl, hog, hb7⟩
  have hLB7 := hLB6.trans (hb7.mono (Nat.le_of_lt hM6.blk.2))
  have hM7 := hM6.below hb7
  have hbmg := hM7.blk.2
  have hbm6 := hM6.blk.2
  have hvg1 : vg.oneCell' = true := by obtain ⟨a3, c3, rfl, -⟩ := hog.slice wd_okC.len; rfl
  obtain ⟨G1, hG1⟩ : ∃ G1, kn (L.map (·.g)) d.seg = G1 := ⟨_, rfl⟩
  rw [hG1] at hog ⊢
  obtain ⟨W8, hW8, hth8, hbg8, hk8⟩ := put_new W7 #[.slice none 0 0, .int .i64 0, .int .i64 0, .int .i64 0, .int .i64 0, .int .i64 0] 60 (sg6 (tellG G1) vg) rfl (by show 0 < 6; decide)
  have hLB8 := hLB7.trans (hk8.mono (Nat.le_of_lt hbmg))
  have hs8 := (hs6.keep hb7).keep hk8
  have hv8 := (hv6.below hb7).below hk8
  have hM8 := hM7.below hk8
  have hog8 := hog.below hk8
  have hone8 := sg6_one3 (tellG G1) hvg1
  have hszg : (Try.prog.info? 60).map (·.size) = some (sg6 (tellG G1) vg).length := hszG
  obtain ⟨Y, hY⟩ : ∃ Y, sg6 (tellG G1) vg = Y := ⟨_, rfl⟩
  rw [hY] at hW8 hth8 hone8 hszg ⊢
  clear kg1 x0 hs6 hv6 hM6 hb7 hM7 hk8 hog hvg1 hY hLB6 hLB7
  go_upto_region 10 with (first | (refine wpList_store_row rfl _ _ rfl W7.heap.size rfl Y rfl hth8 hszg hone8 hW8 ?_) | fail)
  clear hW8 hth8 hszg hone8
  generalize W7.heap.size = bg at *
  -- the step
  have hFl := step_flt d (L.map (·.g))
  have hso := fun h => step_ok (m := L.map (·.g)) hok hMok h
  have hrf := fun h1 h2 => ring_step (m := L.map (·.g)) hok hMok h1 h2
  obtain ⟨O, hO⟩ : ∃ O, stepC d (L.map (·.g)) = O := ⟨_, rfl⟩
  have ks := cstepV d hok v hM8 hv8 O hO
  rw [hO] at hFl hso hrf
  have hrs := hs8.blk.range
  have hlen : (stCs d v).length = 18 := st_len hok.ps
  obtain ⟨Y, hY⟩ : ∃ Y, stCs d v = Y := ⟨_, rfl⟩
  rw [hY] at ks hrs hlen
  have hszY : (Try.prog.info? 33).map (·.size) = some Y.length := by rw [hlen]; exact hszS
  clear hlen
  go_wp2_with (first | (refine wpList_load_row rfl _ rfl bs rfl Y hrs hundS rfl hszY ?_) | fail)
  refine ks.mono ?_
  rintro e W9 hP
  clear hrs hszY hY ks hv8
  obtain ⟨vT, is9, s9, o9, y9, n9, rfl, hoT, hbm9, hso9, hwr9⟩ := hP.uni hM8.blk
  clear hP
  rw [hml.out] at hbm9
  obtain ⟨Oe, T, Owr, Ov, Otd⟩ := O
  have hT4 : T.ps.length = 4 := by
    rcases hFl with h | ⟨E, h, -⟩
    · exact (hso h).ps
    · injection h with _ h2
      rw [h2]; rfl
  have hvT9 := SV.own hoT
  obtain ⟨W10, hW10, hth10, hsT, hb10⟩ := new_stC W9 T hT4 vT
  have hLB9 := hso9.below hLB8 (Nat.le_refl _) (Nat.le_of_lt hM8.blk.2)
  have hLB10 := hLB9.trans (hb10.mono (Nat.le_of_lt hbm9.2))
  have hB10 := hB.trans (hLB10.mono hgb)
  have hone10 := st_one T vT hvT9.one
  have hlen10 : (stCs T vT).length = 18 := st_len hT4
  have hrT := hsT.blk.range
  obtain ⟨Y, hY⟩ : ∃ Y, stCs T vT = Y := ⟨_, rfl⟩
  have hYv : Aside (.agg (stCs (Ot.mk Oe T Owr Ov Otd).t vT).toArray = Value.agg Y.toArray) := by
    show _ = _
    rw [← hY]
  rw [hY] at hW10 hth10 hone10 hlen10
  have hszY : (Try.prog.info? 33).map (·.size) = some Y.length := by rw [hlen10]; exact hszS
  have xh := hsT.hl
  have hs10 : StAt bs d v W10 := (StAt.keep (W := W9) ⟨hok.ps, hso9.blk hs8.blk (by omega)⟩ hb10)
  have hbg10 := stab_blk _ _ _ _ (hso9.blk hbg8 (by omega)) hb10
  have hbm10 := stab_blk _ _ _ _ hbm9 hb10
  have hog10 := (hso9.own hog8 (fun q => by have := (hog8.lt q).1; omega)).below hb10
  have hoT10 := hoT.below hb10
  have hbT8 : W8.heap.size ≤ W9.heap.size := hso9.size
  have hbg8l := hbg8.2
  clear hs8 hM8 hbg8 hog8 hbm9 hso9 hLB8 hLB9 hoT hvT9 hb10 hY
  go_upto_region 11 with (first | (refine wpList_store_row rfl _ _ rfl W9.heap.size rfl Y hYv.out hth10 hszY hone10 hW10 ?_) | fail)
  clear hW10 hth10 hYv hszY hone10 hlen10
  generalize W9.heap.size = bT at *
  rcases hFl with he0 | ⟨E, hE, hE1, hE2⟩
  rotate_left
  · injection hE with hE3
    subst hE3
    have hEb : (Oe != 0) = true := by simp; omega
    have hEn : ¬ Oe = 0 := by omega
    clear hs10 hbg10 hbm10 hog10 hoT10 hrT hsT hwr9 hso hrf
    go_wp2_with fail
    go_ret
    exact ⟨rfl, hB10⟩
  replace he0 : Oe = 0 := he0
  subst he0
  by_cases hhl : T.hl = true
  · rw [hhl] at xh
    clear hs10 hbg10 hbm10 hog10 hoT10 hrT hsT hwr9 hso hrf
    go_wp2_with fail
    go_ret
    exact ⟨rfl, hB10⟩
  have hhf : T.hl = false := by simpa using hhl
  rw [hhf] at xh
  have hTok : T.Ok := hso rfl
  obtain ⟨his, hin, hde, hie, hst, hR⟩ := hrf rfl hhf
  rw [hG1] at his hin hde
  have hfit := wAt_fit (hG1 ▸ kn_ok hMok d.seg : G1.Ok) d.off
  have hii : decI (wAt G1 d.off) = fetI d (L.map (·.g)) := by unfold fetI; rw [hG1]
  have htg : tellG G1 = G1 := by unfold tellG; rw [if_pos his]
  rw [htg] at hbg10 hog10
  clear hhl hrf hso hG1
  obtain ⟨j, hj⟩ : ∃ j : Nat, d.off = (j : Int) := ⟨d.off.toNat, by omega⟩
  obtain ⟨gn, hgn⟩ : ∃ gn, G1.ws.length = gn := ⟨_, rfl⟩
  have hjn : j < gn := by omega
  obtain ⟨ag, cg, hvg, -, -, hrow⟩ := hog10.slice wd_okC.len
  rw [hgn] at hvg
  subst hvg
  obtain ⟨x, hx⟩ : ∃ x, G1.ws[j]? = some x := ⟨_, List.getElem?_eq_getElem (by omega)⟩
  have hwx : wAt G1 d.off = x := by unfold wAt; rw [hj, List.getD_eq_getElem?_getD, Int.toNat_natCast, hx]; rfl
  rw [hwx] at hde hfit hii
  obtain ⟨z1, rfl, -⟩ := hrow j x hx
  have hcx : W10.cell? (z1.add j) = some (.int .i64 x) := by
    have := (hrow.at wd_okC.len hx) 0 (.int .i64 x) rfl
    rw [Nat.mul_one] at this
    exact this
  have kd := fun W : World => riDec_any x hfit W
  simp only [hde, hii] at kd
  obtain ⟨i, hi⟩ : ∃ i, fetI d (L.map (·.g)) = i := ⟨_, rfl⟩
  rw [hi] at hR hie
  simp only [hi] at kd
  have x1 : W10.cell? ⟨bs, 1, none⟩ = some (.int .i64 (j : Int)) := by rw [← hj]; exact hs10.off
  have xg := (hbg10.1 0 (.slice (some z1) gn cg) rfl).1
  have i1 : ¬ (j : Int) < 0 := by omega
  have i2 : ¬ (gn : Int) ≤ (j : Int) := by omega
  have i3 : (j : Int) < (gn : Int) := by omega
  rw [his]
  clear hrow hx hwx hin hde hii hj hgn hst
  go_upto_region 13 with fail
  go_upto_region 15 with fail
  go_wp2_with fail
  refine (kd W10).mono ?_
  rintro e W11 ⟨rfl, hb11⟩
  obtain ⟨W12, hW12, hth12, hbi12, hk12⟩ := put_new W11 #[.int .i64 0, .int .i64 0, .int .i64 0] 64 (ins3 i) rfl (by show 0 < 3; decide)
  have hb12 := Below.then hb11 hk12
  have hs12 := hs10.keep hb12
  have hsT12 := hsT.keep hb12
  have hbm12 := stab_blk _ _ _ _ hbm10 hb12
  have hoT12 := hoT10.below hb12
  have hLB12 := hLB10.trans (hb12.mono (Nat.le_of_lt hbm10.2))
  clear kd hb11 hk12 hb12 hs10 hsT hbm10 hoT10 hLB10 hog10 hbg10 x1 xg hcx hrT hB10 xh
  go_upto_region 16 with (first | (refine wpList_store_row rfl _ _ rfl W11.heap.size rfl (ins3 i) rfl hth12 hszI (ins3_one _) hW12 ?_) | fail)
  clear hW12 hth12
  generalize W11.heap.size = bi at *
  have hMV12 := (hMR.below (by rw [hbm.out]; exact hLB12)).mv
  have hrL := hMV12.row
  have kg2 := msegV bm aL cL L T.seg hMG W12 ⟨by rw [hml.out]; exact (hbm12.1 0 _ rfl).1, hrL⟩
  have x0 := hsT12.seg
  go_upto_region 18 with fail
  go_wp2_with fail
  refine kg2.mono ?_
  rintro e W13 ⟨vg2, rfl, hog2, hb13⟩
  have hvg2 : vg2.oneCell' = true := by obtain ⟨a3, c3, rfl, -⟩ := hog2.slice wd_okC.len; rfl
  obtain ⟨G2, hG2⟩ : ∃ G2, kn (L.map (·.g)) T.seg = G2 := ⟨_, rfl⟩
  rw [hG2] at hog2 ⊢
  obtain ⟨W14, hW14, hth14, hbg14, hk14⟩ := put_new W13 #[.slice none 0 0, .int .i64 0, .int .i64 0, .int .i64 0, .int .i64 0, .int .i64 0] 60 (sg6 (tellG G2) vg2) rfl (by show 0 < 6; decide)
  have hb14 := Below.then hb13 hk14
  have hs14 := hs12.keep hb14
  have hsT14 := hsT12.keep hb14
  have hbm14 := stab_blk _ _ _ _ hbm12 hb14
  have hbi14 := stab_blk _ _ _ _ hbi12 hb14
  have hoT14 := hoT12.below hb14
  have hLB14 := hLB12.trans (hb14.mono (Nat.le_of_lt hbm12.2))
  have hone14 := sg6_one3 (tellG G2) hvg2
  have hszg : (Try.prog.info? 60).map (·.size) = some (sg6 (tellG G2) vg2).length := hszG
  have xg3 := (hbg14.1 3 (.int .i64 (tellG G2).rg.b) rfl).1
  have xg4 := (hbg14.1 4 (.int .i64 (tellG G2).rg.c) rfl).1
  have xg5 := (hbg14.1 5 (.int .i64 (tellG G2).rg.g) rfl).1
  obtain ⟨Y, hY⟩ : ∃ Y, sg6 (tellG G2) vg2 = Y := ⟨_, rfl⟩
  rw [hY] at hW14 hth14 hone14 hszg ⊢
  clear kg2 x0 hrL hMV12 hb13 hk14 hb14 hs12 hsT12 hbm12 hbi12 hoT12 hLB12 hvg2 hog2 hY hbg14
  go_upto_region 19 with (first | (refine wpList_store_row rfl _ _ rfl W13.heap.size rfl Y rfl hth14 hszg hone14 hW14 ?_) | fail)
  clear hW14 hth14 hszg hone14
  generalize W13.heap.size = bg2 at *
  have xT2 := hsT14.ring
  have xT1 := hsT14.off
  have xs2 := hs14.ring
  have xi0 : W14.cell? ⟨bi, 0, none⟩ = some (.int .i64 i.o) := (hbi14.1 0 _ rfl).1
  refine (show Code.wp Try.prog ringsR19 _ _ _ from rings_r19 xT2 xT1 xs2 xi0 xg3 xg4 xg5 ?hdn ?hup ?hq)
  case hdn =>
    intro h1
    have h := hR.down h1
    replace h : i.o = 20 ∧ (kn (L.map (·.g)) T.seg).is = true ∧ T.ring = (kn (L.map (·.g)) T.seg).rg.b ∧ d.ring ≤ (kn (L.map (·.g)) T.seg).rg.c ∧ T.off < (kn (L.map (·.g)) T.seg).rg.g := h
    rw [hG2] at h
    exact h
  case hup => exact fun h => hR.up h
  intro x97 x98 x99 x100 x101 x102 x103 x104 x105 x106 x107 x108 x109 x110 x111 x112 x113 x114 x115 x116 x117 x118 x119 x120 x121 x122 x123 x124 x125 x126 x127 x128 x129 x130 x131 x132 x133 x134 x135 x136 x137 x138 x139 x140 x141 x142 x143 x144 x145 x146 x147 x148 x149 x150
  clear xg3 xg4 xg5 xT2 xT1 xs2 xi0 hG2
  go_upto_block 2 with fail
  go_cut [21] from 152 to 232 (fun t21 wc => Below W14.heap.size W14 wc)
  case first =>
    go_wp2_with fail
    go_loopw [21] (fun t21 wr => ∃ jj : Nat, jj ≤ 4 ∧ t21 = .int .i64 (jj : Int) ∧ Below W14.heap.size W14 wr) (fun t21 _ => 4 - (Go.RowKit.intOf t21).toNat)
    case atStart => exact ⟨0, by omega, rfl, Below.refl _ _⟩
    case round =>
    obtain ⟨jj, hj4, rfl, hbj⟩ := hrel
    by_cases hjj : jj < 4
    · have i4 : (jj : Int) < 4 := by omega
      have i5 : ¬ (jj : Int) < 0 := by omega
      have hsq := hs14.keep hbj
      have hTq := hsT14.keep hbj
      have hiq := stab_blk _ _ _ _ hbi14 hbj
      go_upto_region 24 with fail
      refine (show Code.wp Try.prog ringsR24 _ _ _ from rings_r24 i4 i5 (fun h => hR.p20 h jj hjj) (fun h => hR.p21 h jj hjj) (fun h => hR.pd jj hjj h) (fun h h2 => hR.ps h jj hjj h2) (hTq.pr hjj) (hsq.pr hjj) hsq.ring hTq.ring (hiq.1 0 _ rfl).1 (hiq.1 1 _ rfl).1 (fun _ _ d _ _ h => by cases d <;> exact h) ?_)
      intro x156 x157 x158 x159 x160 x161 x162 x163 x164 x165 x166 x167 x168 x169 x170 x171 x172 x173 x174 x175 x176 x177 x178 x179 x180 x181 x182 x183 x184 x185 x186 x187 x188 x189 x190 x191 x192 x193 x194 x195 x196 x197 x198 x199 x200 x201 x202 x203 x204 x205 x206 x207 x208 x209 x210 x211 x212 x213 x214 x215 x216 x217 x218 x219 x220 x221 x222 x223 x224 x225 x226 x227 x228 x229 x230 x231 W15 hb15
      have hbj2 := Below.then hbj hb15
      go_wp2_with fail
      exact ⟨⟨jj + 1, by omega, by simp, hbj2⟩, by simp [Go.RowKit.intOf]; omega⟩
    obtain rfl : jj = 4 := by omega
    have i4 : ¬ (4 : Int) < 4 := by omega
    go_wp2_with fail
    go_meet
    exact hbj
  case rest =>
  have hbj := hcut
  have hsq := hs14.keep hbj
  have hTq := hsT14.keep hbj
  have hmq := stab_blk _ _ _ _ hbm14 hbj
  have hiq := stab_blk _ _ _ _ hbi14 hbj
  have hoTq := hoT14.below hbj
  have hLBq := hLB14.trans (hbj.mono (Nat.le_of_lt hbm14.2))
  have hMRq := hMR.below (by rw [hbm.out]; exact hLBq)
  have hBq := hB.trans (hLBq.mono hgb)
  have hgT : bs < bT := by have := hbm6; omega
  have hgB : bs < W8.heap.size := by omega
  go_step
  rcases hwr9 with ⟨-, rfl, rfl, rfl, rfl, rfl⟩ | ⟨hwr, rfl, rfl⟩
  · refine (show Code.wp Try.prog ringsT _ _ _ from rings_T0 (i := i) (d := d) (T := T) (v := v) (vT := vT) hsq hTq hmq hoTq hMRq hBq hgs hgT hgB hT4 hMok hL5 hml (fun _ _ d _ _ h => by cases d <;> exact h) ?_)
    intro x7 x22 x23 x24 x233 x234 x235 x236 x237 x238 x239 x240 x241 x242 x243 x244 x245 x246 x247 x248 x249 x250 x251 x252 x253 x254 x255 x256 x257 x258 x259 x260 x261 x262 x263 x264 x265 x266 x267 x268 x269 x270 x271 x272 x273 x274 x275 x276 x277 x278 x279 x280 x281 x282 x283 x284 x285 x286 x287 x288 x289 x290 x291 x292 x293 x294 x295 x296 x297 x298 x299 x300 x301 x302 x303 x304 x305 x306 x307 x308 x309 x310 x311 x312 x313 x314 x315 x316 x317 x318 x319 x320 x321 W' L' hM' hMk' hL' hs' hv' hB'
    go_wp2_with fail
    exact ⟨⟨k + 1, T, vT, L', by omega, by simp, hTok, hs', hv', hM', hMk', hL', hB'⟩, by simp [Go.RowKit.intOf]; omega⟩
  · obtain ⟨-, hG3is, hmx, hmd, hino, hy9⟩ := hR.wr _ _ _ hwr
    refine (show Code.wp Try.prog ringsT _ _ _ from rings_T1 (d := d) (T := T) (v := v) (vT := vT) hsq hTq hmq hoTq hMRq hBq hgs hgT hgB hT4 hMok hL5 hml hok hMG hiq hie hmx hG3is hmd hino hy9 (fun _ _ d _ _ h => by cases d <;> exact h) ?_)
    intro x7 x22 x23 x24 x233 x234 x235 x236 x237 x238 x239 x240 x241 x242 x243 x244 x245 x246 x247 x248 x249 x250 x251 x252 x253 x254 x255 x256 x257 x258 x259 x260 x261 x262 x263 x264 x265 x266 x267 x268 x269 x270 x271 x272 x273 x274 x275 x276 x277 x278 x279 x280 x281 x282 x283 x284 x285 x286 x287 x288 x289 x290 x291 x292 x293 x294 x295 x296 x297 x298 x299 x300 x301 x302 x303 x304 x305 x306 x307 x308 x309 x310 x311 x312 x313 x314 x315 x316 x317 x318 x319 x320 x321 W' L' hM' hMk' hL' hs' hv' hB'
    go_wp2_with fail
    exact ⟨⟨k + 1, T, vT, L', by omega, by simp, hTok, hs', hv', hM', hMk', hL', hB'⟩, by simp [Go.RowKit.intOf]; omega⟩
end Go.Proofs.Ytinibccphecdfaa
