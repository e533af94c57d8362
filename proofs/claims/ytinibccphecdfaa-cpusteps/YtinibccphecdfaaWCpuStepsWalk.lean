/-
  CpuSteps, walked.
-/
import Derived.Test.YtinibccphecdfaaWCpuLaw3
import Derived.Test.YtinibccphecdfaaWCpuStep
import Derived.Test.YtinibccphecdfaaWCpuStsR
import Derived.Test.YtinibccphecdfaaWCpuStsW
import Derived.Deep.CutBlock
namespace Go.Proofs.Ytinibccphecdfaa
open Go.RowKit
set_option maxRecDepth 8000
set_option linter.unusedSimpArgs false
set_option linter.unusedVariables false

set_option maxRecDepth 8000 in
set_option maxHeartbeats 8000000 in
theorem cpuSteps_walk (l : List PP) (a1 : Option Addr) (c1 : Nat) (c : Cp) (a2 : Option Addr) (c2 : Nat) (n : Int) (w : World) (hL : RowP w a1 l) (hX : BegX w c a2) :
    Calls Try.prog 3 #[.slice a1 l.length c1, .agg (bgCs c (.slice a2 c.st.length c2)).toArray, .int .i64 n] w fun e w' => e = .returned (.bool true) ∧ Below w.heap.size w w' := by
  have hundS := Try.underlying33
  have hszS : (Try.prog.info? 33).map (·.size) = some 18 := by kernel_rfl
  have hundB := Try.underlying28
  have hszB : (Try.prog.info? 28).map (·.size) = some 17 := by kernel_rfl
  have hmi : ∀ (v : Value) (w : World), (Instr.makeInterface 43 v).run Try.prog w = .ok (.iface 43 v) w := fun _ _ => rfl
  have hblen : (bgCs c (.slice a2 c.st.length c2)).length = 17 := by
    have h := st_len (v := .slice a2 c.st.length c2) hX.ps
    rw [bg_st, List.length_append] at h
    simpa using h
  have hx0 : BlkL w.heap.size (bgCs c (.slice a2 c.st.length c2)) (w.alloc (.cells (bgCs c (.slice a2 c.st.length c2)).toArray 28)) := blkl_alloc w _ _
  have hB0 := alloc_below w (.cells (bgCs c (.slice a2 c.st.length c2)).toArray 28)
  have hL0 := hL.below hB0
  have hX0 := hX.below hB0
  have kb := fun (W : World) (h : BegX W c a2) => cbeg_any c a2 c2 W h
  have km := fun (W : World) (h : RowP W a1 l) => cmemo_any l a1 c1 W h
  have hok := begC_ok hX
  have hmok := memPc_ok hL
  obtain ⟨X, hXc⟩ : ∃ X, bgCs c (.slice a2 c.st.length c2) = X := ⟨_, rfl⟩
  rw [hXc] at hx0 hB0 hL0 hX0 hblen ⊢
  simp only [hXc] at kb
  clear hXc hL hX
  have hszX : (Try.prog.info? 28).map (·.size) = some X.length := by rw [hblen]; exact hszB
  clear hblen
  generalize l.length = ln at *
  go_enter Try.func3, Try.ntmps3
  go_upto_region 1 with fail
  generalize w.alloc (.cells X.toArray 28) = U0 at *
  go_wp2_with fail
  refine (ck_any U0).mono ?_
  rintro e W1 ⟨rfl, hb1⟩
  have hx1 := stab_blk _ _ _ _ hx0 hb1
  have hB1 := Below.then hB0 hb1
  have hL1 := hL0.below hb1
  have hX1 := hX0.below hb1
  clear hx0 hB0 hL0 hX0 hb1
  go_upto_region 3 with fail
  go_wp2_with fail
  refine (km W1 hL1).mono ?_
  rintro e W5 ⟨M, vM, rfl, hoM, hMm, hMg, hb5⟩
  have hMl : M.length < 1000000 := by
    have := congrArg List.length hMg
    rw [List.length_map] at this
    have h5 := memPc_len l
    omega
  have hM5 : M.length ≤ 5 := by
    have := congrArg List.length hMg
    rw [List.length_map] at this
    have h5 := memPc_len l
    omega
  have hMok : ∀ g ∈ M.map (·.g), g.Ok := by rw [hMg]; exact hmok
  have hMV := MV.made hoM hMm hMl hMok
  have hB5 := Below.then hB1 hb5
  have hx5 := stab_blk _ _ _ _ hx1 hb5
  have hX5 := hX1.below hb5
  have hrx := hx5.range
  clear km hL1 hB1 hx1 hX1 hoM hMm hMg hb5 hMl hmok
  go_upto_region 4 with fail
  go_wp2_with (first | (refine wpList_load_row rfl _ rfl w.heap.size rfl X hrx hundB rfl hszX ?_) | fail)
  refine (kb W5 hX5).mono ?_
  rintro e W2 ⟨vs, rfl, ho2, hb2⟩
  have hB2 := Below.then hB5 hb2
  have hMV2 := hMV.below hb2
  have hvs2 := SV.own ho2
  have hgs : w.heap.size ≤ W2.heap.size := hB2.size
  clear hrx hx5 hB5 hX5 kb hb2 ho2 hMV hszX hszB hundB
  obtain ⟨d0, hd0⟩ : ∃ d0, begC c = d0 := ⟨_, rfl⟩
  rw [hd0] at hok hvs2 ⊢
  obtain ⟨W3, hW3, hth3, hs3, hb3⟩ := new_stC W2 d0 hok.ps vs
  have hone3 := st_one d0 vs hvs2.one
  have hlen3 : (stCs d0 vs).length = 18 := st_len hok.ps
  obtain ⟨Y, hY⟩ : ∃ Y, stCs d0 vs = Y := ⟨_, rfl⟩
  rw [hY] at hW3 hth3 hone3 hlen3 ⊢
  have hszY : (Try.prog.info? 33).map (·.size) = some Y.length := by rw [hlen3]; exact hszS
  clear hlen3 hd0
  have hB3 := Below.then hB2 hb3
  have hMV3 := MVR.of hMV2 hb3
  have hv3 := hvs2.below hb3
  clear hB2 hMV2 hvs2 hb3
  go_upto_region 5 with (first | (refine wpList_store_row rfl _ _ rfl W2.heap.size rfl Y rfl hth3 hszY hone3 hW3 ?_) | fail)
  clear hW3 hth3 hszY hone3 hY
  generalize W2.heap.size = bs at *
  obtain ⟨aM, cM, hvM, -⟩ := hMV3.mv
  obtain ⟨mn, hmn⟩ : ∃ mn, M.length = mn := ⟨_, rfl⟩
  rw [hmn] at hvM
  subst hvM
  replace hM5 : Aside (M.length ≤ 5) := hM5
  replace hmn : Aside (M.length = mn) := hmn
  have kn40 := fun W : World => w16_any n 40 (by decide) (by decide) W
  obtain ⟨q, hq⟩ : ∃ q, n % 40 = q := ⟨_, rfl⟩
  have hq0 : 0 ≤ q := by omega
  have hq1 : q < 40 := by omega
  simp only [hq] at kn40
  clear hq
  have hw1 : IntKind.i64.wrap (1 + q) = 1 + q := by rw [IntKind.wrap_i64]; omega
  have hundR := Try.underlying39
  have hszR : (Try.prog.info? 39).map (·.size) = some 18 := by kernel_rfl
  have hszO : (Try.prog.info? 45).map (·.size) = some 4 := by kernel_rfl
  go_upto_if 30 with fail
  go_cut [] from 29 to 36 (fun wc => ∃ (d : Cp) (v : Value), d.Ok ∧ StAt bs d v wc ∧ SV v d.st wc ∧ MVR bs (.slice aM mn cM) M wc ∧ Below w.heap.size w wc)
  case first =>
    by_cases h3 : n.tmod 3 = 0
    · have hmn0 : (newC : Cp).st.length ≤ 1000 := by decide
      have kn1 := cnew_any W3
      have kst := fun (W : World) => cstateV newC rfl hmn0 nilS W (SV.nil W)
      have krn := fun (W : World) => rnew_any W
      have ksm := fun (u : Value) (W : World) (h : SV u newC.st W) => csameV newC rfl hmn0 u nilS W h (SV.nil W)
      have honeN := st_one newC nilS rfl
      have hlenN : (stCs newC nilS).length = 18 := rfl
      obtain ⟨YN, hYN⟩ : ∃ Y, stCs newC nilS = Y := ⟨_, rfl⟩
      simp only [hYN] at kn1 kst krn ksm
      have e3 : (n.tmod 3 == 0) = true := by simpa using h3
      go_wp2_with fail
      refine kn1.mono ?_
      rintro e V1 ⟨rfl, hb1⟩
      obtain ⟨V2, hV2, hthv, hsv, hkv⟩ := put_st (hs3.keep hb1) (d := newC) rfl nilS
      have hBv := hkv _ _ hgs (Below.then hB3 hb1)
      have hMRv : MVR bs (.slice aM mn cM) M V2 := by rw [← hV2]; exact (hMV3.below hb1).sole (Sole.cells ⟨rfl, rfl, rfl, Nat.le_refl _, fun _ _ _ => rfl⟩ (.inl rfl) _ _)
      have hrv := hsv.blk.range
      rw [hYN] at hV2 hthv hrv honeN hlenN
      have hszN : (Try.prog.info? 33).map (·.size) = some YN.length := by rw [hlenN]; exact hszS
      clear kn1 hlenN hs3 hv3 hMV3 hB3 hb1 hkv
      go_upto_region 7 with (first | (refine wpList_store_row rfl (.tmp 8) _ rfl bs rfl YN rfl hthv hszN honeN hV2 ?_) | fail)
      go_wp2_with (first | (refine wpList_load_row rfl (.tmp 8) rfl bs rfl YN hrv hundS rfl hszN ?_) | fail)
      refine (kst V2).mono ?_
      rintro e V3 ⟨u, rfl, hu, hb3⟩
      go_wp2_with fail
      refine (krn V3).mono ?_
      rintro e V4 ⟨rfl, hb4⟩
      go_wp2_with fail
      refine (ksm u V4 (hu.below hb4)).mono ?_
      rintro e V5 ⟨rfl, hb5⟩
      have hb35 := Below.then (Below.then hb3 hb4) hb5
      go_wp2_with fail
      go_meet
      exact ⟨newC, nilS, newC_ok, hsv.keep hb35, SV.nil _, hMRv.below hb35, Below.then hBv hb35⟩
    · have e3 : (n.tmod 3 == 0) = false := by simpa using h3
      go_wp2_with fail
      go_meet
      exact ⟨d0, vs, hok, hs3, hv3, hMV3, hB3⟩
  case rest =>
  clear hok hs3 hv3 hMV3 hB3
  obtain ⟨d0, vs, hok, hs3, hv3, hMV3, hB3⟩ := hcut
  go_wp2_with fail
  go_loopw [7, 9] (fun t7 t9 wr => ∃ (k : Nat) (d : Cp) (v : Value) (M : List PG), (k : Int) ≤ 1 + q ∧ t9 = .int .i64 (k : Int) ∧ d.Ok ∧ StAt bs d v wr ∧ SV v d.st wr ∧ MVR bs t7 M wr ∧ (∀ g ∈ M.map (·.g), g.Ok) ∧ Aside (M.length ≤ 5) ∧ Below w.heap.size w wr) (fun _ t9 _ => 42 - (Go.RowKit.intOf t9).toNat)
  case atStart => exact ⟨0, d0, vs, M, by omega, rfl, hok, hs3, hv3, hMV3, hMok, hM5, hB3⟩
  case round =>
  clear hok hs3 hv3 hMV3 hB3 hMok hmn hM5
  rename_i t7 t9
  obtain ⟨k, d, v, L, hk, rfl, hok, hs, hv, hMR, hMok, hL5, hB⟩ := hrel
  go_wp2_with fail
  refine (kn40 wr).mono ?_
  rintro e W1 ⟨rfl, hw⟩
  rw [hw]
  clear hw W1
  by_cases hkq : (k : Int) < 1 + q
  rotate_left
  · go_wp2_with fail
    go_ret
    exact ⟨rfl, hB⟩
  have hMG := hMR.mv.mg
  obtain ⟨aL, cL, hv7, -⟩ := hMR.mv
  obtain ⟨ml, hml⟩ : ∃ ml, L.length = ml := ⟨_, rfl⟩
  rw [hml] at hv7
  subst hv7
  replace hml : Aside (L.length = ml) := hml
  have hd4 := hok.ps
  have hd1000 : d.st.length ≤ 1000 := Nat.le_trans hok.st (by decide)
  -- the state ahead, told
  have kO := cstateO d hd4 hd1000 v wr hv
  have hrs := hs.blk.range
  have hlen : (stCs d v).length = 18 := st_len hd4
  obtain ⟨Y, hY⟩ : ∃ Y, stCs d v = Y := ⟨_, rfl⟩
  rw [hY] at kO hrs hlen
  have hszY : (Try.prog.info? 33).map (·.size) = some Y.length := by rw [hlen]; exact hszS
  clear hlen
  have hsb := hs.blk.2
  have hgb := hB.size
  go_wp2_with (first | (refine wpList_load_row rfl _ rfl bs rfl Y hrs hundS rfl hszY ?_) | fail)
  refine kO.mono ?_
  rintro e W2 ⟨u, rfl, hu2, huc, hb2⟩
  obtain ⟨W3, hW3, hth3, hsW3, hb3⟩ := new_st W2 d hd4 u 39
  have hone3 := st_one d u hu2.one
  have hlen3 : (stCs d u).length = 18 := st_len hd4
  obtain ⟨YW, hYW⟩ : ∃ Y, stCs d u = Y := ⟨_, rfl⟩
  rw [hYW] at hW3 hth3 hone3 hlen3
  have hszW : (Try.prog.info? 39).map (·.size) = some YW.length := by rw [hlen3]; exact hszR
  have hb23 := Below.then hb2 hb3
  have hs3 := hs.keep hb23
  have hv3 := hv.below hb23
  have hu3 := hu2.below hb3
  have hMR3 := hMR.below hb23
  have hB3 := Below.then hB hb23
  have hbsw : bs < W2.heap.size := Nat.lt_of_lt_of_le hsb hb2.size
  clear kO hrs hszY hY hlen3 hb2 hb3 hb23 hs hv hu2 hMR hB hsb
  go_upto_region 13 with (first | (refine wpList_store_row rfl _ _ rfl W2.heap.size rfl YW rfl hth3 hszW hone3 hW3 ?_) | fail)
  clear hW3 hth3 hone3
  generalize W2.heap.size = bw at *
  -- the memory
  obtain ⟨-, hM6⟩ := hMR3.mv.box 47
  have hLB6 := alloc_below W3 (.cells #[.slice aL ml cL, .bool false, .int .i64 0, .int .i64 0, .int .i64 0, .int .i64 0] 47)
  go_upto_region 14 with fail
  have hs6 := hs3.keep hLB6
  have hv6 := hv3.below hLB6
  have hW6 := hsW3.keep hLB6
  have hu6 := hu3.below hLB6
  have hbwl := hsW3.blk.2
  have hgb3 := hB3.size
  clear hs3 hsW3
  generalize W3.alloc (.cells #[.slice aL ml cL, .bool false, .int .i64 0, .int .i64 0, .int .i64 0, .int .i64 0] 47) = W6 at *
  obtain ⟨bm, hbm⟩ : ∃ bm, W3.heap.size = bm := ⟨_, rfl⟩
  rw [hbm] at hM6 hLB6 hbwl hgb3 ⊢
  replace hbm : Aside (W3.heap.size = bm) := hbm
  -- the step
  have hFl := step_flt d (L.map (·.g))
  have hso := fun h => step_ok (m := L.map (·.g)) hok hMok h
  have hwo := wrO_step d (L.map (·.g))
  have krS := fun (W : World) (h1 : SV u d.st W) (h2 : RowG W aL L) => rstep_any d hok u L aL cL hMG W h1 h2 huc
  obtain ⟨O, hO⟩ : ∃ O, stepC d (L.map (·.g)) = O := ⟨_, rfl⟩
  have ks := cstepV d hok v hM6 hv6 O hO
  rw [hO] at hFl hso hwo
  simp only [hO] at krS
  have hrs := hs6.blk.range
  have hlen : (stCs d v).length = 18 := st_len hd4
  obtain ⟨Y, hY⟩ : ∃ Y, stCs d v = Y := ⟨_, rfl⟩
  rw [hY] at ks hrs hlen
  have hszY : (Try.prog.info? 33).map (·.size) = some Y.length := by rw [hlen]; exact hszS
  clear hlen
  go_wp2_with (first | (refine wpList_load_row rfl _ rfl bs rfl Y hrs hundS rfl hszY ?_) | fail)
  refine ks.mono ?_
  rintro e W9 hP
  clear hrs hszY hY ks
  obtain ⟨vT, is9, s9, o9, y9, n9, rfl, hoT, hbm9, hso9, hwr9⟩ := hP.uni hM6.blk
  clear hP
  rw [hml.out] at hbm9
  obtain ⟨Oe, T, Owr, Ov, Otd⟩ := O
  have hT4 : T.ps.length = 4 := by
    rcases hFl with h | ⟨E, h, -⟩
    · exact (hso h).ps
    · injection h with _ h2
      rw [h2]; rfl
  have hT1000 : T.st.length ≤ 1000 := by
    rcases hFl with h | ⟨E, h, -⟩
    · exact Nat.le_trans (hso h).st (by decide)
    · injection h with _ h2
      rw [h2]; exact Nat.zero_le _
  have hvT9 := SV.own hoT
  have hbs6 : bs < W6.heap.size := hs6.blk.2
  obtain ⟨W10, hW10, hth10, hsT10, hb10⟩ := new_stC W9 T hT4 vT
  have hLB9 := hso9.below hLB6 (Nat.le_refl _) (Nat.le_of_lt hM6.blk.2)
  have hLB10 := hLB9.trans (hb10.mono (Nat.le_of_lt hbm9.2))
  have hB10 := hB3.trans (hLB10.mono hgb3)
  have hone10 := st_one T vT hvT9.one
  have hlen10 : (stCs T vT).length = 18 := st_len hT4
  obtain ⟨YT, hYT⟩ : ∃ Y, stCs T vT = Y := ⟨_, rfl⟩
  have hYv : Aside (.agg (stCs (Ot.mk Oe T Owr Ov Otd).t vT).toArray = Value.agg YT.toArray) := by
    show _ = _
    rw [← hYT]
  rw [hYT] at hW10 hth10 hone10 hlen10
  have hszT : (Try.prog.info? 33).map (·.size) = some YT.length := by rw [hlen10]; exact hszS
  have hs10 : StAt bs d v W10 := (StAt.keep (W := W9) ⟨hd4, hso9.blk hs6.blk (by omega)⟩ hb10)
  have hW10s : StAt bw d u W10 := (StAt.keep (W := W9) ⟨hd4, hso9.blk hW6.blk (by omega)⟩ hb10)
  have hbm10 := stab_blk _ _ _ _ hbm9 hb10
  have hoT10 := hoT.below hb10
  have hLB10' : Below W3.heap.size W3 W10 := by rw [hbm.out]; exact hLB10
  have hv10 := hv3.below hLB10'
  have hu10 := hu3.below hLB10'
  have hMR10 := hMR3.below hLB10'
  clear hs6 hv6 hW6 hu6 hM6 hbm9 hso9 hLB6 hLB9 hLB10 hLB10' hoT hvT9 hb10 hYT hv3 hu3 hMR3 hB3
  go_upto_region 15 with (first | (refine wpList_store_row rfl _ _ rfl W9.heap.size rfl YT hYv.out hth10 hszT hone10 hW10 ?_) | fail)
  clear hW10 hth10 hYv hszT hone10 hlen10
  generalize W9.heap.size = bT at *
  -- the document's own step
  have hsto : stoC Owr = [Value.bool is9, .int .i64 s9, .int .i64 o9, .int .i64 y9] := by
    rcases hwr9 with ⟨h, h1, h2, h3, h4, h5⟩ | ⟨h, h1, h2⟩
    · rw [show Owr = none from h, h1, h2, h3, h4]; rfl
    · rw [show Owr = some (s9, o9, y9) from h, h1]; rfl
  have kr : Calls Try.prog 18 #[.agg YW.toArray, .slice aL ml cL] W10 fun e w' => ∃ u2, e = .returned (.tuple #[.agg (stCs T u2).toArray, .agg [Value.bool is9, .int .i64 s9, .int .i64 o9, .int .i64 y9].toArray, .int .i64 Ov, .bool Otd, .int .i64 Oe]) ∧ SV u2 T.st w' ∧ Below W10.heap.size W10 w' := by
    have kr0 := krS W10 hu10 hMR10.mv.row
    rw [hYW, hml.out] at kr0
    refine kr0.mono ?_
    rintro e w' ⟨u2, he, h1, h2⟩
    refine ⟨u2, ?_, h1, h2⟩
    rw [he, ← hsto]
  have hrw10 := hW10s.blk.range
  rw [hYW] at hrw10
  clear krS hsto
  go_wp2_with (first | (refine wpList_load_row rfl _ rfl bw rfl YW hrw10 hundR rfl hszW ?_) | fail)
  refine kr.mono ?_
  rintro e W11 ⟨u2, rfl, hu11, hb11⟩
  have hz1 : StAt W11.heap.size zeroC nilS (W11.alloc (.cells zS 39)) := ⟨rfl, blkl_alloc W11 (stCs zeroC nilS).toArray 39⟩
  have hbA := alloc_below W11 (.cells zS 39)
  have zA : (W11.alloc (.cells zS 39)).heap.size = W11.heap.size + 1 := by simp
  have hz2 : BlkL (W11.alloc (.cells zS 39)).heap.size (stoC none) ((W11.alloc (.cells zS 39)).alloc (.cells zSt 45)) := blkl_alloc _ (stoC none).toArray 45
  have hbB := alloc_below (W11.alloc (.cells zS 39)) (.cells zSt 45)
  rw [zA] at hz2
  replace hz1 := hz1.keep hbB
  have hbAB := Below.then hbA hbB
  obtain ⟨W12, hW12, hth12, hsU12, hk12⟩ := put_st hz1 (d := T) hT4 u2
  have hz3 : BlkL (W11.heap.size + 1) (stoC none) W12 := by rw [← hW12]; exact (Sole.cells (bx := W11.heap.size) (b := W11.heap.size) ⟨rfl, rfl, rfl, Nat.le_refl _, fun _ _ _ => rfl⟩ (.inl rfl) _ _).blk hz2 (by omega)
  obtain ⟨W13, hW13, hth13, hbo13, hk13⟩ := put_any hz3 (ds := [Value.bool is9, .int .i64 s9, .int .i64 o9, .int .i64 y9]) rfl (by show 0 < 4; decide)
  have hsU13 : StAt W11.heap.size T u2 W13 := ⟨hT4, by rw [← hW13]; exact (Sole.cells (bx := W11.heap.size + 1) (b := W11.heap.size + 1) ⟨rfl, rfl, rfl, Nat.le_refl _, fun _ _ _ => rfl⟩ (.inl rfl) _ _).blk hsU12.blk (by omega)⟩
  have hb13 := hk13 _ _ (Nat.le_succ _) (hk12 _ _ (Nat.le_refl _) hbAB)
  have hbZ := Below.then hb11 hb13
  have hs13 := hs10.keep hbZ
  have hw13 := hW10s.keep hbZ
  have hsT13 := hsT10.keep hbZ
  have hbm13 := stab_blk _ _ _ _ hbm10 hbZ
  have hoT13 := hoT10.below hbZ
  have hv13 := hv10.below hbZ
  have hu13 := hu10.below hbZ
  have hMR13 := hMR10.below hbZ
  have hB13 := Below.then hB10 hbZ
  have hvU13 := hu11.below hb13
  have hone12 := st_one T u2 hu11.one
  have hlen12 : (stCs T u2).length = 18 := st_len hT4
  obtain ⟨YU, hYU⟩ : ∃ Y, stCs T u2 = Y := ⟨_, rfl⟩
  rw [hYU] at hW12 hth12 hone12 hlen12 ⊢
  have hszU : (Try.prog.info? 39).map (·.size) = some YU.length := by rw [hlen12]; exact hszR
  have hszO4 : (Try.prog.info? 45).map (·.size) = some [Value.bool is9, .int .i64 s9, .int .i64 o9, .int .i64 y9].length := hszO
  have hone13 : ∀ x ∈ [Value.bool is9, .int .i64 s9, .int .i64 o9, .int .i64 y9], x.oneCell' = true := fun x hx => by
    simp at hx
    rcases hx with rfl | rfl | rfl | rfl <;> rfl
  clear hYU hlen12 hz1 hz2 hz3 hbA hbB zA hbAB hk12 hk13 hsU12 hbZ hb11 hb13 hs10 hW10s hsT10 hbm10 hoT10 hv10 hu10 hMR10 hB10 hu11 kr hrw10
  go_upto_region 16 with (first | (refine wpList_store_row rfl (.tmp 16) _ rfl W11.heap.size rfl YU rfl hth12 hszU hone12 hW12 ?_) | (refine wpList_store_row rfl (.tmp 17) _ rfl (W11.heap.size + 1) rfl [Value.bool is9, .int .i64 s9, .int .i64 o9, .int .i64 y9] rfl hth13 hszO4 hone13 hW13 ?_) | fail)
  clear hW12 hth12 hszU hone12 hW13 hth13 hszO4 hone13
  generalize W11.heap.size = bu at *
  have hn1 : decide (1 < n9) = false := by
    rcases hwr9 with ⟨-, -, -, -, -, h⟩ | ⟨-, -, h⟩ <;> rw [h] <;> rfl
  have hn2 : (n9 == 1) = is9 := by
    rcases hwr9 with ⟨-, h1, -, -, -, h⟩ | ⟨-, h1, h⟩ <;> rw [h, h1] <;> rfl
  refine (show Code.wp Try.prog (seqL (codeAt 16 Try.f3)) _ _ _ from steps_r16 hs13 hw13 hsT13 hsU13 hbm13 hbo13 hv13 hu13 (SV.own hoT13) hvU13 hd4 hT4 hd1000 hT1000 hn1 hn2 (fun _ _ d _ _ h => by cases d <;> exact h) ?_)
  intro x67 x68 x69 x70 x71 x72 x73 x74 x75 x76 x77 x78 x79 x80 x81 x82 x83 x84 x85 x86 x87 x88 x89 x90 x91 x92 x93 x94 x95 x96 x97 x98 x99 x100 x101 x102 x103 x104 x105 x106 x107 x108 x109 x110 x111 x112 x113 x114 x115 x116 x117 W14 hb14
  have hs14 := hs13.keep hb14
  have hsT14 := hsT13.keep hb14
  have hbo14 := stab_blk _ _ _ _ hbo13 hb14
  have hoT14 := hoT13.below hb14
  have hMR14 := hMR13.below hb14
  have hB14 := Below.then hB13 hb14
  clear hs13 hw13 hsT13 hsU13 hbm13 hbo13 hv13 hu13 hoT13 hvU13 hMR13 hB13 hb14 hn1 hn2
  rcases hFl with he0 | ⟨E, hE, hE1, hE2⟩
  rotate_left
  · injection hE with hE3
    subst hE3
    have hEb : (Oe != 0) = true := by simp; omega
    have hEn : ¬ Oe = 0 := by omega
    clear hs14 hsT14 hbo14 hoT14 hMR14 hwr9 hso hwo
    go_wp2_with fail
    go_ret
    exact ⟨rfl, hB14⟩
  replace he0 : Oe = 0 := he0
  subst he0
  have hTok : T.Ok := hso rfl
  rcases hwr9 with ⟨-, rfl, rfl, rfl, rfl, rfl⟩ | ⟨hwr, rfl, rfl⟩
  · have x0 := (hbo14.1 0 (.bool false) rfl).1
    obtain ⟨W16, hW16, hth16, hs16, hk16⟩ := put_st hs14 (d := T) hT4 vT
    have hB16 := hk16 _ _ hgs hB14
    have hv16 : SV vT T.st W16 := by
      rw [← hW16]
      exact SV.own (hoT14.mid (fun q => by have := (hoT14.lt q).1; omega) _ _)
    have hM16 : MVR bs (.slice aL ml cL) L W16 := by
      rw [← hW16]
      exact hMR14.sole (Sole.cells ⟨rfl, rfl, rfl, Nat.le_refl _, fun _ _ _ => rfl⟩ (.inl rfl) _ _)
    have hr16 := hsT14.blk.range
    have hone16 := st_one T vT (SV.own hoT14).one
    have hlen16 : (stCs T vT).length = 18 := st_len hT4
    obtain ⟨Y8, hY8⟩ : ∃ Y, stCs T vT = Y := ⟨_, rfl⟩
    rw [hY8] at hW16 hth16 hr16 hone16 hlen16
    have hszY8 : (Try.prog.info? 33).map (·.size) = some Y8.length := by rw [hlen16]; exact hszS
    clear hY8 hlen16 hs14 hsT14 hoT14 hMR14 hB14 hk16 hbo14
    go_wp2_with (first | (refine wpList_load_row rfl (.tmp 12) rfl bT rfl Y8 hr16 hundS rfl hszY8 ?_) | (refine wpList_store_row rfl (.tmp 8) _ rfl bs rfl Y8 rfl hth16 hszY8 hone16 hW16 ?_) | fail)
    exact ⟨⟨k + 1, T, vT, L, by omega, by simp, hTok, hs16, hv16, hM16, hMok, hL5, hB16⟩, by simp [Go.RowKit.intOf]; omega⟩
  · have x0 := (hbo14.1 0 (.bool true) rfl).1
    obtain ⟨hkis, hkin, hky⟩ := hwo s9 o9 y9 hwr
    have hyf : -9223372036854775808 ≤ y9 ∧ y9 ≤ 9223372036854775807 := by rw [hky]; exact hok.a
    have hbsl := hs14.blk.2
    clear hwr hwo hky
    go_upto_if 122 with fail
    clear x0
    go_step
    refine (show Code.wp Try.prog (codeAt 21 Try.f3) _ _ _ from steps_W hbo14 hMR14 hMG hMok hL5 hml hbsl hkis hkin hyf ?_)
    intro x7 x21 x123 x124 x125 x126 x127 x128 x129 x130 x131 x132 x133 x134 x135 x136 x137 x138 x139 x140 x141 x142 x143 x144 x145 W15 L' hMR15 hMok' hL5' hb15
    have hs15 := hs14.keep hb15
    have hsT15 := hsT14.keep hb15
    have hoT15 := hoT14.below hb15
    have hB15 := Below.then hB14 hb15
    clear hs14 hsT14 hoT14 hB14 hMR14 hb15
    obtain ⟨W16, hW16, hth16, hs16, hk16⟩ := put_st hs15 (d := T) hT4 vT
    have hB16 := hk16 _ _ hgs hB15
    have hv16 : SV vT T.st W16 := by
      rw [← hW16]
      exact SV.own (hoT15.mid (fun q => by have := (hoT15.lt q).1; omega) _ _)
    have hM16 : MVR bs x7 L' W16 := by
      rw [← hW16]
      exact hMR15.sole (Sole.cells ⟨rfl, rfl, rfl, Nat.le_refl _, fun _ _ _ => rfl⟩ (.inl rfl) _ _)
    have hr16 := hsT15.blk.range
    have hone16 := st_one T vT (SV.own hoT15).one
    have hlen16 : (stCs T vT).length = 18 := st_len hT4
    obtain ⟨Y8, hY8⟩ : ∃ Y, stCs T vT = Y := ⟨_, rfl⟩
    rw [hY8] at hW16 hth16 hr16 hone16 hlen16
    have hszY8 : (Try.prog.info? 33).map (·.size) = some Y8.length := by rw [hlen16]; exact hszS
    clear hY8 hlen16 hs15 hsT15 hoT15 hMR15 hB15 hk16 hbo14
    go_wp2_with (first | (refine wpList_load_row rfl (.tmp 12) rfl bT rfl Y8 hr16 hundS rfl hszY8 ?_) | (refine wpList_store_row rfl (.tmp 8) _ rfl bs rfl Y8 rfl hth16 hszY8 hone16 hW16 ?_) | fail)
    exact ⟨⟨k + 1, T, vT, L', by omega, by simp, hTok, hs16, hv16, hM16, hMok', hL5', hB16⟩, by simp [Go.RowKit.intOf]; omega⟩
end Go.Proofs.Ytinibccphecdfaa
