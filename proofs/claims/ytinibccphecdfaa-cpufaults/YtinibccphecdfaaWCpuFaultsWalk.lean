/-
  CpuFaults, walked.
-/
import Derived.Test.YtinibccphecdfaaWCpuLaw3
namespace Go.Proofs.Ytinibccphecdfaa
open Go.RowKit
set_option maxRecDepth 8000
set_option linter.unusedSimpArgs false
set_option linter.unusedVariables false

set_option maxRecDepth 8000 in
set_option maxHeartbeats 8000000 in
theorem cpuFaults_walk (l : List PP) (a1 : Option Addr) (c1 : Nat) (c : Cp) (a2 : Option Addr) (c2 : Nat) (n : Int) (w : World) (hL : RowP w a1 l) (hX : BegX w c a2) :
    Calls Try.prog 6 #[.slice a1 l.length c1, .agg (bgCs c (.slice a2 c.st.length c2)).toArray, .int .i64 n] w fun e w' => e = .returned (.bool true) ∧ Below w.heap.size w w' := by
  have hundS := Try.underlying33
  have hszS : (Try.prog.info? 33).map (·.size) = some 18 := by kernel_rfl
  have hundB := Try.underlying28
  have hszB : (Try.prog.info? 28).map (·.size) = some 17 := by kernel_rfl
  have hmi : ∀ (v : Value) (w : World), (Instr.makeInterface 43 v).run Try.prog w = .ok (.iface 43 v) w := fun _ _ => rfl
  have hblen : (bgCs c (.slice a2 c.st.length c2)).length = 17 := by
    have h := st_len (v := .slice a2 c.st.length c2) hX.ps
    rw [bg_st, List.length_append] at h
    simpa using h
  have hx0 : BlkL w.heap.size (bgCs c (.slice a2 c.st.length c2)) (w.alloc (.cells (bgCs c (.slice a2 c.st.length c2)).toArray 28)) := blkl_alloc w _ _
  have hB0 := alloc_below w (.cells (bgCs c (.slice a2 c.st.length c2)).toArray 28)
  have hL0 := hL.below hB0
  have hX0 := hX.below hB0
  have kb := fun (W : World) (h : BegX W c a2) => cbeg_any c a2 c2 W h
  have km := fun (W : World) (h : RowP W a1 l) => cmemo_any l a1 c1 W h
  have hok := begC_ok hX
  have hmok := memPc_ok hL
  obtain ⟨X, hXc⟩ : ∃ X, bgCs c (.slice a2 c.st.length c2) = X := ⟨_, rfl⟩
  rw [hXc] at hx0 hB0 hL0 hX0 hblen ⊢
  simp only [hXc] at kb
  clear hXc hL hX
  have hszX : (Try.prog.info? 28).map (·.size) = some X.length := by rw [hblen]; exact hszB
  clear hblen
  generalize l.length = ln at *
  go_enter Try.func6, Try.ntmps6
  go_upto_region 1 with fail
  generalize w.alloc (.cells X.toArray 28) = U0 at *
  go_wp2_with fail
  refine (ck_any U0).mono ?_
  rintro e W1 ⟨rfl, hb1⟩
  have hx1 := stab_blk _ _ _ _ hx0 hb1
  have hB1 := Below.then hB0 hb1
  have hL1 := hL0.below hb1
  have hX1 := hX0.below hb1
  clear hx0 hB0 hL0 hX0 hb1
  go_upto_region 3 with fail
  go_wp2_with fail
  refine (km W1 hL1).mono ?_
  rintro e W5 ⟨M, vM, rfl, hoM, hMm, hMg, hb5⟩
  have hMl : M.length < 1000000 := by
    have := congrArg List.length hMg
    rw [List.length_map] at this
    have h5 := memPc_len l
    omega
  have hMok : ∀ g ∈ M.map (·.g), g.Ok := by rw [hMg]; exact hmok
  have hMV := MV.made hoM hMm hMl hMok
  have hB5 := Below.then hB1 hb5
  have hx5 := stab_blk _ _ _ _ hx1 hb5
  have hX5 := hX1.below hb5
  have hrx := hx5.range
  clear km hL1 hB1 hx1 hX1 hoM hMm hMg hb5 hMl hmok
  go_upto_region 4 with fail
  go_wp2_with (first | (refine wpList_load_row rfl _ rfl w.heap.size rfl X hrx hundB rfl hszX ?_) | fail)
  refine (kb W5 hX5).mono ?_
  rintro e W2 ⟨vs, rfl, ho2, hb2⟩
  have hB2 := Below.then hB5 hb2
  have hMV2 := hMV.below hb2
  have hvs2 := SV.own ho2
  have hgs : w.heap.size ≤ W2.heap.size := hB2.size
  clear hrx hx5 hB5 hX5 kb hb2 ho2 hMV hszX hszB hundB
  obtain ⟨d0, hd0⟩ : ∃ d0, begC c = d0 := ⟨_, rfl⟩
  rw [hd0] at hok hvs2 ⊢
  obtain ⟨W3, hW3, hth3, hs3, hb3⟩ := new_stC W2 d0 hok.ps vs
  have hone3 := st_one d0 vs hvs2.one
  have hlen3 : (stCs d0 vs).length = 18 := st_len hok.ps
  obtain ⟨Y, hY⟩ : ∃ Y, stCs d0 vs = Y := ⟨_, rfl⟩
  rw [hY] at hW3 hth3 hone3 hlen3 ⊢
  have hszY : (Try.prog.info? 33).map (·.size) = some Y.length := by rw [hlen3]; exact hszS
  clear hlen3 hd0
  have hB3 := Below.then hB2 hb3
  have hMV3 := MVR.of hMV2 hb3
  have hv3 := hvs2.below hb3
  clear hB2 hMV2 hvs2 hb3
  go_upto_region 5 with (first | (refine wpList_store_row rfl _ _ rfl W2.heap.size rfl Y rfl hth3 hszY hone3 hW3 ?_) | fail)
  clear hW3 hth3 hszY hone3 hY
  generalize W2.heap.size = bs at *
  obtain ⟨aM, cM, hvM, -⟩ := hMV3.mv
  obtain ⟨mn, hmn⟩ : ∃ mn, M.length = mn := ⟨_, rfl⟩
  rw [hmn] at hvM
  subst hvM
  replace hmn : Aside (M.length = mn) := hmn
  have kn30 := fun W : World => w16_any n 30 (by decide) (by decide) W
  obtain ⟨q, hq⟩ : ∃ q, n % 30 = q := ⟨_, rfl⟩
  have hq0 : 0 ≤ q := by omega
  have hq1 : q < 30 := by omega
  simp only [hq] at kn30
  clear hq
  have hw1 : IntKind.i64.wrap (1 + q) = 1 + q := by rw [IntKind.wrap_i64]; omega
  go_wp2_with fail
  go_loopw [9] (fun t9 wr => ∃ (k : Nat) (d : Cp) (v : Value), (k : Int) ≤ 1 + q ∧ t9 = .int .i64 (k : Int) ∧ d.Ok ∧ StAt bs d v wr ∧ SV v d.st wr ∧ MVR bs (.slice aM mn cM) M wr ∧ Below w.heap.size w wr) (fun t9 _ => 32 - (Go.RowKit.intOf t9).toNat)
  case atStart => exact ⟨0, d0, vs, by omega, rfl, hok, hs3, hv3, hMV3, hB3⟩
  case round =>
  clear hok hs3 hv3 hMV3 hB3
  obtain ⟨k, d, v, hk, rfl, hok, hs, hv, hMR, hB⟩ := hrel
  have hMV := hMR.mv
  go_wp2_with fail
  refine (kn30 wr).mono ?_
  rintro e W1 ⟨rfl, hw⟩
  rw [hw]
  clear hw W1
  by_cases hkq : (k : Int) < 1 + q
  rotate_left
  · go_wp2_with fail
    go_ret
    exact ⟨rfl, hB⟩
  obtain ⟨-, hM6⟩ := hMV.box 47
  have hb6 := alloc_below wr (.cells #[.slice aM mn cM, .bool false, .int .i64 0, .int .i64 0, .int .i64 0, .int .i64 0] 47)
  have hB6 := Below.then hB hb6
  have hs6 := hs.keep hb6
  have hv6 := hv.below hb6
  have hMV6 := hMR.below hb6
  have hgm := hB.size
  have hsm := hs.blk.2
  go_upto_region 9 with fail
  clear hs hv hMV hMR hB hb6
  generalize wr.alloc (.cells #[.slice aM mn cM, .bool false, .int .i64 0, .int .i64 0, .int .i64 0, .int .i64 0] 47) = W6 at *
  generalize wr.heap.size = bm at *
  have hFl := step_flt d (M.map (·.g))
  have hso := fun h => step_ok (m := M.map (·.g)) hok hMok h
  obtain ⟨O, hO⟩ : ∃ O, stepC d (M.map (·.g)) = O := ⟨_, rfl⟩
  have ks := cstepV d hok v hM6 hv6 O hO
  rw [hO] at hFl hso
  clear hO
  have hrs := hs6.blk.range
  have hlen : (stCs d v).length = 18 := st_len hok.ps
  obtain ⟨Y, hY⟩ : ∃ Y, stCs d v = Y := ⟨_, rfl⟩
  rw [hY] at ks hrs hlen
  have hszY : (Try.prog.info? 33).map (·.size) = some Y.length := by rw [hlen]; exact hszS
  clear hlen
  go_wp2_with (first | (refine wpList_load_row rfl _ rfl bs rfl Y hrs hundS rfl hszY ?_) | fail)
  refine ks.mono ?_
  rintro e W7 hP
  clear hrs hszY hY ks
  rcases hFl with he0 | ⟨E, rfl, hE1, hE2⟩
  rotate_left
  · obtain ⟨vT, rfl, hoT, hb7⟩ := hP.fltE
    have hB7 := Below.then hB6 hb7
    have hmN7 := stab_blk _ _ _ _ hM6.blk hb7
    have hvT7 := SV.own hoT
    obtain ⟨W8, hW8, hth8, hsT, hb8⟩ := new_stC W7 zeroC rfl vT
    have hB8 := Below.then hB7 hb8
    have hmN := stab_blk _ _ _ _ hmN7 hb8
    have hvT := hvT7.below hb8
    have hone8 := st_one zeroC vT hvT.one
    have hlen8 : (stCs zeroC vT).length = 18 := st_len rfl
    have kst := fun (W : World) (v : Value) (h : SV v [] W) => cstateV zeroC rfl (by decide) v W h
    have ksm := fun (W : World) (v u : Value) (h : SV v [] W) (h2 : SV u [] W) => csameV zeroC rfl (by decide) v u W h h2
    have hr8 := hsT.blk.range
    obtain ⟨Y8, hY8⟩ : ∃ Y, stCs zeroC vT = Y := ⟨_, rfl⟩
    have hYv : Aside (.agg (stCs (flt E).t vT).toArray = Value.agg Y8.toArray) := by
      show _ = _
      rw [← hY8]; rfl
    have kst8 := fun W (h : SV vT [] W) => kst W vT h
    simp only [hY8] at kst8
    rw [hY8] at hW8 hth8 hone8 hlen8 hr8
    have hszY8 : (Try.prog.info? 33).map (·.size) = some Y8.length := by rw [hlen8]; exact hszS
    have x5 := (hmN.1 5 _ rfl).1
    have hEn : ¬ E = 0 := by omega
    have hEb : (E != 0) = true := by simpa using hEn
    have hE3 : decide (31 ≤ E) = true := by simpa using hE1
    have hE4 : decide (E ≤ 37) = true := by simpa using hE2
    clear hP hoT hM6 hB6 hs6 hv6 hb7 hB7 hmN7 hvT7 hb8 hlen8 hY8 hMV6 hso hmN
    go_upto_region 10 with (first | (refine wpList_store_row rfl _ _ rfl W7.heap.size rfl Y8 hYv.out hth8 hszY8 hone8 hW8 ?_) | fail)
    clear hW8 hth8 hone8 hYv
    generalize W7.heap.size = bT at *
    go_upto_region 11 with fail
    go_wp2_with (first | (refine wpList_load_midg (by rfl) _ rfl bT 0 rfl Y8 hr8 hundS rfl hszY8 ?_) | fail)
    refine (kst8 W8 hvT).mono ?_
    rintro e W9 ⟨u, rfl, hu, hb9⟩
    have hB9 := Below.then hB8 hb9
    go_wp2_with fail
    refine (ksm W9 u nilS hu (SV.nil _)).mono ?_
    rintro e W10 ⟨rfl, hb10⟩
    have hB10 := Below.then hB9 hb10
    go_wp2_with fail
    go_ret
    exact ⟨rfl, hB10⟩
  obtain ⟨Oe, T, Owr, Ov, Otd⟩ := O
  replace he0 : Oe = 0 := he0
  subst he0
  have hTok : T.Ok := hso rfl
  clear hso
  cases Owr with
  | some p =>
    obtain ⟨pk, po, py⟩ := p
    obtain ⟨vT, rfl, hoT, hmN7, hso7⟩ := hP.isW rfl
    have hB7 := hso7.below hB6 (by omega) hB6.size
    have hvT7 := SV.own hoT
    obtain ⟨W8, hW8, hth8, hsT, hb8⟩ := new_stC W7 T hTok.ps vT
    have hB8 := Below.then hB7 hb8
    have hmN := stab_blk _ _ _ _ hmN7 hb8
    have hone8 := st_one T vT hvT7.one
    have hlen8 : (stCs T vT).length = 18 := st_len hTok.ps
    obtain ⟨Y8, hY8⟩ : ∃ Y, stCs T vT = Y := ⟨_, rfl⟩
    have hYv : Aside (.agg (stCs (Ot.mk 0 T (some (pk, po, py)) Ov Otd).t vT).toArray = Value.agg Y8.toArray) := by
      show _ = _
      rw [← hY8]
    rw [hY8] at hW8 hth8 hone8 hlen8
    have hszY8 : (Try.prog.info? 33).map (·.size) = some Y8.length := by rw [hlen8]; exact hszS
    have x5 := (hmN.1 5 (.int .i64 1) rfl).1
    clear hP hoT hM6 hB6 hs6 hv6 hB7 hmN7 hvT7 hb8 hlen8 hY8 hMV6 hmN hso7 hsT
    go_upto_region 10 with (first | (refine wpList_store_row rfl _ _ rfl W7.heap.size rfl Y8 hYv.out hth8 hszY8 hone8 hW8 ?_) | fail)
    clear hW8 hth8 hone8 hYv
    generalize W7.heap.size = bT at *
    go_wp2_with fail
    go_ret
    exact ⟨rfl, hB8⟩
  | none =>
    obtain ⟨vT, rfl, hoT, hb7⟩ := hP.noW rfl
    have hB7 := Below.then hB6 hb7
    have hmN7 := stab_blk _ _ _ _ hM6.blk hb7
    have hs7 := hs6.keep hb7
    have hMR7 := hMV6.below hb7
    obtain ⟨W8, hW8, hth8, hsT, hb8⟩ := new_stC W7 T hTok.ps vT
    have hB8 := Below.then hB7 hb8
    have hmN := stab_blk _ _ _ _ hmN7 hb8
    have hs8 := hs7.keep hb8
    have hMR8 := hMR7.below hb8
    have hoT8 := hoT.below hb8
    have hone8 := st_one T vT (SV.own hoT).one
    have hlen8 : (stCs T vT).length = 18 := st_len hTok.ps
    have hr8 := hsT.blk.range
    obtain ⟨W9, hW9, hth9, hs9, hk9⟩ := put_st hs8 (d := T) hTok.ps vT
    have hB9 := hk9 _ _ hgs hB8
    have hv9 : SV vT T.st W9 := by
      rw [← hW9]
      exact SV.own (hoT8.mid (fun q => by have := (hoT8.lt q).1; have := hs6.blk.2; omega) _ _)
    have hMR9 : MVR bs (.slice aM mn cM) M W9 := by
      rw [← hW9]
      exact hMR8.sole (Sole.cells ⟨rfl, rfl, rfl, Nat.le_refl _, fun _ _ _ => rfl⟩ (.inl rfl) _ _)
    obtain ⟨Y8, hY8⟩ : ∃ Y, stCs T vT = Y := ⟨_, rfl⟩
    have hYv : Aside (.agg (stCs (Ot.mk 0 T none Ov Otd).t vT).toArray = Value.agg Y8.toArray) := by
      show _ = _
      rw [← hY8]
    rw [hY8] at hW8 hth8 hone8 hlen8 hr8 hW9 hth9
    have hszY8 : (Try.prog.info? 33).map (·.size) = some Y8.length := by rw [hlen8]; exact hszS
    have x5 := (hmN.1 5 (.int .i64 0) rfl).1
    clear hP hoT hM6 hB6 hs6 hv6 hB7 hmN7 hb8 hlen8 hY8 hMV6 hmN hsT hb7 hs7 hMR7 hMR8 hoT8 hs8 hB8 hk9
    go_upto_region 10 with (first | (refine wpList_store_row rfl _ _ rfl W7.heap.size rfl Y8 hYv.out hth8 hszY8 hone8 hW8 ?_) | fail)
    clear hW8 hth8 hYv
    generalize W7.heap.size = bT at *
    go_wp2_with (first | (refine wpList_load_row rfl _ rfl bT rfl Y8 hr8 hundS rfl hszY8 ?_) | (refine wpList_store_row rfl _ _ rfl bs rfl Y8 rfl hth9 hszY8 hone8 hW9 ?_) | fail)
    exact ⟨⟨k + 1, T, vT, by omega, by simp, hTok, hs9, hv9, hMR9, hB9⟩, by simp [Go.RowKit.intOf]; omega⟩
end Go.Proofs.Ytinibccphecdfaa
