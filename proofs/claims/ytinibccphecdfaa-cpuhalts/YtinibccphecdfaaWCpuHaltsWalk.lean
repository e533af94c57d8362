/-
  CpuHalts, walked.
-/
import Derived.Test.YtinibccphecdfaaWCpuLaw3
namespace Go.Proofs.Ytinibccphecdfaa
open Go.RowKit
set_option maxRecDepth 8000
set_option linter.unusedSimpArgs false
set_option linter.unusedVariables false

set_option maxRecDepth 8000 in
set_option maxHeartbeats 8000000 in
theorem cpuHalts_walk (l : List PP) (a1 : Option Addr) (c1 : Nat) (c : Cp) (a2 : Option Addr) (c2 : Nat) (w : World) (hL : RowP w a1 l) (hX : BegX w c a2) :
    Calls Try.prog 5 #[.slice a1 l.length c1, .agg (bgCs c (.slice a2 c.st.length c2)).toArray] w fun e w' => e = .returned (.bool true) ∧ Below w.heap.size w w' := by
  have hundS := Try.underlying33
  have hszS : (Try.prog.info? 33).map (·.size) = some 18 := by kernel_rfl
  have hundB := Try.underlying28
  have hszB : (Try.prog.info? 28).map (·.size) = some 17 := by kernel_rfl
  have hmi : ∀ (v : Value) (w : World), (Instr.makeInterface 43 v).run Try.prog w = .ok (.iface 43 v) w := fun _ _ => rfl
  have hblen : (bgCs c (.slice a2 c.st.length c2)).length = 17 := by
    have h := st_len (v := .slice a2 c.st.length c2) hX.ps
    rw [bg_st, List.length_append] at h
    simpa using h
  have hx0 : BlkL w.heap.size (bgCs c (.slice a2 c.st.length c2)) (w.alloc (.cells (bgCs c (.slice a2 c.st.length c2)).toArray 28)) := blkl_alloc w _ _
  have hB0 := alloc_below w (.cells (bgCs c (.slice a2 c.st.length c2)).toArray 28)
  have hL0 := hL.below hB0
  have hX0 := hX.below hB0
  have kb := fun (W : World) (h : BegX W c a2) => cbeg_any c a2 c2 W h
  have km := fun (W : World) (h : RowP W a1 l) => cmemo_any l a1 c1 W h
  have hok := begC_ok hX
  have hmok := memPc_ok hL
  obtain ⟨X, hXc⟩ : ∃ X, bgCs c (.slice a2 c.st.length c2) = X := ⟨_, rfl⟩
  rw [hXc] at hx0 hB0 hL0 hX0 hblen ⊢
  simp only [hXc] at kb
  clear hXc hL hX
  have hszX : (Try.prog.info? 28).map (·.size) = some X.length := by rw [hblen]; exact hszB
  clear hblen
  generalize l.length = ln at *
  go_enter Try.func5, Try.ntmps5
  go_upto_region 1 with fail
  generalize w.alloc (.cells X.toArray 28) = U0 at *
  go_wp2_with fail
  refine (ck_any U0).mono ?_
  rintro e W1 ⟨rfl, hb1⟩
  have hx1 := stab_blk _ _ _ _ hx0 hb1
  have hB1 := Below.then hB0 hb1
  have hL1 := hL0.below hb1
  have hX1 := hX0.below hb1
  have hrx := hx1.range
  clear hx0 hB0 hL0 hX0 hb1
  go_upto_region 3 with fail
  go_wp2_with (first | (refine wpList_load_row rfl _ rfl w.heap.size rfl X hrx hundB rfl hszX ?_) | fail)
  refine (kb W1 hX1).mono ?_
  rintro e W2 ⟨vs, rfl, ho2, hb2⟩
  have hB2 := Below.then hB1 hb2
  have hL2 := hL1.below hb2
  have hvs2 := SV.own ho2
  clear hrx hx1 hB1 hX1 kb hb2 ho2 hL1 hszX hszB hundB
  have hst1000 : (begC c).st.length ≤ 1000 := Nat.le_trans hok.st (by decide)
  obtain ⟨d0, hd0⟩ : ∃ d0, begC c = d0 := ⟨_, rfl⟩
  rw [hd0] at hok hvs2 hst1000 ⊢
  obtain ⟨W3, hW3, hth3, hs3, hb3⟩ := new_stC W2 d0 hok.ps vs
  have hone3 := st_one d0 vs hvs2.one
  have hlen3 : (stCs d0 vs).length = 18 := st_len hok.ps
  obtain ⟨Y, hY⟩ : ∃ Y, stCs d0 vs = Y := ⟨_, rfl⟩
  rw [hY] at hW3 hth3 hone3 hlen3 ⊢
  have hszY : (Try.prog.info? 33).map (·.size) = some Y.length := by rw [hlen3]; exact hszS
  clear hlen3
  go_upto_region 4 with (first | (refine wpList_store_row rfl _ _ rfl W2.heap.size rfl Y rfl hth3 hszY hone3 hW3 ?_) | fail)
  clear hW3 hth3 hszY hone3 hY
  have x17 := hs3.blk.1 17 _ (st_hl hs3.ps)
  have x17c := x17.1
  have x17f := x17.2
  have hs4 := hs3.setHl3 true
  have hb4 := hb3.setCell (p := ⟨W2.heap.size, 17, none⟩) (Nat.le_refl _) (.bool true)
  have hB4 := Below.then hB2 hb4
  have hL4 := hL2.below hb4
  have hvs4 := hvs2.below hb4
  go_upto_region 5 with fail
  clear hs3 x17 x17c x17f hb3 hb4 hB2 hL2 hvs2
  generalize W3.setCell ⟨W2.heap.size, 17, none⟩ (.bool true) = W4 at *
  generalize W2.heap.size = bs at *
  obtain ⟨d, hd⟩ : ∃ d : Cp, { d0 with hl := true } = d := ⟨_, rfl⟩
  have hst : SV vs d.st W4 := by rw [← hd]; exact hvs4
  have hdok : d.Ok := by rw [← hd]; exact ⟨hok.ps, hok.pp, hok.ring, hok.a, hok.st, hok.sr⟩
  have hd1000 : d.st.length ≤ 1000 := by rw [← hd]; exact hst1000
  have hdl : d.hl = true := by rw [← hd]
  rw [hd] at hs4
  clear hd hvs4 hok hst1000 hd0
  go_wp2_with fail
  refine (km W4 hL4).mono ?_
  rintro e W5 ⟨M, vM, rfl, hoM, hMm, hMg, hb5⟩
  have hMl : M.length < 1000000 := by
    have := congrArg List.length hMg
    rw [List.length_map] at this
    have h5 := memPc_len l
    omega
  have hMV := MV.made hoM hMm hMl (by rw [hMg]; exact hmok)
  have hB5 := Below.then hB4 hb5
  have hs5 := hs4.keep hb5
  have hv5 := hst.below hb5
  obtain ⟨aM, cM, rfl, -, -, -⟩ := hoM.slice pg_len
  obtain ⟨-, hM6⟩ := hMV.box 47
  have hb6 := alloc_below W5 (.cells #[.slice aM M.length cM, .bool false, .int .i64 0, .int .i64 0, .int .i64 0, .int .i64 0] 47)
  have hB6 := Below.then hB5 hb6
  have hs6 := hs5.keep hb6
  have hv6 := hv5.below hb6
  clear km hL4 hB4 hs4 hst hoM hMm hMg hb5 hMl hMV hB5 hs5 hv5 hb6 hmok
  generalize hmn : M.length = mn at *
  go_upto_region 6 with fail
  generalize W5.alloc (.cells #[.slice aM mn cM, .bool false, .int .i64 0, .int .i64 0, .int .i64 0, .int .i64 0] 47) = W6 at *
  generalize W5.heap.size = bm at *
  have ks := cstepV d hdok vs hM6 hv6 (okC d) (by unfold stepC; rw [if_pos hdl])
  have hrs := hs6.blk.range
  have hlen : (stCs d vs).length = 18 := st_len hdok.ps
  obtain ⟨Y, hY⟩ : ∃ Y, stCs d vs = Y := ⟨_, rfl⟩
  rw [hY] at ks hrs hlen
  have hszY : (Try.prog.info? 33).map (·.size) = some Y.length := by rw [hlen]; exact hszS
  clear hlen
  go_wp2_with (first | (refine wpList_load_row rfl _ rfl bs rfl Y hrs hundS rfl hszY ?_) | fail)
  refine ks.mono ?_
  rintro e W7 hP
  obtain ⟨vT, rfl, hoT, hb7⟩ := hP.okE
  have hB7 := Below.then hB6 hb7
  have hs7 := hs6.keep hb7
  have hv7 := hv6.below hb7
  have hmN7 := stab_blk _ _ _ _ hM6.blk hb7
  have hvT7 := SV.own hoT
  obtain ⟨W8, hW8, hth8, hsT, hb8⟩ := new_stC W7 d hdok.ps vT
  have hB8 := Below.then hB7 hb8
  have hss := hs7.keep hb8
  have hvs := hv7.below hb8
  have hmN := stab_blk _ _ _ _ hmN7 hb8
  have hvT := hvT7.below hb8
  have hone8 := st_one d vT hvT.one
  have hlen8 : (stCs d vT).length = 18 := st_len hdok.ps
  clear hY
  obtain ⟨Y8, hY8⟩ : ∃ Y, stCs d vT = Y := ⟨_, rfl⟩
  have hYv : Aside (.agg (stCs (okC d).t vT).toArray = Value.agg Y8.toArray) := by
    show _ = _
    rw [← hY8]; rfl
  rw [hY8] at hW8 hth8 hone8 hlen8
  have hszY8 : (Try.prog.info? 33).map (·.size) = some Y8.length := by rw [hlen8]; exact hszS
  clear ks hP hoT hM6 hB6 hs6 hv6 hb7 hB7 hs7 hv7 hmN7 hvT7 hb8 hlen8 hrs hszY hY8
  go_upto_region 7 with (first | (refine wpList_store_row rfl _ _ rfl W7.heap.size rfl Y8 hYv.out hth8 hszY8 hone8 hW8 ?_) | fail)
  clear hW8 hth8 hone8 hszY8 hYv
  generalize W7.heap.size = bT at *
  obtain ⟨Z, hZ⟩ : ∃ Z, W8 = Z := ⟨_, rfl⟩
  rw [hZ] at hsT hB8 hss hvs hmN hvT ⊢
  clear hZ
  have kst := fun (W : World) (v : Value) (h : SV v d.st W) => cstateV d hdok.ps hd1000 v W h
  have ksm := fun (W : World) (v u : Value) (h : SV v d.st W) (h2 : SV u d.st W) => csameV d hdok.ps hd1000 v u W h h2
  have hszX : (Try.prog.info? 33).map (·.size) = some (stCs d vT).length := by rw [st_len hdok.ps]; exact hszS
  have hszX2 : (Try.prog.info? 33).map (·.size) = some (stCs d vs).length := by rw [st_len hdok.ps]; exact hszS
  have hS0 := (Below.refl Z.heap.size Z).drew
  refine wp_region_held_drew (S := (fun W => Below Z.heap.size Z W)) (by kernel_rfl) (by exact hS0) ?_
  intro hHeld
  generalize Z.drew = w0 at *
  refine wpAnyH_take (i := 0) (v := ?_) (by simp only [gA, gB, gC]; rfl) (by kernel_rfl) (by kernel_rfl) (by kernel_rfl) (by exact fun _ _ _ h => h) (Or.inl ⟨by rfl, ?_⟩) (by assumption) ?_; rotate_left; (focus (intro w hSw; (try dsimp only at hSw); go_simp; try with_reducible rfl)); (try simp only [Act.put, sA, sB, sC])
  refine wpAnyH_take (i := 1) (v := ?_) (by simp only [gA, gB, gC]; rfl) (by kernel_rfl) (by kernel_rfl) (by kernel_rfl) (by exact fun _ _ _ h => h) (Or.inl ⟨by rfl, ?_⟩) (by assumption) ?_; rotate_left; (focus (intro w hSw; (try dsimp only at hSw); go_simp; try with_reducible rfl)); (try simp only [Act.put, sA, sB, sC])
  refine wpAnyH_take (i := 2) (v := ?_) (by simp only [gA, gB, gC]; rfl) (by kernel_rfl) (by kernel_rfl) (by kernel_rfl) (by exact fun _ _ _ h => h) (Or.inl ⟨by rfl, ?_⟩) (by assumption) ?_; rotate_left; (focus (intro w hSw; (try dsimp only at hSw); go_simp; try with_reducible rfl)); (try simp only [Act.put, sA, sB, sC])
  refine wpAnyH_take (i := 3) (v := ?_) (by simp only [gA, gB, gC]; rfl) (by kernel_rfl) (by kernel_rfl) (by kernel_rfl) (by exact fun _ _ _ h => h) (Or.inl ⟨by rfl, ?_⟩) (by assumption) ?_; rotate_left; (focus (intro w hSw; (try dsimp only at hSw); go_simp; try with_reducible rfl)); (try simp only [Act.put, sA, sB, sC])
  refine wpAnyH_take (i := 4) (v := ?_) (by simp only [gA, gB, gC]; rfl) (by kernel_rfl) (by kernel_rfl) (by kernel_rfl) (by exact fun _ _ _ h => h) (Or.inl ⟨by rfl, ?_⟩) (by assumption) ?_; rotate_left; (focus (intro w hSw; (try dsimp only at hSw); go_simp; try with_reducible rfl)); (try simp only [Act.put, sA, sB, sC])
  refine wpAnyH_take (i := 5) (v := ?_) (by simp only [gA, gB, gC]; rfl) (by kernel_rfl) (by kernel_rfl) (by kernel_rfl) (by exact fun _ _ _ h => h) (Or.inl ⟨by rfl, ?_⟩) (by assumption) ?_; rotate_left; (focus (intro w hSw; (try dsimp only at hSw); go_simp; try with_reducible rfl)); (try simp only [Act.put, sA, sB, sC])
  refine wpAnyH_take (i := 6) (v := ?_) (by simp only [gA, gB, gC]; rfl) (by kernel_rfl) (by kernel_rfl) (by kernel_rfl) (by exact fun _ _ _ h => h) (Or.inl ⟨by rfl, ?_⟩) (by assumption) ?_; rotate_left; (focus (intro w hSw; (try dsimp only at hSw); go_simp; try with_reducible rfl)); (try simp only [Act.put, sA, sB, sC])
  refine wpAnyH_take (i := 7) (v := ?_) (by simp only [gA, gB, gC]; rfl) (by kernel_rfl) (by kernel_rfl) (by kernel_rfl) (by exact fun _ _ _ h => h) (Or.inl ⟨by rfl, ?_⟩) (by assumption) ?_; rotate_left; (focus (intro w hSw; (try dsimp only at hSw); go_simp; try with_reducible rfl)); (try simp only [Act.put, sA, sB, sC])
  refine wpAnyH_take (i := 8) (v := ?_) (by simp only [gA, gB, gC]; rfl) (by kernel_rfl) (by kernel_rfl) (by kernel_rfl) (by exact fun _ _ _ h => h) (Or.inl ⟨by rfl, ?_⟩) (by assumption) ?_; rotate_left; (focus (intro w hSw; (try dsimp only at hSw); go_simp; try with_reducible rfl)); (try simp only [Act.put, sA, sB, sC])
  refine wpAnyH_take (i := 9) (v := ?_) (by simp only [gA, gB, gC]; rfl) (by kernel_rfl) (by kernel_rfl) (by kernel_rfl) (by exact fun _ _ _ h => h) (Or.inl ⟨by rfl, ?_⟩) (by assumption) ?_; rotate_left; (focus (intro w hSw; (try dsimp only at hSw); go_simp; try with_reducible rfl)); (try simp only [Act.put, sA, sB, sC])
  refine wpAnyH_take (i := 10) (v := ?_) (by simp only [gA, gB, gC]; rfl) (by kernel_rfl) (by kernel_rfl) (by kernel_rfl) (by exact fun _ _ _ h => h) (Or.inl ⟨by rfl, ?_⟩) (by assumption) ?_; rotate_left; (focus (intro w hSw; (try dsimp only at hSw); go_simp; try with_reducible rfl)); (try simp only [Act.put, sA, sB, sC])
  refine wpAnyH_take (i := 11) (v := ?_) (by simp only [gA, gB, gC]; rfl) (by kernel_rfl) (by kernel_rfl) (by kernel_rfl) (by exact fun _ _ _ h => h) (Or.inl ⟨by rfl, ?_⟩) (by assumption) ?_; rotate_left; (focus (intro w hSw; (try dsimp only at hSw); go_simp; try with_reducible rfl)); (try simp only [Act.put, sA, sB, sC])
  refine wpAnyH_take (i := 12) (v := ?_) (by simp only [gA, gB, gC]; rfl) (by kernel_rfl) (by kernel_rfl) (by kernel_rfl) (by exact fun _ _ _ h => h) (Or.inl ⟨by rfl, ?_⟩) (by assumption) ?_; rotate_left; (focus (intro w hSw; (try dsimp only at hSw); go_simp; try with_reducible rfl)); (try simp only [Act.put, sA, sB, sC])
  refine wpAnyH_take (i := 13) (v := ?_) (by simp only [gA, gB, gC]; rfl) (by kernel_rfl) (by kernel_rfl) (by kernel_rfl) (by exact fun _ _ _ h => h) (Or.inl ⟨by rfl, ?_⟩) (by assumption) ?_; rotate_left; (focus (intro w hSw; (try dsimp only at hSw); go_simp; try with_reducible rfl)); (try simp only [Act.put, sA, sB, sC])
  refine wpAnyH_take (i := 14) (v := _) (by simp only [gA, gB, gC]; rfl) (by kernel_rfl) (by kernel_rfl) (by kernel_rfl) (by exact fun _ _ _ h => h) (yields_cellI (by rfl) _ rfl ⟨bm, 5, none⟩ rfl (.int .i64 0) (fun _ q => (q.cell (p := ⟨bm, 5, none⟩) hmN.2).trans (hmN.1 5 _ rfl).1) intI_load) (by assumption) ?_; (try simp only [Act.put, sA, sB, sC])
  refine wpAnyH_take (i := 15) (v := ?_) (by simp only [gA, gB, gC]; rfl) (by kernel_rfl) (by kernel_rfl) (by kernel_rfl) (by exact fun _ _ _ h => h) (Or.inl ⟨by rfl, ?_⟩) (by assumption) ?_; rotate_left; (focus (intro w hSw; (try dsimp only at hSw); go_simp; try with_reducible rfl)); (try simp only [Act.put, sA, sB, sC])
  refine wpAnyH_take (i := 16) (v := ?_) (by simp only [gA, gB, gC]; rfl) (by kernel_rfl) (by kernel_rfl) (by kernel_rfl) (by exact fun _ _ _ h => h) (Or.inl ⟨by rfl, ?_⟩) (by assumption) ?_; rotate_left; (focus (intro w hSw; (try dsimp only at hSw); go_simp; try with_reducible rfl)); (try simp only [Act.put, sA, sB, sC])
  refine wpAnyH_take (i := 17) (v := ?_) (by simp only [gA, gB, gC]; rfl) (by kernel_rfl) (by kernel_rfl) (by kernel_rfl) (by exact fun _ _ _ h => h) (Or.inl ⟨by rfl, ?_⟩) (by assumption) ?_; rotate_left; (focus (intro w hSw; (try dsimp only at hSw); go_simp; try with_reducible rfl)); (try simp only [Act.put, sA, sB, sC])
  refine wpAnyH_take (i := 18) (v := _) (by simp only [gA, gB, gC]; rfl) (by kernel_rfl) (by kernel_rfl) (by kernel_rfl) (by exact fun _ _ _ h => h) (yields_row (by rfl) _ rfl bT rfl (stCs d vT) (fun _ q => (hsT.keep q).blk.range) hundS rfl hszX) (by assumption) ?_; (try simp only [Act.put, sA, sB, sC])
  refine wpAnyH_take (i := 20) (v := _) (by simp only [gA, gB, gC]; rfl) (by kernel_rfl) (by kernel_rfl) (by kernel_rfl) (by exact fun _ _ _ h => h) (yields_row (by rfl) _ rfl bs rfl (stCs d vs) (fun _ q => (hss.keep q).blk.range) hundS rfl hszX2) (by assumption) ?_; (try simp only [Act.put, sA, sB, sC])
  refine wpAnyH_ready (rs := [19]) (by kernel_rfl) (by simp) ?_
  refine AllReadyH.cons (by simp only [gA, gB, gC]; rfl) (fun K hK => ?_) AllReadyH.nil
  go_simp
  go_at_call 14
  refine (kst w0 vT (hvT.below hS0)).mono ?_
  rintro e w1 ⟨u1, rfl, hu1, hb⟩
  have hS1 := Below.then hS0 hb
  clear hb
  refine hK.out _ _ (by exact hS1) ?_
  clear hHeld hK
  intro hHeld
  (try simp only [Act.put, sA, sB, sC])
  refine wpAnyH_ready (rs := [21]) (by kernel_rfl) (by simp) ?_
  refine AllReadyH.cons (by simp only [gA, gB, gC]; rfl) (fun K hK => ?_) AllReadyH.nil
  go_simp
  go_at_call 14
  refine (kst w1 vs (hvs.below hS1)).mono ?_
  rintro e w2 ⟨u2, rfl, hu2, hb⟩
  have hS2 := Below.then hS1 hb
  replace hu1 := hu1.below hb
  clear hb
  refine hK.out _ _ (by exact hS2) ?_
  clear hHeld hK
  intro hHeld
  (try simp only [Act.put, sA, sB, sC])
  refine wpAnyH_ready (rs := [22]) (by kernel_rfl) (by simp) ?_
  refine AllReadyH.cons (by simp only [gA, gB, gC]; rfl) (fun K hK => ?_) AllReadyH.nil
  go_simp
  go_at_call 13
  refine (ksm w2 u1 u2 hu1 hu2).mono ?_
  rintro e w3 ⟨rfl, hb⟩
  have hS3 := Below.then hS2 hb
  clear hb
  refine hK.out _ _ (by exact hS3) ?_
  clear hHeld hK
  intro hHeld
  (try simp only [Act.put, sA, sB, sC])
  refine wpAnyH_take (i := 23) (v := ?_) (by simp only [gA, gB, gC]; rfl) (by kernel_rfl) (by kernel_rfl) (by kernel_rfl) (by exact fun _ _ _ h => h) (Or.inl ⟨by rfl, ?_⟩) (by assumption) ?_; rotate_left; (focus (intro w hSw; (try dsimp only at hSw); go_simp; try with_reducible rfl)); (try simp only [Act.put, sA, sB, sC])
  refine wpAnyH_take (i := 24) (v := ?_) (by simp only [gA, gB, gC]; rfl) (by kernel_rfl) (by kernel_rfl) (by kernel_rfl) (by exact fun _ _ _ h => h) (Or.inl ⟨by rfl, ?_⟩) (by assumption) ?_; rotate_left; (focus (intro w hSw; (try dsimp only at hSw); go_simp; try with_reducible rfl)); (try simp only [Act.put, sA, sB, sC])
  refine wpAnyH_done (by kernel_rfl) ?_ _
  have hBn := Below.then hB8 hS3
  go_wp2_with fail
  go_ret
  exact ⟨rfl, hBn⟩
end Go.Proofs.Ytinibccphecdfaa
