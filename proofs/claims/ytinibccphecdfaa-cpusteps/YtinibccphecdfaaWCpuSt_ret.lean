/-
  THE DOCUMENT'S OWN PROCESSOR (donjonref16): a step: ret.
-/
import Derived.Test.YtinibccphecdfaaWCpuStR
namespace Go.Proofs.Ytinibccphecdfaa
open Go.RowKit
set_option maxRecDepth 8000
set_option linter.unusedSimpArgs false
set_option linter.unusedVariables false

set_option maxRecDepth 8000 in
set_option maxHeartbeats 8000000 in
theorem rst_ret (c : Cp) (hc : c.Ok) (hl : c.hl = false) (v : Value) (m : List PG) (a : Option Addr) (cap : Nat) (hMG : MG m) (w : World) (hv : SV v c.st w) (hG : RowG w a m) (hf : fetE c (m.map (·.g)) = 0) (i : Ins) (hi : fetI c (m.map (·.g)) = i) (ho : i.o = 21) (hj : ¬ c.st.length = 0) (hrr : ¬ (lastF c).r < c.ring) (hvc : ∀ a2 n2 c2, v = .slice a2 n2 c2 → n2 ≤ c2) :
    Calls Try.prog 18 #[.agg (stCs c v).toArray, .slice a m.length cap] w (StR (stepC c (m.map (·.g))) w) := by
  have hundS := Try.underlying39
  have hszS := szSt
  have hundG := Try.underlying57
  have hszG := szSg
  have hundP := Try.underlying24
  have hszP := szPt
  have hundI := Try.underlying64
  have hszI := szIn
  have hszT := szTo
  have h4 := hc.ps
  have hok := all_ok hMG
  have hie : insE i = 0 := by rw [← hi]; exact fet_ok hok hf
  have hOp := st_opC hl hf hi
  have hoff := off_ok hok hf
  obtain ⟨⟨o0, o1⟩, p0, p1, n0, n1⟩ := insE_zero.1 hie
  obtain ⟨k, p, x, hk, hk4, hpp, hp, hpo, hx, hg, hms, hmo⟩ := front_p hc m p0 p1
  have kk := fun (W : World) (h : RowG W a m) => rkn_any m a cap p.s hMG.len W h
  have kf := fun (W : World) (h : RowG W a m) => rfet_any c v h4 m a cap hMG.len hMG.ok W h
  have hzz : fetZ c (m.map (·.g)) = i := by unfold fetZ; rw [if_pos hf, hi]
  simp only [hzz, hf] at kf
  simp only [hx] at kk
  obtain ⟨R, hR⟩ : ∃ R, mRing c i = R := ⟨_, rfl⟩
  have hgm : (if c.ring < p.r then p.r else c.ring) = R := by rw [← hR]; unfold mRing; rw [hp]; rfl
  have how : IntKind.i64.wrap (p.f + i.n) = p.f + i.n := by rw [IntKind.wrap_i64]; omega
  have hw1 : IntKind.i64.wrap (c.off + 1) = c.off + 1 := by rw [IntKind.wrap_i64]; omega
  have hre : rtE c = 0 := by unfold rtE; rw [if_neg hj, if_neg hrr]
  have hop : Aside (opC c (m.map (·.g)) i = okC (rtT c)) := by show opC _ _ _ = _; unfold opC; rw [if_neg (show ¬ i.o = 0 by omega), if_neg (show ¬ (i.o = 1 ∨ 4 ≤ i.o ∧ i.o ≤ 11) by omega), if_neg (show ¬ i.o = 2 by omega), if_neg (show ¬ i.o = 3 by omega), if_neg (show ¬ i.o = 12 by omega), if_neg (show ¬ i.o = 13 by omega), if_neg (show ¬ (i.o = 14 ∨ i.o = 15 ∧ c.a = 0 ∨ i.o = 16 ∧ c.a < 0) by omega), if_neg (show ¬ i.o = 17 by omega), if_neg (show ¬ i.o = 18 by omega), if_neg (show ¬ i.o = 19 by omega), if_neg (show ¬ i.o = 20 by omega), if_pos ho, hre, if_neg (by decide)]; (try rfl)
  rw [hOp]
  obtain ⟨O, hO⟩ : ∃ O, opC c (m.map (·.g)) i = O := ⟨_, rfl⟩
  rw [hO]
  replace hO : Aside (opC c (m.map (·.g)) i = O) := hO
  clear hOp hx hf hi hzz hoff hg hms hmo hpo hp
  obtain ⟨X0, hX0⟩ : ∃ X, stCs c v = X := ⟨_, rfl⟩
  have hlX : X0.length = 18 := by rw [← hX0]; exact st_len h4
  have hone0 : ∀ u ∈ X0, u.oneCell' = true := by rw [← hX0]; exact st_one c v hv.one
  rw [hX0]
  simp only [hX0] at kf
  obtain ⟨hs0, hr0, hq0, hB0⟩ := front_st h4 v w hX0
  have hv0 := hv.below hB0
  have hG0 := hG.below hB0
  clear hG
  have hu3 := hq0.2
  have hszX : (Try.prog.info? 39).map (·.size) = some X0.length := by rw [hlX]; exact hszS
  generalize hmn : m.length = mn at *
  go_enter Try.func18, Try.ntmps18
  go_upto_region 1 with fail
  generalize ((w.alloc (.cells X0.toArray 39)).alloc (.cells zS 39)).alloc (.cells zSt 45) = U0 at *
  simp only [Nat.add_assoc, Nat.reduceAdd]
  have x17 := hs0.hl
  rw [hl] at x17
  have hrs0 : U0.rangeAt w.heap.size 0 X0 := by rw [← hX0]; exact hs0.blk.range
  go_upto_region 3 with fail
  go_wp2_with (first | (refine wpList_load_row rfl _ rfl w.heap.size rfl X0 hrs0 hundS rfl hszX ?_) | fail)
  refine (kf U0 hG0).mono ?_
  rintro e W1 ⟨rfl, hb1⟩
  obtain ⟨W2, hW2, hth2, hi2, hk2⟩ := put3 W1 64 (ins3 i) rfl
  have hb2 := Below.then hb1 hk2
  replace hs0 := hs0.keep hb2
  replace hr0 := hr0.keep hb2
  replace hq0 := stab_blk _ _ _ _ hq0 hb2
  replace hB0 := Below.then hB0 hb2
  replace hv0 := hv0.below hb2
  replace hG0 := hG0.below hb2
  have hgi : U0.heap.size ≤ W1.heap.size := hb1.size
  clear kf x17 hrs0 hb1 hk2 hb2
  go_upto_region 4 with (first | (refine wpList_store_row rfl _ _ rfl W1.heap.size rfl (ins3 i) rfl hth2 hszI (ins3_one _) hW2 ?_) | fail)
  clear hW2 hth2
  generalize W1.heap.size = bi at *
  have hrs0 : W2.rangeAt w.heap.size 0 X0 := by rw [← hX0]; exact hs0.blk.range
  obtain ⟨W3, hW3, hth3, ht3, hk3⟩ := new_st W2 c h4 v 39
  rw [hX0] at hW3 hth3
  have hbit : bi < W2.heap.size := hi2.2
  go_upto_region 7 with (first | (refine wpList_load_row rfl _ rfl w.heap.size rfl X0 hrs0 hundS rfl hszX ?_) | (refine wpList_store_row rfl _ _ rfl W2.heap.size rfl X0 rfl hth3 hszX hone0 hW3 ?_) | fail)
  have xo := ht3.off
  have xof := (ht3.blk.1 1 _ rfl).2
  have ht4 := ht3.setO (c.off + 1)
  have hk4' := hk3.setCell (p := ⟨W2.heap.size, 1, none⟩) (Nat.le_refl _) (.int .i64 (c.off + 1))
  replace hs0 := hs0.keep hk4'
  replace hr0 := hr0.keep hk4'
  replace hq0 := stab_blk _ _ _ _ hq0 hk4'
  replace hi2 := stab_blk _ _ _ _ hi2 hk4'
  replace hB0 := Below.then hB0 hk4'
  replace hv0 := hv0.below hk4'
  replace hG0 := hG0.below hk4'
  clear hW3 hth3 hrs0
  go_upto_region 8 with fail
  clear xo xof ht3 hk3 hk4'
  generalize W3.setCell ⟨W2.heap.size, 1, none⟩ (.int .i64 (c.off + 1)) = W4 at *
  generalize W2.heap.size = bt at *
  have hrp : W4.rangeAt w.heap.size (4 + k * 3) (ptr3 p) := by rw [← hpp]; exact hs0.ptr hk4
  have xip : W4.cell? ⟨bi, 1, none⟩ = some (.int .i64 (k : Int)) := by rw [← hk]; exact (hi2.1 1 _ rfl).1
  have j1 : (k : Int) < 4 := by omega
  have j2 : ¬ (k : Int) < 0 := by omega
  obtain ⟨W5, hW5, hth5, hp5, hk5⟩ := put3 W4 24 (ptr3 p) rfl
  go_upto_region 9 with (first | (refine wpList_load_midg (by rfl) _ rfl w.heap.size (4 + k * 3) rfl (ptr3 p) hrp hundP rfl hszP ?_) | (refine wpList_store_row rfl _ _ rfl W4.heap.size rfl (ptr3 p) rfl hth5 hszP (ptr3J_one _) hW5 ?_) | fail)
  have hbt4 := ht4.blk.2
  replace hs0 := hs0.keep hk5
  replace hr0 := hr0.keep hk5
  replace hq0 := stab_blk _ _ _ _ hq0 hk5
  replace hi2 := stab_blk _ _ _ _ hi2 hk5
  replace ht4 := ht4.keep hk5
  replace hB0 := Below.then hB0 hk5
  replace hv0 := hv0.below hk5
  replace hG0 := hG0.below hk5
  clear hW5 hth5 hrp xip hk5
  generalize W4.heap.size = bp at *
  have xr := hs0.ring
  have xpr := (hp5.1 2 (.int .i64 p.r) rfl).1
  have xps := (hp5.1 0 (.int .i64 p.s) rfl).1
  go_upto_region 10 with fail
  go_wp2_with fail
  refine (kk W5 hG0).mono ?_
  rintro e W6 ⟨rfl, hb6⟩
  obtain ⟨W7, hW7, hth7, hx7, hk7⟩ := put7 W6 57 x.cs rfl
  have hb7 := Below.then hb6 hk7
  replace hs0 := hs0.keep hb7
  replace hr0 := hr0.keep hb7
  replace hq0 := stab_blk _ _ _ _ hq0 hb7
  replace hi2 := stab_blk _ _ _ _ hi2 hb7
  replace ht4 := ht4.keep hb7
  have hbp5 := hp5.2
  replace hp5 := stab_blk _ _ _ _ hp5 hb7
  replace hB0 := Below.then hB0 hb7
  replace hv0 := hv0.below hb7
  replace hG0 := hG0.below hb7
  have hgx : W5.heap.size ≤ W6.heap.size := hb6.size
  clear kk xr xpr xps hb6 hk7 hb7
  go_upto_region 11 with (first | (refine wpList_store_row rfl _ _ rfl W6.heap.size rfl x.cs rfl hth7 hszG (pg_one _) hW7 ?_) | fail)
  clear hW7 hth7
  generalize W6.heap.size = bx at *
  have xio : W7.cell? ⟨bi, 0, none⟩ = some (.int .i64 i.o) := (hi2.1 0 _ rfl).1
  have hbw : w.heap.size + 2 < bi := by omega
  have hib : bi < bt := hbit
  have hTB : bt < bp := hbt4
  have hBX : bp < bx := by omega
  rw [ho] at xio
  have hvc := hv0
  obtain ⟨a1, c1, hvs, hnn0, hrow⟩ := hvc
  obtain ⟨sn, hsn⟩ : ∃ sn, c.st.length = sn := ⟨_, rfl⟩
  rw [hsn] at hvs hj
  have xk : W7.cell? ⟨w.heap.size, 16, none⟩ = some (.slice a1 sn c1) := by rw [← hvs]; exact hs0.stk
  obtain ⟨n0, hn0⟩ : ∃ n0, sn = n0 + 1 := ⟨sn - 1, by omega⟩
  have hsn8 := hc.st
  rw [hsn] at hsn8
  subst hn0
  obtain ⟨fr, hfr⟩ : ∃ fr, c.st[n0]? = some fr := ⟨_, List.getElem?_eq_getElem (by omega)⟩
  have hlf : lastF c = fr := by unfold lastF; rw [hsn, List.getD_eq_getElem?_getD, show n0 + 1 - 1 = n0 by omega, hfr]; rfl
  obtain ⟨y1, rfl, -⟩ := hrow n0 fr hfr
  have hcl := hrow.at frc_len hfr
  have hszF : (Try.prog.info? 85).map (·.size) = some 3 := by kernel_rfl
  have hundF := Try.underlying85
  have hw2 : IntKind.i64.wrap (((n0 + 1 : Nat) : Int) - 1) = (n0 : Int) := by rw [IntKind.wrap_i64]; omega
  have hw3 : ((n0 + 1 : Nat) : Int) - 1 = (n0 : Int) := by omega
  have k1 : (n0 : Int) < ((n0 + 1 : Nat) : Int) := by omega
  have k2 : ¬ (n0 : Int) < 0 := by omega
  have k3 : ¬ ((n0 + 1 : Nat) : Int) ≤ (n0 : Int) := by omega
  have k4 : ¬ ((n0 + 1 : Nat) : Int) = 0 := by omega
  have k5 : (((n0 + 1 : Nat) : Int) == 0) = false := by simpa using k4
  obtain ⟨nn, hnn⟩ : ∃ nn : Nat, n0 + 1 = nn := ⟨_, rfl⟩
  have hop' : rtT c = raiseC { c with seg := fr.s, off := fr.f, ring := fr.r, st := c.st.take n0 } fr.r := by unfold rtT; rw [hlf, hsn, Nat.add_sub_cancel]
  rw [hop'] at hop
  clear hop'
  rw [hnn] at xk hw2 hw3 k1 k3 k4 k5 hvs
  obtain ⟨W8, hW8, hth8, hf8, hk8⟩ := put3 W7 85 (frc fr) rfl
  go_upto_region 56 with fail
  go_upto_region 59 with (first | (refine wpList_load_at rfl (.tmp 294) rfl (y1.add (n0 * 3)) rfl (frc fr) hcl hundF rfl hszF ?_) | (refine wpList_store_row rfl _ _ rfl W7.heap.size rfl (frc fr) rfl hth8 hszF (frc_oneR _) hW8 ?_) | fail)
  have hW7l : bx < W7.heap.size := hx7.2
  replace ht4 := ht4.keep hk8
  replace hr0 := hr0.keep hk8
  replace hq0 := stab_blk _ _ _ _ hq0 hk8
  replace hB0 := Below.then hB0 hk8
  replace hs0 := hs0.keep hk8
  replace hv0 := hv0.below hk8
  clear hW8 hth8 hk8 hcl xk
  generalize W7.heap.size = bf at *
  have xf2 := (hf8.1 2 (.int .i64 fr.r) rfl).1
  have xsr := hs0.ring
  rw [hlf] at hrr
  have xf0 := (hf8.1 0 (.int .i64 fr.s) rfl).1
  have xf1 := (hf8.1 1 (.int .i64 fr.f) rfl).1
  go_upto_region 61 with fail
  have hdr := (Below.refl W8.heap.size W8).drew
  have ht6 := ht4.keep hdr
  have hr6 := hr0.keep hdr
  have hq6 := stab_blk _ _ _ _ hq0 hdr
  have hB6 := Below.then hB0 hdr
  have hs6 := hs0.keep hdr
  have hf6 := stab_blk _ _ _ _ hf8 hdr
  clear hdr ht4 hr0 hq0 hB0 hs0 hf8 hv0 hp5 hx7
  refine wp_region_held_drew (S := (fun W => BlkL bf (frc fr) W)) (by kernel_rfl) (by exact hf6) ?_
  intro hHeld
  generalize W8.drew = w0 at *
  have c0 := ht6.blk.1 0 (.int .i64 c.seg) rfl
  have hl6 := st_len (v := v) ht6.ps
  have b1 := ht6.blk.1.set 0 (.int .i64 fr.s) (by rw [hl6]; decide)
  have c1 := b1 1 (.int .i64 (c.off + 1)) rfl
  have b2 := b1.set 1 (.int .i64 fr.f) (by rw [List.length_set, hl6]; decide)
  have c2 := b2 2 (.int .i64 c.ring) rfl
  clear b1 b2 hl6
  have so1 : Sole bt w0 (w0.setCell ⟨bt, 0, none⟩ (.int .i64 fr.s)) := Sole.set ⟨rfl, rfl, rfl, Nat.le_refl _, fun _ _ _ => rfl⟩ _ _
  have so2 := so1.set 1 (.int .i64 fr.f)
  have so3 := so2.set 2 (.int .i64 fr.r)
  have hS1 := so1.blk hf6 (by omega)
  have hS2 := so2.blk hf6 (by omega)
  have hS3 := so3.blk hf6 (by omega)
  refine wpAnyH_take (i := 0) (v := ?_) (by simp only [gA, gB, gC]; rfl) (by kernel_rfl) (by kernel_rfl) (by kernel_rfl) (by exact fun _ _ _ h => h) (Or.inl ⟨by rfl, ?_⟩) (by assumption) ?_; rotate_left; (focus (intro w hSw; (try dsimp only at hSw); go_simp; try with_reducible rfl)); (try simp only [Act.put, sA, sB, sC])
  refine wpAnyH_take (i := 1) (v := _) (by simp only [gA, gB, gC]; rfl) (by kernel_rfl) (by kernel_rfl) (by kernel_rfl) (by exact fun _ _ _ h => h) (yields_cellI (by rfl) _ rfl ⟨bf, 0, none⟩ rfl (.int .i64 fr.s) (fun _ q => (q.1 0 _ rfl).1) intI_load) (by assumption) ?_; (try simp only [Act.put, sA, sB, sC])
  refine wpAnyH_take (i := 2) (v := ?_) (by simp only [gA, gB, gC]; rfl) (by kernel_rfl) (by kernel_rfl) (by kernel_rfl) (by exact fun _ _ _ h => h) (Or.inl ⟨by rfl, ?_⟩) (by assumption) ?_; rotate_left; (focus (intro w hSw; (try dsimp only at hSw); go_simp; try with_reducible rfl)); (try simp only [Act.put, sA, sB, sC])
  refine wpAnyH_take (i := 3) (v := _) (by simp only [gA, gB, gC]; rfl) (by kernel_rfl) (by kernel_rfl) (by kernel_rfl) (by exact fun _ _ _ h => h) (yields_cellI (by rfl) _ rfl ⟨bf, 1, none⟩ rfl (.int .i64 fr.f) (fun _ q => (q.1 1 _ rfl).1) intI_load) (by assumption) ?_; (try simp only [Act.put, sA, sB, sC])
  refine wpAnyH_take (i := 4) (v := ?_) (by simp only [gA, gB, gC]; rfl) (by kernel_rfl) (by kernel_rfl) (by kernel_rfl) (by exact fun _ _ _ h => h) (Or.inl ⟨by rfl, ?_⟩) (by assumption) ?_; rotate_left; (focus (intro w hSw; (try dsimp only at hSw); go_simp; try with_reducible rfl)); (try simp only [Act.put, sA, sB, sC])
  refine wpAnyH_take (i := 5) (v := _) (by simp only [gA, gB, gC]; rfl) (by kernel_rfl) (by kernel_rfl) (by kernel_rfl) (by exact fun _ _ _ h => h) (yields_cellI (by rfl) _ rfl ⟨bf, 2, none⟩ rfl (.int .i64 fr.r) (fun _ q => (q.1 2 _ rfl).1) intI_load) (by assumption) ?_; (try simp only [Act.put, sA, sB, sC])
  refine wpAnyH_take (i := 6) (v := ?_) (by simp only [gA, gB, gC]; rfl) (by kernel_rfl) (by kernel_rfl) (by kernel_rfl) (by exact fun _ _ _ h => h) (Or.inl ⟨by rfl, ?_⟩) (by assumption) ?_; rotate_left; (focus (intro w hSw; (try dsimp only at hSw); go_simp; try with_reducible rfl)); (try simp only [Act.put, sA, sB, sC])
  refine wpAnyH_ready (rs := [7]) (by kernel_rfl) (by simp) ?_
  refine AllReadyH.cons (by simp only [gA, gB, gC]; rfl) (fun K hK => ?_) AllReadyH.nil
  refine step_storeK rfl _ _ rfl ⟨bt, 0, none⟩ rfl (.int .i64 fr.s) rfl (intR_store _ _ _ _ c0.1 c0.2) ?_
  (try simp only [Act.put, sA, sB, sC])
  refine hK.out _ _ (hS1) ?_
  clear hHeld hK
  intro hHeld
  (try simp only [Act.put, sA, sB, sC])
  refine wpAnyH_take (i := 8) (v := ?_) (by simp only [gA, gB, gC]; rfl) (by kernel_rfl) (by kernel_rfl) (by kernel_rfl) (by exact fun _ _ _ h => h) (Or.inl ⟨by rfl, ?_⟩) (by assumption) ?_; rotate_left; (focus (intro w hSw; (try dsimp only at hSw); go_simp; try with_reducible rfl)); (try simp only [Act.put, sA, sB, sC])
  refine wpAnyH_ready (rs := [9]) (by kernel_rfl) (by simp) ?_
  refine AllReadyH.cons (by simp only [gA, gB, gC]; rfl) (fun K hK => ?_) AllReadyH.nil
  refine step_storeK rfl _ _ rfl ⟨bt, 1, none⟩ rfl (.int .i64 fr.f) rfl (intR_store _ _ _ _ c1.1 c1.2) ?_
  (try simp only [Act.put, sA, sB, sC])
  refine hK.out _ _ (hS2) ?_
  clear hHeld hK
  intro hHeld
  (try simp only [Act.put, sA, sB, sC])
  refine wpAnyH_take (i := 10) (v := ?_) (by simp only [gA, gB, gC]; rfl) (by kernel_rfl) (by kernel_rfl) (by kernel_rfl) (by exact fun _ _ _ h => h) (Or.inl ⟨by rfl, ?_⟩) (by assumption) ?_; rotate_left; (focus (intro w hSw; (try dsimp only at hSw); go_simp; try with_reducible rfl)); (try simp only [Act.put, sA, sB, sC])
  refine wpAnyH_ready (rs := [11]) (by kernel_rfl) (by simp) ?_
  refine AllReadyH.cons (by simp only [gA, gB, gC]; rfl) (fun K hK => ?_) AllReadyH.nil
  refine step_storeK rfl _ _ rfl ⟨bt, 2, none⟩ rfl (.int .i64 fr.r) rfl (intR_store _ _ _ _ c2.1 c2.2) ?_
  (try simp only [Act.put, sA, sB, sC])
  refine hK.out _ _ (hS3) ?_
  clear hHeld hK
  intro hHeld
  (try simp only [Act.put, sA, sB, sC])
  refine wpAnyH_done (by kernel_rfl) ?_ _
  have ht7 : StAt bt { c with seg := fr.s, off := fr.f, ring := fr.r } v (((w0.setCell ⟨bt, 0, none⟩ (.int .i64 fr.s)).setCell ⟨bt, 1, none⟩ (.int .i64 fr.f)).setCell ⟨bt, 2, none⟩ (.int .i64 fr.r)) := ht6.set3 fr.s fr.f fr.r
  have hr7 : StAt (w.heap.size + 1) zeroC nilS (((w0.setCell ⟨bt, 0, none⟩ (.int .i64 fr.s)).setCell ⟨bt, 1, none⟩ (.int .i64 fr.f)).setCell ⟨bt, 2, none⟩ (.int .i64 fr.r)) := ⟨rfl, so3.blk hr6.blk (by omega)⟩
  have hq7 := so3.blk hq6 (show w.heap.size + 2 ≠ bt by omega)
  have hs7 : StAt w.heap.size c v (((w0.setCell ⟨bt, 0, none⟩ (.int .i64 fr.s)).setCell ⟨bt, 1, none⟩ (.int .i64 fr.f)).setCell ⟨bt, 2, none⟩ (.int .i64 fr.r)) := ⟨h4, so3.blk hs6.blk (by omega)⟩
  have hB7 := ((hB6.setCell (p := ⟨bt, 0, none⟩) (show w.heap.size ≤ bt by omega) (.int .i64 fr.s)).setCell (p := ⟨bt, 1, none⟩) (show w.heap.size ≤ bt by omega) (.int .i64 fr.f)).setCell (p := ⟨bt, 2, none⟩) (show w.heap.size ≤ bt by omega) (.int .i64 fr.r)
  clear c0 c1 c2 so1 so2 so3 hS1 hS2 hf6 hq6 hr6 hs6 ht6 hB6
  generalize ((w0.setCell ⟨bt, 0, none⟩ (.int .i64 fr.s)).setCell ⟨bt, 1, none⟩ (.int .i64 fr.f)).setCell ⟨bt, 2, none⟩ (.int .i64 fr.r) = W9 at *
  have hv9 := hv.below hB7
  obtain ⟨a9, c9, e9, -, hrow9⟩ := hv9
  have e9' := hvs.symm.trans e9
  injection e9' with ea en ec
  subst ea
  subst ec
  clear e9 en
  have hrk : RowAt 3 frc W9 (some y1) (c.st.take n0) := fun j x hx => hrow9 j x (by rw [List.getElem?_take] at hx; split at hx; exact hx; cases hx)
  have hlk : (c.st.take n0).length = n0 := by rw [List.length_take, hsn]; omega
  have x16 := hs7.stk
  rw [hvs] at x16
  have hgS : w.heap.size + 2 < W9.heap.size := hq7.2
  have hsn9 : nn ≤ 8 := by omega
  have hne9 : bf ≠ bt := by omega
  have hc9 := hvc _ _ _ hvs
  clear hrow hrow9 hs7 hvs xf0 xf1 xf2 xsr
  go_step
  rename_i K9 hK9 Ka Kb
  refine hK9 _ _ ?_
  refine (show Code.wp Try.prog (codeAt 62 Try.f18) _ _ _ from ret_tail (d := { c with seg := fr.s, off := fr.f, ring := fr.r }) h4 x16 ht7 hS3 hne9 hnn hsn9 hc9 hrk hlk ?_)
  intro x312 x313 x314 x315 x316 x317 x318 x319 x320 x321 x322 x323 x324 x325 us W13 ho13 ht12 so13
  have ht13 : StAt bt (raiseC { c with seg := fr.s, off := fr.f, ring := fr.r, st := c.st.take n0 } fr.r) us W13 := ⟨ht12.ps, ht12.blk⟩
  have hr5 : StAt (w.heap.size + 1) zeroC nilS W13 := ⟨rfl, so13.blk hr7.blk (by omega)⟩
  have hq5 := so13.blk hq7 (show w.heap.size + 2 ≠ bt by omega)
  have hB5 := so13.below hB7 (show w.heap.size ≤ bt by omega) (by omega)
  have hone := (SV.ownA ho13).one
  clear so13 ht12 ht7 hS3 x16 hrk hr7 hq7 hB7 hK9
  go_upto_region 66 with fail
  obtain ⟨T, hTT⟩ : ∃ T : Cp, raiseC { c with seg := fr.s, off := fr.f, ring := fr.r, st := c.st.take n0 } fr.r = T := ⟨_, rfl⟩
  replace ht13 : StAt bt T us _ := hTT ▸ ht13
  have hT4 := ht13.ps
  obtain ⟨WA, hWA, hthA, hrA, hkA⟩ := put_st hr5 (d := T) hT4 us
  have hBA := hkA _ _ (Nat.le_succ _) hB5
  have hqA : BlkL (w.heap.size + 2) (stoC none) WA := blk_off hq5 hWA (by omega)
  obtain ⟨WB, hWB, hthB, hqB, hkB⟩ := put_any hqA (ds := stoC none) rfl (by show 0 < 4; decide)
  have hBB := hkB _ _ (by omega) hBA
  have hrB : BlkL (w.heap.size + 1) (stCs T us) WB := blk_off hrA.blk hWB (by omega)
  have hrt := ht13.blk.range
  have hrBr := hrB.range
  have hqBr := hqB.range
  have hlY : (stCs T us).length = 18 := st_len hT4
  have honeY := st_one T us (by exact hone)
  obtain ⟨Y, hY⟩ : ∃ Y, stCs T us = Y := ⟨_, rfl⟩
  rw [hY] at hWA hthA hrt hrBr hlY honeY
  have hszY : (Try.prog.info? 39).map (·.size) = some Y.length := by rw [hlY]; exact hszS
  replace hY : Aside (stCs T us = Y) := hY
  replace hTT : Aside (raiseC { c with seg := fr.s, off := fr.f, ring := fr.r, st := c.st.take n0 } fr.r = T) := hTT
  clear hrA hkA hqA hkB hrB hqB hBA
  go_wp2_with (first | (refine wpList_load_row rfl _ rfl bt rfl Y hrt hundS rfl hszY ?_) | (refine wpList_store_row rfl _ _ rfl (w.heap.size + 1) rfl Y rfl hthA hszY honeY hWA ?_) | (refine wpList_store_row rfl _ _ rfl (w.heap.size + 2) rfl (stoC none) rfl hthB hszT (sto_one _) hWB ?_) | fail)
  refine bodyPost_ret (v := .tuple #[.agg Y.toArray, .agg (stoC none).toArray, .int .i64 0, .bool false, .int .i64 0]) (results_ref5 rfl _ _ w.heap.size rfl rfl _ _ _ rfl rfl rfl Y (stoC none) hlY rfl hrBr hqBr) rfl ?_
  have hOT : O = okC T := by rw [← hO.out, hop.out, hTT.out]
  rw [hOT]
  exact ⟨us, by show _ = Ending.returned (.tuple #[.agg (stCs T us).toArray, .agg (stoC none).toArray, .int .i64 0, .bool false, .int .i64 0]); rw [hY.out], by show SV us T.st _; rw [← hTT.out]; exact (by have soA : Sole (w.heap.size + 1) W13 WA := (by rw [← hWA]; exact Sole.cells ⟨rfl, rfl, rfl, Nat.le_refl _, fun _ _ _ => rfl⟩ (.inl rfl) _ _); have soB : Sole (w.heap.size + 2) WA WB := (by rw [← hWB]; exact Sole.cells ⟨rfl, rfl, rfl, Nat.le_refl _, fun _ _ _ => rfl⟩ (.inl rfl) _ _); exact SV.ownA (soB.own (soA.own ho13 (fun q => by have := (ho13.lt q).1; omega)) (fun q => by have := (ho13.lt q).1; omega))), hBB⟩
  

end Go.Proofs.Ytinibccphecdfaa
