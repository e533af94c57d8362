/-
  THE DOCUMENT'S OWN PROCESSOR (donjonref16): a step: setp.
-/
import Derived.Test.YtinibccphecdfaaWCpuStH
namespace Go.Proofs.Ytinibccphecdfaa
open Go.RowKit
set_option maxRecDepth 8000
set_option linter.unusedSimpArgs false
set_option linter.unusedVariables false

set_option maxRecDepth 8000 in
set_option maxHeartbeats 8000000 in
theorem rst_setp (c : Cp) (hc : c.Ok) (hl : c.hl = false) (v : Value) (m : List PG) (a : Option Addr) (cap : Nat) (hMG : MG m) (w : World) (hv : SV v c.st w) (hG : RowG w a m) (hf : fetE c (m.map (·.g)) = 0) (i : Ins) (hi : fetI c (m.map (·.g)) = i) (ho : i.o = 17) :
    Calls Try.prog 18 #[.agg (stCs c v).toArray, .slice a m.length cap] w (StR (stepC c (m.map (·.g))) w) := by
  have hundS := Try.underlying39
  have hszS := szSt
  have hundG := Try.underlying57
  have hszG := szSg
  have hundP := Try.underlying24
  have hszP := szPt
  have hundI := Try.underlying64
  have hszI := szIn
  have hszT := szTo
  have h4 := hc.ps
  have hok := all_ok hMG
  have hie : insE i = 0 := by rw [← hi]; exact fet_ok hok hf
  have hOp := st_opC hl hf hi
  have hoff := off_ok hok hf
  obtain ⟨⟨o0, o1⟩, p0, p1, n0, n1⟩ := insE_zero.1 hie
  obtain ⟨k, p, x, hk, hk4, hpp, hp, hpo, hx, hg, hms, hmo⟩ := front_p hc m p0 p1
  have kk := fun (W : World) (h : RowG W a m) => rkn_any m a cap p.s hMG.len W h
  have kf := fun (W : World) (h : RowG W a m) => rfet_any c v h4 m a cap hMG.len hMG.ok W h
  have hzz : fetZ c (m.map (·.g)) = i := by unfold fetZ; rw [if_pos hf, hi]
  simp only [hzz, hf] at kf
  simp only [hx] at kk
  obtain ⟨R, hR⟩ : ∃ R, mRing c i = R := ⟨_, rfl⟩
  have hgm : (if c.ring < p.r then p.r else c.ring) = R := by rw [← hR]; unfold mRing; rw [hp]; rfl
  have how : IntKind.i64.wrap (p.f + i.n) = p.f + i.n := by rw [IntKind.wrap_i64]; omega
  have hw1 : IntKind.i64.wrap (c.off + 1) = c.off + 1 := by rw [IntKind.wrap_i64]; omega
  have hop : Aside (opC c (m.map (·.g)) i = okC { c with off := c.off + 1, ps := c.ps.set i.p.toNat ⟨(wPtr c.a).s, (wPtr c.a).f, gmax (wPtr c.a).r c.ring⟩ }) := by show opC _ _ _ = _; unfold opC; rw [if_neg (show ¬ i.o = 0 by omega), if_neg (show ¬ (i.o = 1 ∨ 4 ≤ i.o ∧ i.o ≤ 11) by omega), if_neg (show ¬ i.o = 2 by omega), if_neg (show ¬ i.o = 3 by omega), if_neg (show ¬ i.o = 12 by omega), if_neg (show ¬ i.o = 13 by omega), if_neg (show ¬ (i.o = 14 ∨ i.o = 15 ∧ c.a = 0 ∨ i.o = 16 ∧ c.a < 0) by omega), if_pos ho]; (try rfl)
  have hkn : i.p.toNat = k := by omega
  have kdp := fun W : World => riDecP_any c.a hc.a W
  obtain ⟨q, hq⟩ : ∃ q, wPtr c.a = q := ⟨_, rfl⟩
  rw [hq, hkn] at hop
  simp only [hq] at kdp
  obtain ⟨G, hGG⟩ : ∃ G, gmax q.r c.ring = G := ⟨_, rfl⟩
  rw [hGG] at hop
  have hgq : (if q.r < c.ring then c.ring else q.r) = G := hGG
  clear hq hGG hkn
  rw [hOp]
  obtain ⟨O, hO⟩ : ∃ O, opC c (m.map (·.g)) i = O := ⟨_, rfl⟩
  rw [hO]
  replace hO : Aside (opC c (m.map (·.g)) i = O) := hO
  clear hOp hx hf hi hzz hoff hg hms hmo hpo hp
  obtain ⟨X0, hX0⟩ : ∃ X, stCs c v = X := ⟨_, rfl⟩
  have hlX : X0.length = 18 := by rw [← hX0]; exact st_len h4
  have hone0 : ∀ u ∈ X0, u.oneCell' = true := by rw [← hX0]; exact st_one c v hv.one
  rw [hX0]
  simp only [hX0] at kf
  obtain ⟨hs0, hr0, hq0, hB0⟩ := front_st h4 v w hX0
  have hv0 := hv.below hB0
  have hG0 := hG.below hB0
  clear hG
  have hu3 := hq0.2
  have hszX : (Try.prog.info? 39).map (·.size) = some X0.length := by rw [hlX]; exact hszS
  generalize hmn : m.length = mn at *
  go_enter Try.func18, Try.ntmps18
  go_upto_region 1 with fail
  generalize ((w.alloc (.cells X0.toArray 39)).alloc (.cells zS 39)).alloc (.cells zSt 45) = U0 at *
  simp only [Nat.add_assoc, Nat.reduceAdd]
  have x17 := hs0.hl
  rw [hl] at x17
  have hrs0 : U0.rangeAt w.heap.size 0 X0 := by rw [← hX0]; exact hs0.blk.range
  go_upto_region 3 with fail
  go_wp2_with (first | (refine wpList_load_row rfl _ rfl w.heap.size rfl X0 hrs0 hundS rfl hszX ?_) | fail)
  refine (kf U0 hG0).mono ?_
  rintro e W1 ⟨rfl, hb1⟩
  obtain ⟨W2, hW2, hth2, hi2, hk2⟩ := put3 W1 64 (ins3 i) rfl
  have hb2 := Below.then hb1 hk2
  replace hs0 := hs0.keep hb2
  replace hr0 := hr0.keep hb2
  replace hq0 := stab_blk _ _ _ _ hq0 hb2
  replace hB0 := Below.then hB0 hb2
  replace hv0 := hv0.below hb2
  replace hG0 := hG0.below hb2
  have hgi : U0.heap.size ≤ W1.heap.size := hb1.size
  clear kf x17 hrs0 hb1 hk2 hb2
  go_upto_region 4 with (first | (refine wpList_store_row rfl _ _ rfl W1.heap.size rfl (ins3 i) rfl hth2 hszI (ins3_one _) hW2 ?_) | fail)
  clear hW2 hth2
  generalize W1.heap.size = bi at *
  have hrs0 : W2.rangeAt w.heap.size 0 X0 := by rw [← hX0]; exact hs0.blk.range
  obtain ⟨W3, hW3, hth3, ht3, hk3⟩ := new_st W2 c h4 v 39
  rw [hX0] at hW3 hth3
  have hbit : bi < W2.heap.size := hi2.2
  go_upto_region 7 with (first | (refine wpList_load_row rfl _ rfl w.heap.size rfl X0 hrs0 hundS rfl hszX ?_) | (refine wpList_store_row rfl _ _ rfl W2.heap.size rfl X0 rfl hth3 hszX hone0 hW3 ?_) | fail)
  have xo := ht3.off
  have xof := (ht3.blk.1 1 _ rfl).2
  have ht4 := ht3.setO (c.off + 1)
  have hk4' := hk3.setCell (p := ⟨W2.heap.size, 1, none⟩) (Nat.le_refl _) (.int .i64 (c.off + 1))
  replace hs0 := hs0.keep hk4'
  replace hr0 := hr0.keep hk4'
  replace hq0 := stab_blk _ _ _ _ hq0 hk4'
  replace hi2 := stab_blk _ _ _ _ hi2 hk4'
  replace hB0 := Below.then hB0 hk4'
  replace hv0 := hv0.below hk4'
  replace hG0 := hG0.below hk4'
  clear hW3 hth3 hrs0
  go_upto_region 8 with fail
  clear xo xof ht3 hk3 hk4'
  generalize W3.setCell ⟨W2.heap.size, 1, none⟩ (.int .i64 (c.off + 1)) = W4 at *
  generalize W2.heap.size = bt at *
  have hrp : W4.rangeAt w.heap.size (4 + k * 3) (ptr3 p) := by rw [← hpp]; exact hs0.ptr hk4
  have xip : W4.cell? ⟨bi, 1, none⟩ = some (.int .i64 (k : Int)) := by rw [← hk]; exact (hi2.1 1 _ rfl).1
  have j1 : (k : Int) < 4 := by omega
  have j2 : ¬ (k : Int) < 0 := by omega
  obtain ⟨W5, hW5, hth5, hp5, hk5⟩ := put3 W4 24 (ptr3 p) rfl
  go_upto_region 9 with (first | (refine wpList_load_midg (by rfl) _ rfl w.heap.size (4 + k * 3) rfl (ptr3 p) hrp hundP rfl hszP ?_) | (refine wpList_store_row rfl _ _ rfl W4.heap.size rfl (ptr3 p) rfl hth5 hszP (ptr3J_one _) hW5 ?_) | fail)
  have hbt4 := ht4.blk.2
  replace hs0 := hs0.keep hk5
  replace hr0 := hr0.keep hk5
  replace hq0 := stab_blk _ _ _ _ hq0 hk5
  replace hi2 := stab_blk _ _ _ _ hi2 hk5
  replace ht4 := ht4.keep hk5
  replace hB0 := Below.then hB0 hk5
  replace hv0 := hv0.below hk5
  replace hG0 := hG0.below hk5
  clear hW5 hth5 hrp xip hk5
  generalize W4.heap.size = bp at *
  have xr := hs0.ring
  have xpr := (hp5.1 2 (.int .i64 p.r) rfl).1
  have xps := (hp5.1 0 (.int .i64 p.s) rfl).1
  go_upto_region 10 with fail
  go_wp2_with fail
  refine (kk W5 hG0).mono ?_
  rintro e W6 ⟨rfl, hb6⟩
  obtain ⟨W7, hW7, hth7, hx7, hk7⟩ := put7 W6 57 x.cs rfl
  have hb7 := Below.then hb6 hk7
  replace hs0 := hs0.keep hb7
  replace hr0 := hr0.keep hb7
  replace hq0 := stab_blk _ _ _ _ hq0 hb7
  replace hi2 := stab_blk _ _ _ _ hi2 hb7
  replace ht4 := ht4.keep hb7
  have hbp5 := hp5.2
  replace hp5 := stab_blk _ _ _ _ hp5 hb7
  replace hB0 := Below.then hB0 hb7
  replace hv0 := hv0.below hb7
  replace hG0 := hG0.below hb7
  have hgx : W5.heap.size ≤ W6.heap.size := hb6.size
  clear kk xr xpr xps hb6 hk7 hb7
  go_upto_region 11 with (first | (refine wpList_store_row rfl _ _ rfl W6.heap.size rfl x.cs rfl hth7 hszG (pg_one _) hW7 ?_) | fail)
  clear hW7 hth7
  generalize W6.heap.size = bx at *
  have xio : W7.cell? ⟨bi, 0, none⟩ = some (.int .i64 i.o) := (hi2.1 0 _ rfl).1
  have hbw : w.heap.size + 2 < bi := by omega
  have hib : bi < bt := hbit
  have hTB : bt < bp := hbt4
  have hBX : bp < bx := by omega
  rw [ho] at xio
  go_upto_region 42 with fail
  have hdr := (Below.refl W7.heap.size W7).drew
  have hS : Below bt W7 W7.drew := hdr.mono (Nat.le_of_lt ht4.blk.2)
  have hle : bt ≤ W7.drew.heap.size := Nat.le_trans (Nat.le_of_lt ht4.blk.2) hdr.size
  have htw := ht4.keep hdr
  have hrw := hr0.keep hdr
  have hqw := stab_blk _ _ _ _ hq0 hdr
  have hBw := Below.then hB0 hdr
  have hsw := hs0.keep hdr
  have hiw := stab_blk _ _ _ _ hi2 hdr
  have hxw := stab_blk _ _ _ _ hx7 hdr
  have zip : W7.cell? ⟨bi, 1, none⟩ = some (.int .i64 (k : Int)) := by rw [← hk]; exact (hi2.1 1 _ rfl).1
  have zsa := hs0.a
  clear hdr ht4 hr0 hq0 hB0
  refine wp_region_held_drew (S := (fun W => Below bt W7 W ∧ BlkL bx x.cs W)) (by kernel_rfl) (by exact ⟨hS, hxw⟩) ?_
  intro hHeld
  generalize W7.drew = w0 at *
  refine wpAnyH_take (i := 0) (v := ?_) (by simp only [gA, gB, gC]; rfl) (by kernel_rfl) (by kernel_rfl) (by kernel_rfl) (by exact fun _ _ _ h => h) (Or.inl ⟨by rfl, ?_⟩) (by assumption) ?_; rotate_left; (focus (intro w hSw; (try dsimp only at hSw); go_simp; try with_reducible rfl)); (try simp only [Act.put, sA, sB, sC])
  refine wpAnyH_take (i := 1) (v := _) (by simp only [gA, gB, gC]; rfl) (by kernel_rfl) (by kernel_rfl) (by kernel_rfl) (by exact fun _ _ _ h => h) (yields_cellI (by rfl) _ rfl ⟨bi, 1, none⟩ rfl (.int .i64 (k : Int)) (fun _ q => (q.1.cell (p := ⟨bi, 1, none⟩) hib).trans zip) intI_load) (by assumption) ?_; (try simp only [Act.put, sA, sB, sC])
  refine wpAnyH_take (i := 2) (v := ?_) (by simp only [gA, gB, gC]; rfl) (by kernel_rfl) (by kernel_rfl) (by kernel_rfl) (by exact fun _ _ _ h => h) (Or.inl ⟨by rfl, ?_⟩) (by assumption) ?_; rotate_left; (focus (intro w hSw; (try dsimp only at hSw); go_simp; try with_reducible rfl)); (try simp only [Act.put, sA, sB, sC])
  refine wpAnyH_take (i := 3) (v := _) (by simp only [gA, gB, gC]; rfl) (by kernel_rfl) (by kernel_rfl) (by kernel_rfl) (by exact fun _ _ _ h => h) (yields_cellI (by rfl) _ rfl ⟨w.heap.size, 3, none⟩ rfl (.int .i64 c.a) (fun _ q => (q.1.cell (p := ⟨w.heap.size, 3, none⟩) (show w.heap.size < bt by omega)).trans zsa) i64C_load) (by assumption) ?_; (try simp only [Act.put, sA, sB, sC])
  refine wpAnyH_take (i := 5) (v := ?_) (by simp only [gA, gB, gC]; rfl) (by kernel_rfl) (by kernel_rfl) (by kernel_rfl) (by exact fun _ _ _ h => h) (Or.inl ⟨by rfl, ?_⟩) (by assumption) ?_; rotate_left; (focus (intro w hSw; (try dsimp only at hSw); go_simp; try with_reducible rfl)); (try simp only [Act.put, sA, sB, sC])
  refine wpAnyH_ready (rs := [4]) (by kernel_rfl) (by simp) ?_
  refine AllReadyH.cons (by simp only [gA, gB, gC]; rfl) (fun K hK => ?_) AllReadyH.nil
  go_simp
  go_at_call 42
  refine (kdp w0).mono ?_
  rintro e w1 ⟨rfl, hb⟩
  replace hS := hS.trans (hb.mono hle)
  replace hle := Nat.le_trans hle hb.size
  replace htw := htw.keep hb
  replace hrw := hrw.keep hb
  replace hqw := stab_blk _ _ _ _ hqw hb
  replace hBw := Below.then hBw hb
  replace hsw := hsw.keep hb
  replace hiw := stab_blk _ _ _ _ hiw hb
  replace hxw := stab_blk _ _ _ _ hxw hb
  clear hb
  refine hK.out _ _ (⟨hS, hxw⟩) ?_
  clear hHeld hK
  intro hHeld
  (try simp only [Act.put, sA, sB, sC])
  refine wpAnyH_take (i := 6) (v := ?_) (by simp only [gA, gB, gC]; rfl) (by kernel_rfl) (by kernel_rfl) (by kernel_rfl) (by exact fun _ _ _ h => h) (Or.inl ⟨by rfl, ?_⟩) (by assumption) ?_; rotate_left; (focus (intro w hSw; (try dsimp only at hSw); go_simp; try with_reducible rfl)); (try simp only [Act.put, sA, sB, sC])
  refine wpAnyH_ready (rs := [7]) (by kernel_rfl) (by simp) ?_
  refine AllReadyH.cons (by simp only [gA, gB, gC]; rfl) (fun K hK => ?_) AllReadyH.nil
  obtain ⟨WP, hWP, hthP, hsP, hkP, hfP⟩ := htw.putPtr hk4 q (c' := { c with off := c.off + 1, ps := c.ps.set k q }) (by show (c.ps.set k _).length = 4; rw [List.length_set]; exact h4) (st_setP (c := { c with off := c.off + 1 }) h4 v hk4 q)
  have hSP := hkP _ _ (Nat.le_refl _) hS
  have hBP := hkP _ _ (by omega) hBw
  have soP : Sole bt w1 WP := by rw [← hWP]; exact Sole.cells ⟨rfl, rfl, rfl, Nat.le_refl _, fun _ _ _ => rfl⟩ (.inl rfl) _ _
  have hrP : StAt (w.heap.size + 1) zeroC nilS WP := ⟨rfl, soP.blk hrw.blk (by omega)⟩
  have hqP := soP.blk hqw (show w.heap.size + 2 ≠ bt by omega)
  have hssP : StAt w.heap.size c v WP := ⟨h4, soP.blk hsw.blk (by omega)⟩
  have hiP := soP.blk hiw (show bi ≠ bt by omega)
  refine step_store_part rfl _ _ rfl bt (4 + k * 3) rfl (ptr3 q) rfl hthP hszP (ptr3J_one _) hWP ?_
  (try simp only [Act.put, sA, sB, sC])
  refine hK.out _ _ (⟨hSP, soP.blk hxw (by omega)⟩) ?_
  clear hHeld hK
  intro hHeld
  clear hS htw hrw hqw hBw hsw hiw hxw soP hfP hkP hWP hthP
  (try simp only [Act.put, sA, sB, sC])
  refine wpAnyH_done (by kernel_rfl) ?_ _
  go_upto_region 43 with fail
  have hdr := (Below.refl WP.heap.size WP).drew
  have hsD := hsP.keep hdr
  have hrD := hrP.keep hdr
  have hqD := stab_blk _ _ _ _ hqP hdr
  have hBD := Below.then hBP hdr
  have hdS : Below bt WP WP.drew := hdr.mono (Nat.le_of_lt hsP.blk.2)
  have xq2d : WP.drew.cell? ⟨bt, 4 + k * 3 + 2, none⟩ = some (.int .i64 q.r) := by
    have h1 := hsD.ptr hk4 2 (.int .i64 (({ c with off := c.off + 1, ps := c.ps.set k q } : Cp).ps.getD k ⟨0, 0, 0⟩).r) rfl
    have h2 : ({ c with off := c.off + 1, ps := c.ps.set k q } : Cp).ps.getD k ⟨0, 0, 0⟩ = q := by
      show (c.ps.set k q).getD k ⟨0, 0, 0⟩ = q
      rw [List.getD_eq_getElem?_getD, List.getElem?_set_self (by omega)]
      rfl
    rw [h2] at h1
    exact h1
  have hyfd := (hsD.blk.1 (4 + k * 3 + 2) _ (List.getElem?_eq_getElem (by rw [st_len hsD.ps]; omega))).2
  have xip2 : WP.cell? ⟨bi, 1, none⟩ = some (.int .i64 (k : Int)) := by rw [← hk]; exact (hiP.1 1 _ rfl).1
  have xsr := hssP.ring
  clear hsP hrP hqP hBP hiP hssP hdr
  refine wp_region_held_drew (S := (fun W => Below bt WP W)) (by kernel_rfl) (by exact hdS) ?_
  intro hHeld
  generalize WP.drew = x0w at *
  have hdP : Below bt WP x0w := hdS
  have xq2 : x0w.cell? ⟨bt, 4 + k * 3 + 2, none⟩ = some (.int .i64 q.r) := xq2d
  have hyf : x0w.frozen? ⟨bt, 4 + k * 3 + 2, none⟩ = false := hyfd
  have ht5 := StAt.setR (c := { c with off := c.off + 1 }) h4 hk4 hsD G
  have so5 : Sole bt x0w (x0w.setCell ⟨bt, 4 + k * 3 + 2, none⟩ (.int .i64 G)) := Sole.set ⟨rfl, rfl, rfl, Nat.le_refl _, fun _ _ _ => rfl⟩ _ _
  have hr5 : StAt (w.heap.size + 1) zeroC nilS (x0w.setCell ⟨bt, 4 + k * 3 + 2, none⟩ (.int .i64 G)) := ⟨rfl, so5.blk hrD.blk (by omega)⟩
  have hq5 := so5.blk hqD (show w.heap.size + 2 ≠ bt by omega)
  have hB5 := hBD.setCell (p := ⟨bt, 4 + k * 3 + 2, none⟩) (show w.heap.size ≤ bt by omega) (.int .i64 G)
  have hS5 := hdP.setCell (p := ⟨bt, 4 + k * 3 + 2, none⟩) (Nat.le_refl _) (.int .i64 G)
  refine wpAnyH_take (i := 0) (v := ?_) (by simp only [gA, gB, gC]; rfl) (by kernel_rfl) (by kernel_rfl) (by kernel_rfl) (by exact fun _ _ _ h => h) (Or.inl ⟨by rfl, ?_⟩) (by assumption) ?_; rotate_left; (focus (intro w hSw; (try dsimp only at hSw); go_simp; try with_reducible rfl)); (try simp only [Act.put, sA, sB, sC])
  refine wpAnyH_take (i := 1) (v := _) (by simp only [gA, gB, gC]; rfl) (by kernel_rfl) (by kernel_rfl) (by kernel_rfl) (by exact fun _ _ _ h => h) (yields_cellI (by rfl) _ rfl ⟨bi, 1, none⟩ rfl (.int .i64 (k : Int)) (fun _ q => (q.cell (p := ⟨bi, 1, none⟩) (by show bi < bt; omega)).trans xip2) intI_load) (by assumption) ?_; (try simp only [Act.put, sA, sB, sC])
  refine wpAnyH_take (i := 2) (v := ?_) (by simp only [gA, gB, gC]; rfl) (by kernel_rfl) (by kernel_rfl) (by kernel_rfl) (by exact fun _ _ _ h => h) (Or.inl ⟨by rfl, ?_⟩) (by assumption) ?_; rotate_left; (focus (intro w hSw; (try dsimp only at hSw); go_simp; try with_reducible rfl)); (try simp only [Act.put, sA, sB, sC])
  refine wpAnyH_take (i := 3) (v := _) (by simp only [gA, gB, gC]; rfl) (by kernel_rfl) (by kernel_rfl) (by kernel_rfl) (by exact fun _ _ _ h => h) (yields_cellI (by rfl) _ rfl ⟨bi, 1, none⟩ rfl (.int .i64 (k : Int)) (fun _ q => (q.cell (p := ⟨bi, 1, none⟩) (by show bi < bt; omega)).trans xip2) intI_load) (by assumption) ?_; (try simp only [Act.put, sA, sB, sC])
  refine wpAnyH_take (i := 4) (v := ?_) (by simp only [gA, gB, gC]; rfl) (by kernel_rfl) (by kernel_rfl) (by kernel_rfl) (by exact fun _ _ _ h => h) (Or.inl ⟨by rfl, ?_⟩) (by assumption) ?_; rotate_left; (focus (intro w hSw; (try dsimp only at hSw); go_simp; try with_reducible rfl)); (try simp only [Act.put, sA, sB, sC])
  refine wpAnyH_take (i := 5) (v := ?_) (by simp only [gA, gB, gC]; rfl) (by kernel_rfl) (by kernel_rfl) (by kernel_rfl) (by exact fun _ _ _ h => h) (Or.inl ⟨by rfl, ?_⟩) (by assumption) ?_; rotate_left; (focus (intro w hSw; (try dsimp only at hSw); go_simp; try with_reducible rfl)); (try simp only [Act.put, sA, sB, sC])
  refine wpAnyH_take (i := 6) (v := ?_) (by simp only [gA, gB, gC]; rfl) (by kernel_rfl) (by kernel_rfl) (by kernel_rfl) (by exact fun _ _ _ h => h) (Or.inl ⟨by rfl, ?_⟩) (by assumption) ?_; rotate_left; (focus (intro w hSw; (try dsimp only at hSw); go_simp; try with_reducible rfl)); (try simp only [Act.put, sA, sB, sC])
  refine wpAnyH_take (i := 8) (v := ?_) (by simp only [gA, gB, gC]; rfl) (by kernel_rfl) (by kernel_rfl) (by kernel_rfl) (by exact fun _ _ _ h => h) (Or.inl ⟨by rfl, ?_⟩) (by assumption) ?_; rotate_left; (focus (intro w hSw; (try dsimp only at hSw); go_simp; try with_reducible rfl)); (try simp only [Act.put, sA, sB, sC])
  refine wpAnyH_take (i := 9) (v := _) (by simp only [gA, gB, gC]; rfl) (by kernel_rfl) (by kernel_rfl) (by kernel_rfl) (by exact fun _ _ _ h => h) (yields_cellI (by rfl) _ rfl ⟨w.heap.size, 2, none⟩ rfl (.int .i64 c.ring) (fun _ q => (q.cell (p := ⟨w.heap.size, 2, none⟩) (by show w.heap.size < bt; omega)).trans xsr) intI_load) (by assumption) ?_; (try simp only [Act.put, sA, sB, sC])
  refine wpAnyH_take (i := 11) (v := ?_) (by simp only [gA, gB, gC]; rfl) (by kernel_rfl) (by kernel_rfl) (by kernel_rfl) (by exact fun _ _ _ h => h) (Or.inl ⟨by rfl, ?_⟩) (by assumption) ?_; rotate_left; (focus (intro w hSw; (try dsimp only at hSw); go_simp; try with_reducible rfl)); (try simp only [Act.put, sA, sB, sC])
  refine wpAnyH_ready (rs := [7]) (by kernel_rfl) (by simp) ?_
  refine AllReadyH.cons (by simp only [gA, gB, gC]; rfl) (fun K hK => ?_) AllReadyH.nil
  refine step_oneJ rfl _ rfl ⟨bt, 4 + k * 3 + 2, none⟩ rfl (.int .i64 q.r) xq2 intI_load ?_
  (try simp only [Act.put, sA, sB, sC])
  refine hK.out _ _ (hdP) ?_
  clear hHeld hK
  intro hHeld
  (try simp only [Act.put, sA, sB, sC])
  refine wpAnyH_take (i := 10) (v := ?_) (by simp only [gA, gB, gC]; rfl) (by kernel_rfl) (by kernel_rfl) (by kernel_rfl) (by exact fun _ _ _ h => h) (Or.inl ⟨by rfl, ?_⟩) (by assumption) ?_; rotate_left; (focus (intro w hSw; (try dsimp only at hSw); go_simp; try with_reducible rfl)); (try simp only [Act.put, sA, sB, sC])
  refine wpAnyH_take (i := 12) (v := ?_) (by simp only [gA, gB, gC]; rfl) (by kernel_rfl) (by kernel_rfl) (by kernel_rfl) (by exact fun _ _ _ h => h) (Or.inl ⟨by rfl, ?_⟩) (by assumption) ?_; rotate_left; (focus (intro w hSw; (try dsimp only at hSw); go_simp; try with_reducible rfl)); (try simp only [Act.put, sA, sB, sC])
  refine wpAnyH_take (i := 13) (v := ?_) (by simp only [gA, gB, gC]; rfl) (by kernel_rfl) (by kernel_rfl) (by kernel_rfl) (by exact fun _ _ _ h => h) (Or.inl ⟨by rfl, ?_⟩) (by assumption) ?_; rotate_left; (focus (intro w hSw; (try dsimp only at hSw); go_simp; try with_reducible rfl)); (try simp only [Act.put, sA, sB, sC])
  refine wpAnyH_ready (rs := [14]) (by kernel_rfl) (by simp) ?_
  refine AllReadyH.cons (by simp only [gA, gB, gC]; rfl) (fun K hK => ?_) AllReadyH.nil
  refine step_storeK rfl _ _ rfl ⟨bt, 4 + k * 3 + 2, none⟩ rfl (.int .i64 G) rfl (intR_store _ _ _ _ xq2 hyf) ?_
  (try simp only [Act.put, sA, sB, sC])
  refine hK.out _ _ (hS5) ?_
  clear hHeld hK
  intro hHeld
  (try simp only [Act.put, sA, sB, sC])
  refine wpAnyH_done (by kernel_rfl) ?_ _
  generalize x0w.setCell ⟨bt, 4 + k * 3 + 2, none⟩ (.int .i64 G) = V8 at *
  clear so5 hyf xq2 hsD hrD hqD hBD
  go_upto_region 66 with fail
  obtain ⟨T, hTT⟩ : ∃ T : Cp, { c with off := c.off + 1, ps := c.ps.set k ⟨q.s, q.f, G⟩ } = T := ⟨_, rfl⟩
  replace ht5 : StAt bt T v _ := hTT ▸ ht5
  have hT4 := ht5.ps
  obtain ⟨WA, hWA, hthA, hrA, hkA⟩ := put_st hr5 (d := T) hT4 v
  have hBA := hkA _ _ (Nat.le_succ _) hB5
  have hqA : BlkL (w.heap.size + 2) (stoC none) WA := blk_off hq5 hWA (by omega)
  obtain ⟨WB, hWB, hthB, hqB, hkB⟩ := put_any hqA (ds := stoC none) rfl (by show 0 < 4; decide)
  have hBB := hkB _ _ (by omega) hBA
  have hrB : BlkL (w.heap.size + 1) (stCs T v) WB := blk_off hrA.blk hWB (by omega)
  have hrt := ht5.blk.range
  have hrBr := hrB.range
  have hqBr := hqB.range
  have hlY : (stCs T v).length = 18 := st_len hT4
  have honeY := st_one T v (by exact hv.one)
  obtain ⟨Y, hY⟩ : ∃ Y, stCs T v = Y := ⟨_, rfl⟩
  rw [hY] at hWA hthA hrt hrBr hlY honeY
  have hszY : (Try.prog.info? 39).map (·.size) = some Y.length := by rw [hlY]; exact hszS
  replace hY : Aside (stCs T v = Y) := hY
  replace hTT : Aside ({ c with off := c.off + 1, ps := c.ps.set k ⟨q.s, q.f, G⟩ } = T) := hTT
  clear hrA hkA hqA hkB hrB hqB hBA
  go_wp2_with (first | (refine wpList_load_row rfl _ rfl bt rfl Y hrt hundS rfl hszY ?_) | (refine wpList_store_row rfl _ _ rfl (w.heap.size + 1) rfl Y rfl hthA hszY honeY hWA ?_) | (refine wpList_store_row rfl _ _ rfl (w.heap.size + 2) rfl (stoC none) rfl hthB hszT (sto_one _) hWB ?_) | fail)
  refine bodyPost_ret (v := .tuple #[.agg Y.toArray, .agg (stoC none).toArray, .int .i64 0, .bool false, .int .i64 0]) (results_ref5 rfl _ _ w.heap.size rfl rfl _ _ _ rfl rfl rfl Y (stoC none) hlY rfl hrBr hqBr) rfl ?_
  have hOT : O = okC T := by rw [← hO.out, hop.out, hTT.out]
  rw [hOT]
  exact ⟨v, by show _ = Ending.returned (.tuple #[.agg (stCs T v).toArray, .agg (stoC none).toArray, .int .i64 0, .bool false, .int .i64 0]); rw [hY.out], by show SV v T.st _; rw [← hTT.out]; exact hv.below hBB, hBB⟩
  

end Go.Proofs.Ytinibccphecdfaa
