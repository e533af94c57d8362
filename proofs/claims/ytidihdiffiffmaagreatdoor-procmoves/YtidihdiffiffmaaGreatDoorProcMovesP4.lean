/-
  PART 4 of what ProcMoves leans on: PcFnQ PcNew PcCopy RowSet PrL PcOwn TreeFind MonFns MonFns2 PcIdx MakeE PcKnoP.
-/
import Derived.Deep.RegionHeld
import Derived.Deep.CutBlock
import Derived.Test.YtidihdiffiffmaaGreatDoorProcMovesP3
namespace Go.Proofs.YtidihdiffiffmaaGreatDoor
open Go.RowKit
set_option maxRecDepth 8000
set_option linter.unusedSimpArgs false
set_option linter.unusedVariables false
set_option maxRecDepth 8000 in
set_option maxHeartbeats 8000000 in
theorem cstep_any (c : Cp) (hc : c.Ok) (a1 : Option Addr) (c1 : Nat) (hn1 : a1 = none → c1 = 0) (bm : Nat) (a : Option Addr) (cap : Nat) (m : List PG) (hm : MG m) (is : Bool) (s o y n : Int) (hn : 0 ≤ n ∧ n < 1000000) (w : World) (hr1 : RowAt 3 frc w a1 c.st) (hN : MAt bm a cap m w) :
    Calls Tryz.prog 57 #[.agg (stCs c (.slice a1 c.st.length c1)).toArray, memI bm] w (StP bm m n (stepC c (m.map (·.g))) w) := by
  have hmf : ∀ (fn : Fn) (first cap : Array Value) (w : World), (Instr.makeFunc fn first cap).run Tryz.prog w = .ok (.func fn first cap) w := fun _ _ _ _ => rfl
  have hundS := Tryz.underlying45
  have hszS : (Tryz.prog.info? 45).map (·.size) = some 18 := by kernel_rfl
  have h4 := hc.ps
  obtain ⟨k1, hr4, hB0, hsz0⟩ := start4 w (stCs c (.slice a1 c.st.length c1)) 45 45 2 4 48
  have hs0 : StAt w.heap.size c (.slice a1 c.st.length c1) (((((w.alloc (.cells (stCs c (.slice a1 c.st.length c1)).toArray 45)).alloc (.cells zS 45)).alloc (.cells #[.int .i64 0] 2)).alloc (.cells #[.bool false] 4)).alloc (.cells #[.int .i64 0] 48)) := ⟨h4, k1⟩
  have x16 := hs0.stk
  have hrow0 := hr1.below frc_len hB0
  have hbm := hN.low
  have hlen := hc.st
  have kcl := cclone_any a1 c1 c.st hn1 (by omega) (((((w.alloc (.cells (stCs c (.slice a1 c.st.length c1)).toArray 45)).alloc (.cells zS 45)).alloc (.cells #[.int .i64 0] 2)).alloc (.cells #[.bool false] 4)).alloc (.cells #[.int .i64 0] 48)) hrow0
  have hN0 := hN.below hB0
  clear k1 hr1 hrow0
  obtain ⟨X, hX⟩ : ∃ X, stCs c (.slice a1 c.st.length c1) = X := ⟨_, rfl⟩
  simp only [hX] at hs0 hr4 hB0 hsz0 x16 kcl hN0
  rw [hX]
  clear hX
  go_enter_defers Tryz.func57, Tryz.ntmps57
  go_upto_region 2 with fail
  generalize (((((w.alloc (.cells X.toArray 45)).alloc (.cells zS 45)).alloc (.cells #[.int .i64 0] 2)).alloc (.cells #[.bool false] 4)).alloc (.cells #[.int .i64 0] 48)) = W0 at *
  have x16f := (hs0.blk.1 16 _ (st_stk h4)).2
  go_wp2_with fail
  refine kcl.mono ?_
  rintro e W1 ⟨v, rfl, ho, hb⟩
  obtain ⟨va, vc, hv, -, -, -⟩ := ho.slice frc_len
  subst hv
  have hs1 := hs0.keep hb
  have hr41 := hr4.keep hb
  have hB1 := Below.then hB0 hb
  have hN1 := hN0.below hb
  have y16 := hs1.stk
  have y16f := (hs1.blk.1 16 _ (st_stk h4)).2
  have hs2 := hs1.setStk (.slice va c.st.length vc)
  have hr42 : R4 w.heap.size (stCs zeroC nilS) 0 false 0 (W1.setCell ⟨w.heap.size, 16, none⟩ (.slice va c.st.length vc)) := hr41.same (fun j _ hj => heap_setCell_other _ ⟨w.heap.size, 16, none⟩ j _ (by show j ≠ w.heap.size; omega)) (by simp)
  have hB2 := hB1.setCell (p := ⟨w.heap.size, 16, none⟩) (Nat.le_refl _) (.slice va c.st.length vc)
  have hN2 := hN.below hB2
  have hO2 : OwnR 102 3 frc (W1.setCell ⟨w.heap.size, 16, none⟩ (.slice va c.st.length vc)) (w.heap.size + 5) (.slice va c.st.length vc) c.st := by
    rw [hsz0] at ho
    exact ho.keep fun k hk => heap_setCell_other _ ⟨w.heap.size, 16, none⟩ k _ (by have := (ho.lt hk).1; show k ≠ w.heap.size; omega)
  have hsz1 : w.heap.size + 5 ≤ (W1.setCell ⟨w.heap.size, 16, none⟩ (.slice va c.st.length vc)).heap.size := by have := hb.size; simp; omega
  clear hs1 hr41 hB1 hN1 ho hb kcl hs0 hr4 hB0 hN0 x16 x16f hsz0
  go_upto_region 3 with fail
  generalize W1.setCell ⟨w.heap.size, 16, none⟩ (.slice va c.st.length vc) = W2 at *
  clear y16 y16f
  have y17 := hs2.hl
  have hrs := hs2.blk.range
  have hlS : (stCs c (.slice va c.st.length vc)).length = 18 := st_len h4
  have hone := st_one c (.slice va c.st.length vc) rfl
  have hbd := x_build c h4 va c.st.length vc bm
  cases hhl : c.hl with
  | true =>
    have hst : stepC c (m.map (·.g)) = okC c := by unfold stepC; rw [if_pos hhl]
    rw [hhl] at y17
    obtain ⟨WA, hWA, hth, hA, hF, -, -, hD⟩ := hr42.put (stCs c (.slice va c.st.length vc)) (by rw [hlS]; rfl) (by rw [hlS]; decide) 0 false 0
    have hF4 := far4 hF 0 0 false
    have a2 := (hA.o.1 0 _ rfl).1
    have f2 := (hA.o.1 0 _ rfl).2
    have a3 := (hA.t.1 0 _ rfl).1
    have f3 := (hA.t.1 0 _ rfl).2
    have a4 := (hA.e.1 0 _ rfl).1
    have f4 := (hA.e.1 0 _ rfl).2
    have hO4 : OwnR 102 3 frc (((WA.setCell ⟨w.heap.size + 2, 0, none⟩ (.int .i64 0)).setCell ⟨w.heap.size + 3, 0, none⟩ (.bool false)).setCell ⟨w.heap.size + 4, 0, none⟩ (.int .i64 0)) w.heap.size (.slice va c.st.length vc) c.st := (hO2.keep fun k hk => hF4.up k (by have := (hO2.lt hk).1; omega)).lower (by omega)
    have hB4 := hB2.trans (hF4.bl.mono (Nat.le_succ _))
    replace hst : Aside (stepC c (m.map (·.g)) = okC c) := hst
    obtain ⟨Y, hY⟩ : ∃ Y, stCs c (.slice va c.st.length vc) = Y := ⟨_, rfl⟩
    rw [hY] at hWA hth hD hrs hone hlS
    have hszY : (Tryz.prog.info? 45).map (·.size) = some Y.length := by rw [hlS]; exact hszS
    replace hY : Aside (stCs c (.slice va c.st.length vc) = Y) := hY
    clear hF hF4 hA hs2 hr42 hB2 hN2 hO2 hbd hhl
    go_wp2_with (first | (refine wpList_load_row rfl _ rfl w.heap.size rfl Y hrs hundS rfl hszY ?_) | (refine wpList_store_row rfl _ _ rfl (w.heap.size + 1) rfl Y rfl hth hszY hone hWA ?_) | fail)
    refine leaves_cons (f := 89) (args := #[.pointer (some ⟨w.heap.size + 1, 0, none⟩), .pointer (some ⟨w.heap.size + 2, 0, none⟩), .pointer (some ⟨w.heap.size + 3, 0, none⟩), .pointer (some ⟨w.heap.size + 4, 0, none⟩)]) (by simp) (by simp [go_sem]) ?_
    refine (catch_idle _ _ _ _ _).mono ?_
    rintro e u' w'' ⟨rfl, rfl, rfl⟩
    refine ⟨_, results_r4 rfl _ _ w.heap.size rfl rfl rfl rfl Y hlS 0 0 false hD, ?_⟩
    rw [hst.out]
    exact ⟨.slice va c.st.length vc, by rw [← hY.out]; rfl, hO4, hB4⟩
  | false =>
  rw [hhl] at y17
  have hszX : (Tryz.prog.info? 173).map (·.size) = some 21 := by kernel_rfl
  have hlX : (stCs c (.slice va c.st.length vc) ++ rest3 bm 0 false).length = 21 := by rw [List.length_append, hlS]; rfl
  have honeX : ∀ u ∈ stCs c (.slice va c.st.length vc) ++ rest3 bm 0 false, u.oneCell' = true := fun u hu => by
    rcases List.mem_append.1 hu with hu | hu
    · exact hone u hu
    · simp at hu
      rcases hu with rfl | rfl | rfl <;> rfl
  obtain ⟨W3, hW3, hth3, hx3, hb3⟩ := put_new W2 zX 173 (stCs c (.slice va c.st.length vc) ++ rest3 bm 0 false) (by rw [hlX]; rfl) (by rw [hlX]; decide)
  have hx3' : XAt W2.heap.size c (.slice va c.st.length vc) (rest3 bm 0 false) W3 := ⟨h4, hx3⟩
  have h3 : XO W2.heap.size bm (w.heap.size + 5) a cap m is s o y n c (.slice va c.st.length vc) W3 := ⟨hm, hc, hx3', hO2.below hb3, hN2.below hb3, hbm.mono (by omega), hn, hsz1, by have := hN.lt; omega, fun q => by have := (hO2.lt q).2; omega⟩
  have hr43 := hr42.keep hb3
  have hB3 := Below.then hB2 hb3
  have hst : stepC c (m.map (·.g)) = if fetE c (m.map (·.g)) ≠ 0 then flt (fetE c (m.map (·.g))) else opC c (m.map (·.g)) (fetI c (m.map (·.g))) := by unfold stepC; rw [if_neg (by rw [hhl]; decide)]
  have hgs : ∀ g ∈ m.map (·.g), g.Ok := fun g hg => by obtain ⟨x, hx, rfl⟩ := List.mem_map.1 hg; exact hm.ok x hx
  have kfe := cfetch_any bm W2.heap.size a cap m hm c (.slice va c.st.length vc) [.int .i64 0, .bool false] (kn (m.map (·.g)) c.seg) rfl (fetE c (m.map (·.g))) rfl W3 h3.at h3.x
  obtain ⟨SC, hSC⟩ : ∃ SC, stepC c (m.map (·.g)) = SC := ⟨_, rfl⟩
  rw [hSC] at hst
  replace hSC : Aside (stepC c (m.map (·.g)) = SC) := hSC
  replace hst : Aside (SC = if fetE c (m.map (·.g)) ≠ 0 then flt (fetE c (m.map (·.g))) else opC c (m.map (·.g)) (fetI c (m.map (·.g)))) := hst
  have hXX : Aside (∀ W b, XAt b c (.slice va c.st.length vc) (rest3 bm 0 false) W → BlkL b (stCs c (.slice va c.st.length vc) ++ rest3 bm 0 false) W) := fun W b h => h.blk
  obtain ⟨Y, hY⟩ : ∃ Y, stCs c (.slice va c.st.length vc) = Y := ⟨_, rfl⟩
  obtain ⟨YX, hYX⟩ : ∃ YX, stCs c (.slice va c.st.length vc) ++ rest3 bm 0 false = YX := ⟨_, rfl⟩
  simp only [hYX] at hW3 hth3 hlX honeX hbd
  simp only [hY] at hrs hlS hbd
  have hszY : (Tryz.prog.info? 45).map (·.size) = some Y.length := by rw [hlS]; exact hszS
  have hszYX : (Tryz.prog.info? 173).map (·.size) = some YX.length := by rw [hlX]; exact hszX
  have hbxl := h3.lx
  clear hXX hY hYX hx3 hx3' hb3 hs2 hr42 hB2 hN2 hO2 hhl hlX hone hsz1 hszX
  go_upto_region 6 with (first | (refine wpList_load_row rfl _ rfl w.heap.size rfl Y hrs hundS rfl hszY ?_) | (refine wpList_buildv rfl _ rfl #[(0, .agg Y.toArray), (1, memI bm)] (by simp [Act.eval]) (hbd _) ?_) | (refine wpList_store_row rfl _ _ rfl W2.heap.size rfl YX rfl hth3 hszYX honeX hW3 ?_) | fail)
  clear hW3 hth3 hszYX honeX hbd hrs hlS hszY y17
  generalize W2.heap.size = bx at *
  have hbmx : bm < w.heap.size + 5 := h3.bl
  go_wp2_with fail
  refine kfe.mono ?_
  rintro e W4 (⟨hE, rfl, hb⟩ | ⟨hE, rfl, hX4, hS4⟩)
  · have hst2 : Aside (SC = flt (fetE c (m.map (·.g)))) := by
      show _ = _
      rw [hst.out, if_pos hE]
    have hr44 := hr43.keep hb
    have hB4 := Below.then hB3 hb
    clear hst kfe h3 hr43 hB3
    go_wp2_with fail
    refine leaves_cons (f := 89) (args := #[.pointer (some ⟨w.heap.size + 1, 0, none⟩), .pointer (some ⟨w.heap.size + 2, 0, none⟩), .pointer (some ⟨w.heap.size + 3, 0, none⟩), .pointer (some ⟨w.heap.size + 4, 0, none⟩)]) (by simp) (by simp [go_sem]) ?_
    refine (catch_panicking w.heap.size (stCs zeroC nilS) rfl 0 0 false (fetE c (m.map (·.g))) W4 hr44).mono ?_
    rintro e u' w'' ⟨rfl, rfl, hr9, hF⟩
    refine ⟨_, results_r4 rfl _ _ w.heap.size rfl rfl rfl rfl (stCs zeroC nilS) rfl 0 (fetE c (m.map (·.g))) false hr9, ?_⟩
    rw [hSC.out, hst2.out]
    exact StP.fault _ (hB4.trans (hF.bl.mono (Nat.le_succ _)))
  have hi := fet_ok hgs hE
  have hst2 : Aside (SC = opD { c with off := c.off + 1 } (m.map (·.g)) (fetI c (m.map (·.g)))) := by
    show _ = _
    rw [hst.out, if_neg (by simpa using hE), op_eq (kn_ok hgs _) hi]
  have h4' : XO bx bm (w.heap.size + 5) a cap m is s o y n { c with off := c.off + 1 } (.slice va c.st.length vc) W4 := ⟨hm, ⟨hc.ps, hc.pp, hc.ring, hc.a, hc.st, hc.sr⟩, hX4, hS4.own h3.own h3.vx, hN.below (hS4.below hB3 (by omega) hB3.size), h3.lw, hn, h3.lx, h3.bl, h3.vx⟩
  have hr44 : R4 w.heap.size (stCs zeroC nilS) 0 false 0 W4 := hr43.same (fun j hj _ => hS4.block j (by have := hr43.e.2; omega) (by omega)) hS4.size
  have hB4 : Below w.heap.size w W4 := hS4.below hB3 (by omega) hB3.size
  have kdo0 := fun (i : Ins) (q : insE i = 0) => cdo_any h4' i q
  have kdo : ∀ i, fetI c (m.map (·.g)) = i → Calls Tryz.prog 92 #[.pointer (some ⟨bx, 0, none⟩), .agg (ins3 i).toArray] W4 (DoP bx bm (w.heap.size + 5) m n SC W4) := fun i q => by
    have e : SC = opD { c with off := c.off + 1 } (m.map (·.g)) i := by rw [← q]; exact hst2.out
    rw [e]
    exact kdo0 i (by rw [← q]; exact hi)
  obtain ⟨i, hfi⟩ : ∃ i, fetI c (m.map (·.g)) = i := ⟨_, rfl⟩
  have hfi2 : decI (wAt (kn (m.map (·.g)) c.seg) c.off) = i := hfi
  rw [hfi2]
  have kdo := kdo i hfi
  have hwk : ∀ p, SC.wr = some p → (knP m p.1).g.is = true ∧ knP m p.1 ∈ m := fun p q => by rw [hst2.out] at q; exact opD_wr q
  have hflt : Aside (SC.e ≠ 0 → SC = flt SC.e) := fun q => by rw [hst2.out] at q ⊢; exact opD_flt q
  clear hst kfe h3 hr43 hB3 hX4 hS4 hE hi hfi hfi2 hgs hst2 kdo0
  go_wp2_with fail
  refine kdo.mono ?_
  rintro e W5 (⟨hE, rfl, hb⟩ | ⟨hE, ⟨qq, rfl⟩, v5, hX5, hO5, hw5⟩)
  · have hr45 := hr44.keep hb
    have hB5 := Below.then hB4 hb
    clear kdo h4' hr44 hB4
    go_wp2_with fail
    refine leaves_cons (f := 89) (args := #[.pointer (some ⟨w.heap.size + 1, 0, none⟩), .pointer (some ⟨w.heap.size + 2, 0, none⟩), .pointer (some ⟨w.heap.size + 3, 0, none⟩), .pointer (some ⟨w.heap.size + 4, 0, none⟩)]) (by simp) (by simp [go_sem]) ?_
    refine (catch_panicking w.heap.size (stCs zeroC nilS) rfl 0 0 false (SC.e) W5 hr45).mono ?_
    rintro e u' w'' ⟨rfl, rfl, hr9, hF⟩
    refine ⟨_, results_r4 rfl _ _ w.heap.size rfl rfl rfl rfl (stCs zeroC nilS) rfl 0 (SC.e) false hr9, ?_⟩
    rw [hSC.out, hflt.out hE]
    exact StP.fault _ (hB5.trans (hF.bl.mono (Nat.le_succ _)))
  have hr45 : R4 w.heap.size (stCs zeroC nilS) 0 false 0 W5 := hr44.same (fun j hj hj2 => hw5.block j hj (by have := hr44.e.2; omega) (hbm.mono (by omega)) hwk) hw5.size
  clear kdo h4' hr44
  go_upto_region 7 with fail
  have hdr := (Below.refl W5.heap.size W5).drew
  have hX6 := hX5.keep hdr
  have hO6 := hO5.below hdr
  have hr46 := hr45.keep hdr
  have hw6 : Wr bm (w.heap.size + 5) m n W4 SC.wr W5.drew := hw5.drew
  clear hX5 hO5 hr45 hw5 hdr
  refine wp_region_held_drew (S := (XAt bx SC.t v5 (rest3 bm SC.v SC.told))) (by kernel_rfl) (by exact hX6) ?_
  intro hHeld
  generalize W5.drew = w0 at *
  have hlT : (stCs SC.t v5).length = 18 := st_len hX6.ps
  obtain ⟨WA, hWA, hth, hA, hF, hRB, hRC, hD⟩ := hr46.put (stCs SC.t v5) (by rw [hlT]; rfl) (by rw [hlT]; decide) SC.v SC.told 0
  have hFB := hF.set (w.heap.size + 2) (by omega) 0 (.int .i64 SC.v)
  have hFC := hFB.set (w.heap.size + 3) (by omega) 0 (.bool SC.told)
  have hF4 := far4 hF SC.v 0 SC.told
  have hXA := hF.x hX6 hbxl
  have hXB := hFB.x hX6 hbxl
  have hXC := hFC.x hX6 hbxl
  have hXD := hF4.x hX6 hbxl
  obtain ⟨wa, wc, hwv, -, -, -⟩ := hO6.slice frc_len
  have hone := st_one SC.t v5 (by rw [hwv]; rfl)
  have hszT : (Tryz.prog.info? 45).map (·.size) = some (stCs SC.t v5).length := by rw [hlT]; exact hszS
  have hO9 : OwnR 102 3 frc (((WA.setCell ⟨w.heap.size + 2, 0, none⟩ (.int .i64 SC.v)).setCell ⟨w.heap.size + 3, 0, none⟩ (.bool SC.told)).setCell ⟨w.heap.size + 4, 0, none⟩ (.int .i64 0)) w.heap.size v5 SC.t.st := (hO6.keep fun k hk => hF4.up k (by have := (hO6.lt hk).1; omega)).lower (by omega)
  have hW9 := hw6.after hB4 (by omega) hF4 hbm hwk
  obtain ⟨Y, hY⟩ : ∃ Y, stCs SC.t v5 = Y := ⟨_, rfl⟩
  have hsY : ∀ W, XAt bx SC.t v5 (rest3 bm SC.v SC.told) W → W.rangeAt bx 0 Y := fun W h => by rw [← hY]; exact h.st
  simp only [hY] at hWA hth hone hszT hlT hD hRB hRC hA
  replace hY : Aside (stCs SC.t v5 = Y) := hY
  clear hF hFB hFC hF4 hw6 hB4 hr46 hO6 hwv
  refine wpAnyH_take (i := 0) (v := ?_) (by simp only [zgA, zgB, zgC]; rfl) (by kernel_rfl) (by kernel_rfl) (by kernel_rfl) (by exact step_hQ (by decide)) (Or.inl ⟨by rfl, ?_⟩) (by assumption) ?_; rotate_left; (focus (intro w hSw; (try dsimp only at hSw); go_simp; try with_reducible rfl)); (try simp only [Act.put, zsA, zsB, zsC])
  refine wpAnyH_take (i := 1) (v := _) (by simp only [zgA, zgB, zgC]; rfl) (by kernel_rfl) (by kernel_rfl) (by kernel_rfl) (by exact step_hQ (by decide)) (yieldsIf_load_mid (by rfl) 45 _ rfl bx 0 rfl Y _ (fun W s => hsY W s) hundS rfl hszT) (by assumption) ?_; (try simp only [Act.put, zsA, zsB, zsC])
  refine wpAnyH_take (i := 2) (v := ?_) (by simp only [zgA, zgB, zgC]; rfl) (by kernel_rfl) (by kernel_rfl) (by kernel_rfl) (by exact step_hQ (by decide)) (Or.inl ⟨by rfl, ?_⟩) (by assumption) ?_; rotate_left; (focus (intro w hSw; (try dsimp only at hSw); go_simp; try with_reducible rfl)); (try simp only [Act.put, zsA, zsB, zsC])
  refine wpAnyH_take (i := 3) (v := _) (by simp only [zgA, zgB, zgC]; rfl) (by kernel_rfl) (by kernel_rfl) (by kernel_rfl) (by exact step_hQ (by decide)) (yields_cellI (by rfl) _ rfl ⟨bx, 19, none⟩ rfl (.int .i64 SC.v) (fun _ s => (s.tails (i := 1) rfl).1) int64_load) (by assumption) ?_; (try simp only [Act.put, zsA, zsB, zsC])
  refine wpAnyH_take (i := 4) (v := ?_) (by simp only [zgA, zgB, zgC]; rfl) (by kernel_rfl) (by kernel_rfl) (by kernel_rfl) (by exact step_hQ (by decide)) (Or.inl ⟨by rfl, ?_⟩) (by assumption) ?_; rotate_left; (focus (intro w hSw; (try dsimp only at hSw); go_simp; try with_reducible rfl)); (try simp only [Act.put, zsA, zsB, zsC])
  refine wpAnyH_take (i := 5) (v := _) (by simp only [zgA, zgB, zgC]; rfl) (by kernel_rfl) (by kernel_rfl) (by kernel_rfl) (by exact step_hQ (by decide)) (yields_cellI (by rfl) _ rfl ⟨bx, 20, none⟩ rfl (.bool SC.told) (fun _ s => (s.tails (i := 2) rfl).1) bool_load) (by assumption) ?_; (try simp only [Act.put, zsA, zsB, zsC])
  refine tkR (rs := [6]) ?_
  refine tkC (fun K hK => ?_) AllReadyH.nil
  refine step_store_rowC rfl _ _ rfl (w.heap.size + 1) rfl Y rfl hth hszT hone hWA ?_
  (try simp only [Act.put, zsA, zsB, zsC])
  refine hK.out _ _ (hXA) ?_
  clear hHeld hK
  intro hHeld
  (try simp only [Act.put, zsA, zsB, zsC])
  refine tkR (rs := [7]) ?_
  refine tkC (fun K hK => ?_) AllReadyH.nil
  refine step_st rfl _ _ rfl ⟨w.heap.size + 2, 0, none⟩ rfl (.int .i64 SC.v) rfl (int64_store _ _ _ _ (hA.o.1 0 _ rfl).1 (hA.o.1 0 _ rfl).2) ?_
  (try simp only [Act.put, zsA, zsB, zsC])
  refine hK.out _ _ (hXB) ?_
  clear hHeld hK
  intro hHeld
  (try simp only [Act.put, zsA, zsB, zsC])
  refine tkR (rs := [8]) ?_
  refine tkC (fun K hK => ?_) AllReadyH.nil
  refine step_st rfl _ _ rfl ⟨w.heap.size + 3, 0, none⟩ rfl (.bool SC.told) rfl (bool_store _ _ _ _ (hRB.t.1 0 _ rfl).1 (hRB.t.1 0 _ rfl).2) ?_
  (try simp only [Act.put, zsA, zsB, zsC])
  refine hK.out _ _ (hXC) ?_
  clear hHeld hK
  intro hHeld
  (try simp only [Act.put, zsA, zsB, zsC])
  refine tkR (rs := [9]) ?_
  refine tkC (fun K hK => ?_) AllReadyH.nil
  refine step_st rfl _ _ rfl ⟨w.heap.size + 4, 0, none⟩ rfl (.int .i64 0) rfl (errno_store _ _ _ _ (hRC.e.1 0 _ rfl).1 (hRC.e.1 0 _ rfl).2) ?_
  (try simp only [Act.put, zsA, zsB, zsC])
  refine hK.out _ _ (hXD) ?_
  clear hHeld hK
  intro hHeld
  (try simp only [Act.put, zsA, zsB, zsC])
  refine wpAnyH_done (by kernel_rfl) ?_ _
  go_wp2_with fail
  refine leaves_cons (f := 89) (args := #[.pointer (some ⟨w.heap.size + 1, 0, none⟩), .pointer (some ⟨w.heap.size + 2, 0, none⟩), .pointer (some ⟨w.heap.size + 3, 0, none⟩), .pointer (some ⟨w.heap.size + 4, 0, none⟩)]) (by simp) (by simp [go_sem]) ?_
  refine (catch_idle _ _ _ _ _).mono ?_
  rintro e u' w'' ⟨rfl, rfl, rfl⟩
  refine ⟨_, results_r4 rfl _ _ w.heap.size rfl rfl rfl rfl Y hlT SC.v 0 SC.told hD, ?_⟩
  rw [hSC.out]
  exact ⟨v5, by rw [hY.out, hE], hO9, hW9⟩
end Go.Proofs.YtidihdiffiffmaaGreatDoor
namespace Go.Proofs.YtidihdiffiffmaaGreatDoor
open Go.RowKit
set_option maxRecDepth 8000
set_option linter.unusedSimpArgs false
set_option linter.unusedVariables false
theorem newC_ok : newC.Ok := by
  refine ⟨rfl, fun p hp => ?_, ⟨by decide, by decide⟩, ⟨by decide, by decide⟩, by decide, fun f hf => (by simp [newC] at hf)⟩
  simp [newC] at hp
  rcases hp with rfl | rfl | rfl | rfl <;> refine ⟨?_, ?_, ?_, ?_⟩ <;> decide
def newK (k : Nat) : Cp := ⟨0, 0, 4, 0, [⟨0, 0, 4⟩, ⟨1, 0, 4⟩, ⟨2, 0, 4⟩, ⟨3, 0, 4⟩].take k ++ [⟨0, 0, 0⟩, ⟨0, 0, 0⟩, ⟨0, 0, 0⟩, ⟨0, 0, 0⟩].drop k, [], false⟩
theorem newK_len {k : Nat} (h : k ≤ 4) : (newK k).ps.length = 4 := by simp only [newK, List.length_append, List.length_take, List.length_drop, List.length_cons, List.length_nil]; omega
theorem newK_step {k : Nat} (h : k < 4) : setM (stCs (newK k) nilS) (4 + k * 3) (ptr3 ⟨(k : Int), 0, 4⟩) = stCs (newK (k + 1)) nilS := by
  match k, h with
  | 0, _ => rfl
  | 1, _ => rfl
  | 2, _ => rfl
  | 3, _ => rfl
set_option maxRecDepth 8000 in
set_option maxHeartbeats 2000000 in
theorem cnew_any (w : World) : Calls Tryz.prog 30 #[] w fun e w' => e = .returned (.agg (stCs newC nilS).toArray) ∧ Below w.heap.size w w' := by
  have hundS := Tryz.underlying45
  have hszS : (Tryz.prog.info? 45).map (·.size) = some (stCs newC nilS).length := by kernel_rfl
  have hszP : (Tryz.prog.info? 41).map (·.size) = some 3 := by kernel_rfl
  have hr0 : StAt w.heap.size zeroC nilS (w.alloc (.cells zS 45)) := ⟨rfl, blkl_alloc w (stCs zeroC nilS).toArray 45⟩
  have hB0 := alloc_below w (.cells zS 45)
  have hsw : (w.alloc (.cells zS 45)).heap.size = w.heap.size + 1 := by simp
  obtain ⟨W1, hW1, hth1, hs1, hb1⟩ := new_st (w.alloc (.cells zS 45)) (newK 0) rfl nilS 45
  rw [hsw] at hW1 hth1 hs1
  have hr1 := hr0.keep hb1
  have hB1 := Below.then hB0 hb1
  have hone0 : ∀ u ∈ stCs (newK 0) nilS, u.oneCell' = true := st_one _ _ rfl
  have hbd : ∀ w : World, (Instr.build 45 #[(2, .int .i64 4)]).run Tryz.prog w = .ok (.agg (stCs (newK 0) nilS).toArray) w := fun w => by
    have h1 := Tryz.underlying45
    show _ = Result.ok (Value.agg #[.int .i64 0, .int .i64 0, .int .i64 4, .int .i64 0, .int .i64 0, .int .i64 0, .int .i64 0, .int .i64 0, .int .i64 0, .int .i64 0, .int .i64 0, .int .i64 0, .int .i64 0, .int .i64 0, .int .i64 0, .int .i64 0, .slice none 0 0, .bool false]) w
    go_simp
  have hszX : (Tryz.prog.info? 45).map (·.size) = some (stCs (newK 0) nilS).length := by kernel_rfl
  obtain ⟨X, hX⟩ : ∃ X, stCs (newK 0) nilS = X := ⟨_, rfl⟩
  simp only [hX] at hW1 hth1 hone0 hbd hszX
  clear hX hr0 hB0 hb1 hsw
  go_enter Tryz.func30, Tryz.ntmps30
  go_upto_region 2 with (first | (refine wpList_buildv rfl _ rfl #[(2, .int .i64 4)] (by simp [Act.eval]) (hbd _) ?_) | (refine wpList_store_row rfl _ _ rfl (w.heap.size + 1) rfl X rfl hth1 hszX hone0 hW1 ?_) | fail)
  clear hW1 hth1 hone0 hbd hszX
  go_wp2_with fail
  go_loopw [4] (fun t4 wr => ∃ k : Nat, k ≤ 4 ∧ t4 = .int .i64 (k : Int) ∧ StAt w.heap.size zeroC nilS wr ∧ StAt (w.heap.size + 1) (newK k) nilS wr ∧ Below w.heap.size w wr) (fun t4 _ => 4 - (Go.RowKit.intOf t4).toNat)
  case atStart => exact ⟨0, by omega, rfl, hr1, hs1, hB1⟩
  case round =>
  clear hr1 hs1 hB1
  obtain ⟨k, hk, rfl, hr, hs, hB⟩ := hrel
  by_cases hk4 : k < 4
  · have i1 : (k : Int) < 4 := by omega
    have i2 : ¬ (k : Int) < 0 := by omega
    obtain ⟨W2, hW2, hth2, hs2, hk2, hf2⟩ := hs.putPtr hk4 ⟨(k : Int), 0, 4⟩ (newK_len (by omega)) (newK_step hk4)
    have hB2 := hk2 _ _ (Nat.le_succ _) hB
    have hr2 : StAt w.heap.size zeroC nilS W2 := ⟨rfl, hr.blk.1.same (hf2 _ (by omega)), Nat.lt_of_lt_of_le hr.blk.2 (hk2 0 wr (Nat.zero_le _) (Below.refl _ _)).size⟩
    clear hr hs hB hk2 hf2
    go_wp2_with (first | (refine wpList_store_part rfl _ _ rfl (w.heap.size + 1) (4 + k * 3) rfl (ptr3 ⟨(k : Int), 0, 4⟩) rfl hth2 hszP (ptr3J_one _) hW2 ?_) | fail)
    exact ⟨⟨k + 1, by omega, by simp, hr2, hs2, hB2⟩, by simp [Go.RowKit.intOf]; omega⟩
  · obtain rfl : k = 4 := by omega
    have hs4 : StAt (w.heap.size + 1) newC nilS wr := hs
    obtain ⟨W3, hW3, hth3, hr3, hk3⟩ := put_st hr (d := newC) rfl nilS
    have hB3 := hk3 _ _ (Nat.le_refl _) hB
    have hrg := hs4.blk.range
    have hr3r := hr3.blk.range
    have hone : ∀ u ∈ stCs newC nilS, u.oneCell' = true := st_one _ _ rfl
    obtain ⟨Y, hY⟩ : ∃ Y, stCs newC nilS = Y := ⟨_, rfl⟩
    rw [hY] at hW3 hth3 hrg hr3r hone hszS
    replace hY : Aside (stCs newC nilS = Y) := hY
    clear hr hs hB hs4 hr3 hk3
    go_wp2_with (first | (refine wpList_load_row rfl _ rfl (w.heap.size + 1) rfl Y hrg hundS rfl hszS ?_) | (refine wpList_store_row rfl _ _ rfl w.heap.size rfl Y rfl hth3 hszS hone hW3 ?_) | fail)
    refine bodyPost_ret (v := .agg Y.toArray) (results_row1 rfl _ _ w.heap.size rfl Y hr3r hundS rfl hszS) rfl ?_
    exact ⟨by rw [hY.out], hB3⟩
end Go.Proofs.YtidihdiffiffmaaGreatDoor
namespace Go.Proofs.YtidihdiffiffmaaGreatDoor
open Go.RowKit
set_option maxRecDepth 8000
set_option linter.unusedSimpArgs false
set_option linter.unusedVariables false
theorem heapC_setCell_at {w : World} {b o : Nat} {c : Array Value} {t : TypeId} {fr : Nat × Nat} (v : Value) (h : w.heap[b]? = some (.cells c t fr)) : (w.setCell ⟨b, o, none⟩ v).heap[b]? = some (.cells (c.setIfInBounds o v) t fr) := by
  have hb := (Array.getElem?_eq_some_iff.1 h).1
  have he := (Array.getElem?_eq_some_iff.1 h).2
  simp only [World.setCell, Array.getElem?_modify]
  simp [hb, he]
theorem heapC_setCells {b : Nat} {t : TypeId} {fr : Nat × Nat} : ∀ (vs : List Value) (o : Nat) (w : World) (c : Array Value), w.heap[b]? = some (.cells c t fr) → (w.setCells b o vs).heap[b]? = some (.cells (setM c.toList o vs).toArray t fr)
  | [], o, w, c, h => by
    rw [setM]
    exact h
  | v :: r, o, w, c, h => by
    have h1 := heapC_setCells r (o + 1) _ _ (heapC_setCell_at (o := o) v h)
    rw [setM]
    rw [Array.toList_setIfInBounds] at h1
    exact h1
theorem setM_allC : ∀ (Y X p : List Value), X.length = Y.length → setM (p ++ X) p.length Y = p ++ Y
  | [], X, p, h => by
    rw [List.eq_nil_of_length_eq_zero h]
    rfl
  | y :: r, [], p, h => by simp at h
  | y :: r, x :: s, p, h => by
    rw [setM, List.set_append_right _ _ (Nat.le_refl _), Nat.sub_self, List.set_cons_zero]
    have := setM_allC r s (p ++ [y]) (by simpa using h)
    simpa [List.append_assoc] using this
theorem copiedR_run {α : Type} {e t : TypeId} {sz : Nat} {f : α → List Value} (hE : ElemOk e t sz f) (l : List α) (n : Nat) (hl : l.length = n) (a : Option Addr) (cap : Nat) (w : World) (hn : n ≤ 1000) (h : RowAt sz f w a l) (ty : TypeId) :
    ∃ W1 W2, (Instr.makeSlice t (.int .i64 (n : Int)) (.int .i64 (n : Int))).run Tryz.prog w = .ok (.slice (some ⟨w.heap.size, 0, none⟩) n n) W1 ∧
      (Builtin.copy_ #[t, t] ty #[.slice (some ⟨w.heap.size, 0, none⟩) n n, .slice a n cap]).run Tryz.prog W1 = .ok (goInt n) W2 ∧ OwnR e sz f W2 w.heap.size (.slice (some ⟨w.heap.size, 0, none⟩) n n) l ∧ Below w.heap.size w W2 := by
  obtain ⟨cur, hcs, hmk⟩ := make_some hE w n hn
  obtain ⟨i, z, b, hi, hz, hs, hb, hzs, hbb⟩ := hE.info
  have hp := hE.pos
  have hszm : (Tryz.prog.info? e).map (·.size) = some sz := by rw [hi]; simpa using hs
  have hB := alloc_below w (.cells cur e)
  have hnew := heap_alloc_new w (.cells cur e)
  have hmax : n ≤ maxLen := by simp only [maxLen]; omega
  cases a with
  | none =>
    have hl0 : l = [] := by
      cases l with
      | nil => rfl
      | cons x r =>
        obtain ⟨y, hy, _⟩ := h 0 x rfl
        cases hy
    subst hl0
    obtain rfl : n = 0 := hl.symm
    refine ⟨_, _, hmk, run_copy_none _ t t ty e sz _ _ _ _ _ _ hE.und hszm (by rfl), ?_, hB⟩
    refine ⟨by simp, .inr ⟨w.heap.size, 0, cur, rfl, Nat.le_refl _, hnew, Nat.le_refl _, hmax, hcs, by simp⟩⟩
  | some y =>
    have hfl : (l.flatMap f).length = n * sz := by rw [flat_length hE.len, hl]
    have hbk := blk_alloc w cur e
    have hr := (h.below hE.len hB).flat hE.len hp
    have hbl : cur.toList.length = (l.flatMap f).length := by rw [hfl]; simpa using hcs
    have hth := hbk.there
    rw [hbl] at hth
    have hc := run_copy_cells_many (P := Tryz.prog) (w.alloc (.cells cur e)) t t ty e sz w.heap.size 0 n n y n cap (l.flatMap f) hE.und hszm (by rw [show Nat.min n n = n from Nat.min_self n]; exact hfl) hr (fun j hj => (hth j hj).1) (fun j hj => (hth j hj).2) (fun u hu => by
      obtain ⟨x, _, hx⟩ := List.mem_flatMap.1 hu
      exact hE.one x u hx)
    rw [show Nat.min n n = n from Nat.min_self n] at hc
    refine ⟨_, _, hmk, hc, ?_, Below.cells (Nat.le_refl _) _ 0 hB⟩
    have h2 := heapC_setCells (l.flatMap f) 0 _ _ hnew
    have h3 := setM_allC (l.flatMap f) cur.toList [] hbl
    simp only [List.nil_append, List.length_nil] at h3
    rw [h3] at h2
    refine ⟨by rw [hfl, hl], .inr ⟨w.heap.size, n, _, by rw [hl], Nat.le_refl _, h2, by omega, hmax, by simpa using hfl, ?_⟩⟩
    rw [List.take_of_length_le]
    simp [hfl, hl]
theorem scl_ok : ElemOk 9 39 1 scl :=
  ⟨Tryz.underlying39, by
    obtain ⟨i, h1, h2, h3, h4⟩ := info_of (e := 9) (z := .string ⟨#[]⟩) (sz := 1) (b := 16) (by kernel_rfl)
    exact ⟨i, _, _, h1, h2, h3, h4, rfl, by omega⟩, by omega, fun _ => rfl, fun x u hu => by simp [scl] at hu; subst hu; rfl⟩
set_option maxHeartbeats 1000000 in
theorem pcpS_any (a : Option Addr) (cap : Nat) (l : List ByteArray) (w : World) (hn : l.length ≤ 1000) (h : RowAt 1 scl w a l) :
    Calls Tryz.prog 29 #[.slice a l.length cap] w fun e w' => e = .returned (.slice (some ⟨w.heap.size, 0, none⟩) l.length l.length) ∧ OwnR 9 1 scl w' w.heap.size (.slice (some ⟨w.heap.size, 0, none⟩) l.length l.length) l ∧ Below w.heap.size w w' := by
  obtain ⟨n, hl⟩ : ∃ n, l.length = n := ⟨_, rfl⟩
  rw [hl] at hn ⊢
  obtain ⟨W1, W2, hmk, hcp, hr, hB⟩ := copiedR_run scl_ok l n hl a cap w hn h 3
  clear hl
  go_enter Tryz.func29, Tryz.ntmps29
  go_wp2_with fail
  go_ret
  exact ⟨rfl, hr, hB⟩
set_option maxHeartbeats 1000000 in
theorem pcpN_any (a : Option Addr) (cap : Nat) (l : List PN) (w : World) (hn : l.length ≤ 1000) (h : RowAt 16 PN.cs w a l) :
    Calls Tryz.prog 53 #[.slice a l.length cap] w fun e w' => e = .returned (.slice (some ⟨w.heap.size, 0, none⟩) l.length l.length) ∧ OwnR 36 16 PN.cs w' w.heap.size (.slice (some ⟨w.heap.size, 0, none⟩) l.length l.length) l ∧ Below w.heap.size w w' := by
  obtain ⟨n, hl⟩ : ∃ n, l.length = n := ⟨_, rfl⟩
  rw [hl] at hn ⊢
  obtain ⟨W1, W2, hmk, hcp, hr, hB⟩ := copiedR_run pn_ok l n hl a cap w hn h 3
  clear hl
  go_enter Tryz.func53, Tryz.ntmps53
  go_wp2_with fail
  go_ret
  exact ⟨rfl, hr, hB⟩
set_option maxHeartbeats 1000000 in
theorem pcpG_any (a : Option Addr) (cap : Nat) (l : List Gr) (w : World) (hn : l.length ≤ 1000) (h : RowAt 2 gcl w a l) :
    Calls Tryz.prog 54 #[.slice a l.length cap] w fun e w' => e = .returned (.slice (some ⟨w.heap.size, 0, none⟩) l.length l.length) ∧ OwnR 119 2 gcl w' w.heap.size (.slice (some ⟨w.heap.size, 0, none⟩) l.length l.length) l ∧ Below w.heap.size w w' := by
  obtain ⟨n, hl⟩ : ∃ n, l.length = n := ⟨_, rfl⟩
  rw [hl] at hn ⊢
  obtain ⟨W1, W2, hmk, hcp, hr, hB⟩ := copiedR_run gr_okT l n hl a cap w hn h 3
  clear hl
  go_enter Tryz.func54, Tryz.ntmps54
  go_wp2_with fail
  go_ret
  exact ⟨rfl, hr, hB⟩
set_option maxHeartbeats 1000000 in
theorem pcpW_any (a : Option Addr) (cap : Nat) (l : List Int) (w : World) (hn : l.length ≤ 1000) (h : RowAt 1 wcl w a l) :
    Calls Tryz.prog 55 #[.slice a l.length cap] w fun e w' => e = .returned (.slice (some ⟨w.heap.size, 0, none⟩) l.length l.length) ∧ OwnR 2 1 wcl w' w.heap.size (.slice (some ⟨w.heap.size, 0, none⟩) l.length l.length) l ∧ Below w.heap.size w w' := by
  obtain ⟨n, hl⟩ : ∃ n, l.length = n := ⟨_, rfl⟩
  rw [hl] at hn ⊢
  obtain ⟨W1, W2, hmk, hcp, hr, hB⟩ := copiedR_run wd_okT l n hl a cap w hn h 3
  clear hl
  go_enter Tryz.func55, Tryz.ntmps55
  go_wp2_with fail
  go_ret
  exact ⟨rfl, hr, hB⟩
set_option maxHeartbeats 1000000 in
theorem pcpF_any (a : Option Addr) (cap : Nat) (l : List Fr) (w : World) (hn : l.length ≤ 1000) (h : RowAt 3 frc w a l) :
    Calls Tryz.prog 56 #[.slice a l.length cap] w fun e w' => e = .returned (.slice (some ⟨w.heap.size, 0, none⟩) l.length l.length) ∧ OwnR 102 3 frc w' w.heap.size (.slice (some ⟨w.heap.size, 0, none⟩) l.length l.length) l ∧ Below w.heap.size w w' := by
  obtain ⟨n, hl⟩ : ∃ n, l.length = n := ⟨_, rfl⟩
  rw [hl] at hn ⊢
  obtain ⟨W1, W2, hmk, hcp, hr, hB⟩ := copiedR_run fr_okC l n hl a cap w hn h 3
  clear hl
  go_enter Tryz.func56, Tryz.ntmps56
  go_wp2_with fail
  go_ret
  exact ⟨rfl, hr, hB⟩
end Go.Proofs.YtidihdiffiffmaaGreatDoor
namespace Go.Proofs.YtidihdiffiffmaaGreatDoor
open Go.RowKit
set_option maxRecDepth 8000
set_option linter.unusedSimpArgs false
set_option linter.unusedVariables false
theorem flat_setR {α : Type} {f : α → List Value} {n : Nat} (hf : ∀ a, (f a).length = n) : ∀ (l : List α) (j o : Nat) (x y : α) (u : Value), l[j]? = some x → o < n → (f x).set o u = f y → (l.flatMap f).set (j * n + o) u = (l.set j y).flatMap f
  | [], _, _, _, _, _, h, _, _ => by simp at h
  | b :: r, 0, o, x, y, u, h, ho, he => by
    simp at h
    subst h
    rw [List.set_cons_zero, List.flatMap_cons, List.flatMap_cons, Nat.zero_mul, Nat.zero_add, List.set_append_left _ _ (by rw [hf]; exact ho), he]
  | b :: r, j + 1, o, x, y, u, h, ho, he => by
    simp at h
    rw [List.set_cons_succ, List.flatMap_cons, List.flatMap_cons, List.set_append_right _ _ (by rw [hf, Nat.succ_mul]; omega), hf, show (j + 1) * n + o - n = j * n + o by rw [Nat.succ_mul]; omega]
    rw [flat_setR hf r j o x y u h ho he]
theorem OwnR.formR {α : Type} {e : TypeId} {sz base : Nat} {f : α → List Value} {w : World} {v : Value} {l : List α} (h : OwnR e sz f w base v l) (hl : 0 < l.length) : ∃ g cap, v = .slice (some ⟨g, 0, none⟩) l.length cap ∧ base ≤ g ∧ g < w.heap.size := by
  rcases h.2 with ⟨rfl, h0⟩ | ⟨g, cap, cur, hv, hb, _⟩
  · omega
  · exact ⟨g, cap, hv, hb, (h.lt (show v.ownBlock = some g by rw [hv]; rfl)).2⟩
theorem OwnR.storedR {α : Type} {e : TypeId} {sz base g n cap : Nat} {f : α → List Value} {w : World} {l : List α} (hf : ∀ a, (f a).length = sz) (h : OwnR e sz f w base (.slice (some ⟨g, 0, none⟩) n cap) l) (hn : n = l.length) {j o : Nat} {x y : α} {u : Value} (hx : l[j]? = some x) (ho : o < sz) (he : (f x).set o u = f y) :
    OwnR e sz f (w.setCell ⟨g, j * sz + o, none⟩ u) base (.slice (some ⟨g, 0, none⟩) n cap) (l.set j y) ∧ w.frozen? ⟨g, j * sz + o, none⟩ = false ∧ ∃ z, w.cell? ⟨g, j * sz + o, none⟩ = some z := by
  subst hn
  have h1 := World.ownsRow.stored (show w.ownsRow base e sz (.slice (some ⟨g, 0, none⟩) l.length cap) l.length (l.flatMap f) from h) (j * sz + o) u
  refine ⟨?_, World.ownsRow.frozenAt (show w.ownsRow base e sz (.slice (some ⟨g, 0, none⟩) l.length cap) l.length (l.flatMap f) from h) _, ?_⟩
  · have h2 := h1.1
    rw [flat_setR hf l j o x y u hx ho he] at h2
    unfold OwnR
    rw [List.length_set]
    exact h2
  · obtain ⟨a, c, hv, -, -, hr⟩ := h.slice hf
    injection hv with e1 e2 e3
    subst e1
    obtain ⟨y', hy', hc⟩ := hr j x hx
    injection hy' with hy'
    subst hy'
    have := hc o ho
    rw [add_at, List.getElem?_eq_getElem (by rw [hf]; exact ho)] at this
    exact ⟨_, this⟩
end Go.Proofs.YtidihdiffiffmaaGreatDoor
namespace Go.Proofs.YtidihdiffiffmaaGreatDoor
open Go.RowKit
set_option maxRecDepth 8000
abbrev prL (b : Value) (X : List Value) : List Value := b :: X
end Go.Proofs.YtidihdiffiffmaaGreatDoor
namespace Go.Proofs.YtidihdiffiffmaaGreatDoor
open Go.RowKit
set_option maxRecDepth 8000
set_option linter.unusedSimpArgs false
set_option linter.unusedVariables false
def PN.av (x : PN) : Value := .slice x.aa x.n.acl.length x.ca
def PN.wv (x : PN) : Value := .slice x.wa x.n.words.length x.cw
structure OwnX (W : World) (B : Nat) (l : List PN) : Prop where
  acl : ∀ x ∈ l, OwnR 119 2 gcl W B x.av x.n.acl
  wds : ∀ x ∈ l, OwnR 2 1 wcl W B x.wv x.n.words
  dis : l.Pairwise fun x y => ∀ g, x.wv.ownBlock = some g → y.wv.ownBlock ≠ some g
  apt : ∀ x ∈ l, ∀ y ∈ l, ∀ g, x.wv.ownBlock = some g → y.av.ownBlock ≠ some g
theorem OwnX.below {W W' : World} {B : Nat} {l : List PN} (h : OwnX W B l) (b : Below W.heap.size W W') : OwnX W' B l := ⟨fun x hx => (h.acl x hx).below b, fun x hx => (h.wds x hx).below b, h.dis, h.apt⟩
theorem OwnX.keep {W W' : World} {B : Nat} {l : List PN} (h : OwnX W B l) (b : ∀ j, B ≤ j → j < W.heap.size → W'.heap[j]? = W.heap[j]?) : OwnX W' B l := ⟨fun x hx => (h.acl x hx).keep fun k hk => b k ((h.acl x hx).lt hk).1 ((h.acl x hx).lt hk).2, fun x hx => (h.wds x hx).keep fun k hk => b k ((h.wds x hx).lt hk).1 ((h.wds x hx).lt hk).2, h.dis, h.apt⟩
theorem OwnX.nil (W : World) (B : Nat) : OwnX W B [] := ⟨fun x hx => by (cases hx), fun x hx => by (cases hx), List.Pairwise.nil, fun x hx => by (cases hx)⟩
theorem OwnX.push {W : World} {B L : Nat} {l : List PN} {x : PN} (h : OwnX W B l) (hL : B ≤ L) (hlt : ∀ y ∈ l, ∀ g, (y.av.ownBlock = some g ∨ y.wv.ownBlock = some g) → g < L) (ha : OwnR 119 2 gcl W L x.av x.n.acl) (hw : OwnR 2 1 wcl W L x.wv x.n.words) (hd : ∀ g, x.wv.ownBlock = some g → x.av.ownBlock ≠ some g) : OwnX W B (l ++ [x]) := by
  refine ⟨fun y hy => ?_, fun y hy => ?_, ?_, fun y hy z hz g hg => ?_⟩
  · rcases List.mem_append.1 hy with hy | hy
    · exact h.acl y hy
    · rw [List.mem_singleton.1 hy]; exact ha.lower hL
  · rcases List.mem_append.1 hy with hy | hy
    · exact h.wds y hy
    · rw [List.mem_singleton.1 hy]; exact hw.lower hL
  · rw [List.pairwise_append]
    refine ⟨h.dis, by simp, fun y hy z hz g hg q => ?_⟩
    rw [List.mem_singleton.1 hz] at q
    have h1 := hlt y hy g (.inr hg)
    have h2 := (hw.lt q).1
    omega
  · rcases List.mem_append.1 hy with hy | hy <;> rcases List.mem_append.1 hz with hz | hz
    · exact h.apt y hy z hz g hg
    · rw [List.mem_singleton.1 hz]
      intro q
      have h1 := hlt y hy g (.inr hg)
      have h2 := (ha.lt q).1
      omega
    · rw [List.mem_singleton.1 hy] at hg
      intro q
      have h1 := hlt z hz g (.inl q)
      have h2 := (hw.lt hg).1
      omega
    · rw [List.mem_singleton.1 hy] at hg
      rw [List.mem_singleton.1 hz]
      exact hd g hg
theorem OwnX.few {W : World} {B : Nat} {l : List PN} (h : OwnX W B l) : ∀ y ∈ l, ∀ g, (y.av.ownBlock = some g ∨ y.wv.ownBlock = some g) → g < W.heap.size := fun y hy g hg => by
  rcases hg with hg | hg
  · exact ((h.acl y hy).lt hg).2
  · exact ((h.wds y hy).lt hg).2
structure OwnL (W : World) (B n : Nat) (l : List PN) (i : Nat) (l1 : List PN) : Prop where
  ln : l.length = n
  le : i ≤ n
  len : l1.length = i
  nm : namesP l1 = namesP (l.take i)
  row : OwnN W B (.slice (some ⟨B, 0, none⟩) n n) (l1 ++ l.drop i)
  own : OwnX W (B + 1) l1
theorem OwnL.below {W W' : World} {B n : Nat} {l l1 : List PN} {i : Nat} (h : OwnL W B n l i l1) (b : Below W.heap.size W W') : OwnL W' B n l i l1 := ⟨h.ln, h.le, h.len, h.nm, h.row.below b, h.own.below b⟩
theorem OwnL.at_ {W : World} {B n : Nat} {l l1 : List PN} {i : Nat} {x : PN} (h : OwnL W B n l i l1) (hx : l[i]? = some x) : (l1 ++ l.drop i)[i]? = some x := by
  rw [List.getElem?_append_right (by rw [h.len]; exact Nat.le_refl _), h.len, Nat.sub_self, List.getElem?_drop, Nat.add_zero]
  exact hx
theorem OwnL.all {W : World} {B n : Nat} {l l1 : List PN} {i : Nat} (h : OwnL W B n l i l1) : (l1 ++ l.drop i).length = n := by
  rw [List.length_append, List.length_drop, h.len, h.ln]
  have := h.le
  omega
theorem blk_setO {W : World} {b g : Nat} {cs : List Value} (h : BlkL b cs W) (hne : b ≠ g) (o : Nat) (u : Value) : BlkL b cs (W.setCell ⟨g, o, none⟩ u) := ⟨h.1.same (heap_setCell_other W ⟨g, o, none⟩ b u hne), by simpa using h.2⟩
theorem own_step {w0 w1 w2 : World} {B n i : Nat} {l l1 : List PN} {x : PN} (hL : OwnL w0 B n l i l1) (hx : l[i]? = some x) (hb1 : Below w0.heap.size w0 w1) (hg1 : OwnR 119 2 gcl w1 w0.heap.size (.slice (some ⟨w0.heap.size, 0, none⟩) x.n.acl.length x.n.acl.length) x.n.acl) (hb2 : Below w1.heap.size w1 w2) (hw2 : OwnR 2 1 wcl w2 w1.heap.size (.slice (some ⟨w1.heap.size, 0, none⟩) x.n.words.length x.n.words.length) x.n.words) :
    ∃ x2 : PN, w2.frozen? ⟨B, i * 16 + 6, none⟩ = false ∧ (∃ z, w2.cell? ⟨B, i * 16 + 6, none⟩ = some z) ∧ (w2.setCell ⟨B, i * 16 + 6, none⟩ (.slice (some ⟨w0.heap.size, 0, none⟩) x.n.acl.length x.n.acl.length)).frozen? ⟨B, i * 16 + 11, none⟩ = false ∧ (∃ z, (w2.setCell ⟨B, i * 16 + 6, none⟩ (.slice (some ⟨w0.heap.size, 0, none⟩) x.n.acl.length x.n.acl.length)).cell? ⟨B, i * 16 + 11, none⟩ = some z) ∧
      OwnL ((w2.setCell ⟨B, i * 16 + 6, none⟩ (.slice (some ⟨w0.heap.size, 0, none⟩) x.n.acl.length x.n.acl.length)).setCell ⟨B, i * 16 + 11, none⟩ (.slice (some ⟨w1.heap.size, 0, none⟩) x.n.words.length x.n.words.length)) B n l (i + 1) (l1 ++ [x2]) := by
  have hil : i < l.length := (List.getElem?_eq_some_iff.1 hx).1
  have hln := hL.ln
  have hb12 := Below.then hb1 hb2
  have hl1 := hL.len
  have hlt1 : w0.heap.size < w1.heap.size := (hg1.lt rfl).2
  have hB0 : B < w0.heap.size := (hL.row.lt rfl).2
  have hrow := (hL.below hb12).row
  obtain ⟨x1, hx1⟩ : ∃ x1 : PN, x1 = ⟨x.n, some ⟨w0.heap.size, 0, none⟩, x.n.acl.length, x.wa, x.cw⟩ := ⟨_, rfl⟩
  obtain ⟨x2, hx2⟩ : ∃ x2 : PN, x2 = ⟨x.n, some ⟨w0.heap.size, 0, none⟩, x.n.acl.length, some ⟨w1.heap.size, 0, none⟩, x.n.words.length⟩ := ⟨_, rfl⟩
  obtain ⟨h3, hf3, hc3⟩ := OwnR.storedR (u := .slice (some ⟨w0.heap.size, 0, none⟩) x.n.acl.length x.n.acl.length) (y := x1) pn_len hrow hL.all.symm (hL.at_ hx) (show 6 < 16 by omega) (by rw [hx1]; rfl)
  have hx1' : ((l1 ++ l.drop i).set i x1)[i]? = some x1 := by
    rw [List.getElem?_set_self]
    rw [hL.all]
    omega
  obtain ⟨h4, hf4, hc4⟩ := OwnR.storedR (u := .slice (some ⟨w1.heap.size, 0, none⟩) x.n.words.length x.n.words.length) (y := x2) pn_len h3 (by rw [List.length_set, hL.all]) hx1' (show 11 < 16 by omega) (by rw [hx1, hx2]; rfl)
  have he : ((l1 ++ l.drop i).set i x1).set i x2 = (l1 ++ [x2]) ++ l.drop (i + 1) := by
    rw [List.set_set, List.set_append_right _ _ (by omega), hl1, Nat.sub_self, List.drop_eq_getElem_cons hil, List.set_cons_zero, List.append_assoc]
    rfl
  rw [he] at h4
  have hkp : ∀ j, B + 1 ≤ j → ((w2.setCell ⟨B, i * 16 + 6, none⟩ (.slice (some ⟨w0.heap.size, 0, none⟩) x.n.acl.length x.n.acl.length)).setCell ⟨B, i * 16 + 11, none⟩ (.slice (some ⟨w1.heap.size, 0, none⟩) x.n.words.length x.n.words.length)).heap[j]? = w2.heap[j]? := fun j hj => (heap_setCell_other _ ⟨B, i * 16 + 11, none⟩ j _ (show j ≠ B by omega)).trans (heap_setCell_other _ ⟨B, i * 16 + 6, none⟩ j _ (show j ≠ B by omega))
  have hxn : x2.n = x.n := by rw [hx2]
  refine ⟨x2, hf3, hc3, hf4, hc4, hln, by omega, by rw [List.length_append, hl1]; rfl, ?_, h4, ?_⟩
  · unfold namesP at *
    rw [List.map_append, show l1.map (·.n) = (l.take i).map (·.n) from hL.nm, List.take_add_one, hx, List.map_append]
    simp [hxn]
  · have ho := ((hL.own.below hb12).keep (fun j hj _ => hkp j hj))
    refine ho.push (L := w0.heap.size) (by omega) (fun y hy g hg => hL.own.few y hy g hg) ?_ ?_ ?_
    · rw [hx2]
      exact (hg1.below hb2).keep fun k hk => hkp k (by have := (hg1.lt hk).1; omega)
    · rw [hx2]
      exact (hw2.keep fun k hk => hkp k (by have := (hw2.lt hk).1; omega)).lower (by omega)
    · rw [hx2]
      intro g hg q
      have h5 := Option.some.inj (show some w1.heap.size = some g from hg)
      have h6 := Option.some.inj (show some w0.heap.size = some g from q)
      omega
theorem grsP_load (w : World) (y : Addr) (v : Value) (h : w.cell? y = some v) : (Instr.loadAt 31 (.pointer (some y))).run Tryz.prog w = .ok v w := by
  have h1 := Tryz.underlying31
  go_simp
theorem wrdsP_load (w : World) (y : Addr) (v : Value) (h : w.cell? y = some v) : (Instr.loadAt 34 (.pointer (some y))).run Tryz.prog w = .ok v w := by
  have h1 := Tryz.underlying34
  go_simp
theorem grsP_store (w : World) (y : Addr) (u v : Value) {a : Option Addr} {n c : Nat} (hc : w.cell? y = some u) (hf : w.frozen? y = false) (hv : v = .slice a n c) : (Instr.storeAt 31 (.pointer (some y)) v).run Tryz.prog w = .ok () (w.setCell y v) := by
  subst hv
  have h1 := Tryz.underlying31
  go_simp
theorem wrdsP_store (w : World) (y : Addr) (u v : Value) {a : Option Addr} {n c : Nat} (hc : w.cell? y = some u) (hf : w.frozen? y = false) (hv : v = .slice a n c) : (Instr.storeAt 34 (.pointer (some y)) v).run Tryz.prog w = .ok () (w.setCell y v) := by
  subst hv
  have h1 := Tryz.underlying34
  go_simp
set_option maxRecDepth 8000 in
set_option maxHeartbeats 4000000 in
theorem pown_any (a : Option Addr) (cap : Nat) (l : List PN) (hl : l.length ≤ 1000) (hF : ∀ x ∈ l, x.Few) (w : World) (h : RowN w a l) :
    Calls Tryz.prog 33 #[.slice a l.length cap] w fun e w' => ∃ l', e = .returned (.slice (some ⟨w.heap.size, 0, none⟩) l.length l.length) ∧ OwnL w' w.heap.size l.length l l.length l' ∧ Below w.heap.size w w' := by
  have hund := Tryz.underlying36
  have hsz : (Tryz.prog.info? 36).map (·.size) = some 16 := by kernel_rfl
  have k0 := pcpN_any a cap l w hl h.r
  obtain ⟨n, hn⟩ : ∃ n, l.length = n := ⟨_, rfl⟩
  rw [hn] at hl k0 ⊢
  replace hn : Aside (l.length = n) := hn
  go_enter Tryz.func33, Tryz.ntmps33
  go_wp2_with fail
  refine k0.mono ?_
  rintro e W1 ⟨rfl, ho, hB1⟩
  have hL1 : OwnL W1 w.heap.size n l 0 [] := ⟨hn.out, Nat.zero_le _, rfl, rfl, by rw [List.drop_zero, List.nil_append]; exact ho, OwnX.nil _ _⟩
  clear k0 ho
  go_wp2_with fail
  go_loopw [10] (fun t10 wr => ∃ (i : Nat) (l1 : List PN), i ≤ n ∧ t10 = .int .i64 (i : Int) ∧ OwnL wr w.heap.size n l i l1 ∧ Below w.heap.size w wr) (fun t10 _ => n - (Go.RowKit.intOf t10).toNat)
  case atStart => exact ⟨0, [], by omega, rfl, hL1, hB1⟩
  case round =>
    obtain ⟨i, l1, hi, rfl, hL, hB⟩ := hrel
    by_cases hlt : i < n
    · obtain ⟨x, hx⟩ : ∃ x, l[i]? = some x := ⟨_, List.getElem?_eq_getElem (by rw [hn.out]; exact hlt)⟩
      have hxm := List.mem_of_getElem? hx
      have hfx := hF x hxm
      have hxa := (h.below hB).p x hxm
      have hc := (hL.row.slice pn_len)
      obtain ⟨ra, rc, hrv, -, -, hr⟩ := hc
      injection hrv with q1 q2 q3
      subst q1
      have hw := hr.at pn_len (hL.at_ hx)
      rw [add_at] at hw
      have hbl : w.heap.size < wr.heap.size := (hL.row.lt rfl).2
      clear hr q2 q3
      have h6 : x.cs[6]? = some (.slice x.aa x.n.acl.length x.ca) := rfl
      have h11 : x.cs[11]? = some (.slice x.wa x.n.words.length x.cw) := rfl
      have hone := pn_one x
      obtain ⟨cs, hcs⟩ : ∃ cs, x.cs = cs := ⟨_, rfl⟩
      have hlen : cs.length = 16 := by rw [← hcs]; rfl
      rw [hcs] at hw h6 h11 hone
      have hszc : (Tryz.prog.info? 36).map (·.size) = some cs.length := by rw [hlen]; exact hsz
      obtain ⟨W4, hW4, hth4, hnb, hb4⟩ := put_new wr #[.string ⟨#[]⟩, .bool false, .int .i64 0, .int .i64 0, .int .i64 0, .int .i64 0, .slice none 0 0, .int .i64 0, .int .i64 0, .int .i64 0, .int .i64 0, .slice none 0 0, .int .i64 0, .int .i64 0, .int .i64 0, .int .i64 0] 36 cs (by rw [hlen]; rfl) (by rw [hlen]; decide)
      have hL0 : OwnL W4.drew w.heap.size n l i l1 := (hL.below hb4).below (Below.refl _ _).drew
      have hB0 : Below w.heap.size w W4.drew := (Below.then hB hb4).drew
      have hS0 : BlkL wr.heap.size cs W4.drew := stab_blk _ _ _ _ hnb (Below.refl _ _).drew
      replace hxa : x.At W4.drew := (hxa.below hb4).below (Below.refl _ _).drew
      clear hL hB hnb hb4 hcs
      go_upto_region 5 with (first | (refine wpList_load_at rfl _ rfl ⟨w.heap.size, i * 16, none⟩ rfl cs hw hund rfl hszc ?_) | (refine wpList_store_row rfl _ _ rfl wr.heap.size rfl cs rfl hth4 hszc hone hW4 ?_) | fail)
      clear hw hth4 hone hszc
      refine wp_region_held_drew (S := (fun W => BlkL wr.heap.size cs W)) (by kernel_rfl) (by exact hS0) ?_
      intro hHeld
      generalize W4.drew = w0 at *
      refine tkA 0 ?_
      refine tkA 1 ?_
      refine tkA 2 ?_
      refine tkA 3 ?_
      refine tkA 4 ?_
      refine tkB 5 (y := yields_cellI (by rfl) _ rfl ⟨wr.heap.size, 6, none⟩ rfl (.slice x.aa x.n.acl.length x.ca) (fun _ s => (s.1 6 _ h6).1) grsP_load) (h := ?_)
      refine tkA 7 ?_
      refine tkB 8 (y := yields_cellI (by rfl) _ rfl ⟨wr.heap.size, 11, none⟩ rfl (.slice x.wa x.n.words.length x.cw) (fun _ s => (s.1 11 _ h11).1) wrdsP_load) (h := ?_)
      refine tkR (rs := [6]) ?_
      refine tkC (fun K hK => ?_) AllReadyH.nil
      go_simp
      go_at_call 54
      refine (pcpG_any x.aa x.ca x.n.acl w0 hfx.1 (grs_row hxa.g)).mono ?_
      rintro e w1 ⟨rfl, hg1, hb1⟩
      have hS1 := stab_blk _ _ _ _ hS0 hb1
      refine hK.out _ _ (hS1) ?_
      clear hHeld hK
      intro hHeld
      (try simp only [Act.put, zsA, zsB, zsC])
      refine tkR (rs := [9]) ?_
      refine tkC (fun K hK => ?_) AllReadyH.nil
      go_simp
      go_at_call 55
      refine (pcpW_any x.wa x.cw x.n.words w1 hfx.2 (wrds_row (hxa.below hb1).w)).mono ?_
      rintro e w2 ⟨rfl, hw2, hb2⟩
      have hS2 := stab_blk _ _ _ _ hS1 hb2
      obtain ⟨x2, hz3, ⟨y3, hy3⟩, hz4, ⟨y4, hy4⟩, hO⟩ := own_step hL0 hx hb1 hg1 hb2 hw2
      have hB2 := Below.then (Below.then hB0 hb1) hb2
      refine hK.out _ _ (hS2) ?_
      clear hHeld hK
      intro hHeld
      clear hb1 hb2 hg1 hw2 hL0 hS0 hS1 hxa hfx
      (try simp only [Act.put, zsA, zsB, zsC])
      refine tkA 10 ?_
      refine tkA 11 ?_
      refine tkR (rs := [12]) ?_
      refine tkC (fun K hK => ?_) AllReadyH.nil
      refine step_st rfl _ _ rfl ⟨w.heap.size, i * 16 + 6, none⟩ rfl (.slice (some ⟨w0.heap.size, 0, none⟩) x.n.acl.length x.n.acl.length) rfl (grsP_store _ _ _ _ hy3 hz3 rfl) ?_
      (try simp only [Act.put, zsA, zsB, zsC])
      refine hK.out _ _ (blk_setO hS2 (by omega) _ _) ?_
      clear hHeld hK
      intro hHeld
      have hS3 : BlkL wr.heap.size cs (w2.setCell ⟨w.heap.size, i * 16 + 6, none⟩ (.slice (some ⟨w0.heap.size, 0, none⟩) x.n.acl.length x.n.acl.length)) := blk_setO hS2 (by omega) _ _
      have hB3 := hB2.setCell (p := ⟨w.heap.size, i * 16 + 6, none⟩) (Nat.le_refl _) (.slice (some ⟨w0.heap.size, 0, none⟩) x.n.acl.length x.n.acl.length)
      obtain ⟨w3, hw3⟩ : ∃ w3, w2.setCell ⟨w.heap.size, i * 16 + 6, none⟩ (.slice (some ⟨w0.heap.size, 0, none⟩) x.n.acl.length x.n.acl.length) = w3 := ⟨_, rfl⟩
      rw [hw3] at hHeld hy4 hz4 hO hS3 hB3 ⊢
      clear hw3 hy3 hz3 hS2 hB2
      (try simp only [Act.put, zsA, zsB, zsC])
      refine tkA 13 ?_
      refine tkA 14 ?_
      refine tkR (rs := [15]) ?_
      refine tkC (fun K hK => ?_) AllReadyH.nil
      refine step_st rfl _ _ rfl ⟨w.heap.size, i * 16 + 11, none⟩ rfl (.slice (some ⟨w1.heap.size, 0, none⟩) x.n.words.length x.n.words.length) rfl (wrdsP_store _ _ _ _ hy4 hz4 rfl) ?_
      (try simp only [Act.put, zsA, zsB, zsC])
      refine hK.out _ _ (blk_setO hS3 (by omega) _ _) ?_
      clear hHeld hK
      intro hHeld
      have hB4 := hB3.setCell (p := ⟨w.heap.size, i * 16 + 11, none⟩) (Nat.le_refl _) (.slice (some ⟨w1.heap.size, 0, none⟩) x.n.words.length x.n.words.length)
      obtain ⟨w4, hw4⟩ : ∃ w4, w3.setCell ⟨w.heap.size, i * 16 + 11, none⟩ (.slice (some ⟨w1.heap.size, 0, none⟩) x.n.words.length x.n.words.length) = w4 := ⟨_, rfl⟩
      rw [hw4] at hHeld hO hB4 ⊢
      clear hw4 hy4 hz4 hS3 hB3
      (try simp only [Act.put, zsA, zsB, zsC])
      refine wpAnyH_done (by kernel_rfl) ?_ _
      clear hHeld
      go_wp2_with fail
      exact ⟨⟨i + 1, l1 ++ [x2], by omega, by simp, hO, hB4⟩, by simp [Go.RowKit.intOf]; omega⟩
    · obtain rfl : i = n := by omega
      go_wp2_with fail
      go_ret
      exact ⟨l1, rfl, hL, hB⟩
theorem blk_setS {W : World} {b i : Nat} {cs : List Value} (h : BlkL b cs W) (hi : i < cs.length) (u : Value) : BlkL b (cs.set i u) (W.setCell ⟨b, i, none⟩ u) := by
  have h1 := h.1.set i u hi
  exact ⟨h1, by simpa using h.2⟩
theorem strsP_store (w : World) (y : Addr) (u v : Value) {a : Option Addr} {n c : Nat} (hc : w.cell? y = some u) (hf : w.frozen? y = false) (hv : v = .slice a n c) : (Instr.storeAt 39 (.pointer (some y)) v).run Tryz.prog w = .ok () (w.setCell y v) := by
  subst hv
  have h1 := Tryz.underlying39
  go_simp
theorem crsP_store (w : World) (y : Addr) (u v : Value) {a : Option Addr} {n c : Nat} (hc : w.cell? y = some u) (hf : w.frozen? y = false) (hv : v = .slice a n c) : (Instr.storeAt 43 (.pointer (some y)) v).run Tryz.prog w = .ok () (w.setCell y v) := by
  subst hv
  have h1 := Tryz.underlying43
  go_simp
abbrev zPC : Array Value := #[.slice none 0 0, .int .i64 0, .int .i64 0, .int .i64 0, .int .i64 0, .int .i64 0, .int .i64 0, .int .i64 0, .int .i64 0, .int .i64 0, .int .i64 0, .int .i64 0, .int .i64 0, .int .i64 0, .int .i64 0, .int .i64 0, .int .i64 0, .slice none 0 0, .bool false]
set_option maxRecDepth 8000 in
set_option maxHeartbeats 4000000 in
theorem popp_any (ba : Option Addr) (bc : Nat) (bs : List ByteArray) (c : Cp) (h4 : c.ps.length = 4) (v : Value) (hbs : bs.length ≤ 1000) (hst : c.st.length ≤ 1000) (w : World) (hRB : RowAt 1 scl w ba bs) (hv : SV v c.st w) :
    Calls Tryz.prog 34 #[.agg (prL (.slice ba bs.length bc) (stCs c v)).toArray] w fun e w' => ∃ bv u : Value, e = .returned (.agg (prL bv (stCs c u)).toArray) ∧ OwnR 9 1 scl w' w.heap.size bv bs ∧ OwnR 102 3 frc w' w.heap.size u c.st ∧ Below w.heap.size w w' := by
  have hundP := Tryz.underlying47
  have hszP : (Tryz.prog.info? 47).map (·.size) = some 19 := by kernel_rfl
  obtain ⟨sa, sc, rfl, hsn, hrs⟩ := hv
  have ks := fun W h => pcpS_any ba bc bs W hbs h
  have kf := fun W h => pcpF_any sa sc c.st W hst h
  obtain ⟨nb, hnb⟩ : ∃ nb, bs.length = nb := ⟨_, rfl⟩
  obtain ⟨ns, hns⟩ : ∃ ns, c.st.length = ns := ⟨_, rfl⟩
  rw [hnb] at ks ⊢
  rw [hns] at kf ⊢
  have hXl : (stCs c (.slice sa ns sc)).length = 18 := st_len h4
  have h17 : ∀ y : Value, (prL y (stCs c (.slice sa ns sc)))[17]? = some (.slice sa ns sc) := fun y => st_stk h4
  have hXs : ∀ u : Value, Aside ((stCs c (.slice sa ns sc)).set 16 u = stCs c u) := fun u => st_setStk h4 _ u
  obtain ⟨X, hX⟩ : ∃ X, stCs c (.slice sa ns sc) = X := ⟨_, rfl⟩
  rw [hX] at hXl ⊢
  simp only [hX] at h17 hXs
  clear hX hsn
  replace hnb : Aside _ := hnb
  replace hns : Aside _ := hns
  have f0 := blkl_alloc w (prL (.slice ba nb bc) X).toArray 47
  have g0 := alloc_below w (.cells (prL (.slice ba nb bc) X).toArray 47)
  have f1 := blkl_alloc (w.alloc (.cells (prL (.slice ba nb bc) X).toArray 47)) zPC 47
  have g1 := alloc_below (w.alloc (.cells (prL (.slice ba nb bc) X).toArray 47)) (.cells zPC 47)
  rw [World.size_alloc] at f1
  have hP : BlkL w.heap.size (prL (.slice ba nb bc) X) ((w.alloc (.cells (prL (.slice ba nb bc) X).toArray 47)).alloc (.cells zPC 47)) := stab_blk _ _ _ _ f0 g1
  have hR : BlkL (w.heap.size + 1) (prL nilS (stCs zeroC nilS)) ((w.alloc (.cells (prL (.slice ba nb bc) X).toArray 47)).alloc (.cells zPC 47)) := f1
  have hB := Below.then g0 g1
  clear f0 g0 f1 g1
  go_enter Tryz.func34, Tryz.ntmps34
  go_upto_region 1 with fail
  generalize (w.alloc (.cells (prL (.slice ba nb bc) X).toArray 47)).alloc (.cells zPC 47) = W2 at *
  have hP0 : BlkL w.heap.size (prL (.slice ba nb bc) X) W2.drew := stab_blk _ _ _ _ hP (Below.refl _ _).drew
  have hR0 : BlkL (w.heap.size + 1) (prL nilS (stCs zeroC nilS)) W2.drew := stab_blk _ _ _ _ hR (Below.refl _ _).drew
  have hB0 : Below w.heap.size w W2.drew := hB.drew
  have c00 := (hP0.1 0 _ rfl).1
  have c170 := (hP0.1 17 _ (h17 _)).1
  clear hP hR hB
  refine wp_region_held_drew (S := (fun _ => True)) (by kernel_rfl) (by trivial) ?_
  intro hHeld
  generalize W2.drew = w0 at *
  refine tkA 0 ?_
  refine tkA 3 ?_
  refine tkA 4 ?_
  refine tkR (rs := [1, 5]) ?_
  refine tkC (fun K hK => ?_) ?_
  · go_simp
    refine hK.out _ _ (trivial) ?_
    clear hHeld hK
    intro hHeld
    (try simp only [Act.put, zsA, zsB, zsC])
    refine tkR (rs := [2, 5]) ?_
    refine tkC (fun K hK => ?_) ?_
    · go_simp
      go_at_call 29
      refine (ks w0 (hRB.below scl_ok.len hB0)).mono ?_
      rintro e w1 ⟨rfl, hs1, hb1⟩
      have hP1 := stab_blk _ _ _ _ hP0 hb1
      have hR1 := stab_blk _ _ _ _ hR0 hb1
      have hB1 := Below.then hB0 hb1
      have c01 := (hP1.1 0 _ rfl).1
      have c171 := (hP1.1 17 _ (h17 _)).1
      have hl0 : w.heap.size + 1 < w0.heap.size := hR0.2
      refine hK.out _ _ (trivial) ?_
      clear hHeld hK
      intro hHeld
      clear hP0 hR0 c00 c170 hb1
      (try simp only [Act.put, zsA, zsB, zsC])
      refine tkR (rs := [5]) ?_
      refine tkC (fun K hK => ?_) AllReadyH.nil
      go_simp
      refine hK.out _ _ (trivial) ?_
      clear hHeld hK
      intro hHeld
      (try simp only [Act.put, zsA, zsB, zsC])
      refine tkA 7 ?_
      refine tkR (rs := [6]) ?_
      refine tkC (fun K hK => ?_) AllReadyH.nil
      go_simp
      go_at_call 56
      refine (kf w1 (hrs.below frc_len hB1)).mono ?_
      rintro e w2 ⟨rfl, hf2, hb2⟩
      have hP2 := stab_blk _ _ _ _ hP1 hb2
      have hR2 := stab_blk _ _ _ _ hR1 hb2
      have hB2 := Below.then hB1 hb2
      have hs2 := hs1.below hb2
      have hl1 : w.heap.size + 1 < w1.heap.size := hR1.2
      obtain ⟨hq3, ff3⟩ := hP2.1 0 _ rfl
      refine hK.out _ _ (trivial) ?_
      clear hHeld hK
      intro hHeld
      clear hP1 hR1 c01 c171 hB1 hs1 hb2
      (try simp only [Act.put, zsA, zsB, zsC])
      refine tkR (rs := [8]) ?_
      refine tkC (fun K hK => ?_) AllReadyH.nil
      refine step_st rfl _ _ rfl ⟨w.heap.size, 0, none⟩ rfl (.slice (some ⟨w0.heap.size, 0, none⟩) nb nb) rfl (strsP_store _ _ _ _ hq3 ff3 rfl) ?_
      (try simp only [Act.put, zsA, zsB, zsC])
      refine hK.out _ _ (trivial) ?_
      clear hHeld hK
      intro hHeld
      have hP3 : BlkL w.heap.size (prL (.slice (some ⟨w0.heap.size, 0, none⟩) nb nb) X) (w2.setCell ⟨w.heap.size, 0, none⟩ (.slice (some ⟨w0.heap.size, 0, none⟩) nb nb)) := (blk_setS hP2 (i := 0) (by simp) _)
      have hR3 := blk_setO hR2 (g := w.heap.size) (by omega) 0 (.slice (some ⟨w0.heap.size, 0, none⟩) nb nb)
      have hB3 := hB2.setCell (p := ⟨w.heap.size, 0, none⟩) (Nat.le_refl _) (.slice (some ⟨w0.heap.size, 0, none⟩) nb nb)
      have hs3 := hs2.keep (fun k hk => heap_setCell_other w2 ⟨w.heap.size, 0, none⟩ k (.slice (some ⟨w0.heap.size, 0, none⟩) nb nb) (show k ≠ w.heap.size by have := (hs2.lt hk).1; omega))
      have hf3 := hf2.keep (fun k hk => heap_setCell_other w2 ⟨w.heap.size, 0, none⟩ k (.slice (some ⟨w0.heap.size, 0, none⟩) nb nb) (show k ≠ w.heap.size by have := (hf2.lt hk).1; omega))
      obtain ⟨w3, hw3⟩ : ∃ w3, w2.setCell ⟨w.heap.size, 0, none⟩ (.slice (some ⟨w0.heap.size, 0, none⟩) nb nb) = w3 := ⟨_, rfl⟩
      rw [hw3] at hP3 hR3 hB3 hs3 hf3 ⊢
      obtain ⟨hq4, ff4⟩ := hP3.1 17 _ (h17 _)
      clear hw3 hP2 hR2 hB2 hs2 hf2 hq3 ff3
      (try simp only [Act.put, zsA, zsB, zsC])
      refine tkA 9 ?_
      refine tkA 10 ?_
      refine tkR (rs := [11]) ?_
      refine tkC (fun K hK => ?_) AllReadyH.nil
      refine step_st rfl _ _ rfl ⟨w.heap.size, 17, none⟩ rfl (.slice (some ⟨w1.heap.size, 0, none⟩) ns ns) rfl (crsP_store _ _ _ _ hq4 ff4 rfl) ?_
      (try simp only [Act.put, zsA, zsB, zsC])
      refine hK.out _ _ (trivial) ?_
      clear hHeld hK
      intro hHeld
      have hP4 : BlkL w.heap.size (prL (.slice (some ⟨w0.heap.size, 0, none⟩) nb nb) (X.set 16 (.slice (some ⟨w1.heap.size, 0, none⟩) ns ns))) (w3.setCell ⟨w.heap.size, 17, none⟩ (.slice (some ⟨w1.heap.size, 0, none⟩) ns ns)) := blk_setS hP3 (i := 17) (by simp [hXl]) _
      rw [(hXs _).out] at hP4
      have hR4 := blk_setO hR3 (g := w.heap.size) (by omega) 17 (.slice (some ⟨w1.heap.size, 0, none⟩) ns ns)
      have hB4 := hB3.setCell (p := ⟨w.heap.size, 17, none⟩) (Nat.le_refl _) (.slice (some ⟨w1.heap.size, 0, none⟩) ns ns)
      have hs4 := hs3.keep (fun k hk => heap_setCell_other w3 ⟨w.heap.size, 17, none⟩ k (.slice (some ⟨w1.heap.size, 0, none⟩) ns ns) (show k ≠ w.heap.size by have := (hs3.lt hk).1; omega))
      have hf4 := hf3.keep (fun k hk => heap_setCell_other w3 ⟨w.heap.size, 17, none⟩ k (.slice (some ⟨w1.heap.size, 0, none⟩) ns ns) (show k ≠ w.heap.size by have := (hf3.lt hk).1; omega))
      obtain ⟨w4, hw4⟩ : ∃ w4, w3.setCell ⟨w.heap.size, 17, none⟩ (.slice (some ⟨w1.heap.size, 0, none⟩) ns ns) = w4 := ⟨_, rfl⟩
      rw [hw4] at hP4 hR4 hB4 hs4 hf4 ⊢
      clear hw4 hP3 hR3 hB3 hs3 hf3 hq4 ff4
      obtain ⟨Z, hZ⟩ : ∃ Z, stCs c (.slice (some ⟨w1.heap.size, 0, none⟩) ns ns) = Z := ⟨_, rfl⟩
      have hZl : Z.length = 18 := by rw [← hZ]; exact st_len h4
      have hZo : ∀ u ∈ Z, u.oneCell' = true := by rw [← hZ]; exact st_one _ _ rfl
      rw [hZ] at hP4
      replace hZ : Aside _ := hZ
      have hr4 := hP4.range
      have hszZ : (Tryz.prog.info? 47).map (·.size) = some (prL (.slice (some ⟨w0.heap.size, 0, none⟩) nb nb) Z).length := by rw [hszP]; simp [hZl]
      have honeZ : ∀ x ∈ prL (.slice (some ⟨w0.heap.size, 0, none⟩) nb nb) Z, x.oneCell' = true := fun x hx => (List.mem_cons.1 hx).elim (fun q => by rw [q]; rfl) (fun q => hZo x q)
      obtain ⟨W5, hW5, hth5, hk5, hb5⟩ := put_any hR4 (ds := prL (.slice (some ⟨w0.heap.size, 0, none⟩) nb nb) Z) (by simp [hZl, st_len (c := zeroC) (v := nilS) rfl]) (by simp)
      have hr5 := hk5.range
      have hB5 := hb5 _ _ (Nat.le_succ _) hB4
      have hs5 : OwnR 9 1 scl W5 w.heap.size (.slice (some ⟨w0.heap.size, 0, none⟩) nb nb) bs := by rw [← hW5]; exact (hs4.setAll (fun q => by have := (hs4.lt q).1; omega) _).lower (by omega)
      have hf5 : OwnR 102 3 frc W5 w.heap.size (.slice (some ⟨w1.heap.size, 0, none⟩) ns ns) c.st := by rw [← hW5]; exact (hf4.setAll (fun q => by have := (hf4.lt q).1; omega) _).lower (by omega)
      clear hP4 hR4 hB4 hs4 hf4 hb5 hk5
      (try simp only [Act.put, zsA, zsB, zsC])
      refine wpAnyH_done (by kernel_rfl) ?_ _
      clear hHeld
      go_wp2_with (first | (refine wpList_load_row rfl _ rfl w.heap.size rfl (prL (.slice (some ⟨w0.heap.size, 0, none⟩) nb nb) Z) hr4 hundP rfl hszZ ?_) | (refine wpList_store_row rfl _ _ rfl (w.heap.size + 1) rfl (prL (.slice (some ⟨w0.heap.size, 0, none⟩) nb nb) Z) rfl hth5 hszZ honeZ hW5 ?_) | fail)
      refine bodyPost_ret (v := .agg (prL (.slice (some ⟨w0.heap.size, 0, none⟩) nb nb) Z).toArray) (results_row1 rfl _ _ (w.heap.size + 1) rfl (prL (.slice (some ⟨w0.heap.size, 0, none⟩) nb nb) Z) hr5 hundP rfl hszZ) rfl ?_
      exact ⟨_, _, by rw [hZ.out], by rw [← hnb.out] at hs5; rw [← hnb.out]; exact hs5, hf5, hB5⟩
    refine tkC (fun K hK => ?_) AllReadyH.nil
    go_simp
    refine hK.out _ _ (trivial) ?_
    clear hHeld hK
    intro hHeld
    (try simp only [Act.put, zsA, zsB, zsC])
    refine tkR (rs := [2]) ?_
    refine tkC (fun K hK => ?_) AllReadyH.nil
    go_simp
    go_at_call 29
    refine (ks w0 (hRB.below scl_ok.len hB0)).mono ?_
    rintro e w1 ⟨rfl, hs1, hb1⟩
    have hP1 := stab_blk _ _ _ _ hP0 hb1
    have hR1 := stab_blk _ _ _ _ hR0 hb1
    have hB1 := Below.then hB0 hb1
    have c01 := (hP1.1 0 _ rfl).1
    have c171 := (hP1.1 17 _ (h17 _)).1
    have hl0 : w.heap.size + 1 < w0.heap.size := hR0.2
    refine hK.out _ _ (trivial) ?_
    clear hHeld hK
    intro hHeld
    clear hP0 hR0 c00 c170 hb1
    (try simp only [Act.put, zsA, zsB, zsC])
    refine tkA 7 ?_
    refine tkR (rs := [6]) ?_
    refine tkC (fun K hK => ?_) AllReadyH.nil
    go_simp
    go_at_call 56
    refine (kf w1 (hrs.below frc_len hB1)).mono ?_
    rintro e w2 ⟨rfl, hf2, hb2⟩
    have hP2 := stab_blk _ _ _ _ hP1 hb2
    have hR2 := stab_blk _ _ _ _ hR1 hb2
    have hB2 := Below.then hB1 hb2
    have hs2 := hs1.below hb2
    have hl1 : w.heap.size + 1 < w1.heap.size := hR1.2
    obtain ⟨hq3, ff3⟩ := hP2.1 0 _ rfl
    refine hK.out _ _ (trivial) ?_
    clear hHeld hK
    intro hHeld
    clear hP1 hR1 c01 c171 hB1 hs1 hb2
    (try simp only [Act.put, zsA, zsB, zsC])
    refine tkR (rs := [8]) ?_
    refine tkC (fun K hK => ?_) AllReadyH.nil
    refine step_st rfl _ _ rfl ⟨w.heap.size, 0, none⟩ rfl (.slice (some ⟨w0.heap.size, 0, none⟩) nb nb) rfl (strsP_store _ _ _ _ hq3 ff3 rfl) ?_
    (try simp only [Act.put, zsA, zsB, zsC])
    refine hK.out _ _ (trivial) ?_
    clear hHeld hK
    intro hHeld
    have hP3 : BlkL w.heap.size (prL (.slice (some ⟨w0.heap.size, 0, none⟩) nb nb) X) (w2.setCell ⟨w.heap.size, 0, none⟩ (.slice (some ⟨w0.heap.size, 0, none⟩) nb nb)) := (blk_setS hP2 (i := 0) (by simp) _)
    have hR3 := blk_setO hR2 (g := w.heap.size) (by omega) 0 (.slice (some ⟨w0.heap.size, 0, none⟩) nb nb)
    have hB3 := hB2.setCell (p := ⟨w.heap.size, 0, none⟩) (Nat.le_refl _) (.slice (some ⟨w0.heap.size, 0, none⟩) nb nb)
    have hs3 := hs2.keep (fun k hk => heap_setCell_other w2 ⟨w.heap.size, 0, none⟩ k (.slice (some ⟨w0.heap.size, 0, none⟩) nb nb) (show k ≠ w.heap.size by have := (hs2.lt hk).1; omega))
    have hf3 := hf2.keep (fun k hk => heap_setCell_other w2 ⟨w.heap.size, 0, none⟩ k (.slice (some ⟨w0.heap.size, 0, none⟩) nb nb) (show k ≠ w.heap.size by have := (hf2.lt hk).1; omega))
    obtain ⟨w3, hw3⟩ : ∃ w3, w2.setCell ⟨w.heap.size, 0, none⟩ (.slice (some ⟨w0.heap.size, 0, none⟩) nb nb) = w3 := ⟨_, rfl⟩
    rw [hw3] at hP3 hR3 hB3 hs3 hf3 ⊢
    obtain ⟨hq4, ff4⟩ := hP3.1 17 _ (h17 _)
    clear hw3 hP2 hR2 hB2 hs2 hf2 hq3 ff3
    (try simp only [Act.put, zsA, zsB, zsC])
    refine tkA 9 ?_
    refine tkA 10 ?_
    refine tkR (rs := [11]) ?_
    refine tkC (fun K hK => ?_) AllReadyH.nil
    refine step_st rfl _ _ rfl ⟨w.heap.size, 17, none⟩ rfl (.slice (some ⟨w1.heap.size, 0, none⟩) ns ns) rfl (crsP_store _ _ _ _ hq4 ff4 rfl) ?_
    (try simp only [Act.put, zsA, zsB, zsC])
    refine hK.out _ _ (trivial) ?_
    clear hHeld hK
    intro hHeld
    have hP4 : BlkL w.heap.size (prL (.slice (some ⟨w0.heap.size, 0, none⟩) nb nb) (X.set 16 (.slice (some ⟨w1.heap.size, 0, none⟩) ns ns))) (w3.setCell ⟨w.heap.size, 17, none⟩ (.slice (some ⟨w1.heap.size, 0, none⟩) ns ns)) := blk_setS hP3 (i := 17) (by simp [hXl]) _
    rw [(hXs _).out] at hP4
    have hR4 := blk_setO hR3 (g := w.heap.size) (by omega) 17 (.slice (some ⟨w1.heap.size, 0, none⟩) ns ns)
    have hB4 := hB3.setCell (p := ⟨w.heap.size, 17, none⟩) (Nat.le_refl _) (.slice (some ⟨w1.heap.size, 0, none⟩) ns ns)
    have hs4 := hs3.keep (fun k hk => heap_setCell_other w3 ⟨w.heap.size, 17, none⟩ k (.slice (some ⟨w1.heap.size, 0, none⟩) ns ns) (show k ≠ w.heap.size by have := (hs3.lt hk).1; omega))
    have hf4 := hf3.keep (fun k hk => heap_setCell_other w3 ⟨w.heap.size, 17, none⟩ k (.slice (some ⟨w1.heap.size, 0, none⟩) ns ns) (show k ≠ w.heap.size by have := (hf3.lt hk).1; omega))
    obtain ⟨w4, hw4⟩ : ∃ w4, w3.setCell ⟨w.heap.size, 17, none⟩ (.slice (some ⟨w1.heap.size, 0, none⟩) ns ns) = w4 := ⟨_, rfl⟩
    rw [hw4] at hP4 hR4 hB4 hs4 hf4 ⊢
    clear hw4 hP3 hR3 hB3 hs3 hf3 hq4 ff4
    obtain ⟨Z, hZ⟩ : ∃ Z, stCs c (.slice (some ⟨w1.heap.size, 0, none⟩) ns ns) = Z := ⟨_, rfl⟩
    have hZl : Z.length = 18 := by rw [← hZ]; exact st_len h4
    have hZo : ∀ u ∈ Z, u.oneCell' = true := by rw [← hZ]; exact st_one _ _ rfl
    rw [hZ] at hP4
    replace hZ : Aside _ := hZ
    have hr4 := hP4.range
    have hszZ : (Tryz.prog.info? 47).map (·.size) = some (prL (.slice (some ⟨w0.heap.size, 0, none⟩) nb nb) Z).length := by rw [hszP]; simp [hZl]
    have honeZ : ∀ x ∈ prL (.slice (some ⟨w0.heap.size, 0, none⟩) nb nb) Z, x.oneCell' = true := fun x hx => (List.mem_cons.1 hx).elim (fun q => by rw [q]; rfl) (fun q => hZo x q)
    obtain ⟨W5, hW5, hth5, hk5, hb5⟩ := put_any hR4 (ds := prL (.slice (some ⟨w0.heap.size, 0, none⟩) nb nb) Z) (by simp [hZl, st_len (c := zeroC) (v := nilS) rfl]) (by simp)
    have hr5 := hk5.range
    have hB5 := hb5 _ _ (Nat.le_succ _) hB4
    have hs5 : OwnR 9 1 scl W5 w.heap.size (.slice (some ⟨w0.heap.size, 0, none⟩) nb nb) bs := by rw [← hW5]; exact (hs4.setAll (fun q => by have := (hs4.lt q).1; omega) _).lower (by omega)
    have hf5 : OwnR 102 3 frc W5 w.heap.size (.slice (some ⟨w1.heap.size, 0, none⟩) ns ns) c.st := by rw [← hW5]; exact (hf4.setAll (fun q => by have := (hf4.lt q).1; omega) _).lower (by omega)
    clear hP4 hR4 hB4 hs4 hf4 hb5 hk5
    (try simp only [Act.put, zsA, zsB, zsC])
    refine wpAnyH_done (by kernel_rfl) ?_ _
    clear hHeld
    go_wp2_with (first | (refine wpList_load_row rfl _ rfl w.heap.size rfl (prL (.slice (some ⟨w0.heap.size, 0, none⟩) nb nb) Z) hr4 hundP rfl hszZ ?_) | (refine wpList_store_row rfl _ _ rfl (w.heap.size + 1) rfl (prL (.slice (some ⟨w0.heap.size, 0, none⟩) nb nb) Z) rfl hth5 hszZ honeZ hW5 ?_) | fail)
    refine bodyPost_ret (v := .agg (prL (.slice (some ⟨w0.heap.size, 0, none⟩) nb nb) Z).toArray) (results_row1 rfl _ _ (w.heap.size + 1) rfl (prL (.slice (some ⟨w0.heap.size, 0, none⟩) nb nb) Z) hr5 hundP rfl hszZ) rfl ?_
    exact ⟨_, _, by rw [hZ.out], by rw [← hnb.out] at hs5; rw [← hnb.out]; exact hs5, hf5, hB5⟩
  refine tkC (fun K hK => ?_) AllReadyH.nil
  go_simp
  refine hK.out _ _ (trivial) ?_
  clear hHeld hK
  intro hHeld
  (try simp only [Act.put, zsA, zsB, zsC])
  refine tkR (rs := [1]) ?_
  refine tkC (fun K hK => ?_) AllReadyH.nil
  go_simp
  refine hK.out _ _ (trivial) ?_
  clear hHeld hK
  intro hHeld
  (try simp only [Act.put, zsA, zsB, zsC])
  refine tkR (rs := [2]) ?_
  refine tkC (fun K hK => ?_) AllReadyH.nil
  go_simp
  go_at_call 29
  refine (ks w0 (hRB.below scl_ok.len hB0)).mono ?_
  rintro e w1 ⟨rfl, hs1, hb1⟩
  have hP1 := stab_blk _ _ _ _ hP0 hb1
  have hR1 := stab_blk _ _ _ _ hR0 hb1
  have hB1 := Below.then hB0 hb1
  have c01 := (hP1.1 0 _ rfl).1
  have c171 := (hP1.1 17 _ (h17 _)).1
  have hl0 : w.heap.size + 1 < w0.heap.size := hR0.2
  refine hK.out _ _ (trivial) ?_
  clear hHeld hK
  intro hHeld
  clear hP0 hR0 c00 c170 hb1
  (try simp only [Act.put, zsA, zsB, zsC])
  refine tkA 7 ?_
  refine tkR (rs := [6]) ?_
  refine tkC (fun K hK => ?_) AllReadyH.nil
  go_simp
  go_at_call 56
  refine (kf w1 (hrs.below frc_len hB1)).mono ?_
  rintro e w2 ⟨rfl, hf2, hb2⟩
  have hP2 := stab_blk _ _ _ _ hP1 hb2
  have hR2 := stab_blk _ _ _ _ hR1 hb2
  have hB2 := Below.then hB1 hb2
  have hs2 := hs1.below hb2
  have hl1 : w.heap.size + 1 < w1.heap.size := hR1.2
  obtain ⟨hq3, ff3⟩ := hP2.1 0 _ rfl
  refine hK.out _ _ (trivial) ?_
  clear hHeld hK
  intro hHeld
  clear hP1 hR1 c01 c171 hB1 hs1 hb2
  (try simp only [Act.put, zsA, zsB, zsC])
  refine tkR (rs := [8]) ?_
  refine tkC (fun K hK => ?_) AllReadyH.nil
  refine step_st rfl _ _ rfl ⟨w.heap.size, 0, none⟩ rfl (.slice (some ⟨w0.heap.size, 0, none⟩) nb nb) rfl (strsP_store _ _ _ _ hq3 ff3 rfl) ?_
  (try simp only [Act.put, zsA, zsB, zsC])
  refine hK.out _ _ (trivial) ?_
  clear hHeld hK
  intro hHeld
  have hP3 : BlkL w.heap.size (prL (.slice (some ⟨w0.heap.size, 0, none⟩) nb nb) X) (w2.setCell ⟨w.heap.size, 0, none⟩ (.slice (some ⟨w0.heap.size, 0, none⟩) nb nb)) := (blk_setS hP2 (i := 0) (by simp) _)
  have hR3 := blk_setO hR2 (g := w.heap.size) (by omega) 0 (.slice (some ⟨w0.heap.size, 0, none⟩) nb nb)
  have hB3 := hB2.setCell (p := ⟨w.heap.size, 0, none⟩) (Nat.le_refl _) (.slice (some ⟨w0.heap.size, 0, none⟩) nb nb)
  have hs3 := hs2.keep (fun k hk => heap_setCell_other w2 ⟨w.heap.size, 0, none⟩ k (.slice (some ⟨w0.heap.size, 0, none⟩) nb nb) (show k ≠ w.heap.size by have := (hs2.lt hk).1; omega))
  have hf3 := hf2.keep (fun k hk => heap_setCell_other w2 ⟨w.heap.size, 0, none⟩ k (.slice (some ⟨w0.heap.size, 0, none⟩) nb nb) (show k ≠ w.heap.size by have := (hf2.lt hk).1; omega))
  obtain ⟨w3, hw3⟩ : ∃ w3, w2.setCell ⟨w.heap.size, 0, none⟩ (.slice (some ⟨w0.heap.size, 0, none⟩) nb nb) = w3 := ⟨_, rfl⟩
  rw [hw3] at hP3 hR3 hB3 hs3 hf3 ⊢
  obtain ⟨hq4, ff4⟩ := hP3.1 17 _ (h17 _)
  clear hw3 hP2 hR2 hB2 hs2 hf2 hq3 ff3
  (try simp only [Act.put, zsA, zsB, zsC])
  refine tkA 9 ?_
  refine tkA 10 ?_
  refine tkR (rs := [11]) ?_
  refine tkC (fun K hK => ?_) AllReadyH.nil
  refine step_st rfl _ _ rfl ⟨w.heap.size, 17, none⟩ rfl (.slice (some ⟨w1.heap.size, 0, none⟩) ns ns) rfl (crsP_store _ _ _ _ hq4 ff4 rfl) ?_
  (try simp only [Act.put, zsA, zsB, zsC])
  refine hK.out _ _ (trivial) ?_
  clear hHeld hK
  intro hHeld
  have hP4 : BlkL w.heap.size (prL (.slice (some ⟨w0.heap.size, 0, none⟩) nb nb) (X.set 16 (.slice (some ⟨w1.heap.size, 0, none⟩) ns ns))) (w3.setCell ⟨w.heap.size, 17, none⟩ (.slice (some ⟨w1.heap.size, 0, none⟩) ns ns)) := blk_setS hP3 (i := 17) (by simp [hXl]) _
  rw [(hXs _).out] at hP4
  have hR4 := blk_setO hR3 (g := w.heap.size) (by omega) 17 (.slice (some ⟨w1.heap.size, 0, none⟩) ns ns)
  have hB4 := hB3.setCell (p := ⟨w.heap.size, 17, none⟩) (Nat.le_refl _) (.slice (some ⟨w1.heap.size, 0, none⟩) ns ns)
  have hs4 := hs3.keep (fun k hk => heap_setCell_other w3 ⟨w.heap.size, 17, none⟩ k (.slice (some ⟨w1.heap.size, 0, none⟩) ns ns) (show k ≠ w.heap.size by have := (hs3.lt hk).1; omega))
  have hf4 := hf3.keep (fun k hk => heap_setCell_other w3 ⟨w.heap.size, 17, none⟩ k (.slice (some ⟨w1.heap.size, 0, none⟩) ns ns) (show k ≠ w.heap.size by have := (hf3.lt hk).1; omega))
  obtain ⟨w4, hw4⟩ : ∃ w4, w3.setCell ⟨w.heap.size, 17, none⟩ (.slice (some ⟨w1.heap.size, 0, none⟩) ns ns) = w4 := ⟨_, rfl⟩
  rw [hw4] at hP4 hR4 hB4 hs4 hf4 ⊢
  clear hw4 hP3 hR3 hB3 hs3 hf3 hq4 ff4
  obtain ⟨Z, hZ⟩ : ∃ Z, stCs c (.slice (some ⟨w1.heap.size, 0, none⟩) ns ns) = Z := ⟨_, rfl⟩
  have hZl : Z.length = 18 := by rw [← hZ]; exact st_len h4
  have hZo : ∀ u ∈ Z, u.oneCell' = true := by rw [← hZ]; exact st_one _ _ rfl
  rw [hZ] at hP4
  replace hZ : Aside _ := hZ
  have hr4 := hP4.range
  have hszZ : (Tryz.prog.info? 47).map (·.size) = some (prL (.slice (some ⟨w0.heap.size, 0, none⟩) nb nb) Z).length := by rw [hszP]; simp [hZl]
  have honeZ : ∀ x ∈ prL (.slice (some ⟨w0.heap.size, 0, none⟩) nb nb) Z, x.oneCell' = true := fun x hx => (List.mem_cons.1 hx).elim (fun q => by rw [q]; rfl) (fun q => hZo x q)
  obtain ⟨W5, hW5, hth5, hk5, hb5⟩ := put_any hR4 (ds := prL (.slice (some ⟨w0.heap.size, 0, none⟩) nb nb) Z) (by simp [hZl, st_len (c := zeroC) (v := nilS) rfl]) (by simp)
  have hr5 := hk5.range
  have hB5 := hb5 _ _ (Nat.le_succ _) hB4
  have hs5 : OwnR 9 1 scl W5 w.heap.size (.slice (some ⟨w0.heap.size, 0, none⟩) nb nb) bs := by rw [← hW5]; exact (hs4.setAll (fun q => by have := (hs4.lt q).1; omega) _).lower (by omega)
  have hf5 : OwnR 102 3 frc W5 w.heap.size (.slice (some ⟨w1.heap.size, 0, none⟩) ns ns) c.st := by rw [← hW5]; exact (hf4.setAll (fun q => by have := (hf4.lt q).1; omega) _).lower (by omega)
  clear hP4 hR4 hB4 hs4 hf4 hb5 hk5
  (try simp only [Act.put, zsA, zsB, zsC])
  refine wpAnyH_done (by kernel_rfl) ?_ _
  clear hHeld
  go_wp2_with (first | (refine wpList_load_row rfl _ rfl w.heap.size rfl (prL (.slice (some ⟨w0.heap.size, 0, none⟩) nb nb) Z) hr4 hundP rfl hszZ ?_) | (refine wpList_store_row rfl _ _ rfl (w.heap.size + 1) rfl (prL (.slice (some ⟨w0.heap.size, 0, none⟩) nb nb) Z) rfl hth5 hszZ honeZ hW5 ?_) | fail)
  refine bodyPost_ret (v := .agg (prL (.slice (some ⟨w0.heap.size, 0, none⟩) nb nb) Z).toArray) (results_row1 rfl _ _ (w.heap.size + 1) rfl (prL (.slice (some ⟨w0.heap.size, 0, none⟩) nb nb) Z) hr5 hundP rfl hszZ) rfl ?_
  exact ⟨_, _, by rw [hZ.out], by rw [← hnb.out] at hs5; rw [← hnb.out]; exact hs5, hf5, hB5⟩
end Go.Proofs.YtidihdiffiffmaaGreatDoor
namespace Go.Proofs.YtidihdiffiffmaaGreatDoor
open Go.RowKit
set_option maxRecDepth 8000
set_option linter.unusedSimpArgs false
set_option linter.unusedVariables false
theorem zeroP_at (W : World) : zeroP.At W := ⟨fun j g hg => by simp [zeroP] at hg, fun j g hg => by simp [zeroP] at hg⟩
theorem PartsN.at {l A M B : List PN} {u : ByteArray} (p : PartsN l u A M B) {x : PN} (hx : findP l u = some x) : l[A.length]? = some x ∧ (!M.isEmpty) = true := by
  rw [p.find] at hx
  cases M with
  | nil => cases hx
  | cons m r =>
    obtain rfl : m = x := by simpa using hx
    rw [p.eq, List.getElem?_append_right (Nat.le_refl _)]
    simp
theorem PartsN.not {l A M B : List PN} {u : ByteArray} (p : PartsN l u A M B) (hx : findP l u = none) : (!M.isEmpty) = false := by
  rw [p.find] at hx
  cases M with
  | nil => rfl
  | cons m r => cases hx
set_option maxRecDepth 8000 in
set_option maxHeartbeats 2000000 in
theorem tfindO_any (a : Option Addr) (cap : Nat) (l : List PN) (p : ByteArray) (hl : l.length ≤ 100000) (ho : OrdP l) (hf : ∀ x ∈ l, x.Few) (w : World) (h : RowN w a l) :
    Calls Tryz.prog 77 #[.slice a l.length cap, .string p] w fun e w' => ∃ y : PN, e = .returned (.tuple #[.agg y.cs.toArray, .bool (findP l p).isSome]) ∧ y.n = ((findP l p).getD zeroP).n ∧ y.At w' ∧ Below w.heap.size w w' ∧ y.Own w.heap.size w' := by
  have hund := Tryz.underlying36
  have hsz : (Tryz.prog.info? 36).map (·.size) = some 16 := by kernel_rfl
  obtain ⟨A, M, B, hP⟩ := partsN_of p l ho
  obtain ⟨fr, hfr⟩ : ∃ fr, findP l p = fr := ⟨_, rfl⟩
  rw [hfr]
  have hb0 := blkl_alloc w zeroP.cs.toArray 36
  have hB0 := alloc_below w (.cells zeroP.cs.toArray 36)
  have hz0 : zeroP.cs = [.string ⟨#[]⟩, .bool false, .int .i64 0, .int .i64 0, .int .i64 0, .int .i64 0, .slice none 0 0, .int .i64 0, .int .i64 0, .int .i64 0, .int .i64 0, .slice none 0 0, .int .i64 0, .int .i64 0, .int .i64 0, .int .i64 0] := rfl
  rw [hz0] at hb0 hB0
  have hrow := h.below hB0
  have kp := fun W (q : RowN W a l) => place_any W a cap l A M B p hP q hl
  obtain ⟨n, hn⟩ : ∃ n, l.length = n := ⟨_, rfl⟩
  rw [hn] at kp ⊢
  replace hn : Aside (l.length = n) := hn
  go_enter Tryz.func77, Tryz.ntmps77
  go_wp2_with fail
  generalize w.alloc (.cells #[.string ⟨#[]⟩, .bool false, .int .i64 0, .int .i64 0, .int .i64 0, .int .i64 0, .slice none 0 0, .int .i64 0, .int .i64 0, .int .i64 0, .int .i64 0, .slice none 0 0, .int .i64 0, .int .i64 0, .int .i64 0, .int .i64 0] 36) = W at *
  refine (kp W hrow).mono ?_
  rintro e W1 ⟨rfl, hB1⟩
  have hB01 := Below.then hB0 hB1
  have hb1 := stab_blk _ _ _ _ hb0 hB1
  have hrow1 := hrow.below hB1
  have hlt1 : w.heap.size < W1.heap.size := hb1.2
  clear kp hb0 hB0 hrow hB1
  cases fr with
  | none =>
    rw [hP.not hfr]
    have hk := hb1.1.setAll (cs := zeroP.cs) rfl
    have hBz : Below w.heap.size w (W1.setCells w.heap.size 0 zeroP.cs) := Below.cells (Nat.le_refl _) zeroP.cs 0 hB01
    have ht : W1.there w.heap.size 0 zeroP.cs.length := hb1.1.there
    obtain ⟨W2, hW2⟩ : ∃ W', W1.setCells w.heap.size 0 zeroP.cs = W' := ⟨_, rfl⟩
    rw [hW2] at hk hBz
    clear hb1 hP hfr
    go_wp2_with (first | (refine wpList_store_row rfl _ _ rfl w.heap.size rfl zeroP.cs rfl ht hsz (pn_one zeroP) hW2 ?_) | fail)
    refine bodyPost_ret (v := .tuple #[.agg zeroP.cs.toArray, .bool false]) (results_row2 rfl _ _ w.heap.size rfl (.bool false) rfl zeroP.cs hk.range hund rfl hsz) rfl ?_
    exact ⟨zeroP, rfl, rfl, zeroP_at _, hBz, .inl rfl, .inl rfl⟩
  | some x =>
    obtain ⟨hx, hm⟩ := hP.at hfr
    rw [hm]
    have hxm := List.mem_of_getElem? hx
    have hlt := (List.getElem?_eq_some_iff.1 hx).1
    rw [hn.out] at hlt
    obtain ⟨y0, rfl⟩ := h.some_ hx
    have hw := hrow1.r.at pn_len hx
    have ko := own_any x (hf x hxm) W1 (hrow1.p x hxm)
    obtain ⟨cs, hcs⟩ : ∃ cs, x.cs = cs := ⟨_, rfl⟩
    have hlen : cs.length = 16 := by rw [← hcs]; rfl
    rw [hcs] at hw ko
    have hsz1 : (Tryz.prog.info? 36).map (·.size) = some cs.length := by rw [hlen]; exact hsz
    obtain ⟨k, hk⟩ : ∃ k, A.length = k := ⟨_, rfl⟩
    rw [hk] at hw hlt ⊢
    clear hcs hk hx hfr hm hP h
    go_wp2_with (first | (refine wpList_load_at rfl _ rfl (y0.add (k * 16)) rfl cs hw hund rfl hsz1 ?_) | fail)
    refine ko.mono ?_
    rintro e W2 ⟨y, rfl, hyn, hya, hyo, hB2⟩
    have hb2 := stab_blk _ _ _ _ hb1 hB2
    have hB02 := Below.then hB01 hB2
    clear ko hw hb1
    have hk := hb2.1.setAll (cs := y.cs) rfl
    have hBz : Below w.heap.size w (W2.setCells w.heap.size 0 y.cs) := Below.cells (Nat.le_refl _) y.cs 0 hB02
    have ht : W2.there w.heap.size 0 y.cs.length := hb2.1.there
    have hyz := hya.cells hyo hlt1 0 y.cs
    have hyw : y.Own w.heap.size (W2.setCells w.heap.size 0 y.cs) := hyo.lower (by omega) (Below.cells (B := w.heap.size) (Nat.le_refl _) y.cs 0 (Below.refl _ W2)).size
    obtain ⟨W3, hW3⟩ : ∃ W', W2.setCells w.heap.size 0 y.cs = W' := ⟨_, rfl⟩
    rw [hW3] at hk hBz hyz hyw
    clear hb2 hya hB2
    go_wp2_with (first | (refine wpList_store_row rfl _ _ rfl w.heap.size rfl y.cs rfl ht hsz (pn_one y) hW3 ?_) | fail)
    refine bodyPost_ret (v := .tuple #[.agg y.cs.toArray, .bool true]) (results_row2 rfl _ _ w.heap.size rfl (.bool true) rfl y.cs hk.range hund rfl hsz) rfl ?_
    exact ⟨y, rfl, hyn, hyz, hBz, hyw⟩
theorem tfind_any (a : Option Addr) (cap : Nat) (l : List PN) (p : ByteArray) (hl : l.length ≤ 100000) (ho : OrdP l) (hf : ∀ x ∈ l, x.Few) (w : World) (h : RowN w a l) :
    Calls Tryz.prog 77 #[.slice a l.length cap, .string p] w fun e w' => ∃ y : PN, e = .returned (.tuple #[.agg y.cs.toArray, .bool (findP l p).isSome]) ∧ y.n = ((findP l p).getD zeroP).n ∧ y.At w' ∧ Below w.heap.size w w' := by
  refine (tfindO_any a cap l p hl ho hf w h).mono ?_
  rintro e w' ⟨y, h1, h2, h3, h4, _⟩
  exact ⟨y, h1, h2, h3, h4⟩
structure Pc where
  a : Option Addr
  c : Nat
  l : List PN
def Pc.cs (x : Pc) : List Value := [.slice x.a x.l.length x.c]
end Go.Proofs.YtidihdiffiffmaaGreatDoor
namespace Go.Proofs.YtidihdiffiffmaaGreatDoor
open Go.RowKit
set_option maxRecDepth 8000
set_option linter.unusedSimpArgs false
set_option linter.unusedVariables false
theorem FineL.few {l : List PN} (h : FineL l) : ∀ x ∈ l, x.Few := fun x hx => by
  obtain ⟨_, _, _, hA, hd, hs⟩ := nodC_zero.1 (h.ok x hx)
  refine ⟨(acl_sorted hA).2, ?_⟩
  cases hq : x.n.dir
  · have := (hs hq).2.2; omega
  · have := (hd hq).2; omega
theorem FineL.lab {l : List PN} (h : FineL l) {x : PN} (hx : x ∈ l) : GL x.n.label := (nodC_zero.1 (h.ok x hx)).2.1
theorem findP_in {l : List PN} {p : ByteArray} {d : PN} (h : findP l p = some d) : d ∈ l := List.mem_of_find?_eq_some h
theorem nd_labL {W : World} {g : Nat} {x : PN} (h : BlkL g [.string x.n.path, .bool x.n.dir, .int .i64 x.n.label.s, .int .i64 x.n.label.c, .int .i64 x.n.label.i, .int .i64 x.n.label.k, .slice x.aa x.n.acl.length x.ca, .int .i64 x.n.r1, .int .i64 x.n.r2, .int .i64 x.n.r3, .int .i64 x.n.gates, .slice x.wa x.n.words.length x.cw, .int .i64 x.n.by_.s, .int .i64 x.n.by_.c, .int .i64 x.n.by_.i, .int .i64 x.n.by_.k] W) : CellsAt W ⟨g, 2, none⟩ (labM x.n.label) := nd_lab (x := x) h
theorem bits_not : ∀ M m : Fin 8, (bits .andNot .i64 ((m.val : Nat) : Int) ((M.val : Nat) : Int) != 0) = (bits .and .i64 ((M.val : Nat) : Int) ((m.val : Nat) : Int) != ((m.val : Nat) : Int)) := by decide +kernel
theorem cells_size (W : World) (b o : Nat) (vs : List Value) : W.heap.size ≤ (W.setCells b o vs).heap.size := (Below.cells (B := b) (Nat.le_refl _) vs o (Below.refl _ W)).size
theorem check_first {ns : List ByteArray} (hn : Names ns) : (bytes (pathB ns)).getD 0 0 = 47 := by
  by_cases h : ns = []
  · rw [h, pathB_nil]; rfl
  · rw [pathB_bytes h]
    cases ns with
    | nil => exact absurd rfl h
    | cons x r => rfl
theorem lover_rov {a b : Lab} (ha : GL a) (hb : GL b) (w : World) :
    Calls Tryz.prog 78 #[a.v, b.v] w fun e w' => e = .returned (.bool (rov a b)) ∧ Below w.heap.size w w' := by
  have h := lover_any a b w
  obtain ⟨A, rfl, hA⟩ := ha.nl
  obtain ⟨B, rfl, hB⟩ := hb.nl
  rw [rov_ov hA hB]
  exact h
set_option maxRecDepth 20000 in
set_option maxHeartbeats 4000000 in
theorem menter_any (a : Option Addr) (cap : Nat) (l : List PN) (u : ByteArray) (t : Lab) (p : ByteArray) (hF : FineL l) (hGt : GL t) (w : World) (h : RowN w a l) :
    Calls Tryz.prog 75 #[.slice a l.length cap, .agg (sbL u t).toArray, .string p] w fun e w' => e = .returned (.int .i64 (stepE t (findN (namesP l) p))) ∧ Below w.heap.size w w' := by
  have hund := Tryz.underlying36
  have hundL := Tryz.underlying30
  have hszN : (Tryz.prog.info? 36).map (·.size) = some 16 := by kernel_rfl
  have hsl : (Tryz.prog.info? 30).map (·.size) = some 4 := by kernel_rfl
  obtain ⟨E, hE⟩ : ∃ E, stepE t (findN (namesP l) p) = E := ⟨_, rfl⟩
  rw [hE]
  rw [find_names] at hE
  have hbs := blkl_alloc w (sbL u t).toArray 52
  have hB0 := alloc_below w (.cells (sbL u t).toArray 52)
  replace hbs : BlkL w.heap.size (sbL u t) (w.alloc (.cells (sbL u t).toArray 52)) := hbs
  have kf := fun W (q : RowN W a l) => tfind_any a cap l p (by have := hF.len; omega) (ordP.1 hF.ord) hF.few W q
  obtain ⟨fr, hfr⟩ : ∃ fr, findP l p = fr := ⟨_, rfl⟩
  rw [hfr] at kf hE
  have hlab : ∀ d, fr = some d → GL d.n.label := fun d q => hF.lab (findP_in (hfr.trans q))
  obtain ⟨n, hn⟩ : ∃ n, l.length = n := ⟨_, rfl⟩
  rw [hn] at kf ⊢
  replace hn : Aside (l.length = n) := hn
  clear hfr
  go_enter Tryz.func75, Tryz.ntmps75
  go_wp2_with fail
  generalize w.alloc (.cells (sbL u t).toArray 52) = W0 at *
  cases fr with
  | none =>
    rw [Option.isSome_none] at kf
    obtain rfl : E = 2 := hE.symm
    refine (kf W0 (h.below hB0)).mono ?_
    rintro e W3 ⟨y, rfl, hy, hya, hB3⟩
    obtain ⟨W4, hW4, hth4, hbn, hB4⟩ := put_new W3 zN 36 y.cs (by rw [pn_len]; rfl) (by rw [pn_len]; omega)
    have hB := Below.then hB0 (Below.then hB3 hB4)
    clear kf hbs hya hy
    go_wp2_with (first | (refine wpList_store_row rfl _ _ rfl W3.heap.size rfl y.cs rfl hth4 (by rw [pn_len]; exact hszN) (pn_one y) hW4 ?_) | fail)
    go_ret
    exact ⟨rfl, hB⟩
  | some d =>
    rw [Option.isSome_some] at kf
    have hGd := hlab d rfl
    replace hE : Aside (stepE t (some d.n) = E) := hE
    refine (kf W0 (h.below hB0)).mono ?_
    rintro e W3 ⟨y, rfl, hy, hya, hB3⟩
    replace hy : y.n = d.n := hy
    rw [← hy] at hE hGd
    obtain ⟨W4, hW4, hth4, hbn, hB4⟩ := put_new W3 zN 36 y.cs (by rw [pn_len]; rfl) (by rw [pn_len]; omega)
    have hB := Below.then hB0 (Below.then hB3 hB4)
    replace hbs := stab_blk _ _ _ _ hbs (Below.then hB3 hB4)
    have hz1 := (hbn.1 1 _ rfl).1
    have hcb := sb_lab hbs
    have hcn := nd_lab hbn
    clear kf hya hlab hy hbs hbn
    cases hd : y.n.dir
    · obtain rfl : E = 3 := by rw [← hE.out]; unfold stepE; simp [hd]
      rw [hd] at hz1
      go_wp2_with (first | (refine wpList_store_row rfl _ _ rfl W3.heap.size rfl y.cs rfl hth4 (by rw [pn_len]; exact hszN) (pn_one y) hW4 ?_) | fail)
      go_ret
      exact ⟨rfl, hB⟩
    · rw [hd] at hz1
      have kv := lover_rov hGt hGd W4
      cases hr : rov t y.n.label
      · obtain rfl : E = 15 := by rw [← hE.out]; unfold stepE; simp [hd, hr]
        rw [hr] at kv
        go_wp2_with (first | (refine wpList_store_row rfl _ _ rfl W3.heap.size rfl y.cs rfl hth4 (by rw [pn_len]; exact hszN) (pn_one y) hW4 ?_) | (refine wpList_load_at rfl _ rfl ⟨w.heap.size, 1, none⟩ rfl (labM t) hcb hundL rfl hsl ?_) | (refine wpList_load_at rfl _ rfl ⟨W3.heap.size, 2, none⟩ rfl (labM y.n.label) hcn hundL rfl hsl ?_) | fail)
        refine kv.mono ?_
        rintro e W5 ⟨rfl, hB5⟩
        have hfin := Below.then hB hB5
        go_wp2_with fail
        go_ret
        exact ⟨rfl, hfin⟩
      · obtain rfl : E = 0 := by rw [← hE.out]; unfold stepE; simp [hd, hr]
        rw [hr] at kv
        go_wp2_with (first | (refine wpList_store_row rfl _ _ rfl W3.heap.size rfl y.cs rfl hth4 (by rw [pn_len]; exact hszN) (pn_one y) hW4 ?_) | (refine wpList_load_at rfl _ rfl ⟨w.heap.size, 1, none⟩ rfl (labM t) hcb hundL rfl hsl ?_) | (refine wpList_load_at rfl _ rfl ⟨W3.heap.size, 2, none⟩ rfl (labM y.n.label) hcn hundL rfl hsl ?_) | fail)
        refine kv.mono ?_
        rintro e W5 ⟨rfl, hB5⟩
        have hfin := Below.then hB hB5
        go_wp2_with fail
        go_ret
        exact ⟨rfl, hfin⟩
set_option maxRecDepth 20000 in
set_option maxHeartbeats 4000000 in
theorem muse_any (x : PN) (u : ByteArray) (t : Lab) (m : Int) (hm1 : 1 ≤ m) (hm7 : m ≤ 7) (hGt : GL t) (hGx : GL x.n.label) (hA : chkA x.n.acl = 0) (w : World) (h : x.At w) :
    Calls Tryz.prog 40 #[.agg x.cs.toArray, .agg (sbL u t).toArray, .int .i64 m] w fun e w' => e = .returned (.int .i64 (modE x.n u t m)) ∧ Below w.heap.size w w' := by
  have hund := Tryz.underlying36
  have hundL := Tryz.underlying30
  have hsl : (Tryz.prog.info? 30).map (·.size) = some 4 := by kernel_rfl
  obtain ⟨E, hE⟩ : ∃ E, modE x.n u t m = E := ⟨_, rfl⟩
  rw [hE]
  unfold modE at hE
  have hso := (acl_sorted hA).1
  have hac := (acl_sorted hA).2
  obtain ⟨MM, hMM⟩ : ∃ MM, modesL x.n.acl u = MM := ⟨_, rfl⟩
  have hnot : (bits .andNot .i64 m MM != 0) = (bits .and .i64 MM m != m) := by
    obtain ⟨b0, b7⟩ := modes_range hA u
    rw [hMM] at b0 b7
    obtain ⟨M8, rfl⟩ := fin8 b0 b7
    obtain ⟨m8, rfl⟩ := fin8 (show 0 ≤ m by omega) hm7
    exact bits_not M8 m8
  rw [hMM] at hE
  have hb1 := alloc_below w (.cells x.cs.toArray 36)
  have hb2 := alloc_below (w.alloc (.cells x.cs.toArray 36)) (.cells (sbL u t).toArray 52)
  have hbx := stab_blk _ _ _ _ (blkl_alloc w x.cs.toArray 36) hb2
  have hbs := blkl_alloc (w.alloc (.cells x.cs.toArray 36)) (sbL u t).toArray 52
  rw [World.size_alloc] at hbs
  replace hbs : BlkL (w.heap.size + 1) (sbL u t) _ := hbs
  have hB := Below.then hb1 hb2
  have hxa := h.below hB
  have hcs : x.cs = [.string x.n.path, .bool x.n.dir, .int .i64 x.n.label.s, .int .i64 x.n.label.c, .int .i64 x.n.label.i, .int .i64 x.n.label.k, .slice x.aa x.n.acl.length x.ca, .int .i64 x.n.r1, .int .i64 x.n.r2, .int .i64 x.n.r3, .int .i64 x.n.gates, .slice x.wa x.n.words.length x.cw, .int .i64 x.n.by_.s, .int .i64 x.n.by_.c, .int .i64 x.n.by_.i, .int .i64 x.n.by_.k] := rfl
  rw [hcs] at hbx hbs hB hxa ⊢
  clear hb1 hb2 h hcs hm1 hm7
  have hnq : ∀ X, (binOp .neq 30 (.agg (labM t).toArray) (.agg (labM x.n.label).toArray)).run Tryz.prog X = .ok (.bool (!labEq t x.n.label)) X := run_neq_lab t x.n.label
  obtain ⟨A5, hA5⟩ : ∃ A5, bits .and .i64 m 5 = A5 := ⟨_, rfl⟩
  obtain ⟨A2, hA2⟩ : ∃ A2, bits .and .i64 m 2 = A2 := ⟨_, rfl⟩
  rw [hA5, hA2] at hE
  go_enter Tryz.func40, Tryz.ntmps40
  go_upto_region 1 with fail
  generalize (w.alloc (.cells ([.string x.n.path, .bool x.n.dir, .int .i64 x.n.label.s, .int .i64 x.n.label.c, .int .i64 x.n.label.i, .int .i64 x.n.label.k, .slice x.aa x.n.acl.length x.ca, .int .i64 x.n.r1, .int .i64 x.n.r2, .int .i64 x.n.r3, .int .i64 x.n.gates, .slice x.wa x.n.words.length x.cw, .int .i64 x.n.by_.s, .int .i64 x.n.by_.c, .int .i64 x.n.by_.i, .int .i64 x.n.by_.k]).toArray 36)).alloc (.cells (sbL u t).toArray 52) = W0 at *
  have hcb := sb_lab hbs
  have hcn := nd_labL hbx
  have kv := lover_rov hGt hGx W0
  cases hq5 : (A5 != 0)
  · rw [hq5, if_neg (fun q => by cases q.1)] at hE
    clear kv
    go_upto_region 2 with (first | fail)
    clear hcb hcn
    have hcb := sb_lab hbs
    have hcn := nd_labL hbx
    cases hq2 : (A2 != 0)
    · rw [hq2, if_neg (fun q => by cases q.1)] at hE
      go_upto_region 3 with (first | fail)
      clear hcb hcn
      have hz6 := (hbx.1 6 _ rfl).1
      have hz0 := (hbs.1 0 _ rfl).1
      have km := modes_any W0 x.aa x.ca x.n.acl u hso hxa.g hac
      rw [hMM] at km
      go_wp2_with fail
      refine km.mono ?_
      rintro e W7 ⟨rfl, hB7⟩
      have hfin := Below.then hB hB7
      clear km
      obtain ⟨AN, hAN⟩ : ∃ AN, bits .andNot .i64 m MM = AN := ⟨_, rfl⟩
      rw [hAN] at hnot
      cases hq : (AN != 0)
      · rw [← hnot, hq, if_neg (by decide)] at hE
        clear hnot
        subst hE
        go_wp2_with fail
        go_ret
        exact ⟨rfl, hfin⟩
      · rw [← hnot, hq, if_pos rfl] at hE
        clear hnot
        subst hE
        go_wp2_with fail
        go_ret
        exact ⟨rfl, hfin⟩
    · cases hle : labEq t x.n.label
      · rw [hle] at hnq
        rw [hq2, hle, if_pos ⟨rfl, rfl⟩] at hE
        subst hE
        go_wp2_with (first | (refine wpList_load_atg (by rfl) _ rfl ⟨w.heap.size + 1, 1, none⟩ rfl (labM t) hcb hundL rfl hsl ?_) | (refine wpList_load_atg (by rfl) _ rfl ⟨w.heap.size, 2, none⟩ rfl (labM x.n.label) hcn hundL rfl hsl ?_) | fail)
        go_ret
        exact ⟨rfl, hB⟩
      · rw [hle] at hnq
        rw [hle, if_neg (fun q => by cases q.2)] at hE
        go_upto_region 3 with (first | (refine wpList_load_atg (by rfl) _ rfl ⟨w.heap.size + 1, 1, none⟩ rfl (labM t) hcb hundL rfl hsl ?_) | (refine wpList_load_atg (by rfl) _ rfl ⟨w.heap.size, 2, none⟩ rfl (labM x.n.label) hcn hundL rfl hsl ?_) | fail)
        clear hcb hcn
        have hz6 := (hbx.1 6 _ rfl).1
        have hz0 := (hbs.1 0 _ rfl).1
        have km := modes_any W0 x.aa x.ca x.n.acl u hso hxa.g hac
        rw [hMM] at km
        go_wp2_with fail
        refine km.mono ?_
        rintro e W7 ⟨rfl, hB7⟩
        have hfin := Below.then hB hB7
        clear km
        obtain ⟨AN, hAN⟩ : ∃ AN, bits .andNot .i64 m MM = AN := ⟨_, rfl⟩
        rw [hAN] at hnot
        cases hq : (AN != 0)
        · rw [← hnot, hq, if_neg (by decide)] at hE
          clear hnot
          subst hE
          go_wp2_with fail
          go_ret
          exact ⟨rfl, hfin⟩
        · rw [← hnot, hq, if_pos rfl] at hE
          clear hnot
          subst hE
          go_wp2_with fail
          go_ret
          exact ⟨rfl, hfin⟩
  · cases hr : rov t x.n.label
    · rw [hr] at kv
      rw [hq5, hr, if_pos ⟨rfl, rfl⟩] at hE
      subst hE
      go_wp2_with (first | (refine wpList_load_atg (by rfl) _ rfl ⟨w.heap.size + 1, 1, none⟩ rfl (labM t) hcb hundL rfl hsl ?_) | (refine wpList_load_atg (by rfl) _ rfl ⟨w.heap.size, 2, none⟩ rfl (labM x.n.label) hcn hundL rfl hsl ?_) | fail)
      refine kv.mono ?_
      rintro e W5 ⟨rfl, hB5⟩
      have hfin := Below.then hB hB5
      clear kv hcb hcn
      go_wp2_with fail
      go_ret
      exact ⟨rfl, hfin⟩
    · rw [hr] at kv
      rw [hr, if_neg (fun q => by cases q.2)] at hE
      go_wp2_with (first | (refine wpList_load_atg (by rfl) _ rfl ⟨w.heap.size + 1, 1, none⟩ rfl (labM t) hcb hundL rfl hsl ?_) | (refine wpList_load_atg (by rfl) _ rfl ⟨w.heap.size, 2, none⟩ rfl (labM x.n.label) hcn hundL rfl hsl ?_) | fail)
      refine kv.mono ?_
      rintro e W5 ⟨rfl, hB5⟩
      replace hB := Below.then hB hB5
      replace hbx := stab_blk _ _ _ _ hbx hB5
      replace hbs := stab_blk _ _ _ _ hbs hB5
      replace hxa := hxa.below hB5
      clear kv hcb hcn
      go_upto_region 2 with fail
      have hcb := sb_lab hbs
      have hcn := nd_labL hbx
      cases hq2 : (A2 != 0)
      · rw [hq2, if_neg (fun q => by cases q.1)] at hE
        go_upto_region 3 with (first | fail)
        clear hcb hcn
        have hz6 := (hbx.1 6 _ rfl).1
        have hz0 := (hbs.1 0 _ rfl).1
        have km := modes_any W5 x.aa x.ca x.n.acl u hso hxa.g hac
        rw [hMM] at km
        go_wp2_with fail
        refine km.mono ?_
        rintro e W7 ⟨rfl, hB7⟩
        have hfin := Below.then hB hB7
        clear km
        obtain ⟨AN, hAN⟩ : ∃ AN, bits .andNot .i64 m MM = AN := ⟨_, rfl⟩
        rw [hAN] at hnot
        cases hq : (AN != 0)
        · rw [← hnot, hq, if_neg (by decide)] at hE
          clear hnot
          subst hE
          go_wp2_with fail
          go_ret
          exact ⟨rfl, hfin⟩
        · rw [← hnot, hq, if_pos rfl] at hE
          clear hnot
          subst hE
          go_wp2_with fail
          go_ret
          exact ⟨rfl, hfin⟩
      · cases hle : labEq t x.n.label
        · rw [hle] at hnq
          rw [hq2, hle, if_pos ⟨rfl, rfl⟩] at hE
          subst hE
          go_wp2_with (first | (refine wpList_load_atg (by rfl) _ rfl ⟨w.heap.size + 1, 1, none⟩ rfl (labM t) hcb hundL rfl hsl ?_) | (refine wpList_load_atg (by rfl) _ rfl ⟨w.heap.size, 2, none⟩ rfl (labM x.n.label) hcn hundL rfl hsl ?_) | fail)
          go_ret
          exact ⟨rfl, hB⟩
        · rw [hle] at hnq
          rw [hle, if_neg (fun q => by cases q.2)] at hE
          go_upto_region 3 with (first | (refine wpList_load_atg (by rfl) _ rfl ⟨w.heap.size + 1, 1, none⟩ rfl (labM t) hcb hundL rfl hsl ?_) | (refine wpList_load_atg (by rfl) _ rfl ⟨w.heap.size, 2, none⟩ rfl (labM x.n.label) hcn hundL rfl hsl ?_) | fail)
          clear hcb hcn
          have hz6 := (hbx.1 6 _ rfl).1
          have hz0 := (hbs.1 0 _ rfl).1
          have km := modes_any W5 x.aa x.ca x.n.acl u hso hxa.g hac
          rw [hMM] at km
          go_wp2_with fail
          refine km.mono ?_
          rintro e W7 ⟨rfl, hB7⟩
          have hfin := Below.then hB hB7
          clear km
          obtain ⟨AN, hAN⟩ : ∃ AN, bits .andNot .i64 m MM = AN := ⟨_, rfl⟩
          rw [hAN] at hnot
          cases hq : (AN != 0)
          · rw [← hnot, hq, if_neg (by decide)] at hE
            clear hnot
            subst hE
            go_wp2_with fail
            go_ret
            exact ⟨rfl, hfin⟩
          · rw [← hnot, hq, if_pos rfl] at hE
            clear hnot
            subst hE
            go_wp2_with fail
            go_ret
            exact ⟨rfl, hfin⟩
theorem told_zero {L : List Nod} {p : ByteArray} {e : Int} (h : e ≠ 0) : zeroP.n = toldN L p e := by
  unfold toldN
  rw [if_neg h]
  rfl
theorem ms_startM (w : World) (u : ByteArray) (t : Lab) : MS w ((w.alloc (.cells (sbL u t).toArray 52)).alloc (.cells zN 36)) u t := by
  have hb := alloc_below w (.cells (sbL u t).toArray 52)
  have hb2 := alloc_below (w.alloc (.cells (sbL u t).toArray 52)) (.cells zN 36)
  have h2 := blkl_alloc (w.alloc (.cells (sbL u t).toArray 52)) zN 36
  rw [World.size_alloc] at h2
  exact ⟨Below.then hb hb2, stab_blk _ _ _ _ (blkl_alloc w (sbL u t).toArray 52) hb2, h2⟩
set_option maxRecDepth 20000 in
set_option maxHeartbeats 8000000 in
theorem msee_any (a : Option Addr) (cap : Nat) (l : List PN) (u : ByteArray) (t : Lab) (p : ByteArray) (hF : FineL l) (hGt : GL t) (hp : p.size ≤ 1000) (w : World) (h : RowN w a l) (hV : MaxV w) :
    Calls Tryz.prog 39 #[.slice a l.length cap, .agg (sbL u t).toArray, .string p] w fun e w' => ∃ f : PN, e = .returned (.tuple #[.agg f.cs.toArray, .int .i64 (seeE (namesP l) t p)]) ∧ f.n = toldN (namesP l) p (seeE (namesP l) t p) ∧ f.At w' ∧ Below w.heap.size w w' ∧ f.Own w.heap.size w' := by
  have hund := Tryz.underlying36
  have hundM := Tryz.underlying52
  have hsz : (Tryz.prog.info? 36).map (·.size) = some zeroP.cs.length := by kernel_rfl
  have hszN : (Tryz.prog.info? 36).map (·.size) = some 16 := by kernel_rfl
  have hsm : (Tryz.prog.info? 52).map (·.size) = some 5 := by kernel_rfl
  have kf := fun q W (r : RowN W a l) => tfindO_any a cap l q (by have := hF.len; omega) (ordP.1 hF.ord) hF.few W r
  have ke := fun q W (r : RowN W a l) => menter_any a cap l u t q hF hGt W r
  have kc := fun W (q : MaxV W) => pcheck_any p (by omega) W q
  obtain ⟨E, hE⟩ : ∃ E, seeE (namesP l) t p = E := ⟨_, rfl⟩
  rw [hE]
  unfold seeE at hE
  obtain ⟨n, hn⟩ : ∃ n, l.length = n := ⟨_, rfl⟩
  rw [hn] at kf ke ⊢
  replace hn : Aside (l.length = n) := hn
  have h0 := ms_startM w u t
  generalize hce : checkOf p = ce at *
  have hbad := True.intro
  go_enter Tryz.func39, Tryz.ntmps39
  go_wp2_with fail
  generalize (w.alloc (.cells (sbL u t).toArray 52)).alloc (.cells zN 36) = W0 at *
  refine (kc W0 (hV.below h0.bl)).mono ?_
  rintro e W1 ⟨rfl, hB1⟩
  have h1 := h0.then hB1
  clear kc h0 hB1
  by_cases hc0 : ce = 0
  rotate_left
  · rw [if_pos hc0] at hE
    subst hE
    clear kf ke
    obtain ⟨W9, hW9, hth9, hk9, hb9⟩ := put_res h1.rs zeroP h1.bl (by omega)
    have hzz : zeroP.n = toldN (namesP l) p ce := told_zero hc0
    have hza := zero_atM W9
    clear hbad
    as_aux_lemma =>
      go_wp2_with (first | (refine wpList_store_part rfl _ _ rfl (w.heap.size + 1) 0 rfl zeroP.cs rfl hth9 hsz (pn_one zeroP) hW9 ?_) | fail)
      refine bodyPost_ret (v := .tuple #[.agg zeroP.cs.toArray, .int .i64 ce]) (results_row2 rfl _ _ (w.heap.size + 1) rfl (.int .i64 ce) rfl zeroP.cs hk9.range hund rfl hsz) rfl ?_
      exact ⟨zeroP, rfl, hzz, hza, hb9, .inl rfl, .inl rfl⟩
  subst hc0
  rw [if_neg (by simp)] at hE
  obtain ⟨ns, hns, rfl, h78⟩ := check_path hce
  have hpp : partsOf (pathB ns) = ns := parts_path hns.flat
  have hpq : ppartsOf (pathB ns) = ns := by rw [pparts_eq (check_first hns), hpp]
  rw [hpp] at hE
  have kp := parts_any (pathB ns) (by omega) W1 (hV.below h1.bl)
  rw [hpq] at kp
  obtain ⟨ln, hln⟩ : ∃ ln, ns.length = ln := ⟨_, rfl⟩
  go_wp2_with fail
  refine kp.mono ?_
  rintro e W2 ⟨pv, rfl, ho2, hB2⟩
  have h2 := h1.then hB2
  obtain ⟨pa, pcap, rfl⟩ := ho2.slice hln
  obtain ⟨B2, hB2e⟩ : ∃ B2, W1.heap.size = B2 := ⟨_, rfl⟩
  rw [hB2e] at ho2
  clear kp h1 hB2 hB2e hpp hpq
  replace hce : Aside _ := hce
  have hln6 : ln ≤ 6 := by rw [← hln]; exact hns.1
  replace hE : Aside _ := hE
  replace hln : Aside (ns.length = ln) := hln
  go_wp2_with fail
  go_loopw [9, 24] (fun t9 t24 wr => ∃ i : Nat, i ≤ ln ∧ t24 = .int .i64 (i : Int) ∧ t9 = .string (pathB (ns.take i)) ∧ Aside (wayE (namesP l) t [] ns = wayE (namesP l) t (ns.take i) (ns.drop i)) ∧ MS w wr u t ∧ OwnS wr B2 (.slice pa ln pcap) ns) (fun _ t24 _ => ln - (Go.RowKit.intOf t24).toNat)
  case atStart => exact ⟨0, by omega, rfl, by rw [List.take_zero, pathB_nil]; rfl, rfl, h2, ho2⟩
  case round =>
    clear h2 ho2
    obtain ⟨i, hi, rfl, rfl, hway, hM, ho⟩ := hrel
    by_cases hlt : i < ln
    · obtain ⟨nm, hnm⟩ : ∃ nm, ns[i]? = some nm := ⟨_, List.getElem?_eq_getElem (by rw [hln.out]; exact hlt)⟩
      have hnn := hns.flat nm (List.mem_of_getElem? hnm)
      have hnsz := (name_size (hns.2 nm (List.mem_of_getElem? hnm))).2
      have hw2 := hway.out
      rw [way_succ hnm] at hw2
      have hjoin : joinOf (pathB (ns.take i)) nm = pathB (ns.take (i + 1)) := by
        rw [join_path nm (fun q hq => (hns.flat q (List.mem_of_mem_take hq)).2), List.take_add_one, hnm]
        rfl
      have hats : (pathB (ns.take i)).size ≤ 1000000 := by
        have : Names (ns.take i) := ⟨by rw [List.length_take]; have := hns.1; omega, fun q hq => hns.2 q (List.mem_of_mem_take hq)⟩
        have := names_size this
        omega
      have kj := join_any (pathB (ns.take i)) nm hats (by omega)
      rw [hjoin] at kj
      have kb := ke (pathB (ns.take i)) wr (h.below hM.bl)
      obtain ⟨se, hse⟩ : ∃ se, stepE t (findN (namesP l) (pathB (ns.take i))) = se := ⟨_, rfl⟩
      rw [hse] at kb hw2
      obtain ⟨at_, hat⟩ : ∃ at_, pathB (ns.take i) = at_ := ⟨_, rfl⟩
      rw [hat] at kb kj ⊢
      have i1 : (i : Int) < (ln : Int) := by omega
      obtain ⟨g5, c5, hv5, hc5, _, _⟩ := ho.at hln.out hnm
      injection hv5 with q1 q2 q3
      subst q1 q3
      have hrs := hM.bx.range
      clear hway hat hjoin hats hse
      replace hw2 : Aside _ := hw2
      go_wp2_with (first | (refine wpList_load_row rfl _ rfl w.heap.size rfl (sbL u t) hrs hundM rfl hsm ?_) | fail)
      refine kb.mono ?_
      rintro e W3 ⟨rfl, hB3⟩
      have hM3 := hM.then hB3
      have ho3 := ho.below hB3
      clear kb hM hB3 ho hrs hc5
      by_cases hs0 : se = 0
      rotate_left
      · obtain rfl : E = se := by
          have q := hw2.out
          rw [if_pos hs0] at q
          rw [← hE.out, q, if_pos hs0]
        clear kf ke kj hE hw2
        obtain ⟨W9, hW9, hth9, hk9, hb9⟩ := put_res hM3.rs zeroP hM3.bl (by omega)
        have hzz : zeroP.n = toldN (namesP l) (pathB ns) E := told_zero hs0
        have hza := zero_atM W9
        clear hbad
        as_aux_lemma =>
          go_wp2_with (first | (refine wpList_store_part rfl _ _ rfl (w.heap.size + 1) 0 rfl zeroP.cs rfl hth9 hsz (pn_one zeroP) hW9 ?_) | fail)
          refine bodyPost_ret (v := .tuple #[.agg zeroP.cs.toArray, .int .i64 E]) (results_row2 rfl _ _ (w.heap.size + 1) rfl (.int .i64 E) rfl zeroP.cs hk9.range hund rfl hsz) rfl ?_
          exact ⟨zeroP, rfl, hzz, hza, hb9, .inl rfl, .inl rfl⟩
      · subst hs0
        have hw3 : Aside (wayE (namesP l) t [] ns = wayE (namesP l) t (ns.take (i + 1)) (ns.drop (i + 1))) := by
          have q := hw2.out
          rw [if_neg (by simp)] at q
          exact q
        clear hw2
        go_wp2_with fail
        refine (kj W3).mono ?_
        rintro e w6 ⟨rfl, hw6⟩
        replace hw6 := hw6.symm
        subst hw6
        go_wp2_with fail
        exact ⟨⟨i + 1, by omega, by simp, rfl, hw3, hM3, ho3⟩, by simp [Go.RowKit.intOf]; omega⟩
    · obtain rfl : i = ln := by omega
      have htk : ns.take i = ns := List.take_of_length_le (by rw [hln.out]; exact Nat.le_refl _)
      rw [htk]
      have hw0 : wayE (namesP l) t [] ns = 0 := by
        have q := hway.out
        rw [List.drop_eq_nil_of_le (by rw [hln.out]; exact Nat.le_refl _)] at q
        rw [q]
        rfl
      have hE2 := hE.out
      rw [hw0, if_neg (by simp), find_names] at hE2
      have kb := kf (pathB ns) wr (h.below hM.bl)
      obtain ⟨fr, hfr⟩ : ∃ fr, findP l (pathB ns) = fr := ⟨_, rfl⟩
      rw [hfr] at kb hE2
      have hTT : Aside (∀ d, fr = some d → toldN (namesP l) (pathB ns) 0 = d.n) := fun d q => by
        unfold toldN
        rw [if_pos rfl, find_names, hfr, q]
        rfl
      obtain ⟨pp, hppe⟩ : ∃ pp, pathB ns = pp := ⟨_, rfl⟩
      rw [hppe] at kb ⊢
      have i1 : ¬ (i : Int) < (i : Int) := by omega
      clear hway hw0 hfr ke kf htk hE hce hns hln
      replace hppe : Aside (pathB ns = pp) := hppe
      go_wp2_with fail
      refine kb.mono ?_
      rintro e W3 ⟨y, rfl, hy, hya, hB3, hyo⟩
      have hM3 := hM.then hB3
      have hlt2 : w.heap.size + 1 < wr.heap.size := hM.rs.2
      obtain ⟨W4, hW4, hth4, hbn, hB4⟩ := put_new W3 zN 36 y.cs (by rw [pn_len]; rfl) (by rw [pn_len]; omega)
      have hM4 := hM3.then hB4
      have hszy : (Tryz.prog.info? 36).map (·.size) = some y.cs.length := by rw [pn_len]; exact hszN
      replace hya := hya.below hB4
      clear kb hM hM3 hB3 ho
      cases fr with
      | none =>
        obtain rfl : E = 2 := hE2.symm
        clear hE2 hTT hy hya
        obtain ⟨W9, hW9, hth9, hk9, hb9⟩ := put_res hM4.rs zeroP hM4.bl (by omega)
        have hzz : zeroP.n = toldN (namesP l) (pathB ns) 2 := told_zero (by decide)
        have hza := zero_atM W9
        clear hbad
        as_aux_lemma =>
          go_wp2_with (first | (refine wpList_store_row rfl _ _ rfl W3.heap.size rfl y.cs rfl hth4 hszy (pn_one y) hW4 ?_) | (refine wpList_store_part rfl _ _ rfl (w.heap.size + 1) 0 rfl zeroP.cs rfl hth9 hsz (pn_one zeroP) hW9 ?_) | fail)
          refine bodyPost_ret (v := .tuple #[.agg zeroP.cs.toArray, .int .i64 2]) (results_row2 rfl _ _ (w.heap.size + 1) rfl (.int .i64 2) rfl zeroP.cs hk9.range hund rfl hsz) rfl ?_
          exact ⟨zeroP, rfl, hzz, hza, hb9, .inl rfl, .inl rfl⟩
      | some d =>
        obtain rfl : E = 0 := hE2.symm
        have hyt : y.n = toldN (namesP l) (pathB ns) 0 := by rw [hTT.out d rfl]; exact hy
        obtain ⟨W9, hW9, hth9, hk9, hb9⟩ := put_res hM4.rs y hM4.bl (by omega)
        have hrn := hbn.range
        replace hya : y.At W9 := by rw [← hW9]; exact hya.cells hyo hlt2 0 y.cs
        have hyw : y.Own w.heap.size W9 := hyo.lower (by omega) (by rw [← hW9]; exact Nat.le_trans hB4.size (cells_size _ _ _ _))
        clear hbad hE2 hTT hy
        as_aux_lemma =>
          go_wp2_with (first | (refine wpList_store_row rfl _ _ rfl W3.heap.size rfl y.cs rfl hth4 hszy (pn_one y) hW4 ?_) | (refine wpList_load_row rfl _ rfl W3.heap.size rfl y.cs hrn hund rfl hszy ?_) | (refine wpList_store_part rfl _ _ rfl (w.heap.size + 1) 0 rfl y.cs rfl hth9 hszy (pn_one y) hW9 ?_) | fail)
          refine bodyPost_ret (v := .tuple #[.agg y.cs.toArray, .int .i64 0]) (results_row2 rfl _ _ (w.heap.size + 1) rfl (.int .i64 0) rfl y.cs hk9.range hund rfl hszy) rfl ?_
          exact ⟨y, rfl, hyt, hya, hb9, hyw⟩
end Go.Proofs.YtidihdiffiffmaaGreatDoor
namespace Go.Proofs.YtidihdiffiffmaaGreatDoor
open Go.RowKit
set_option maxRecDepth 8000
set_option linter.unusedSimpArgs false
set_option linter.unusedVariables false
def PN.Off (y : PN) (b : Nat) : Prop := InBlk y.aa (fun g => g ≠ b) ∧ InBlk y.wa (fun g => g ≠ b)
theorem PN.At.off {y : PN} {W : World} {g : Nat} (h : y.At W) (ho : y.Off g) (o : Nat) (vs : List Value) : y.At (W.setCells g o vs) :=
  ⟨grs_keep h.g (ho.1.imp fun k hk => heap_setCells_other (b := g) (k := k) hk vs o W), wrds_keep h.w (ho.2.imp fun k hk => heap_setCells_other (b := g) (k := k) hk vs o W)⟩
theorem PN.Own.off {y : PN} {W : World} {b g : Nat} (h : y.Own b W) (hg : g < b ∨ W.heap.size ≤ g) : y.Off g := ⟨h.1.imp fun k hk => by omega, h.2.imp fun k hk => by omega⟩
set_option maxRecDepth 20000 in
set_option maxHeartbeats 8000000 in
theorem mmay_any (a : Option Addr) (cap : Nat) (l : List PN) (u : ByteArray) (t : Lab) (p : ByteArray) (m : Int) (hF : FineL l) (hGt : GL t) (hp : p.size ≤ 1000) (w : World) (h : RowN w a l) (hV : MaxV w) :
    Calls Tryz.prog 21 #[.slice a l.length cap, .agg (sbL u t).toArray, .string p, .int .i64 m] w fun e w' => ∃ f : PN, e = .returned (.tuple #[.agg f.cs.toArray, .int .i64 (mayE (namesP l) u t p m)]) ∧ f.n = toldN (namesP l) p (mayE (namesP l) u t p m) ∧ f.At w' ∧ Below w.heap.size w w' ∧ f.Own w.heap.size w' := by
  have hund := Tryz.underlying36
  have hundM := Tryz.underlying52
  have hsz : (Tryz.prog.info? 36).map (·.size) = some zeroP.cs.length := by kernel_rfl
  have hszN : (Tryz.prog.info? 36).map (·.size) = some 16 := by kernel_rfl
  have hsm : (Tryz.prog.info? 52).map (·.size) = some 5 := by kernel_rfl
  have ks := fun W (r : RowN W a l) (q : MaxV W) => msee_any a cap l u t p hF hGt hp W r q
  obtain ⟨E, hE⟩ : ∃ E, mayE (namesP l) u t p m = E := ⟨_, rfl⟩
  rw [hE]
  unfold mayE at hE
  obtain ⟨n, hn⟩ : ∃ n, l.length = n := ⟨_, rfl⟩
  rw [hn] at ks ⊢
  replace hn : Aside (l.length = n) := hn
  have h0 := ms_startM w u t
  have hbad := True.intro
  by_cases hm : m < 1 ∨ 7 < m
  · rw [if_pos hm] at hE
    subst hE
    clear ks
    by_cases hm1 : m < 1
    · go_enter Tryz.func21, Tryz.ntmps21
      go_upto_region 2 with fail
      generalize (w.alloc (.cells (sbL u t).toArray 52)).alloc (.cells zN 36) = W0 at *
      obtain ⟨W9, hW9, hth9, hk9, hb9⟩ := put_res h0.rs zeroP h0.bl (by omega)
      have hzz : zeroP.n = toldN (namesP l) p 1 := told_zero (by decide)
      have hza := zero_atM W9
      clear hbad
      as_aux_lemma =>
        go_wp2_with (first | (refine wpList_store_part rfl _ _ rfl (w.heap.size + 1) 0 rfl zeroP.cs rfl hth9 hsz (pn_one zeroP) hW9 ?_) | fail)
        refine bodyPost_ret (v := .tuple #[.agg zeroP.cs.toArray, .int .i64 1]) (results_row2 rfl _ _ (w.heap.size + 1) rfl (.int .i64 1) rfl zeroP.cs hk9.range hund rfl hsz) rfl ?_
        exact ⟨zeroP, rfl, hzz, hza, hb9, .inl rfl, .inl rfl⟩
    · have hm7 : 7 < m := by omega
      go_enter Tryz.func21, Tryz.ntmps21
      go_upto_region 2 with fail
      generalize (w.alloc (.cells (sbL u t).toArray 52)).alloc (.cells zN 36) = W0 at *
      obtain ⟨W9, hW9, hth9, hk9, hb9⟩ := put_res h0.rs zeroP h0.bl (by omega)
      have hzz : zeroP.n = toldN (namesP l) p 1 := told_zero (by decide)
      have hza := zero_atM W9
      clear hbad
      as_aux_lemma =>
        go_wp2_with (first | (refine wpList_store_part rfl _ _ rfl (w.heap.size + 1) 0 rfl zeroP.cs rfl hth9 hsz (pn_one zeroP) hW9 ?_) | fail)
        refine bodyPost_ret (v := .tuple #[.agg zeroP.cs.toArray, .int .i64 1]) (results_row2 rfl _ _ (w.heap.size + 1) rfl (.int .i64 1) rfl zeroP.cs hk9.range hund rfl hsz) rfl ?_
        exact ⟨zeroP, rfl, hzz, hza, hb9, .inl rfl, .inl rfl⟩
  rw [if_neg hm] at hE
  have hm1 : ¬ m < 1 := by omega
  have hm7 : ¬ 7 < m := by omega
  clear hm
  obtain ⟨SE, hSE⟩ : ∃ SE, seeE (namesP l) t p = SE := ⟨_, rfl⟩
  rw [hSE] at hE ks
  have hrs := h0.bx.range
  go_enter Tryz.func21, Tryz.ntmps21
  go_upto_region 3 with fail
  generalize (w.alloc (.cells (sbL u t).toArray 52)).alloc (.cells zN 36) = W0 at *
  go_wp2_with (first | (refine wpList_load_row rfl _ rfl w.heap.size rfl (sbL u t) hrs hundM rfl hsm ?_) | fail)
  refine (ks W0 (h.below h0.bl) (hV.below h0.bl)).mono ?_
  rintro e W2 ⟨f, rfl, hfn, hfa, hB2, hfo⟩
  have hM2 := h0.then hB2
  have hlt2 : w.heap.size + 1 < W0.heap.size := h0.rs.2
  obtain ⟨W4, hW4, hth4, hbn, hB4⟩ := put_new W2 zN 36 f.cs (by rw [pn_len]; rfl) (by rw [pn_len]; omega)
  have hM4 := hM2.then hB4
  replace hfa := hfa.below hB4
  replace hfo : f.Own (w.heap.size + 2) W4 := hfo.lower (by omega) hB4.size
  clear ks h0 hrs hB2 hM2 hB4
  go_upto_region 4 with (first | (refine wpList_store_row rfl _ _ rfl W2.heap.size rfl f.cs rfl hth4 (by rw [pn_len]; exact hszN) (pn_one f) hW4 ?_) | fail)
  generalize W2.heap.size = bn at *
  clear hth4 hW4
  by_cases hs0 : SE = 0
  rotate_left
  · rw [if_pos hs0] at hE
    subst hE
    clear hfn
    obtain ⟨W9, hW9, hth9, hk9, hb9⟩ := put_res hM4.rs zeroP hM4.bl (by omega)
    have hzz : zeroP.n = toldN (namesP l) p SE := told_zero hs0
    have hza := zero_atM W9
    clear hbad
    as_aux_lemma =>
      go_wp2_with (first | (refine wpList_store_part rfl _ _ rfl (w.heap.size + 1) 0 rfl zeroP.cs rfl hth9 hsz (pn_one zeroP) hW9 ?_) | fail)
      refine bodyPost_ret (v := .tuple #[.agg zeroP.cs.toArray, .int .i64 SE]) (results_row2 rfl _ _ (w.heap.size + 1) rfl (.int .i64 SE) rfl zeroP.cs hk9.range hund rfl hsz) rfl ?_
      exact ⟨zeroP, rfl, hzz, hza, hb9, .inl rfl, .inl rfl⟩
  subst hs0
  obtain ⟨d, hfd⟩ := see_find hSE
  have hdm := findP_in hfd
  rw [if_neg (by simp), find_names, hfd] at hE
  have hfd2 : f.n = d.n := by
    rw [hfn]
    unfold toldN
    rw [if_pos rfl, find_names, hfd]
    rfl
  replace hE : modE d.n u t m = E := hE
  rw [← hfd2] at hE
  have ku := muse_any f u t m (by omega) (by omega) hGt (by rw [hfd2]; exact hF.lab hdm) (by rw [hfd2]; exact hF.acl d hdm) W4 hfa
  rw [hE] at ku
  have hrs := hM4.bx.range
  have hrf := hbn.range
  have hszf : (Tryz.prog.info? 36).map (·.size) = some f.cs.length := by rw [pn_len]; exact hszN
  replace hSE : Aside _ := hSE
  replace hfd : Aside _ := hfd
  replace hfd2 : Aside _ := hfd2
  replace hfn : Aside _ := hfn
  clear hE
  go_wp2_with (first | (refine wpList_load_row rfl _ rfl bn rfl f.cs hrf hund rfl hszf ?_) | (refine wpList_load_row rfl _ rfl w.heap.size rfl (sbL u t) hrs hundM rfl hsm ?_) | fail)
  refine ku.mono ?_
  rintro e W5 ⟨rfl, hB5⟩
  have hM5 := hM4.then hB5
  replace hbn := stab_blk _ _ _ _ hbn hB5
  replace hfa := hfa.below hB5
  replace hfo := hfo.lower (Nat.le_refl _) hB5.size
  clear ku hrs hrf hM4 hB5 hszf
  by_cases hs0 : E = 0
  rotate_left
  · clear hfn hfd2 hfd hSE
    obtain ⟨W9, hW9, hth9, hk9, hb9⟩ := put_res hM5.rs zeroP hM5.bl (by omega)
    have hzz : zeroP.n = toldN (namesP l) p E := told_zero hs0
    have hza := zero_atM W9
    clear hbad
    as_aux_lemma =>
      go_wp2_with (first | (refine wpList_store_part rfl _ _ rfl (w.heap.size + 1) 0 rfl zeroP.cs rfl hth9 hsz (pn_one zeroP) hW9 ?_) | fail)
      refine bodyPost_ret (v := .tuple #[.agg zeroP.cs.toArray, .int .i64 E]) (results_row2 rfl _ _ (w.heap.size + 1) rfl (.int .i64 E) rfl zeroP.cs hk9.range hund rfl hsz) rfl ?_
      exact ⟨zeroP, rfl, hzz, hza, hb9, .inl rfl, .inl rfl⟩
  subst hs0
  obtain ⟨W9, hW9, hth9, hk9, hb9⟩ := put_res hM5.rs f hM5.bl (by omega)
  have hrn := hbn.range
  have hszf : (Tryz.prog.info? 36).map (·.size) = some f.cs.length := by rw [pn_len]; exact hszN
  have hfa9 : f.At W9 := by rw [← hW9]; exact hfa.cells hfo (by omega) 0 f.cs
  have hfw : f.Own w.heap.size W9 := hfo.lower (by omega) (by rw [← hW9]; exact cells_size _ _ _ _)
  have hft : f.n = toldN (namesP l) p 0 := hfn.out
  clear hbad
  as_aux_lemma =>
    go_wp2_with (first | (refine wpList_load_row rfl _ rfl bn rfl f.cs hrn hund rfl hszf ?_) | (refine wpList_store_part rfl _ _ rfl (w.heap.size + 1) 0 rfl f.cs rfl hth9 hszf (pn_one f) hW9 ?_) | fail)
    refine bodyPost_ret (v := .tuple #[.agg f.cs.toArray, .int .i64 0]) (results_row2 rfl _ _ (w.heap.size + 1) rfl (.int .i64 0) rfl f.cs hk9.range hund rfl hszf) rfl ?_
    exact ⟨f, rfl, hft, hfa9, hb9, hfw⟩
end Go.Proofs.YtidihdiffiffmaaGreatDoor
namespace Go.Proofs.YtidihdiffiffmaaGreatDoor
open Go.RowKit
set_option maxRecDepth 8000
set_option linter.unusedSimpArgs false
set_option linter.unusedVariables false
theorem idx3 {i : Nat} (hi : i < 3) (w : World) : (Instr.index 176 (.agg #[.int .i64 1, .int .i64 2, .int .i64 4]) (.int .i64 (i : Int))).run Tryz.prog w = .ok (.int .i64 (bitK i)) w := by
  have h1 := Tryz.underlying176
  have h2 := Tryz.underlying3
  obtain ⟨j, hj⟩ : ∃ j, Tryz.prog.info? 3 = some j ∧ j.size = 1 := by
    have h3 : (Tryz.prog.info? 3).map (·.size) = some 1 := by kernel_rfl
    cases hi : Tryz.prog.info? 3 with
    | none => rw [hi] at h3; cases h3
    | some j => exact ⟨j, rfl, by rw [hi] at h3; exact Option.some.inj h3⟩
  match i, hi with
  | 0, _ => simp [Instr.index, asIntOf, run_underlying h1, run_underlying h2, part, isAgg, sizeOf, typeInfo, hj.1, hj.2, bitK]
  | 1, _ => simp [Instr.index, asIntOf, run_underlying h1, run_underlying h2, part, isAgg, sizeOf, typeInfo, hj.1, hj.2, bitK]
  | 2, _ => simp [Instr.index, asIntOf, run_underlying h1, run_underlying h2, part, isAgg, sizeOf, typeInfo, hj.1, hj.2, bitK]
set_option maxRecDepth 8000 in
set_option maxHeartbeats 4000000 in
theorem pmods_any (a : Option Addr) (cap : Nat) (l : List PN) (u : ByteArray) (t : Lab) (p : ByteArray) (hF : FineL l) (hGt : GL t) (hp : p.size ≤ 1000) (w : World) (h : RowN w a l) (hV : MaxV w) :
    Calls Tryz.prog 60 #[.slice a l.length cap, .agg (sbL u t).toArray, .string p] w fun e w' => e = .returned (.int .i64 (modsP (namesP l) u t p)) ∧ Below w.heap.size w w' := by
  have hundS := Tryz.underlying52
  have hszN : (Tryz.prog.info? 36).map (·.size) = some 16 := by kernel_rfl
  have hss : (Tryz.prog.info? 52).map (·.size) = some 5 := by kernel_rfl
  have km := fun W (r : RowN W a l) (hv : MaxV W) (m : Int) => mmay_any a cap l u t p m hF hGt hp W r hv
  obtain ⟨n, hn⟩ : ∃ n, l.length = n := ⟨_, rfl⟩
  rw [hn] at km ⊢
  replace hn : Aside (l.length = n) := hn
  have hb0 := blkl_alloc w (sbL u t).toArray 52
  have hB0 := alloc_below w (.cells (sbL u t).toArray 52)
  replace hb0 : BlkL w.heap.size (sbL u t) (w.alloc (.cells (sbL u t).toArray 52)) := hb0
  go_enter Tryz.func60, Tryz.ntmps60
  go_upto_region 2 with fail
  generalize w.alloc (.cells (sbL u t).toArray 52) = W0 at *
  go_wp2_with fail
  go_loopw [7, 13] (fun t7 t13 wr => ∃ i : Nat, i ≤ 3 ∧ t13 = .int .i64 (i : Int) ∧ t7 = .int .i64 (modK (namesP l) u t p i) ∧ BlkL w.heap.size (sbL u t) wr ∧ Below w.heap.size w wr) (fun _ t13 _ => 3 - (Go.RowKit.intOf t13).toNat)
  case atStart => exact ⟨0, by omega, rfl, rfl, hb0, hB0⟩
  case round =>
    clear hb0 hB0
    obtain ⟨i, hi, rfl, rfl, hb, hB⟩ := hrel
    by_cases hlt : i < 3
    · obtain ⟨k1, k2, -, -⟩ := modK_step (namesP l) u t p hlt
      have hidx := fun W => idx3 hlt W
      have kb := km wr (h.below hB) (hV.below hB) (bitK i)
      have hrs := hb.range
      obtain ⟨E1, hE1⟩ : ∃ E1, mayE (namesP l) u t p (bitK i) = E1 := ⟨_, rfl⟩
      rw [hE1] at kb k1 k2
      obtain ⟨M1, hM1⟩ : ∃ M1, modK (namesP l) u t p i = M1 := ⟨_, rfl⟩
      rw [hM1] at k1 k2 ⊢
      obtain ⟨M2, hM2⟩ : ∃ M2, modK (namesP l) u t p (i + 1) = M2 := ⟨_, rfl⟩
      rw [hM2] at k1 k2
      obtain ⟨b1, hb1⟩ : ∃ b1, bitK i = b1 := ⟨_, rfl⟩
      rw [hb1] at kb k1 hidx
      replace hM2 : Aside _ := hM2
      clear hE1 hM1 hb1 km
      go_upto_region 5 with fail
      clear hidx
      go_wp2_with (first | (refine wpList_load_row rfl _ rfl w.heap.size rfl (sbL u t) hrs hundS rfl hss ?_) | fail)
      refine kb.mono ?_
      rintro e W1 ⟨f, rfl, -, -, hb1, -⟩
      obtain ⟨W2, hW2, hth2, -, hB2⟩ := put_new W1 #[.string ⟨#[]⟩, .bool false, .int .i64 0, .int .i64 0, .int .i64 0, .int .i64 0, .slice none 0 0, .int .i64 0, .int .i64 0, .int .i64 0, .int .i64 0, .slice none 0 0, .int .i64 0, .int .i64 0, .int .i64 0, .int .i64 0] 36 f.cs (by rw [pn_len]; rfl) (by rw [pn_len]; decide)
      have hB3 := Below.then (Below.then hB hb1) hB2
      have hb3 := stab_blk _ _ _ _ (stab_blk _ _ _ _ hb hb1) hB2
      have hszT : (Tryz.prog.info? 36).map (·.size) = some f.cs.length := by rw [pn_len]; exact hszN
      have hone : ∀ v ∈ f.cs, v.oneCell' = true := pn_one f
      clear kb hrs hb hB hb1 hB2
      by_cases h0 : E1 = 0
      · have k := k1 h0
        subst h0
        clear k1 k2
        go_wp2_with (first | (refine wpList_store_row rfl _ _ rfl W1.heap.size rfl f.cs rfl hth2 hszT hone hW2 ?_) | fail)
        exact ⟨⟨i + 1, by omega, by simp, by rw [hM2.out], hb3, hB3⟩, by simp [Go.RowKit.intOf]; omega⟩
      · have k := k2 h0
        have hq : (E1 == 0) = false := by simpa using h0
        clear k1 k2 h0
        go_wp2_with (first | (refine wpList_store_row rfl _ _ rfl W1.heap.size rfl f.cs rfl hth2 hszT hone hW2 ?_) | fail)
        exact ⟨⟨i + 1, by omega, by simp, by rw [hM2.out], hb3, hB3⟩, by simp [Go.RowKit.intOf]; omega⟩
    · obtain rfl : i = 3 := by omega
      go_wp2_with fail
      go_ret
      exact ⟨rfl, hB⟩
set_option maxHeartbeats 1000000 in
theorem psame_any (w : World) (bx : Nat) (p : ByteArray) (x : PN) (hb : w.cell? ⟨bx, 0, none⟩ = some (.string p)) :
    Calls Tryz.prog 59 #[.agg x.cs.toArray, .pointer (some ⟨bx, 0, none⟩)] w fun e w' => e = .returned (.bool (eqs x.n.path p)) ∧ Below w.heap.size w w' := by
  have hl : bx < w.heap.size := World.block_lt_of_cell? w _ hb
  obtain ⟨b, he⟩ : ∃ b, eqs x.n.path p = b := ⟨_, rfl⟩
  have he2 : (x.n.path.toList == p.toList) = b := he
  rw [he]
  have hb0 := blkl_alloc w x.cs.toArray 36
  have hB0 := alloc_below w (.cells x.cs.toArray 36)
  have c0 := (hb0.1 0 (.string x.n.path) rfl).1
  have c1 := (hB0.cell (p := ⟨bx, 0, none⟩) hl).trans hb
  obtain ⟨X, hX⟩ : ∃ X, x.cs = X := ⟨_, rfl⟩
  rw [hX] at c0 c1 hB0 ⊢
  clear hX hb0 he hb
  go_enter Tryz.func59, Tryz.ntmps59
  go_wp2_with fail
  go_ret
  exact ⟨rfl, hB0⟩
theorem findP_at {l : List PN} {p : ByteArray} {i : Nat} {x : PN} (hu : l[i]? = some x) : (l.drop i).find? (fun x => eqs x.n.path p) = if eqs x.n.path p = true then some x else (l.drop (i + 1)).find? fun x => eqs x.n.path p := by
  have hil := (List.getElem?_eq_some_iff.1 hu).1
  rw [List.drop_eq_getElem_cons hil, (List.getElem?_eq_some_iff.1 hu).2, List.find?_cons]
  cases eqs x.n.path p <;> rfl
def PIdx (l : List PN) (o : Option PN) (r : Int) : Prop := match o with
  | some x => ∃ i : Nat, r = (i : Int) ∧ l[i]? = some x
  | none => r = -1
set_option maxHeartbeats 1000000 in
theorem pidx_any (w : World) (bx : Nat) (p : ByteArray) (hb : w.cell? ⟨bx, 0, none⟩ = some (.string p)) (a : Option Addr) (l : List PN) (cap : Nat) (hm2 : l.length ≤ 1000000) (hG : RowN w a l) :
    Calls Tryz.prog 58 #[.slice a l.length cap, .func (.func 59) #[] #[.pointer (some ⟨bx, 0, none⟩)]] w fun e w' =>
      ∃ r : Int, e = .returned (.int .i64 r) ∧ PIdx l (findP l p) r ∧ Below w.heap.size w w' := by
  have hund := Tryz.underlying36
  have hszN : (Tryz.prog.info? 36).map (·.size) = some 16 := by kernel_rfl
  obtain ⟨m, hm⟩ : ∃ m, l.length = m := ⟨_, rfl⟩
  rw [hm] at hm2 ⊢
  replace hm : Aside (l.length = m) := hm
  have hr0 : Aside (findP l p = (l.drop 0).find? fun x => eqs x.n.path p) := rfl
  obtain ⟨o, ho⟩ : ∃ o, findP l p = o := ⟨_, rfl⟩
  rw [ho] at hr0 ⊢
  clear ho
  go_enter Tryz.func58, Tryz.ntmps58
  go_wp2_with fail
  go_loopw [8] (fun t wr => ∃ q : Nat, q ≤ m ∧ t = .int .i64 (q : Int) ∧ Below w.heap.size w wr ∧ Aside (o = (l.drop q).find? fun x => eqs x.n.path p)) (fun t _ => m - (Go.RowKit.intOf t).toNat)
  case atStart => exact ⟨0, by omega, rfl, Below.refl _ _, hr0⟩
  case round =>
    obtain ⟨q, hq, rfl, hB, hall⟩ := hrel
    by_cases hlt : q < m
    · obtain ⟨x, hu⟩ : ∃ x, l[q]? = some x := ⟨_, List.getElem?_eq_getElem (by rw [hm.out]; omega)⟩
      rw [findP_at hu] at hall
      have hrow := hG.below hB
      obtain ⟨y, rfl⟩ := hrow.some_ hu
      have hw := hrow.r.at pn_len hu
      have cS := psame_any wr bx p x ((hB.cell (p := ⟨bx, 0, none⟩) (World.block_lt_of_cell? w _ hb)).trans hb)
      obtain ⟨cs, hcs⟩ : ∃ cs, x.cs = cs := ⟨_, rfl⟩
      have hlen : cs.length = 16 := by rw [← hcs]; rfl
      rw [hcs] at hw cS
      have hszc : (Tryz.prog.info? 36).map (·.size) = some cs.length := by rw [hlen]; exact hszN
      clear hb hrow hcs hlen
      cases he : eqs x.n.path p
      · rw [he, if_neg (by simp)] at hall
        rw [he] at cS
        clear he hu
        go_wp2_with (first | (refine wpList_load_at rfl _ rfl (y.add (q * 16)) rfl cs hw hund rfl hszc ?_) | fail)
        refine cS.mono ?_
        rintro e w1 ⟨rfl, hB1⟩
        go_wp2_with fail
        exact ⟨⟨q + 1, by omega, by simp, Below.then hB hB1, hall⟩, by simp [Go.RowKit.intOf]; omega⟩
      · rw [he, if_pos rfl] at hall
        rw [he] at cS
        have hfin : PIdx l o (q : Int) := by
          rw [hall.out]
          exact ⟨q, rfl, hu⟩
        clear he hu hall
        go_wp2_with (first | (refine wpList_load_at rfl _ rfl (y.add (q * 16)) rfl cs hw hund rfl hszc ?_) | fail)
        refine cS.mono ?_
        rintro e w1 ⟨rfl, hB1⟩
        go_wp2_with fail
        go_ret
        exact ⟨_, rfl, hfin, Below.then hB hB1⟩
    · have hfin : PIdx l o (-1) := by
        rw [hall.out, List.drop_eq_nil_of_le (by rw [hm.out]; omega)]
        exact rfl
      go_wp2_with fail
      go_ret
      exact ⟨_, rfl, hfin, hB⟩
end Go.Proofs.YtidihdiffiffmaaGreatDoor
namespace Go.Proofs.YtidihdiffiffmaaGreatDoor
open Go.RowKit
set_option maxRecDepth 8000
set_option linter.unusedSimpArgs false
set_option linter.unusedVariables false
def bindE (L : List Nod) (u : ByteArray) (t : Lab) (p : ByteArray) (m : Int) : Int := if mayE L u t p m ≠ 0 then mayE L u t p m else if (gotN L p).dir = true then 3 else 0
def goE (L : List Nod) (u : ByteArray) (t : Lab) : Int → List ByteArray → Int
  | _, [] => 0
  | m, p :: r => if bindE L u t p m ≠ 0 then bindE L u t p m else goE L u t 1 r
def makeE (L : List Nod) (u : ByteArray) (t : Lab) (bs : List ByteArray) : Int := if bs.length < 1 ∨ 4 < bs.length then 1 else goE L u t 4 bs
def modeK (k : Nat) : Int := if k = 0 then 4 else 1
theorem goE_at {L : List Nod} {u : ByteArray} {t : Lab} {bs : List ByteArray} {k : Nat} {p : ByteArray} (h : bs[k]? = some p) : goE L u t (modeK k) (bs.drop k) = if bindE L u t p (modeK k) ≠ 0 then bindE L u t p (modeK k) else goE L u t (modeK (k + 1)) (bs.drop (k + 1)) := by
  have hl := (List.getElem?_eq_some_iff.1 h).1
  rw [List.drop_eq_getElem_cons hl, (List.getElem?_eq_some_iff.1 h).2, goE]
  rfl
def MakeP (bs : List ByteArray) (E : Int) (w : World) (e : Ending) (w' : World) : Prop := Below w.heap.size w w' ∧ (E ≠ 0 → e = .returned (.tuple #[.agg (prL nilS (stCs zeroC nilS)).toArray, .int .i64 E])) ∧ (E = 0 → ∃ bv, e = .returned (.tuple #[.agg (prL bv (stCs newC nilS)).toArray, .int .i64 0]) ∧ OwnR 9 1 scl w' w.heap.size bv bs)
set_option maxRecDepth 8000 in
set_option maxHeartbeats 4000000 in
theorem pmayb_any (a : Option Addr) (cap : Nat) (l : List PN) (u : ByteArray) (t : Lab) (p : ByteArray) (m : Int) (hF : FineL l) (hGt : GL t) (hp : p.size ≤ 1000) (w : World) (h : RowN w a l) (hV : MaxV w) :
    Calls Tryz.prog 28 #[.slice a l.length cap, .agg (sbL u t).toArray, .string p, .int .i64 m] w fun e w' => e = .returned (.int .i64 (bindE (namesP l) u t p m)) ∧ Below w.heap.size w w' := by
  have hundS := Tryz.underlying52
  have hszN : (Tryz.prog.info? 36).map (·.size) = some 16 := by kernel_rfl
  have hss : (Tryz.prog.info? 52).map (·.size) = some (sbL u t).length := by kernel_rfl
  have hb0 := blkl_alloc w (sbL u t).toArray 52
  have hB0 := alloc_below w (.cells (sbL u t).toArray 52)
  have kb := mmay_any a cap l u t p m hF hGt hp _ (h.below hB0) (hV.below hB0)
  have hrs := hb0.range
  unfold bindE
  obtain ⟨E, hE⟩ : ∃ E, mayE (namesP l) u t p m = E := ⟨_, rfl⟩
  rw [hE] at kb ⊢
  obtain ⟨n, hn⟩ : ∃ n, l.length = n := ⟨_, rfl⟩
  rw [hn] at kb ⊢
  replace hrs : (w.alloc (.cells (sbL u t).toArray 52)).rangeAt w.heap.size 0 (sbL u t) := hrs
  obtain ⟨r, hr⟩ : ∃ r, (if E ≠ 0 then E else if (gotN (namesP l) p).dir = true then 3 else 0) = r := ⟨_, rfl⟩
  rw [hr]
  replace hr : Aside _ := hr
  clear hE hn hb0
  go_enter Tryz.func28, Tryz.ntmps28
  go_upto_region 1 with fail
  generalize w.alloc (.cells (sbL u t).toArray 52) = W0 at *
  go_wp2_with (first | (refine wpList_load_row rfl _ rfl w.heap.size rfl (sbL u t) hrs hundS rfl hss ?_) | fail)
  refine kb.mono ?_
  rintro e W1 ⟨f, rfl, hfn, -, hb1, -⟩
  obtain ⟨W2, hW2, hth2, hbf, hB2⟩ := put_new W1 #[.string ⟨#[]⟩, .bool false, .int .i64 0, .int .i64 0, .int .i64 0, .int .i64 0, .slice none 0 0, .int .i64 0, .int .i64 0, .int .i64 0, .int .i64 0, .slice none 0 0, .int .i64 0, .int .i64 0, .int .i64 0, .int .i64 0] 36 f.cs (by rw [pn_len]; rfl) (by rw [pn_len]; decide)
  have hB3 := Below.then (Below.then hB0 hb1) hB2
  have hszT : (Tryz.prog.info? 36).map (·.size) = some f.cs.length := by rw [pn_len]; exact hszN
  have hone : ∀ v ∈ f.cs, v.oneCell' = true := pn_one f
  have hdir : W2.cell? ⟨W1.heap.size, 1, none⟩ = some (.bool f.n.dir) := (hbf.1 1 _ rfl).1
  clear kb hrs hB0 hb1 hB2 hbf
  go_upto_region 2 with (first | (refine wpList_store_row rfl _ _ rfl W1.heap.size rfl f.cs rfl hth2 hszT hone hW2 ?_) | fail)
  clear hth2 hW2 hszT hone
  by_cases h0 : E = 0
  · subst h0
    have hd : f.n.dir = (gotN (namesP l) p).dir := by
      rw [hfn]
      unfold toldN gotN
      rw [if_pos rfl]
    have hr2 := hr.out
    rw [if_neg (by decide), ← hd] at hr2
    clear hfn hd hr
    cases hdd : f.n.dir
    · rw [hdd] at hdir hr2
      rw [if_neg (by decide)] at hr2
      subst hr2
      go_wp2_with fail
      go_ret
      exact ⟨rfl, hB3⟩
    · rw [hdd] at hdir hr2
      rw [if_pos rfl] at hr2
      subst hr2
      go_wp2_with fail
      go_ret
      exact ⟨rfl, hB3⟩
  · have hr2 := hr.out
    rw [if_pos h0] at hr2
    have hq : (E == 0) = false := by simpa using h0
    subst hr2
    clear hfn h0 hr
    go_wp2_with fail
    go_ret
    exact ⟨rfl, hB3⟩
theorem p_build (va : Option Addr) (vn vc : Nat) (w : World) : (Instr.build 47 #[(0, .slice va vn vc), (1, .agg (stCs newC nilS).toArray)]).run Tryz.prog w = .ok (.agg (prL (.slice va vn vc) (stCs newC nilS)).toArray) w := by
  have h1 := Tryz.underlying47
  have h2 := Tryz.underlying45
  unfold stCs prL
  simp only [newC]
  go_simp
theorem p_build0 (w : World) : (Instr.build 47 #[]).run Tryz.prog w = .ok (.agg (prL nilS (stCs zeroC nilS)).toArray) w := by
  have h1 := Tryz.underlying47
  show _ = Result.ok (Value.agg #[.slice none 0 0, .int .i64 0, .int .i64 0, .int .i64 0, .int .i64 0, .int .i64 0, .int .i64 0, .int .i64 0, .int .i64 0, .int .i64 0, .int .i64 0, .int .i64 0, .int .i64 0, .int .i64 0, .int .i64 0, .int .i64 0, .int .i64 0, .slice none 0 0, .bool false]) w
  go_simp
set_option maxRecDepth 8000 in
set_option maxHeartbeats 4000000 in
theorem pmake_any (a : Option Addr) (cap : Nat) (l : List PN) (u : ByteArray) (t : Lab) (ba : Option Addr) (bc : Nat) (bs : List ByteArray) (hF : FineL l) (hGt : GL t) (hbs : bs.length ≤ 1000) (hps : ∀ p ∈ bs, p.size ≤ 1000) (w : World) (h : RowN w a l) (hRB : RowAt 1 scl w ba bs) (hV : MaxV w) :
    Calls Tryz.prog 12 #[.slice a l.length cap, .agg (sbL u t).toArray, .slice ba bs.length bc] w (MakeP bs (makeE (namesP l) u t bs) w) := by
  have hundS := Tryz.underlying52
  have hundP := Tryz.underlying47
  have hszP : (Tryz.prog.info? 47).map (·.size) = some 19 := by kernel_rfl
  have hss : (Tryz.prog.info? 52).map (·.size) = some (sbL u t).length := by kernel_rfl
  have f0 := blkl_alloc w (sbL u t).toArray 52
  have g0 := alloc_below w (.cells (sbL u t).toArray 52)
  have f1 := blkl_alloc (w.alloc (.cells (sbL u t).toArray 52)) (prL nilS (stCs zeroC nilS)).toArray 47
  have g1 := alloc_below (w.alloc (.cells (sbL u t).toArray 52)) (.cells (prL nilS (stCs zeroC nilS)).toArray 47)
  rw [World.size_alloc] at f1
  have kb := fun (W : World) p m hp r v => pmayb_any a cap l u t p m hF hGt hp W r v
  have kc := fun (W : World) r => pcpS_any ba bc bs W hbs r
  have kn := fun (W : World) => cnew_any W
  have hbd := p_build
  have hbd0 := p_build0
  have hb := stab_blk _ _ _ _ f0 g1
  have hB := Below.then g0 g1
  have hr : BlkL (w.heap.size + 1) (prL nilS (stCs zeroC nilS)) ((w.alloc (.cells (sbL u t).toArray 52)).alloc (.cells zPC 47)) := f1
  replace hb : BlkL w.heap.size (sbL u t) ((w.alloc (.cells (sbL u t).toArray 52)).alloc (.cells zPC 47)) := hb
  replace hB : Below w.heap.size w ((w.alloc (.cells (sbL u t).toArray 52)).alloc (.cells zPC 47)) := hB
  clear f0 f1 g0 g1
  unfold makeE
  obtain ⟨n, hn⟩ : ∃ n, l.length = n := ⟨_, rfl⟩
  obtain ⟨nb, hnb⟩ : ∃ nb, bs.length = nb := ⟨_, rfl⟩
  rw [hn] at kb ⊢
  rw [hnb] at hbs kc ⊢
  replace hn : Aside (l.length = n) := hn
  replace hnb : Aside (bs.length = nb) := hnb
  have hZP : ∀ W : World, BlkL (w.heap.size + 1) (prL nilS (stCs zeroC nilS)) W → ∃ W', W.setCells (w.heap.size + 1) 0 (prL nilS (stCs zeroC nilS)) = W' ∧ W.there (w.heap.size + 1) 0 (prL nilS (stCs zeroC nilS)).length ∧ W'.rangeAt (w.heap.size + 1) 0 (prL nilS (stCs zeroC nilS)) ∧ (Below w.heap.size w W → Below w.heap.size w W') := fun W q => by
    obtain ⟨W', q1, q2, q3, q4⟩ := put_any q (ds := prL nilS (stCs zeroC nilS)) rfl (by decide)
    exact ⟨W', q1, q2, q3.range, fun r => q4 _ _ (by omega) r⟩
  have hszZ : (Tryz.prog.info? 47).map (·.size) = some (prL nilS (stCs zeroC nilS)).length := hszP
  have honeZ : ∀ y ∈ prL nilS (stCs zeroC nilS), y.oneCell' = true := fun y hy => (List.mem_cons.1 hy).elim (fun q => by rw [q]; rfl) (fun q => st_one _ _ rfl y q)
  by_cases hbad : nb < 1 ∨ 4 < nb
  · rw [if_pos hbad]
    obtain ⟨W9, hW9, hth9, hr9, hk9⟩ := hZP _ hr
    have hB9 := hk9 hB
    obtain ⟨Z, hZ⟩ : ∃ Z, prL nilS (stCs zeroC nilS) = Z := ⟨_, rfl⟩
    have hfin : ∀ W, Below w.heap.size w W → MakeP bs 1 w (.returned (.tuple #[.agg Z.toArray, .int .i64 1])) W := fun W q => ⟨q, fun _ => by rw [hZ], fun q => absurd q (by decide)⟩
    rw [hZ] at hW9 hth9 hr9 hszZ honeZ hbd0
    clear hZ hZP hk9
    go_enter Tryz.func12, Tryz.ntmps12
    go_upto_region 1 with fail
    generalize (w.alloc (.cells (sbL u t).toArray 52)).alloc (.cells zPC 47) = W0 at *
    by_cases h1 : nb < 1
    · have i1 : (nb : Int) < 1 := by omega
      go_wp2_with (first | (refine wpList_buildv rfl _ rfl #[] (by simp [Act.eval]) (hbd0 _) ?_) | (refine wpList_store_row rfl _ _ rfl (w.heap.size + 1) rfl Z rfl hth9 hszZ honeZ hW9 ?_) | fail)
      refine bodyPost_ret (v := .tuple #[.agg Z.toArray, .int .i64 1]) (results_row2 rfl _ _ (w.heap.size + 1) rfl (.int .i64 1) rfl Z hr9 hundP rfl hszZ) rfl ?_
      exact hfin _ hB9
    · have i1 : ¬ (nb : Int) < 1 := by omega
      have i2 : (4 : Int) < (nb : Int) := by omega
      go_wp2_with (first | (refine wpList_buildv rfl _ rfl #[] (by simp [Act.eval]) (hbd0 _) ?_) | (refine wpList_store_row rfl _ _ rfl (w.heap.size + 1) rfl Z rfl hth9 hszZ honeZ hW9 ?_) | fail)
      refine bodyPost_ret (v := .tuple #[.agg Z.toArray, .int .i64 1]) (results_row2 rfl _ _ (w.heap.size + 1) rfl (.int .i64 1) rfl Z hr9 hundP rfl hszZ) rfl ?_
      exact hfin _ hB9
  rw [if_neg hbad]
  have i1 : ¬ (nb : Int) < 1 := by omega
  have i2 : ¬ (4 : Int) < (nb : Int) := by omega
  obtain ⟨E, hE⟩ : ∃ E, goE (namesP l) u t 4 bs = E := ⟨_, rfl⟩
  rw [hE]
  have hE0 : Aside (goE (namesP l) u t (modeK 0) (bs.drop 0) = E) := hE
  clear hE
  go_enter Tryz.func12, Tryz.ntmps12
  go_upto_region 1 with fail
  generalize (w.alloc (.cells (sbL u t).toArray 52)).alloc (.cells zPC 47) = W0 at *
  go_upto_region 4 with fail
  go_wp2_with fail
  go_loopw [8, 23] (fun t8 t23 wr => ∃ k : Nat, k ≤ nb ∧ t23 = .int .i64 (k : Int) ∧ t8 = .int .i64 (modeK k) ∧ Aside (goE (namesP l) u t (modeK k) (bs.drop k) = E) ∧ BlkL w.heap.size (sbL u t) wr ∧ BlkL (w.heap.size + 1) (prL nilS (stCs zeroC nilS)) wr ∧ Below w.heap.size w wr) (fun _ t23 _ => nb - (Go.RowKit.intOf t23).toNat)
  case atStart => exact ⟨0, by omega, rfl, rfl, hE0, hb, hr, hB⟩
  case round =>
    clear hb hr hB hE0
    obtain ⟨k, hk, rfl, rfl, hE, hb, hr, hB⟩ := hrel
    by_cases hlt : k < nb
    · obtain ⟨p, hp⟩ : ∃ p, bs[k]? = some p := ⟨_, List.getElem?_eq_getElem (by rw [hnb.out]; exact hlt)⟩
      have hpz := hps p (List.mem_of_getElem? hp)
      obtain ⟨y, rfl, hyc⟩ := (hRB.below scl_ok.len hB) k p hp
      have hy0 : wr.cell? (y.add k) = some (.string p) := by
        have := hyc 0 (by decide)
        rw [Nat.mul_one, Nat.add_zero] at this
        exact this
      have hE1 := hE.out
      rw [goE_at hp] at hE1
      have kq := kb wr p (modeK k) hpz (h.below hB) (hV.below hB)
      obtain ⟨M, hM⟩ : ∃ M, modeK k = M := ⟨_, rfl⟩
      rw [hM] at kq hE1 ⊢
      obtain ⟨E1, hE2⟩ : ∃ E1, bindE (namesP l) u t p M = E1 := ⟨_, rfl⟩
      rw [hE2] at kq hE1
      have hrs := hb.range
      clear hyc hM hE2 hE
      go_upto_region 7 with fail
      clear hy0
      go_wp2_with (first | (refine wpList_load_row rfl _ rfl w.heap.size rfl (sbL u t) hrs hundS rfl hss ?_) | fail)
      refine kq.mono ?_
      rintro e W1 ⟨rfl, hb1⟩
      have hb2 := stab_blk _ _ _ _ hb hb1
      have hr2 := stab_blk _ _ _ _ hr hb1
      have hB2 := Below.then hB hb1
      clear hb hr hB hb1 kq hrs
      by_cases h0 : E1 = 0
      · subst h0
        rw [if_neg (by decide)] at hE1
        replace hE1 : Aside _ := hE1
        go_wp2_with fail
        exact ⟨⟨k + 1, by omega, by simp, by rfl, hE1, hb2, hr2, hB2⟩, by simp [Go.RowKit.intOf]; omega⟩
      · rw [if_pos h0] at hE1
        subst hE1
        have hq : (E1 != 0) = true := by simpa using h0
        obtain ⟨W9, hW9, hth9, hr9, hk9⟩ := hZP _ hr2
        have hB9 := hk9 hB2
        obtain ⟨Z, hZ⟩ : ∃ Z, prL nilS (stCs zeroC nilS) = Z := ⟨_, rfl⟩
        have hfin : ∀ W, Below w.heap.size w W → MakeP bs E1 w (.returned (.tuple #[.agg Z.toArray, .int .i64 E1])) W := fun W q => ⟨q, fun _ => by rw [hZ], fun q => absurd q h0⟩
        rw [hZ] at hW9 hth9 hr9 hszZ honeZ hbd0
        clear hZ hZP hk9 hb2 hr2 hB2
        go_wp2_with (first | (refine wpList_buildv rfl _ rfl #[] (by simp [Act.eval]) (hbd0 _) ?_) | (refine wpList_store_row rfl _ _ rfl (w.heap.size + 1) rfl Z rfl hth9 hszZ honeZ hW9 ?_) | fail)
        refine bodyPost_ret (v := .tuple #[.agg Z.toArray, .int .i64 E1]) (results_row2 rfl _ _ (w.heap.size + 1) rfl (.int .i64 E1) rfl Z hr9 hundP rfl hszZ) rfl ?_
        exact hfin _ hB9
    · obtain rfl : k = nb := by omega
      have hE1 := hE.out
      rw [List.drop_eq_nil_of_le (by rw [hnb.out]; exact Nat.le_refl _), goE] at hE1
      subst hE1
      have kcw := kc wr (hRB.below scl_ok.len hB)
      clear hE hZP
      go_upto_region 12 with fail
      go_wp2_with fail
      refine kcw.mono ?_
      rintro e W1 ⟨rfl, ho1, hb1⟩
      go_wp2_with fail
      refine (kn W1).mono ?_
      rintro e W2 ⟨rfl, hb2⟩
      have ho2 := ho1.below hb2
      have hr2 := stab_blk _ _ _ _ (stab_blk _ _ _ _ hr hb1) hb2
      have hB2 := Below.then (Below.then hB hb1) hb2
      have hwr : w.heap.size + 1 < wr.heap.size := hr.2
      obtain ⟨Y, hY⟩ : ∃ Y, prL (.slice (some ⟨wr.heap.size, 0, none⟩) k k) (stCs newC nilS) = Y := ⟨_, rfl⟩
      have hYl : Y.length = 19 := by rw [← hY]; rfl
      have hbY := hbd (some ⟨wr.heap.size, 0, none⟩) k k W2
      have hYo : ∀ y ∈ Y, y.oneCell' = true := by
        rw [← hY]
        exact fun y hy => (List.mem_cons.1 hy).elim (fun q => by rw [q]; rfl) (fun q => st_one _ _ rfl y q)
      obtain ⟨W9, hW9, hth9, hk9, hb9⟩ := put_any hr2 (ds := Y) (by rw [hYl]; rfl) (by rw [hYl]; decide)
      have hszY : (Tryz.prog.info? 47).map (·.size) = some Y.length := by rw [hYl]; exact hszP
      have hr9 := hk9.range
      have hB9 := hb9 _ _ (by omega) hB2
      have ho9 : OwnR 9 1 scl W9 w.heap.size (.slice (some ⟨wr.heap.size, 0, none⟩) k k) bs := by rw [← hW9]; exact (ho2.setAll (fun q => by have := (ho2.lt q).1; omega) _).lower (by omega)
      have hfin : MakeP bs 0 w (.returned (.tuple #[.agg Y.toArray, .int .i64 0])) W9 := ⟨hB9, fun q => absurd rfl q, fun _ => ⟨_, by rw [← hY], ho9⟩⟩
      rw [hY] at hbY
      clear hY ho1 ho2 hb1 hb2 hr hr2 hB hB2 hb hk9 hb9 hB9 ho9 kcw
      go_wp2_with (first | (refine wpList_buildv rfl _ rfl #[(0, .slice (some ⟨wr.heap.size, 0, none⟩) k k), (1, .agg (stCs newC nilS).toArray)] (by simp [Act.eval]) hbY ?_) | (refine wpList_store_row rfl _ _ rfl (w.heap.size + 1) rfl Y rfl hth9 hszY hYo hW9 ?_) | fail)
      refine bodyPost_ret (v := .tuple #[.agg Y.toArray, .int .i64 0]) (results_row2 rfl _ _ (w.heap.size + 1) rfl (.int .i64 0) rfl Y hr9 hundP rfl hszY) rfl ?_
      exact hfin
end Go.Proofs.YtidihdiffiffmaaGreatDoor
namespace Go.Proofs.YtidihdiffiffmaaGreatDoor
open Go.RowKit
set_option maxRecDepth 8000
set_option linter.unusedSimpArgs false
set_option linter.unusedVariables false
def kpS : ByteArray := ⟨#[47, 108, 48, 47, 112, 48]⟩
def kaS : ByteArray := ⟨#[97]⟩
def kpL0 : List Nod := firstN [bottomL]
def kpL1 : List Nod := putD kpL0 0 [[]] [] []
def kpN0 : Nod := segX kpS bottomL 7 ⟨4, 4, 4, 0⟩ []
def kpN1 : Nod := { kpN0 with words := [0] }
def kpL2 : List Nod := putN kpL1 kpN1
theorem kp_L0 : kpL0 = [rootN, dirN 0 bottomL] := by kernel_rfl
theorem kp_find : findN kpL1 kpS = some kpN0 := by kernel_rfl
theorem kp_L2 : kpL2 = putN kpL0 kpN1 := by kernel_rfl
theorem kp_tree0 : Tree kpL0 := first_tree (fun t ht => by rw [List.mem_singleton] at ht; rw [ht]; exact bottom_GL) (by decide)
theorem kp_ok : nodC kpN1 = 0 := by decide +kernel
theorem kp_new : ∀ x ∈ kpL0, x.path ≠ kpN1.path := by decide +kernel
theorem kp_inv : InvP kpL2 := by
  rw [kp_L2]
  refine ⟨kp_tree0.put kp_ok (by decide +kernel) kp_new (d := dirN 0 bottomL) (by rw [kp_L0]; simp) (by decide +kernel) rfl (by decide +kernel) (fun _ => rfl), fun x hx w hw => ?_⟩
  rcases put_mem.1 hx with rfl | ⟨hx, _⟩
  · obtain rfl : w = 0 := by simpa [kpN1] using hw
    decide
  · rw [kp_L0] at hx
    simp at hx
    rcases hx with rfl | rfl
    · cases hw
    · cases hw
theorem kp_make : makeE kpL2 kaS bottomL [kpS] = 0 := by decide +kernel
def kpC : Cp := (stepC newC (segsP kpL2 kaS bottomL [kpS])).t
theorem kp_run : runP kaS bottomL [kpS] 5 kpL2 newC = ⟨kpL2, kpC, [], true, 0⟩ := by
  have h0 : (stepC newC (segsP kpL2 kaS bottomL [kpS])).e = 0 := by decide +kernel
  have h1 : (stepC newC (segsP kpL2 kaS bottomL [kpS])).t.hl = true := by decide +kernel
  have h2 : (stepC newC (segsP kpL2 kaS bottomL [kpS])).wr = none := by decide +kernel
  have h3 : (stepC newC (segsP kpL2 kaS bottomL [kpS])).told = false := by decide +kernel
  rw [runP, if_neg (by rw [h0]; decide), if_pos h1, h2]
  unfold toldO
  rw [h3]
  rfl
end Go.Proofs.YtidihdiffiffmaaGreatDoor
