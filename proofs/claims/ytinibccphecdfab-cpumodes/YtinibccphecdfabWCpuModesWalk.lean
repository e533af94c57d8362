/-
  CpuModes, walked. Written by mk_cpumodes.py.
-/
import Derived.Test.YtinibccphecdfabWCpuModesP
import Derived.Test.YtinibccphecdfabWBuild2
namespace Go.Proofs.Ytinibccphecdfab
open Go.RowKit
set_option maxRecDepth 8000
set_option linter.unusedSimpArgs false
set_option linter.unusedVariables false

theorem make3 (w : World) : (Instr.makeSlice 35 (.int .i64 3) (.int .i64 3)).run Try.prog w = .ok (.slice (some ⟨w.heap.size, 0, none⟩) 3 3) (w.alloc (.cells #[.int .i64 0, .int .i64 0, .int .i64 0] 2)) := by
  obtain ⟨i, h1, h2, h3, h4⟩ := info_of (e := 2) (z := .int .i64 0) (sz := 1) (b := 8) (by kernel_rfl)
  have h := run_make (P := Try.prog) w 35 2 i _ Try.underlying35 h1 h2 .i64 .i64 3 3 (by decide) (by decide) (by rw [h4]; decide) (by decide)
  rw [h3] at h
  rw [h, show madeCells (Value.int .i64 0).cells (Int.toNat 3 * 1) = #[.int .i64 0, .int .i64 0, .int .i64 0] by kernel_rfl]
  rfl
section
variable {ops : Array Oper} {o : Oper} {a : Act} {w : World} {Q : Exit → Act → World → Prop}
theorem step_make3 {K : Act → World → Prop} {E : Prop} (hg : o.guard = none) (ho : o.op = .makeSlice 35 (.const (.int .i64 3)) (.const (.int .i64 3))) (hK : K (a.put o.dst (.slice (some ⟨w.heap.size, 0, none⟩) 3 3)) (w.alloc (.cells #[.int .i64 0, .int .i64 0, .int .i64 0] 2))) :
    if Region.wanted o (yielded ops a.tmps) = true then Oper.wp Try.prog o a w K Q else E := by
  have hw : Region.wanted o (yielded ops a.tmps) = true := by simp [Region.wanted, hg]
  rw [if_pos hw]
  unfold Oper.wp execOp
  simp [ho, Act.eval, make3, Result.andThen]
  exact hK
end
/-- A step's answer, whatever it was: its error, and the state. -/
theorem StP.any {bm : Nat} {sl : Value} {n : Int} {O : Ot} {w w' : World} {e : Ending} (h : StP bm sl n O w e w') (L : Nat) (hL : L ≤ bm) (hs : L ≤ w.heap.size) : ∃ v', e = .returned (.tuple #[.agg (stCs O.t v').toArray, .int .i64 O.v, .bool O.told, .int .i64 O.e]) ∧ v'.oneCell' = true ∧ Below L w w' := by
  obtain ⟨v, rfl, ho, hw⟩ := h
  refine ⟨v, rfl, (SV.own ho).one, ?_⟩
  cases hr : O.wr with
  | none =>
    rw [hr] at hw
    exact Below.mono (show Below w.heap.size w w' from hw) hs
  | some p =>
    rw [hr] at hw
    have h2 := (show BlkL bm (memCs sl true p.1 p.2.1 p.2.2 (n + 1)) w' ∧ Sole bm w w' from hw).2
    exact ⟨h2.os, h2.tape, h2.output, h2.size, fun j hj => h2.block j (by omega) (by omega)⟩
set_option maxRecDepth 8000 in
set_option maxHeartbeats 8000000 in
theorem cpuModes1t (m0 r op md b1 rr : Int) (b : Rg) (hmd : m0 % 8 = md) (hrr : r % 8 = rr) (hbb : b.a % 8 = b1) (hk : op % 3 = 0) (hq : hasM md 1 = true) (w : World) :
    Calls Try.prog 7 #[.int .i64 m0, b.v, .int .i64 r, .int .i64 op] w fun e w' => e = .returned (.bool true) ∧ Below w.heap.size w w' := by
  have hundS := Try.underlying29
  have hszS : (Try.prog.info? 29).map (·.size) = some 18 := by kernel_rfl
  have hundG := Try.underlying39
  have hszG : (Try.prog.info? 39).map (·.size) = some 7 := by kernel_rfl
  have hundR := Try.underlying37
  have hszR : (Try.prog.info? 37).map (·.size) = some 4 := by kernel_rfl
  have hszP : (Try.prog.info? 25).map (·.size) = some 3 := by kernel_rfl
  have hmi : ∀ (v : Value) (w : World), (Instr.makeInterface 34 v).run Try.prog w = .ok (.iface 34 v) w := fun _ _ => rfl
  have hr0 : 0 ≤ rr := by omega
  have hr7 : rr ≤ 7 := by omega
  have hb0 : 0 ≤ b1 := by omega
  have hb7 : b1 ≤ 7 := by omega
  have k1 := fun W : World => w16_any m0 8 (by decide) (by decide) W
  have k2 := fun W : World => w16_any r 8 (by decide) (by decide) W
  have k3 := fun W : World => w16_any b.a 8 (by decide) (by decide) W
  have k4 := fun W : World => w16_any op 3 (by decide) (by decide) W
  simp only [hmd] at k1
  simp only [hrr] at k2
  simp only [hbb] at k3
  simp only [hk] at k4
  have hst : stepC (mC rr) [mG 1 rr, mD md b1] = okC { mC rr with off := 1 } := by rw [m_step1 md b1 hr0 hr7, if_pos hq]
  have fq0 : (bits .and .i64 md 1 != 0) = true := by unfold hasM at hq; simpa using hq
  clear hmd hrr hbb hk
  have hbx0 := blkl_alloc w (rg4 b).toArray 37
  have hBx0 := alloc_below w (.cells (rg4 b).toArray 37)
  replace hbx0 : BlkL w.heap.size (rg4 b) (w.alloc (.cells #[.int .i64 b.a, .int .i64 b.b, .int .i64 b.c, .int .i64 b.g] 37)) := hbx0
  replace hBx0 : Below w.heap.size w (w.alloc (.cells #[.int .i64 b.a, .int .i64 b.b, .int .i64 b.c, .int .i64 b.g] 37)) := hBx0
  go_enter Try.func7, Try.ntmps7
  go_upto_region 1 with fail
  generalize w.alloc (.cells #[.int .i64 b.a, .int .i64 b.b, .int .i64 b.c, .int .i64 b.g] 37) = U0 at *
  go_wp2_with fail
  refine (ck_any U0).mono ?_
  rintro e W1 ⟨rfl, hb1⟩
  have hbx1 := stab_blk _ _ _ _ hbx0 hb1
  have hB1 := Below.then hBx0 hb1
  clear hb1 hbx0 hBx0
  go_wp2_with fail
  refine (k1 W1).mono ?_
  rintro e W2 ⟨rfl, hw⟩
  rw [hw]
  clear hw W2
  go_wp2_with fail
  refine (k2 W1).mono ?_
  rintro e W2 ⟨rfl, hw⟩
  rw [hw]
  clear hw W2
  have y0 := (hbx1.1 0 _ rfl).1
  go_wp2_with fail
  refine (k3 W1).mono ?_
  rintro e W2 ⟨rfl, hw⟩
  rw [hw]
  clear hw W2 y0
  obtain ⟨U3, hU3, hthU, hbx3, hkU⟩ := put_any hbx1 (ds := rg4 ⟨b1, 7, 7, 0⟩) rfl (by show 0 < 4; decide)
  have hB3 := hkU _ _ (Nat.le_refl _) hB1
  go_upto_region 5 with (first | (refine wpList_store_row rfl _ _ rfl w.heap.size rfl (rg4 ⟨b1, 7, 7, 0⟩) rfl hthU hszR (rg4_one _) hU3 ?_) | fail)
  clear hU3 hthU hkU hbx1 hB1
  have hbA := alloc_below U3 (.cells #[.int .i64 1, .int .i64 2, .int .i64 20] 3)
  have hbx4 := stab_blk _ _ _ _ hbx3 hbA
  have hB4 := Below.then hB3 hbA
  go_wp2_with fail
  refine (k4 _).mono ?_
  rintro e W2 ⟨rfl, hw⟩
  rw [hw]
  clear hw W2
  go_upto_region 6 with fail
  clear hbA hbx3 hB3 k1 k2 k3 k4
  generalize U3.alloc (.cells #[.int .i64 1, .int .i64 2, .int .i64 20] 3) = W1 at *
  have hbi := alloc_below W1 (.cells (ins3 ⟨1, 1, 0⟩).toArray 42)
  have hri := row_list (f := ins3) (sz := 3) (fun _ => rfl) W1 [⟨1, 1, 0⟩] #[.int .i64 1, .int .i64 1, .int .i64 0] rfl 42
  have ko := cone_any [⟨1, 1, 0⟩] [] (some ⟨W1.heap.size, 0, none⟩) none 1 0 (by show 1 ≤ 100; decide) (by show 0 ≤ 100; decide) (fun _ => rfl) _ hri (fun j y h => by simp at h)
  have hbx5 := stab_blk _ _ _ _ hbx4 hbi
  have hB5 := Below.then hB4 hbi
  clear hri hbi hbx4 hB4
  go_wp2_with fail
  refine ko.mono ?_
  rintro e W4 ⟨x, hxg, rfl, hxo, hb4⟩
  have hbx6 := stab_blk _ _ _ _ hbx5 hb4
  have hB6 := Below.then hB5 hb4
  clear ko hb4 hbx5 hB5
  obtain ⟨W5, hW5, hth5, hg5, hb5⟩ := put_new W4 (sgCs zeroG nilS).toArray 39 x.cs (by rw [pg_len]; rfl) (by rw [pg_len]; decide)
  have hB7 := Below.then hB6 hb5
  have hbx7 := stab_blk _ _ _ _ hbx6 hb5
  have hxo5 := hxo.below hb5
  have hltb := hbx6.2
  go_upto_region 7 with (first | (refine wpList_store_row rfl _ _ rfl W4.heap.size rfl x.cs rfl hth5 hszG (pg_one _) hW5 ?_) | fail)
  have hxb : ∀ k, x.v.ownBlock = some k → k < W4.heap.size := fun k hk => (hxo.lt hk).2
  have hlt4 := hB6.size
  clear hW5 hth5 hxo hb5 hbx6 hB6
  generalize W4.heap.size = bg at *
  have hl5 : 3 + (rg4 ⟨rr, rr, rr, 0⟩).length ≤ x.cs.length := by rw [pg_len]; show 3 + 4 ≤ 7; decide
  have h6 := Blk.putM (rg4 ⟨rr, rr, rr, 0⟩) 3 hg5.1 hl5
  obtain ⟨x2, hx2⟩ : ∃ x2 : PG, PG.mk (mG 1 rr) x.wa x.wc = x2 := ⟨_, rfl⟩
  have hx2c : setM x.cs 3 (rg4 ⟨rr, rr, rr, 0⟩) = x2.cs := by
    rw [← hx2]
    unfold PG.cs PG.v
    rw [hxg]
    rfl
  rw [hx2c] at h6
  obtain ⟨W6, hW6⟩ : ∃ W6, W5.setCells bg 3 (rg4 ⟨rr, rr, rr, 0⟩) = W6 := ⟨_, rfl⟩
  have hth6 := hg5.1.thereM 3 (rg4 ⟨rr, rr, rr, 0⟩).length hl5
  rw [hW6] at h6
  have hg6 : BlkL bg x2.cs W6 := ⟨h6, h6.lt (List.getElem?_eq_getElem (by rw [pg_len]; decide : 0 < x2.cs.length))⟩
  have hB8 : Below w.heap.size w W6 := by rw [← hW6]; exact Below.cells hlt4 _ _ hB7
  have hbx8 : BlkL w.heap.size (rg4 ⟨b1, 7, 7, 0⟩) W6 := by
    rw [← hW6]
    exact ⟨hbx7.1.same (heap_setCells_other (by omega) _ _ _), Nat.lt_of_lt_of_le hbx7.2 (Below.cells (B := 0) (Nat.zero_le _) _ _ (Below.refl 0 W5)).size⟩
  have hxe : x2.v = x.v := by
    rw [← hx2]
    unfold PG.v
    rw [hxg]
    rfl
  have hxw : x2.g.ws = x.g.ws := by rw [← hx2, hxg]; rfl
  have hxo6 : OwnR 2 1 wcl W6 0 x2.v x2.g.ws := by
    rw [hxe, hxw, ← hW6]
    exact (hxo5.keep fun k hk => heap_setCells_other (by have := hxb k hk; omega) _ _ _).lower (Nat.zero_le _)
  have hx2g : x2.g = mG 1 rr := by rw [← hx2]
  clear h6 hg5 hxo5 hxb hB7 hbx7 hxe hxw hx2 hx2c hxg
  go_upto_region 8 with (first | (refine wpList_store_part rfl _ _ rfl bg 3 rfl (rg4 ⟨rr, rr, rr, 0⟩) rfl hth6 hszR (rg4_one _) hW6 ?_) | fail)
  clear hW6 hth6 hl5
  generalize hZ0 : W6 = Z at *
  clear hZ0
  have hb0' := hbx8
  have hS := (Below.refl Z.heap.size Z).drew
  have hB := Below.then hB8 hS
  refine wp_region_held_drew (S := (fun W => Below Z.heap.size Z W)) (by kernel_rfl) (by exact hS) ?_
  intro hHeld
  generalize Z.drew = w0 at *
  refine wpAnyH_take (i := 0) (v := ?_) (by simp only [gA, gB, gC]; rfl) (by kernel_rfl) (by kernel_rfl) (by kernel_rfl) (by exact fun _ _ _ h => h) (Or.inl ⟨by rfl, ?_⟩) (by assumption) ?_; rotate_left; (focus (intro w hSw; (try dsimp only at hSw); go_simp; try with_reducible rfl)); (try simp only [Act.put, sA, sB, sC])
  refine wpAnyH_take (i := 1) (v := _) (by simp only [gA, gB, gC]; rfl) (by kernel_rfl) (by kernel_rfl) (by kernel_rfl) (by exact fun _ _ _ h => h) (yields_row (by rfl) _ rfl w.heap.size rfl (rg4 ⟨b1, 7, 7, 0⟩) (fun _ q => (stab_blk _ _ _ _ hbx8 q).range) hundR rfl hszR) (by assumption) ?_; (try simp only [Act.put, sA, sB, sC])
  refine wpAnyH_ready (rs := [2, 4]) (by kernel_rfl) (by simp) ?_
  refine AllReadyH.cons (by simp only [gA, gB, gC]; rfl) (fun K hK => ?_) ?_
  · skip
    have hb := alloc_below w0 (.cells #[.int .i64 0, .int .i64 0, .int .i64 0] 2)
    have hrd := row_list (f := wcl) (sz := 1) (fun _ => rfl) w0 [0, 0, 0] #[.int .i64 0, .int .i64 0, .int .i64 0] rfl 2
    refine step_make3 rfl rfl ?_
    (try simp only [Act.put, sA, sB, sC])
    refine hK.out _ _ (Below.then hS hb) ?_
    clear hHeld hK
    intro hHeld
    replace hB := Below.then hB hb
    replace hS := Below.then hS hb
    clear hb
    generalize w0.alloc (.cells #[.int .i64 0, .int .i64 0, .int .i64 0] 2) = w1 at *
    generalize w0.heap.size = gd at *
    (try simp only [Act.put, sA, sB, sC])
    refine wpAnyH_take (i := 3) (v := ?_) (by simp only [gA, gB, gC]; rfl) (by kernel_rfl) (by kernel_rfl) (by kernel_rfl) (by exact fun _ _ _ h => h) (Or.inl ⟨by rfl, ?_⟩) (by assumption) ?_; rotate_left; (focus (intro w hSw; (try dsimp only at hSw); go_simp; try with_reducible rfl)); (try simp only [Act.put, sA, sB, sC])
    refine wpAnyH_ready (rs := [4]) (by kernel_rfl) (by simp) ?_
    refine AllReadyH.cons (by simp only [gA, gB, gC]; rfl) (fun K hK => ?_) AllReadyH.nil
    have hb : Below w1.heap.size w1 (w1.alloc (.cells #[.bool false, .slice none 0 0, .int .i64 0, .int .i64 0, .int .i64 0, .int .i64 0, .int .i64 0] 39)) := alloc_below w1 _
    have hz : BlkL w1.heap.size (sgCs zeroG nilS) (w1.alloc (.cells #[.bool false, .slice none 0 0, .int .i64 0, .int .i64 0, .int .i64 0, .int .i64 0, .int .i64 0] 39)) := blkl_alloc w1 #[.bool false, .slice none 0 0, .int .i64 0, .int .i64 0, .int .i64 0, .int .i64 0, .int .i64 0] 39
    have hgd : gd < w1.heap.size := by obtain ⟨y, hy, hc⟩ := hrd 0 0 rfl; obtain rfl := Option.some.inj hy; have h1 := hc 0 (by decide); rw [add_at] at h1; exact World.block_lt_of_cell? _ _ (h1.trans rfl)
    have hbd1 := hB.size
    have hbd2 := hS.size
    refine step_allocC (z := #[.bool false, .slice none 0 0, .int .i64 0, .int .i64 0, .int .i64 0, .int .i64 0, .int .i64 0]) rfl rfl (fun _ => rfl) ?_
    (try simp only [Act.put, sA, sB, sC])
    refine hK.out _ _ (Below.then hS hb) ?_
    clear hHeld hK
    intro hHeld
    replace hB := Below.then hB hb
    replace hS := Below.then hS hb
    replace hrd := hrd.below wd_okC.len hb
    clear hb
    generalize w1.alloc (.cells #[.bool false, .slice none 0 0, .int .i64 0, .int .i64 0, .int .i64 0, .int .i64 0, .int .i64 0] 39) = w2 at *
    generalize w1.heap.size = bd at *
    (try simp only [Act.put, sA, sB, sC])
    refine wpAnyH_ready (rs := [5]) (by kernel_rfl) (by simp) ?_
    refine AllReadyH.cons (by simp only [gA, gB, gC]; rfl) (fun K hK => ?_) AllReadyH.nil
    obtain ⟨xd, hxd⟩ : ∃ xd : PG, PG.mk (mD md b1) (some ⟨gd, 0, none⟩) 3 = xd := ⟨_, rfl⟩
    have hxdv : Aside (Value.agg #[.bool true, .slice (some ⟨gd, 0, none⟩) 3 3, .int .i64 md, .int .i64 b1, .int .i64 7, .int .i64 7, .int .i64 0] = .agg xd.cs.toArray) := by rw [← hxd]; exact rfl
    obtain ⟨W7, hW7, hth7, hd7, hk7⟩ := put_any hz (ds := xd.cs) (by rw [pg_len]; rfl) (by rw [pg_len]; decide)
    have hszd : (Try.prog.info? 39).map (·.size) = some xd.cs.length := by rw [pg_len]; exact hszG
    have hB7 := hk7 _ _ hbd1 hB
    have hS7 := hk7 _ _ hbd2 hS
    have hda : xd.At W7 := by rw [← hxd, ← hW7]; exact fun j u hu => by obtain ⟨y, hy, hc⟩ := hrd j u hu; refine ⟨y, hy, fun i hi => ?_⟩; obtain rfl := Option.some.inj hy; have h1 := hc i hi; rw [show (wcl u)[i]? = some (.int .i64 u) by obtain rfl : i = 0 := (by omega); rfl] at h1 ⊢; rw [add_at] at h1 ⊢; exact (World.cell?_of_block (a := ⟨gd, j * 1 + i, none⟩) (heap_setCells_other (show gd ≠ bd by omega) _ _ _)).trans h1
    have hdg : xd.g = mD md b1 := by rw [← hxd]
    have hdw : xd.wa ≠ none := by rw [← hxd]; intro q; cases q
    refine step_store_rowC rfl _ _ rfl bd rfl xd.cs hxdv.out hth7 hszd (pg_one _) hW7 ?_
    (try simp only [Act.put, sA, sB, sC])
    refine hK.out _ _ (hS7) ?_
    clear hHeld hK
    intro hHeld
    clear hW7 hth7 hk7 hz hB hS hrd hxd hxdv
    (try simp only [Act.put, sA, sB, sC])
    refine wpAnyH_done (by kernel_rfl) ?_ _
    have hgZ : BlkL bg x2.cs W7 := ⟨hg6.1.same (hS7.block bg hg6.2), Nat.lt_of_lt_of_le hg6.2 hS7.size⟩
    have hxoZ := hxo6.below hS7
    have hbZ : BlkL w.heap.size (rg4 ⟨b1, 7, 7, 0⟩) W7 := stab_blk _ _ _ _ hbx8 hS7
    clear hg6 hxo6 hbx8 hS7 hB8 hb0'
    go_upto_region 9 with fail
    go_wp2_with fail
    refine (cnew_any W7).mono ?_
    rintro e V1 ⟨rfl, hb1⟩
    obtain ⟨V2, hV2, hthV, hsV, hbV⟩ := new_stC V1 newC rfl nilS
    have hl1 := (Below.then hB7 hb1).size
    have y2 := hsV.ring
    have yf2 := (hsV.blk.1 2 _ rfl).2
    have hs2 : StAt V1.heap.size ⟨0, 0, rr, 0, [⟨0, 0, 4⟩, ⟨1, 0, 4⟩, ⟨2, 0, 4⟩, ⟨3, 0, 4⟩], [], false⟩ nilS (V2.setCell ⟨V1.heap.size, 2, none⟩ (.int .i64 rr)) := by
      have h1 := hsV.blk.1.set 2 (.int .i64 rr) (by show 2 < 18; decide)
      exact ⟨rfl, h1, h1.lt rfl⟩
    have hb2 : Below V1.heap.size V1 (V2.setCell ⟨V1.heap.size, 2, none⟩ (.int .i64 rr)) := hbV.setCell (p := ⟨V1.heap.size, 2, none⟩) (Nat.le_refl _) _
    obtain ⟨V3, hV3, hth3, hs3, hk3, -⟩ := hs2.putPtr (k := 1) (by decide) ⟨1, 0, 0⟩ (c' := mC rr) rfl rfl
    have hb3 : Below V1.heap.size V1 V3 := hk3 _ _ (Nat.le_refl _) hb2
    have hone8 : ∀ u ∈ stCs newC nilS, u.oneCell' = true := st_one _ _ rfl
    have hsz8 : (Try.prog.info? 29).map (·.size) = some (stCs newC nilS).length := by kernel_rfl
    obtain ⟨Y, hY⟩ : ∃ Y, stCs newC nilS = Y := ⟨_, rfl⟩
    rw [hY] at hV2 hthV hone8 hsz8
    have hYv : Aside (.agg (stCs newC nilS).toArray = Value.agg Y.toArray) := by rw [hY]; exact rfl
    have hg3 := stab_blk _ _ _ _ (stab_blk _ _ _ _ hgZ hb1) hb3
    have hd3 := stab_blk _ _ _ _ (stab_blk _ _ _ _ hd7 hb1) hb3
    have hbx3 := stab_blk _ _ _ _ (stab_blk _ _ _ _ hbZ hb1) hb3
    have hxo3 := (hxoZ.below hb1).below hb3
    have hda3 := (hda.below hb1).below hb3
    have hB3 := Below.then (Below.then hB7 hb1) hb3
    clear hY hsV hbV hs2 hb2 hk3 hgZ hd7 hbZ hxoZ hda hB7 hb1 hb3
    go_upto_region 11 with (first | (refine wpList_store_row rfl _ _ rfl V1.heap.size rfl Y hYv.out hthV hsz8 hone8 hV2 ?_) | fail)
    clear hV2 hthV hone8 hsz8 hYv y2 yf2
    go_upto_region 12 with (first | (refine wpList_store_part rfl _ _ rfl V1.heap.size 7 rfl (ptr3 ⟨1, 0, 0⟩) rfl hth3 hszP (ptr3J_one _) hV3 ?_) | fail)
    clear hV3 hth3
    generalize V1.heap.size = bs at *
    have hrg := hg3.range
    have hrd := hd3.range
    have hszx : (Try.prog.info? 39).map (·.size) = some x2.cs.length := by rw [pg_len]; exact hszG
    obtain ⟨hN4, hR4, hb4⟩ := mem_list V3 [x2, xd] (fun z hz => by
      rcases List.mem_cons.1 hz with rfl | hz
      · exact own_at hxo3
      · rw [List.mem_singleton.1 hz]; exact hda3) (x2.cs ++ xd.cs).toArray (by simp) 39 48 2 rfl
    have hMG : MG [x2, xd] := by
      obtain ⟨a1, c1, hv, -, hn, -⟩ := hxo3.slice wd_okC.len
      have hv' : Value.slice x2.wa x2.g.ws.length x2.wc = .slice a1 x2.g.ws.length c1 := hv
      injection hv' with e1 e2 e3
      refine ⟨by simp, fun z hz => ?_, fun z hz => ?_⟩
      · rcases List.mem_cons.1 hz with rfl | hz
        · rw [hx2g]; exact mG_ok 1 hr0 hr7
        · rw [List.mem_singleton.1 hz, hdg]; exact mD_ok md hb0 hb7
      · rcases List.mem_cons.1 hz with rfl | hz
        · rw [e1, e3]; exact hn
        · rw [List.mem_singleton.1 hz]; exact fun q => absurd q hdw
    have hM4 : MemO (V3.heap.size + 1) (some ⟨V3.heap.size, 0, none⟩) 2 [x2, xd] false 0 0 0 0 _ := ⟨hMG, ⟨by decide, by decide⟩, hN4, hR4⟩
    have hB4 := Below.then hB3 hb4
    have hs4 := hs3.keep hb4
    have hbx4 := stab_blk _ _ _ _ hbx3 hb4
    have hrs := hs4.blk.range
    have hrs3 := hs3.blk.range
    have ks := cstepV (mC rr) (mC_ok hr0 hr7) nilS hM4 (SV.nil _) (okC { mC rr with off := 1 }) (by rw [show [x2, xd].map (·.g) = [mG 1 rr, mD md b1] by simp [hx2g, hdg]]; exact hst)
    have hszC : (Try.prog.info? 29).map (·.size) = some (stCs (mC rr) nilS).length := hszS
    have hlv : w.heap.size ≤ V3.heap.size := hB3.size
    have hwlt : w.heap.size < V3.heap.size := hbx3.2
    have hb4s := hb4.size
    clear hM4 hMG hN4 hR4 hs3 hbx3 hB3 hg3 hd3 hxo3 hda3 hst hx2g hdg hdw hb4 hs4
    go_wp2_with (first | (refine wpList_load_row rfl _ rfl bs rfl (stCs (mC rr) nilS) hrs3 hundS rfl hszC ?_) | (refine wpList_load_row rfl _ rfl bg rfl x2.cs hrg hundG rfl hszx ?_) | (refine wpList_load_row rfl _ rfl bd rfl xd.cs hrd hundG rfl hszd ?_) | (refine wpList_build2 pg_okC (by decide) rfl _ _ rfl x2.cs xd.cs rfl rfl rfl rfl ?_) | fail)
    refine ks.mono ?_
    rintro e V5 hP
    obtain ⟨vA, he, hvA, hbA⟩ := hP.any V3.heap.size (Nat.le_succ _) hb4s
    replace he : e = .returned (.tuple #[.agg (stCs ({ mC rr with off := 1 }) vA).toArray, .int .i64 0, .bool false, .int .i64 0]) := he
    subst he
    have hBA := hB4.trans (hbA.mono hlv)
    have hbxA : BlkL w.heap.size (rg4 ⟨b1, 7, 7, 0⟩) V5 := ⟨hbx4.1.same (hbA.block _ hwlt), Nat.lt_of_lt_of_le hbx4.2 hbA.size⟩
    obtain ⟨V6, hV6, hth6, hs6, hb6⟩ := new_stC V5 ({ mC rr with off := 1 }) rfl vA
    have hB6 := Below.then hBA hb6
    have hbx6 := stab_blk _ _ _ _ hbxA hb6
    have hone6 := st_one ({ mC rr with off := 1 }) vA hvA
    have hl6 : (stCs ({ mC rr with off := 1 }) vA).length = 18 := st_len rfl
    have u0 := hs6.seg
    have u1 := hs6.off
    have u2 := hs6.ring
    have x0 := (hbx6.1 0 _ rfl).1
    obtain ⟨X, hX⟩ : ∃ X, stCs ({ mC rr with off := 1 }) vA = X := ⟨_, rfl⟩
    have hXv : Aside (.agg (stCs ({ mC rr with off := 1 }) vA).toArray = Value.agg X.toArray) := by rw [hX]; exact rfl
    rw [hX] at hV6 hth6 hone6 hl6
    have hszX : (Try.prog.info? 29).map (·.size) = some X.length := by rw [hl6]; exact hszS
    clear ks hP hbA hBA hbxA hbx4 hB4 hs6 hb6 hX hl6 hbx6 hvA hrs hrs3
    go_wp2_with (first | (refine wpList_store_row rfl _ _ rfl V5.heap.size rfl X hXv.out hth6 hszX hone6 hV6 ?_) | fail)
    go_ret
    exact ⟨rfl, hB6⟩
  refine AllReadyH.cons (by simp only [gA, gB, gC]; rfl) (fun K hK => ?_) AllReadyH.nil
  have hb : Below w0.heap.size w0 (w0.alloc (.cells #[.bool false, .slice none 0 0, .int .i64 0, .int .i64 0, .int .i64 0, .int .i64 0, .int .i64 0] 39)) := alloc_below w0 _
  have hz : BlkL w0.heap.size (sgCs zeroG nilS) (w0.alloc (.cells #[.bool false, .slice none 0 0, .int .i64 0, .int .i64 0, .int .i64 0, .int .i64 0, .int .i64 0] 39)) := blkl_alloc w0 #[.bool false, .slice none 0 0, .int .i64 0, .int .i64 0, .int .i64 0, .int .i64 0, .int .i64 0] 39
  have hbd1 := hB.size
  have hbd2 := hS.size
  refine step_allocC (z := #[.bool false, .slice none 0 0, .int .i64 0, .int .i64 0, .int .i64 0, .int .i64 0, .int .i64 0]) rfl rfl (fun _ => rfl) ?_
  (try simp only [Act.put, sA, sB, sC])
  refine hK.out _ _ (Below.then hS hb) ?_
  clear hHeld hK
  intro hHeld
  replace hB := Below.then hB hb
  replace hS := Below.then hS hb
  clear hb
  generalize w0.alloc (.cells #[.bool false, .slice none 0 0, .int .i64 0, .int .i64 0, .int .i64 0, .int .i64 0, .int .i64 0] 39) = w1 at *
  generalize w0.heap.size = bd at *
  (try simp only [Act.put, sA, sB, sC])
  refine wpAnyH_ready (rs := [2]) (by kernel_rfl) (by simp) ?_
  refine AllReadyH.cons (by simp only [gA, gB, gC]; rfl) (fun K hK => ?_) AllReadyH.nil
  have hb := alloc_below w1 (.cells #[.int .i64 0, .int .i64 0, .int .i64 0] 2)
  have hrd := row_list (f := wcl) (sz := 1) (fun _ => rfl) w1 [0, 0, 0] #[.int .i64 0, .int .i64 0, .int .i64 0] rfl 2
  have hgd : bd < w1.heap.size := hz.2
  refine step_make3 rfl rfl ?_
  (try simp only [Act.put, sA, sB, sC])
  refine hK.out _ _ (Below.then hS hb) ?_
  clear hHeld hK
  intro hHeld
  replace hB := Below.then hB hb
  replace hS := Below.then hS hb
  replace hz := stab_blk _ _ _ _ hz hb
  clear hb
  generalize w1.alloc (.cells #[.int .i64 0, .int .i64 0, .int .i64 0] 2) = w2 at *
  generalize w1.heap.size = gd at *
  (try simp only [Act.put, sA, sB, sC])
  refine wpAnyH_take (i := 3) (v := ?_) (by simp only [gA, gB, gC]; rfl) (by kernel_rfl) (by kernel_rfl) (by kernel_rfl) (by exact fun _ _ _ h => h) (Or.inl ⟨by rfl, ?_⟩) (by assumption) ?_; rotate_left; (focus (intro w hSw; (try dsimp only at hSw); go_simp; try with_reducible rfl)); (try simp only [Act.put, sA, sB, sC])
  refine wpAnyH_ready (rs := [5]) (by kernel_rfl) (by simp) ?_
  refine AllReadyH.cons (by simp only [gA, gB, gC]; rfl) (fun K hK => ?_) AllReadyH.nil
  obtain ⟨xd, hxd⟩ : ∃ xd : PG, PG.mk (mD md b1) (some ⟨gd, 0, none⟩) 3 = xd := ⟨_, rfl⟩
  have hxdv : Aside (Value.agg #[.bool true, .slice (some ⟨gd, 0, none⟩) 3 3, .int .i64 md, .int .i64 b1, .int .i64 7, .int .i64 7, .int .i64 0] = .agg xd.cs.toArray) := by rw [← hxd]; exact rfl
  obtain ⟨W7, hW7, hth7, hd7, hk7⟩ := put_any hz (ds := xd.cs) (by rw [pg_len]; rfl) (by rw [pg_len]; decide)
  have hszd : (Try.prog.info? 39).map (·.size) = some xd.cs.length := by rw [pg_len]; exact hszG
  have hB7 := hk7 _ _ hbd1 hB
  have hS7 := hk7 _ _ hbd2 hS
  have hda : xd.At W7 := by rw [← hxd, ← hW7]; exact fun j u hu => by obtain ⟨y, hy, hc⟩ := hrd j u hu; refine ⟨y, hy, fun i hi => ?_⟩; obtain rfl := Option.some.inj hy; have h1 := hc i hi; rw [show (wcl u)[i]? = some (.int .i64 u) by obtain rfl : i = 0 := (by omega); rfl] at h1 ⊢; rw [add_at] at h1 ⊢; exact (World.cell?_of_block (a := ⟨gd, j * 1 + i, none⟩) (heap_setCells_other (show gd ≠ bd by omega) _ _ _)).trans h1
  have hdg : xd.g = mD md b1 := by rw [← hxd]
  have hdw : xd.wa ≠ none := by rw [← hxd]; intro q; cases q
  refine step_store_rowC rfl _ _ rfl bd rfl xd.cs hxdv.out hth7 hszd (pg_one _) hW7 ?_
  (try simp only [Act.put, sA, sB, sC])
  refine hK.out _ _ (hS7) ?_
  clear hHeld hK
  intro hHeld
  clear hW7 hth7 hk7 hz hB hS hrd hxd hxdv
  (try simp only [Act.put, sA, sB, sC])
  refine wpAnyH_done (by kernel_rfl) ?_ _
  have hgZ : BlkL bg x2.cs W7 := ⟨hg6.1.same (hS7.block bg hg6.2), Nat.lt_of_lt_of_le hg6.2 hS7.size⟩
  have hxoZ := hxo6.below hS7
  have hbZ : BlkL w.heap.size (rg4 ⟨b1, 7, 7, 0⟩) W7 := stab_blk _ _ _ _ hbx8 hS7
  clear hg6 hxo6 hbx8 hS7 hB8 hb0'
  go_upto_region 9 with fail
  go_wp2_with fail
  refine (cnew_any W7).mono ?_
  rintro e V1 ⟨rfl, hb1⟩
  obtain ⟨V2, hV2, hthV, hsV, hbV⟩ := new_stC V1 newC rfl nilS
  have hl1 := (Below.then hB7 hb1).size
  have y2 := hsV.ring
  have yf2 := (hsV.blk.1 2 _ rfl).2
  have hs2 : StAt V1.heap.size ⟨0, 0, rr, 0, [⟨0, 0, 4⟩, ⟨1, 0, 4⟩, ⟨2, 0, 4⟩, ⟨3, 0, 4⟩], [], false⟩ nilS (V2.setCell ⟨V1.heap.size, 2, none⟩ (.int .i64 rr)) := by
    have h1 := hsV.blk.1.set 2 (.int .i64 rr) (by show 2 < 18; decide)
    exact ⟨rfl, h1, h1.lt rfl⟩
  have hb2 : Below V1.heap.size V1 (V2.setCell ⟨V1.heap.size, 2, none⟩ (.int .i64 rr)) := hbV.setCell (p := ⟨V1.heap.size, 2, none⟩) (Nat.le_refl _) _
  obtain ⟨V3, hV3, hth3, hs3, hk3, -⟩ := hs2.putPtr (k := 1) (by decide) ⟨1, 0, 0⟩ (c' := mC rr) rfl rfl
  have hb3 : Below V1.heap.size V1 V3 := hk3 _ _ (Nat.le_refl _) hb2
  have hone8 : ∀ u ∈ stCs newC nilS, u.oneCell' = true := st_one _ _ rfl
  have hsz8 : (Try.prog.info? 29).map (·.size) = some (stCs newC nilS).length := by kernel_rfl
  obtain ⟨Y, hY⟩ : ∃ Y, stCs newC nilS = Y := ⟨_, rfl⟩
  rw [hY] at hV2 hthV hone8 hsz8
  have hYv : Aside (.agg (stCs newC nilS).toArray = Value.agg Y.toArray) := by rw [hY]; exact rfl
  have hg3 := stab_blk _ _ _ _ (stab_blk _ _ _ _ hgZ hb1) hb3
  have hd3 := stab_blk _ _ _ _ (stab_blk _ _ _ _ hd7 hb1) hb3
  have hbx3 := stab_blk _ _ _ _ (stab_blk _ _ _ _ hbZ hb1) hb3
  have hxo3 := (hxoZ.below hb1).below hb3
  have hda3 := (hda.below hb1).below hb3
  have hB3 := Below.then (Below.then hB7 hb1) hb3
  clear hY hsV hbV hs2 hb2 hk3 hgZ hd7 hbZ hxoZ hda hB7 hb1 hb3
  go_upto_region 11 with (first | (refine wpList_store_row rfl _ _ rfl V1.heap.size rfl Y hYv.out hthV hsz8 hone8 hV2 ?_) | fail)
  clear hV2 hthV hone8 hsz8 hYv y2 yf2
  go_upto_region 12 with (first | (refine wpList_store_part rfl _ _ rfl V1.heap.size 7 rfl (ptr3 ⟨1, 0, 0⟩) rfl hth3 hszP (ptr3J_one _) hV3 ?_) | fail)
  clear hV3 hth3
  generalize V1.heap.size = bs at *
  have hrg := hg3.range
  have hrd := hd3.range
  have hszx : (Try.prog.info? 39).map (·.size) = some x2.cs.length := by rw [pg_len]; exact hszG
  obtain ⟨hN4, hR4, hb4⟩ := mem_list V3 [x2, xd] (fun z hz => by
    rcases List.mem_cons.1 hz with rfl | hz
    · exact own_at hxo3
    · rw [List.mem_singleton.1 hz]; exact hda3) (x2.cs ++ xd.cs).toArray (by simp) 39 48 2 rfl
  have hMG : MG [x2, xd] := by
    obtain ⟨a1, c1, hv, -, hn, -⟩ := hxo3.slice wd_okC.len
    have hv' : Value.slice x2.wa x2.g.ws.length x2.wc = .slice a1 x2.g.ws.length c1 := hv
    injection hv' with e1 e2 e3
    refine ⟨by simp, fun z hz => ?_, fun z hz => ?_⟩
    · rcases List.mem_cons.1 hz with rfl | hz
      · rw [hx2g]; exact mG_ok 1 hr0 hr7
      · rw [List.mem_singleton.1 hz, hdg]; exact mD_ok md hb0 hb7
    · rcases List.mem_cons.1 hz with rfl | hz
      · rw [e1, e3]; exact hn
      · rw [List.mem_singleton.1 hz]; exact fun q => absurd q hdw
  have hM4 : MemO (V3.heap.size + 1) (some ⟨V3.heap.size, 0, none⟩) 2 [x2, xd] false 0 0 0 0 _ := ⟨hMG, ⟨by decide, by decide⟩, hN4, hR4⟩
  have hB4 := Below.then hB3 hb4
  have hs4 := hs3.keep hb4
  have hbx4 := stab_blk _ _ _ _ hbx3 hb4
  have hrs := hs4.blk.range
  have hrs3 := hs3.blk.range
  have ks := cstepV (mC rr) (mC_ok hr0 hr7) nilS hM4 (SV.nil _) (okC { mC rr with off := 1 }) (by rw [show [x2, xd].map (·.g) = [mG 1 rr, mD md b1] by simp [hx2g, hdg]]; exact hst)
  have hszC : (Try.prog.info? 29).map (·.size) = some (stCs (mC rr) nilS).length := hszS
  have hlv : w.heap.size ≤ V3.heap.size := hB3.size
  have hwlt : w.heap.size < V3.heap.size := hbx3.2
  have hb4s := hb4.size
  clear hM4 hMG hN4 hR4 hs3 hbx3 hB3 hg3 hd3 hxo3 hda3 hst hx2g hdg hdw hb4 hs4
  go_wp2_with (first | (refine wpList_load_row rfl _ rfl bs rfl (stCs (mC rr) nilS) hrs3 hundS rfl hszC ?_) | (refine wpList_load_row rfl _ rfl bg rfl x2.cs hrg hundG rfl hszx ?_) | (refine wpList_load_row rfl _ rfl bd rfl xd.cs hrd hundG rfl hszd ?_) | (refine wpList_build2 pg_okC (by decide) rfl _ _ rfl x2.cs xd.cs rfl rfl rfl rfl ?_) | fail)
  refine ks.mono ?_
  rintro e V5 hP
  obtain ⟨vA, he, hvA, hbA⟩ := hP.any V3.heap.size (Nat.le_succ _) hb4s
  replace he : e = .returned (.tuple #[.agg (stCs ({ mC rr with off := 1 }) vA).toArray, .int .i64 0, .bool false, .int .i64 0]) := he
  subst he
  have hBA := hB4.trans (hbA.mono hlv)
  have hbxA : BlkL w.heap.size (rg4 ⟨b1, 7, 7, 0⟩) V5 := ⟨hbx4.1.same (hbA.block _ hwlt), Nat.lt_of_lt_of_le hbx4.2 hbA.size⟩
  obtain ⟨V6, hV6, hth6, hs6, hb6⟩ := new_stC V5 ({ mC rr with off := 1 }) rfl vA
  have hB6 := Below.then hBA hb6
  have hbx6 := stab_blk _ _ _ _ hbxA hb6
  have hone6 := st_one ({ mC rr with off := 1 }) vA hvA
  have hl6 : (stCs ({ mC rr with off := 1 }) vA).length = 18 := st_len rfl
  have u0 := hs6.seg
  have u1 := hs6.off
  have u2 := hs6.ring
  have x0 := (hbx6.1 0 _ rfl).1
  obtain ⟨X, hX⟩ : ∃ X, stCs ({ mC rr with off := 1 }) vA = X := ⟨_, rfl⟩
  have hXv : Aside (.agg (stCs ({ mC rr with off := 1 }) vA).toArray = Value.agg X.toArray) := by rw [hX]; exact rfl
  rw [hX] at hV6 hth6 hone6 hl6
  have hszX : (Try.prog.info? 29).map (·.size) = some X.length := by rw [hl6]; exact hszS
  clear ks hP hbA hBA hbxA hbx4 hB4 hs6 hb6 hX hl6 hbx6 hvA hrs hrs3
  go_wp2_with (first | (refine wpList_store_row rfl _ _ rfl V5.heap.size rfl X hXv.out hth6 hszX hone6 hV6 ?_) | fail)
  go_ret
  exact ⟨rfl, hB6⟩
set_option maxRecDepth 8000 in
set_option maxHeartbeats 8000000 in
theorem cpuModes1f (m0 r op md b1 rr : Int) (b : Rg) (hmd : m0 % 8 = md) (hrr : r % 8 = rr) (hbb : b.a % 8 = b1) (hk : op % 3 = 0) (hq : hasM md 1 = false) (w : World) :
    Calls Try.prog 7 #[.int .i64 m0, b.v, .int .i64 r, .int .i64 op] w fun e w' => e = .returned (.bool true) ∧ Below w.heap.size w w' := by
  have hundS := Try.underlying29
  have hszS : (Try.prog.info? 29).map (·.size) = some 18 := by kernel_rfl
  have hundG := Try.underlying39
  have hszG : (Try.prog.info? 39).map (·.size) = some 7 := by kernel_rfl
  have hundR := Try.underlying37
  have hszR : (Try.prog.info? 37).map (·.size) = some 4 := by kernel_rfl
  have hszP : (Try.prog.info? 25).map (·.size) = some 3 := by kernel_rfl
  have hmi : ∀ (v : Value) (w : World), (Instr.makeInterface 34 v).run Try.prog w = .ok (.iface 34 v) w := fun _ _ => rfl
  have hr0 : 0 ≤ rr := by omega
  have hr7 : rr ≤ 7 := by omega
  have hb0 : 0 ≤ b1 := by omega
  have hb7 : b1 ≤ 7 := by omega
  have k1 := fun W : World => w16_any m0 8 (by decide) (by decide) W
  have k2 := fun W : World => w16_any r 8 (by decide) (by decide) W
  have k3 := fun W : World => w16_any b.a 8 (by decide) (by decide) W
  have k4 := fun W : World => w16_any op 3 (by decide) (by decide) W
  simp only [hmd] at k1
  simp only [hrr] at k2
  simp only [hbb] at k3
  simp only [hk] at k4
  have hst : stepC (mC rr) [mG 1 rr, mD md b1] = flt 31 := by rw [m_step1 md b1 hr0 hr7, if_neg (by rw [hq]; decide)]
  have fq0 : (bits .and .i64 md 1 != 0) = false := by unfold hasM at hq; simpa using hq
  clear hmd hrr hbb hk
  have hbx0 := blkl_alloc w (rg4 b).toArray 37
  have hBx0 := alloc_below w (.cells (rg4 b).toArray 37)
  replace hbx0 : BlkL w.heap.size (rg4 b) (w.alloc (.cells #[.int .i64 b.a, .int .i64 b.b, .int .i64 b.c, .int .i64 b.g] 37)) := hbx0
  replace hBx0 : Below w.heap.size w (w.alloc (.cells #[.int .i64 b.a, .int .i64 b.b, .int .i64 b.c, .int .i64 b.g] 37)) := hBx0
  go_enter Try.func7, Try.ntmps7
  go_upto_region 1 with fail
  generalize w.alloc (.cells #[.int .i64 b.a, .int .i64 b.b, .int .i64 b.c, .int .i64 b.g] 37) = U0 at *
  go_wp2_with fail
  refine (ck_any U0).mono ?_
  rintro e W1 ⟨rfl, hb1⟩
  have hbx1 := stab_blk _ _ _ _ hbx0 hb1
  have hB1 := Below.then hBx0 hb1
  clear hb1 hbx0 hBx0
  go_wp2_with fail
  refine (k1 W1).mono ?_
  rintro e W2 ⟨rfl, hw⟩
  rw [hw]
  clear hw W2
  go_wp2_with fail
  refine (k2 W1).mono ?_
  rintro e W2 ⟨rfl, hw⟩
  rw [hw]
  clear hw W2
  have y0 := (hbx1.1 0 _ rfl).1
  go_wp2_with fail
  refine (k3 W1).mono ?_
  rintro e W2 ⟨rfl, hw⟩
  rw [hw]
  clear hw W2 y0
  obtain ⟨U3, hU3, hthU, hbx3, hkU⟩ := put_any hbx1 (ds := rg4 ⟨b1, 7, 7, 0⟩) rfl (by show 0 < 4; decide)
  have hB3 := hkU _ _ (Nat.le_refl _) hB1
  go_upto_region 5 with (first | (refine wpList_store_row rfl _ _ rfl w.heap.size rfl (rg4 ⟨b1, 7, 7, 0⟩) rfl hthU hszR (rg4_one _) hU3 ?_) | fail)
  clear hU3 hthU hkU hbx1 hB1
  have hbA := alloc_below U3 (.cells #[.int .i64 1, .int .i64 2, .int .i64 20] 3)
  have hbx4 := stab_blk _ _ _ _ hbx3 hbA
  have hB4 := Below.then hB3 hbA
  go_wp2_with fail
  refine (k4 _).mono ?_
  rintro e W2 ⟨rfl, hw⟩
  rw [hw]
  clear hw W2
  go_upto_region 6 with fail
  clear hbA hbx3 hB3 k1 k2 k3 k4
  generalize U3.alloc (.cells #[.int .i64 1, .int .i64 2, .int .i64 20] 3) = W1 at *
  have hbi := alloc_below W1 (.cells (ins3 ⟨1, 1, 0⟩).toArray 42)
  have hri := row_list (f := ins3) (sz := 3) (fun _ => rfl) W1 [⟨1, 1, 0⟩] #[.int .i64 1, .int .i64 1, .int .i64 0] rfl 42
  have ko := cone_any [⟨1, 1, 0⟩] [] (some ⟨W1.heap.size, 0, none⟩) none 1 0 (by show 1 ≤ 100; decide) (by show 0 ≤ 100; decide) (fun _ => rfl) _ hri (fun j y h => by simp at h)
  have hbx5 := stab_blk _ _ _ _ hbx4 hbi
  have hB5 := Below.then hB4 hbi
  clear hri hbi hbx4 hB4
  go_wp2_with fail
  refine ko.mono ?_
  rintro e W4 ⟨x, hxg, rfl, hxo, hb4⟩
  have hbx6 := stab_blk _ _ _ _ hbx5 hb4
  have hB6 := Below.then hB5 hb4
  clear ko hb4 hbx5 hB5
  obtain ⟨W5, hW5, hth5, hg5, hb5⟩ := put_new W4 (sgCs zeroG nilS).toArray 39 x.cs (by rw [pg_len]; rfl) (by rw [pg_len]; decide)
  have hB7 := Below.then hB6 hb5
  have hbx7 := stab_blk _ _ _ _ hbx6 hb5
  have hxo5 := hxo.below hb5
  have hltb := hbx6.2
  go_upto_region 7 with (first | (refine wpList_store_row rfl _ _ rfl W4.heap.size rfl x.cs rfl hth5 hszG (pg_one _) hW5 ?_) | fail)
  have hxb : ∀ k, x.v.ownBlock = some k → k < W4.heap.size := fun k hk => (hxo.lt hk).2
  have hlt4 := hB6.size
  clear hW5 hth5 hxo hb5 hbx6 hB6
  generalize W4.heap.size = bg at *
  have hl5 : 3 + (rg4 ⟨rr, rr, rr, 0⟩).length ≤ x.cs.length := by rw [pg_len]; show 3 + 4 ≤ 7; decide
  have h6 := Blk.putM (rg4 ⟨rr, rr, rr, 0⟩) 3 hg5.1 hl5
  obtain ⟨x2, hx2⟩ : ∃ x2 : PG, PG.mk (mG 1 rr) x.wa x.wc = x2 := ⟨_, rfl⟩
  have hx2c : setM x.cs 3 (rg4 ⟨rr, rr, rr, 0⟩) = x2.cs := by
    rw [← hx2]
    unfold PG.cs PG.v
    rw [hxg]
    rfl
  rw [hx2c] at h6
  obtain ⟨W6, hW6⟩ : ∃ W6, W5.setCells bg 3 (rg4 ⟨rr, rr, rr, 0⟩) = W6 := ⟨_, rfl⟩
  have hth6 := hg5.1.thereM 3 (rg4 ⟨rr, rr, rr, 0⟩).length hl5
  rw [hW6] at h6
  have hg6 : BlkL bg x2.cs W6 := ⟨h6, h6.lt (List.getElem?_eq_getElem (by rw [pg_len]; decide : 0 < x2.cs.length))⟩
  have hB8 : Below w.heap.size w W6 := by rw [← hW6]; exact Below.cells hlt4 _ _ hB7
  have hbx8 : BlkL w.heap.size (rg4 ⟨b1, 7, 7, 0⟩) W6 := by
    rw [← hW6]
    exact ⟨hbx7.1.same (heap_setCells_other (by omega) _ _ _), Nat.lt_of_lt_of_le hbx7.2 (Below.cells (B := 0) (Nat.zero_le _) _ _ (Below.refl 0 W5)).size⟩
  have hxe : x2.v = x.v := by
    rw [← hx2]
    unfold PG.v
    rw [hxg]
    rfl
  have hxw : x2.g.ws = x.g.ws := by rw [← hx2, hxg]; rfl
  have hxo6 : OwnR 2 1 wcl W6 0 x2.v x2.g.ws := by
    rw [hxe, hxw, ← hW6]
    exact (hxo5.keep fun k hk => heap_setCells_other (by have := hxb k hk; omega) _ _ _).lower (Nat.zero_le _)
  have hx2g : x2.g = mG 1 rr := by rw [← hx2]
  clear h6 hg5 hxo5 hxb hB7 hbx7 hxe hxw hx2 hx2c hxg
  go_upto_region 8 with (first | (refine wpList_store_part rfl _ _ rfl bg 3 rfl (rg4 ⟨rr, rr, rr, 0⟩) rfl hth6 hszR (rg4_one _) hW6 ?_) | fail)
  clear hW6 hth6 hl5
  generalize hZ0 : W6 = Z at *
  clear hZ0
  have hb0' := hbx8
  have hS := (Below.refl Z.heap.size Z).drew
  have hB := Below.then hB8 hS
  refine wp_region_held_drew (S := (fun W => Below Z.heap.size Z W)) (by kernel_rfl) (by exact hS) ?_
  intro hHeld
  generalize Z.drew = w0 at *
  refine wpAnyH_take (i := 0) (v := ?_) (by simp only [gA, gB, gC]; rfl) (by kernel_rfl) (by kernel_rfl) (by kernel_rfl) (by exact fun _ _ _ h => h) (Or.inl ⟨by rfl, ?_⟩) (by assumption) ?_; rotate_left; (focus (intro w hSw; (try dsimp only at hSw); go_simp; try with_reducible rfl)); (try simp only [Act.put, sA, sB, sC])
  refine wpAnyH_take (i := 1) (v := _) (by simp only [gA, gB, gC]; rfl) (by kernel_rfl) (by kernel_rfl) (by kernel_rfl) (by exact fun _ _ _ h => h) (yields_row (by rfl) _ rfl w.heap.size rfl (rg4 ⟨b1, 7, 7, 0⟩) (fun _ q => (stab_blk _ _ _ _ hbx8 q).range) hundR rfl hszR) (by assumption) ?_; (try simp only [Act.put, sA, sB, sC])
  refine wpAnyH_ready (rs := [2, 4]) (by kernel_rfl) (by simp) ?_
  refine AllReadyH.cons (by simp only [gA, gB, gC]; rfl) (fun K hK => ?_) ?_
  · skip
    have hb := alloc_below w0 (.cells #[.int .i64 0, .int .i64 0, .int .i64 0] 2)
    have hrd := row_list (f := wcl) (sz := 1) (fun _ => rfl) w0 [0, 0, 0] #[.int .i64 0, .int .i64 0, .int .i64 0] rfl 2
    refine step_make3 rfl rfl ?_
    (try simp only [Act.put, sA, sB, sC])
    refine hK.out _ _ (Below.then hS hb) ?_
    clear hHeld hK
    intro hHeld
    replace hB := Below.then hB hb
    replace hS := Below.then hS hb
    clear hb
    generalize w0.alloc (.cells #[.int .i64 0, .int .i64 0, .int .i64 0] 2) = w1 at *
    generalize w0.heap.size = gd at *
    (try simp only [Act.put, sA, sB, sC])
    refine wpAnyH_take (i := 3) (v := ?_) (by simp only [gA, gB, gC]; rfl) (by kernel_rfl) (by kernel_rfl) (by kernel_rfl) (by exact fun _ _ _ h => h) (Or.inl ⟨by rfl, ?_⟩) (by assumption) ?_; rotate_left; (focus (intro w hSw; (try dsimp only at hSw); go_simp; try with_reducible rfl)); (try simp only [Act.put, sA, sB, sC])
    refine wpAnyH_ready (rs := [4]) (by kernel_rfl) (by simp) ?_
    refine AllReadyH.cons (by simp only [gA, gB, gC]; rfl) (fun K hK => ?_) AllReadyH.nil
    have hb : Below w1.heap.size w1 (w1.alloc (.cells #[.bool false, .slice none 0 0, .int .i64 0, .int .i64 0, .int .i64 0, .int .i64 0, .int .i64 0] 39)) := alloc_below w1 _
    have hz : BlkL w1.heap.size (sgCs zeroG nilS) (w1.alloc (.cells #[.bool false, .slice none 0 0, .int .i64 0, .int .i64 0, .int .i64 0, .int .i64 0, .int .i64 0] 39)) := blkl_alloc w1 #[.bool false, .slice none 0 0, .int .i64 0, .int .i64 0, .int .i64 0, .int .i64 0, .int .i64 0] 39
    have hgd : gd < w1.heap.size := by obtain ⟨y, hy, hc⟩ := hrd 0 0 rfl; obtain rfl := Option.some.inj hy; have h1 := hc 0 (by decide); rw [add_at] at h1; exact World.block_lt_of_cell? _ _ (h1.trans rfl)
    have hbd1 := hB.size
    have hbd2 := hS.size
    refine step_allocC (z := #[.bool false, .slice none 0 0, .int .i64 0, .int .i64 0, .int .i64 0, .int .i64 0, .int .i64 0]) rfl rfl (fun _ => rfl) ?_
    (try simp only [Act.put, sA, sB, sC])
    refine hK.out _ _ (Below.then hS hb) ?_
    clear hHeld hK
    intro hHeld
    replace hB := Below.then hB hb
    replace hS := Below.then hS hb
    replace hrd := hrd.below wd_okC.len hb
    clear hb
    generalize w1.alloc (.cells #[.bool false, .slice none 0 0, .int .i64 0, .int .i64 0, .int .i64 0, .int .i64 0, .int .i64 0] 39) = w2 at *
    generalize w1.heap.size = bd at *
    (try simp only [Act.put, sA, sB, sC])
    refine wpAnyH_ready (rs := [5]) (by kernel_rfl) (by simp) ?_
    refine AllReadyH.cons (by simp only [gA, gB, gC]; rfl) (fun K hK => ?_) AllReadyH.nil
    obtain ⟨xd, hxd⟩ : ∃ xd : PG, PG.mk (mD md b1) (some ⟨gd, 0, none⟩) 3 = xd := ⟨_, rfl⟩
    have hxdv : Aside (Value.agg #[.bool true, .slice (some ⟨gd, 0, none⟩) 3 3, .int .i64 md, .int .i64 b1, .int .i64 7, .int .i64 7, .int .i64 0] = .agg xd.cs.toArray) := by rw [← hxd]; exact rfl
    obtain ⟨W7, hW7, hth7, hd7, hk7⟩ := put_any hz (ds := xd.cs) (by rw [pg_len]; rfl) (by rw [pg_len]; decide)
    have hszd : (Try.prog.info? 39).map (·.size) = some xd.cs.length := by rw [pg_len]; exact hszG
    have hB7 := hk7 _ _ hbd1 hB
    have hS7 := hk7 _ _ hbd2 hS
    have hda : xd.At W7 := by rw [← hxd, ← hW7]; exact fun j u hu => by obtain ⟨y, hy, hc⟩ := hrd j u hu; refine ⟨y, hy, fun i hi => ?_⟩; obtain rfl := Option.some.inj hy; have h1 := hc i hi; rw [show (wcl u)[i]? = some (.int .i64 u) by obtain rfl : i = 0 := (by omega); rfl] at h1 ⊢; rw [add_at] at h1 ⊢; exact (World.cell?_of_block (a := ⟨gd, j * 1 + i, none⟩) (heap_setCells_other (show gd ≠ bd by omega) _ _ _)).trans h1
    have hdg : xd.g = mD md b1 := by rw [← hxd]
    have hdw : xd.wa ≠ none := by rw [← hxd]; intro q; cases q
    refine step_store_rowC rfl _ _ rfl bd rfl xd.cs hxdv.out hth7 hszd (pg_one _) hW7 ?_
    (try simp only [Act.put, sA, sB, sC])
    refine hK.out _ _ (hS7) ?_
    clear hHeld hK
    intro hHeld
    clear hW7 hth7 hk7 hz hB hS hrd hxd hxdv
    (try simp only [Act.put, sA, sB, sC])
    refine wpAnyH_done (by kernel_rfl) ?_ _
    have hgZ : BlkL bg x2.cs W7 := ⟨hg6.1.same (hS7.block bg hg6.2), Nat.lt_of_lt_of_le hg6.2 hS7.size⟩
    have hxoZ := hxo6.below hS7
    have hbZ : BlkL w.heap.size (rg4 ⟨b1, 7, 7, 0⟩) W7 := stab_blk _ _ _ _ hbx8 hS7
    clear hg6 hxo6 hbx8 hS7 hB8 hb0'
    go_upto_region 9 with fail
    go_wp2_with fail
    refine (cnew_any W7).mono ?_
    rintro e V1 ⟨rfl, hb1⟩
    obtain ⟨V2, hV2, hthV, hsV, hbV⟩ := new_stC V1 newC rfl nilS
    have hl1 := (Below.then hB7 hb1).size
    have y2 := hsV.ring
    have yf2 := (hsV.blk.1 2 _ rfl).2
    have hs2 : StAt V1.heap.size ⟨0, 0, rr, 0, [⟨0, 0, 4⟩, ⟨1, 0, 4⟩, ⟨2, 0, 4⟩, ⟨3, 0, 4⟩], [], false⟩ nilS (V2.setCell ⟨V1.heap.size, 2, none⟩ (.int .i64 rr)) := by
      have h1 := hsV.blk.1.set 2 (.int .i64 rr) (by show 2 < 18; decide)
      exact ⟨rfl, h1, h1.lt rfl⟩
    have hb2 : Below V1.heap.size V1 (V2.setCell ⟨V1.heap.size, 2, none⟩ (.int .i64 rr)) := hbV.setCell (p := ⟨V1.heap.size, 2, none⟩) (Nat.le_refl _) _
    obtain ⟨V3, hV3, hth3, hs3, hk3, -⟩ := hs2.putPtr (k := 1) (by decide) ⟨1, 0, 0⟩ (c' := mC rr) rfl rfl
    have hb3 : Below V1.heap.size V1 V3 := hk3 _ _ (Nat.le_refl _) hb2
    have hone8 : ∀ u ∈ stCs newC nilS, u.oneCell' = true := st_one _ _ rfl
    have hsz8 : (Try.prog.info? 29).map (·.size) = some (stCs newC nilS).length := by kernel_rfl
    obtain ⟨Y, hY⟩ : ∃ Y, stCs newC nilS = Y := ⟨_, rfl⟩
    rw [hY] at hV2 hthV hone8 hsz8
    have hYv : Aside (.agg (stCs newC nilS).toArray = Value.agg Y.toArray) := by rw [hY]; exact rfl
    have hg3 := stab_blk _ _ _ _ (stab_blk _ _ _ _ hgZ hb1) hb3
    have hd3 := stab_blk _ _ _ _ (stab_blk _ _ _ _ hd7 hb1) hb3
    have hbx3 := stab_blk _ _ _ _ (stab_blk _ _ _ _ hbZ hb1) hb3
    have hxo3 := (hxoZ.below hb1).below hb3
    have hda3 := (hda.below hb1).below hb3
    have hB3 := Below.then (Below.then hB7 hb1) hb3
    clear hY hsV hbV hs2 hb2 hk3 hgZ hd7 hbZ hxoZ hda hB7 hb1 hb3
    go_upto_region 11 with (first | (refine wpList_store_row rfl _ _ rfl V1.heap.size rfl Y hYv.out hthV hsz8 hone8 hV2 ?_) | fail)
    clear hV2 hthV hone8 hsz8 hYv y2 yf2
    go_upto_region 12 with (first | (refine wpList_store_part rfl _ _ rfl V1.heap.size 7 rfl (ptr3 ⟨1, 0, 0⟩) rfl hth3 hszP (ptr3J_one _) hV3 ?_) | fail)
    clear hV3 hth3
    generalize V1.heap.size = bs at *
    have hrg := hg3.range
    have hrd := hd3.range
    have hszx : (Try.prog.info? 39).map (·.size) = some x2.cs.length := by rw [pg_len]; exact hszG
    obtain ⟨hN4, hR4, hb4⟩ := mem_list V3 [x2, xd] (fun z hz => by
      rcases List.mem_cons.1 hz with rfl | hz
      · exact own_at hxo3
      · rw [List.mem_singleton.1 hz]; exact hda3) (x2.cs ++ xd.cs).toArray (by simp) 39 48 2 rfl
    have hMG : MG [x2, xd] := by
      obtain ⟨a1, c1, hv, -, hn, -⟩ := hxo3.slice wd_okC.len
      have hv' : Value.slice x2.wa x2.g.ws.length x2.wc = .slice a1 x2.g.ws.length c1 := hv
      injection hv' with e1 e2 e3
      refine ⟨by simp, fun z hz => ?_, fun z hz => ?_⟩
      · rcases List.mem_cons.1 hz with rfl | hz
        · rw [hx2g]; exact mG_ok 1 hr0 hr7
        · rw [List.mem_singleton.1 hz, hdg]; exact mD_ok md hb0 hb7
      · rcases List.mem_cons.1 hz with rfl | hz
        · rw [e1, e3]; exact hn
        · rw [List.mem_singleton.1 hz]; exact fun q => absurd q hdw
    have hM4 : MemO (V3.heap.size + 1) (some ⟨V3.heap.size, 0, none⟩) 2 [x2, xd] false 0 0 0 0 _ := ⟨hMG, ⟨by decide, by decide⟩, hN4, hR4⟩
    have hB4 := Below.then hB3 hb4
    have hs4 := hs3.keep hb4
    have hbx4 := stab_blk _ _ _ _ hbx3 hb4
    have hrs := hs4.blk.range
    have hrs3 := hs3.blk.range
    have ks := cstepV (mC rr) (mC_ok hr0 hr7) nilS hM4 (SV.nil _) (flt 31) (by rw [show [x2, xd].map (·.g) = [mG 1 rr, mD md b1] by simp [hx2g, hdg]]; exact hst)
    have hszC : (Try.prog.info? 29).map (·.size) = some (stCs (mC rr) nilS).length := hszS
    have hlv : w.heap.size ≤ V3.heap.size := hB3.size
    have hwlt : w.heap.size < V3.heap.size := hbx3.2
    have hb4s := hb4.size
    clear hM4 hMG hN4 hR4 hs3 hbx3 hB3 hg3 hd3 hxo3 hda3 hst hx2g hdg hdw hb4 hs4
    go_wp2_with (first | (refine wpList_load_row rfl _ rfl bs rfl (stCs (mC rr) nilS) hrs3 hundS rfl hszC ?_) | (refine wpList_load_row rfl _ rfl bg rfl x2.cs hrg hundG rfl hszx ?_) | (refine wpList_load_row rfl _ rfl bd rfl xd.cs hrd hundG rfl hszd ?_) | (refine wpList_build2 pg_okC (by decide) rfl _ _ rfl x2.cs xd.cs rfl rfl rfl rfl ?_) | fail)
    refine ks.mono ?_
    rintro e V5 hP
    obtain ⟨vA, he, hvA, hbA⟩ := hP.any V3.heap.size (Nat.le_succ _) hb4s
    replace he : e = .returned (.tuple #[.agg (stCs (zeroC) vA).toArray, .int .i64 0, .bool false, .int .i64 31]) := he
    subst he
    have hBA := hB4.trans (hbA.mono hlv)
    have hbxA : BlkL w.heap.size (rg4 ⟨b1, 7, 7, 0⟩) V5 := ⟨hbx4.1.same (hbA.block _ hwlt), Nat.lt_of_lt_of_le hbx4.2 hbA.size⟩
    obtain ⟨V6, hV6, hth6, hs6, hb6⟩ := new_stC V5 (zeroC) rfl vA
    have hB6 := Below.then hBA hb6
    have hbx6 := stab_blk _ _ _ _ hbxA hb6
    have hone6 := st_one (zeroC) vA hvA
    have hl6 : (stCs (zeroC) vA).length = 18 := st_len rfl
    have u0 := hs6.seg
    have u1 := hs6.off
    have u2 := hs6.ring
    have x0 := (hbx6.1 0 _ rfl).1
    obtain ⟨X, hX⟩ : ∃ X, stCs (zeroC) vA = X := ⟨_, rfl⟩
    have hXv : Aside (.agg (stCs (zeroC) vA).toArray = Value.agg X.toArray) := by rw [hX]; exact rfl
    rw [hX] at hV6 hth6 hone6 hl6
    have hszX : (Try.prog.info? 29).map (·.size) = some X.length := by rw [hl6]; exact hszS
    clear ks hP hbA hBA hbxA hbx4 hB4 hs6 hb6 hX hl6 hbx6 hvA hrs hrs3
    go_wp2_with (first | (refine wpList_store_row rfl _ _ rfl V5.heap.size rfl X hXv.out hth6 hszX hone6 hV6 ?_) | fail)
    go_ret
    exact ⟨rfl, hB6⟩
  refine AllReadyH.cons (by simp only [gA, gB, gC]; rfl) (fun K hK => ?_) AllReadyH.nil
  have hb : Below w0.heap.size w0 (w0.alloc (.cells #[.bool false, .slice none 0 0, .int .i64 0, .int .i64 0, .int .i64 0, .int .i64 0, .int .i64 0] 39)) := alloc_below w0 _
  have hz : BlkL w0.heap.size (sgCs zeroG nilS) (w0.alloc (.cells #[.bool false, .slice none 0 0, .int .i64 0, .int .i64 0, .int .i64 0, .int .i64 0, .int .i64 0] 39)) := blkl_alloc w0 #[.bool false, .slice none 0 0, .int .i64 0, .int .i64 0, .int .i64 0, .int .i64 0, .int .i64 0] 39
  have hbd1 := hB.size
  have hbd2 := hS.size
  refine step_allocC (z := #[.bool false, .slice none 0 0, .int .i64 0, .int .i64 0, .int .i64 0, .int .i64 0, .int .i64 0]) rfl rfl (fun _ => rfl) ?_
  (try simp only [Act.put, sA, sB, sC])
  refine hK.out _ _ (Below.then hS hb) ?_
  clear hHeld hK
  intro hHeld
  replace hB := Below.then hB hb
  replace hS := Below.then hS hb
  clear hb
  generalize w0.alloc (.cells #[.bool false, .slice none 0 0, .int .i64 0, .int .i64 0, .int .i64 0, .int .i64 0, .int .i64 0] 39) = w1 at *
  generalize w0.heap.size = bd at *
  (try simp only [Act.put, sA, sB, sC])
  refine wpAnyH_ready (rs := [2]) (by kernel_rfl) (by simp) ?_
  refine AllReadyH.cons (by simp only [gA, gB, gC]; rfl) (fun K hK => ?_) AllReadyH.nil
  have hb := alloc_below w1 (.cells #[.int .i64 0, .int .i64 0, .int .i64 0] 2)
  have hrd := row_list (f := wcl) (sz := 1) (fun _ => rfl) w1 [0, 0, 0] #[.int .i64 0, .int .i64 0, .int .i64 0] rfl 2
  have hgd : bd < w1.heap.size := hz.2
  refine step_make3 rfl rfl ?_
  (try simp only [Act.put, sA, sB, sC])
  refine hK.out _ _ (Below.then hS hb) ?_
  clear hHeld hK
  intro hHeld
  replace hB := Below.then hB hb
  replace hS := Below.then hS hb
  replace hz := stab_blk _ _ _ _ hz hb
  clear hb
  generalize w1.alloc (.cells #[.int .i64 0, .int .i64 0, .int .i64 0] 2) = w2 at *
  generalize w1.heap.size = gd at *
  (try simp only [Act.put, sA, sB, sC])
  refine wpAnyH_take (i := 3) (v := ?_) (by simp only [gA, gB, gC]; rfl) (by kernel_rfl) (by kernel_rfl) (by kernel_rfl) (by exact fun _ _ _ h => h) (Or.inl ⟨by rfl, ?_⟩) (by assumption) ?_; rotate_left; (focus (intro w hSw; (try dsimp only at hSw); go_simp; try with_reducible rfl)); (try simp only [Act.put, sA, sB, sC])
  refine wpAnyH_ready (rs := [5]) (by kernel_rfl) (by simp) ?_
  refine AllReadyH.cons (by simp only [gA, gB, gC]; rfl) (fun K hK => ?_) AllReadyH.nil
  obtain ⟨xd, hxd⟩ : ∃ xd : PG, PG.mk (mD md b1) (some ⟨gd, 0, none⟩) 3 = xd := ⟨_, rfl⟩
  have hxdv : Aside (Value.agg #[.bool true, .slice (some ⟨gd, 0, none⟩) 3 3, .int .i64 md, .int .i64 b1, .int .i64 7, .int .i64 7, .int .i64 0] = .agg xd.cs.toArray) := by rw [← hxd]; exact rfl
  obtain ⟨W7, hW7, hth7, hd7, hk7⟩ := put_any hz (ds := xd.cs) (by rw [pg_len]; rfl) (by rw [pg_len]; decide)
  have hszd : (Try.prog.info? 39).map (·.size) = some xd.cs.length := by rw [pg_len]; exact hszG
  have hB7 := hk7 _ _ hbd1 hB
  have hS7 := hk7 _ _ hbd2 hS
  have hda : xd.At W7 := by rw [← hxd, ← hW7]; exact fun j u hu => by obtain ⟨y, hy, hc⟩ := hrd j u hu; refine ⟨y, hy, fun i hi => ?_⟩; obtain rfl := Option.some.inj hy; have h1 := hc i hi; rw [show (wcl u)[i]? = some (.int .i64 u) by obtain rfl : i = 0 := (by omega); rfl] at h1 ⊢; rw [add_at] at h1 ⊢; exact (World.cell?_of_block (a := ⟨gd, j * 1 + i, none⟩) (heap_setCells_other (show gd ≠ bd by omega) _ _ _)).trans h1
  have hdg : xd.g = mD md b1 := by rw [← hxd]
  have hdw : xd.wa ≠ none := by rw [← hxd]; intro q; cases q
  refine step_store_rowC rfl _ _ rfl bd rfl xd.cs hxdv.out hth7 hszd (pg_one _) hW7 ?_
  (try simp only [Act.put, sA, sB, sC])
  refine hK.out _ _ (hS7) ?_
  clear hHeld hK
  intro hHeld
  clear hW7 hth7 hk7 hz hB hS hrd hxd hxdv
  (try simp only [Act.put, sA, sB, sC])
  refine wpAnyH_done (by kernel_rfl) ?_ _
  have hgZ : BlkL bg x2.cs W7 := ⟨hg6.1.same (hS7.block bg hg6.2), Nat.lt_of_lt_of_le hg6.2 hS7.size⟩
  have hxoZ := hxo6.below hS7
  have hbZ : BlkL w.heap.size (rg4 ⟨b1, 7, 7, 0⟩) W7 := stab_blk _ _ _ _ hbx8 hS7
  clear hg6 hxo6 hbx8 hS7 hB8 hb0'
  go_upto_region 9 with fail
  go_wp2_with fail
  refine (cnew_any W7).mono ?_
  rintro e V1 ⟨rfl, hb1⟩
  obtain ⟨V2, hV2, hthV, hsV, hbV⟩ := new_stC V1 newC rfl nilS
  have hl1 := (Below.then hB7 hb1).size
  have y2 := hsV.ring
  have yf2 := (hsV.blk.1 2 _ rfl).2
  have hs2 : StAt V1.heap.size ⟨0, 0, rr, 0, [⟨0, 0, 4⟩, ⟨1, 0, 4⟩, ⟨2, 0, 4⟩, ⟨3, 0, 4⟩], [], false⟩ nilS (V2.setCell ⟨V1.heap.size, 2, none⟩ (.int .i64 rr)) := by
    have h1 := hsV.blk.1.set 2 (.int .i64 rr) (by show 2 < 18; decide)
    exact ⟨rfl, h1, h1.lt rfl⟩
  have hb2 : Below V1.heap.size V1 (V2.setCell ⟨V1.heap.size, 2, none⟩ (.int .i64 rr)) := hbV.setCell (p := ⟨V1.heap.size, 2, none⟩) (Nat.le_refl _) _
  obtain ⟨V3, hV3, hth3, hs3, hk3, -⟩ := hs2.putPtr (k := 1) (by decide) ⟨1, 0, 0⟩ (c' := mC rr) rfl rfl
  have hb3 : Below V1.heap.size V1 V3 := hk3 _ _ (Nat.le_refl _) hb2
  have hone8 : ∀ u ∈ stCs newC nilS, u.oneCell' = true := st_one _ _ rfl
  have hsz8 : (Try.prog.info? 29).map (·.size) = some (stCs newC nilS).length := by kernel_rfl
  obtain ⟨Y, hY⟩ : ∃ Y, stCs newC nilS = Y := ⟨_, rfl⟩
  rw [hY] at hV2 hthV hone8 hsz8
  have hYv : Aside (.agg (stCs newC nilS).toArray = Value.agg Y.toArray) := by rw [hY]; exact rfl
  have hg3 := stab_blk _ _ _ _ (stab_blk _ _ _ _ hgZ hb1) hb3
  have hd3 := stab_blk _ _ _ _ (stab_blk _ _ _ _ hd7 hb1) hb3
  have hbx3 := stab_blk _ _ _ _ (stab_blk _ _ _ _ hbZ hb1) hb3
  have hxo3 := (hxoZ.below hb1).below hb3
  have hda3 := (hda.below hb1).below hb3
  have hB3 := Below.then (Below.then hB7 hb1) hb3
  clear hY hsV hbV hs2 hb2 hk3 hgZ hd7 hbZ hxoZ hda hB7 hb1 hb3
  go_upto_region 11 with (first | (refine wpList_store_row rfl _ _ rfl V1.heap.size rfl Y hYv.out hthV hsz8 hone8 hV2 ?_) | fail)
  clear hV2 hthV hone8 hsz8 hYv y2 yf2
  go_upto_region 12 with (first | (refine wpList_store_part rfl _ _ rfl V1.heap.size 7 rfl (ptr3 ⟨1, 0, 0⟩) rfl hth3 hszP (ptr3J_one _) hV3 ?_) | fail)
  clear hV3 hth3
  generalize V1.heap.size = bs at *
  have hrg := hg3.range
  have hrd := hd3.range
  have hszx : (Try.prog.info? 39).map (·.size) = some x2.cs.length := by rw [pg_len]; exact hszG
  obtain ⟨hN4, hR4, hb4⟩ := mem_list V3 [x2, xd] (fun z hz => by
    rcases List.mem_cons.1 hz with rfl | hz
    · exact own_at hxo3
    · rw [List.mem_singleton.1 hz]; exact hda3) (x2.cs ++ xd.cs).toArray (by simp) 39 48 2 rfl
  have hMG : MG [x2, xd] := by
    obtain ⟨a1, c1, hv, -, hn, -⟩ := hxo3.slice wd_okC.len
    have hv' : Value.slice x2.wa x2.g.ws.length x2.wc = .slice a1 x2.g.ws.length c1 := hv
    injection hv' with e1 e2 e3
    refine ⟨by simp, fun z hz => ?_, fun z hz => ?_⟩
    · rcases List.mem_cons.1 hz with rfl | hz
      · rw [hx2g]; exact mG_ok 1 hr0 hr7
      · rw [List.mem_singleton.1 hz, hdg]; exact mD_ok md hb0 hb7
    · rcases List.mem_cons.1 hz with rfl | hz
      · rw [e1, e3]; exact hn
      · rw [List.mem_singleton.1 hz]; exact fun q => absurd q hdw
  have hM4 : MemO (V3.heap.size + 1) (some ⟨V3.heap.size, 0, none⟩) 2 [x2, xd] false 0 0 0 0 _ := ⟨hMG, ⟨by decide, by decide⟩, hN4, hR4⟩
  have hB4 := Below.then hB3 hb4
  have hs4 := hs3.keep hb4
  have hbx4 := stab_blk _ _ _ _ hbx3 hb4
  have hrs := hs4.blk.range
  have hrs3 := hs3.blk.range
  have ks := cstepV (mC rr) (mC_ok hr0 hr7) nilS hM4 (SV.nil _) (flt 31) (by rw [show [x2, xd].map (·.g) = [mG 1 rr, mD md b1] by simp [hx2g, hdg]]; exact hst)
  have hszC : (Try.prog.info? 29).map (·.size) = some (stCs (mC rr) nilS).length := hszS
  have hlv : w.heap.size ≤ V3.heap.size := hB3.size
  have hwlt : w.heap.size < V3.heap.size := hbx3.2
  have hb4s := hb4.size
  clear hM4 hMG hN4 hR4 hs3 hbx3 hB3 hg3 hd3 hxo3 hda3 hst hx2g hdg hdw hb4 hs4
  go_wp2_with (first | (refine wpList_load_row rfl _ rfl bs rfl (stCs (mC rr) nilS) hrs3 hundS rfl hszC ?_) | (refine wpList_load_row rfl _ rfl bg rfl x2.cs hrg hundG rfl hszx ?_) | (refine wpList_load_row rfl _ rfl bd rfl xd.cs hrd hundG rfl hszd ?_) | (refine wpList_build2 pg_okC (by decide) rfl _ _ rfl x2.cs xd.cs rfl rfl rfl rfl ?_) | fail)
  refine ks.mono ?_
  rintro e V5 hP
  obtain ⟨vA, he, hvA, hbA⟩ := hP.any V3.heap.size (Nat.le_succ _) hb4s
  replace he : e = .returned (.tuple #[.agg (stCs (zeroC) vA).toArray, .int .i64 0, .bool false, .int .i64 31]) := he
  subst he
  have hBA := hB4.trans (hbA.mono hlv)
  have hbxA : BlkL w.heap.size (rg4 ⟨b1, 7, 7, 0⟩) V5 := ⟨hbx4.1.same (hbA.block _ hwlt), Nat.lt_of_lt_of_le hbx4.2 hbA.size⟩
  obtain ⟨V6, hV6, hth6, hs6, hb6⟩ := new_stC V5 (zeroC) rfl vA
  have hB6 := Below.then hBA hb6
  have hbx6 := stab_blk _ _ _ _ hbxA hb6
  have hone6 := st_one (zeroC) vA hvA
  have hl6 : (stCs (zeroC) vA).length = 18 := st_len rfl
  have u0 := hs6.seg
  have u1 := hs6.off
  have u2 := hs6.ring
  have x0 := (hbx6.1 0 _ rfl).1
  obtain ⟨X, hX⟩ : ∃ X, stCs (zeroC) vA = X := ⟨_, rfl⟩
  have hXv : Aside (.agg (stCs (zeroC) vA).toArray = Value.agg X.toArray) := by rw [hX]; exact rfl
  rw [hX] at hV6 hth6 hone6 hl6
  have hszX : (Try.prog.info? 29).map (·.size) = some X.length := by rw [hl6]; exact hszS
  clear ks hP hbA hBA hbxA hbx4 hB4 hs6 hb6 hX hl6 hbx6 hvA hrs hrs3
  go_wp2_with (first | (refine wpList_store_row rfl _ _ rfl V5.heap.size rfl X hXv.out hth6 hszX hone6 hV6 ?_) | fail)
  go_ret
  exact ⟨rfl, hB6⟩
set_option maxRecDepth 8000 in
set_option maxHeartbeats 8000000 in
theorem cpuModes2t (m0 r op md b1 rr : Int) (b : Rg) (hmd : m0 % 8 = md) (hrr : r % 8 = rr) (hbb : b.a % 8 = b1) (hk : op % 3 = 1) (hq : hasM md 2 = true) (hle : rr ≤ b1) (w : World) :
    Calls Try.prog 7 #[.int .i64 m0, b.v, .int .i64 r, .int .i64 op] w fun e w' => e = .returned (.bool true) ∧ Below w.heap.size w w' := by
  have hundS := Try.underlying29
  have hszS : (Try.prog.info? 29).map (·.size) = some 18 := by kernel_rfl
  have hundG := Try.underlying39
  have hszG : (Try.prog.info? 39).map (·.size) = some 7 := by kernel_rfl
  have hundR := Try.underlying37
  have hszR : (Try.prog.info? 37).map (·.size) = some 4 := by kernel_rfl
  have hszP : (Try.prog.info? 25).map (·.size) = some 3 := by kernel_rfl
  have hmi : ∀ (v : Value) (w : World), (Instr.makeInterface 34 v).run Try.prog w = .ok (.iface 34 v) w := fun _ _ => rfl
  have hr0 : 0 ≤ rr := by omega
  have hr7 : rr ≤ 7 := by omega
  have hb0 : 0 ≤ b1 := by omega
  have hb7 : b1 ≤ 7 := by omega
  have k1 := fun W : World => w16_any m0 8 (by decide) (by decide) W
  have k2 := fun W : World => w16_any r 8 (by decide) (by decide) W
  have k3 := fun W : World => w16_any b.a 8 (by decide) (by decide) W
  have k4 := fun W : World => w16_any op 3 (by decide) (by decide) W
  simp only [hmd] at k1
  simp only [hrr] at k2
  simp only [hbb] at k3
  simp only [hk] at k4
  have hst : stepC (mC rr) [mG 2 rr, mD md b1] = ⟨0, { mC rr with off := 1 }, some (1, 0, 0), 0, false⟩ := by rw [m_step2 md b1 hr0 hr7, if_pos ⟨hq, hle⟩]
  have fle : decide (rr ≤ b1) = true := by simpa using hle
  have fq0 : (bits .and .i64 md 2 != 0) = true := by unfold hasM at hq; simpa using hq
  clear hmd hrr hbb hk
  have hbx0 := blkl_alloc w (rg4 b).toArray 37
  have hBx0 := alloc_below w (.cells (rg4 b).toArray 37)
  replace hbx0 : BlkL w.heap.size (rg4 b) (w.alloc (.cells #[.int .i64 b.a, .int .i64 b.b, .int .i64 b.c, .int .i64 b.g] 37)) := hbx0
  replace hBx0 : Below w.heap.size w (w.alloc (.cells #[.int .i64 b.a, .int .i64 b.b, .int .i64 b.c, .int .i64 b.g] 37)) := hBx0
  go_enter Try.func7, Try.ntmps7
  go_upto_region 1 with fail
  generalize w.alloc (.cells #[.int .i64 b.a, .int .i64 b.b, .int .i64 b.c, .int .i64 b.g] 37) = U0 at *
  go_wp2_with fail
  refine (ck_any U0).mono ?_
  rintro e W1 ⟨rfl, hb1⟩
  have hbx1 := stab_blk _ _ _ _ hbx0 hb1
  have hB1 := Below.then hBx0 hb1
  clear hb1 hbx0 hBx0
  go_wp2_with fail
  refine (k1 W1).mono ?_
  rintro e W2 ⟨rfl, hw⟩
  rw [hw]
  clear hw W2
  go_wp2_with fail
  refine (k2 W1).mono ?_
  rintro e W2 ⟨rfl, hw⟩
  rw [hw]
  clear hw W2
  have y0 := (hbx1.1 0 _ rfl).1
  go_wp2_with fail
  refine (k3 W1).mono ?_
  rintro e W2 ⟨rfl, hw⟩
  rw [hw]
  clear hw W2 y0
  obtain ⟨U3, hU3, hthU, hbx3, hkU⟩ := put_any hbx1 (ds := rg4 ⟨b1, 7, 7, 0⟩) rfl (by show 0 < 4; decide)
  have hB3 := hkU _ _ (Nat.le_refl _) hB1
  go_upto_region 5 with (first | (refine wpList_store_row rfl _ _ rfl w.heap.size rfl (rg4 ⟨b1, 7, 7, 0⟩) rfl hthU hszR (rg4_one _) hU3 ?_) | fail)
  clear hU3 hthU hkU hbx1 hB1
  have hbA := alloc_below U3 (.cells #[.int .i64 1, .int .i64 2, .int .i64 20] 3)
  have hbx4 := stab_blk _ _ _ _ hbx3 hbA
  have hB4 := Below.then hB3 hbA
  go_wp2_with fail
  refine (k4 _).mono ?_
  rintro e W2 ⟨rfl, hw⟩
  rw [hw]
  clear hw W2
  go_upto_region 6 with fail
  clear hbA hbx3 hB3 k1 k2 k3 k4
  generalize U3.alloc (.cells #[.int .i64 1, .int .i64 2, .int .i64 20] 3) = W1 at *
  have hbi := alloc_below W1 (.cells (ins3 ⟨2, 1, 0⟩).toArray 42)
  have hri := row_list (f := ins3) (sz := 3) (fun _ => rfl) W1 [⟨2, 1, 0⟩] #[.int .i64 2, .int .i64 1, .int .i64 0] rfl 42
  have ko := cone_any [⟨2, 1, 0⟩] [] (some ⟨W1.heap.size, 0, none⟩) none 1 0 (by show 1 ≤ 100; decide) (by show 0 ≤ 100; decide) (fun _ => rfl) _ hri (fun j y h => by simp at h)
  have hbx5 := stab_blk _ _ _ _ hbx4 hbi
  have hB5 := Below.then hB4 hbi
  clear hri hbi hbx4 hB4
  go_wp2_with fail
  refine ko.mono ?_
  rintro e W4 ⟨x, hxg, rfl, hxo, hb4⟩
  have hbx6 := stab_blk _ _ _ _ hbx5 hb4
  have hB6 := Below.then hB5 hb4
  clear ko hb4 hbx5 hB5
  obtain ⟨W5, hW5, hth5, hg5, hb5⟩ := put_new W4 (sgCs zeroG nilS).toArray 39 x.cs (by rw [pg_len]; rfl) (by rw [pg_len]; decide)
  have hB7 := Below.then hB6 hb5
  have hbx7 := stab_blk _ _ _ _ hbx6 hb5
  have hxo5 := hxo.below hb5
  have hltb := hbx6.2
  go_upto_region 7 with (first | (refine wpList_store_row rfl _ _ rfl W4.heap.size rfl x.cs rfl hth5 hszG (pg_one _) hW5 ?_) | fail)
  have hxb : ∀ k, x.v.ownBlock = some k → k < W4.heap.size := fun k hk => (hxo.lt hk).2
  have hlt4 := hB6.size
  clear hW5 hth5 hxo hb5 hbx6 hB6
  generalize W4.heap.size = bg at *
  have hl5 : 3 + (rg4 ⟨rr, rr, rr, 0⟩).length ≤ x.cs.length := by rw [pg_len]; show 3 + 4 ≤ 7; decide
  have h6 := Blk.putM (rg4 ⟨rr, rr, rr, 0⟩) 3 hg5.1 hl5
  obtain ⟨x2, hx2⟩ : ∃ x2 : PG, PG.mk (mG 2 rr) x.wa x.wc = x2 := ⟨_, rfl⟩
  have hx2c : setM x.cs 3 (rg4 ⟨rr, rr, rr, 0⟩) = x2.cs := by
    rw [← hx2]
    unfold PG.cs PG.v
    rw [hxg]
    rfl
  rw [hx2c] at h6
  obtain ⟨W6, hW6⟩ : ∃ W6, W5.setCells bg 3 (rg4 ⟨rr, rr, rr, 0⟩) = W6 := ⟨_, rfl⟩
  have hth6 := hg5.1.thereM 3 (rg4 ⟨rr, rr, rr, 0⟩).length hl5
  rw [hW6] at h6
  have hg6 : BlkL bg x2.cs W6 := ⟨h6, h6.lt (List.getElem?_eq_getElem (by rw [pg_len]; decide : 0 < x2.cs.length))⟩
  have hB8 : Below w.heap.size w W6 := by rw [← hW6]; exact Below.cells hlt4 _ _ hB7
  have hbx8 : BlkL w.heap.size (rg4 ⟨b1, 7, 7, 0⟩) W6 := by
    rw [← hW6]
    exact ⟨hbx7.1.same (heap_setCells_other (by omega) _ _ _), Nat.lt_of_lt_of_le hbx7.2 (Below.cells (B := 0) (Nat.zero_le _) _ _ (Below.refl 0 W5)).size⟩
  have hxe : x2.v = x.v := by
    rw [← hx2]
    unfold PG.v
    rw [hxg]
    rfl
  have hxw : x2.g.ws = x.g.ws := by rw [← hx2, hxg]; rfl
  have hxo6 : OwnR 2 1 wcl W6 0 x2.v x2.g.ws := by
    rw [hxe, hxw, ← hW6]
    exact (hxo5.keep fun k hk => heap_setCells_other (by have := hxb k hk; omega) _ _ _).lower (Nat.zero_le _)
  have hx2g : x2.g = mG 2 rr := by rw [← hx2]
  clear h6 hg5 hxo5 hxb hB7 hbx7 hxe hxw hx2 hx2c hxg
  go_upto_region 8 with (first | (refine wpList_store_part rfl _ _ rfl bg 3 rfl (rg4 ⟨rr, rr, rr, 0⟩) rfl hth6 hszR (rg4_one _) hW6 ?_) | fail)
  clear hW6 hth6 hl5
  generalize hZ0 : W6 = Z at *
  clear hZ0
  have hb0' := hbx8
  have hS := (Below.refl Z.heap.size Z).drew
  have hB := Below.then hB8 hS
  refine wp_region_held_drew (S := (fun W => Below Z.heap.size Z W)) (by kernel_rfl) (by exact hS) ?_
  intro hHeld
  generalize Z.drew = w0 at *
  refine wpAnyH_take (i := 0) (v := ?_) (by simp only [gA, gB, gC]; rfl) (by kernel_rfl) (by kernel_rfl) (by kernel_rfl) (by exact fun _ _ _ h => h) (Or.inl ⟨by rfl, ?_⟩) (by assumption) ?_; rotate_left; (focus (intro w hSw; (try dsimp only at hSw); go_simp; try with_reducible rfl)); (try simp only [Act.put, sA, sB, sC])
  refine wpAnyH_take (i := 1) (v := _) (by simp only [gA, gB, gC]; rfl) (by kernel_rfl) (by kernel_rfl) (by kernel_rfl) (by exact fun _ _ _ h => h) (yields_row (by rfl) _ rfl w.heap.size rfl (rg4 ⟨b1, 7, 7, 0⟩) (fun _ q => (stab_blk _ _ _ _ hbx8 q).range) hundR rfl hszR) (by assumption) ?_; (try simp only [Act.put, sA, sB, sC])
  refine wpAnyH_ready (rs := [2, 4]) (by kernel_rfl) (by simp) ?_
  refine AllReadyH.cons (by simp only [gA, gB, gC]; rfl) (fun K hK => ?_) ?_
  · skip
    have hb := alloc_below w0 (.cells #[.int .i64 0, .int .i64 0, .int .i64 0] 2)
    have hrd := row_list (f := wcl) (sz := 1) (fun _ => rfl) w0 [0, 0, 0] #[.int .i64 0, .int .i64 0, .int .i64 0] rfl 2
    refine step_make3 rfl rfl ?_
    (try simp only [Act.put, sA, sB, sC])
    refine hK.out _ _ (Below.then hS hb) ?_
    clear hHeld hK
    intro hHeld
    replace hB := Below.then hB hb
    replace hS := Below.then hS hb
    clear hb
    generalize w0.alloc (.cells #[.int .i64 0, .int .i64 0, .int .i64 0] 2) = w1 at *
    generalize w0.heap.size = gd at *
    (try simp only [Act.put, sA, sB, sC])
    refine wpAnyH_take (i := 3) (v := ?_) (by simp only [gA, gB, gC]; rfl) (by kernel_rfl) (by kernel_rfl) (by kernel_rfl) (by exact fun _ _ _ h => h) (Or.inl ⟨by rfl, ?_⟩) (by assumption) ?_; rotate_left; (focus (intro w hSw; (try dsimp only at hSw); go_simp; try with_reducible rfl)); (try simp only [Act.put, sA, sB, sC])
    refine wpAnyH_ready (rs := [4]) (by kernel_rfl) (by simp) ?_
    refine AllReadyH.cons (by simp only [gA, gB, gC]; rfl) (fun K hK => ?_) AllReadyH.nil
    have hb : Below w1.heap.size w1 (w1.alloc (.cells #[.bool false, .slice none 0 0, .int .i64 0, .int .i64 0, .int .i64 0, .int .i64 0, .int .i64 0] 39)) := alloc_below w1 _
    have hz : BlkL w1.heap.size (sgCs zeroG nilS) (w1.alloc (.cells #[.bool false, .slice none 0 0, .int .i64 0, .int .i64 0, .int .i64 0, .int .i64 0, .int .i64 0] 39)) := blkl_alloc w1 #[.bool false, .slice none 0 0, .int .i64 0, .int .i64 0, .int .i64 0, .int .i64 0, .int .i64 0] 39
    have hgd : gd < w1.heap.size := by obtain ⟨y, hy, hc⟩ := hrd 0 0 rfl; obtain rfl := Option.some.inj hy; have h1 := hc 0 (by decide); rw [add_at] at h1; exact World.block_lt_of_cell? _ _ (h1.trans rfl)
    have hbd1 := hB.size
    have hbd2 := hS.size
    refine step_allocC (z := #[.bool false, .slice none 0 0, .int .i64 0, .int .i64 0, .int .i64 0, .int .i64 0, .int .i64 0]) rfl rfl (fun _ => rfl) ?_
    (try simp only [Act.put, sA, sB, sC])
    refine hK.out _ _ (Below.then hS hb) ?_
    clear hHeld hK
    intro hHeld
    replace hB := Below.then hB hb
    replace hS := Below.then hS hb
    replace hrd := hrd.below wd_okC.len hb
    clear hb
    generalize w1.alloc (.cells #[.bool false, .slice none 0 0, .int .i64 0, .int .i64 0, .int .i64 0, .int .i64 0, .int .i64 0] 39) = w2 at *
    generalize w1.heap.size = bd at *
    (try simp only [Act.put, sA, sB, sC])
    refine wpAnyH_ready (rs := [5]) (by kernel_rfl) (by simp) ?_
    refine AllReadyH.cons (by simp only [gA, gB, gC]; rfl) (fun K hK => ?_) AllReadyH.nil
    obtain ⟨xd, hxd⟩ : ∃ xd : PG, PG.mk (mD md b1) (some ⟨gd, 0, none⟩) 3 = xd := ⟨_, rfl⟩
    have hxdv : Aside (Value.agg #[.bool true, .slice (some ⟨gd, 0, none⟩) 3 3, .int .i64 md, .int .i64 b1, .int .i64 7, .int .i64 7, .int .i64 0] = .agg xd.cs.toArray) := by rw [← hxd]; exact rfl
    obtain ⟨W7, hW7, hth7, hd7, hk7⟩ := put_any hz (ds := xd.cs) (by rw [pg_len]; rfl) (by rw [pg_len]; decide)
    have hszd : (Try.prog.info? 39).map (·.size) = some xd.cs.length := by rw [pg_len]; exact hszG
    have hB7 := hk7 _ _ hbd1 hB
    have hS7 := hk7 _ _ hbd2 hS
    have hda : xd.At W7 := by rw [← hxd, ← hW7]; exact fun j u hu => by obtain ⟨y, hy, hc⟩ := hrd j u hu; refine ⟨y, hy, fun i hi => ?_⟩; obtain rfl := Option.some.inj hy; have h1 := hc i hi; rw [show (wcl u)[i]? = some (.int .i64 u) by obtain rfl : i = 0 := (by omega); rfl] at h1 ⊢; rw [add_at] at h1 ⊢; exact (World.cell?_of_block (a := ⟨gd, j * 1 + i, none⟩) (heap_setCells_other (show gd ≠ bd by omega) _ _ _)).trans h1
    have hdg : xd.g = mD md b1 := by rw [← hxd]
    have hdw : xd.wa ≠ none := by rw [← hxd]; intro q; cases q
    refine step_store_rowC rfl _ _ rfl bd rfl xd.cs hxdv.out hth7 hszd (pg_one _) hW7 ?_
    (try simp only [Act.put, sA, sB, sC])
    refine hK.out _ _ (hS7) ?_
    clear hHeld hK
    intro hHeld
    clear hW7 hth7 hk7 hz hB hS hrd hxd hxdv
    (try simp only [Act.put, sA, sB, sC])
    refine wpAnyH_done (by kernel_rfl) ?_ _
    have hgZ : BlkL bg x2.cs W7 := ⟨hg6.1.same (hS7.block bg hg6.2), Nat.lt_of_lt_of_le hg6.2 hS7.size⟩
    have hxoZ := hxo6.below hS7
    have hbZ : BlkL w.heap.size (rg4 ⟨b1, 7, 7, 0⟩) W7 := stab_blk _ _ _ _ hbx8 hS7
    clear hg6 hxo6 hbx8 hS7 hB8 hb0'
    go_upto_region 9 with fail
    go_wp2_with fail
    refine (cnew_any W7).mono ?_
    rintro e V1 ⟨rfl, hb1⟩
    obtain ⟨V2, hV2, hthV, hsV, hbV⟩ := new_stC V1 newC rfl nilS
    have hl1 := (Below.then hB7 hb1).size
    have y2 := hsV.ring
    have yf2 := (hsV.blk.1 2 _ rfl).2
    have hs2 : StAt V1.heap.size ⟨0, 0, rr, 0, [⟨0, 0, 4⟩, ⟨1, 0, 4⟩, ⟨2, 0, 4⟩, ⟨3, 0, 4⟩], [], false⟩ nilS (V2.setCell ⟨V1.heap.size, 2, none⟩ (.int .i64 rr)) := by
      have h1 := hsV.blk.1.set 2 (.int .i64 rr) (by show 2 < 18; decide)
      exact ⟨rfl, h1, h1.lt rfl⟩
    have hb2 : Below V1.heap.size V1 (V2.setCell ⟨V1.heap.size, 2, none⟩ (.int .i64 rr)) := hbV.setCell (p := ⟨V1.heap.size, 2, none⟩) (Nat.le_refl _) _
    obtain ⟨V3, hV3, hth3, hs3, hk3, -⟩ := hs2.putPtr (k := 1) (by decide) ⟨1, 0, 0⟩ (c' := mC rr) rfl rfl
    have hb3 : Below V1.heap.size V1 V3 := hk3 _ _ (Nat.le_refl _) hb2
    have hone8 : ∀ u ∈ stCs newC nilS, u.oneCell' = true := st_one _ _ rfl
    have hsz8 : (Try.prog.info? 29).map (·.size) = some (stCs newC nilS).length := by kernel_rfl
    obtain ⟨Y, hY⟩ : ∃ Y, stCs newC nilS = Y := ⟨_, rfl⟩
    rw [hY] at hV2 hthV hone8 hsz8
    have hYv : Aside (.agg (stCs newC nilS).toArray = Value.agg Y.toArray) := by rw [hY]; exact rfl
    have hg3 := stab_blk _ _ _ _ (stab_blk _ _ _ _ hgZ hb1) hb3
    have hd3 := stab_blk _ _ _ _ (stab_blk _ _ _ _ hd7 hb1) hb3
    have hbx3 := stab_blk _ _ _ _ (stab_blk _ _ _ _ hbZ hb1) hb3
    have hxo3 := (hxoZ.below hb1).below hb3
    have hda3 := (hda.below hb1).below hb3
    have hB3 := Below.then (Below.then hB7 hb1) hb3
    clear hY hsV hbV hs2 hb2 hk3 hgZ hd7 hbZ hxoZ hda hB7 hb1 hb3
    go_upto_region 11 with (first | (refine wpList_store_row rfl _ _ rfl V1.heap.size rfl Y hYv.out hthV hsz8 hone8 hV2 ?_) | fail)
    clear hV2 hthV hone8 hsz8 hYv y2 yf2
    go_upto_region 12 with (first | (refine wpList_store_part rfl _ _ rfl V1.heap.size 7 rfl (ptr3 ⟨1, 0, 0⟩) rfl hth3 hszP (ptr3J_one _) hV3 ?_) | fail)
    clear hV3 hth3
    generalize V1.heap.size = bs at *
    have hrg := hg3.range
    have hrd := hd3.range
    have hszx : (Try.prog.info? 39).map (·.size) = some x2.cs.length := by rw [pg_len]; exact hszG
    obtain ⟨hN4, hR4, hb4⟩ := mem_list V3 [x2, xd] (fun z hz => by
      rcases List.mem_cons.1 hz with rfl | hz
      · exact own_at hxo3
      · rw [List.mem_singleton.1 hz]; exact hda3) (x2.cs ++ xd.cs).toArray (by simp) 39 48 2 rfl
    have hMG : MG [x2, xd] := by
      obtain ⟨a1, c1, hv, -, hn, -⟩ := hxo3.slice wd_okC.len
      have hv' : Value.slice x2.wa x2.g.ws.length x2.wc = .slice a1 x2.g.ws.length c1 := hv
      injection hv' with e1 e2 e3
      refine ⟨by simp, fun z hz => ?_, fun z hz => ?_⟩
      · rcases List.mem_cons.1 hz with rfl | hz
        · rw [hx2g]; exact mG_ok 2 hr0 hr7
        · rw [List.mem_singleton.1 hz, hdg]; exact mD_ok md hb0 hb7
      · rcases List.mem_cons.1 hz with rfl | hz
        · rw [e1, e3]; exact hn
        · rw [List.mem_singleton.1 hz]; exact fun q => absurd q hdw
    have hM4 : MemO (V3.heap.size + 1) (some ⟨V3.heap.size, 0, none⟩) 2 [x2, xd] false 0 0 0 0 _ := ⟨hMG, ⟨by decide, by decide⟩, hN4, hR4⟩
    have hB4 := Below.then hB3 hb4
    have hs4 := hs3.keep hb4
    have hbx4 := stab_blk _ _ _ _ hbx3 hb4
    have hrs := hs4.blk.range
    have hrs3 := hs3.blk.range
    have ks := cstepV (mC rr) (mC_ok hr0 hr7) nilS hM4 (SV.nil _) (⟨0, { mC rr with off := 1 }, some (1, 0, 0), 0, false⟩) (by rw [show [x2, xd].map (·.g) = [mG 2 rr, mD md b1] by simp [hx2g, hdg]]; exact hst)
    have hszC : (Try.prog.info? 29).map (·.size) = some (stCs (mC rr) nilS).length := hszS
    have hlv : w.heap.size ≤ V3.heap.size := hB3.size
    have hwlt : w.heap.size < V3.heap.size := hbx3.2
    have hb4s := hb4.size
    clear hM4 hMG hN4 hR4 hs3 hbx3 hB3 hg3 hd3 hxo3 hda3 hst hx2g hdg hdw hb4 hs4
    go_wp2_with (first | (refine wpList_load_row rfl _ rfl bs rfl (stCs (mC rr) nilS) hrs3 hundS rfl hszC ?_) | (refine wpList_load_row rfl _ rfl bg rfl x2.cs hrg hundG rfl hszx ?_) | (refine wpList_load_row rfl _ rfl bd rfl xd.cs hrd hundG rfl hszd ?_) | (refine wpList_build2 pg_okC (by decide) rfl _ _ rfl x2.cs xd.cs rfl rfl rfl rfl ?_) | fail)
    refine ks.mono ?_
    rintro e V5 hP
    obtain ⟨vA, he, hvA, hbA⟩ := hP.any V3.heap.size (Nat.le_succ _) hb4s
    replace he : e = .returned (.tuple #[.agg (stCs ({ mC rr with off := 1 }) vA).toArray, .int .i64 0, .bool false, .int .i64 0]) := he
    subst he
    have hBA := hB4.trans (hbA.mono hlv)
    have hbxA : BlkL w.heap.size (rg4 ⟨b1, 7, 7, 0⟩) V5 := ⟨hbx4.1.same (hbA.block _ hwlt), Nat.lt_of_lt_of_le hbx4.2 hbA.size⟩
    obtain ⟨V6, hV6, hth6, hs6, hb6⟩ := new_stC V5 ({ mC rr with off := 1 }) rfl vA
    have hB6 := Below.then hBA hb6
    have hbx6 := stab_blk _ _ _ _ hbxA hb6
    have hone6 := st_one ({ mC rr with off := 1 }) vA hvA
    have hl6 : (stCs ({ mC rr with off := 1 }) vA).length = 18 := st_len rfl
    have u0 := hs6.seg
    have u1 := hs6.off
    have u2 := hs6.ring
    have x0 := (hbx6.1 0 _ rfl).1
    obtain ⟨X, hX⟩ : ∃ X, stCs ({ mC rr with off := 1 }) vA = X := ⟨_, rfl⟩
    have hXv : Aside (.agg (stCs ({ mC rr with off := 1 }) vA).toArray = Value.agg X.toArray) := by rw [hX]; exact rfl
    rw [hX] at hV6 hth6 hone6 hl6
    have hszX : (Try.prog.info? 29).map (·.size) = some X.length := by rw [hl6]; exact hszS
    clear ks hP hbA hBA hbxA hbx4 hB4 hs6 hb6 hX hl6 hbx6 hvA hrs hrs3
    go_wp2_with (first | (refine wpList_store_row rfl _ _ rfl V5.heap.size rfl X hXv.out hth6 hszX hone6 hV6 ?_) | fail)
    go_ret
    exact ⟨rfl, hB6⟩
  refine AllReadyH.cons (by simp only [gA, gB, gC]; rfl) (fun K hK => ?_) AllReadyH.nil
  have hb : Below w0.heap.size w0 (w0.alloc (.cells #[.bool false, .slice none 0 0, .int .i64 0, .int .i64 0, .int .i64 0, .int .i64 0, .int .i64 0] 39)) := alloc_below w0 _
  have hz : BlkL w0.heap.size (sgCs zeroG nilS) (w0.alloc (.cells #[.bool false, .slice none 0 0, .int .i64 0, .int .i64 0, .int .i64 0, .int .i64 0, .int .i64 0] 39)) := blkl_alloc w0 #[.bool false, .slice none 0 0, .int .i64 0, .int .i64 0, .int .i64 0, .int .i64 0, .int .i64 0] 39
  have hbd1 := hB.size
  have hbd2 := hS.size
  refine step_allocC (z := #[.bool false, .slice none 0 0, .int .i64 0, .int .i64 0, .int .i64 0, .int .i64 0, .int .i64 0]) rfl rfl (fun _ => rfl) ?_
  (try simp only [Act.put, sA, sB, sC])
  refine hK.out _ _ (Below.then hS hb) ?_
  clear hHeld hK
  intro hHeld
  replace hB := Below.then hB hb
  replace hS := Below.then hS hb
  clear hb
  generalize w0.alloc (.cells #[.bool false, .slice none 0 0, .int .i64 0, .int .i64 0, .int .i64 0, .int .i64 0, .int .i64 0] 39) = w1 at *
  generalize w0.heap.size = bd at *
  (try simp only [Act.put, sA, sB, sC])
  refine wpAnyH_ready (rs := [2]) (by kernel_rfl) (by simp) ?_
  refine AllReadyH.cons (by simp only [gA, gB, gC]; rfl) (fun K hK => ?_) AllReadyH.nil
  have hb := alloc_below w1 (.cells #[.int .i64 0, .int .i64 0, .int .i64 0] 2)
  have hrd := row_list (f := wcl) (sz := 1) (fun _ => rfl) w1 [0, 0, 0] #[.int .i64 0, .int .i64 0, .int .i64 0] rfl 2
  have hgd : bd < w1.heap.size := hz.2
  refine step_make3 rfl rfl ?_
  (try simp only [Act.put, sA, sB, sC])
  refine hK.out _ _ (Below.then hS hb) ?_
  clear hHeld hK
  intro hHeld
  replace hB := Below.then hB hb
  replace hS := Below.then hS hb
  replace hz := stab_blk _ _ _ _ hz hb
  clear hb
  generalize w1.alloc (.cells #[.int .i64 0, .int .i64 0, .int .i64 0] 2) = w2 at *
  generalize w1.heap.size = gd at *
  (try simp only [Act.put, sA, sB, sC])
  refine wpAnyH_take (i := 3) (v := ?_) (by simp only [gA, gB, gC]; rfl) (by kernel_rfl) (by kernel_rfl) (by kernel_rfl) (by exact fun _ _ _ h => h) (Or.inl ⟨by rfl, ?_⟩) (by assumption) ?_; rotate_left; (focus (intro w hSw; (try dsimp only at hSw); go_simp; try with_reducible rfl)); (try simp only [Act.put, sA, sB, sC])
  refine wpAnyH_ready (rs := [5]) (by kernel_rfl) (by simp) ?_
  refine AllReadyH.cons (by simp only [gA, gB, gC]; rfl) (fun K hK => ?_) AllReadyH.nil
  obtain ⟨xd, hxd⟩ : ∃ xd : PG, PG.mk (mD md b1) (some ⟨gd, 0, none⟩) 3 = xd := ⟨_, rfl⟩
  have hxdv : Aside (Value.agg #[.bool true, .slice (some ⟨gd, 0, none⟩) 3 3, .int .i64 md, .int .i64 b1, .int .i64 7, .int .i64 7, .int .i64 0] = .agg xd.cs.toArray) := by rw [← hxd]; exact rfl
  obtain ⟨W7, hW7, hth7, hd7, hk7⟩ := put_any hz (ds := xd.cs) (by rw [pg_len]; rfl) (by rw [pg_len]; decide)
  have hszd : (Try.prog.info? 39).map (·.size) = some xd.cs.length := by rw [pg_len]; exact hszG
  have hB7 := hk7 _ _ hbd1 hB
  have hS7 := hk7 _ _ hbd2 hS
  have hda : xd.At W7 := by rw [← hxd, ← hW7]; exact fun j u hu => by obtain ⟨y, hy, hc⟩ := hrd j u hu; refine ⟨y, hy, fun i hi => ?_⟩; obtain rfl := Option.some.inj hy; have h1 := hc i hi; rw [show (wcl u)[i]? = some (.int .i64 u) by obtain rfl : i = 0 := (by omega); rfl] at h1 ⊢; rw [add_at] at h1 ⊢; exact (World.cell?_of_block (a := ⟨gd, j * 1 + i, none⟩) (heap_setCells_other (show gd ≠ bd by omega) _ _ _)).trans h1
  have hdg : xd.g = mD md b1 := by rw [← hxd]
  have hdw : xd.wa ≠ none := by rw [← hxd]; intro q; cases q
  refine step_store_rowC rfl _ _ rfl bd rfl xd.cs hxdv.out hth7 hszd (pg_one _) hW7 ?_
  (try simp only [Act.put, sA, sB, sC])
  refine hK.out _ _ (hS7) ?_
  clear hHeld hK
  intro hHeld
  clear hW7 hth7 hk7 hz hB hS hrd hxd hxdv
  (try simp only [Act.put, sA, sB, sC])
  refine wpAnyH_done (by kernel_rfl) ?_ _
  have hgZ : BlkL bg x2.cs W7 := ⟨hg6.1.same (hS7.block bg hg6.2), Nat.lt_of_lt_of_le hg6.2 hS7.size⟩
  have hxoZ := hxo6.below hS7
  have hbZ : BlkL w.heap.size (rg4 ⟨b1, 7, 7, 0⟩) W7 := stab_blk _ _ _ _ hbx8 hS7
  clear hg6 hxo6 hbx8 hS7 hB8 hb0'
  go_upto_region 9 with fail
  go_wp2_with fail
  refine (cnew_any W7).mono ?_
  rintro e V1 ⟨rfl, hb1⟩
  obtain ⟨V2, hV2, hthV, hsV, hbV⟩ := new_stC V1 newC rfl nilS
  have hl1 := (Below.then hB7 hb1).size
  have y2 := hsV.ring
  have yf2 := (hsV.blk.1 2 _ rfl).2
  have hs2 : StAt V1.heap.size ⟨0, 0, rr, 0, [⟨0, 0, 4⟩, ⟨1, 0, 4⟩, ⟨2, 0, 4⟩, ⟨3, 0, 4⟩], [], false⟩ nilS (V2.setCell ⟨V1.heap.size, 2, none⟩ (.int .i64 rr)) := by
    have h1 := hsV.blk.1.set 2 (.int .i64 rr) (by show 2 < 18; decide)
    exact ⟨rfl, h1, h1.lt rfl⟩
  have hb2 : Below V1.heap.size V1 (V2.setCell ⟨V1.heap.size, 2, none⟩ (.int .i64 rr)) := hbV.setCell (p := ⟨V1.heap.size, 2, none⟩) (Nat.le_refl _) _
  obtain ⟨V3, hV3, hth3, hs3, hk3, -⟩ := hs2.putPtr (k := 1) (by decide) ⟨1, 0, 0⟩ (c' := mC rr) rfl rfl
  have hb3 : Below V1.heap.size V1 V3 := hk3 _ _ (Nat.le_refl _) hb2
  have hone8 : ∀ u ∈ stCs newC nilS, u.oneCell' = true := st_one _ _ rfl
  have hsz8 : (Try.prog.info? 29).map (·.size) = some (stCs newC nilS).length := by kernel_rfl
  obtain ⟨Y, hY⟩ : ∃ Y, stCs newC nilS = Y := ⟨_, rfl⟩
  rw [hY] at hV2 hthV hone8 hsz8
  have hYv : Aside (.agg (stCs newC nilS).toArray = Value.agg Y.toArray) := by rw [hY]; exact rfl
  have hg3 := stab_blk _ _ _ _ (stab_blk _ _ _ _ hgZ hb1) hb3
  have hd3 := stab_blk _ _ _ _ (stab_blk _ _ _ _ hd7 hb1) hb3
  have hbx3 := stab_blk _ _ _ _ (stab_blk _ _ _ _ hbZ hb1) hb3
  have hxo3 := (hxoZ.below hb1).below hb3
  have hda3 := (hda.below hb1).below hb3
  have hB3 := Below.then (Below.then hB7 hb1) hb3
  clear hY hsV hbV hs2 hb2 hk3 hgZ hd7 hbZ hxoZ hda hB7 hb1 hb3
  go_upto_region 11 with (first | (refine wpList_store_row rfl _ _ rfl V1.heap.size rfl Y hYv.out hthV hsz8 hone8 hV2 ?_) | fail)
  clear hV2 hthV hone8 hsz8 hYv y2 yf2
  go_upto_region 12 with (first | (refine wpList_store_part rfl _ _ rfl V1.heap.size 7 rfl (ptr3 ⟨1, 0, 0⟩) rfl hth3 hszP (ptr3J_one _) hV3 ?_) | fail)
  clear hV3 hth3
  generalize V1.heap.size = bs at *
  have hrg := hg3.range
  have hrd := hd3.range
  have hszx : (Try.prog.info? 39).map (·.size) = some x2.cs.length := by rw [pg_len]; exact hszG
  obtain ⟨hN4, hR4, hb4⟩ := mem_list V3 [x2, xd] (fun z hz => by
    rcases List.mem_cons.1 hz with rfl | hz
    · exact own_at hxo3
    · rw [List.mem_singleton.1 hz]; exact hda3) (x2.cs ++ xd.cs).toArray (by simp) 39 48 2 rfl
  have hMG : MG [x2, xd] := by
    obtain ⟨a1, c1, hv, -, hn, -⟩ := hxo3.slice wd_okC.len
    have hv' : Value.slice x2.wa x2.g.ws.length x2.wc = .slice a1 x2.g.ws.length c1 := hv
    injection hv' with e1 e2 e3
    refine ⟨by simp, fun z hz => ?_, fun z hz => ?_⟩
    · rcases List.mem_cons.1 hz with rfl | hz
      · rw [hx2g]; exact mG_ok 2 hr0 hr7
      · rw [List.mem_singleton.1 hz, hdg]; exact mD_ok md hb0 hb7
    · rcases List.mem_cons.1 hz with rfl | hz
      · rw [e1, e3]; exact hn
      · rw [List.mem_singleton.1 hz]; exact fun q => absurd q hdw
  have hM4 : MemO (V3.heap.size + 1) (some ⟨V3.heap.size, 0, none⟩) 2 [x2, xd] false 0 0 0 0 _ := ⟨hMG, ⟨by decide, by decide⟩, hN4, hR4⟩
  have hB4 := Below.then hB3 hb4
  have hs4 := hs3.keep hb4
  have hbx4 := stab_blk _ _ _ _ hbx3 hb4
  have hrs := hs4.blk.range
  have hrs3 := hs3.blk.range
  have ks := cstepV (mC rr) (mC_ok hr0 hr7) nilS hM4 (SV.nil _) (⟨0, { mC rr with off := 1 }, some (1, 0, 0), 0, false⟩) (by rw [show [x2, xd].map (·.g) = [mG 2 rr, mD md b1] by simp [hx2g, hdg]]; exact hst)
  have hszC : (Try.prog.info? 29).map (·.size) = some (stCs (mC rr) nilS).length := hszS
  have hlv : w.heap.size ≤ V3.heap.size := hB3.size
  have hwlt : w.heap.size < V3.heap.size := hbx3.2
  have hb4s := hb4.size
  clear hM4 hMG hN4 hR4 hs3 hbx3 hB3 hg3 hd3 hxo3 hda3 hst hx2g hdg hdw hb4 hs4
  go_wp2_with (first | (refine wpList_load_row rfl _ rfl bs rfl (stCs (mC rr) nilS) hrs3 hundS rfl hszC ?_) | (refine wpList_load_row rfl _ rfl bg rfl x2.cs hrg hundG rfl hszx ?_) | (refine wpList_load_row rfl _ rfl bd rfl xd.cs hrd hundG rfl hszd ?_) | (refine wpList_build2 pg_okC (by decide) rfl _ _ rfl x2.cs xd.cs rfl rfl rfl rfl ?_) | fail)
  refine ks.mono ?_
  rintro e V5 hP
  obtain ⟨vA, he, hvA, hbA⟩ := hP.any V3.heap.size (Nat.le_succ _) hb4s
  replace he : e = .returned (.tuple #[.agg (stCs ({ mC rr with off := 1 }) vA).toArray, .int .i64 0, .bool false, .int .i64 0]) := he
  subst he
  have hBA := hB4.trans (hbA.mono hlv)
  have hbxA : BlkL w.heap.size (rg4 ⟨b1, 7, 7, 0⟩) V5 := ⟨hbx4.1.same (hbA.block _ hwlt), Nat.lt_of_lt_of_le hbx4.2 hbA.size⟩
  obtain ⟨V6, hV6, hth6, hs6, hb6⟩ := new_stC V5 ({ mC rr with off := 1 }) rfl vA
  have hB6 := Below.then hBA hb6
  have hbx6 := stab_blk _ _ _ _ hbxA hb6
  have hone6 := st_one ({ mC rr with off := 1 }) vA hvA
  have hl6 : (stCs ({ mC rr with off := 1 }) vA).length = 18 := st_len rfl
  have u0 := hs6.seg
  have u1 := hs6.off
  have u2 := hs6.ring
  have x0 := (hbx6.1 0 _ rfl).1
  obtain ⟨X, hX⟩ : ∃ X, stCs ({ mC rr with off := 1 }) vA = X := ⟨_, rfl⟩
  have hXv : Aside (.agg (stCs ({ mC rr with off := 1 }) vA).toArray = Value.agg X.toArray) := by rw [hX]; exact rfl
  rw [hX] at hV6 hth6 hone6 hl6
  have hszX : (Try.prog.info? 29).map (·.size) = some X.length := by rw [hl6]; exact hszS
  clear ks hP hbA hBA hbxA hbx4 hB4 hs6 hb6 hX hl6 hbx6 hvA hrs hrs3
  go_wp2_with (first | (refine wpList_store_row rfl _ _ rfl V5.heap.size rfl X hXv.out hth6 hszX hone6 hV6 ?_) | fail)
  go_ret
  exact ⟨rfl, hB6⟩
set_option maxRecDepth 8000 in
set_option maxHeartbeats 8000000 in
theorem cpuModes2f (m0 r op md b1 rr : Int) (b : Rg) (hmd : m0 % 8 = md) (hrr : r % 8 = rr) (hbb : b.a % 8 = b1) (hk : op % 3 = 1) (hq : hasM md 2 = false) (w : World) :
    Calls Try.prog 7 #[.int .i64 m0, b.v, .int .i64 r, .int .i64 op] w fun e w' => e = .returned (.bool true) ∧ Below w.heap.size w w' := by
  have hundS := Try.underlying29
  have hszS : (Try.prog.info? 29).map (·.size) = some 18 := by kernel_rfl
  have hundG := Try.underlying39
  have hszG : (Try.prog.info? 39).map (·.size) = some 7 := by kernel_rfl
  have hundR := Try.underlying37
  have hszR : (Try.prog.info? 37).map (·.size) = some 4 := by kernel_rfl
  have hszP : (Try.prog.info? 25).map (·.size) = some 3 := by kernel_rfl
  have hmi : ∀ (v : Value) (w : World), (Instr.makeInterface 34 v).run Try.prog w = .ok (.iface 34 v) w := fun _ _ => rfl
  have hr0 : 0 ≤ rr := by omega
  have hr7 : rr ≤ 7 := by omega
  have hb0 : 0 ≤ b1 := by omega
  have hb7 : b1 ≤ 7 := by omega
  have k1 := fun W : World => w16_any m0 8 (by decide) (by decide) W
  have k2 := fun W : World => w16_any r 8 (by decide) (by decide) W
  have k3 := fun W : World => w16_any b.a 8 (by decide) (by decide) W
  have k4 := fun W : World => w16_any op 3 (by decide) (by decide) W
  simp only [hmd] at k1
  simp only [hrr] at k2
  simp only [hbb] at k3
  simp only [hk] at k4
  have hst : stepC (mC rr) [mG 2 rr, mD md b1] = flt 32 := by rw [m_step2 md b1 hr0 hr7, if_neg (fun q => by rw [hq] at q; exact absurd q.1 (by decide))]
  have fq0 : (bits .and .i64 md 2 != 0) = false := by unfold hasM at hq; simpa using hq
  clear hmd hrr hbb hk
  have hbx0 := blkl_alloc w (rg4 b).toArray 37
  have hBx0 := alloc_below w (.cells (rg4 b).toArray 37)
  replace hbx0 : BlkL w.heap.size (rg4 b) (w.alloc (.cells #[.int .i64 b.a, .int .i64 b.b, .int .i64 b.c, .int .i64 b.g] 37)) := hbx0
  replace hBx0 : Below w.heap.size w (w.alloc (.cells #[.int .i64 b.a, .int .i64 b.b, .int .i64 b.c, .int .i64 b.g] 37)) := hBx0
  go_enter Try.func7, Try.ntmps7
  go_upto_region 1 with fail
  generalize w.alloc (.cells #[.int .i64 b.a, .int .i64 b.b, .int .i64 b.c, .int .i64 b.g] 37) = U0 at *
  go_wp2_with fail
  refine (ck_any U0).mono ?_
  rintro e W1 ⟨rfl, hb1⟩
  have hbx1 := stab_blk _ _ _ _ hbx0 hb1
  have hB1 := Below.then hBx0 hb1
  clear hb1 hbx0 hBx0
  go_wp2_with fail
  refine (k1 W1).mono ?_
  rintro e W2 ⟨rfl, hw⟩
  rw [hw]
  clear hw W2
  go_wp2_with fail
  refine (k2 W1).mono ?_
  rintro e W2 ⟨rfl, hw⟩
  rw [hw]
  clear hw W2
  have y0 := (hbx1.1 0 _ rfl).1
  go_wp2_with fail
  refine (k3 W1).mono ?_
  rintro e W2 ⟨rfl, hw⟩
  rw [hw]
  clear hw W2 y0
  obtain ⟨U3, hU3, hthU, hbx3, hkU⟩ := put_any hbx1 (ds := rg4 ⟨b1, 7, 7, 0⟩) rfl (by show 0 < 4; decide)
  have hB3 := hkU _ _ (Nat.le_refl _) hB1
  go_upto_region 5 with (first | (refine wpList_store_row rfl _ _ rfl w.heap.size rfl (rg4 ⟨b1, 7, 7, 0⟩) rfl hthU hszR (rg4_one _) hU3 ?_) | fail)
  clear hU3 hthU hkU hbx1 hB1
  have hbA := alloc_below U3 (.cells #[.int .i64 1, .int .i64 2, .int .i64 20] 3)
  have hbx4 := stab_blk _ _ _ _ hbx3 hbA
  have hB4 := Below.then hB3 hbA
  go_wp2_with fail
  refine (k4 _).mono ?_
  rintro e W2 ⟨rfl, hw⟩
  rw [hw]
  clear hw W2
  go_upto_region 6 with fail
  clear hbA hbx3 hB3 k1 k2 k3 k4
  generalize U3.alloc (.cells #[.int .i64 1, .int .i64 2, .int .i64 20] 3) = W1 at *
  have hbi := alloc_below W1 (.cells (ins3 ⟨2, 1, 0⟩).toArray 42)
  have hri := row_list (f := ins3) (sz := 3) (fun _ => rfl) W1 [⟨2, 1, 0⟩] #[.int .i64 2, .int .i64 1, .int .i64 0] rfl 42
  have ko := cone_any [⟨2, 1, 0⟩] [] (some ⟨W1.heap.size, 0, none⟩) none 1 0 (by show 1 ≤ 100; decide) (by show 0 ≤ 100; decide) (fun _ => rfl) _ hri (fun j y h => by simp at h)
  have hbx5 := stab_blk _ _ _ _ hbx4 hbi
  have hB5 := Below.then hB4 hbi
  clear hri hbi hbx4 hB4
  go_wp2_with fail
  refine ko.mono ?_
  rintro e W4 ⟨x, hxg, rfl, hxo, hb4⟩
  have hbx6 := stab_blk _ _ _ _ hbx5 hb4
  have hB6 := Below.then hB5 hb4
  clear ko hb4 hbx5 hB5
  obtain ⟨W5, hW5, hth5, hg5, hb5⟩ := put_new W4 (sgCs zeroG nilS).toArray 39 x.cs (by rw [pg_len]; rfl) (by rw [pg_len]; decide)
  have hB7 := Below.then hB6 hb5
  have hbx7 := stab_blk _ _ _ _ hbx6 hb5
  have hxo5 := hxo.below hb5
  have hltb := hbx6.2
  go_upto_region 7 with (first | (refine wpList_store_row rfl _ _ rfl W4.heap.size rfl x.cs rfl hth5 hszG (pg_one _) hW5 ?_) | fail)
  have hxb : ∀ k, x.v.ownBlock = some k → k < W4.heap.size := fun k hk => (hxo.lt hk).2
  have hlt4 := hB6.size
  clear hW5 hth5 hxo hb5 hbx6 hB6
  generalize W4.heap.size = bg at *
  have hl5 : 3 + (rg4 ⟨rr, rr, rr, 0⟩).length ≤ x.cs.length := by rw [pg_len]; show 3 + 4 ≤ 7; decide
  have h6 := Blk.putM (rg4 ⟨rr, rr, rr, 0⟩) 3 hg5.1 hl5
  obtain ⟨x2, hx2⟩ : ∃ x2 : PG, PG.mk (mG 2 rr) x.wa x.wc = x2 := ⟨_, rfl⟩
  have hx2c : setM x.cs 3 (rg4 ⟨rr, rr, rr, 0⟩) = x2.cs := by
    rw [← hx2]
    unfold PG.cs PG.v
    rw [hxg]
    rfl
  rw [hx2c] at h6
  obtain ⟨W6, hW6⟩ : ∃ W6, W5.setCells bg 3 (rg4 ⟨rr, rr, rr, 0⟩) = W6 := ⟨_, rfl⟩
  have hth6 := hg5.1.thereM 3 (rg4 ⟨rr, rr, rr, 0⟩).length hl5
  rw [hW6] at h6
  have hg6 : BlkL bg x2.cs W6 := ⟨h6, h6.lt (List.getElem?_eq_getElem (by rw [pg_len]; decide : 0 < x2.cs.length))⟩
  have hB8 : Below w.heap.size w W6 := by rw [← hW6]; exact Below.cells hlt4 _ _ hB7
  have hbx8 : BlkL w.heap.size (rg4 ⟨b1, 7, 7, 0⟩) W6 := by
    rw [← hW6]
    exact ⟨hbx7.1.same (heap_setCells_other (by omega) _ _ _), Nat.lt_of_lt_of_le hbx7.2 (Below.cells (B := 0) (Nat.zero_le _) _ _ (Below.refl 0 W5)).size⟩
  have hxe : x2.v = x.v := by
    rw [← hx2]
    unfold PG.v
    rw [hxg]
    rfl
  have hxw : x2.g.ws = x.g.ws := by rw [← hx2, hxg]; rfl
  have hxo6 : OwnR 2 1 wcl W6 0 x2.v x2.g.ws := by
    rw [hxe, hxw, ← hW6]
    exact (hxo5.keep fun k hk => heap_setCells_other (by have := hxb k hk; omega) _ _ _).lower (Nat.zero_le _)
  have hx2g : x2.g = mG 2 rr := by rw [← hx2]
  clear h6 hg5 hxo5 hxb hB7 hbx7 hxe hxw hx2 hx2c hxg
  go_upto_region 8 with (first | (refine wpList_store_part rfl _ _ rfl bg 3 rfl (rg4 ⟨rr, rr, rr, 0⟩) rfl hth6 hszR (rg4_one _) hW6 ?_) | fail)
  clear hW6 hth6 hl5
  generalize hZ0 : W6 = Z at *
  clear hZ0
  have hb0' := hbx8
  have hS := (Below.refl Z.heap.size Z).drew
  have hB := Below.then hB8 hS
  refine wp_region_held_drew (S := (fun W => Below Z.heap.size Z W)) (by kernel_rfl) (by exact hS) ?_
  intro hHeld
  generalize Z.drew = w0 at *
  refine wpAnyH_take (i := 0) (v := ?_) (by simp only [gA, gB, gC]; rfl) (by kernel_rfl) (by kernel_rfl) (by kernel_rfl) (by exact fun _ _ _ h => h) (Or.inl ⟨by rfl, ?_⟩) (by assumption) ?_; rotate_left; (focus (intro w hSw; (try dsimp only at hSw); go_simp; try with_reducible rfl)); (try simp only [Act.put, sA, sB, sC])
  refine wpAnyH_take (i := 1) (v := _) (by simp only [gA, gB, gC]; rfl) (by kernel_rfl) (by kernel_rfl) (by kernel_rfl) (by exact fun _ _ _ h => h) (yields_row (by rfl) _ rfl w.heap.size rfl (rg4 ⟨b1, 7, 7, 0⟩) (fun _ q => (stab_blk _ _ _ _ hbx8 q).range) hundR rfl hszR) (by assumption) ?_; (try simp only [Act.put, sA, sB, sC])
  refine wpAnyH_ready (rs := [2, 4]) (by kernel_rfl) (by simp) ?_
  refine AllReadyH.cons (by simp only [gA, gB, gC]; rfl) (fun K hK => ?_) ?_
  · skip
    have hb := alloc_below w0 (.cells #[.int .i64 0, .int .i64 0, .int .i64 0] 2)
    have hrd := row_list (f := wcl) (sz := 1) (fun _ => rfl) w0 [0, 0, 0] #[.int .i64 0, .int .i64 0, .int .i64 0] rfl 2
    refine step_make3 rfl rfl ?_
    (try simp only [Act.put, sA, sB, sC])
    refine hK.out _ _ (Below.then hS hb) ?_
    clear hHeld hK
    intro hHeld
    replace hB := Below.then hB hb
    replace hS := Below.then hS hb
    clear hb
    generalize w0.alloc (.cells #[.int .i64 0, .int .i64 0, .int .i64 0] 2) = w1 at *
    generalize w0.heap.size = gd at *
    (try simp only [Act.put, sA, sB, sC])
    refine wpAnyH_take (i := 3) (v := ?_) (by simp only [gA, gB, gC]; rfl) (by kernel_rfl) (by kernel_rfl) (by kernel_rfl) (by exact fun _ _ _ h => h) (Or.inl ⟨by rfl, ?_⟩) (by assumption) ?_; rotate_left; (focus (intro w hSw; (try dsimp only at hSw); go_simp; try with_reducible rfl)); (try simp only [Act.put, sA, sB, sC])
    refine wpAnyH_ready (rs := [4]) (by kernel_rfl) (by simp) ?_
    refine AllReadyH.cons (by simp only [gA, gB, gC]; rfl) (fun K hK => ?_) AllReadyH.nil
    have hb : Below w1.heap.size w1 (w1.alloc (.cells #[.bool false, .slice none 0 0, .int .i64 0, .int .i64 0, .int .i64 0, .int .i64 0, .int .i64 0] 39)) := alloc_below w1 _
    have hz : BlkL w1.heap.size (sgCs zeroG nilS) (w1.alloc (.cells #[.bool false, .slice none 0 0, .int .i64 0, .int .i64 0, .int .i64 0, .int .i64 0, .int .i64 0] 39)) := blkl_alloc w1 #[.bool false, .slice none 0 0, .int .i64 0, .int .i64 0, .int .i64 0, .int .i64 0, .int .i64 0] 39
    have hgd : gd < w1.heap.size := by obtain ⟨y, hy, hc⟩ := hrd 0 0 rfl; obtain rfl := Option.some.inj hy; have h1 := hc 0 (by decide); rw [add_at] at h1; exact World.block_lt_of_cell? _ _ (h1.trans rfl)
    have hbd1 := hB.size
    have hbd2 := hS.size
    refine step_allocC (z := #[.bool false, .slice none 0 0, .int .i64 0, .int .i64 0, .int .i64 0, .int .i64 0, .int .i64 0]) rfl rfl (fun _ => rfl) ?_
    (try simp only [Act.put, sA, sB, sC])
    refine hK.out _ _ (Below.then hS hb) ?_
    clear hHeld hK
    intro hHeld
    replace hB := Below.then hB hb
    replace hS := Below.then hS hb
    replace hrd := hrd.below wd_okC.len hb
    clear hb
    generalize w1.alloc (.cells #[.bool false, .slice none 0 0, .int .i64 0, .int .i64 0, .int .i64 0, .int .i64 0, .int .i64 0] 39) = w2 at *
    generalize w1.heap.size = bd at *
    (try simp only [Act.put, sA, sB, sC])
    refine wpAnyH_ready (rs := [5]) (by kernel_rfl) (by simp) ?_
    refine AllReadyH.cons (by simp only [gA, gB, gC]; rfl) (fun K hK => ?_) AllReadyH.nil
    obtain ⟨xd, hxd⟩ : ∃ xd : PG, PG.mk (mD md b1) (some ⟨gd, 0, none⟩) 3 = xd := ⟨_, rfl⟩
    have hxdv : Aside (Value.agg #[.bool true, .slice (some ⟨gd, 0, none⟩) 3 3, .int .i64 md, .int .i64 b1, .int .i64 7, .int .i64 7, .int .i64 0] = .agg xd.cs.toArray) := by rw [← hxd]; exact rfl
    obtain ⟨W7, hW7, hth7, hd7, hk7⟩ := put_any hz (ds := xd.cs) (by rw [pg_len]; rfl) (by rw [pg_len]; decide)
    have hszd : (Try.prog.info? 39).map (·.size) = some xd.cs.length := by rw [pg_len]; exact hszG
    have hB7 := hk7 _ _ hbd1 hB
    have hS7 := hk7 _ _ hbd2 hS
    have hda : xd.At W7 := by rw [← hxd, ← hW7]; exact fun j u hu => by obtain ⟨y, hy, hc⟩ := hrd j u hu; refine ⟨y, hy, fun i hi => ?_⟩; obtain rfl := Option.some.inj hy; have h1 := hc i hi; rw [show (wcl u)[i]? = some (.int .i64 u) by obtain rfl : i = 0 := (by omega); rfl] at h1 ⊢; rw [add_at] at h1 ⊢; exact (World.cell?_of_block (a := ⟨gd, j * 1 + i, none⟩) (heap_setCells_other (show gd ≠ bd by omega) _ _ _)).trans h1
    have hdg : xd.g = mD md b1 := by rw [← hxd]
    have hdw : xd.wa ≠ none := by rw [← hxd]; intro q; cases q
    refine step_store_rowC rfl _ _ rfl bd rfl xd.cs hxdv.out hth7 hszd (pg_one _) hW7 ?_
    (try simp only [Act.put, sA, sB, sC])
    refine hK.out _ _ (hS7) ?_
    clear hHeld hK
    intro hHeld
    clear hW7 hth7 hk7 hz hB hS hrd hxd hxdv
    (try simp only [Act.put, sA, sB, sC])
    refine wpAnyH_done (by kernel_rfl) ?_ _
    have hgZ : BlkL bg x2.cs W7 := ⟨hg6.1.same (hS7.block bg hg6.2), Nat.lt_of_lt_of_le hg6.2 hS7.size⟩
    have hxoZ := hxo6.below hS7
    have hbZ : BlkL w.heap.size (rg4 ⟨b1, 7, 7, 0⟩) W7 := stab_blk _ _ _ _ hbx8 hS7
    clear hg6 hxo6 hbx8 hS7 hB8 hb0'
    go_upto_region 9 with fail
    go_wp2_with fail
    refine (cnew_any W7).mono ?_
    rintro e V1 ⟨rfl, hb1⟩
    obtain ⟨V2, hV2, hthV, hsV, hbV⟩ := new_stC V1 newC rfl nilS
    have hl1 := (Below.then hB7 hb1).size
    have y2 := hsV.ring
    have yf2 := (hsV.blk.1 2 _ rfl).2
    have hs2 : StAt V1.heap.size ⟨0, 0, rr, 0, [⟨0, 0, 4⟩, ⟨1, 0, 4⟩, ⟨2, 0, 4⟩, ⟨3, 0, 4⟩], [], false⟩ nilS (V2.setCell ⟨V1.heap.size, 2, none⟩ (.int .i64 rr)) := by
      have h1 := hsV.blk.1.set 2 (.int .i64 rr) (by show 2 < 18; decide)
      exact ⟨rfl, h1, h1.lt rfl⟩
    have hb2 : Below V1.heap.size V1 (V2.setCell ⟨V1.heap.size, 2, none⟩ (.int .i64 rr)) := hbV.setCell (p := ⟨V1.heap.size, 2, none⟩) (Nat.le_refl _) _
    obtain ⟨V3, hV3, hth3, hs3, hk3, -⟩ := hs2.putPtr (k := 1) (by decide) ⟨1, 0, 0⟩ (c' := mC rr) rfl rfl
    have hb3 : Below V1.heap.size V1 V3 := hk3 _ _ (Nat.le_refl _) hb2
    have hone8 : ∀ u ∈ stCs newC nilS, u.oneCell' = true := st_one _ _ rfl
    have hsz8 : (Try.prog.info? 29).map (·.size) = some (stCs newC nilS).length := by kernel_rfl
    obtain ⟨Y, hY⟩ : ∃ Y, stCs newC nilS = Y := ⟨_, rfl⟩
    rw [hY] at hV2 hthV hone8 hsz8
    have hYv : Aside (.agg (stCs newC nilS).toArray = Value.agg Y.toArray) := by rw [hY]; exact rfl
    have hg3 := stab_blk _ _ _ _ (stab_blk _ _ _ _ hgZ hb1) hb3
    have hd3 := stab_blk _ _ _ _ (stab_blk _ _ _ _ hd7 hb1) hb3
    have hbx3 := stab_blk _ _ _ _ (stab_blk _ _ _ _ hbZ hb1) hb3
    have hxo3 := (hxoZ.below hb1).below hb3
    have hda3 := (hda.below hb1).below hb3
    have hB3 := Below.then (Below.then hB7 hb1) hb3
    clear hY hsV hbV hs2 hb2 hk3 hgZ hd7 hbZ hxoZ hda hB7 hb1 hb3
    go_upto_region 11 with (first | (refine wpList_store_row rfl _ _ rfl V1.heap.size rfl Y hYv.out hthV hsz8 hone8 hV2 ?_) | fail)
    clear hV2 hthV hone8 hsz8 hYv y2 yf2
    go_upto_region 12 with (first | (refine wpList_store_part rfl _ _ rfl V1.heap.size 7 rfl (ptr3 ⟨1, 0, 0⟩) rfl hth3 hszP (ptr3J_one _) hV3 ?_) | fail)
    clear hV3 hth3
    generalize V1.heap.size = bs at *
    have hrg := hg3.range
    have hrd := hd3.range
    have hszx : (Try.prog.info? 39).map (·.size) = some x2.cs.length := by rw [pg_len]; exact hszG
    obtain ⟨hN4, hR4, hb4⟩ := mem_list V3 [x2, xd] (fun z hz => by
      rcases List.mem_cons.1 hz with rfl | hz
      · exact own_at hxo3
      · rw [List.mem_singleton.1 hz]; exact hda3) (x2.cs ++ xd.cs).toArray (by simp) 39 48 2 rfl
    have hMG : MG [x2, xd] := by
      obtain ⟨a1, c1, hv, -, hn, -⟩ := hxo3.slice wd_okC.len
      have hv' : Value.slice x2.wa x2.g.ws.length x2.wc = .slice a1 x2.g.ws.length c1 := hv
      injection hv' with e1 e2 e3
      refine ⟨by simp, fun z hz => ?_, fun z hz => ?_⟩
      · rcases List.mem_cons.1 hz with rfl | hz
        · rw [hx2g]; exact mG_ok 2 hr0 hr7
        · rw [List.mem_singleton.1 hz, hdg]; exact mD_ok md hb0 hb7
      · rcases List.mem_cons.1 hz with rfl | hz
        · rw [e1, e3]; exact hn
        · rw [List.mem_singleton.1 hz]; exact fun q => absurd q hdw
    have hM4 : MemO (V3.heap.size + 1) (some ⟨V3.heap.size, 0, none⟩) 2 [x2, xd] false 0 0 0 0 _ := ⟨hMG, ⟨by decide, by decide⟩, hN4, hR4⟩
    have hB4 := Below.then hB3 hb4
    have hs4 := hs3.keep hb4
    have hbx4 := stab_blk _ _ _ _ hbx3 hb4
    have hrs := hs4.blk.range
    have hrs3 := hs3.blk.range
    have ks := cstepV (mC rr) (mC_ok hr0 hr7) nilS hM4 (SV.nil _) (flt 32) (by rw [show [x2, xd].map (·.g) = [mG 2 rr, mD md b1] by simp [hx2g, hdg]]; exact hst)
    have hszC : (Try.prog.info? 29).map (·.size) = some (stCs (mC rr) nilS).length := hszS
    have hlv : w.heap.size ≤ V3.heap.size := hB3.size
    have hwlt : w.heap.size < V3.heap.size := hbx3.2
    have hb4s := hb4.size
    clear hM4 hMG hN4 hR4 hs3 hbx3 hB3 hg3 hd3 hxo3 hda3 hst hx2g hdg hdw hb4 hs4
    go_wp2_with (first | (refine wpList_load_row rfl _ rfl bs rfl (stCs (mC rr) nilS) hrs3 hundS rfl hszC ?_) | (refine wpList_load_row rfl _ rfl bg rfl x2.cs hrg hundG rfl hszx ?_) | (refine wpList_load_row rfl _ rfl bd rfl xd.cs hrd hundG rfl hszd ?_) | (refine wpList_build2 pg_okC (by decide) rfl _ _ rfl x2.cs xd.cs rfl rfl rfl rfl ?_) | fail)
    refine ks.mono ?_
    rintro e V5 hP
    obtain ⟨vA, he, hvA, hbA⟩ := hP.any V3.heap.size (Nat.le_succ _) hb4s
    replace he : e = .returned (.tuple #[.agg (stCs (zeroC) vA).toArray, .int .i64 0, .bool false, .int .i64 32]) := he
    subst he
    have hBA := hB4.trans (hbA.mono hlv)
    have hbxA : BlkL w.heap.size (rg4 ⟨b1, 7, 7, 0⟩) V5 := ⟨hbx4.1.same (hbA.block _ hwlt), Nat.lt_of_lt_of_le hbx4.2 hbA.size⟩
    obtain ⟨V6, hV6, hth6, hs6, hb6⟩ := new_stC V5 (zeroC) rfl vA
    have hB6 := Below.then hBA hb6
    have hbx6 := stab_blk _ _ _ _ hbxA hb6
    have hone6 := st_one (zeroC) vA hvA
    have hl6 : (stCs (zeroC) vA).length = 18 := st_len rfl
    have u0 := hs6.seg
    have u1 := hs6.off
    have u2 := hs6.ring
    have x0 := (hbx6.1 0 _ rfl).1
    obtain ⟨X, hX⟩ : ∃ X, stCs (zeroC) vA = X := ⟨_, rfl⟩
    have hXv : Aside (.agg (stCs (zeroC) vA).toArray = Value.agg X.toArray) := by rw [hX]; exact rfl
    rw [hX] at hV6 hth6 hone6 hl6
    have hszX : (Try.prog.info? 29).map (·.size) = some X.length := by rw [hl6]; exact hszS
    clear ks hP hbA hBA hbxA hbx4 hB4 hs6 hb6 hX hl6 hbx6 hvA hrs hrs3
    go_wp2_with (first | (refine wpList_store_row rfl _ _ rfl V5.heap.size rfl X hXv.out hth6 hszX hone6 hV6 ?_) | fail)
    go_ret
    exact ⟨rfl, hB6⟩
  refine AllReadyH.cons (by simp only [gA, gB, gC]; rfl) (fun K hK => ?_) AllReadyH.nil
  have hb : Below w0.heap.size w0 (w0.alloc (.cells #[.bool false, .slice none 0 0, .int .i64 0, .int .i64 0, .int .i64 0, .int .i64 0, .int .i64 0] 39)) := alloc_below w0 _
  have hz : BlkL w0.heap.size (sgCs zeroG nilS) (w0.alloc (.cells #[.bool false, .slice none 0 0, .int .i64 0, .int .i64 0, .int .i64 0, .int .i64 0, .int .i64 0] 39)) := blkl_alloc w0 #[.bool false, .slice none 0 0, .int .i64 0, .int .i64 0, .int .i64 0, .int .i64 0, .int .i64 0] 39
  have hbd1 := hB.size
  have hbd2 := hS.size
  refine step_allocC (z := #[.bool false, .slice none 0 0, .int .i64 0, .int .i64 0, .int .i64 0, .int .i64 0, .int .i64 0]) rfl rfl (fun _ => rfl) ?_
  (try simp only [Act.put, sA, sB, sC])
  refine hK.out _ _ (Below.then hS hb) ?_
  clear hHeld hK
  intro hHeld
  replace hB := Below.then hB hb
  replace hS := Below.then hS hb
  clear hb
  generalize w0.alloc (.cells #[.bool false, .slice none 0 0, .int .i64 0, .int .i64 0, .int .i64 0, .int .i64 0, .int .i64 0] 39) = w1 at *
  generalize w0.heap.size = bd at *
  (try simp only [Act.put, sA, sB, sC])
  refine wpAnyH_ready (rs := [2]) (by kernel_rfl) (by simp) ?_
  refine AllReadyH.cons (by simp only [gA, gB, gC]; rfl) (fun K hK => ?_) AllReadyH.nil
  have hb := alloc_below w1 (.cells #[.int .i64 0, .int .i64 0, .int .i64 0] 2)
  have hrd := row_list (f := wcl) (sz := 1) (fun _ => rfl) w1 [0, 0, 0] #[.int .i64 0, .int .i64 0, .int .i64 0] rfl 2
  have hgd : bd < w1.heap.size := hz.2
  refine step_make3 rfl rfl ?_
  (try simp only [Act.put, sA, sB, sC])
  refine hK.out _ _ (Below.then hS hb) ?_
  clear hHeld hK
  intro hHeld
  replace hB := Below.then hB hb
  replace hS := Below.then hS hb
  replace hz := stab_blk _ _ _ _ hz hb
  clear hb
  generalize w1.alloc (.cells #[.int .i64 0, .int .i64 0, .int .i64 0] 2) = w2 at *
  generalize w1.heap.size = gd at *
  (try simp only [Act.put, sA, sB, sC])
  refine wpAnyH_take (i := 3) (v := ?_) (by simp only [gA, gB, gC]; rfl) (by kernel_rfl) (by kernel_rfl) (by kernel_rfl) (by exact fun _ _ _ h => h) (Or.inl ⟨by rfl, ?_⟩) (by assumption) ?_; rotate_left; (focus (intro w hSw; (try dsimp only at hSw); go_simp; try with_reducible rfl)); (try simp only [Act.put, sA, sB, sC])
  refine wpAnyH_ready (rs := [5]) (by kernel_rfl) (by simp) ?_
  refine AllReadyH.cons (by simp only [gA, gB, gC]; rfl) (fun K hK => ?_) AllReadyH.nil
  obtain ⟨xd, hxd⟩ : ∃ xd : PG, PG.mk (mD md b1) (some ⟨gd, 0, none⟩) 3 = xd := ⟨_, rfl⟩
  have hxdv : Aside (Value.agg #[.bool true, .slice (some ⟨gd, 0, none⟩) 3 3, .int .i64 md, .int .i64 b1, .int .i64 7, .int .i64 7, .int .i64 0] = .agg xd.cs.toArray) := by rw [← hxd]; exact rfl
  obtain ⟨W7, hW7, hth7, hd7, hk7⟩ := put_any hz (ds := xd.cs) (by rw [pg_len]; rfl) (by rw [pg_len]; decide)
  have hszd : (Try.prog.info? 39).map (·.size) = some xd.cs.length := by rw [pg_len]; exact hszG
  have hB7 := hk7 _ _ hbd1 hB
  have hS7 := hk7 _ _ hbd2 hS
  have hda : xd.At W7 := by rw [← hxd, ← hW7]; exact fun j u hu => by obtain ⟨y, hy, hc⟩ := hrd j u hu; refine ⟨y, hy, fun i hi => ?_⟩; obtain rfl := Option.some.inj hy; have h1 := hc i hi; rw [show (wcl u)[i]? = some (.int .i64 u) by obtain rfl : i = 0 := (by omega); rfl] at h1 ⊢; rw [add_at] at h1 ⊢; exact (World.cell?_of_block (a := ⟨gd, j * 1 + i, none⟩) (heap_setCells_other (show gd ≠ bd by omega) _ _ _)).trans h1
  have hdg : xd.g = mD md b1 := by rw [← hxd]
  have hdw : xd.wa ≠ none := by rw [← hxd]; intro q; cases q
  refine step_store_rowC rfl _ _ rfl bd rfl xd.cs hxdv.out hth7 hszd (pg_one _) hW7 ?_
  (try simp only [Act.put, sA, sB, sC])
  refine hK.out _ _ (hS7) ?_
  clear hHeld hK
  intro hHeld
  clear hW7 hth7 hk7 hz hB hS hrd hxd hxdv
  (try simp only [Act.put, sA, sB, sC])
  refine wpAnyH_done (by kernel_rfl) ?_ _
  have hgZ : BlkL bg x2.cs W7 := ⟨hg6.1.same (hS7.block bg hg6.2), Nat.lt_of_lt_of_le hg6.2 hS7.size⟩
  have hxoZ := hxo6.below hS7
  have hbZ : BlkL w.heap.size (rg4 ⟨b1, 7, 7, 0⟩) W7 := stab_blk _ _ _ _ hbx8 hS7
  clear hg6 hxo6 hbx8 hS7 hB8 hb0'
  go_upto_region 9 with fail
  go_wp2_with fail
  refine (cnew_any W7).mono ?_
  rintro e V1 ⟨rfl, hb1⟩
  obtain ⟨V2, hV2, hthV, hsV, hbV⟩ := new_stC V1 newC rfl nilS
  have hl1 := (Below.then hB7 hb1).size
  have y2 := hsV.ring
  have yf2 := (hsV.blk.1 2 _ rfl).2
  have hs2 : StAt V1.heap.size ⟨0, 0, rr, 0, [⟨0, 0, 4⟩, ⟨1, 0, 4⟩, ⟨2, 0, 4⟩, ⟨3, 0, 4⟩], [], false⟩ nilS (V2.setCell ⟨V1.heap.size, 2, none⟩ (.int .i64 rr)) := by
    have h1 := hsV.blk.1.set 2 (.int .i64 rr) (by show 2 < 18; decide)
    exact ⟨rfl, h1, h1.lt rfl⟩
  have hb2 : Below V1.heap.size V1 (V2.setCell ⟨V1.heap.size, 2, none⟩ (.int .i64 rr)) := hbV.setCell (p := ⟨V1.heap.size, 2, none⟩) (Nat.le_refl _) _
  obtain ⟨V3, hV3, hth3, hs3, hk3, -⟩ := hs2.putPtr (k := 1) (by decide) ⟨1, 0, 0⟩ (c' := mC rr) rfl rfl
  have hb3 : Below V1.heap.size V1 V3 := hk3 _ _ (Nat.le_refl _) hb2
  have hone8 : ∀ u ∈ stCs newC nilS, u.oneCell' = true := st_one _ _ rfl
  have hsz8 : (Try.prog.info? 29).map (·.size) = some (stCs newC nilS).length := by kernel_rfl
  obtain ⟨Y, hY⟩ : ∃ Y, stCs newC nilS = Y := ⟨_, rfl⟩
  rw [hY] at hV2 hthV hone8 hsz8
  have hYv : Aside (.agg (stCs newC nilS).toArray = Value.agg Y.toArray) := by rw [hY]; exact rfl
  have hg3 := stab_blk _ _ _ _ (stab_blk _ _ _ _ hgZ hb1) hb3
  have hd3 := stab_blk _ _ _ _ (stab_blk _ _ _ _ hd7 hb1) hb3
  have hbx3 := stab_blk _ _ _ _ (stab_blk _ _ _ _ hbZ hb1) hb3
  have hxo3 := (hxoZ.below hb1).below hb3
  have hda3 := (hda.below hb1).below hb3
  have hB3 := Below.then (Below.then hB7 hb1) hb3
  clear hY hsV hbV hs2 hb2 hk3 hgZ hd7 hbZ hxoZ hda hB7 hb1 hb3
  go_upto_region 11 with (first | (refine wpList_store_row rfl _ _ rfl V1.heap.size rfl Y hYv.out hthV hsz8 hone8 hV2 ?_) | fail)
  clear hV2 hthV hone8 hsz8 hYv y2 yf2
  go_upto_region 12 with (first | (refine wpList_store_part rfl _ _ rfl V1.heap.size 7 rfl (ptr3 ⟨1, 0, 0⟩) rfl hth3 hszP (ptr3J_one _) hV3 ?_) | fail)
  clear hV3 hth3
  generalize V1.heap.size = bs at *
  have hrg := hg3.range
  have hrd := hd3.range
  have hszx : (Try.prog.info? 39).map (·.size) = some x2.cs.length := by rw [pg_len]; exact hszG
  obtain ⟨hN4, hR4, hb4⟩ := mem_list V3 [x2, xd] (fun z hz => by
    rcases List.mem_cons.1 hz with rfl | hz
    · exact own_at hxo3
    · rw [List.mem_singleton.1 hz]; exact hda3) (x2.cs ++ xd.cs).toArray (by simp) 39 48 2 rfl
  have hMG : MG [x2, xd] := by
    obtain ⟨a1, c1, hv, -, hn, -⟩ := hxo3.slice wd_okC.len
    have hv' : Value.slice x2.wa x2.g.ws.length x2.wc = .slice a1 x2.g.ws.length c1 := hv
    injection hv' with e1 e2 e3
    refine ⟨by simp, fun z hz => ?_, fun z hz => ?_⟩
    · rcases List.mem_cons.1 hz with rfl | hz
      · rw [hx2g]; exact mG_ok 2 hr0 hr7
      · rw [List.mem_singleton.1 hz, hdg]; exact mD_ok md hb0 hb7
    · rcases List.mem_cons.1 hz with rfl | hz
      · rw [e1, e3]; exact hn
      · rw [List.mem_singleton.1 hz]; exact fun q => absurd q hdw
  have hM4 : MemO (V3.heap.size + 1) (some ⟨V3.heap.size, 0, none⟩) 2 [x2, xd] false 0 0 0 0 _ := ⟨hMG, ⟨by decide, by decide⟩, hN4, hR4⟩
  have hB4 := Below.then hB3 hb4
  have hs4 := hs3.keep hb4
  have hbx4 := stab_blk _ _ _ _ hbx3 hb4
  have hrs := hs4.blk.range
  have hrs3 := hs3.blk.range
  have ks := cstepV (mC rr) (mC_ok hr0 hr7) nilS hM4 (SV.nil _) (flt 32) (by rw [show [x2, xd].map (·.g) = [mG 2 rr, mD md b1] by simp [hx2g, hdg]]; exact hst)
  have hszC : (Try.prog.info? 29).map (·.size) = some (stCs (mC rr) nilS).length := hszS
  have hlv : w.heap.size ≤ V3.heap.size := hB3.size
  have hwlt : w.heap.size < V3.heap.size := hbx3.2
  have hb4s := hb4.size
  clear hM4 hMG hN4 hR4 hs3 hbx3 hB3 hg3 hd3 hxo3 hda3 hst hx2g hdg hdw hb4 hs4
  go_wp2_with (first | (refine wpList_load_row rfl _ rfl bs rfl (stCs (mC rr) nilS) hrs3 hundS rfl hszC ?_) | (refine wpList_load_row rfl _ rfl bg rfl x2.cs hrg hundG rfl hszx ?_) | (refine wpList_load_row rfl _ rfl bd rfl xd.cs hrd hundG rfl hszd ?_) | (refine wpList_build2 pg_okC (by decide) rfl _ _ rfl x2.cs xd.cs rfl rfl rfl rfl ?_) | fail)
  refine ks.mono ?_
  rintro e V5 hP
  obtain ⟨vA, he, hvA, hbA⟩ := hP.any V3.heap.size (Nat.le_succ _) hb4s
  replace he : e = .returned (.tuple #[.agg (stCs (zeroC) vA).toArray, .int .i64 0, .bool false, .int .i64 32]) := he
  subst he
  have hBA := hB4.trans (hbA.mono hlv)
  have hbxA : BlkL w.heap.size (rg4 ⟨b1, 7, 7, 0⟩) V5 := ⟨hbx4.1.same (hbA.block _ hwlt), Nat.lt_of_lt_of_le hbx4.2 hbA.size⟩
  obtain ⟨V6, hV6, hth6, hs6, hb6⟩ := new_stC V5 (zeroC) rfl vA
  have hB6 := Below.then hBA hb6
  have hbx6 := stab_blk _ _ _ _ hbxA hb6
  have hone6 := st_one (zeroC) vA hvA
  have hl6 : (stCs (zeroC) vA).length = 18 := st_len rfl
  have u0 := hs6.seg
  have u1 := hs6.off
  have u2 := hs6.ring
  have x0 := (hbx6.1 0 _ rfl).1
  obtain ⟨X, hX⟩ : ∃ X, stCs (zeroC) vA = X := ⟨_, rfl⟩
  have hXv : Aside (.agg (stCs (zeroC) vA).toArray = Value.agg X.toArray) := by rw [hX]; exact rfl
  rw [hX] at hV6 hth6 hone6 hl6
  have hszX : (Try.prog.info? 29).map (·.size) = some X.length := by rw [hl6]; exact hszS
  clear ks hP hbA hBA hbxA hbx4 hB4 hs6 hb6 hX hl6 hbx6 hvA hrs hrs3
  go_wp2_with (first | (refine wpList_store_row rfl _ _ rfl V5.heap.size rfl X hXv.out hth6 hszX hone6 hV6 ?_) | fail)
  go_ret
  exact ⟨rfl, hB6⟩
set_option maxRecDepth 8000 in
set_option maxHeartbeats 8000000 in
theorem cpuModes2g (m0 r op md b1 rr : Int) (b : Rg) (hmd : m0 % 8 = md) (hrr : r % 8 = rr) (hbb : b.a % 8 = b1) (hk : op % 3 = 1) (hq : hasM md 2 = true) (hle : ¬ rr ≤ b1) (w : World) :
    Calls Try.prog 7 #[.int .i64 m0, b.v, .int .i64 r, .int .i64 op] w fun e w' => e = .returned (.bool true) ∧ Below w.heap.size w w' := by
  have hundS := Try.underlying29
  have hszS : (Try.prog.info? 29).map (·.size) = some 18 := by kernel_rfl
  have hundG := Try.underlying39
  have hszG : (Try.prog.info? 39).map (·.size) = some 7 := by kernel_rfl
  have hundR := Try.underlying37
  have hszR : (Try.prog.info? 37).map (·.size) = some 4 := by kernel_rfl
  have hszP : (Try.prog.info? 25).map (·.size) = some 3 := by kernel_rfl
  have hmi : ∀ (v : Value) (w : World), (Instr.makeInterface 34 v).run Try.prog w = .ok (.iface 34 v) w := fun _ _ => rfl
  have hr0 : 0 ≤ rr := by omega
  have hr7 : rr ≤ 7 := by omega
  have hb0 : 0 ≤ b1 := by omega
  have hb7 : b1 ≤ 7 := by omega
  have k1 := fun W : World => w16_any m0 8 (by decide) (by decide) W
  have k2 := fun W : World => w16_any r 8 (by decide) (by decide) W
  have k3 := fun W : World => w16_any b.a 8 (by decide) (by decide) W
  have k4 := fun W : World => w16_any op 3 (by decide) (by decide) W
  simp only [hmd] at k1
  simp only [hrr] at k2
  simp only [hbb] at k3
  simp only [hk] at k4
  have hst : stepC (mC rr) [mG 2 rr, mD md b1] = flt 32 := by rw [m_step2 md b1 hr0 hr7, if_neg (fun q => hle q.2)]
  have fle : decide (rr ≤ b1) = false := by simpa using hle
  have fq0 : (bits .and .i64 md 2 != 0) = true := by unfold hasM at hq; simpa using hq
  clear hmd hrr hbb hk
  have hbx0 := blkl_alloc w (rg4 b).toArray 37
  have hBx0 := alloc_below w (.cells (rg4 b).toArray 37)
  replace hbx0 : BlkL w.heap.size (rg4 b) (w.alloc (.cells #[.int .i64 b.a, .int .i64 b.b, .int .i64 b.c, .int .i64 b.g] 37)) := hbx0
  replace hBx0 : Below w.heap.size w (w.alloc (.cells #[.int .i64 b.a, .int .i64 b.b, .int .i64 b.c, .int .i64 b.g] 37)) := hBx0
  go_enter Try.func7, Try.ntmps7
  go_upto_region 1 with fail
  generalize w.alloc (.cells #[.int .i64 b.a, .int .i64 b.b, .int .i64 b.c, .int .i64 b.g] 37) = U0 at *
  go_wp2_with fail
  refine (ck_any U0).mono ?_
  rintro e W1 ⟨rfl, hb1⟩
  have hbx1 := stab_blk _ _ _ _ hbx0 hb1
  have hB1 := Below.then hBx0 hb1
  clear hb1 hbx0 hBx0
  go_wp2_with fail
  refine (k1 W1).mono ?_
  rintro e W2 ⟨rfl, hw⟩
  rw [hw]
  clear hw W2
  go_wp2_with fail
  refine (k2 W1).mono ?_
  rintro e W2 ⟨rfl, hw⟩
  rw [hw]
  clear hw W2
  have y0 := (hbx1.1 0 _ rfl).1
  go_wp2_with fail
  refine (k3 W1).mono ?_
  rintro e W2 ⟨rfl, hw⟩
  rw [hw]
  clear hw W2 y0
  obtain ⟨U3, hU3, hthU, hbx3, hkU⟩ := put_any hbx1 (ds := rg4 ⟨b1, 7, 7, 0⟩) rfl (by show 0 < 4; decide)
  have hB3 := hkU _ _ (Nat.le_refl _) hB1
  go_upto_region 5 with (first | (refine wpList_store_row rfl _ _ rfl w.heap.size rfl (rg4 ⟨b1, 7, 7, 0⟩) rfl hthU hszR (rg4_one _) hU3 ?_) | fail)
  clear hU3 hthU hkU hbx1 hB1
  have hbA := alloc_below U3 (.cells #[.int .i64 1, .int .i64 2, .int .i64 20] 3)
  have hbx4 := stab_blk _ _ _ _ hbx3 hbA
  have hB4 := Below.then hB3 hbA
  go_wp2_with fail
  refine (k4 _).mono ?_
  rintro e W2 ⟨rfl, hw⟩
  rw [hw]
  clear hw W2
  go_upto_region 6 with fail
  clear hbA hbx3 hB3 k1 k2 k3 k4
  generalize U3.alloc (.cells #[.int .i64 1, .int .i64 2, .int .i64 20] 3) = W1 at *
  have hbi := alloc_below W1 (.cells (ins3 ⟨2, 1, 0⟩).toArray 42)
  have hri := row_list (f := ins3) (sz := 3) (fun _ => rfl) W1 [⟨2, 1, 0⟩] #[.int .i64 2, .int .i64 1, .int .i64 0] rfl 42
  have ko := cone_any [⟨2, 1, 0⟩] [] (some ⟨W1.heap.size, 0, none⟩) none 1 0 (by show 1 ≤ 100; decide) (by show 0 ≤ 100; decide) (fun _ => rfl) _ hri (fun j y h => by simp at h)
  have hbx5 := stab_blk _ _ _ _ hbx4 hbi
  have hB5 := Below.then hB4 hbi
  clear hri hbi hbx4 hB4
  go_wp2_with fail
  refine ko.mono ?_
  rintro e W4 ⟨x, hxg, rfl, hxo, hb4⟩
  have hbx6 := stab_blk _ _ _ _ hbx5 hb4
  have hB6 := Below.then hB5 hb4
  clear ko hb4 hbx5 hB5
  obtain ⟨W5, hW5, hth5, hg5, hb5⟩ := put_new W4 (sgCs zeroG nilS).toArray 39 x.cs (by rw [pg_len]; rfl) (by rw [pg_len]; decide)
  have hB7 := Below.then hB6 hb5
  have hbx7 := stab_blk _ _ _ _ hbx6 hb5
  have hxo5 := hxo.below hb5
  have hltb := hbx6.2
  go_upto_region 7 with (first | (refine wpList_store_row rfl _ _ rfl W4.heap.size rfl x.cs rfl hth5 hszG (pg_one _) hW5 ?_) | fail)
  have hxb : ∀ k, x.v.ownBlock = some k → k < W4.heap.size := fun k hk => (hxo.lt hk).2
  have hlt4 := hB6.size
  clear hW5 hth5 hxo hb5 hbx6 hB6
  generalize W4.heap.size = bg at *
  have hl5 : 3 + (rg4 ⟨rr, rr, rr, 0⟩).length ≤ x.cs.length := by rw [pg_len]; show 3 + 4 ≤ 7; decide
  have h6 := Blk.putM (rg4 ⟨rr, rr, rr, 0⟩) 3 hg5.1 hl5
  obtain ⟨x2, hx2⟩ : ∃ x2 : PG, PG.mk (mG 2 rr) x.wa x.wc = x2 := ⟨_, rfl⟩
  have hx2c : setM x.cs 3 (rg4 ⟨rr, rr, rr, 0⟩) = x2.cs := by
    rw [← hx2]
    unfold PG.cs PG.v
    rw [hxg]
    rfl
  rw [hx2c] at h6
  obtain ⟨W6, hW6⟩ : ∃ W6, W5.setCells bg 3 (rg4 ⟨rr, rr, rr, 0⟩) = W6 := ⟨_, rfl⟩
  have hth6 := hg5.1.thereM 3 (rg4 ⟨rr, rr, rr, 0⟩).length hl5
  rw [hW6] at h6
  have hg6 : BlkL bg x2.cs W6 := ⟨h6, h6.lt (List.getElem?_eq_getElem (by rw [pg_len]; decide : 0 < x2.cs.length))⟩
  have hB8 : Below w.heap.size w W6 := by rw [← hW6]; exact Below.cells hlt4 _ _ hB7
  have hbx8 : BlkL w.heap.size (rg4 ⟨b1, 7, 7, 0⟩) W6 := by
    rw [← hW6]
    exact ⟨hbx7.1.same (heap_setCells_other (by omega) _ _ _), Nat.lt_of_lt_of_le hbx7.2 (Below.cells (B := 0) (Nat.zero_le _) _ _ (Below.refl 0 W5)).size⟩
  have hxe : x2.v = x.v := by
    rw [← hx2]
    unfold PG.v
    rw [hxg]
    rfl
  have hxw : x2.g.ws = x.g.ws := by rw [← hx2, hxg]; rfl
  have hxo6 : OwnR 2 1 wcl W6 0 x2.v x2.g.ws := by
    rw [hxe, hxw, ← hW6]
    exact (hxo5.keep fun k hk => heap_setCells_other (by have := hxb k hk; omega) _ _ _).lower (Nat.zero_le _)
  have hx2g : x2.g = mG 2 rr := by rw [← hx2]
  clear h6 hg5 hxo5 hxb hB7 hbx7 hxe hxw hx2 hx2c hxg
  go_upto_region 8 with (first | (refine wpList_store_part rfl _ _ rfl bg 3 rfl (rg4 ⟨rr, rr, rr, 0⟩) rfl hth6 hszR (rg4_one _) hW6 ?_) | fail)
  clear hW6 hth6 hl5
  generalize hZ0 : W6 = Z at *
  clear hZ0
  have hb0' := hbx8
  have hS := (Below.refl Z.heap.size Z).drew
  have hB := Below.then hB8 hS
  refine wp_region_held_drew (S := (fun W => Below Z.heap.size Z W)) (by kernel_rfl) (by exact hS) ?_
  intro hHeld
  generalize Z.drew = w0 at *
  refine wpAnyH_take (i := 0) (v := ?_) (by simp only [gA, gB, gC]; rfl) (by kernel_rfl) (by kernel_rfl) (by kernel_rfl) (by exact fun _ _ _ h => h) (Or.inl ⟨by rfl, ?_⟩) (by assumption) ?_; rotate_left; (focus (intro w hSw; (try dsimp only at hSw); go_simp; try with_reducible rfl)); (try simp only [Act.put, sA, sB, sC])
  refine wpAnyH_take (i := 1) (v := _) (by simp only [gA, gB, gC]; rfl) (by kernel_rfl) (by kernel_rfl) (by kernel_rfl) (by exact fun _ _ _ h => h) (yields_row (by rfl) _ rfl w.heap.size rfl (rg4 ⟨b1, 7, 7, 0⟩) (fun _ q => (stab_blk _ _ _ _ hbx8 q).range) hundR rfl hszR) (by assumption) ?_; (try simp only [Act.put, sA, sB, sC])
  refine wpAnyH_ready (rs := [2, 4]) (by kernel_rfl) (by simp) ?_
  refine AllReadyH.cons (by simp only [gA, gB, gC]; rfl) (fun K hK => ?_) ?_
  · skip
    have hb := alloc_below w0 (.cells #[.int .i64 0, .int .i64 0, .int .i64 0] 2)
    have hrd := row_list (f := wcl) (sz := 1) (fun _ => rfl) w0 [0, 0, 0] #[.int .i64 0, .int .i64 0, .int .i64 0] rfl 2
    refine step_make3 rfl rfl ?_
    (try simp only [Act.put, sA, sB, sC])
    refine hK.out _ _ (Below.then hS hb) ?_
    clear hHeld hK
    intro hHeld
    replace hB := Below.then hB hb
    replace hS := Below.then hS hb
    clear hb
    generalize w0.alloc (.cells #[.int .i64 0, .int .i64 0, .int .i64 0] 2) = w1 at *
    generalize w0.heap.size = gd at *
    (try simp only [Act.put, sA, sB, sC])
    refine wpAnyH_take (i := 3) (v := ?_) (by simp only [gA, gB, gC]; rfl) (by kernel_rfl) (by kernel_rfl) (by kernel_rfl) (by exact fun _ _ _ h => h) (Or.inl ⟨by rfl, ?_⟩) (by assumption) ?_; rotate_left; (focus (intro w hSw; (try dsimp only at hSw); go_simp; try with_reducible rfl)); (try simp only [Act.put, sA, sB, sC])
    refine wpAnyH_ready (rs := [4]) (by kernel_rfl) (by simp) ?_
    refine AllReadyH.cons (by simp only [gA, gB, gC]; rfl) (fun K hK => ?_) AllReadyH.nil
    have hb : Below w1.heap.size w1 (w1.alloc (.cells #[.bool false, .slice none 0 0, .int .i64 0, .int .i64 0, .int .i64 0, .int .i64 0, .int .i64 0] 39)) := alloc_below w1 _
    have hz : BlkL w1.heap.size (sgCs zeroG nilS) (w1.alloc (.cells #[.bool false, .slice none 0 0, .int .i64 0, .int .i64 0, .int .i64 0, .int .i64 0, .int .i64 0] 39)) := blkl_alloc w1 #[.bool false, .slice none 0 0, .int .i64 0, .int .i64 0, .int .i64 0, .int .i64 0, .int .i64 0] 39
    have hgd : gd < w1.heap.size := by obtain ⟨y, hy, hc⟩ := hrd 0 0 rfl; obtain rfl := Option.some.inj hy; have h1 := hc 0 (by decide); rw [add_at] at h1; exact World.block_lt_of_cell? _ _ (h1.trans rfl)
    have hbd1 := hB.size
    have hbd2 := hS.size
    refine step_allocC (z := #[.bool false, .slice none 0 0, .int .i64 0, .int .i64 0, .int .i64 0, .int .i64 0, .int .i64 0]) rfl rfl (fun _ => rfl) ?_
    (try simp only [Act.put, sA, sB, sC])
    refine hK.out _ _ (Below.then hS hb) ?_
    clear hHeld hK
    intro hHeld
    replace hB := Below.then hB hb
    replace hS := Below.then hS hb
    replace hrd := hrd.below wd_okC.len hb
    clear hb
    generalize w1.alloc (.cells #[.bool false, .slice none 0 0, .int .i64 0, .int .i64 0, .int .i64 0, .int .i64 0, .int .i64 0] 39) = w2 at *
    generalize w1.heap.size = bd at *
    (try simp only [Act.put, sA, sB, sC])
    refine wpAnyH_ready (rs := [5]) (by kernel_rfl) (by simp) ?_
    refine AllReadyH.cons (by simp only [gA, gB, gC]; rfl) (fun K hK => ?_) AllReadyH.nil
    obtain ⟨xd, hxd⟩ : ∃ xd : PG, PG.mk (mD md b1) (some ⟨gd, 0, none⟩) 3 = xd := ⟨_, rfl⟩
    have hxdv : Aside (Value.agg #[.bool true, .slice (some ⟨gd, 0, none⟩) 3 3, .int .i64 md, .int .i64 b1, .int .i64 7, .int .i64 7, .int .i64 0] = .agg xd.cs.toArray) := by rw [← hxd]; exact rfl
    obtain ⟨W7, hW7, hth7, hd7, hk7⟩ := put_any hz (ds := xd.cs) (by rw [pg_len]; rfl) (by rw [pg_len]; decide)
    have hszd : (Try.prog.info? 39).map (·.size) = some xd.cs.length := by rw [pg_len]; exact hszG
    have hB7 := hk7 _ _ hbd1 hB
    have hS7 := hk7 _ _ hbd2 hS
    have hda : xd.At W7 := by rw [← hxd, ← hW7]; exact fun j u hu => by obtain ⟨y, hy, hc⟩ := hrd j u hu; refine ⟨y, hy, fun i hi => ?_⟩; obtain rfl := Option.some.inj hy; have h1 := hc i hi; rw [show (wcl u)[i]? = some (.int .i64 u) by obtain rfl : i = 0 := (by omega); rfl] at h1 ⊢; rw [add_at] at h1 ⊢; exact (World.cell?_of_block (a := ⟨gd, j * 1 + i, none⟩) (heap_setCells_other (show gd ≠ bd by omega) _ _ _)).trans h1
    have hdg : xd.g = mD md b1 := by rw [← hxd]
    have hdw : xd.wa ≠ none := by rw [← hxd]; intro q; cases q
    refine step_store_rowC rfl _ _ rfl bd rfl xd.cs hxdv.out hth7 hszd (pg_one _) hW7 ?_
    (try simp only [Act.put, sA, sB, sC])
    refine hK.out _ _ (hS7) ?_
    clear hHeld hK
    intro hHeld
    clear hW7 hth7 hk7 hz hB hS hrd hxd hxdv
    (try simp only [Act.put, sA, sB, sC])
    refine wpAnyH_done (by kernel_rfl) ?_ _
    have hgZ : BlkL bg x2.cs W7 := ⟨hg6.1.same (hS7.block bg hg6.2), Nat.lt_of_lt_of_le hg6.2 hS7.size⟩
    have hxoZ := hxo6.below hS7
    have hbZ : BlkL w.heap.size (rg4 ⟨b1, 7, 7, 0⟩) W7 := stab_blk _ _ _ _ hbx8 hS7
    clear hg6 hxo6 hbx8 hS7 hB8 hb0'
    go_upto_region 9 with fail
    go_wp2_with fail
    refine (cnew_any W7).mono ?_
    rintro e V1 ⟨rfl, hb1⟩
    obtain ⟨V2, hV2, hthV, hsV, hbV⟩ := new_stC V1 newC rfl nilS
    have hl1 := (Below.then hB7 hb1).size
    have y2 := hsV.ring
    have yf2 := (hsV.blk.1 2 _ rfl).2
    have hs2 : StAt V1.heap.size ⟨0, 0, rr, 0, [⟨0, 0, 4⟩, ⟨1, 0, 4⟩, ⟨2, 0, 4⟩, ⟨3, 0, 4⟩], [], false⟩ nilS (V2.setCell ⟨V1.heap.size, 2, none⟩ (.int .i64 rr)) := by
      have h1 := hsV.blk.1.set 2 (.int .i64 rr) (by show 2 < 18; decide)
      exact ⟨rfl, h1, h1.lt rfl⟩
    have hb2 : Below V1.heap.size V1 (V2.setCell ⟨V1.heap.size, 2, none⟩ (.int .i64 rr)) := hbV.setCell (p := ⟨V1.heap.size, 2, none⟩) (Nat.le_refl _) _
    obtain ⟨V3, hV3, hth3, hs3, hk3, -⟩ := hs2.putPtr (k := 1) (by decide) ⟨1, 0, 0⟩ (c' := mC rr) rfl rfl
    have hb3 : Below V1.heap.size V1 V3 := hk3 _ _ (Nat.le_refl _) hb2
    have hone8 : ∀ u ∈ stCs newC nilS, u.oneCell' = true := st_one _ _ rfl
    have hsz8 : (Try.prog.info? 29).map (·.size) = some (stCs newC nilS).length := by kernel_rfl
    obtain ⟨Y, hY⟩ : ∃ Y, stCs newC nilS = Y := ⟨_, rfl⟩
    rw [hY] at hV2 hthV hone8 hsz8
    have hYv : Aside (.agg (stCs newC nilS).toArray = Value.agg Y.toArray) := by rw [hY]; exact rfl
    have hg3 := stab_blk _ _ _ _ (stab_blk _ _ _ _ hgZ hb1) hb3
    have hd3 := stab_blk _ _ _ _ (stab_blk _ _ _ _ hd7 hb1) hb3
    have hbx3 := stab_blk _ _ _ _ (stab_blk _ _ _ _ hbZ hb1) hb3
    have hxo3 := (hxoZ.below hb1).below hb3
    have hda3 := (hda.below hb1).below hb3
    have hB3 := Below.then (Below.then hB7 hb1) hb3
    clear hY hsV hbV hs2 hb2 hk3 hgZ hd7 hbZ hxoZ hda hB7 hb1 hb3
    go_upto_region 11 with (first | (refine wpList_store_row rfl _ _ rfl V1.heap.size rfl Y hYv.out hthV hsz8 hone8 hV2 ?_) | fail)
    clear hV2 hthV hone8 hsz8 hYv y2 yf2
    go_upto_region 12 with (first | (refine wpList_store_part rfl _ _ rfl V1.heap.size 7 rfl (ptr3 ⟨1, 0, 0⟩) rfl hth3 hszP (ptr3J_one _) hV3 ?_) | fail)
    clear hV3 hth3
    generalize V1.heap.size = bs at *
    have hrg := hg3.range
    have hrd := hd3.range
    have hszx : (Try.prog.info? 39).map (·.size) = some x2.cs.length := by rw [pg_len]; exact hszG
    obtain ⟨hN4, hR4, hb4⟩ := mem_list V3 [x2, xd] (fun z hz => by
      rcases List.mem_cons.1 hz with rfl | hz
      · exact own_at hxo3
      · rw [List.mem_singleton.1 hz]; exact hda3) (x2.cs ++ xd.cs).toArray (by simp) 39 48 2 rfl
    have hMG : MG [x2, xd] := by
      obtain ⟨a1, c1, hv, -, hn, -⟩ := hxo3.slice wd_okC.len
      have hv' : Value.slice x2.wa x2.g.ws.length x2.wc = .slice a1 x2.g.ws.length c1 := hv
      injection hv' with e1 e2 e3
      refine ⟨by simp, fun z hz => ?_, fun z hz => ?_⟩
      · rcases List.mem_cons.1 hz with rfl | hz
        · rw [hx2g]; exact mG_ok 2 hr0 hr7
        · rw [List.mem_singleton.1 hz, hdg]; exact mD_ok md hb0 hb7
      · rcases List.mem_cons.1 hz with rfl | hz
        · rw [e1, e3]; exact hn
        · rw [List.mem_singleton.1 hz]; exact fun q => absurd q hdw
    have hM4 : MemO (V3.heap.size + 1) (some ⟨V3.heap.size, 0, none⟩) 2 [x2, xd] false 0 0 0 0 _ := ⟨hMG, ⟨by decide, by decide⟩, hN4, hR4⟩
    have hB4 := Below.then hB3 hb4
    have hs4 := hs3.keep hb4
    have hbx4 := stab_blk _ _ _ _ hbx3 hb4
    have hrs := hs4.blk.range
    have hrs3 := hs3.blk.range
    have ks := cstepV (mC rr) (mC_ok hr0 hr7) nilS hM4 (SV.nil _) (flt 32) (by rw [show [x2, xd].map (·.g) = [mG 2 rr, mD md b1] by simp [hx2g, hdg]]; exact hst)
    have hszC : (Try.prog.info? 29).map (·.size) = some (stCs (mC rr) nilS).length := hszS
    have hlv : w.heap.size ≤ V3.heap.size := hB3.size
    have hwlt : w.heap.size < V3.heap.size := hbx3.2
    have hb4s := hb4.size
    clear hM4 hMG hN4 hR4 hs3 hbx3 hB3 hg3 hd3 hxo3 hda3 hst hx2g hdg hdw hb4 hs4
    go_wp2_with (first | (refine wpList_load_row rfl _ rfl bs rfl (stCs (mC rr) nilS) hrs3 hundS rfl hszC ?_) | (refine wpList_load_row rfl _ rfl bg rfl x2.cs hrg hundG rfl hszx ?_) | (refine wpList_load_row rfl _ rfl bd rfl xd.cs hrd hundG rfl hszd ?_) | (refine wpList_build2 pg_okC (by decide) rfl _ _ rfl x2.cs xd.cs rfl rfl rfl rfl ?_) | fail)
    refine ks.mono ?_
    rintro e V5 hP
    obtain ⟨vA, he, hvA, hbA⟩ := hP.any V3.heap.size (Nat.le_succ _) hb4s
    replace he : e = .returned (.tuple #[.agg (stCs (zeroC) vA).toArray, .int .i64 0, .bool false, .int .i64 32]) := he
    subst he
    have hBA := hB4.trans (hbA.mono hlv)
    have hbxA : BlkL w.heap.size (rg4 ⟨b1, 7, 7, 0⟩) V5 := ⟨hbx4.1.same (hbA.block _ hwlt), Nat.lt_of_lt_of_le hbx4.2 hbA.size⟩
    obtain ⟨V6, hV6, hth6, hs6, hb6⟩ := new_stC V5 (zeroC) rfl vA
    have hB6 := Below.then hBA hb6
    have hbx6 := stab_blk _ _ _ _ hbxA hb6
    have hone6 := st_one (zeroC) vA hvA
    have hl6 : (stCs (zeroC) vA).length = 18 := st_len rfl
    have u0 := hs6.seg
    have u1 := hs6.off
    have u2 := hs6.ring
    have x0 := (hbx6.1 0 _ rfl).1
    obtain ⟨X, hX⟩ : ∃ X, stCs (zeroC) vA = X := ⟨_, rfl⟩
    have hXv : Aside (.agg (stCs (zeroC) vA).toArray = Value.agg X.toArray) := by rw [hX]; exact rfl
    rw [hX] at hV6 hth6 hone6 hl6
    have hszX : (Try.prog.info? 29).map (·.size) = some X.length := by rw [hl6]; exact hszS
    clear ks hP hbA hBA hbxA hbx4 hB4 hs6 hb6 hX hl6 hbx6 hvA hrs hrs3
    go_wp2_with (first | (refine wpList_store_row rfl _ _ rfl V5.heap.size rfl X hXv.out hth6 hszX hone6 hV6 ?_) | fail)
    go_ret
    exact ⟨rfl, hB6⟩
  refine AllReadyH.cons (by simp only [gA, gB, gC]; rfl) (fun K hK => ?_) AllReadyH.nil
  have hb : Below w0.heap.size w0 (w0.alloc (.cells #[.bool false, .slice none 0 0, .int .i64 0, .int .i64 0, .int .i64 0, .int .i64 0, .int .i64 0] 39)) := alloc_below w0 _
  have hz : BlkL w0.heap.size (sgCs zeroG nilS) (w0.alloc (.cells #[.bool false, .slice none 0 0, .int .i64 0, .int .i64 0, .int .i64 0, .int .i64 0, .int .i64 0] 39)) := blkl_alloc w0 #[.bool false, .slice none 0 0, .int .i64 0, .int .i64 0, .int .i64 0, .int .i64 0, .int .i64 0] 39
  have hbd1 := hB.size
  have hbd2 := hS.size
  refine step_allocC (z := #[.bool false, .slice none 0 0, .int .i64 0, .int .i64 0, .int .i64 0, .int .i64 0, .int .i64 0]) rfl rfl (fun _ => rfl) ?_
  (try simp only [Act.put, sA, sB, sC])
  refine hK.out _ _ (Below.then hS hb) ?_
  clear hHeld hK
  intro hHeld
  replace hB := Below.then hB hb
  replace hS := Below.then hS hb
  clear hb
  generalize w0.alloc (.cells #[.bool false, .slice none 0 0, .int .i64 0, .int .i64 0, .int .i64 0, .int .i64 0, .int .i64 0] 39) = w1 at *
  generalize w0.heap.size = bd at *
  (try simp only [Act.put, sA, sB, sC])
  refine wpAnyH_ready (rs := [2]) (by kernel_rfl) (by simp) ?_
  refine AllReadyH.cons (by simp only [gA, gB, gC]; rfl) (fun K hK => ?_) AllReadyH.nil
  have hb := alloc_below w1 (.cells #[.int .i64 0, .int .i64 0, .int .i64 0] 2)
  have hrd := row_list (f := wcl) (sz := 1) (fun _ => rfl) w1 [0, 0, 0] #[.int .i64 0, .int .i64 0, .int .i64 0] rfl 2
  have hgd : bd < w1.heap.size := hz.2
  refine step_make3 rfl rfl ?_
  (try simp only [Act.put, sA, sB, sC])
  refine hK.out _ _ (Below.then hS hb) ?_
  clear hHeld hK
  intro hHeld
  replace hB := Below.then hB hb
  replace hS := Below.then hS hb
  replace hz := stab_blk _ _ _ _ hz hb
  clear hb
  generalize w1.alloc (.cells #[.int .i64 0, .int .i64 0, .int .i64 0] 2) = w2 at *
  generalize w1.heap.size = gd at *
  (try simp only [Act.put, sA, sB, sC])
  refine wpAnyH_take (i := 3) (v := ?_) (by simp only [gA, gB, gC]; rfl) (by kernel_rfl) (by kernel_rfl) (by kernel_rfl) (by exact fun _ _ _ h => h) (Or.inl ⟨by rfl, ?_⟩) (by assumption) ?_; rotate_left; (focus (intro w hSw; (try dsimp only at hSw); go_simp; try with_reducible rfl)); (try simp only [Act.put, sA, sB, sC])
  refine wpAnyH_ready (rs := [5]) (by kernel_rfl) (by simp) ?_
  refine AllReadyH.cons (by simp only [gA, gB, gC]; rfl) (fun K hK => ?_) AllReadyH.nil
  obtain ⟨xd, hxd⟩ : ∃ xd : PG, PG.mk (mD md b1) (some ⟨gd, 0, none⟩) 3 = xd := ⟨_, rfl⟩
  have hxdv : Aside (Value.agg #[.bool true, .slice (some ⟨gd, 0, none⟩) 3 3, .int .i64 md, .int .i64 b1, .int .i64 7, .int .i64 7, .int .i64 0] = .agg xd.cs.toArray) := by rw [← hxd]; exact rfl
  obtain ⟨W7, hW7, hth7, hd7, hk7⟩ := put_any hz (ds := xd.cs) (by rw [pg_len]; rfl) (by rw [pg_len]; decide)
  have hszd : (Try.prog.info? 39).map (·.size) = some xd.cs.length := by rw [pg_len]; exact hszG
  have hB7 := hk7 _ _ hbd1 hB
  have hS7 := hk7 _ _ hbd2 hS
  have hda : xd.At W7 := by rw [← hxd, ← hW7]; exact fun j u hu => by obtain ⟨y, hy, hc⟩ := hrd j u hu; refine ⟨y, hy, fun i hi => ?_⟩; obtain rfl := Option.some.inj hy; have h1 := hc i hi; rw [show (wcl u)[i]? = some (.int .i64 u) by obtain rfl : i = 0 := (by omega); rfl] at h1 ⊢; rw [add_at] at h1 ⊢; exact (World.cell?_of_block (a := ⟨gd, j * 1 + i, none⟩) (heap_setCells_other (show gd ≠ bd by omega) _ _ _)).trans h1
  have hdg : xd.g = mD md b1 := by rw [← hxd]
  have hdw : xd.wa ≠ none := by rw [← hxd]; intro q; cases q
  refine step_store_rowC rfl _ _ rfl bd rfl xd.cs hxdv.out hth7 hszd (pg_one _) hW7 ?_
  (try simp only [Act.put, sA, sB, sC])
  refine hK.out _ _ (hS7) ?_
  clear hHeld hK
  intro hHeld
  clear hW7 hth7 hk7 hz hB hS hrd hxd hxdv
  (try simp only [Act.put, sA, sB, sC])
  refine wpAnyH_done (by kernel_rfl) ?_ _
  have hgZ : BlkL bg x2.cs W7 := ⟨hg6.1.same (hS7.block bg hg6.2), Nat.lt_of_lt_of_le hg6.2 hS7.size⟩
  have hxoZ := hxo6.below hS7
  have hbZ : BlkL w.heap.size (rg4 ⟨b1, 7, 7, 0⟩) W7 := stab_blk _ _ _ _ hbx8 hS7
  clear hg6 hxo6 hbx8 hS7 hB8 hb0'
  go_upto_region 9 with fail
  go_wp2_with fail
  refine (cnew_any W7).mono ?_
  rintro e V1 ⟨rfl, hb1⟩
  obtain ⟨V2, hV2, hthV, hsV, hbV⟩ := new_stC V1 newC rfl nilS
  have hl1 := (Below.then hB7 hb1).size
  have y2 := hsV.ring
  have yf2 := (hsV.blk.1 2 _ rfl).2
  have hs2 : StAt V1.heap.size ⟨0, 0, rr, 0, [⟨0, 0, 4⟩, ⟨1, 0, 4⟩, ⟨2, 0, 4⟩, ⟨3, 0, 4⟩], [], false⟩ nilS (V2.setCell ⟨V1.heap.size, 2, none⟩ (.int .i64 rr)) := by
    have h1 := hsV.blk.1.set 2 (.int .i64 rr) (by show 2 < 18; decide)
    exact ⟨rfl, h1, h1.lt rfl⟩
  have hb2 : Below V1.heap.size V1 (V2.setCell ⟨V1.heap.size, 2, none⟩ (.int .i64 rr)) := hbV.setCell (p := ⟨V1.heap.size, 2, none⟩) (Nat.le_refl _) _
  obtain ⟨V3, hV3, hth3, hs3, hk3, -⟩ := hs2.putPtr (k := 1) (by decide) ⟨1, 0, 0⟩ (c' := mC rr) rfl rfl
  have hb3 : Below V1.heap.size V1 V3 := hk3 _ _ (Nat.le_refl _) hb2
  have hone8 : ∀ u ∈ stCs newC nilS, u.oneCell' = true := st_one _ _ rfl
  have hsz8 : (Try.prog.info? 29).map (·.size) = some (stCs newC nilS).length := by kernel_rfl
  obtain ⟨Y, hY⟩ : ∃ Y, stCs newC nilS = Y := ⟨_, rfl⟩
  rw [hY] at hV2 hthV hone8 hsz8
  have hYv : Aside (.agg (stCs newC nilS).toArray = Value.agg Y.toArray) := by rw [hY]; exact rfl
  have hg3 := stab_blk _ _ _ _ (stab_blk _ _ _ _ hgZ hb1) hb3
  have hd3 := stab_blk _ _ _ _ (stab_blk _ _ _ _ hd7 hb1) hb3
  have hbx3 := stab_blk _ _ _ _ (stab_blk _ _ _ _ hbZ hb1) hb3
  have hxo3 := (hxoZ.below hb1).below hb3
  have hda3 := (hda.below hb1).below hb3
  have hB3 := Below.then (Below.then hB7 hb1) hb3
  clear hY hsV hbV hs2 hb2 hk3 hgZ hd7 hbZ hxoZ hda hB7 hb1 hb3
  go_upto_region 11 with (first | (refine wpList_store_row rfl _ _ rfl V1.heap.size rfl Y hYv.out hthV hsz8 hone8 hV2 ?_) | fail)
  clear hV2 hthV hone8 hsz8 hYv y2 yf2
  go_upto_region 12 with (first | (refine wpList_store_part rfl _ _ rfl V1.heap.size 7 rfl (ptr3 ⟨1, 0, 0⟩) rfl hth3 hszP (ptr3J_one _) hV3 ?_) | fail)
  clear hV3 hth3
  generalize V1.heap.size = bs at *
  have hrg := hg3.range
  have hrd := hd3.range
  have hszx : (Try.prog.info? 39).map (·.size) = some x2.cs.length := by rw [pg_len]; exact hszG
  obtain ⟨hN4, hR4, hb4⟩ := mem_list V3 [x2, xd] (fun z hz => by
    rcases List.mem_cons.1 hz with rfl | hz
    · exact own_at hxo3
    · rw [List.mem_singleton.1 hz]; exact hda3) (x2.cs ++ xd.cs).toArray (by simp) 39 48 2 rfl
  have hMG : MG [x2, xd] := by
    obtain ⟨a1, c1, hv, -, hn, -⟩ := hxo3.slice wd_okC.len
    have hv' : Value.slice x2.wa x2.g.ws.length x2.wc = .slice a1 x2.g.ws.length c1 := hv
    injection hv' with e1 e2 e3
    refine ⟨by simp, fun z hz => ?_, fun z hz => ?_⟩
    · rcases List.mem_cons.1 hz with rfl | hz
      · rw [hx2g]; exact mG_ok 2 hr0 hr7
      · rw [List.mem_singleton.1 hz, hdg]; exact mD_ok md hb0 hb7
    · rcases List.mem_cons.1 hz with rfl | hz
      · rw [e1, e3]; exact hn
      · rw [List.mem_singleton.1 hz]; exact fun q => absurd q hdw
  have hM4 : MemO (V3.heap.size + 1) (some ⟨V3.heap.size, 0, none⟩) 2 [x2, xd] false 0 0 0 0 _ := ⟨hMG, ⟨by decide, by decide⟩, hN4, hR4⟩
  have hB4 := Below.then hB3 hb4
  have hs4 := hs3.keep hb4
  have hbx4 := stab_blk _ _ _ _ hbx3 hb4
  have hrs := hs4.blk.range
  have hrs3 := hs3.blk.range
  have ks := cstepV (mC rr) (mC_ok hr0 hr7) nilS hM4 (SV.nil _) (flt 32) (by rw [show [x2, xd].map (·.g) = [mG 2 rr, mD md b1] by simp [hx2g, hdg]]; exact hst)
  have hszC : (Try.prog.info? 29).map (·.size) = some (stCs (mC rr) nilS).length := hszS
  have hlv : w.heap.size ≤ V3.heap.size := hB3.size
  have hwlt : w.heap.size < V3.heap.size := hbx3.2
  have hb4s := hb4.size
  clear hM4 hMG hN4 hR4 hs3 hbx3 hB3 hg3 hd3 hxo3 hda3 hst hx2g hdg hdw hb4 hs4
  go_wp2_with (first | (refine wpList_load_row rfl _ rfl bs rfl (stCs (mC rr) nilS) hrs3 hundS rfl hszC ?_) | (refine wpList_load_row rfl _ rfl bg rfl x2.cs hrg hundG rfl hszx ?_) | (refine wpList_load_row rfl _ rfl bd rfl xd.cs hrd hundG rfl hszd ?_) | (refine wpList_build2 pg_okC (by decide) rfl _ _ rfl x2.cs xd.cs rfl rfl rfl rfl ?_) | fail)
  refine ks.mono ?_
  rintro e V5 hP
  obtain ⟨vA, he, hvA, hbA⟩ := hP.any V3.heap.size (Nat.le_succ _) hb4s
  replace he : e = .returned (.tuple #[.agg (stCs (zeroC) vA).toArray, .int .i64 0, .bool false, .int .i64 32]) := he
  subst he
  have hBA := hB4.trans (hbA.mono hlv)
  have hbxA : BlkL w.heap.size (rg4 ⟨b1, 7, 7, 0⟩) V5 := ⟨hbx4.1.same (hbA.block _ hwlt), Nat.lt_of_lt_of_le hbx4.2 hbA.size⟩
  obtain ⟨V6, hV6, hth6, hs6, hb6⟩ := new_stC V5 (zeroC) rfl vA
  have hB6 := Below.then hBA hb6
  have hbx6 := stab_blk _ _ _ _ hbxA hb6
  have hone6 := st_one (zeroC) vA hvA
  have hl6 : (stCs (zeroC) vA).length = 18 := st_len rfl
  have u0 := hs6.seg
  have u1 := hs6.off
  have u2 := hs6.ring
  have x0 := (hbx6.1 0 _ rfl).1
  obtain ⟨X, hX⟩ : ∃ X, stCs (zeroC) vA = X := ⟨_, rfl⟩
  have hXv : Aside (.agg (stCs (zeroC) vA).toArray = Value.agg X.toArray) := by rw [hX]; exact rfl
  rw [hX] at hV6 hth6 hone6 hl6
  have hszX : (Try.prog.info? 29).map (·.size) = some X.length := by rw [hl6]; exact hszS
  clear ks hP hbA hBA hbxA hbx4 hB4 hs6 hb6 hX hl6 hbx6 hvA hrs hrs3
  go_wp2_with (first | (refine wpList_store_row rfl _ _ rfl V5.heap.size rfl X hXv.out hth6 hszX hone6 hV6 ?_) | fail)
  go_ret
  exact ⟨rfl, hB6⟩
set_option maxRecDepth 8000 in
set_option maxHeartbeats 8000000 in
theorem cpuModes3t (m0 r op md b1 rr : Int) (b : Rg) (hmd : m0 % 8 = md) (hrr : r % 8 = rr) (hbb : b.a % 8 = b1) (hk : op % 3 = 2) (hq : hasM md 4 = true) (w : World) :
    Calls Try.prog 7 #[.int .i64 m0, b.v, .int .i64 r, .int .i64 op] w fun e w' => e = .returned (.bool true) ∧ Below w.heap.size w w' := by
  have hundS := Try.underlying29
  have hszS : (Try.prog.info? 29).map (·.size) = some 18 := by kernel_rfl
  have hundG := Try.underlying39
  have hszG : (Try.prog.info? 39).map (·.size) = some 7 := by kernel_rfl
  have hundR := Try.underlying37
  have hszR : (Try.prog.info? 37).map (·.size) = some 4 := by kernel_rfl
  have hszP : (Try.prog.info? 25).map (·.size) = some 3 := by kernel_rfl
  have hmi : ∀ (v : Value) (w : World), (Instr.makeInterface 34 v).run Try.prog w = .ok (.iface 34 v) w := fun _ _ => rfl
  have hr0 : 0 ≤ rr := by omega
  have hr7 : rr ≤ 7 := by omega
  have hb0 : 0 ≤ b1 := by omega
  have hb7 : b1 ≤ 7 := by omega
  have k1 := fun W : World => w16_any m0 8 (by decide) (by decide) W
  have k2 := fun W : World => w16_any r 8 (by decide) (by decide) W
  have k3 := fun W : World => w16_any b.a 8 (by decide) (by decide) W
  have k4 := fun W : World => w16_any op 3 (by decide) (by decide) W
  simp only [hmd] at k1
  simp only [hrr] at k2
  simp only [hbb] at k3
  simp only [hk] at k4
  have hst : stepC (mC rr) [mG 20 rr, mD md b1] = okC (mT rr (gmax rr b1)) := by rw [m_step20 md b1 hr0 hr7 hb0 hb7, if_pos hq]
  have hgm : (if rr < b1 then b1 else rr) = gmax rr b1 := rfl
  have fq0 : (bits .and .i64 md 4 == 0) = false := by unfold hasM at hq; simpa using hq
  clear hmd hrr hbb hk
  have hbx0 := blkl_alloc w (rg4 b).toArray 37
  have hBx0 := alloc_below w (.cells (rg4 b).toArray 37)
  replace hbx0 : BlkL w.heap.size (rg4 b) (w.alloc (.cells #[.int .i64 b.a, .int .i64 b.b, .int .i64 b.c, .int .i64 b.g] 37)) := hbx0
  replace hBx0 : Below w.heap.size w (w.alloc (.cells #[.int .i64 b.a, .int .i64 b.b, .int .i64 b.c, .int .i64 b.g] 37)) := hBx0
  go_enter Try.func7, Try.ntmps7
  go_upto_region 1 with fail
  generalize w.alloc (.cells #[.int .i64 b.a, .int .i64 b.b, .int .i64 b.c, .int .i64 b.g] 37) = U0 at *
  go_wp2_with fail
  refine (ck_any U0).mono ?_
  rintro e W1 ⟨rfl, hb1⟩
  have hbx1 := stab_blk _ _ _ _ hbx0 hb1
  have hB1 := Below.then hBx0 hb1
  clear hb1 hbx0 hBx0
  go_wp2_with fail
  refine (k1 W1).mono ?_
  rintro e W2 ⟨rfl, hw⟩
  rw [hw]
  clear hw W2
  go_wp2_with fail
  refine (k2 W1).mono ?_
  rintro e W2 ⟨rfl, hw⟩
  rw [hw]
  clear hw W2
  have y0 := (hbx1.1 0 _ rfl).1
  go_wp2_with fail
  refine (k3 W1).mono ?_
  rintro e W2 ⟨rfl, hw⟩
  rw [hw]
  clear hw W2 y0
  obtain ⟨U3, hU3, hthU, hbx3, hkU⟩ := put_any hbx1 (ds := rg4 ⟨b1, 7, 7, 0⟩) rfl (by show 0 < 4; decide)
  have hB3 := hkU _ _ (Nat.le_refl _) hB1
  go_upto_region 5 with (first | (refine wpList_store_row rfl _ _ rfl w.heap.size rfl (rg4 ⟨b1, 7, 7, 0⟩) rfl hthU hszR (rg4_one _) hU3 ?_) | fail)
  clear hU3 hthU hkU hbx1 hB1
  have hbA := alloc_below U3 (.cells #[.int .i64 1, .int .i64 2, .int .i64 20] 3)
  have hbx4 := stab_blk _ _ _ _ hbx3 hbA
  have hB4 := Below.then hB3 hbA
  go_wp2_with fail
  refine (k4 _).mono ?_
  rintro e W2 ⟨rfl, hw⟩
  rw [hw]
  clear hw W2
  go_upto_region 6 with fail
  clear hbA hbx3 hB3 k1 k2 k3 k4
  generalize U3.alloc (.cells #[.int .i64 1, .int .i64 2, .int .i64 20] 3) = W1 at *
  have hbi := alloc_below W1 (.cells (ins3 ⟨20, 1, 0⟩).toArray 42)
  have hri := row_list (f := ins3) (sz := 3) (fun _ => rfl) W1 [⟨20, 1, 0⟩] #[.int .i64 20, .int .i64 1, .int .i64 0] rfl 42
  have ko := cone_any [⟨20, 1, 0⟩] [] (some ⟨W1.heap.size, 0, none⟩) none 1 0 (by show 1 ≤ 100; decide) (by show 0 ≤ 100; decide) (fun _ => rfl) _ hri (fun j y h => by simp at h)
  have hbx5 := stab_blk _ _ _ _ hbx4 hbi
  have hB5 := Below.then hB4 hbi
  clear hri hbi hbx4 hB4
  go_wp2_with fail
  refine ko.mono ?_
  rintro e W4 ⟨x, hxg, rfl, hxo, hb4⟩
  have hbx6 := stab_blk _ _ _ _ hbx5 hb4
  have hB6 := Below.then hB5 hb4
  clear ko hb4 hbx5 hB5
  obtain ⟨W5, hW5, hth5, hg5, hb5⟩ := put_new W4 (sgCs zeroG nilS).toArray 39 x.cs (by rw [pg_len]; rfl) (by rw [pg_len]; decide)
  have hB7 := Below.then hB6 hb5
  have hbx7 := stab_blk _ _ _ _ hbx6 hb5
  have hxo5 := hxo.below hb5
  have hltb := hbx6.2
  go_upto_region 7 with (first | (refine wpList_store_row rfl _ _ rfl W4.heap.size rfl x.cs rfl hth5 hszG (pg_one _) hW5 ?_) | fail)
  have hxb : ∀ k, x.v.ownBlock = some k → k < W4.heap.size := fun k hk => (hxo.lt hk).2
  have hlt4 := hB6.size
  clear hW5 hth5 hxo hb5 hbx6 hB6
  generalize W4.heap.size = bg at *
  have hl5 : 3 + (rg4 ⟨rr, rr, rr, 0⟩).length ≤ x.cs.length := by rw [pg_len]; show 3 + 4 ≤ 7; decide
  have h6 := Blk.putM (rg4 ⟨rr, rr, rr, 0⟩) 3 hg5.1 hl5
  obtain ⟨x2, hx2⟩ : ∃ x2 : PG, PG.mk (mG 20 rr) x.wa x.wc = x2 := ⟨_, rfl⟩
  have hx2c : setM x.cs 3 (rg4 ⟨rr, rr, rr, 0⟩) = x2.cs := by
    rw [← hx2]
    unfold PG.cs PG.v
    rw [hxg]
    rfl
  rw [hx2c] at h6
  obtain ⟨W6, hW6⟩ : ∃ W6, W5.setCells bg 3 (rg4 ⟨rr, rr, rr, 0⟩) = W6 := ⟨_, rfl⟩
  have hth6 := hg5.1.thereM 3 (rg4 ⟨rr, rr, rr, 0⟩).length hl5
  rw [hW6] at h6
  have hg6 : BlkL bg x2.cs W6 := ⟨h6, h6.lt (List.getElem?_eq_getElem (by rw [pg_len]; decide : 0 < x2.cs.length))⟩
  have hB8 : Below w.heap.size w W6 := by rw [← hW6]; exact Below.cells hlt4 _ _ hB7
  have hbx8 : BlkL w.heap.size (rg4 ⟨b1, 7, 7, 0⟩) W6 := by
    rw [← hW6]
    exact ⟨hbx7.1.same (heap_setCells_other (by omega) _ _ _), Nat.lt_of_lt_of_le hbx7.2 (Below.cells (B := 0) (Nat.zero_le _) _ _ (Below.refl 0 W5)).size⟩
  have hxe : x2.v = x.v := by
    rw [← hx2]
    unfold PG.v
    rw [hxg]
    rfl
  have hxw : x2.g.ws = x.g.ws := by rw [← hx2, hxg]; rfl
  have hxo6 : OwnR 2 1 wcl W6 0 x2.v x2.g.ws := by
    rw [hxe, hxw, ← hW6]
    exact (hxo5.keep fun k hk => heap_setCells_other (by have := hxb k hk; omega) _ _ _).lower (Nat.zero_le _)
  have hx2g : x2.g = mG 20 rr := by rw [← hx2]
  clear h6 hg5 hxo5 hxb hB7 hbx7 hxe hxw hx2 hx2c hxg
  go_upto_region 8 with (first | (refine wpList_store_part rfl _ _ rfl bg 3 rfl (rg4 ⟨rr, rr, rr, 0⟩) rfl hth6 hszR (rg4_one _) hW6 ?_) | fail)
  clear hW6 hth6 hl5
  generalize hZ0 : W6 = Z at *
  clear hZ0
  have hb0' := hbx8
  have hS := (Below.refl Z.heap.size Z).drew
  have hB := Below.then hB8 hS
  refine wp_region_held_drew (S := (fun W => Below Z.heap.size Z W)) (by kernel_rfl) (by exact hS) ?_
  intro hHeld
  generalize Z.drew = w0 at *
  refine wpAnyH_take (i := 0) (v := ?_) (by simp only [gA, gB, gC]; rfl) (by kernel_rfl) (by kernel_rfl) (by kernel_rfl) (by exact fun _ _ _ h => h) (Or.inl ⟨by rfl, ?_⟩) (by assumption) ?_; rotate_left; (focus (intro w hSw; (try dsimp only at hSw); go_simp; try with_reducible rfl)); (try simp only [Act.put, sA, sB, sC])
  refine wpAnyH_take (i := 1) (v := _) (by simp only [gA, gB, gC]; rfl) (by kernel_rfl) (by kernel_rfl) (by kernel_rfl) (by exact fun _ _ _ h => h) (yields_row (by rfl) _ rfl w.heap.size rfl (rg4 ⟨b1, 7, 7, 0⟩) (fun _ q => (stab_blk _ _ _ _ hbx8 q).range) hundR rfl hszR) (by assumption) ?_; (try simp only [Act.put, sA, sB, sC])
  refine wpAnyH_ready (rs := [2, 4]) (by kernel_rfl) (by simp) ?_
  refine AllReadyH.cons (by simp only [gA, gB, gC]; rfl) (fun K hK => ?_) ?_
  · skip
    have hb := alloc_below w0 (.cells #[.int .i64 0, .int .i64 0, .int .i64 0] 2)
    have hrd := row_list (f := wcl) (sz := 1) (fun _ => rfl) w0 [0, 0, 0] #[.int .i64 0, .int .i64 0, .int .i64 0] rfl 2
    refine step_make3 rfl rfl ?_
    (try simp only [Act.put, sA, sB, sC])
    refine hK.out _ _ (Below.then hS hb) ?_
    clear hHeld hK
    intro hHeld
    replace hB := Below.then hB hb
    replace hS := Below.then hS hb
    clear hb
    generalize w0.alloc (.cells #[.int .i64 0, .int .i64 0, .int .i64 0] 2) = w1 at *
    generalize w0.heap.size = gd at *
    (try simp only [Act.put, sA, sB, sC])
    refine wpAnyH_take (i := 3) (v := ?_) (by simp only [gA, gB, gC]; rfl) (by kernel_rfl) (by kernel_rfl) (by kernel_rfl) (by exact fun _ _ _ h => h) (Or.inl ⟨by rfl, ?_⟩) (by assumption) ?_; rotate_left; (focus (intro w hSw; (try dsimp only at hSw); go_simp; try with_reducible rfl)); (try simp only [Act.put, sA, sB, sC])
    refine wpAnyH_ready (rs := [4]) (by kernel_rfl) (by simp) ?_
    refine AllReadyH.cons (by simp only [gA, gB, gC]; rfl) (fun K hK => ?_) AllReadyH.nil
    have hb : Below w1.heap.size w1 (w1.alloc (.cells #[.bool false, .slice none 0 0, .int .i64 0, .int .i64 0, .int .i64 0, .int .i64 0, .int .i64 0] 39)) := alloc_below w1 _
    have hz : BlkL w1.heap.size (sgCs zeroG nilS) (w1.alloc (.cells #[.bool false, .slice none 0 0, .int .i64 0, .int .i64 0, .int .i64 0, .int .i64 0, .int .i64 0] 39)) := blkl_alloc w1 #[.bool false, .slice none 0 0, .int .i64 0, .int .i64 0, .int .i64 0, .int .i64 0, .int .i64 0] 39
    have hgd : gd < w1.heap.size := by obtain ⟨y, hy, hc⟩ := hrd 0 0 rfl; obtain rfl := Option.some.inj hy; have h1 := hc 0 (by decide); rw [add_at] at h1; exact World.block_lt_of_cell? _ _ (h1.trans rfl)
    have hbd1 := hB.size
    have hbd2 := hS.size
    refine step_allocC (z := #[.bool false, .slice none 0 0, .int .i64 0, .int .i64 0, .int .i64 0, .int .i64 0, .int .i64 0]) rfl rfl (fun _ => rfl) ?_
    (try simp only [Act.put, sA, sB, sC])
    refine hK.out _ _ (Below.then hS hb) ?_
    clear hHeld hK
    intro hHeld
    replace hB := Below.then hB hb
    replace hS := Below.then hS hb
    replace hrd := hrd.below wd_okC.len hb
    clear hb
    generalize w1.alloc (.cells #[.bool false, .slice none 0 0, .int .i64 0, .int .i64 0, .int .i64 0, .int .i64 0, .int .i64 0] 39) = w2 at *
    generalize w1.heap.size = bd at *
    (try simp only [Act.put, sA, sB, sC])
    refine wpAnyH_ready (rs := [5]) (by kernel_rfl) (by simp) ?_
    refine AllReadyH.cons (by simp only [gA, gB, gC]; rfl) (fun K hK => ?_) AllReadyH.nil
    obtain ⟨xd, hxd⟩ : ∃ xd : PG, PG.mk (mD md b1) (some ⟨gd, 0, none⟩) 3 = xd := ⟨_, rfl⟩
    have hxdv : Aside (Value.agg #[.bool true, .slice (some ⟨gd, 0, none⟩) 3 3, .int .i64 md, .int .i64 b1, .int .i64 7, .int .i64 7, .int .i64 0] = .agg xd.cs.toArray) := by rw [← hxd]; exact rfl
    obtain ⟨W7, hW7, hth7, hd7, hk7⟩ := put_any hz (ds := xd.cs) (by rw [pg_len]; rfl) (by rw [pg_len]; decide)
    have hszd : (Try.prog.info? 39).map (·.size) = some xd.cs.length := by rw [pg_len]; exact hszG
    have hB7 := hk7 _ _ hbd1 hB
    have hS7 := hk7 _ _ hbd2 hS
    have hda : xd.At W7 := by rw [← hxd, ← hW7]; exact fun j u hu => by obtain ⟨y, hy, hc⟩ := hrd j u hu; refine ⟨y, hy, fun i hi => ?_⟩; obtain rfl := Option.some.inj hy; have h1 := hc i hi; rw [show (wcl u)[i]? = some (.int .i64 u) by obtain rfl : i = 0 := (by omega); rfl] at h1 ⊢; rw [add_at] at h1 ⊢; exact (World.cell?_of_block (a := ⟨gd, j * 1 + i, none⟩) (heap_setCells_other (show gd ≠ bd by omega) _ _ _)).trans h1
    have hdg : xd.g = mD md b1 := by rw [← hxd]
    have hdw : xd.wa ≠ none := by rw [← hxd]; intro q; cases q
    refine step_store_rowC rfl _ _ rfl bd rfl xd.cs hxdv.out hth7 hszd (pg_one _) hW7 ?_
    (try simp only [Act.put, sA, sB, sC])
    refine hK.out _ _ (hS7) ?_
    clear hHeld hK
    intro hHeld
    clear hW7 hth7 hk7 hz hB hS hrd hxd hxdv
    (try simp only [Act.put, sA, sB, sC])
    refine wpAnyH_done (by kernel_rfl) ?_ _
    have hgZ : BlkL bg x2.cs W7 := ⟨hg6.1.same (hS7.block bg hg6.2), Nat.lt_of_lt_of_le hg6.2 hS7.size⟩
    have hxoZ := hxo6.below hS7
    have hbZ : BlkL w.heap.size (rg4 ⟨b1, 7, 7, 0⟩) W7 := stab_blk _ _ _ _ hbx8 hS7
    clear hg6 hxo6 hbx8 hS7 hB8 hb0'
    go_upto_region 9 with fail
    go_wp2_with fail
    refine (cnew_any W7).mono ?_
    rintro e V1 ⟨rfl, hb1⟩
    obtain ⟨V2, hV2, hthV, hsV, hbV⟩ := new_stC V1 newC rfl nilS
    have hl1 := (Below.then hB7 hb1).size
    have y2 := hsV.ring
    have yf2 := (hsV.blk.1 2 _ rfl).2
    have hs2 : StAt V1.heap.size ⟨0, 0, rr, 0, [⟨0, 0, 4⟩, ⟨1, 0, 4⟩, ⟨2, 0, 4⟩, ⟨3, 0, 4⟩], [], false⟩ nilS (V2.setCell ⟨V1.heap.size, 2, none⟩ (.int .i64 rr)) := by
      have h1 := hsV.blk.1.set 2 (.int .i64 rr) (by show 2 < 18; decide)
      exact ⟨rfl, h1, h1.lt rfl⟩
    have hb2 : Below V1.heap.size V1 (V2.setCell ⟨V1.heap.size, 2, none⟩ (.int .i64 rr)) := hbV.setCell (p := ⟨V1.heap.size, 2, none⟩) (Nat.le_refl _) _
    obtain ⟨V3, hV3, hth3, hs3, hk3, -⟩ := hs2.putPtr (k := 1) (by decide) ⟨1, 0, 0⟩ (c' := mC rr) rfl rfl
    have hb3 : Below V1.heap.size V1 V3 := hk3 _ _ (Nat.le_refl _) hb2
    have hone8 : ∀ u ∈ stCs newC nilS, u.oneCell' = true := st_one _ _ rfl
    have hsz8 : (Try.prog.info? 29).map (·.size) = some (stCs newC nilS).length := by kernel_rfl
    obtain ⟨Y, hY⟩ : ∃ Y, stCs newC nilS = Y := ⟨_, rfl⟩
    rw [hY] at hV2 hthV hone8 hsz8
    have hYv : Aside (.agg (stCs newC nilS).toArray = Value.agg Y.toArray) := by rw [hY]; exact rfl
    have hg3 := stab_blk _ _ _ _ (stab_blk _ _ _ _ hgZ hb1) hb3
    have hd3 := stab_blk _ _ _ _ (stab_blk _ _ _ _ hd7 hb1) hb3
    have hbx3 := stab_blk _ _ _ _ (stab_blk _ _ _ _ hbZ hb1) hb3
    have hxo3 := (hxoZ.below hb1).below hb3
    have hda3 := (hda.below hb1).below hb3
    have hB3 := Below.then (Below.then hB7 hb1) hb3
    clear hY hsV hbV hs2 hb2 hk3 hgZ hd7 hbZ hxoZ hda hB7 hb1 hb3
    go_upto_region 11 with (first | (refine wpList_store_row rfl _ _ rfl V1.heap.size rfl Y hYv.out hthV hsz8 hone8 hV2 ?_) | fail)
    clear hV2 hthV hone8 hsz8 hYv y2 yf2
    go_upto_region 12 with (first | (refine wpList_store_part rfl _ _ rfl V1.heap.size 7 rfl (ptr3 ⟨1, 0, 0⟩) rfl hth3 hszP (ptr3J_one _) hV3 ?_) | fail)
    clear hV3 hth3
    generalize V1.heap.size = bs at *
    have hrg := hg3.range
    have hrd := hd3.range
    have hszx : (Try.prog.info? 39).map (·.size) = some x2.cs.length := by rw [pg_len]; exact hszG
    obtain ⟨hN4, hR4, hb4⟩ := mem_list V3 [x2, xd] (fun z hz => by
      rcases List.mem_cons.1 hz with rfl | hz
      · exact own_at hxo3
      · rw [List.mem_singleton.1 hz]; exact hda3) (x2.cs ++ xd.cs).toArray (by simp) 39 48 2 rfl
    have hMG : MG [x2, xd] := by
      obtain ⟨a1, c1, hv, -, hn, -⟩ := hxo3.slice wd_okC.len
      have hv' : Value.slice x2.wa x2.g.ws.length x2.wc = .slice a1 x2.g.ws.length c1 := hv
      injection hv' with e1 e2 e3
      refine ⟨by simp, fun z hz => ?_, fun z hz => ?_⟩
      · rcases List.mem_cons.1 hz with rfl | hz
        · rw [hx2g]; exact mG_ok 20 hr0 hr7
        · rw [List.mem_singleton.1 hz, hdg]; exact mD_ok md hb0 hb7
      · rcases List.mem_cons.1 hz with rfl | hz
        · rw [e1, e3]; exact hn
        · rw [List.mem_singleton.1 hz]; exact fun q => absurd q hdw
    have hM4 : MemO (V3.heap.size + 1) (some ⟨V3.heap.size, 0, none⟩) 2 [x2, xd] false 0 0 0 0 _ := ⟨hMG, ⟨by decide, by decide⟩, hN4, hR4⟩
    have hB4 := Below.then hB3 hb4
    have hs4 := hs3.keep hb4
    have hbx4 := stab_blk _ _ _ _ hbx3 hb4
    have hrs := hs4.blk.range
    have hrs3 := hs3.blk.range
    have ks := cstepV (mC rr) (mC_ok hr0 hr7) nilS hM4 (SV.nil _) (okC (mT rr (gmax rr b1))) (by rw [show [x2, xd].map (·.g) = [mG 20 rr, mD md b1] by simp [hx2g, hdg]]; exact hst)
    have hszC : (Try.prog.info? 29).map (·.size) = some (stCs (mC rr) nilS).length := hszS
    have hlv : w.heap.size ≤ V3.heap.size := hB3.size
    have hwlt : w.heap.size < V3.heap.size := hbx3.2
    have hb4s := hb4.size
    clear hM4 hMG hN4 hR4 hs3 hbx3 hB3 hg3 hd3 hxo3 hda3 hst hx2g hdg hdw hb4 hs4
    go_wp2_with (first | (refine wpList_load_row rfl _ rfl bs rfl (stCs (mC rr) nilS) hrs3 hundS rfl hszC ?_) | (refine wpList_load_row rfl _ rfl bg rfl x2.cs hrg hundG rfl hszx ?_) | (refine wpList_load_row rfl _ rfl bd rfl xd.cs hrd hundG rfl hszd ?_) | (refine wpList_build2 pg_okC (by decide) rfl _ _ rfl x2.cs xd.cs rfl rfl rfl rfl ?_) | fail)
    refine ks.mono ?_
    rintro e V5 hP
    obtain ⟨vA, he, hvA, hbA⟩ := hP.any V3.heap.size (Nat.le_succ _) hb4s
    replace he : e = .returned (.tuple #[.agg (stCs (mT rr (gmax rr b1)) vA).toArray, .int .i64 0, .bool false, .int .i64 0]) := he
    subst he
    have hBA := hB4.trans (hbA.mono hlv)
    have hbxA : BlkL w.heap.size (rg4 ⟨b1, 7, 7, 0⟩) V5 := ⟨hbx4.1.same (hbA.block _ hwlt), Nat.lt_of_lt_of_le hbx4.2 hbA.size⟩
    obtain ⟨V6, hV6, hth6, hs6, hb6⟩ := new_stC V5 (mT rr (gmax rr b1)) rfl vA
    have hB6 := Below.then hBA hb6
    have hbx6 := stab_blk _ _ _ _ hbxA hb6
    have hone6 := st_one (mT rr (gmax rr b1)) vA hvA
    have hl6 : (stCs (mT rr (gmax rr b1)) vA).length = 18 := st_len rfl
    have u0 := hs6.seg
    have u1 := hs6.off
    have u2 := hs6.ring
    have x0 := (hbx6.1 0 _ rfl).1
    obtain ⟨X, hX⟩ : ∃ X, stCs (mT rr (gmax rr b1)) vA = X := ⟨_, rfl⟩
    have hXv : Aside (.agg (stCs (mT rr (gmax rr b1)) vA).toArray = Value.agg X.toArray) := by rw [hX]; exact rfl
    rw [hX] at hV6 hth6 hone6 hl6
    have hszX : (Try.prog.info? 29).map (·.size) = some X.length := by rw [hl6]; exact hszS
    clear ks hP hbA hBA hbxA hbx4 hB4 hs6 hb6 hX hl6 hbx6 hvA hrs hrs3
    go_wp2_with (first | (refine wpList_store_row rfl _ _ rfl V5.heap.size rfl X hXv.out hth6 hszX hone6 hV6 ?_) | fail)
    go_ret
    exact ⟨rfl, hB6⟩
  refine AllReadyH.cons (by simp only [gA, gB, gC]; rfl) (fun K hK => ?_) AllReadyH.nil
  have hb : Below w0.heap.size w0 (w0.alloc (.cells #[.bool false, .slice none 0 0, .int .i64 0, .int .i64 0, .int .i64 0, .int .i64 0, .int .i64 0] 39)) := alloc_below w0 _
  have hz : BlkL w0.heap.size (sgCs zeroG nilS) (w0.alloc (.cells #[.bool false, .slice none 0 0, .int .i64 0, .int .i64 0, .int .i64 0, .int .i64 0, .int .i64 0] 39)) := blkl_alloc w0 #[.bool false, .slice none 0 0, .int .i64 0, .int .i64 0, .int .i64 0, .int .i64 0, .int .i64 0] 39
  have hbd1 := hB.size
  have hbd2 := hS.size
  refine step_allocC (z := #[.bool false, .slice none 0 0, .int .i64 0, .int .i64 0, .int .i64 0, .int .i64 0, .int .i64 0]) rfl rfl (fun _ => rfl) ?_
  (try simp only [Act.put, sA, sB, sC])
  refine hK.out _ _ (Below.then hS hb) ?_
  clear hHeld hK
  intro hHeld
  replace hB := Below.then hB hb
  replace hS := Below.then hS hb
  clear hb
  generalize w0.alloc (.cells #[.bool false, .slice none 0 0, .int .i64 0, .int .i64 0, .int .i64 0, .int .i64 0, .int .i64 0] 39) = w1 at *
  generalize w0.heap.size = bd at *
  (try simp only [Act.put, sA, sB, sC])
  refine wpAnyH_ready (rs := [2]) (by kernel_rfl) (by simp) ?_
  refine AllReadyH.cons (by simp only [gA, gB, gC]; rfl) (fun K hK => ?_) AllReadyH.nil
  have hb := alloc_below w1 (.cells #[.int .i64 0, .int .i64 0, .int .i64 0] 2)
  have hrd := row_list (f := wcl) (sz := 1) (fun _ => rfl) w1 [0, 0, 0] #[.int .i64 0, .int .i64 0, .int .i64 0] rfl 2
  have hgd : bd < w1.heap.size := hz.2
  refine step_make3 rfl rfl ?_
  (try simp only [Act.put, sA, sB, sC])
  refine hK.out _ _ (Below.then hS hb) ?_
  clear hHeld hK
  intro hHeld
  replace hB := Below.then hB hb
  replace hS := Below.then hS hb
  replace hz := stab_blk _ _ _ _ hz hb
  clear hb
  generalize w1.alloc (.cells #[.int .i64 0, .int .i64 0, .int .i64 0] 2) = w2 at *
  generalize w1.heap.size = gd at *
  (try simp only [Act.put, sA, sB, sC])
  refine wpAnyH_take (i := 3) (v := ?_) (by simp only [gA, gB, gC]; rfl) (by kernel_rfl) (by kernel_rfl) (by kernel_rfl) (by exact fun _ _ _ h => h) (Or.inl ⟨by rfl, ?_⟩) (by assumption) ?_; rotate_left; (focus (intro w hSw; (try dsimp only at hSw); go_simp; try with_reducible rfl)); (try simp only [Act.put, sA, sB, sC])
  refine wpAnyH_ready (rs := [5]) (by kernel_rfl) (by simp) ?_
  refine AllReadyH.cons (by simp only [gA, gB, gC]; rfl) (fun K hK => ?_) AllReadyH.nil
  obtain ⟨xd, hxd⟩ : ∃ xd : PG, PG.mk (mD md b1) (some ⟨gd, 0, none⟩) 3 = xd := ⟨_, rfl⟩
  have hxdv : Aside (Value.agg #[.bool true, .slice (some ⟨gd, 0, none⟩) 3 3, .int .i64 md, .int .i64 b1, .int .i64 7, .int .i64 7, .int .i64 0] = .agg xd.cs.toArray) := by rw [← hxd]; exact rfl
  obtain ⟨W7, hW7, hth7, hd7, hk7⟩ := put_any hz (ds := xd.cs) (by rw [pg_len]; rfl) (by rw [pg_len]; decide)
  have hszd : (Try.prog.info? 39).map (·.size) = some xd.cs.length := by rw [pg_len]; exact hszG
  have hB7 := hk7 _ _ hbd1 hB
  have hS7 := hk7 _ _ hbd2 hS
  have hda : xd.At W7 := by rw [← hxd, ← hW7]; exact fun j u hu => by obtain ⟨y, hy, hc⟩ := hrd j u hu; refine ⟨y, hy, fun i hi => ?_⟩; obtain rfl := Option.some.inj hy; have h1 := hc i hi; rw [show (wcl u)[i]? = some (.int .i64 u) by obtain rfl : i = 0 := (by omega); rfl] at h1 ⊢; rw [add_at] at h1 ⊢; exact (World.cell?_of_block (a := ⟨gd, j * 1 + i, none⟩) (heap_setCells_other (show gd ≠ bd by omega) _ _ _)).trans h1
  have hdg : xd.g = mD md b1 := by rw [← hxd]
  have hdw : xd.wa ≠ none := by rw [← hxd]; intro q; cases q
  refine step_store_rowC rfl _ _ rfl bd rfl xd.cs hxdv.out hth7 hszd (pg_one _) hW7 ?_
  (try simp only [Act.put, sA, sB, sC])
  refine hK.out _ _ (hS7) ?_
  clear hHeld hK
  intro hHeld
  clear hW7 hth7 hk7 hz hB hS hrd hxd hxdv
  (try simp only [Act.put, sA, sB, sC])
  refine wpAnyH_done (by kernel_rfl) ?_ _
  have hgZ : BlkL bg x2.cs W7 := ⟨hg6.1.same (hS7.block bg hg6.2), Nat.lt_of_lt_of_le hg6.2 hS7.size⟩
  have hxoZ := hxo6.below hS7
  have hbZ : BlkL w.heap.size (rg4 ⟨b1, 7, 7, 0⟩) W7 := stab_blk _ _ _ _ hbx8 hS7
  clear hg6 hxo6 hbx8 hS7 hB8 hb0'
  go_upto_region 9 with fail
  go_wp2_with fail
  refine (cnew_any W7).mono ?_
  rintro e V1 ⟨rfl, hb1⟩
  obtain ⟨V2, hV2, hthV, hsV, hbV⟩ := new_stC V1 newC rfl nilS
  have hl1 := (Below.then hB7 hb1).size
  have y2 := hsV.ring
  have yf2 := (hsV.blk.1 2 _ rfl).2
  have hs2 : StAt V1.heap.size ⟨0, 0, rr, 0, [⟨0, 0, 4⟩, ⟨1, 0, 4⟩, ⟨2, 0, 4⟩, ⟨3, 0, 4⟩], [], false⟩ nilS (V2.setCell ⟨V1.heap.size, 2, none⟩ (.int .i64 rr)) := by
    have h1 := hsV.blk.1.set 2 (.int .i64 rr) (by show 2 < 18; decide)
    exact ⟨rfl, h1, h1.lt rfl⟩
  have hb2 : Below V1.heap.size V1 (V2.setCell ⟨V1.heap.size, 2, none⟩ (.int .i64 rr)) := hbV.setCell (p := ⟨V1.heap.size, 2, none⟩) (Nat.le_refl _) _
  obtain ⟨V3, hV3, hth3, hs3, hk3, -⟩ := hs2.putPtr (k := 1) (by decide) ⟨1, 0, 0⟩ (c' := mC rr) rfl rfl
  have hb3 : Below V1.heap.size V1 V3 := hk3 _ _ (Nat.le_refl _) hb2
  have hone8 : ∀ u ∈ stCs newC nilS, u.oneCell' = true := st_one _ _ rfl
  have hsz8 : (Try.prog.info? 29).map (·.size) = some (stCs newC nilS).length := by kernel_rfl
  obtain ⟨Y, hY⟩ : ∃ Y, stCs newC nilS = Y := ⟨_, rfl⟩
  rw [hY] at hV2 hthV hone8 hsz8
  have hYv : Aside (.agg (stCs newC nilS).toArray = Value.agg Y.toArray) := by rw [hY]; exact rfl
  have hg3 := stab_blk _ _ _ _ (stab_blk _ _ _ _ hgZ hb1) hb3
  have hd3 := stab_blk _ _ _ _ (stab_blk _ _ _ _ hd7 hb1) hb3
  have hbx3 := stab_blk _ _ _ _ (stab_blk _ _ _ _ hbZ hb1) hb3
  have hxo3 := (hxoZ.below hb1).below hb3
  have hda3 := (hda.below hb1).below hb3
  have hB3 := Below.then (Below.then hB7 hb1) hb3
  clear hY hsV hbV hs2 hb2 hk3 hgZ hd7 hbZ hxoZ hda hB7 hb1 hb3
  go_upto_region 11 with (first | (refine wpList_store_row rfl _ _ rfl V1.heap.size rfl Y hYv.out hthV hsz8 hone8 hV2 ?_) | fail)
  clear hV2 hthV hone8 hsz8 hYv y2 yf2
  go_upto_region 12 with (first | (refine wpList_store_part rfl _ _ rfl V1.heap.size 7 rfl (ptr3 ⟨1, 0, 0⟩) rfl hth3 hszP (ptr3J_one _) hV3 ?_) | fail)
  clear hV3 hth3
  generalize V1.heap.size = bs at *
  have hrg := hg3.range
  have hrd := hd3.range
  have hszx : (Try.prog.info? 39).map (·.size) = some x2.cs.length := by rw [pg_len]; exact hszG
  obtain ⟨hN4, hR4, hb4⟩ := mem_list V3 [x2, xd] (fun z hz => by
    rcases List.mem_cons.1 hz with rfl | hz
    · exact own_at hxo3
    · rw [List.mem_singleton.1 hz]; exact hda3) (x2.cs ++ xd.cs).toArray (by simp) 39 48 2 rfl
  have hMG : MG [x2, xd] := by
    obtain ⟨a1, c1, hv, -, hn, -⟩ := hxo3.slice wd_okC.len
    have hv' : Value.slice x2.wa x2.g.ws.length x2.wc = .slice a1 x2.g.ws.length c1 := hv
    injection hv' with e1 e2 e3
    refine ⟨by simp, fun z hz => ?_, fun z hz => ?_⟩
    · rcases List.mem_cons.1 hz with rfl | hz
      · rw [hx2g]; exact mG_ok 20 hr0 hr7
      · rw [List.mem_singleton.1 hz, hdg]; exact mD_ok md hb0 hb7
    · rcases List.mem_cons.1 hz with rfl | hz
      · rw [e1, e3]; exact hn
      · rw [List.mem_singleton.1 hz]; exact fun q => absurd q hdw
  have hM4 : MemO (V3.heap.size + 1) (some ⟨V3.heap.size, 0, none⟩) 2 [x2, xd] false 0 0 0 0 _ := ⟨hMG, ⟨by decide, by decide⟩, hN4, hR4⟩
  have hB4 := Below.then hB3 hb4
  have hs4 := hs3.keep hb4
  have hbx4 := stab_blk _ _ _ _ hbx3 hb4
  have hrs := hs4.blk.range
  have hrs3 := hs3.blk.range
  have ks := cstepV (mC rr) (mC_ok hr0 hr7) nilS hM4 (SV.nil _) (okC (mT rr (gmax rr b1))) (by rw [show [x2, xd].map (·.g) = [mG 20 rr, mD md b1] by simp [hx2g, hdg]]; exact hst)
  have hszC : (Try.prog.info? 29).map (·.size) = some (stCs (mC rr) nilS).length := hszS
  have hlv : w.heap.size ≤ V3.heap.size := hB3.size
  have hwlt : w.heap.size < V3.heap.size := hbx3.2
  have hb4s := hb4.size
  clear hM4 hMG hN4 hR4 hs3 hbx3 hB3 hg3 hd3 hxo3 hda3 hst hx2g hdg hdw hb4 hs4
  go_wp2_with (first | (refine wpList_load_row rfl _ rfl bs rfl (stCs (mC rr) nilS) hrs3 hundS rfl hszC ?_) | (refine wpList_load_row rfl _ rfl bg rfl x2.cs hrg hundG rfl hszx ?_) | (refine wpList_load_row rfl _ rfl bd rfl xd.cs hrd hundG rfl hszd ?_) | (refine wpList_build2 pg_okC (by decide) rfl _ _ rfl x2.cs xd.cs rfl rfl rfl rfl ?_) | fail)
  refine ks.mono ?_
  rintro e V5 hP
  obtain ⟨vA, he, hvA, hbA⟩ := hP.any V3.heap.size (Nat.le_succ _) hb4s
  replace he : e = .returned (.tuple #[.agg (stCs (mT rr (gmax rr b1)) vA).toArray, .int .i64 0, .bool false, .int .i64 0]) := he
  subst he
  have hBA := hB4.trans (hbA.mono hlv)
  have hbxA : BlkL w.heap.size (rg4 ⟨b1, 7, 7, 0⟩) V5 := ⟨hbx4.1.same (hbA.block _ hwlt), Nat.lt_of_lt_of_le hbx4.2 hbA.size⟩
  obtain ⟨V6, hV6, hth6, hs6, hb6⟩ := new_stC V5 (mT rr (gmax rr b1)) rfl vA
  have hB6 := Below.then hBA hb6
  have hbx6 := stab_blk _ _ _ _ hbxA hb6
  have hone6 := st_one (mT rr (gmax rr b1)) vA hvA
  have hl6 : (stCs (mT rr (gmax rr b1)) vA).length = 18 := st_len rfl
  have u0 := hs6.seg
  have u1 := hs6.off
  have u2 := hs6.ring
  have x0 := (hbx6.1 0 _ rfl).1
  obtain ⟨X, hX⟩ : ∃ X, stCs (mT rr (gmax rr b1)) vA = X := ⟨_, rfl⟩
  have hXv : Aside (.agg (stCs (mT rr (gmax rr b1)) vA).toArray = Value.agg X.toArray) := by rw [hX]; exact rfl
  rw [hX] at hV6 hth6 hone6 hl6
  have hszX : (Try.prog.info? 29).map (·.size) = some X.length := by rw [hl6]; exact hszS
  clear ks hP hbA hBA hbxA hbx4 hB4 hs6 hb6 hX hl6 hbx6 hvA hrs hrs3
  go_wp2_with (first | (refine wpList_store_row rfl _ _ rfl V5.heap.size rfl X hXv.out hth6 hszX hone6 hV6 ?_) | fail)
  go_ret
  exact ⟨rfl, hB6⟩
set_option maxRecDepth 8000 in
set_option maxHeartbeats 8000000 in
theorem cpuModes3f (m0 r op md b1 rr : Int) (b : Rg) (hmd : m0 % 8 = md) (hrr : r % 8 = rr) (hbb : b.a % 8 = b1) (hk : op % 3 = 2) (hq : hasM md 4 = false) (w : World) :
    Calls Try.prog 7 #[.int .i64 m0, b.v, .int .i64 r, .int .i64 op] w fun e w' => e = .returned (.bool true) ∧ Below w.heap.size w w' := by
  have hundS := Try.underlying29
  have hszS : (Try.prog.info? 29).map (·.size) = some 18 := by kernel_rfl
  have hundG := Try.underlying39
  have hszG : (Try.prog.info? 39).map (·.size) = some 7 := by kernel_rfl
  have hundR := Try.underlying37
  have hszR : (Try.prog.info? 37).map (·.size) = some 4 := by kernel_rfl
  have hszP : (Try.prog.info? 25).map (·.size) = some 3 := by kernel_rfl
  have hmi : ∀ (v : Value) (w : World), (Instr.makeInterface 34 v).run Try.prog w = .ok (.iface 34 v) w := fun _ _ => rfl
  have hr0 : 0 ≤ rr := by omega
  have hr7 : rr ≤ 7 := by omega
  have hb0 : 0 ≤ b1 := by omega
  have hb7 : b1 ≤ 7 := by omega
  have k1 := fun W : World => w16_any m0 8 (by decide) (by decide) W
  have k2 := fun W : World => w16_any r 8 (by decide) (by decide) W
  have k3 := fun W : World => w16_any b.a 8 (by decide) (by decide) W
  have k4 := fun W : World => w16_any op 3 (by decide) (by decide) W
  simp only [hmd] at k1
  simp only [hrr] at k2
  simp only [hbb] at k3
  simp only [hk] at k4
  have hst : stepC (mC rr) [mG 20 rr, mD md b1] = flt 33 := by rw [m_step20 md b1 hr0 hr7 hb0 hb7, if_neg (by rw [hq]; decide)]
  have fq0 : (bits .and .i64 md 4 == 0) = true := by unfold hasM at hq; simpa using hq
  clear hmd hrr hbb hk
  have hbx0 := blkl_alloc w (rg4 b).toArray 37
  have hBx0 := alloc_below w (.cells (rg4 b).toArray 37)
  replace hbx0 : BlkL w.heap.size (rg4 b) (w.alloc (.cells #[.int .i64 b.a, .int .i64 b.b, .int .i64 b.c, .int .i64 b.g] 37)) := hbx0
  replace hBx0 : Below w.heap.size w (w.alloc (.cells #[.int .i64 b.a, .int .i64 b.b, .int .i64 b.c, .int .i64 b.g] 37)) := hBx0
  go_enter Try.func7, Try.ntmps7
  go_upto_region 1 with fail
  generalize w.alloc (.cells #[.int .i64 b.a, .int .i64 b.b, .int .i64 b.c, .int .i64 b.g] 37) = U0 at *
  go_wp2_with fail
  refine (ck_any U0).mono ?_
  rintro e W1 ⟨rfl, hb1⟩
  have hbx1 := stab_blk _ _ _ _ hbx0 hb1
  have hB1 := Below.then hBx0 hb1
  clear hb1 hbx0 hBx0
  go_wp2_with fail
  refine (k1 W1).mono ?_
  rintro e W2 ⟨rfl, hw⟩
  rw [hw]
  clear hw W2
  go_wp2_with fail
  refine (k2 W1).mono ?_
  rintro e W2 ⟨rfl, hw⟩
  rw [hw]
  clear hw W2
  have y0 := (hbx1.1 0 _ rfl).1
  go_wp2_with fail
  refine (k3 W1).mono ?_
  rintro e W2 ⟨rfl, hw⟩
  rw [hw]
  clear hw W2 y0
  obtain ⟨U3, hU3, hthU, hbx3, hkU⟩ := put_any hbx1 (ds := rg4 ⟨b1, 7, 7, 0⟩) rfl (by show 0 < 4; decide)
  have hB3 := hkU _ _ (Nat.le_refl _) hB1
  go_upto_region 5 with (first | (refine wpList_store_row rfl _ _ rfl w.heap.size rfl (rg4 ⟨b1, 7, 7, 0⟩) rfl hthU hszR (rg4_one _) hU3 ?_) | fail)
  clear hU3 hthU hkU hbx1 hB1
  have hbA := alloc_below U3 (.cells #[.int .i64 1, .int .i64 2, .int .i64 20] 3)
  have hbx4 := stab_blk _ _ _ _ hbx3 hbA
  have hB4 := Below.then hB3 hbA
  go_wp2_with fail
  refine (k4 _).mono ?_
  rintro e W2 ⟨rfl, hw⟩
  rw [hw]
  clear hw W2
  go_upto_region 6 with fail
  clear hbA hbx3 hB3 k1 k2 k3 k4
  generalize U3.alloc (.cells #[.int .i64 1, .int .i64 2, .int .i64 20] 3) = W1 at *
  have hbi := alloc_below W1 (.cells (ins3 ⟨20, 1, 0⟩).toArray 42)
  have hri := row_list (f := ins3) (sz := 3) (fun _ => rfl) W1 [⟨20, 1, 0⟩] #[.int .i64 20, .int .i64 1, .int .i64 0] rfl 42
  have ko := cone_any [⟨20, 1, 0⟩] [] (some ⟨W1.heap.size, 0, none⟩) none 1 0 (by show 1 ≤ 100; decide) (by show 0 ≤ 100; decide) (fun _ => rfl) _ hri (fun j y h => by simp at h)
  have hbx5 := stab_blk _ _ _ _ hbx4 hbi
  have hB5 := Below.then hB4 hbi
  clear hri hbi hbx4 hB4
  go_wp2_with fail
  refine ko.mono ?_
  rintro e W4 ⟨x, hxg, rfl, hxo, hb4⟩
  have hbx6 := stab_blk _ _ _ _ hbx5 hb4
  have hB6 := Below.then hB5 hb4
  clear ko hb4 hbx5 hB5
  obtain ⟨W5, hW5, hth5, hg5, hb5⟩ := put_new W4 (sgCs zeroG nilS).toArray 39 x.cs (by rw [pg_len]; rfl) (by rw [pg_len]; decide)
  have hB7 := Below.then hB6 hb5
  have hbx7 := stab_blk _ _ _ _ hbx6 hb5
  have hxo5 := hxo.below hb5
  have hltb := hbx6.2
  go_upto_region 7 with (first | (refine wpList_store_row rfl _ _ rfl W4.heap.size rfl x.cs rfl hth5 hszG (pg_one _) hW5 ?_) | fail)
  have hxb : ∀ k, x.v.ownBlock = some k → k < W4.heap.size := fun k hk => (hxo.lt hk).2
  have hlt4 := hB6.size
  clear hW5 hth5 hxo hb5 hbx6 hB6
  generalize W4.heap.size = bg at *
  have hl5 : 3 + (rg4 ⟨rr, rr, rr, 0⟩).length ≤ x.cs.length := by rw [pg_len]; show 3 + 4 ≤ 7; decide
  have h6 := Blk.putM (rg4 ⟨rr, rr, rr, 0⟩) 3 hg5.1 hl5
  obtain ⟨x2, hx2⟩ : ∃ x2 : PG, PG.mk (mG 20 rr) x.wa x.wc = x2 := ⟨_, rfl⟩
  have hx2c : setM x.cs 3 (rg4 ⟨rr, rr, rr, 0⟩) = x2.cs := by
    rw [← hx2]
    unfold PG.cs PG.v
    rw [hxg]
    rfl
  rw [hx2c] at h6
  obtain ⟨W6, hW6⟩ : ∃ W6, W5.setCells bg 3 (rg4 ⟨rr, rr, rr, 0⟩) = W6 := ⟨_, rfl⟩
  have hth6 := hg5.1.thereM 3 (rg4 ⟨rr, rr, rr, 0⟩).length hl5
  rw [hW6] at h6
  have hg6 : BlkL bg x2.cs W6 := ⟨h6, h6.lt (List.getElem?_eq_getElem (by rw [pg_len]; decide : 0 < x2.cs.length))⟩
  have hB8 : Below w.heap.size w W6 := by rw [← hW6]; exact Below.cells hlt4 _ _ hB7
  have hbx8 : BlkL w.heap.size (rg4 ⟨b1, 7, 7, 0⟩) W6 := by
    rw [← hW6]
    exact ⟨hbx7.1.same (heap_setCells_other (by omega) _ _ _), Nat.lt_of_lt_of_le hbx7.2 (Below.cells (B := 0) (Nat.zero_le _) _ _ (Below.refl 0 W5)).size⟩
  have hxe : x2.v = x.v := by
    rw [← hx2]
    unfold PG.v
    rw [hxg]
    rfl
  have hxw : x2.g.ws = x.g.ws := by rw [← hx2, hxg]; rfl
  have hxo6 : OwnR 2 1 wcl W6 0 x2.v x2.g.ws := by
    rw [hxe, hxw, ← hW6]
    exact (hxo5.keep fun k hk => heap_setCells_other (by have := hxb k hk; omega) _ _ _).lower (Nat.zero_le _)
  have hx2g : x2.g = mG 20 rr := by rw [← hx2]
  clear h6 hg5 hxo5 hxb hB7 hbx7 hxe hxw hx2 hx2c hxg
  go_upto_region 8 with (first | (refine wpList_store_part rfl _ _ rfl bg 3 rfl (rg4 ⟨rr, rr, rr, 0⟩) rfl hth6 hszR (rg4_one _) hW6 ?_) | fail)
  clear hW6 hth6 hl5
  generalize hZ0 : W6 = Z at *
  clear hZ0
  have hb0' := hbx8
  have hS := (Below.refl Z.heap.size Z).drew
  have hB := Below.then hB8 hS
  refine wp_region_held_drew (S := (fun W => Below Z.heap.size Z W)) (by kernel_rfl) (by exact hS) ?_
  intro hHeld
  generalize Z.drew = w0 at *
  refine wpAnyH_take (i := 0) (v := ?_) (by simp only [gA, gB, gC]; rfl) (by kernel_rfl) (by kernel_rfl) (by kernel_rfl) (by exact fun _ _ _ h => h) (Or.inl ⟨by rfl, ?_⟩) (by assumption) ?_; rotate_left; (focus (intro w hSw; (try dsimp only at hSw); go_simp; try with_reducible rfl)); (try simp only [Act.put, sA, sB, sC])
  refine wpAnyH_take (i := 1) (v := _) (by simp only [gA, gB, gC]; rfl) (by kernel_rfl) (by kernel_rfl) (by kernel_rfl) (by exact fun _ _ _ h => h) (yields_row (by rfl) _ rfl w.heap.size rfl (rg4 ⟨b1, 7, 7, 0⟩) (fun _ q => (stab_blk _ _ _ _ hbx8 q).range) hundR rfl hszR) (by assumption) ?_; (try simp only [Act.put, sA, sB, sC])
  refine wpAnyH_ready (rs := [2, 4]) (by kernel_rfl) (by simp) ?_
  refine AllReadyH.cons (by simp only [gA, gB, gC]; rfl) (fun K hK => ?_) ?_
  · skip
    have hb := alloc_below w0 (.cells #[.int .i64 0, .int .i64 0, .int .i64 0] 2)
    have hrd := row_list (f := wcl) (sz := 1) (fun _ => rfl) w0 [0, 0, 0] #[.int .i64 0, .int .i64 0, .int .i64 0] rfl 2
    refine step_make3 rfl rfl ?_
    (try simp only [Act.put, sA, sB, sC])
    refine hK.out _ _ (Below.then hS hb) ?_
    clear hHeld hK
    intro hHeld
    replace hB := Below.then hB hb
    replace hS := Below.then hS hb
    clear hb
    generalize w0.alloc (.cells #[.int .i64 0, .int .i64 0, .int .i64 0] 2) = w1 at *
    generalize w0.heap.size = gd at *
    (try simp only [Act.put, sA, sB, sC])
    refine wpAnyH_take (i := 3) (v := ?_) (by simp only [gA, gB, gC]; rfl) (by kernel_rfl) (by kernel_rfl) (by kernel_rfl) (by exact fun _ _ _ h => h) (Or.inl ⟨by rfl, ?_⟩) (by assumption) ?_; rotate_left; (focus (intro w hSw; (try dsimp only at hSw); go_simp; try with_reducible rfl)); (try simp only [Act.put, sA, sB, sC])
    refine wpAnyH_ready (rs := [4]) (by kernel_rfl) (by simp) ?_
    refine AllReadyH.cons (by simp only [gA, gB, gC]; rfl) (fun K hK => ?_) AllReadyH.nil
    have hb : Below w1.heap.size w1 (w1.alloc (.cells #[.bool false, .slice none 0 0, .int .i64 0, .int .i64 0, .int .i64 0, .int .i64 0, .int .i64 0] 39)) := alloc_below w1 _
    have hz : BlkL w1.heap.size (sgCs zeroG nilS) (w1.alloc (.cells #[.bool false, .slice none 0 0, .int .i64 0, .int .i64 0, .int .i64 0, .int .i64 0, .int .i64 0] 39)) := blkl_alloc w1 #[.bool false, .slice none 0 0, .int .i64 0, .int .i64 0, .int .i64 0, .int .i64 0, .int .i64 0] 39
    have hgd : gd < w1.heap.size := by obtain ⟨y, hy, hc⟩ := hrd 0 0 rfl; obtain rfl := Option.some.inj hy; have h1 := hc 0 (by decide); rw [add_at] at h1; exact World.block_lt_of_cell? _ _ (h1.trans rfl)
    have hbd1 := hB.size
    have hbd2 := hS.size
    refine step_allocC (z := #[.bool false, .slice none 0 0, .int .i64 0, .int .i64 0, .int .i64 0, .int .i64 0, .int .i64 0]) rfl rfl (fun _ => rfl) ?_
    (try simp only [Act.put, sA, sB, sC])
    refine hK.out _ _ (Below.then hS hb) ?_
    clear hHeld hK
    intro hHeld
    replace hB := Below.then hB hb
    replace hS := Below.then hS hb
    replace hrd := hrd.below wd_okC.len hb
    clear hb
    generalize w1.alloc (.cells #[.bool false, .slice none 0 0, .int .i64 0, .int .i64 0, .int .i64 0, .int .i64 0, .int .i64 0] 39) = w2 at *
    generalize w1.heap.size = bd at *
    (try simp only [Act.put, sA, sB, sC])
    refine wpAnyH_ready (rs := [5]) (by kernel_rfl) (by simp) ?_
    refine AllReadyH.cons (by simp only [gA, gB, gC]; rfl) (fun K hK => ?_) AllReadyH.nil
    obtain ⟨xd, hxd⟩ : ∃ xd : PG, PG.mk (mD md b1) (some ⟨gd, 0, none⟩) 3 = xd := ⟨_, rfl⟩
    have hxdv : Aside (Value.agg #[.bool true, .slice (some ⟨gd, 0, none⟩) 3 3, .int .i64 md, .int .i64 b1, .int .i64 7, .int .i64 7, .int .i64 0] = .agg xd.cs.toArray) := by rw [← hxd]; exact rfl
    obtain ⟨W7, hW7, hth7, hd7, hk7⟩ := put_any hz (ds := xd.cs) (by rw [pg_len]; rfl) (by rw [pg_len]; decide)
    have hszd : (Try.prog.info? 39).map (·.size) = some xd.cs.length := by rw [pg_len]; exact hszG
    have hB7 := hk7 _ _ hbd1 hB
    have hS7 := hk7 _ _ hbd2 hS
    have hda : xd.At W7 := by rw [← hxd, ← hW7]; exact fun j u hu => by obtain ⟨y, hy, hc⟩ := hrd j u hu; refine ⟨y, hy, fun i hi => ?_⟩; obtain rfl := Option.some.inj hy; have h1 := hc i hi; rw [show (wcl u)[i]? = some (.int .i64 u) by obtain rfl : i = 0 := (by omega); rfl] at h1 ⊢; rw [add_at] at h1 ⊢; exact (World.cell?_of_block (a := ⟨gd, j * 1 + i, none⟩) (heap_setCells_other (show gd ≠ bd by omega) _ _ _)).trans h1
    have hdg : xd.g = mD md b1 := by rw [← hxd]
    have hdw : xd.wa ≠ none := by rw [← hxd]; intro q; cases q
    refine step_store_rowC rfl _ _ rfl bd rfl xd.cs hxdv.out hth7 hszd (pg_one _) hW7 ?_
    (try simp only [Act.put, sA, sB, sC])
    refine hK.out _ _ (hS7) ?_
    clear hHeld hK
    intro hHeld
    clear hW7 hth7 hk7 hz hB hS hrd hxd hxdv
    (try simp only [Act.put, sA, sB, sC])
    refine wpAnyH_done (by kernel_rfl) ?_ _
    have hgZ : BlkL bg x2.cs W7 := ⟨hg6.1.same (hS7.block bg hg6.2), Nat.lt_of_lt_of_le hg6.2 hS7.size⟩
    have hxoZ := hxo6.below hS7
    have hbZ : BlkL w.heap.size (rg4 ⟨b1, 7, 7, 0⟩) W7 := stab_blk _ _ _ _ hbx8 hS7
    clear hg6 hxo6 hbx8 hS7 hB8 hb0'
    go_upto_region 9 with fail
    go_wp2_with fail
    refine (cnew_any W7).mono ?_
    rintro e V1 ⟨rfl, hb1⟩
    obtain ⟨V2, hV2, hthV, hsV, hbV⟩ := new_stC V1 newC rfl nilS
    have hl1 := (Below.then hB7 hb1).size
    have y2 := hsV.ring
    have yf2 := (hsV.blk.1 2 _ rfl).2
    have hs2 : StAt V1.heap.size ⟨0, 0, rr, 0, [⟨0, 0, 4⟩, ⟨1, 0, 4⟩, ⟨2, 0, 4⟩, ⟨3, 0, 4⟩], [], false⟩ nilS (V2.setCell ⟨V1.heap.size, 2, none⟩ (.int .i64 rr)) := by
      have h1 := hsV.blk.1.set 2 (.int .i64 rr) (by show 2 < 18; decide)
      exact ⟨rfl, h1, h1.lt rfl⟩
    have hb2 : Below V1.heap.size V1 (V2.setCell ⟨V1.heap.size, 2, none⟩ (.int .i64 rr)) := hbV.setCell (p := ⟨V1.heap.size, 2, none⟩) (Nat.le_refl _) _
    obtain ⟨V3, hV3, hth3, hs3, hk3, -⟩ := hs2.putPtr (k := 1) (by decide) ⟨1, 0, 0⟩ (c' := mC rr) rfl rfl
    have hb3 : Below V1.heap.size V1 V3 := hk3 _ _ (Nat.le_refl _) hb2
    have hone8 : ∀ u ∈ stCs newC nilS, u.oneCell' = true := st_one _ _ rfl
    have hsz8 : (Try.prog.info? 29).map (·.size) = some (stCs newC nilS).length := by kernel_rfl
    obtain ⟨Y, hY⟩ : ∃ Y, stCs newC nilS = Y := ⟨_, rfl⟩
    rw [hY] at hV2 hthV hone8 hsz8
    have hYv : Aside (.agg (stCs newC nilS).toArray = Value.agg Y.toArray) := by rw [hY]; exact rfl
    have hg3 := stab_blk _ _ _ _ (stab_blk _ _ _ _ hgZ hb1) hb3
    have hd3 := stab_blk _ _ _ _ (stab_blk _ _ _ _ hd7 hb1) hb3
    have hbx3 := stab_blk _ _ _ _ (stab_blk _ _ _ _ hbZ hb1) hb3
    have hxo3 := (hxoZ.below hb1).below hb3
    have hda3 := (hda.below hb1).below hb3
    have hB3 := Below.then (Below.then hB7 hb1) hb3
    clear hY hsV hbV hs2 hb2 hk3 hgZ hd7 hbZ hxoZ hda hB7 hb1 hb3
    go_upto_region 11 with (first | (refine wpList_store_row rfl _ _ rfl V1.heap.size rfl Y hYv.out hthV hsz8 hone8 hV2 ?_) | fail)
    clear hV2 hthV hone8 hsz8 hYv y2 yf2
    go_upto_region 12 with (first | (refine wpList_store_part rfl _ _ rfl V1.heap.size 7 rfl (ptr3 ⟨1, 0, 0⟩) rfl hth3 hszP (ptr3J_one _) hV3 ?_) | fail)
    clear hV3 hth3
    generalize V1.heap.size = bs at *
    have hrg := hg3.range
    have hrd := hd3.range
    have hszx : (Try.prog.info? 39).map (·.size) = some x2.cs.length := by rw [pg_len]; exact hszG
    obtain ⟨hN4, hR4, hb4⟩ := mem_list V3 [x2, xd] (fun z hz => by
      rcases List.mem_cons.1 hz with rfl | hz
      · exact own_at hxo3
      · rw [List.mem_singleton.1 hz]; exact hda3) (x2.cs ++ xd.cs).toArray (by simp) 39 48 2 rfl
    have hMG : MG [x2, xd] := by
      obtain ⟨a1, c1, hv, -, hn, -⟩ := hxo3.slice wd_okC.len
      have hv' : Value.slice x2.wa x2.g.ws.length x2.wc = .slice a1 x2.g.ws.length c1 := hv
      injection hv' with e1 e2 e3
      refine ⟨by simp, fun z hz => ?_, fun z hz => ?_⟩
      · rcases List.mem_cons.1 hz with rfl | hz
        · rw [hx2g]; exact mG_ok 20 hr0 hr7
        · rw [List.mem_singleton.1 hz, hdg]; exact mD_ok md hb0 hb7
      · rcases List.mem_cons.1 hz with rfl | hz
        · rw [e1, e3]; exact hn
        · rw [List.mem_singleton.1 hz]; exact fun q => absurd q hdw
    have hM4 : MemO (V3.heap.size + 1) (some ⟨V3.heap.size, 0, none⟩) 2 [x2, xd] false 0 0 0 0 _ := ⟨hMG, ⟨by decide, by decide⟩, hN4, hR4⟩
    have hB4 := Below.then hB3 hb4
    have hs4 := hs3.keep hb4
    have hbx4 := stab_blk _ _ _ _ hbx3 hb4
    have hrs := hs4.blk.range
    have hrs3 := hs3.blk.range
    have ks := cstepV (mC rr) (mC_ok hr0 hr7) nilS hM4 (SV.nil _) (flt 33) (by rw [show [x2, xd].map (·.g) = [mG 20 rr, mD md b1] by simp [hx2g, hdg]]; exact hst)
    have hszC : (Try.prog.info? 29).map (·.size) = some (stCs (mC rr) nilS).length := hszS
    have hlv : w.heap.size ≤ V3.heap.size := hB3.size
    have hwlt : w.heap.size < V3.heap.size := hbx3.2
    have hb4s := hb4.size
    clear hM4 hMG hN4 hR4 hs3 hbx3 hB3 hg3 hd3 hxo3 hda3 hst hx2g hdg hdw hb4 hs4
    go_wp2_with (first | (refine wpList_load_row rfl _ rfl bs rfl (stCs (mC rr) nilS) hrs3 hundS rfl hszC ?_) | (refine wpList_load_row rfl _ rfl bg rfl x2.cs hrg hundG rfl hszx ?_) | (refine wpList_load_row rfl _ rfl bd rfl xd.cs hrd hundG rfl hszd ?_) | (refine wpList_build2 pg_okC (by decide) rfl _ _ rfl x2.cs xd.cs rfl rfl rfl rfl ?_) | fail)
    refine ks.mono ?_
    rintro e V5 hP
    obtain ⟨vA, he, hvA, hbA⟩ := hP.any V3.heap.size (Nat.le_succ _) hb4s
    replace he : e = .returned (.tuple #[.agg (stCs (zeroC) vA).toArray, .int .i64 0, .bool false, .int .i64 33]) := he
    subst he
    have hBA := hB4.trans (hbA.mono hlv)
    have hbxA : BlkL w.heap.size (rg4 ⟨b1, 7, 7, 0⟩) V5 := ⟨hbx4.1.same (hbA.block _ hwlt), Nat.lt_of_lt_of_le hbx4.2 hbA.size⟩
    obtain ⟨V6, hV6, hth6, hs6, hb6⟩ := new_stC V5 (zeroC) rfl vA
    have hB6 := Below.then hBA hb6
    have hbx6 := stab_blk _ _ _ _ hbxA hb6
    have hone6 := st_one (zeroC) vA hvA
    have hl6 : (stCs (zeroC) vA).length = 18 := st_len rfl
    have u0 := hs6.seg
    have u1 := hs6.off
    have u2 := hs6.ring
    have x0 := (hbx6.1 0 _ rfl).1
    obtain ⟨X, hX⟩ : ∃ X, stCs (zeroC) vA = X := ⟨_, rfl⟩
    have hXv : Aside (.agg (stCs (zeroC) vA).toArray = Value.agg X.toArray) := by rw [hX]; exact rfl
    rw [hX] at hV6 hth6 hone6 hl6
    have hszX : (Try.prog.info? 29).map (·.size) = some X.length := by rw [hl6]; exact hszS
    clear ks hP hbA hBA hbxA hbx4 hB4 hs6 hb6 hX hl6 hbx6 hvA hrs hrs3
    go_wp2_with (first | (refine wpList_store_row rfl _ _ rfl V5.heap.size rfl X hXv.out hth6 hszX hone6 hV6 ?_) | fail)
    go_ret
    exact ⟨rfl, hB6⟩
  refine AllReadyH.cons (by simp only [gA, gB, gC]; rfl) (fun K hK => ?_) AllReadyH.nil
  have hb : Below w0.heap.size w0 (w0.alloc (.cells #[.bool false, .slice none 0 0, .int .i64 0, .int .i64 0, .int .i64 0, .int .i64 0, .int .i64 0] 39)) := alloc_below w0 _
  have hz : BlkL w0.heap.size (sgCs zeroG nilS) (w0.alloc (.cells #[.bool false, .slice none 0 0, .int .i64 0, .int .i64 0, .int .i64 0, .int .i64 0, .int .i64 0] 39)) := blkl_alloc w0 #[.bool false, .slice none 0 0, .int .i64 0, .int .i64 0, .int .i64 0, .int .i64 0, .int .i64 0] 39
  have hbd1 := hB.size
  have hbd2 := hS.size
  refine step_allocC (z := #[.bool false, .slice none 0 0, .int .i64 0, .int .i64 0, .int .i64 0, .int .i64 0, .int .i64 0]) rfl rfl (fun _ => rfl) ?_
  (try simp only [Act.put, sA, sB, sC])
  refine hK.out _ _ (Below.then hS hb) ?_
  clear hHeld hK
  intro hHeld
  replace hB := Below.then hB hb
  replace hS := Below.then hS hb
  clear hb
  generalize w0.alloc (.cells #[.bool false, .slice none 0 0, .int .i64 0, .int .i64 0, .int .i64 0, .int .i64 0, .int .i64 0] 39) = w1 at *
  generalize w0.heap.size = bd at *
  (try simp only [Act.put, sA, sB, sC])
  refine wpAnyH_ready (rs := [2]) (by kernel_rfl) (by simp) ?_
  refine AllReadyH.cons (by simp only [gA, gB, gC]; rfl) (fun K hK => ?_) AllReadyH.nil
  have hb := alloc_below w1 (.cells #[.int .i64 0, .int .i64 0, .int .i64 0] 2)
  have hrd := row_list (f := wcl) (sz := 1) (fun _ => rfl) w1 [0, 0, 0] #[.int .i64 0, .int .i64 0, .int .i64 0] rfl 2
  have hgd : bd < w1.heap.size := hz.2
  refine step_make3 rfl rfl ?_
  (try simp only [Act.put, sA, sB, sC])
  refine hK.out _ _ (Below.then hS hb) ?_
  clear hHeld hK
  intro hHeld
  replace hB := Below.then hB hb
  replace hS := Below.then hS hb
  replace hz := stab_blk _ _ _ _ hz hb
  clear hb
  generalize w1.alloc (.cells #[.int .i64 0, .int .i64 0, .int .i64 0] 2) = w2 at *
  generalize w1.heap.size = gd at *
  (try simp only [Act.put, sA, sB, sC])
  refine wpAnyH_take (i := 3) (v := ?_) (by simp only [gA, gB, gC]; rfl) (by kernel_rfl) (by kernel_rfl) (by kernel_rfl) (by exact fun _ _ _ h => h) (Or.inl ⟨by rfl, ?_⟩) (by assumption) ?_; rotate_left; (focus (intro w hSw; (try dsimp only at hSw); go_simp; try with_reducible rfl)); (try simp only [Act.put, sA, sB, sC])
  refine wpAnyH_ready (rs := [5]) (by kernel_rfl) (by simp) ?_
  refine AllReadyH.cons (by simp only [gA, gB, gC]; rfl) (fun K hK => ?_) AllReadyH.nil
  obtain ⟨xd, hxd⟩ : ∃ xd : PG, PG.mk (mD md b1) (some ⟨gd, 0, none⟩) 3 = xd := ⟨_, rfl⟩
  have hxdv : Aside (Value.agg #[.bool true, .slice (some ⟨gd, 0, none⟩) 3 3, .int .i64 md, .int .i64 b1, .int .i64 7, .int .i64 7, .int .i64 0] = .agg xd.cs.toArray) := by rw [← hxd]; exact rfl
  obtain ⟨W7, hW7, hth7, hd7, hk7⟩ := put_any hz (ds := xd.cs) (by rw [pg_len]; rfl) (by rw [pg_len]; decide)
  have hszd : (Try.prog.info? 39).map (·.size) = some xd.cs.length := by rw [pg_len]; exact hszG
  have hB7 := hk7 _ _ hbd1 hB
  have hS7 := hk7 _ _ hbd2 hS
  have hda : xd.At W7 := by rw [← hxd, ← hW7]; exact fun j u hu => by obtain ⟨y, hy, hc⟩ := hrd j u hu; refine ⟨y, hy, fun i hi => ?_⟩; obtain rfl := Option.some.inj hy; have h1 := hc i hi; rw [show (wcl u)[i]? = some (.int .i64 u) by obtain rfl : i = 0 := (by omega); rfl] at h1 ⊢; rw [add_at] at h1 ⊢; exact (World.cell?_of_block (a := ⟨gd, j * 1 + i, none⟩) (heap_setCells_other (show gd ≠ bd by omega) _ _ _)).trans h1
  have hdg : xd.g = mD md b1 := by rw [← hxd]
  have hdw : xd.wa ≠ none := by rw [← hxd]; intro q; cases q
  refine step_store_rowC rfl _ _ rfl bd rfl xd.cs hxdv.out hth7 hszd (pg_one _) hW7 ?_
  (try simp only [Act.put, sA, sB, sC])
  refine hK.out _ _ (hS7) ?_
  clear hHeld hK
  intro hHeld
  clear hW7 hth7 hk7 hz hB hS hrd hxd hxdv
  (try simp only [Act.put, sA, sB, sC])
  refine wpAnyH_done (by kernel_rfl) ?_ _
  have hgZ : BlkL bg x2.cs W7 := ⟨hg6.1.same (hS7.block bg hg6.2), Nat.lt_of_lt_of_le hg6.2 hS7.size⟩
  have hxoZ := hxo6.below hS7
  have hbZ : BlkL w.heap.size (rg4 ⟨b1, 7, 7, 0⟩) W7 := stab_blk _ _ _ _ hbx8 hS7
  clear hg6 hxo6 hbx8 hS7 hB8 hb0'
  go_upto_region 9 with fail
  go_wp2_with fail
  refine (cnew_any W7).mono ?_
  rintro e V1 ⟨rfl, hb1⟩
  obtain ⟨V2, hV2, hthV, hsV, hbV⟩ := new_stC V1 newC rfl nilS
  have hl1 := (Below.then hB7 hb1).size
  have y2 := hsV.ring
  have yf2 := (hsV.blk.1 2 _ rfl).2
  have hs2 : StAt V1.heap.size ⟨0, 0, rr, 0, [⟨0, 0, 4⟩, ⟨1, 0, 4⟩, ⟨2, 0, 4⟩, ⟨3, 0, 4⟩], [], false⟩ nilS (V2.setCell ⟨V1.heap.size, 2, none⟩ (.int .i64 rr)) := by
    have h1 := hsV.blk.1.set 2 (.int .i64 rr) (by show 2 < 18; decide)
    exact ⟨rfl, h1, h1.lt rfl⟩
  have hb2 : Below V1.heap.size V1 (V2.setCell ⟨V1.heap.size, 2, none⟩ (.int .i64 rr)) := hbV.setCell (p := ⟨V1.heap.size, 2, none⟩) (Nat.le_refl _) _
  obtain ⟨V3, hV3, hth3, hs3, hk3, -⟩ := hs2.putPtr (k := 1) (by decide) ⟨1, 0, 0⟩ (c' := mC rr) rfl rfl
  have hb3 : Below V1.heap.size V1 V3 := hk3 _ _ (Nat.le_refl _) hb2
  have hone8 : ∀ u ∈ stCs newC nilS, u.oneCell' = true := st_one _ _ rfl
  have hsz8 : (Try.prog.info? 29).map (·.size) = some (stCs newC nilS).length := by kernel_rfl
  obtain ⟨Y, hY⟩ : ∃ Y, stCs newC nilS = Y := ⟨_, rfl⟩
  rw [hY] at hV2 hthV hone8 hsz8
  have hYv : Aside (.agg (stCs newC nilS).toArray = Value.agg Y.toArray) := by rw [hY]; exact rfl
  have hg3 := stab_blk _ _ _ _ (stab_blk _ _ _ _ hgZ hb1) hb3
  have hd3 := stab_blk _ _ _ _ (stab_blk _ _ _ _ hd7 hb1) hb3
  have hbx3 := stab_blk _ _ _ _ (stab_blk _ _ _ _ hbZ hb1) hb3
  have hxo3 := (hxoZ.below hb1).below hb3
  have hda3 := (hda.below hb1).below hb3
  have hB3 := Below.then (Below.then hB7 hb1) hb3
  clear hY hsV hbV hs2 hb2 hk3 hgZ hd7 hbZ hxoZ hda hB7 hb1 hb3
  go_upto_region 11 with (first | (refine wpList_store_row rfl _ _ rfl V1.heap.size rfl Y hYv.out hthV hsz8 hone8 hV2 ?_) | fail)
  clear hV2 hthV hone8 hsz8 hYv y2 yf2
  go_upto_region 12 with (first | (refine wpList_store_part rfl _ _ rfl V1.heap.size 7 rfl (ptr3 ⟨1, 0, 0⟩) rfl hth3 hszP (ptr3J_one _) hV3 ?_) | fail)
  clear hV3 hth3
  generalize V1.heap.size = bs at *
  have hrg := hg3.range
  have hrd := hd3.range
  have hszx : (Try.prog.info? 39).map (·.size) = some x2.cs.length := by rw [pg_len]; exact hszG
  obtain ⟨hN4, hR4, hb4⟩ := mem_list V3 [x2, xd] (fun z hz => by
    rcases List.mem_cons.1 hz with rfl | hz
    · exact own_at hxo3
    · rw [List.mem_singleton.1 hz]; exact hda3) (x2.cs ++ xd.cs).toArray (by simp) 39 48 2 rfl
  have hMG : MG [x2, xd] := by
    obtain ⟨a1, c1, hv, -, hn, -⟩ := hxo3.slice wd_okC.len
    have hv' : Value.slice x2.wa x2.g.ws.length x2.wc = .slice a1 x2.g.ws.length c1 := hv
    injection hv' with e1 e2 e3
    refine ⟨by simp, fun z hz => ?_, fun z hz => ?_⟩
    · rcases List.mem_cons.1 hz with rfl | hz
      · rw [hx2g]; exact mG_ok 20 hr0 hr7
      · rw [List.mem_singleton.1 hz, hdg]; exact mD_ok md hb0 hb7
    · rcases List.mem_cons.1 hz with rfl | hz
      · rw [e1, e3]; exact hn
      · rw [List.mem_singleton.1 hz]; exact fun q => absurd q hdw
  have hM4 : MemO (V3.heap.size + 1) (some ⟨V3.heap.size, 0, none⟩) 2 [x2, xd] false 0 0 0 0 _ := ⟨hMG, ⟨by decide, by decide⟩, hN4, hR4⟩
  have hB4 := Below.then hB3 hb4
  have hs4 := hs3.keep hb4
  have hbx4 := stab_blk _ _ _ _ hbx3 hb4
  have hrs := hs4.blk.range
  have hrs3 := hs3.blk.range
  have ks := cstepV (mC rr) (mC_ok hr0 hr7) nilS hM4 (SV.nil _) (flt 33) (by rw [show [x2, xd].map (·.g) = [mG 20 rr, mD md b1] by simp [hx2g, hdg]]; exact hst)
  have hszC : (Try.prog.info? 29).map (·.size) = some (stCs (mC rr) nilS).length := hszS
  have hlv : w.heap.size ≤ V3.heap.size := hB3.size
  have hwlt : w.heap.size < V3.heap.size := hbx3.2
  have hb4s := hb4.size
  clear hM4 hMG hN4 hR4 hs3 hbx3 hB3 hg3 hd3 hxo3 hda3 hst hx2g hdg hdw hb4 hs4
  go_wp2_with (first | (refine wpList_load_row rfl _ rfl bs rfl (stCs (mC rr) nilS) hrs3 hundS rfl hszC ?_) | (refine wpList_load_row rfl _ rfl bg rfl x2.cs hrg hundG rfl hszx ?_) | (refine wpList_load_row rfl _ rfl bd rfl xd.cs hrd hundG rfl hszd ?_) | (refine wpList_build2 pg_okC (by decide) rfl _ _ rfl x2.cs xd.cs rfl rfl rfl rfl ?_) | fail)
  refine ks.mono ?_
  rintro e V5 hP
  obtain ⟨vA, he, hvA, hbA⟩ := hP.any V3.heap.size (Nat.le_succ _) hb4s
  replace he : e = .returned (.tuple #[.agg (stCs (zeroC) vA).toArray, .int .i64 0, .bool false, .int .i64 33]) := he
  subst he
  have hBA := hB4.trans (hbA.mono hlv)
  have hbxA : BlkL w.heap.size (rg4 ⟨b1, 7, 7, 0⟩) V5 := ⟨hbx4.1.same (hbA.block _ hwlt), Nat.lt_of_lt_of_le hbx4.2 hbA.size⟩
  obtain ⟨V6, hV6, hth6, hs6, hb6⟩ := new_stC V5 (zeroC) rfl vA
  have hB6 := Below.then hBA hb6
  have hbx6 := stab_blk _ _ _ _ hbxA hb6
  have hone6 := st_one (zeroC) vA hvA
  have hl6 : (stCs (zeroC) vA).length = 18 := st_len rfl
  have u0 := hs6.seg
  have u1 := hs6.off
  have u2 := hs6.ring
  have x0 := (hbx6.1 0 _ rfl).1
  obtain ⟨X, hX⟩ : ∃ X, stCs (zeroC) vA = X := ⟨_, rfl⟩
  have hXv : Aside (.agg (stCs (zeroC) vA).toArray = Value.agg X.toArray) := by rw [hX]; exact rfl
  rw [hX] at hV6 hth6 hone6 hl6
  have hszX : (Try.prog.info? 29).map (·.size) = some X.length := by rw [hl6]; exact hszS
  clear ks hP hbA hBA hbxA hbx4 hB4 hs6 hb6 hX hl6 hbx6 hvA hrs hrs3
  go_wp2_with (first | (refine wpList_store_row rfl _ _ rfl V5.heap.size rfl X hXv.out hth6 hszX hone6 hV6 ?_) | fail)
  go_ret
  exact ⟨rfl, hB6⟩
theorem cpuModes_walk (m0 r op : Int) (b : Rg) (w : World) :
    Calls Try.prog 7 #[.int .i64 m0, b.v, .int .i64 r, .int .i64 op] w fun e w' => e = .returned (.bool true) ∧ Below w.heap.size w w' := by
  have h : op % 3 = 0 ∨ op % 3 = 1 ∨ op % 3 = 2 := by omega
  rcases h with h | h | h
  · cases q : hasM (m0 % 8) 1 with
    | true => exact cpuModes1t m0 r op _ _ _ b rfl rfl rfl h q w
    | false => exact cpuModes1f m0 r op _ _ _ b rfl rfl rfl h q w
  · cases q : hasM (m0 % 8) 2 with
    | true =>
      by_cases q2 : r % 8 ≤ b.a % 8
      · exact cpuModes2t m0 r op _ _ _ b rfl rfl rfl h q q2 w
      · exact cpuModes2g m0 r op _ _ _ b rfl rfl rfl h q q2 w
    | false => exact cpuModes2f m0 r op _ _ _ b rfl rfl rfl h q w
  · cases q : hasM (m0 % 8) 4 with
    | true => exact cpuModes3t m0 r op _ _ _ b rfl rfl rfl h q w
    | false => exact cpuModes3f m0 r op _ _ _ b rfl rfl rfl h q w
end Go.Proofs.Ytinibccphecdfab
