/-
  P1302, T2: whoever may read at a label may, by labels, at every one that is over it: the law's walk. Written by mk_monhigher.py.
-/
import Derived.Deep.Cut
import Derived.Test.YtapgjdmnlkedgaaDoorPt4
namespace Go.Proofs.YtapgjdmnlkedgaaDoor
open Go.RowKit
set_option maxRecDepth 8000
set_option linter.unusedSimpArgs false
set_option linter.unusedVariables false

theorem strM_load (w : World) (y : Addr) (v : Value) (h : w.cell? y = some v) : (Instr.loadAt 9 (.pointer (some y))).run Tryd.prog w = .ok v w := by
  have h1 := Tryd.underlying9
  go_simp
set_option maxRecDepth 20000 in
set_option maxHeartbeats 8000000 in
theorem monitorHigher_walk (K : MonOk) (ta : Option Addr) (ct : Nat) (ts : List Lab) (ma : Option Addr) (mc : Nat) (ms : List PM) (who : Int) (up : Lab) (pick : Int) (hpk : -9223372036854775808 ≤ pick ∧ pick ≤ 9223372036854775807) (w : World) (hlr : RowAt 4 lrow w ta ts) (hmr : RowM w ma ms) (hV : MaxV w) :
    Calls Tryd.prog 7 #[.slice ta ts.length ct, .slice ma ms.length mc, .int .i64 who, up.v, .int .i64 pick] w fun e w' => e = .returned (.bool true) ∧ Below w.heap.size w w' := by
  have hund := Tryd.underlying36
  have hundL := Tryd.underlying25
  have hszN : (Tryd.prog.info? 36).map (·.size) = some 16 := by kernel_rfl
  have hsl : (Tryd.prog.info? 25).map (·.size) = some 4 := by kernel_rfl
  have kg := fun W (q1 : RowAt 4 lrow W ta ts) (q2 : RowM W ma ms) => growB_any ta ct ts ma mc ms W q1 q2
  obtain ⟨nt, hnt⟩ : ∃ nt, ts.length = nt := ⟨_, rfl⟩
  obtain ⟨nm, hnm⟩ : ∃ nm, ms.length = nm := ⟨_, rfl⟩
  rw [hnt, hnm] at kg ⊢
  clear hnt hnm
  have hb8 := blkl_alloc w (lab4 up).toArray 25
  have hB0 := alloc_below w (.cells (lab4 up).toArray 25)
  replace hb8 : BlkL w.heap.size (lab4 up) (w.alloc (.cells (lab4 up).toArray 25)) := hb8
  go_enter Tryd.func7, Tryd.ntmps7
  go_wp2_with fail
  generalize w.alloc (.cells #[.int .i64 up.s, .int .i64 up.c, .int .i64 up.i, .int .i64 up.k] 25) = W0 at *
  refine (mknown_any K W0 (hV.below hB0)).mono ?_
  rintro e W1 ⟨rfl, hB1⟩
  replace hb8 := stab_blk _ _ _ _ hb8 hB1
  have hB01 := Below.then hB0 hB1
  go_wp2_with fail
  refine (kg W1 (hlr.below lab_ok.len hB01) (hmr.below hB01)).mono ?_
  rintro e W2 ⟨v, l, rfl, ho, hat, hnm, hB2, hA⟩
  obtain ⟨a, c, rfl, hG⟩ := gt_of ho hat hnm hA
  have hB02 := Below.then hB01 hB2
  replace hb8 := stab_blk _ _ _ _ hb8 hB2
  have hlen := hG.len
  have hpos := hG.pos
  clear kg ho hat hnm hA hB2 hlr hmr hB0 hB1 hB01
  generalize W1.heap.size = B1 at *
  obtain ⟨n, hn⟩ : ∃ n, l.length = n := ⟨_, rfl⟩
  rw [hn] at hlen hpos ⊢
  replace hn : Aside (l.length = n) := hn
  have hmod : ∀ q : Int, ∃ j : Nat, q % (n : Int) = (j : Int) ∧ j < n := fun q => ⟨(q % (n : Int)).toNat, by have := Int.emod_nonneg q (show (n : Int) ≠ 0 by omega); omega, by have h1 := Int.emod_nonneg q (show (n : Int) ≠ 0 by omega); have h2 := Int.emod_lt_of_pos q (show 0 < (n : Int) by omega); omega⟩
  go_wp2_with fail
  refine (w13_any pick (n : Int) (by omega) (by omega) W2).mono ?_
  rintro e w' ⟨rfl, hw'⟩
  replace hw' := hw'.symm
  subst hw'
  obtain ⟨k, hk, hkn⟩ := hmod pick
  rw [hk]
  clear hk
  obtain ⟨x, hx⟩ : ∃ x, l[k]? = some x := ⟨_, List.getElem?_eq_getElem (by rw [hn.out]; exact hkn)⟩
  have hxm := List.mem_of_getElem? hx
  obtain ⟨y, rfl⟩ := hG.row.some_ hx
  have hcx := hG.row.r.at pn_len hx
  obtain ⟨W3, hW3, hth3, hbn, hB3⟩ := put_new W2 zN 36 x.cs rfl (by rw [pn_len]; omega)
  have hszx : (Tryd.prog.info? 36).map (·.size) = some x.cs.length := by rw [pn_len]; exact hszN
  have hG3 := hG.below hB3
  have hB03 := Below.then hB02 hB3
  replace hb8 := stab_blk _ _ _ _ hb8 hB3
  clear hx
  go_wp2_with (first | (refine wpList_load_at rfl _ rfl (y.add (k * 16)) rfl x.cs hcx hund rfl hszx ?_) | (refine wpList_store_row rfl _ _ rfl W2.heap.size rfl x.cs rfl hth3 hszx (pn_one x) hW3 ?_) | fail)
  refine (w13_any _ (n : Int) (by omega) (by omega) W3).mono ?_
  rintro e w' ⟨rfl, hw'⟩
  replace hw' := hw'.symm
  subst hw'
  obtain ⟨j, hj, hjn⟩ := hmod (pick.tdiv 7)
  rw [hj]
  clear hj hmod hcx hth3 hW3 hG hB02 hB3
  generalize W2.heap.size = bn at *
  obtain ⟨z, hz⟩ : ∃ z, l[j]? = some z := ⟨_, List.getElem?_eq_getElem (by rw [hn.out]; exact hjn)⟩
  have hzm := List.mem_of_getElem? hz
  have hcl := cells_lab (hG3.row.r.at pn_len hz)
  have hGt := hG3.lab hzm
  obtain ⟨t, ht⟩ : ∃ t, z.n.label = t := ⟨_, rfl⟩
  rw [ht] at hcl hGt
  obtain ⟨Z6, hZ6, hth6, hbt, hB6⟩ := put_new W3 #[.int .i64 0, .int .i64 0, .int .i64 0, .int .i64 0] 25 (labM t) rfl (by simp)
  have hG := hG3.below hB6
  have hB := Below.then hB03 hB6
  replace hbn := stab_blk _ _ _ _ hbn hB6
  replace hb8 := stab_blk _ _ _ _ hb8 hB6
  clear ht hz hzm
  go_upto_region 6 with (first | (refine wpList_load_at rfl _ rfl ⟨(y.add (j * 16)).block, (y.add (j * 16)).off + 2, none⟩ rfl (labM t) hcl hundL rfl hsl ?_) | (refine wpList_store_row rfl _ _ rfl W3.heap.size rfl (labM t) rfl hth6 hsl (lab4_one t) hZ6 ?_) | fail)
  generalize W3.heap.size = bt at *
  clear hcl hth6 hZ6 hG3 hB03 hB6
  have hjg := rov_join hGt (good_GL up)
  have kgood := good_any up
  have kjoin := rljoin_any t (goodL up)
  obtain ⟨J, hJ⟩ : ∃ J, joinL t (goodL up) = J := ⟨_, rfl⟩
  rw [hJ] at hjg kjoin
  clear hJ
  have hps := hG.path hxm
  have hp0 : x.cs[0]? = some (.string x.n.path) := rfl
  obtain ⟨p, hp⟩ : ∃ p, x.n.path = p := ⟨_, rfl⟩
  rw [hp] at hps hp0
  obtain ⟨u, hu⟩ : ∃ u, whoS who = u := ⟨_, rfl⟩
  have kwho := fun W => who_any who W
  rw [hu] at kwho
  have hF := hG.fine
  have hLG : ∀ x ∈ namesP l, GL x.label := fun q hq => by
    obtain ⟨q2, hq2, rfl⟩ := List.mem_map.1 hq
    exact hG.lab hq2
  have hup : mayE (namesP l) u t p 1 = 0 → mayE (namesP l) u J p 1 = 0 := fun q => may_up hLG hGt hjg.2 hjg.1 q
  have km1 := fun W (q : GT B1 W (some y) c l ts (ms.map (·.m))) (q2 : MaxV W) => K.may (some y) c l u t p 1 hF hGt (by omega) W q.row q2
  have km2 := fun W (q : GT B1 W (some y) c l ts (ms.map (·.m))) (q2 : MaxV W) => K.may (some y) c l u J p 1 hF hjg.2 (by omega) W q.row q2
  rw [hn.out] at km1 km2
  obtain ⟨E1, hE1⟩ : ∃ E1, mayE (namesP l) u t p 1 = E1 := ⟨_, rfl⟩
  obtain ⟨E2, hE2⟩ : ∃ E2, mayE (namesP l) u J p 1 = E2 := ⟨_, rfl⟩
  rw [hE1] at km1 hup
  rw [hE2] at km2 hup
  clear hE1 hE2 hLG hF hp hu
  (try simp only [Act.put])
  go_cut [14] from 40 (fun s14 wc => ∃ bh, s14 = .pointer (some ⟨bh, 0, none⟩) ∧ BlkL bh (lab4 J) wc ∧ Below Z6.heap.size Z6 wc)
  case first =>
    have hS0 : Below Z6.heap.size Z6 Z6.drew := (Below.refl _ _).drew
    refine wp_region_held_drew (S := (fun W => Below Z6.heap.size Z6 W)) (by kernel_rfl) (by exact hS0) ?_
    intro hHeld
    generalize Z6.drew = w0 at *
    refine wpAnyH_take (i := 0) (v := _) (by simp only [gA, gB, gC]; rfl) (by kernel_rfl) (by kernel_rfl) (by kernel_rfl) (by exact fun _ _ _ h => h) (yields_row (by rfl) _ rfl bt rfl (labM t) (fun _ q => (stab_blk _ _ _ _ hbt q).range) hundL rfl hsl) (by assumption) ?_; (try simp only [Act.put, sA, sB, sC])
    refine wpAnyH_take (i := 1) (v := _) (by simp only [gA, gB, gC]; rfl) (by kernel_rfl) (by kernel_rfl) (by kernel_rfl) (by exact fun _ _ _ h => h) (yields_row (by rfl) _ rfl w.heap.size rfl (lab4 up) (fun _ q => (stab_blk _ _ _ _ hb8 q).range) hundL rfl hsl) (by assumption) ?_; (try simp only [Act.put, sA, sB, sC])
    refine wpAnyH_ready (rs := [2, 4]) (by kernel_rfl) (by simp) ?_
    refine AllReadyH.cons (by simp only [gA, gB, gC]; rfl) (fun K hK => ?_) ?_
    · go_simp
      go_at_call 11
      refine (kgood w0).mono ?_
      rintro e w1 ⟨rfl, hb⟩
      have hS1 := Below.then hS0 hb
      refine hK.out _ _ (hS1) ?_
      clear hHeld hK
      intro hHeld
      clear hb
      (try simp only [Act.put, sA, sB, sC])
      refine wpAnyH_ready (rs := [3, 4]) (by kernel_rfl) (by simp) ?_
      refine AllReadyH.cons (by simp only [gA, gB, gC]; rfl) (fun K hK => ?_) ?_
      · go_simp
        go_at_call 24
        refine (kjoin w1).mono ?_
        rintro e w2 ⟨rfl, hb⟩
        have hS2 := Below.then hS1 hb
        refine hK.out _ _ (hS2) ?_
        clear hHeld hK
        intro hHeld
        clear hb
        (try simp only [Act.put, sA, sB, sC])
        refine wpAnyH_ready (rs := [4]) (by kernel_rfl) (by simp) ?_
        refine AllReadyH.cons (by simp only [gA, gB, gC]; rfl) (fun K hK => ?_) AllReadyH.nil
        go_simp
        refine hK.out _ _ (Below.then hS2 (alloc_below _ _)) ?_
        clear hHeld hK
        intro hHeld
        have hb := alloc_below w2 (.cells #[.int .i64 0, .int .i64 0, .int .i64 0, .int .i64 0] 25)
        have hbn3 := blkl_alloc w2 #[.int .i64 0, .int .i64 0, .int .i64 0, .int .i64 0] 25
        have hpb3 := hb
        have hS3 := Below.then hS2 hb
        generalize hwx : w2.alloc (.cells #[.int .i64 0, .int .i64 0, .int .i64 0, .int .i64 0] 25) = w3 at *
        clear hwx hb
        (try simp only [Act.put, sA, sB, sC])
        refine wpAnyH_ready (rs := [5]) (by kernel_rfl) (by simp) ?_
        refine AllReadyH.cons (by simp only [gA, gB, gC]; rfl) (fun K hK => ?_) AllReadyH.nil
        have hthz : w3.there w2.heap.size 0 ((lab4 J) : List Value).length := hbn3.1.there
        obtain ⟨wz, hwz⟩ : ∃ wz, w3.setCells w2.heap.size 0 (lab4 J) = wz := ⟨_, rfl⟩
        have hbz1 : Blk wz w2.heap.size (lab4 J) := by rw [← hwz]; exact hbn3.1.setAll rfl
        have hBz : Below w2.heap.size w2 wz := by rw [← hwz]; exact Below.cells (Nat.le_refl _) _ 0 hpb3
        have hSz := Below.then hS2 hBz
        refine step_store_rowT rfl _ _ rfl w2.heap.size rfl ((lab4 J)) rfl hthz hsl (lab4_one J) hwz ?_
        (try simp only [Act.put, sA, sB, sC])
        refine hK.out _ _ (hSz) ?_
        clear hHeld hK
        intro hHeld
        (try simp only [Act.put, sA, sB, sC])
        refine wpAnyH_done (by kernel_rfl) ?_ _
        go_wp2_with fail
        go_meet
        exact ⟨_, rfl, ⟨hbz1, hbz1.lt rfl⟩, hSz⟩
      refine AllReadyH.cons (by simp only [gA, gB, gC]; rfl) (fun K hK => ?_) AllReadyH.nil
      go_simp
      refine hK.out _ _ (Below.then hS1 (alloc_below _ _)) ?_
      clear hHeld hK
      intro hHeld
      have hb := alloc_below w1 (.cells #[.int .i64 0, .int .i64 0, .int .i64 0, .int .i64 0] 25)
      have hbn2 := blkl_alloc w1 #[.int .i64 0, .int .i64 0, .int .i64 0, .int .i64 0] 25
      have hpb2 := hb
      have hS2 := Below.then hS1 hb
      generalize hwx : w1.alloc (.cells #[.int .i64 0, .int .i64 0, .int .i64 0, .int .i64 0] 25) = w2 at *
      clear hwx hb
      (try simp only [Act.put, sA, sB, sC])
      refine wpAnyH_ready (rs := [3]) (by kernel_rfl) (by simp) ?_
      refine AllReadyH.cons (by simp only [gA, gB, gC]; rfl) (fun K hK => ?_) AllReadyH.nil
      go_simp
      go_at_call 24
      refine (kjoin w2).mono ?_
      rintro e w3 ⟨rfl, hb⟩
      have hS3 := Below.then hS2 hb
      have hbn3 := stab_blk _ _ _ _ hbn2 hb
      have hpb3 := Below.then hpb2 hb
      refine hK.out _ _ (hS3) ?_
      clear hHeld hK
      intro hHeld
      clear hb
      (try simp only [Act.put, sA, sB, sC])
      refine wpAnyH_ready (rs := [5]) (by kernel_rfl) (by simp) ?_
      refine AllReadyH.cons (by simp only [gA, gB, gC]; rfl) (fun K hK => ?_) AllReadyH.nil
      have hthz : w3.there w1.heap.size 0 ((lab4 J) : List Value).length := hbn3.1.there
      obtain ⟨wz, hwz⟩ : ∃ wz, w3.setCells w1.heap.size 0 (lab4 J) = wz := ⟨_, rfl⟩
      have hbz1 : Blk wz w1.heap.size (lab4 J) := by rw [← hwz]; exact hbn3.1.setAll rfl
      have hBz : Below w1.heap.size w1 wz := by rw [← hwz]; exact Below.cells (Nat.le_refl _) _ 0 hpb3
      have hSz := Below.then hS1 hBz
      refine step_store_rowT rfl _ _ rfl w1.heap.size rfl ((lab4 J)) rfl hthz hsl (lab4_one J) hwz ?_
      (try simp only [Act.put, sA, sB, sC])
      refine hK.out _ _ (hSz) ?_
      clear hHeld hK
      intro hHeld
      (try simp only [Act.put, sA, sB, sC])
      refine wpAnyH_done (by kernel_rfl) ?_ _
      go_wp2_with fail
      go_meet
      exact ⟨_, rfl, ⟨hbz1, hbz1.lt rfl⟩, hSz⟩
    refine AllReadyH.cons (by simp only [gA, gB, gC]; rfl) (fun K hK => ?_) AllReadyH.nil
    go_simp
    refine hK.out _ _ (Below.then hS0 (alloc_below _ _)) ?_
    clear hHeld hK
    intro hHeld
    have hb := alloc_below w0 (.cells #[.int .i64 0, .int .i64 0, .int .i64 0, .int .i64 0] 25)
    have hbn1 := blkl_alloc w0 #[.int .i64 0, .int .i64 0, .int .i64 0, .int .i64 0] 25
    have hpb1 := hb
    have hS1 := Below.then hS0 hb
    generalize hwx : w0.alloc (.cells #[.int .i64 0, .int .i64 0, .int .i64 0, .int .i64 0] 25) = w1 at *
    clear hwx hb
    (try simp only [Act.put, sA, sB, sC])
    refine wpAnyH_ready (rs := [2]) (by kernel_rfl) (by simp) ?_
    refine AllReadyH.cons (by simp only [gA, gB, gC]; rfl) (fun K hK => ?_) AllReadyH.nil
    go_simp
    go_at_call 11
    refine (kgood w1).mono ?_
    rintro e w2 ⟨rfl, hb⟩
    have hS2 := Below.then hS1 hb
    have hbn2 := stab_blk _ _ _ _ hbn1 hb
    have hpb2 := Below.then hpb1 hb
    refine hK.out _ _ (hS2) ?_
    clear hHeld hK
    intro hHeld
    clear hb
    (try simp only [Act.put, sA, sB, sC])
    refine wpAnyH_ready (rs := [3]) (by kernel_rfl) (by simp) ?_
    refine AllReadyH.cons (by simp only [gA, gB, gC]; rfl) (fun K hK => ?_) AllReadyH.nil
    go_simp
    go_at_call 24
    refine (kjoin w2).mono ?_
    rintro e w3 ⟨rfl, hb⟩
    have hS3 := Below.then hS2 hb
    have hbn3 := stab_blk _ _ _ _ hbn2 hb
    have hpb3 := Below.then hpb2 hb
    refine hK.out _ _ (hS3) ?_
    clear hHeld hK
    intro hHeld
    clear hb
    (try simp only [Act.put, sA, sB, sC])
    refine wpAnyH_ready (rs := [5]) (by kernel_rfl) (by simp) ?_
    refine AllReadyH.cons (by simp only [gA, gB, gC]; rfl) (fun K hK => ?_) AllReadyH.nil
    have hthz : w3.there w0.heap.size 0 ((lab4 J) : List Value).length := hbn3.1.there
    obtain ⟨wz, hwz⟩ : ∃ wz, w3.setCells w0.heap.size 0 (lab4 J) = wz := ⟨_, rfl⟩
    have hbz1 : Blk wz w0.heap.size (lab4 J) := by rw [← hwz]; exact hbn3.1.setAll rfl
    have hBz : Below w0.heap.size w0 wz := by rw [← hwz]; exact Below.cells (Nat.le_refl _) _ 0 hpb3
    have hSz := Below.then hS0 hBz
    refine step_store_rowT rfl _ _ rfl w0.heap.size rfl ((lab4 J)) rfl hthz hsl (lab4_one J) hwz ?_
    (try simp only [Act.put, sA, sB, sC])
    refine hK.out _ _ (hSz) ?_
    clear hHeld hK
    intro hHeld
    (try simp only [Act.put, sA, sB, sC])
    refine wpAnyH_done (by kernel_rfl) ?_ _
    go_wp2_with fail
    go_meet
    exact ⟨_, rfl, ⟨hbz1, hbz1.lt rfl⟩, hSz⟩
  case rest =>
  obtain ⟨bh, rfl, hbh, hd⟩ := hcut
  obtain ⟨Z7, hZ7⟩ : ∃ Z7, Z7 = wc := ⟨_, rfl⟩
  subst hZ7
  replace hG := hG.below hd
  replace hB := Below.then hB hd
  replace hbn := stab_blk _ _ _ _ hbn hd
  replace hbt := stab_blk _ _ _ _ hbt hd
  clear hd hb8 kgood kjoin
  go_upto_region 7 with fail
  go_cut [15, 16] from 44 (fun s15 s16 wq => s15 = s15 ∧ s16 = .int .i64 E1 ∧ Below Z7.heap.size Z7 wq)
  case first =>
    have hS0 : Below Z7.heap.size Z7 Z7.drew := (Below.refl _ _).drew
    refine wp_region_held_drew (S := (fun W => Below Z7.heap.size Z7 W)) (by kernel_rfl) (by exact hS0) ?_
    intro hHeld
    generalize Z7.drew = w0 at *
    refine wpAnyH_take (i := 0) (v := ?_) (by simp only [gA, gB, gC]; rfl) (by kernel_rfl) (by kernel_rfl) (by kernel_rfl) (by exact fun _ _ _ h => h) (Or.inl ⟨by rfl, ?_⟩) (by assumption) ?_; rotate_left; (focus (intro w hSw; (try dsimp only at hSw); go_simp; try with_reducible rfl)); (try simp only [Act.put, sA, sB, sC])
    refine wpAnyH_take (i := 1) (v := ?_) (by simp only [gA, gB, gC]; rfl) (by kernel_rfl) (by kernel_rfl) (by kernel_rfl) (by exact fun _ _ _ h => h) (Or.inl ⟨by rfl, ?_⟩) (by assumption) ?_; rotate_left; (focus (intro w hSw; (try dsimp only at hSw); go_simp; try with_reducible rfl)); (try simp only [Act.put, sA, sB, sC])
    refine wpAnyH_take (i := 3) (v := _) (by simp only [gA, gB, gC]; rfl) (by kernel_rfl) (by kernel_rfl) (by kernel_rfl) (by exact fun _ _ _ h => h) (yields_row (by rfl) _ rfl bt rfl (labM t) (fun _ q => (stab_blk _ _ _ _ hbt q).range) hundL rfl hsl) (by assumption) ?_; (try simp only [Act.put, sA, sB, sC])
    refine wpAnyH_take (i := 5) (v := ?_) (by simp only [gA, gB, gC]; rfl) (by kernel_rfl) (by kernel_rfl) (by kernel_rfl) (by exact fun _ _ _ h => h) (Or.inl ⟨by rfl, ?_⟩) (by assumption) ?_; rotate_left; (focus (intro w hSw; (try dsimp only at hSw); go_simp; try with_reducible rfl)); (try simp only [Act.put, sA, sB, sC])
    refine wpAnyH_take (i := 6) (v := _) (by simp only [gA, gB, gC]; rfl) (by kernel_rfl) (by kernel_rfl) (by kernel_rfl) (by exact fun _ _ _ h => h) (yields_cell (by rfl) _ rfl ⟨bn, 0, none⟩ rfl (.string p) (fun _ q => ((stab_blk _ _ _ _ hbn q).1 0 _ hp0).1) strM_load) (by assumption) ?_; (try simp only [Act.put, sA, sB, sC])
    refine wpAnyH_ready (rs := [2, 11]) (by kernel_rfl) (by simp) ?_
    refine AllReadyH.cons (by simp only [gA, gB, gC]; rfl) (fun K hK => ?_) ?_
    · go_simp
      go_at_call 14
      refine (kwho w0).mono ?_
      rintro e w1 ⟨rfl, hb⟩
      have hS1 := Below.then hS0 hb
      refine hK.out _ _ (hS1) ?_
      clear hHeld hK
      intro hHeld
      clear hb
      (try simp only [Act.put, sA, sB, sC])
      refine wpAnyH_take (i := 4) (v := ?_) (by simp only [gA, gB, gC]; rfl) (by kernel_rfl) (by kernel_rfl) (by kernel_rfl) (by exact fun _ _ _ h => h) (Or.inl ⟨by rfl, ?_⟩) (by assumption) ?_; rotate_left; (focus (intro w hSw; (try dsimp only at hSw); go_simp; try with_reducible rfl)); (try simp only [Act.put, sA, sB, sC])
      refine wpAnyH_ready (rs := [7, 11]) (by kernel_rfl) (by simp) ?_
      refine AllReadyH.cons (by simp only [gA, gB, gC]; rfl) (fun K hK => ?_) ?_
      · go_simp
        go_at_call 17
        refine (km1 w1 (hG.below hS1) (hV.below (Below.then hB hS1))).mono ?_
        rintro e w2 ⟨f, rfl, -, -, hb⟩
        have hS2 := Below.then hS1 hb
        refine hK.out _ _ (hS2) ?_
        clear hHeld hK
        intro hHeld
        clear hb
        (try simp only [Act.put, sA, sB, sC])
        refine wpAnyH_take (i := 8) (v := ?_) (by simp only [gA, gB, gC]; rfl) (by kernel_rfl) (by kernel_rfl) (by kernel_rfl) (by exact fun _ _ _ h => h) (Or.inl ⟨by rfl, ?_⟩) (by assumption) ?_; rotate_left; (focus (intro w hSw; (try dsimp only at hSw); go_simp; try with_reducible rfl)); (try simp only [Act.put, sA, sB, sC])
        refine wpAnyH_take (i := 9) (v := ?_) (by simp only [gA, gB, gC]; rfl) (by kernel_rfl) (by kernel_rfl) (by kernel_rfl) (by exact fun _ _ _ h => h) (Or.inl ⟨by rfl, ?_⟩) (by assumption) ?_; rotate_left; (focus (intro w hSw; (try dsimp only at hSw); go_simp; try with_reducible rfl)); (try simp only [Act.put, sA, sB, sC])
        refine wpAnyH_take (i := 10) (v := ?_) (by simp only [gA, gB, gC]; rfl) (by kernel_rfl) (by kernel_rfl) (by kernel_rfl) (by exact fun _ _ _ h => h) (Or.inl ⟨by rfl, ?_⟩) (by assumption) ?_; rotate_left; (focus (intro w hSw; (try dsimp only at hSw); go_simp; try with_reducible rfl)); (try simp only [Act.put, sA, sB, sC])
        refine wpAnyH_ready (rs := [11]) (by kernel_rfl) (by simp) ?_
        refine AllReadyH.cons (by simp only [gA, gB, gC]; rfl) (fun K hK => ?_) AllReadyH.nil
        go_simp
        refine hK.out _ _ (Below.then hS2 (alloc_below _ _)) ?_
        clear hHeld hK
        intro hHeld
        have hb := alloc_below w2 (.cells zN 36)
        have hbn3 := blkl_alloc w2 zN 36
        have hpb3 := hb
        have hS3 := Below.then hS2 hb
        generalize hwx : w2.alloc (.cells zN 36) = w3 at *
        clear hwx hb
        (try simp only [Act.put, sA, sB, sC])
        refine wpAnyH_ready (rs := [12]) (by kernel_rfl) (by simp) ?_
        refine AllReadyH.cons (by simp only [gA, gB, gC]; rfl) (fun K hK => ?_) AllReadyH.nil
        have hthz : w3.there w2.heap.size 0 ((f.cs) : List Value).length := hbn3.1.there
        obtain ⟨wz, hwz⟩ : ∃ wz, w3.setCells w2.heap.size 0 (f.cs) = wz := ⟨_, rfl⟩
        have hbz1 : Blk wz w2.heap.size (f.cs) := by rw [← hwz]; exact hbn3.1.setAll rfl
        have hBz : Below w2.heap.size w2 wz := by rw [← hwz]; exact Below.cells (Nat.le_refl _) _ 0 hpb3
        have hSz := Below.then hS2 hBz
        refine step_store_rowT rfl _ _ rfl w2.heap.size rfl ((f.cs)) rfl hthz (by rw [pn_len]; exact hszN) (pn_one f) hwz ?_
        (try simp only [Act.put, sA, sB, sC])
        refine hK.out _ _ (hSz) ?_
        clear hHeld hK
        intro hHeld
        (try simp only [Act.put, sA, sB, sC])
        refine wpAnyH_take (i := 13) (v := ?_) (by simp only [gA, gB, gC]; rfl) (by kernel_rfl) (by kernel_rfl) (by kernel_rfl) (by exact fun _ _ _ h => h) (Or.inl ⟨by rfl, ?_⟩) (by assumption) ?_; rotate_left; (focus (intro w hSw; (try dsimp only at hSw); go_simp; try with_reducible rfl)); (try simp only [Act.put, sA, sB, sC])
        refine wpAnyH_done (by kernel_rfl) ?_ _
        go_wp2_with fail
        go_meet
        exact ⟨trivial, rfl, hSz⟩
      refine AllReadyH.cons (by simp only [gA, gB, gC]; rfl) (fun K hK => ?_) AllReadyH.nil
      go_simp
      refine hK.out _ _ (Below.then hS1 (alloc_below _ _)) ?_
      clear hHeld hK
      intro hHeld
      have hb := alloc_below w1 (.cells zN 36)
      have hbn2 := blkl_alloc w1 zN 36
      have hpb2 := hb
      have hS2 := Below.then hS1 hb
      generalize hwx : w1.alloc (.cells zN 36) = w2 at *
      clear hwx hb
      (try simp only [Act.put, sA, sB, sC])
      refine wpAnyH_ready (rs := [7]) (by kernel_rfl) (by simp) ?_
      refine AllReadyH.cons (by simp only [gA, gB, gC]; rfl) (fun K hK => ?_) AllReadyH.nil
      go_simp
      go_at_call 17
      refine (km1 w2 (hG.below hS2) (hV.below (Below.then hB hS2))).mono ?_
      rintro e w3 ⟨f, rfl, -, -, hb⟩
      have hS3 := Below.then hS2 hb
      have hbn3 := stab_blk _ _ _ _ hbn2 hb
      have hpb3 := Below.then hpb2 hb
      refine hK.out _ _ (hS3) ?_
      clear hHeld hK
      intro hHeld
      clear hb
      (try simp only [Act.put, sA, sB, sC])
      refine wpAnyH_take (i := 8) (v := ?_) (by simp only [gA, gB, gC]; rfl) (by kernel_rfl) (by kernel_rfl) (by kernel_rfl) (by exact fun _ _ _ h => h) (Or.inl ⟨by rfl, ?_⟩) (by assumption) ?_; rotate_left; (focus (intro w hSw; (try dsimp only at hSw); go_simp; try with_reducible rfl)); (try simp only [Act.put, sA, sB, sC])
      refine wpAnyH_take (i := 9) (v := ?_) (by simp only [gA, gB, gC]; rfl) (by kernel_rfl) (by kernel_rfl) (by kernel_rfl) (by exact fun _ _ _ h => h) (Or.inl ⟨by rfl, ?_⟩) (by assumption) ?_; rotate_left; (focus (intro w hSw; (try dsimp only at hSw); go_simp; try with_reducible rfl)); (try simp only [Act.put, sA, sB, sC])
      refine wpAnyH_take (i := 10) (v := ?_) (by simp only [gA, gB, gC]; rfl) (by kernel_rfl) (by kernel_rfl) (by kernel_rfl) (by exact fun _ _ _ h => h) (Or.inl ⟨by rfl, ?_⟩) (by assumption) ?_; rotate_left; (focus (intro w hSw; (try dsimp only at hSw); go_simp; try with_reducible rfl)); (try simp only [Act.put, sA, sB, sC])
      refine wpAnyH_ready (rs := [12]) (by kernel_rfl) (by simp) ?_
      refine AllReadyH.cons (by simp only [gA, gB, gC]; rfl) (fun K hK => ?_) AllReadyH.nil
      have hthz : w3.there w1.heap.size 0 ((f.cs) : List Value).length := hbn3.1.there
      obtain ⟨wz, hwz⟩ : ∃ wz, w3.setCells w1.heap.size 0 (f.cs) = wz := ⟨_, rfl⟩
      have hbz1 : Blk wz w1.heap.size (f.cs) := by rw [← hwz]; exact hbn3.1.setAll rfl
      have hBz : Below w1.heap.size w1 wz := by rw [← hwz]; exact Below.cells (Nat.le_refl _) _ 0 hpb3
      have hSz := Below.then hS1 hBz
      refine step_store_rowT rfl _ _ rfl w1.heap.size rfl ((f.cs)) rfl hthz (by rw [pn_len]; exact hszN) (pn_one f) hwz ?_
      (try simp only [Act.put, sA, sB, sC])
      refine hK.out _ _ (hSz) ?_
      clear hHeld hK
      intro hHeld
      (try simp only [Act.put, sA, sB, sC])
      refine wpAnyH_take (i := 13) (v := ?_) (by simp only [gA, gB, gC]; rfl) (by kernel_rfl) (by kernel_rfl) (by kernel_rfl) (by exact fun _ _ _ h => h) (Or.inl ⟨by rfl, ?_⟩) (by assumption) ?_; rotate_left; (focus (intro w hSw; (try dsimp only at hSw); go_simp; try with_reducible rfl)); (try simp only [Act.put, sA, sB, sC])
      refine wpAnyH_done (by kernel_rfl) ?_ _
      go_wp2_with fail
      go_meet
      exact ⟨trivial, rfl, hSz⟩
    refine AllReadyH.cons (by simp only [gA, gB, gC]; rfl) (fun K hK => ?_) AllReadyH.nil
    go_simp
    refine hK.out _ _ (Below.then hS0 (alloc_below _ _)) ?_
    clear hHeld hK
    intro hHeld
    have hb := alloc_below w0 (.cells zN 36)
    have hbn1 := blkl_alloc w0 zN 36
    have hpb1 := hb
    have hS1 := Below.then hS0 hb
    generalize hwx : w0.alloc (.cells zN 36) = w1 at *
    clear hwx hb
    (try simp only [Act.put, sA, sB, sC])
    refine wpAnyH_ready (rs := [2]) (by kernel_rfl) (by simp) ?_
    refine AllReadyH.cons (by simp only [gA, gB, gC]; rfl) (fun K hK => ?_) AllReadyH.nil
    go_simp
    go_at_call 14
    refine (kwho w1).mono ?_
    rintro e w2 ⟨rfl, hb⟩
    have hS2 := Below.then hS1 hb
    have hbn2 := stab_blk _ _ _ _ hbn1 hb
    have hpb2 := Below.then hpb1 hb
    refine hK.out _ _ (hS2) ?_
    clear hHeld hK
    intro hHeld
    clear hb
    (try simp only [Act.put, sA, sB, sC])
    refine wpAnyH_take (i := 4) (v := ?_) (by simp only [gA, gB, gC]; rfl) (by kernel_rfl) (by kernel_rfl) (by kernel_rfl) (by exact fun _ _ _ h => h) (Or.inl ⟨by rfl, ?_⟩) (by assumption) ?_; rotate_left; (focus (intro w hSw; (try dsimp only at hSw); go_simp; try with_reducible rfl)); (try simp only [Act.put, sA, sB, sC])
    refine wpAnyH_ready (rs := [7]) (by kernel_rfl) (by simp) ?_
    refine AllReadyH.cons (by simp only [gA, gB, gC]; rfl) (fun K hK => ?_) AllReadyH.nil
    go_simp
    go_at_call 17
    refine (km1 w2 (hG.below hS2) (hV.below (Below.then hB hS2))).mono ?_
    rintro e w3 ⟨f, rfl, -, -, hb⟩
    have hS3 := Below.then hS2 hb
    have hbn3 := stab_blk _ _ _ _ hbn2 hb
    have hpb3 := Below.then hpb2 hb
    refine hK.out _ _ (hS3) ?_
    clear hHeld hK
    intro hHeld
    clear hb
    (try simp only [Act.put, sA, sB, sC])
    refine wpAnyH_take (i := 8) (v := ?_) (by simp only [gA, gB, gC]; rfl) (by kernel_rfl) (by kernel_rfl) (by kernel_rfl) (by exact fun _ _ _ h => h) (Or.inl ⟨by rfl, ?_⟩) (by assumption) ?_; rotate_left; (focus (intro w hSw; (try dsimp only at hSw); go_simp; try with_reducible rfl)); (try simp only [Act.put, sA, sB, sC])
    refine wpAnyH_take (i := 9) (v := ?_) (by simp only [gA, gB, gC]; rfl) (by kernel_rfl) (by kernel_rfl) (by kernel_rfl) (by exact fun _ _ _ h => h) (Or.inl ⟨by rfl, ?_⟩) (by assumption) ?_; rotate_left; (focus (intro w hSw; (try dsimp only at hSw); go_simp; try with_reducible rfl)); (try simp only [Act.put, sA, sB, sC])
    refine wpAnyH_take (i := 10) (v := ?_) (by simp only [gA, gB, gC]; rfl) (by kernel_rfl) (by kernel_rfl) (by kernel_rfl) (by exact fun _ _ _ h => h) (Or.inl ⟨by rfl, ?_⟩) (by assumption) ?_; rotate_left; (focus (intro w hSw; (try dsimp only at hSw); go_simp; try with_reducible rfl)); (try simp only [Act.put, sA, sB, sC])
    refine wpAnyH_ready (rs := [12]) (by kernel_rfl) (by simp) ?_
    refine AllReadyH.cons (by simp only [gA, gB, gC]; rfl) (fun K hK => ?_) AllReadyH.nil
    have hthz : w3.there w0.heap.size 0 ((f.cs) : List Value).length := hbn3.1.there
    obtain ⟨wz, hwz⟩ : ∃ wz, w3.setCells w0.heap.size 0 (f.cs) = wz := ⟨_, rfl⟩
    have hbz1 : Blk wz w0.heap.size (f.cs) := by rw [← hwz]; exact hbn3.1.setAll rfl
    have hBz : Below w0.heap.size w0 wz := by rw [← hwz]; exact Below.cells (Nat.le_refl _) _ 0 hpb3
    have hSz := Below.then hS0 hBz
    refine step_store_rowT rfl _ _ rfl w0.heap.size rfl ((f.cs)) rfl hthz (by rw [pn_len]; exact hszN) (pn_one f) hwz ?_
    (try simp only [Act.put, sA, sB, sC])
    refine hK.out _ _ (hSz) ?_
    clear hHeld hK
    intro hHeld
    (try simp only [Act.put, sA, sB, sC])
    refine wpAnyH_take (i := 13) (v := ?_) (by simp only [gA, gB, gC]; rfl) (by kernel_rfl) (by kernel_rfl) (by kernel_rfl) (by exact fun _ _ _ h => h) (Or.inl ⟨by rfl, ?_⟩) (by assumption) ?_; rotate_left; (focus (intro w hSw; (try dsimp only at hSw); go_simp; try with_reducible rfl)); (try simp only [Act.put, sA, sB, sC])
    refine wpAnyH_done (by kernel_rfl) ?_ _
    go_wp2_with fail
    go_meet
    exact ⟨trivial, rfl, hSz⟩
  case rest =>
  obtain ⟨-, rfl, hd⟩ := hcut
  have hbh1 := stab_blk _ _ _ _ hbh hd
  replace hG := hG.below hd
  replace hB := Below.then hB hd
  replace hbn := stab_blk _ _ _ _ hbn hd
  clear hd hbh hbt km1
  obtain ⟨Z8, hZ8⟩ : ∃ Z8, Z8 = wc := ⟨_, rfl⟩
  subst hZ8
  have hbh := hbh1
  clear hbh1
  go_upto_region 8 with fail
  go_cut [17, 18] from 55 (fun s17 s18 wq => s17 = s17 ∧ s18 = .int .i64 E2 ∧ Below Z8.heap.size Z8 wq)
  case first =>
    have hS0 : Below Z8.heap.size Z8 Z8.drew := (Below.refl _ _).drew
    refine wp_region_held_drew (S := (fun W => Below Z8.heap.size Z8 W)) (by kernel_rfl) (by exact hS0) ?_
    intro hHeld
    generalize Z8.drew = w0 at *
    refine wpAnyH_take (i := 0) (v := ?_) (by simp only [gA, gB, gC]; rfl) (by kernel_rfl) (by kernel_rfl) (by kernel_rfl) (by exact fun _ _ _ h => h) (Or.inl ⟨by rfl, ?_⟩) (by assumption) ?_; rotate_left; (focus (intro w hSw; (try dsimp only at hSw); go_simp; try with_reducible rfl)); (try simp only [Act.put, sA, sB, sC])
    refine wpAnyH_take (i := 1) (v := ?_) (by simp only [gA, gB, gC]; rfl) (by kernel_rfl) (by kernel_rfl) (by kernel_rfl) (by exact fun _ _ _ h => h) (Or.inl ⟨by rfl, ?_⟩) (by assumption) ?_; rotate_left; (focus (intro w hSw; (try dsimp only at hSw); go_simp; try with_reducible rfl)); (try simp only [Act.put, sA, sB, sC])
    refine wpAnyH_take (i := 3) (v := _) (by simp only [gA, gB, gC]; rfl) (by kernel_rfl) (by kernel_rfl) (by kernel_rfl) (by exact fun _ _ _ h => h) (yields_row (by rfl) _ rfl bh rfl (lab4 J) (fun _ q => (stab_blk _ _ _ _ hbh q).range) hundL rfl hsl) (by assumption) ?_; (try simp only [Act.put, sA, sB, sC])
    refine wpAnyH_take (i := 5) (v := ?_) (by simp only [gA, gB, gC]; rfl) (by kernel_rfl) (by kernel_rfl) (by kernel_rfl) (by exact fun _ _ _ h => h) (Or.inl ⟨by rfl, ?_⟩) (by assumption) ?_; rotate_left; (focus (intro w hSw; (try dsimp only at hSw); go_simp; try with_reducible rfl)); (try simp only [Act.put, sA, sB, sC])
    refine wpAnyH_take (i := 6) (v := _) (by simp only [gA, gB, gC]; rfl) (by kernel_rfl) (by kernel_rfl) (by kernel_rfl) (by exact fun _ _ _ h => h) (yields_cell (by rfl) _ rfl ⟨bn, 0, none⟩ rfl (.string p) (fun _ q => ((stab_blk _ _ _ _ hbn q).1 0 _ hp0).1) strM_load) (by assumption) ?_; (try simp only [Act.put, sA, sB, sC])
    refine wpAnyH_ready (rs := [2, 11]) (by kernel_rfl) (by simp) ?_
    refine AllReadyH.cons (by simp only [gA, gB, gC]; rfl) (fun K hK => ?_) ?_
    · go_simp
      go_at_call 14
      refine (kwho w0).mono ?_
      rintro e w1 ⟨rfl, hb⟩
      have hS1 := Below.then hS0 hb
      refine hK.out _ _ (hS1) ?_
      clear hHeld hK
      intro hHeld
      clear hb
      (try simp only [Act.put, sA, sB, sC])
      refine wpAnyH_take (i := 4) (v := ?_) (by simp only [gA, gB, gC]; rfl) (by kernel_rfl) (by kernel_rfl) (by kernel_rfl) (by exact fun _ _ _ h => h) (Or.inl ⟨by rfl, ?_⟩) (by assumption) ?_; rotate_left; (focus (intro w hSw; (try dsimp only at hSw); go_simp; try with_reducible rfl)); (try simp only [Act.put, sA, sB, sC])
      refine wpAnyH_ready (rs := [7, 11]) (by kernel_rfl) (by simp) ?_
      refine AllReadyH.cons (by simp only [gA, gB, gC]; rfl) (fun K hK => ?_) ?_
      · go_simp
        go_at_call 17
        refine (km2 w1 (hG.below hS1) (hV.below (Below.then hB hS1))).mono ?_
        rintro e w2 ⟨f, rfl, -, -, hb⟩
        have hS2 := Below.then hS1 hb
        refine hK.out _ _ (hS2) ?_
        clear hHeld hK
        intro hHeld
        clear hb
        (try simp only [Act.put, sA, sB, sC])
        refine wpAnyH_take (i := 8) (v := ?_) (by simp only [gA, gB, gC]; rfl) (by kernel_rfl) (by kernel_rfl) (by kernel_rfl) (by exact fun _ _ _ h => h) (Or.inl ⟨by rfl, ?_⟩) (by assumption) ?_; rotate_left; (focus (intro w hSw; (try dsimp only at hSw); go_simp; try with_reducible rfl)); (try simp only [Act.put, sA, sB, sC])
        refine wpAnyH_take (i := 9) (v := ?_) (by simp only [gA, gB, gC]; rfl) (by kernel_rfl) (by kernel_rfl) (by kernel_rfl) (by exact fun _ _ _ h => h) (Or.inl ⟨by rfl, ?_⟩) (by assumption) ?_; rotate_left; (focus (intro w hSw; (try dsimp only at hSw); go_simp; try with_reducible rfl)); (try simp only [Act.put, sA, sB, sC])
        refine wpAnyH_take (i := 10) (v := ?_) (by simp only [gA, gB, gC]; rfl) (by kernel_rfl) (by kernel_rfl) (by kernel_rfl) (by exact fun _ _ _ h => h) (Or.inl ⟨by rfl, ?_⟩) (by assumption) ?_; rotate_left; (focus (intro w hSw; (try dsimp only at hSw); go_simp; try with_reducible rfl)); (try simp only [Act.put, sA, sB, sC])
        refine wpAnyH_ready (rs := [11]) (by kernel_rfl) (by simp) ?_
        refine AllReadyH.cons (by simp only [gA, gB, gC]; rfl) (fun K hK => ?_) AllReadyH.nil
        go_simp
        refine hK.out _ _ (Below.then hS2 (alloc_below _ _)) ?_
        clear hHeld hK
        intro hHeld
        have hb := alloc_below w2 (.cells zN 36)
        have hbn3 := blkl_alloc w2 zN 36
        have hpb3 := hb
        have hS3 := Below.then hS2 hb
        generalize hwx : w2.alloc (.cells zN 36) = w3 at *
        clear hwx hb
        (try simp only [Act.put, sA, sB, sC])
        refine wpAnyH_ready (rs := [12]) (by kernel_rfl) (by simp) ?_
        refine AllReadyH.cons (by simp only [gA, gB, gC]; rfl) (fun K hK => ?_) AllReadyH.nil
        have hthz : w3.there w2.heap.size 0 ((f.cs) : List Value).length := hbn3.1.there
        obtain ⟨wz, hwz⟩ : ∃ wz, w3.setCells w2.heap.size 0 (f.cs) = wz := ⟨_, rfl⟩
        have hbz1 : Blk wz w2.heap.size (f.cs) := by rw [← hwz]; exact hbn3.1.setAll rfl
        have hBz : Below w2.heap.size w2 wz := by rw [← hwz]; exact Below.cells (Nat.le_refl _) _ 0 hpb3
        have hSz := Below.then hS2 hBz
        refine step_store_rowT rfl _ _ rfl w2.heap.size rfl ((f.cs)) rfl hthz (by rw [pn_len]; exact hszN) (pn_one f) hwz ?_
        (try simp only [Act.put, sA, sB, sC])
        refine hK.out _ _ (hSz) ?_
        clear hHeld hK
        intro hHeld
        (try simp only [Act.put, sA, sB, sC])
        refine wpAnyH_take (i := 13) (v := ?_) (by simp only [gA, gB, gC]; rfl) (by kernel_rfl) (by kernel_rfl) (by kernel_rfl) (by exact fun _ _ _ h => h) (Or.inl ⟨by rfl, ?_⟩) (by assumption) ?_; rotate_left; (focus (intro w hSw; (try dsimp only at hSw); go_simp; try with_reducible rfl)); (try simp only [Act.put, sA, sB, sC])
        refine wpAnyH_done (by kernel_rfl) ?_ _
        go_wp2_with fail
        go_meet
        exact ⟨trivial, rfl, hSz⟩
      refine AllReadyH.cons (by simp only [gA, gB, gC]; rfl) (fun K hK => ?_) AllReadyH.nil
      go_simp
      refine hK.out _ _ (Below.then hS1 (alloc_below _ _)) ?_
      clear hHeld hK
      intro hHeld
      have hb := alloc_below w1 (.cells zN 36)
      have hbn2 := blkl_alloc w1 zN 36
      have hpb2 := hb
      have hS2 := Below.then hS1 hb
      generalize hwx : w1.alloc (.cells zN 36) = w2 at *
      clear hwx hb
      (try simp only [Act.put, sA, sB, sC])
      refine wpAnyH_ready (rs := [7]) (by kernel_rfl) (by simp) ?_
      refine AllReadyH.cons (by simp only [gA, gB, gC]; rfl) (fun K hK => ?_) AllReadyH.nil
      go_simp
      go_at_call 17
      refine (km2 w2 (hG.below hS2) (hV.below (Below.then hB hS2))).mono ?_
      rintro e w3 ⟨f, rfl, -, -, hb⟩
      have hS3 := Below.then hS2 hb
      have hbn3 := stab_blk _ _ _ _ hbn2 hb
      have hpb3 := Below.then hpb2 hb
      refine hK.out _ _ (hS3) ?_
      clear hHeld hK
      intro hHeld
      clear hb
      (try simp only [Act.put, sA, sB, sC])
      refine wpAnyH_take (i := 8) (v := ?_) (by simp only [gA, gB, gC]; rfl) (by kernel_rfl) (by kernel_rfl) (by kernel_rfl) (by exact fun _ _ _ h => h) (Or.inl ⟨by rfl, ?_⟩) (by assumption) ?_; rotate_left; (focus (intro w hSw; (try dsimp only at hSw); go_simp; try with_reducible rfl)); (try simp only [Act.put, sA, sB, sC])
      refine wpAnyH_take (i := 9) (v := ?_) (by simp only [gA, gB, gC]; rfl) (by kernel_rfl) (by kernel_rfl) (by kernel_rfl) (by exact fun _ _ _ h => h) (Or.inl ⟨by rfl, ?_⟩) (by assumption) ?_; rotate_left; (focus (intro w hSw; (try dsimp only at hSw); go_simp; try with_reducible rfl)); (try simp only [Act.put, sA, sB, sC])
      refine wpAnyH_take (i := 10) (v := ?_) (by simp only [gA, gB, gC]; rfl) (by kernel_rfl) (by kernel_rfl) (by kernel_rfl) (by exact fun _ _ _ h => h) (Or.inl ⟨by rfl, ?_⟩) (by assumption) ?_; rotate_left; (focus (intro w hSw; (try dsimp only at hSw); go_simp; try with_reducible rfl)); (try simp only [Act.put, sA, sB, sC])
      refine wpAnyH_ready (rs := [12]) (by kernel_rfl) (by simp) ?_
      refine AllReadyH.cons (by simp only [gA, gB, gC]; rfl) (fun K hK => ?_) AllReadyH.nil
      have hthz : w3.there w1.heap.size 0 ((f.cs) : List Value).length := hbn3.1.there
      obtain ⟨wz, hwz⟩ : ∃ wz, w3.setCells w1.heap.size 0 (f.cs) = wz := ⟨_, rfl⟩
      have hbz1 : Blk wz w1.heap.size (f.cs) := by rw [← hwz]; exact hbn3.1.setAll rfl
      have hBz : Below w1.heap.size w1 wz := by rw [← hwz]; exact Below.cells (Nat.le_refl _) _ 0 hpb3
      have hSz := Below.then hS1 hBz
      refine step_store_rowT rfl _ _ rfl w1.heap.size rfl ((f.cs)) rfl hthz (by rw [pn_len]; exact hszN) (pn_one f) hwz ?_
      (try simp only [Act.put, sA, sB, sC])
      refine hK.out _ _ (hSz) ?_
      clear hHeld hK
      intro hHeld
      (try simp only [Act.put, sA, sB, sC])
      refine wpAnyH_take (i := 13) (v := ?_) (by simp only [gA, gB, gC]; rfl) (by kernel_rfl) (by kernel_rfl) (by kernel_rfl) (by exact fun _ _ _ h => h) (Or.inl ⟨by rfl, ?_⟩) (by assumption) ?_; rotate_left; (focus (intro w hSw; (try dsimp only at hSw); go_simp; try with_reducible rfl)); (try simp only [Act.put, sA, sB, sC])
      refine wpAnyH_done (by kernel_rfl) ?_ _
      go_wp2_with fail
      go_meet
      exact ⟨trivial, rfl, hSz⟩
    refine AllReadyH.cons (by simp only [gA, gB, gC]; rfl) (fun K hK => ?_) AllReadyH.nil
    go_simp
    refine hK.out _ _ (Below.then hS0 (alloc_below _ _)) ?_
    clear hHeld hK
    intro hHeld
    have hb := alloc_below w0 (.cells zN 36)
    have hbn1 := blkl_alloc w0 zN 36
    have hpb1 := hb
    have hS1 := Below.then hS0 hb
    generalize hwx : w0.alloc (.cells zN 36) = w1 at *
    clear hwx hb
    (try simp only [Act.put, sA, sB, sC])
    refine wpAnyH_ready (rs := [2]) (by kernel_rfl) (by simp) ?_
    refine AllReadyH.cons (by simp only [gA, gB, gC]; rfl) (fun K hK => ?_) AllReadyH.nil
    go_simp
    go_at_call 14
    refine (kwho w1).mono ?_
    rintro e w2 ⟨rfl, hb⟩
    have hS2 := Below.then hS1 hb
    have hbn2 := stab_blk _ _ _ _ hbn1 hb
    have hpb2 := Below.then hpb1 hb
    refine hK.out _ _ (hS2) ?_
    clear hHeld hK
    intro hHeld
    clear hb
    (try simp only [Act.put, sA, sB, sC])
    refine wpAnyH_take (i := 4) (v := ?_) (by simp only [gA, gB, gC]; rfl) (by kernel_rfl) (by kernel_rfl) (by kernel_rfl) (by exact fun _ _ _ h => h) (Or.inl ⟨by rfl, ?_⟩) (by assumption) ?_; rotate_left; (focus (intro w hSw; (try dsimp only at hSw); go_simp; try with_reducible rfl)); (try simp only [Act.put, sA, sB, sC])
    refine wpAnyH_ready (rs := [7]) (by kernel_rfl) (by simp) ?_
    refine AllReadyH.cons (by simp only [gA, gB, gC]; rfl) (fun K hK => ?_) AllReadyH.nil
    go_simp
    go_at_call 17
    refine (km2 w2 (hG.below hS2) (hV.below (Below.then hB hS2))).mono ?_
    rintro e w3 ⟨f, rfl, -, -, hb⟩
    have hS3 := Below.then hS2 hb
    have hbn3 := stab_blk _ _ _ _ hbn2 hb
    have hpb3 := Below.then hpb2 hb
    refine hK.out _ _ (hS3) ?_
    clear hHeld hK
    intro hHeld
    clear hb
    (try simp only [Act.put, sA, sB, sC])
    refine wpAnyH_take (i := 8) (v := ?_) (by simp only [gA, gB, gC]; rfl) (by kernel_rfl) (by kernel_rfl) (by kernel_rfl) (by exact fun _ _ _ h => h) (Or.inl ⟨by rfl, ?_⟩) (by assumption) ?_; rotate_left; (focus (intro w hSw; (try dsimp only at hSw); go_simp; try with_reducible rfl)); (try simp only [Act.put, sA, sB, sC])
    refine wpAnyH_take (i := 9) (v := ?_) (by simp only [gA, gB, gC]; rfl) (by kernel_rfl) (by kernel_rfl) (by kernel_rfl) (by exact fun _ _ _ h => h) (Or.inl ⟨by rfl, ?_⟩) (by assumption) ?_; rotate_left; (focus (intro w hSw; (try dsimp only at hSw); go_simp; try with_reducible rfl)); (try simp only [Act.put, sA, sB, sC])
    refine wpAnyH_take (i := 10) (v := ?_) (by simp only [gA, gB, gC]; rfl) (by kernel_rfl) (by kernel_rfl) (by kernel_rfl) (by exact fun _ _ _ h => h) (Or.inl ⟨by rfl, ?_⟩) (by assumption) ?_; rotate_left; (focus (intro w hSw; (try dsimp only at hSw); go_simp; try with_reducible rfl)); (try simp only [Act.put, sA, sB, sC])
    refine wpAnyH_ready (rs := [12]) (by kernel_rfl) (by simp) ?_
    refine AllReadyH.cons (by simp only [gA, gB, gC]; rfl) (fun K hK => ?_) AllReadyH.nil
    have hthz : w3.there w0.heap.size 0 ((f.cs) : List Value).length := hbn3.1.there
    obtain ⟨wz, hwz⟩ : ∃ wz, w3.setCells w0.heap.size 0 (f.cs) = wz := ⟨_, rfl⟩
    have hbz1 : Blk wz w0.heap.size (f.cs) := by rw [← hwz]; exact hbn3.1.setAll rfl
    have hBz : Below w0.heap.size w0 wz := by rw [← hwz]; exact Below.cells (Nat.le_refl _) _ 0 hpb3
    have hSz := Below.then hS0 hBz
    refine step_store_rowT rfl _ _ rfl w0.heap.size rfl ((f.cs)) rfl hthz (by rw [pn_len]; exact hszN) (pn_one f) hwz ?_
    (try simp only [Act.put, sA, sB, sC])
    refine hK.out _ _ (hSz) ?_
    clear hHeld hK
    intro hHeld
    (try simp only [Act.put, sA, sB, sC])
    refine wpAnyH_take (i := 13) (v := ?_) (by simp only [gA, gB, gC]; rfl) (by kernel_rfl) (by kernel_rfl) (by kernel_rfl) (by exact fun _ _ _ h => h) (Or.inl ⟨by rfl, ?_⟩) (by assumption) ?_; rotate_left; (focus (intro w hSw; (try dsimp only at hSw); go_simp; try with_reducible rfl)); (try simp only [Act.put, sA, sB, sC])
    refine wpAnyH_done (by kernel_rfl) ?_ _
    go_wp2_with fail
    go_meet
    exact ⟨trivial, rfl, hSz⟩
  case rest =>
  obtain ⟨-, rfl, hd⟩ := hcut
  replace hB := Below.then hB hd
  by_cases hz1 : E1 = 0
  · have hz2 := hup hz1
    subst hz1 hz2
    go_wp2_with fail
    go_ret
    exact ⟨rfl, hB⟩
  · have hz2 : (E1 != 0) = true := by simpa using hz1
    go_wp2_with fail
    go_ret
    exact ⟨rfl, hB⟩
end Go.Proofs.YtapgjdmnlkedgaaDoor
