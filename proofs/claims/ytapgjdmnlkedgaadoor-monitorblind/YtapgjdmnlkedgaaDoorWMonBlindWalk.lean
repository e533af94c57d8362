/-
  P1304: what lies in directories that a subject's label is not over changes nothing that it is told: the law's walk. Written by mk_monblind.py.
-/
import Derived.Test.YtapgjdmnlkedgaaDoorWMonSecureWalk
import Derived.Test.YtapgjdmnlkedgaaDoorWMonOpen
namespace Go.Proofs.YtapgjdmnlkedgaaDoor
open Go.RowKit
set_option maxRecDepth 8000
set_option linter.unusedSimpArgs false
set_option linter.unusedVariables false

theorem low_chg {L : List Nod} (h : Tree L) (u : ByteArray) (t : Lab) (p : ByteArray) : chgE (lowN L t) u t p = chgE L u t p ∧ toldN (lowN L t) (parentOf p) (chgE L u t p) = toldN L (parentOf p) (chgE L u t p) := by
  obtain ⟨h1, h2⟩ := low_may h u t (parentOf p) 2
  have hg : mayE L u t (parentOf p) 2 = 0 → (findN (lowN L t) (parentOf p)).getD zeroN = (findN L (parentOf p)).getD zeroN := fun q => by
    rw [q] at h2
    unfold toldN at h2
    rw [if_pos rfl, if_pos rfl] at h2
    exact h2
  have hz : chgE L u t p = 0 → mayE L u t (parentOf p) 2 = 0 := fun q => by
    unfold chgE at q
    by_cases c1 : checkOf p = 0
    · rw [if_neg (by simp [c1])] at q
      by_cases c2 : eqs p slashS = true
      · rw [if_pos c2] at q; cases q
      · rw [if_neg c2] at q
        by_cases c3 : mayE L u t (parentOf p) 2 = 0
        · exact c3
        · rw [if_pos c3] at q; exact absurd q c3
    · rw [if_pos c1] at q; exact absurd q c1
  refine ⟨?_, ?_⟩
  · unfold chgE
    rw [h1]
    by_cases c3 : mayE L u t (parentOf p) 2 = 0
    · rw [hg c3]
    · rw [if_pos c3, if_pos c3]
  · by_cases c : chgE L u t p = 0
    · unfold toldN
      rw [if_pos c, if_pos c]
      exact hg (hz c)
    · unfold toldN
      rw [if_neg c, if_neg c]
/-- What is left of a list. -/
def lowP (l : List PN) (t : Lab) : List PN := l.filter fun x => keepB (namesP l) t x.n
theorem low_names (l : List PN) (t : Lab) : namesP (lowP l t) = lowN (namesP l) t := by
  unfold lowP lowN namesP
  rw [List.filter_map]
  rfl
theorem low_fine {l : List PN} (h : FineL l) (t : Lab) : FineL (lowP l t) := ⟨Nat.le_trans (List.length_filter_le _ _) h.len, by rw [low_names]; exact low_ordered h.ord t, fun x hx => h.ok x (List.mem_filter.1 hx).1⟩
theorem keep_none {l : List PN} {t : Lab} {x : PN} (h : findP l (parentOf x.n.path) = none) : keepB (namesP l) t x.n = true := by
  unfold keepB
  rw [find_names, h]
  rfl
theorem keep_some {l : List PN} {t : Lab} {x d : PN} (h : findP l (parentOf x.n.path) = some d) : keepB (namesP l) t x.n = rov t d.n.label := by
  unfold keepB
  rw [find_names, h]
  rfl
theorem filter_step {l : List PN} {p : PN → Bool} {i : Nat} {x : PN} (h : l[i]? = some x) : (l.take (i + 1)).filter p = (l.take i).filter p ++ (if p x = true then [x] else []) := by
  rw [List.take_add_one, h, List.filter_append]
  cases hp : p x <;> simp [hp]
theorem sum_lt {n np i : Nat} {sm : Int} (hs : IntKind.i64.wrap ((n : Int) + (np : Int)) = sm) (hi : i < 40) (h : (i : Int) < sm) : i < n + np := by
  by_cases hb : n + np < 9223372036854775808
  · have := wrap_small (n + np) hb
    rw [show (((n + np : Nat)) : Int) = (n : Int) + (np : Int) by omega, hs] at this
    omega
  · omega
set_option maxRecDepth 20000 in
set_option maxHeartbeats 8000000 in
theorem monitorBlind_walk (ta : Option Addr) (ct : Nat) (ts : List Lab) (ma : Option Addr) (mc : Nat) (ms : List PM) (who : Int) (at_ : Lab) (pick mode : Int) (hpk : -9223372036854775808 ≤ pick ∧ pick ≤ 9223372036854775807) (pa : Option Addr) (pc : Nat) (ps : List PI) (w : World) (hlr : RowAt 4 lrow w ta ts) (hmr : RowM w ma ms) (hpr : RowI w pa ps) (hV : MaxV w) :
    Calls Tryd.prog 5 #[.slice ta ts.length ct, .slice ma ms.length mc, .int .i64 who, at_.v, .int .i64 pick, .int .i64 mode, .slice pa ps.length pc] w fun e w' => e = .returned (.bool true) ∧ Below w.heap.size w w' := by
  have hund := Tryd.underlying36
  have hundL := Tryd.underlying25
  have hundM := Tryd.underlying47
  have hsm : (Tryd.prog.info? 47).map (·.size) = some 5 := by kernel_rfl
  have hszN : (Tryd.prog.info? 36).map (·.size) = some 16 := by kernel_rfl
  have hsl : (Tryd.prog.info? 25).map (·.size) = some 4 := by kernel_rfl
  have kg := fun W (q1 : RowAt 4 lrow W ta ts) (q2 : RowM W ma ms) => growB_any ta ct ts ma mc ms W q1 q2
  obtain ⟨nt, hnt⟩ : ∃ nt, ts.length = nt := ⟨_, rfl⟩
  obtain ⟨nm, hnm⟩ : ∃ nm, ms.length = nm := ⟨_, rfl⟩
  rw [hnt, hnm] at kg
  obtain ⟨np, hnp⟩ : ∃ np, ps.length = np := ⟨_, rfl⟩
  rw [hnt, hnm, hnp]
  replace hnp : Aside (ps.length = np) := hnp
  clear hnt hnm
  have hb8 := blkl_alloc w (lab4 at_).toArray 25
  have hB0 := alloc_below w (.cells (lab4 at_).toArray 25)
  replace hb8 : BlkL w.heap.size (lab4 at_) (w.alloc (.cells (lab4 at_).toArray 25)) := hb8
  go_enter Tryd.func5, Tryd.ntmps5
  go_wp2_with fail
  generalize w.alloc (.cells #[.int .i64 at_.s, .int .i64 at_.c, .int .i64 at_.i, .int .i64 at_.k] 25) = W0 at *
  refine (mknown_any monOk W0 (hV.below hB0)).mono ?_
  rintro e W1 ⟨rfl, hB1⟩
  replace hb8 := stab_blk _ _ _ _ hb8 hB1
  have hB01 := Below.then hB0 hB1
  go_wp2_with fail
  refine (kg W1 (hlr.below lab_ok.len hB01) (hmr.below hB01)).mono ?_
  rintro e W2 ⟨v, l, rfl, ho, hat, hnm, hB2, hA⟩
  obtain ⟨a, c, rfl, hG⟩ := gt_of ho hat hnm hA
  have hB02 := Below.then hB01 hB2
  have hbB : w.heap.size < W1.heap.size := hb8.2
  replace hb8 := stab_blk _ _ _ _ hb8 hB2
  have hlen := hG.len
  have hpos := hG.pos
  clear kg ho hat hnm hA hB2 hlr hmr hB0 hB1 hB01
  generalize W1.heap.size = B1 at *
  obtain ⟨n, hn⟩ : ∃ n, l.length = n := ⟨_, rfl⟩
  rw [hn] at hlen hpos ⊢
  replace hn : Aside (l.length = n) := hn
  have hmod : ∀ q : Int, ∃ j : Nat, q % (n : Int) = (j : Int) ∧ j < n := fun q => ⟨(q % (n : Int)).toNat, by have := Int.emod_nonneg q (show (n : Int) ≠ 0 by omega); omega, by have h1 := Int.emod_nonneg q (show (n : Int) ≠ 0 by omega); have h2 := Int.emod_lt_of_pos q (show 0 < (n : Int) by omega); omega⟩
  have hr8 := hb8.range
  go_wp2_with (first | (refine wpList_load_row rfl _ rfl w.heap.size rfl (lab4 at_) hr8 hundL rfl hsl ?_) | fail)
  refine (good_any at_ W2).mono ?_
  rintro e W3 ⟨rfl, hB3⟩
  replace hb8 := stab_blk _ _ _ _ hb8 hB3
  have hG3 := hG.below hB3
  have hB03 := Below.then hB02 hB3
  clear hr8 hG hB02 hB3
  obtain ⟨W4, hW4, hth4, hb4, hk4, hB4⟩ := turn_lab (goodL at_) hb8
  have hG4 := hG3.turn (W' := W4) (fun k hk => hk4 k (by omega))
  have hB04 := hB4 _ _ (Nat.le_refl _) hB03
  have hGg := good_GL at_
  clear hb8 hG3 hB03 hk4 hB4
  go_upto_region 5 with (first | (refine wpList_store_row rfl _ _ rfl w.heap.size rfl (lab4 (goodL at_)) rfl hth4 hsl (lab4_one _) hW4 ?_) | fail)
  clear hth4 hW4
  obtain ⟨g, hg⟩ : ∃ g, goodL at_ = g := ⟨_, rfl⟩
  rw [hg] at hb4 hGg
  clear hg
  obtain ⟨y, rfl⟩ : ∃ y, a = some y := hG4.row.some_ (List.getElem?_eq_getElem (by rw [hn.out]; exact hpos))
  (try simp only [Act.put])
  go_upto_if 40 with fail
  go_cut [] from 31 (fun wc => ∃ t : Lab, GL t ∧ GT B1 wc (some y) c l ts (ms.map (·.m)) ∧ BlkL w.heap.size (lab4 t) wc ∧ Below w.heap.size w wc)
  case first =>
    cases hq : (pick.tmod 2 == 0)
    · go_wp2_with fail
      go_meet
      exact ⟨g, hGg, hG4, hb4, hB04⟩
    · obtain ⟨k2, hk2, hkn2⟩ := hmod (pick.tdiv 2)
      obtain ⟨x2, hx2⟩ : ∃ x2, l[k2]? = some x2 := ⟨_, List.getElem?_eq_getElem (by rw [hn.out]; exact hkn2)⟩
      have hcl := cells_lab (hG4.row.r.at pn_len hx2)
      have hGt := hG4.lab (List.mem_of_getElem? hx2)
      obtain ⟨t, ht⟩ : ∃ t, x2.n.label = t := ⟨_, rfl⟩
      rw [ht] at hcl hGt
      have kw := w13_any (pick.tdiv 2) (n : Int) (by omega) (by omega) W4
      rw [hk2] at kw
      obtain ⟨W5, hW5, hth5, hb5, hk5, hB5⟩ := turn_lab t hb4
      have hG5 := hG4.turn (W' := W5) (fun k hk => hk5 k (by omega))
      have hB05 := hB5 _ _ (Nat.le_refl _) hB04
      clear hx2 hk2 ht
      go_wp2_with fail
      refine kw.mono ?_
      rintro e w' ⟨rfl, hw'⟩
      replace hw' := hw'.symm
      subst hw'
      go_wp2_with (first | (refine wpList_load_at rfl _ rfl ⟨(y.add (k2 * 16)).block, (y.add (k2 * 16)).off + 2, none⟩ rfl (labM t) hcl hundL rfl hsl ?_) | (refine wpList_store_row rfl _ _ rfl w.heap.size rfl (lab4 t) rfl hth5 hsl (lab4_one _) hW5 ?_) | fail)
      go_meet
      exact ⟨t, hGt, hG5, hb5, hB05⟩
  case rest =>
  clear hG4 hb4 hB04 hGg hmod hpk
  obtain ⟨t, hGt, hG, hbt, hB⟩ := hcut
  obtain ⟨Z, hZ⟩ : ∃ Z, Z = wc := ⟨_, rfl⟩
  subst hZ
  obtain ⟨u, hu⟩ : ∃ u, whoS who = u := ⟨_, rfl⟩
  have kwho := fun W => who_any who W
  rw [hu] at kwho
  clear hu
  have hF := hG.fine
  have hT := hG.tree
  have kf := fun W q (r : RowN W (some y) l) => rfindT_any (some y) c l q (by have := hF.len; omega) W r
  rw [hn.out] at kf
  have hLp : ∀ x ∈ l, x.n.path.size ≤ 78 := fun x hx => hG.path hx
  go_wp2_with fail
  go_loopw [16, 17] (fun t16 t17 wr => ∃ (i : Nat) (v : Value), i ≤ n ∧ t17 = .int .i64 (i : Int) ∧ v = t16 ∧ OwnN wr Z.heap.size v ((l.take i).filter fun x => keepB (namesP l) t x.n) ∧ Below Z.heap.size Z wr) (fun _ t17 _ => n - (Go.RowKit.intOf t17).toNat)
  case atStart => exact ⟨0, _, by omega, rfl, rfl, OwnR.nil _ _ _ _ _, Below.refl _ _⟩
  case round =>
  obtain ⟨i, v, hi, rfl, rfl, ho, hZr⟩ := hrel
  by_cases hlt : i < n
  · obtain ⟨x, hx⟩ : ∃ x, l[i]? = some x := ⟨_, List.getElem?_eq_getElem (by rw [hn.out]; exact hlt)⟩
    have hxm := List.mem_of_getElem? hx
    have hcx : wr.cell? (y.add (i * 16)) = some (.string x.n.path) := ((hG.below hZr).row.r.at pn_len hx) 0 _ rfl
    have hps := hLp x hxm
    have kpar := rparent_any x.n.path (by omega) wr
    have hstep := filter_step (p := fun x => keepB (namesP l) t x.n) hx
    obtain ⟨fr, hfr⟩ : ∃ fr, findP l (parentOf x.n.path) = fr := ⟨_, rfl⟩
    have kfp := kf wr (parentOf x.n.path) (hG.below hZr).row
    rw [hfr] at kfp
    obtain ⟨pp, hpp⟩ : ∃ pp, parentOf x.n.path = pp := ⟨_, rfl⟩
    rw [hpp] at kpar kfp
    have i1 : (i : Int) < (n : Int) := by omega
    replace hpp : Aside (parentOf x.n.path = pp) := hpp
    obtain ⟨cs, hcs⟩ : ∃ cs, foundCs fr = cs := ⟨_, rfl⟩
    have hlen16 : cs.length = 16 := by rw [← hcs]; rfl
    have hone : ∀ v ∈ cs, v.oneCell' = true := by rw [← hcs]; exact pn_one _
    have hszc : (Tryd.prog.info? 36).map (·.size) = some cs.length := by rw [hlen16]; exact hszN
    rw [hcs] at kfp
    replace hstep : Aside _ := hstep
    go_wp2_with fail
    refine kpar.mono ?_
    rintro e w' ⟨rfl, hw'⟩
    replace hw' := hw'.symm
    subst hw'
    clear kpar hcx
    go_wp2_with fail
    refine kfp.mono ?_
    rintro e W3 ⟨rfl, hB3⟩
    obtain ⟨W4, hW4, hth4, hbn, hB4⟩ := put_new W3 zN 36 cs (by rw [hlen16]; rfl) (by omega)
    have hB34 := Below.then hB3 hB4
    have hZ4 := Below.then hZr hB34
    have ho4 := ho.below hB34
    clear kfp hB3 hB4 hB34 ho hZr
    cases fr with
    | none =>
      have hkeep : ((l.take i).filter fun x => keepB (namesP l) t x.n) ++ [x] = (l.take (i + 1)).filter fun x => keepB (namesP l) t x.n := by rw [hstep.out, if_pos (keep_none hfr)]
      clear hcs hbn hfr
      go_upto_region 13 with (first | (refine wpList_store_row rfl _ _ rfl W3.heap.size rfl cs rfl hth4 hszc hone hW4 ?_) | fail)
      clear hth4 hW4
      have hxs : ∀ q, (Tryd.prog.info? 36).map (·.size) = some (PN.cs q).length := fun q => by rw [pn_len]; exact hszN
      have hcx2 := (hG.below hZ4).row.r.at pn_len hx
      obtain ⟨v5, W5, hap, ho5, hg5⟩ := OwnR.push pn_ok ho4 hZ4.size x x.cs.toArray rfl 36 (by have := List.length_filter_le (fun q : PN => keepB (namesP l) t q.n) (l.take i); have := List.length_take_le i l; omega)
      have hb5 := ho4.grew_below hZ4.size hg5
      have hZ5 : Below Z.heap.size Z W5 := hZ4.trans hb5
      rw [hkeep] at ho5
      go_wp2_with (first | (refine wpList_load_at rfl _ rfl (y.add (i * 16)) rfl x.cs hcx2 hund rfl (hxs x) ?_) | (refine wpList_build1 pn_ok (by decide) rfl _ rfl x.cs rfl (pn_len x) ?_) | (refine wpList_append rfl _ _ rfl rfl rfl rfl hap ?_) | fail)
      exact ⟨⟨i + 1, v5, by omega, by simp, rfl, ho5, hZ5⟩, by simp [Go.RowKit.intOf]; omega⟩
    | some d =>
      have hcn : CellsAt W4 ⟨W3.heap.size, 2, none⟩ (labM d.n.label) := nd_lab (x := d) (by rw [show d.cs = cs from hcs]; exact hbn)
      have hrt := (stab_blk _ _ _ _ hbt hZ4).range
      have kv := rlover_any t d.n.label W4
      have hkp := keep_some (t := t) hfr
      clear hcs hbn hfr
      cases hr : rov t d.n.label
      · rw [hr] at kv hkp
        have hkeep : ((l.take i).filter fun x => keepB (namesP l) t x.n) = (l.take (i + 1)).filter fun x => keepB (namesP l) t x.n := by rw [hstep.out, if_neg (by rw [hkp]; decide), List.append_nil]
        go_wp2_with (first | (refine wpList_store_row rfl _ _ rfl W3.heap.size rfl cs rfl hth4 hszc hone hW4 ?_) | (refine wpList_load_rowg (by rfl) _ rfl w.heap.size rfl (lab4 t) hrt hundL rfl hsl ?_) | (refine wpList_load_atg (by rfl) _ rfl ⟨W3.heap.size, 2, none⟩ rfl (labM d.n.label) hcn hundL rfl hsl ?_) | fail)
        refine kv.mono ?_
        rintro e W5 ⟨rfl, hB5⟩
        have hZ5 := Below.then hZ4 hB5
        have ho5 := ho4.below hB5
        rw [hkeep] at ho5
        clear kv hcn hrt hth4 hW4
        go_wp2_with fail
        exact ⟨⟨i + 1, v, by omega, by simp, rfl, ho5, hZ5⟩, by simp [Go.RowKit.intOf]; omega⟩
      · rw [hr] at kv hkp
        have hkeep : ((l.take i).filter fun x => keepB (namesP l) t x.n) ++ [x] = (l.take (i + 1)).filter fun x => keepB (namesP l) t x.n := by rw [hstep.out, if_pos hkp]
        go_wp2_with (first | (refine wpList_store_row rfl _ _ rfl W3.heap.size rfl cs rfl hth4 hszc hone hW4 ?_) | (refine wpList_load_rowg (by rfl) _ rfl w.heap.size rfl (lab4 t) hrt hundL rfl hsl ?_) | (refine wpList_load_atg (by rfl) _ rfl ⟨W3.heap.size, 2, none⟩ rfl (labM d.n.label) hcn hundL rfl hsl ?_) | fail)
        refine kv.mono ?_
        rintro e W5 ⟨rfl, hB5⟩
        replace hZ4 := Below.then hZ4 hB5
        replace ho4 := ho4.below hB5
        clear kv hcn hrt hth4 hW4 hB5
        go_upto_region 13 with fail
        have hxs : ∀ q, (Tryd.prog.info? 36).map (·.size) = some (PN.cs q).length := fun q => by rw [pn_len]; exact hszN
        have hcx2 := (hG.below hZ4).row.r.at pn_len hx
        obtain ⟨v6, W6, hap, ho5, hg5⟩ := OwnR.push pn_ok ho4 hZ4.size x x.cs.toArray rfl 36 (by have := List.length_filter_le (fun q : PN => keepB (namesP l) t q.n) (l.take i); have := List.length_take_le i l; omega)
        have hb5 := ho4.grew_below hZ4.size hg5
        have hZ5 : Below Z.heap.size Z W6 := hZ4.trans hb5
        rw [hkeep] at ho5
        go_wp2_with (first | (refine wpList_load_at rfl _ rfl (y.add (i * 16)) rfl x.cs hcx2 hund rfl (hxs x) ?_) | (refine wpList_build1 pn_ok (by decide) rfl _ rfl x.cs rfl (pn_len x) ?_) | (refine wpList_append rfl _ _ rfl rfl rfl rfl hap ?_) | fail)
        exact ⟨⟨i + 1, v6, by omega, by simp, rfl, ho5, hZ5⟩, by simp [Go.RowKit.intOf]; omega⟩
  obtain rfl : i = n := by omega
  have i0 : ¬ (i : Int) < (i : Int) := by omega
  have htk : l.take i = l := List.take_of_length_le (by rw [hn.out]; exact Nat.le_refl _)
  rw [htk] at ho
  replace ho : OwnN wr Z.heap.size v (lowP l t) := ho
  replace hG := hG.below hZr
  replace hbt := stab_blk _ _ _ _ hbt hZr
  replace hB := Below.then hB hZr
  clear hZr htk kf
  obtain ⟨la, lc, rfl, -, -, hlo⟩ := OwnR.slice pn_len ho
  have hlr2 : RowN wr la (lowP l t) := ⟨hlo, fun q hq => hG.row.p q (List.mem_filter.1 hq).1⟩
  have hFl := low_fine hF t
  have hnl := low_names l t
  obtain ⟨M, hM⟩ : ∃ M, lowP l t = M := ⟨_, rfl⟩
  rw [hM] at hlr2 hFl hnl ⊢
  obtain ⟨nl, hnlen⟩ : ∃ nl, M.length = nl := ⟨_, rfl⟩
  rw [hnlen]
  replace hnlen : Aside (M.length = nl) := hnlen
  clear hM ho hlo
  obtain ⟨Z1, hZ1⟩ : ∃ Z1, Z1 = wr := ⟨_, rfl⟩
  subst hZ1
  go_upto_region 14 with fail
  go_cut [20] from 50 (fun s20 wc => ∃ bs, s20 = .pointer (some ⟨bs, 0, none⟩) ∧ BlkL bs (sbL u t) wc ∧ Below Z1.heap.size Z1 wc)
  case first =>
    have hS0 : Below Z1.heap.size Z1 Z1.drew := (Below.refl _ _).drew
    refine wp_region_held_drew (S := (fun W => Below Z1.heap.size Z1 W)) (by kernel_rfl) (by exact hS0) ?_
    intro hHeld
    generalize Z1.drew = w0 at *
    refine wpAnyH_take (i := 0) (v := ?_) (by simp only [gA, gB, gC]; rfl) (by kernel_rfl) (by kernel_rfl) (by kernel_rfl) (by exact fun _ _ _ h => h) (Or.inl ⟨by rfl, ?_⟩) (by assumption) ?_; rotate_left; (focus (intro w hSw; (try dsimp only at hSw); go_simp; try with_reducible rfl)); (try simp only [Act.put, sA, sB, sC])
    refine wpAnyH_take (i := 2) (v := _) (by simp only [gA, gB, gC]; rfl) (by kernel_rfl) (by kernel_rfl) (by kernel_rfl) (by exact fun _ _ _ h => h) (yields_row (by rfl) _ rfl w.heap.size rfl (lab4 t) (fun _ q => (stab_blk _ _ _ _ hbt q).range) hundL rfl hsl) (by assumption) ?_; (try simp only [Act.put, sA, sB, sC])
    refine wpAnyH_ready (rs := [1, 4]) (by kernel_rfl) (by simp) ?_
    refine AllReadyH.cons (by simp only [gA, gB, gC]; rfl) (fun K hK => ?_) ?_
    · go_simp
      go_at_call 14
      refine (kwho w0).mono ?_
      rintro e w1 ⟨rfl, hb⟩
      have hS1 := Below.then hS0 hb
      refine hK.out _ _ (hS1) ?_
      clear hHeld hK
      intro hHeld
      clear hb
      (try simp only [Act.put, sA, sB, sC])
      refine wpAnyH_take (i := 3) (v := ?_) (by simp only [gA, gB, gC]; rfl) (by kernel_rfl) (by kernel_rfl) (by kernel_rfl) (by exact fun _ _ _ h => h) (Or.inl ⟨by rfl, ?_⟩) (by assumption) ?_; rotate_left; (focus (intro w hSw; (try dsimp only at hSw); go_simp; try with_reducible rfl)); (try simp only [Act.put, sA, sB, sC])
      refine wpAnyH_ready (rs := [4]) (by kernel_rfl) (by simp) ?_
      refine AllReadyH.cons (by simp only [gA, gB, gC]; rfl) (fun K hK => ?_) AllReadyH.nil
      go_simp
      refine hK.out _ _ (Below.then hS1 (alloc_below _ _)) ?_
      clear hHeld hK
      intro hHeld
      have hb := alloc_below w1 (.cells #[.string ⟨#[]⟩, .int .i64 0, .int .i64 0, .int .i64 0, .int .i64 0] 47)
      have hbn2 := blkl_alloc w1 #[.string ⟨#[]⟩, .int .i64 0, .int .i64 0, .int .i64 0, .int .i64 0] 47
      have hpb2 := hb
      have hS2 := Below.then hS1 hb
      generalize hwx : w1.alloc (.cells #[.string ⟨#[]⟩, .int .i64 0, .int .i64 0, .int .i64 0, .int .i64 0] 47) = w2 at *
      clear hwx hb
      (try simp only [Act.put, sA, sB, sC])
      refine wpAnyH_ready (rs := [5]) (by kernel_rfl) (by simp) ?_
      refine AllReadyH.cons (by simp only [gA, gB, gC]; rfl) (fun K hK => ?_) AllReadyH.nil
      have hthz : w2.there w1.heap.size 0 ((sbL u t) : List Value).length := hbn2.1.there
      obtain ⟨wz, hwz⟩ : ∃ wz, w2.setCells w1.heap.size 0 (sbL u t) = wz := ⟨_, rfl⟩
      have hbz1 : Blk wz w1.heap.size (sbL u t) := by rw [← hwz]; exact hbn2.1.setAll rfl
      have hBz : Below w1.heap.size w1 wz := by rw [← hwz]; exact Below.cells (Nat.le_refl _) _ 0 hpb2
      have hSz := Below.then hS1 hBz
      refine step_store_rowT rfl _ _ rfl w1.heap.size rfl ((sbL u t)) rfl hthz hsm (sbL_one u t) hwz ?_
      (try simp only [Act.put, sA, sB, sC])
      refine hK.out _ _ (hSz) ?_
      clear hHeld hK
      intro hHeld
      (try simp only [Act.put, sA, sB, sC])
      refine wpAnyH_done (by kernel_rfl) ?_ _
      go_wp2_with fail
      go_meet
      exact ⟨_, rfl, ⟨hbz1, hbz1.lt rfl⟩, hSz⟩
    refine AllReadyH.cons (by simp only [gA, gB, gC]; rfl) (fun K hK => ?_) AllReadyH.nil
    go_simp
    refine hK.out _ _ (Below.then hS0 (alloc_below _ _)) ?_
    clear hHeld hK
    intro hHeld
    have hb := alloc_below w0 (.cells #[.string ⟨#[]⟩, .int .i64 0, .int .i64 0, .int .i64 0, .int .i64 0] 47)
    have hbn1 := blkl_alloc w0 #[.string ⟨#[]⟩, .int .i64 0, .int .i64 0, .int .i64 0, .int .i64 0] 47
    have hpb1 := hb
    have hS1 := Below.then hS0 hb
    generalize hwx : w0.alloc (.cells #[.string ⟨#[]⟩, .int .i64 0, .int .i64 0, .int .i64 0, .int .i64 0] 47) = w1 at *
    clear hwx hb
    (try simp only [Act.put, sA, sB, sC])
    refine wpAnyH_ready (rs := [1]) (by kernel_rfl) (by simp) ?_
    refine AllReadyH.cons (by simp only [gA, gB, gC]; rfl) (fun K hK => ?_) AllReadyH.nil
    go_simp
    go_at_call 14
    refine (kwho w1).mono ?_
    rintro e w2 ⟨rfl, hb⟩
    have hS2 := Below.then hS1 hb
    have hbn2 := stab_blk _ _ _ _ hbn1 hb
    have hpb2 := Below.then hpb1 hb
    refine hK.out _ _ (hS2) ?_
    clear hHeld hK
    intro hHeld
    clear hb
    (try simp only [Act.put, sA, sB, sC])
    refine wpAnyH_take (i := 3) (v := ?_) (by simp only [gA, gB, gC]; rfl) (by kernel_rfl) (by kernel_rfl) (by kernel_rfl) (by exact fun _ _ _ h => h) (Or.inl ⟨by rfl, ?_⟩) (by assumption) ?_; rotate_left; (focus (intro w hSw; (try dsimp only at hSw); go_simp; try with_reducible rfl)); (try simp only [Act.put, sA, sB, sC])
    refine wpAnyH_ready (rs := [5]) (by kernel_rfl) (by simp) ?_
    refine AllReadyH.cons (by simp only [gA, gB, gC]; rfl) (fun K hK => ?_) AllReadyH.nil
    have hthz : w2.there w0.heap.size 0 ((sbL u t) : List Value).length := hbn2.1.there
    obtain ⟨wz, hwz⟩ : ∃ wz, w2.setCells w0.heap.size 0 (sbL u t) = wz := ⟨_, rfl⟩
    have hbz1 : Blk wz w0.heap.size (sbL u t) := by rw [← hwz]; exact hbn2.1.setAll rfl
    have hBz : Below w0.heap.size w0 wz := by rw [← hwz]; exact Below.cells (Nat.le_refl _) _ 0 hpb2
    have hSz := Below.then hS0 hBz
    refine step_store_rowT rfl _ _ rfl w0.heap.size rfl ((sbL u t)) rfl hthz hsm (sbL_one u t) hwz ?_
    (try simp only [Act.put, sA, sB, sC])
    refine hK.out _ _ (hSz) ?_
    clear hHeld hK
    intro hHeld
    (try simp only [Act.put, sA, sB, sC])
    refine wpAnyH_done (by kernel_rfl) ?_ _
    go_wp2_with fail
    go_meet
    exact ⟨_, rfl, ⟨hbz1, hbz1.lt rfl⟩, hSz⟩
  case rest =>
  obtain ⟨bs, rfl, hbs, hd⟩ := hcut
  obtain ⟨X, hX⟩ : ∃ X, X = wc := ⟨_, rfl⟩
  subst hX
  replace hG := hG.below hd
  replace hlr2 := hlr2.below hd
  replace hB := Below.then hB hd
  replace hpr := hpr.below hB
  have hVX := hV.below hB
  clear hd hbt kwho
  have hm7 : 0 ≤ mode % 7 ∧ mode % 7 < 7 := ⟨Int.emod_nonneg _ (by decide), Int.emod_lt_of_pos _ (by decide)⟩
  have kw7 := fun W : World => (w13_any mode 7 (by decide) (by decide) W).mono fun e w' (h : e = .returned (.int .i64 (mode % 7)) ∧ w' = W) => (show e = .returned (.int .i64 (mode % 7)) ∧ Below W.heap.size W w' from ⟨h.1, by rw [h.2]; exact Below.refl _ _⟩)
  obtain ⟨m0, hm0⟩ : ∃ m0, mode % 7 = m0 := ⟨_, rfl⟩
  rw [hm0] at kw7
  clear hm0 hm7
  obtain ⟨mm, hmm⟩ : ∃ mm, IntKind.i64.wrap (1 + m0) = mm := ⟨_, rfl⟩
  have km1 := fun (p : ByteArray) (hp : p.size ≤ 1000) W (q : Below X.heap.size X W) => mmay_any (some y) c l u t p mm hF hGt hp W (hG.below q).row (hVX.below q)
  have km2 := fun (p : ByteArray) (hp : p.size ≤ 1000) W (q : Below X.heap.size X W) => mmay_any la lc M u t p mm hFl hGt hp W (hlr2.below q) (hVX.below q)
  have kc1 := fun (p : ByteArray) (hp : p.size ≤ 1000) W (q : Below X.heap.size X W) => mchg_any (some y) c l u t p hF hGt hp W (hG.below q).row (hVX.below q)
  have kc2 := fun (p : ByteArray) (hp : p.size ≤ 1000) W (q : Below X.heap.size X W) => mchg_any la lc M u t p hFl hGt hp W (hlr2.below q) (hVX.below q)
  have hfew := fun p e => told_few hF p e
  rw [hn.out] at km1 kc1
  rw [hnlen.out, hnl] at km2 kc2
  have hlm := fun p => low_may hT u t p mm
  have hlc := fun p => low_chg hT u t p
  obtain ⟨sm, hsum⟩ : ∃ sm, IntKind.i64.wrap ((i : Int) + (np : Int)) = sm := ⟨_, rfl⟩
  have hsl2 := fun (j : Nat) (hj : j < 40) (h : (j : Int) < sm) => sum_lt hsum hj h
  have hcell : ∀ W, Below X.heap.size X W → ∀ j x, l[j]? = some x → W.cell? (y.add (j * 16)) = some (.string x.n.path) := fun W q j x hx => ((hG.below q).row.r.at pn_len hx) 0 _ rfl
  clear hFl hnl hF hT hlr2 hG
  go_wp2_with fail
  go_loopw [21] (fun t21 wr => ∃ j : Nat, j ≤ 40 ∧ t21 = .int .i64 (j : Int) ∧ Below X.heap.size X wr) (fun t21 _ => 40 - (Go.RowKit.intOf t21).toNat)
  case atStart => exact ⟨0, by omega, rfl, Below.refl _ _⟩
  case round =>
  obtain ⟨j, hj, rfl, hXr⟩ := hrel
  by_cases hj40 : j < 40
  rotate_left
  · have j1 : ¬ (j : Int) < 40 := by omega
    have hfin := Below.then hB hXr
    by_cases j2 : (j : Int) < sm
    · go_wp2_with fail
      go_ret
      exact ⟨rfl, hfin⟩
    · go_wp2_with fail
      go_ret
      exact ⟨rfl, hfin⟩
  have j1 : (j : Int) < 40 := by omega
  by_cases j2 : (j : Int) < sm
  rotate_left
  · have hfin := Below.then hB hXr
    go_wp2_with fail
    go_ret
    exact ⟨rfl, hfin⟩
  have hjs := hsl2 j hj40 j2
  go_upto_if 102 with fail
  go_cut [22] from 99 to 169 (fun s22 wc => ∃ p : ByteArray, s22 = .string p ∧ p.size ≤ 1000 ∧ Below X.heap.size X wc)
  case first =>
    by_cases hjn : j < i
    · have j3 : (j : Int) < (i : Int) := by omega
      obtain ⟨x, hx⟩ : ∃ x, l[j]? = some x := ⟨_, List.getElem?_eq_getElem (by rw [hn.out]; exact hjn)⟩
      have hc2 := hcell wr hXr j x hx
      have hps := hLp x (List.mem_of_getElem? hx)
      clear hx
      go_wp2_with fail
      go_meet
      exact ⟨x.n.path, rfl, by omega, hXr⟩
    · have j3 : ¬ (j : Int) < (i : Int) := by omega
      obtain ⟨q, hq⟩ : ∃ q : Nat, j = i + q := ⟨j - i, by omega⟩
      have hqn : q < np := by omega
      obtain ⟨x, hx⟩ : ∃ x, ps[q]? = some x := ⟨_, List.getElem?_eq_getElem (by rw [hnp.out]; exact hqn)⟩
      have hprr := hpr.below hXr
      obtain ⟨z, rfl, hzc⟩ := hprr.r q x hx
      have hc2 : wr.cell? (z.add q) = some (.slice x.a x.l.length x.c) := by
        have := hzc 0 (by decide)
        rw [show q * 1 + 0 = q by omega] at this
        exact this
      have kof := of_pi (hprr.p x (List.mem_of_getElem? hx))
      have hps := names_size (namesOf_names x.l)
      obtain ⟨po, hpo⟩ : ∃ po, pathB (namesOf x.l) = po := ⟨_, rfl⟩
      rw [hpo] at kof hps
      have hjq : (j : Int) - (i : Int) = (q : Int) := by omega
      have hq1 : (q : Int) < (np : Int) := by omega
      clear hx hpo hzc hprr hq
      go_wp2_with fail
      refine kof.mono ?_
      rintro e W5 ⟨rfl, hB5⟩
      have hX5 := Below.then hXr hB5
      go_wp2_with fail
      go_meet
      exact ⟨po, rfl, by omega, hX5⟩
  case rest =>
  obtain ⟨p, rfl, hp, hXc⟩ := hcut
  obtain ⟨Y, hY⟩ : ∃ Y, Y = wc := ⟨_, rfl⟩
  subst hY
  have hbsY := stab_blk _ _ _ _ hbs hXc
  have kmA := fun W (q : Below Y.heap.size Y W) => km1 p hp W (Below.then hXc q)
  have kmB := fun W (q : Below Y.heap.size Y W) => km2 p hp W (Below.then hXc q)
  have kcA := fun W (q : Below Y.heap.size Y W) => kc1 p hp W (Below.then hXc q)
  have kcB := fun W (q : Below Y.heap.size Y W) => kc2 p hp W (Below.then hXc q)
  have hmp := hlm p
  have hcp := hlc p
  rw [hmp.1] at kmB
  rw [hcp.1] at kcB
  obtain ⟨E, hE⟩ : ∃ E, mayE (namesP l) u t p mm = E := ⟨_, rfl⟩
  obtain ⟨C, hC⟩ : ∃ C, chgE (namesP l) u t p = C := ⟨_, rfl⟩
  rw [hE] at kmA kmB hmp
  rw [hC] at kcA kcB hcp
  rw [hmp.2] at kmB
  rw [hcp.2] at kcB
  have hfewM := hfew p E
  have hfewC := hfew (parentOf p) C
  obtain ⟨TM, hTM⟩ : ∃ TM, toldN (namesP l) p E = TM := ⟨_, rfl⟩
  obtain ⟨TC, hTC⟩ : ∃ TC, toldN (namesP l) (parentOf p) C = TC := ⟨_, rfl⟩
  rw [hTM] at kmA kmB hfewM
  rw [hTC] at kcA kcB hfewC
  clear hE hC hTM hTC hmp hcp km1 km2 kc1 kc2 hlm hlc hfew hcell hpr hsl2
  go_upto_region 22 with fail
  go_cut [23, 24] from 99 to 169 (fun s23 s24 wc => s24 = .int .i64 E ∧ ∃ (f : PN) (bn : Nat), s23 = .pointer (some ⟨bn, 0, none⟩) ∧ BlkL bn f.cs wc ∧ f.n = TM ∧ f.At wc ∧ Below Y.heap.size Y wc)
  case first =>
    have hS0 : Below Y.heap.size Y Y.drew := (Below.refl _ _).drew
    refine wp_region_held_drew (S := (fun W => Below Y.heap.size Y W)) (by kernel_rfl) (by exact hS0) ?_
    intro hHeld
    generalize Y.drew = w0 at *
    refine wpAnyH_take (i := 0) (v := ?_) (by simp only [gA, gB, gC]; rfl) (by kernel_rfl) (by kernel_rfl) (by kernel_rfl) (by exact fun _ _ _ h => h) (Or.inl ⟨by rfl, ?_⟩) (by assumption) ?_; rotate_left; (focus (intro w hSw; (try dsimp only at hSw); go_simp; try with_reducible rfl)); (try simp only [Act.put, sA, sB, sC])
    refine wpAnyH_take (i := 1) (v := _) (by simp only [gA, gB, gC]; rfl) (by kernel_rfl) (by kernel_rfl) (by kernel_rfl) (by exact fun _ _ _ h => h) (yields_row (by rfl) _ rfl bs rfl (sbL u t) (fun _ q => (stab_blk _ _ _ _ hbsY q).range) hundM rfl hsm) (by assumption) ?_; (try simp only [Act.put, sA, sB, sC])
    refine wpAnyH_take (i := 2) (v := ?_) (by simp only [gA, gB, gC]; rfl) (by kernel_rfl) (by kernel_rfl) (by kernel_rfl) (by exact fun _ _ _ h => h) (Or.inl ⟨by rfl, ?_⟩) (by assumption) ?_; rotate_left; (focus (intro w hSw; (try dsimp only at hSw); go_simp; try with_reducible rfl)); (try simp only [Act.put, sA, sB, sC])
    refine wpAnyH_take (i := 3) (v := ?_) (by simp only [gA, gB, gC]; rfl) (by kernel_rfl) (by kernel_rfl) (by kernel_rfl) (by exact fun _ _ _ h => h) (Or.inl ⟨by rfl, ?_⟩) (by assumption) ?_; rotate_left; (focus (intro w hSw; (try dsimp only at hSw); go_simp; try with_reducible rfl)); (try simp only [Act.put, sA, sB, sC])
    refine wpAnyH_ready (rs := [4, 10]) (by kernel_rfl) (by simp) ?_
    refine AllReadyH.cons (by simp only [gA, gB, gC]; rfl) (fun K hK => ?_) ?_
    · go_simp
      go_at_call 12
      refine (kw7 w0).mono ?_
      rintro e w1 ⟨rfl, hb⟩
      have hS1 := Below.then hS0 hb
      refine hK.out _ _ (hS1) ?_
      clear hHeld hK
      intro hHeld
      clear hb
      (try simp only [Act.put, sA, sB, sC])
      refine wpAnyH_take (i := 5) (v := ?_) (by simp only [gA, gB, gC]; rfl) (by kernel_rfl) (by kernel_rfl) (by kernel_rfl) (by exact fun _ _ _ h => h) (Or.inl ⟨by rfl, ?_⟩) (by assumption) ?_; rotate_left; (focus (intro w hSw; (try dsimp only at hSw); go_simp; try with_reducible rfl)); (try simp only [Act.put, sA, sB, sC])
      refine wpAnyH_ready (rs := [6, 10]) (by kernel_rfl) (by simp) ?_
      refine AllReadyH.cons (by simp only [gA, gB, gC]; rfl) (fun K hK => ?_) ?_
      · go_simp
        go_at_call 17
        refine (kmA w1 hS1).mono ?_
        rintro e w2 ⟨f, rfl, hfn, hfa2, hb, hfo⟩
        have hS2 := Below.then hS1 hb
        refine hK.out _ _ (hS2) ?_
        clear hHeld hK
        intro hHeld
        clear hb
        (try simp only [Act.put, sA, sB, sC])
        refine wpAnyH_take (i := 7) (v := ?_) (by simp only [gA, gB, gC]; rfl) (by kernel_rfl) (by kernel_rfl) (by kernel_rfl) (by exact fun _ _ _ h => h) (Or.inl ⟨by rfl, ?_⟩) (by assumption) ?_; rotate_left; (focus (intro w hSw; (try dsimp only at hSw); go_simp; try with_reducible rfl)); (try simp only [Act.put, sA, sB, sC])
        refine wpAnyH_take (i := 8) (v := ?_) (by simp only [gA, gB, gC]; rfl) (by kernel_rfl) (by kernel_rfl) (by kernel_rfl) (by exact fun _ _ _ h => h) (Or.inl ⟨by rfl, ?_⟩) (by assumption) ?_; rotate_left; (focus (intro w hSw; (try dsimp only at hSw); go_simp; try with_reducible rfl)); (try simp only [Act.put, sA, sB, sC])
        refine wpAnyH_take (i := 9) (v := ?_) (by simp only [gA, gB, gC]; rfl) (by kernel_rfl) (by kernel_rfl) (by kernel_rfl) (by exact fun _ _ _ h => h) (Or.inl ⟨by rfl, ?_⟩) (by assumption) ?_; rotate_left; (focus (intro w hSw; (try dsimp only at hSw); go_simp; try with_reducible rfl)); (try simp only [Act.put, sA, sB, sC])
        refine wpAnyH_ready (rs := [10]) (by kernel_rfl) (by simp) ?_
        refine AllReadyH.cons (by simp only [gA, gB, gC]; rfl) (fun K hK => ?_) AllReadyH.nil
        go_simp
        refine hK.out _ _ (Below.then hS2 (alloc_below _ _)) ?_
        clear hHeld hK
        intro hHeld
        have hn3 := blkl_alloc w2 zN 36
        have hbnZ : Y.heap.size ≤ w2.heap.size := hS2.size
        have hS3 := Below.then hS2 (alloc_below w2 (.cells zN 36))
        have hfa3 := hfa2.below (alloc_below w2 (.cells zN 36))
        have hoff := hfo.off (g := w2.heap.size) (.inr (Nat.le_refl _))
        clear hfo
        generalize hwx : w2.alloc (.cells zN 36) = w3 at *
        clear hwx
        generalize w2.heap.size = bn at *
        (try simp only [Act.put, sA, sB, sC])
        refine wpAnyH_ready (rs := [11]) (by kernel_rfl) (by simp) ?_
        refine AllReadyH.cons (by simp only [gA, gB, gC]; rfl) (fun K hK => ?_) AllReadyH.nil
        obtain ⟨w4, hwz, hthz, hn4, hS4⟩ := put_mid hn3 0 f.cs (by rw [pn_len]; decide) (by decide) hS3 hbnZ
        replace hn4 : BlkL bn f.cs w4 := hn4
        have hfa4 : f.At w4 := by rw [← hwz]; exact hfa3.off hoff 0 f.cs
        refine step_store_part rfl _ _ rfl bn 0 rfl f.cs rfl hthz (by rw [pn_len]; exact hszN) (pn_one f) hwz ?_
        (try simp only [Act.put, sA, sB, sC])
        refine hK.out _ _ (hS4) ?_
        clear hHeld hK
        intro hHeld
        (try simp only [Act.put, sA, sB, sC])
        refine wpAnyH_take (i := 12) (v := ?_) (by simp only [gA, gB, gC]; rfl) (by kernel_rfl) (by kernel_rfl) (by kernel_rfl) (by exact fun _ _ _ h => h) (Or.inl ⟨by rfl, ?_⟩) (by assumption) ?_; rotate_left; (focus (intro w hSw; (try dsimp only at hSw); go_simp; try with_reducible rfl)); (try simp only [Act.put, sA, sB, sC])
        refine wpAnyH_done (by kernel_rfl) ?_ _
        go_wp2_with fail
        go_meet
        exact ⟨rfl, f, bn, rfl, hn4, hfn, hfa4, hS4⟩
      refine AllReadyH.cons (by simp only [gA, gB, gC]; rfl) (fun K hK => ?_) AllReadyH.nil
      go_simp
      refine hK.out _ _ (Below.then hS1 (alloc_below _ _)) ?_
      clear hHeld hK
      intro hHeld
      have hn2 := blkl_alloc w1 zN 36
      have hbnZ : Y.heap.size ≤ w1.heap.size := hS1.size
      have hS2 := Below.then hS1 (alloc_below w1 (.cells zN 36))
      generalize hwx : w1.alloc (.cells zN 36) = w2 at *
      clear hwx
      generalize w1.heap.size = bn at *
      (try simp only [Act.put, sA, sB, sC])
      refine wpAnyH_ready (rs := [6]) (by kernel_rfl) (by simp) ?_
      refine AllReadyH.cons (by simp only [gA, gB, gC]; rfl) (fun K hK => ?_) AllReadyH.nil
      go_simp
      go_at_call 17
      refine (kmA w2 hS2).mono ?_
      rintro e w3 ⟨f, rfl, hfn, hfa3, hb, hfo⟩
      have hoff := hfo.off (g := bn) (.inl hn2.2)
      clear hfo
      have hS3 := Below.then hS2 hb
      have hn3 := stab_blk _ _ _ _ hn2 hb
      refine hK.out _ _ (hS3) ?_
      clear hHeld hK
      intro hHeld
      clear hb
      (try simp only [Act.put, sA, sB, sC])
      refine wpAnyH_take (i := 7) (v := ?_) (by simp only [gA, gB, gC]; rfl) (by kernel_rfl) (by kernel_rfl) (by kernel_rfl) (by exact fun _ _ _ h => h) (Or.inl ⟨by rfl, ?_⟩) (by assumption) ?_; rotate_left; (focus (intro w hSw; (try dsimp only at hSw); go_simp; try with_reducible rfl)); (try simp only [Act.put, sA, sB, sC])
      refine wpAnyH_take (i := 8) (v := ?_) (by simp only [gA, gB, gC]; rfl) (by kernel_rfl) (by kernel_rfl) (by kernel_rfl) (by exact fun _ _ _ h => h) (Or.inl ⟨by rfl, ?_⟩) (by assumption) ?_; rotate_left; (focus (intro w hSw; (try dsimp only at hSw); go_simp; try with_reducible rfl)); (try simp only [Act.put, sA, sB, sC])
      refine wpAnyH_take (i := 9) (v := ?_) (by simp only [gA, gB, gC]; rfl) (by kernel_rfl) (by kernel_rfl) (by kernel_rfl) (by exact fun _ _ _ h => h) (Or.inl ⟨by rfl, ?_⟩) (by assumption) ?_; rotate_left; (focus (intro w hSw; (try dsimp only at hSw); go_simp; try with_reducible rfl)); (try simp only [Act.put, sA, sB, sC])
      refine wpAnyH_ready (rs := [11]) (by kernel_rfl) (by simp) ?_
      refine AllReadyH.cons (by simp only [gA, gB, gC]; rfl) (fun K hK => ?_) AllReadyH.nil
      obtain ⟨w4, hwz, hthz, hn4, hS4⟩ := put_mid hn3 0 f.cs (by rw [pn_len]; decide) (by decide) hS3 hbnZ
      replace hn4 : BlkL bn f.cs w4 := hn4
      have hfa4 : f.At w4 := by rw [← hwz]; exact hfa3.off hoff 0 f.cs
      refine step_store_part rfl _ _ rfl bn 0 rfl f.cs rfl hthz (by rw [pn_len]; exact hszN) (pn_one f) hwz ?_
      (try simp only [Act.put, sA, sB, sC])
      refine hK.out _ _ (hS4) ?_
      clear hHeld hK
      intro hHeld
      (try simp only [Act.put, sA, sB, sC])
      refine wpAnyH_take (i := 12) (v := ?_) (by simp only [gA, gB, gC]; rfl) (by kernel_rfl) (by kernel_rfl) (by kernel_rfl) (by exact fun _ _ _ h => h) (Or.inl ⟨by rfl, ?_⟩) (by assumption) ?_; rotate_left; (focus (intro w hSw; (try dsimp only at hSw); go_simp; try with_reducible rfl)); (try simp only [Act.put, sA, sB, sC])
      refine wpAnyH_done (by kernel_rfl) ?_ _
      go_wp2_with fail
      go_meet
      exact ⟨rfl, f, bn, rfl, hn4, hfn, hfa4, hS4⟩
    refine AllReadyH.cons (by simp only [gA, gB, gC]; rfl) (fun K hK => ?_) AllReadyH.nil
    go_simp
    refine hK.out _ _ (Below.then hS0 (alloc_below _ _)) ?_
    clear hHeld hK
    intro hHeld
    have hn1 := blkl_alloc w0 zN 36
    have hbnZ : Y.heap.size ≤ w0.heap.size := hS0.size
    have hS1 := Below.then hS0 (alloc_below w0 (.cells zN 36))
    generalize hwx : w0.alloc (.cells zN 36) = w1 at *
    clear hwx
    generalize w0.heap.size = bn at *
    (try simp only [Act.put, sA, sB, sC])
    refine wpAnyH_ready (rs := [4]) (by kernel_rfl) (by simp) ?_
    refine AllReadyH.cons (by simp only [gA, gB, gC]; rfl) (fun K hK => ?_) AllReadyH.nil
    go_simp
    go_at_call 12
    refine (kw7 w1).mono ?_
    rintro e w2 ⟨rfl, hb⟩
    have hS2 := Below.then hS1 hb
    have hn2 := stab_blk _ _ _ _ hn1 hb
    refine hK.out _ _ (hS2) ?_
    clear hHeld hK
    intro hHeld
    clear hb
    (try simp only [Act.put, sA, sB, sC])
    refine wpAnyH_take (i := 5) (v := ?_) (by simp only [gA, gB, gC]; rfl) (by kernel_rfl) (by kernel_rfl) (by kernel_rfl) (by exact fun _ _ _ h => h) (Or.inl ⟨by rfl, ?_⟩) (by assumption) ?_; rotate_left; (focus (intro w hSw; (try dsimp only at hSw); go_simp; try with_reducible rfl)); (try simp only [Act.put, sA, sB, sC])
    refine wpAnyH_ready (rs := [6]) (by kernel_rfl) (by simp) ?_
    refine AllReadyH.cons (by simp only [gA, gB, gC]; rfl) (fun K hK => ?_) AllReadyH.nil
    go_simp
    go_at_call 17
    refine (kmA w2 hS2).mono ?_
    rintro e w3 ⟨f, rfl, hfn, hfa3, hb, hfo⟩
    have hoff := hfo.off (g := bn) (.inl hn2.2)
    clear hfo
    have hS3 := Below.then hS2 hb
    have hn3 := stab_blk _ _ _ _ hn2 hb
    refine hK.out _ _ (hS3) ?_
    clear hHeld hK
    intro hHeld
    clear hb
    (try simp only [Act.put, sA, sB, sC])
    refine wpAnyH_take (i := 7) (v := ?_) (by simp only [gA, gB, gC]; rfl) (by kernel_rfl) (by kernel_rfl) (by kernel_rfl) (by exact fun _ _ _ h => h) (Or.inl ⟨by rfl, ?_⟩) (by assumption) ?_; rotate_left; (focus (intro w hSw; (try dsimp only at hSw); go_simp; try with_reducible rfl)); (try simp only [Act.put, sA, sB, sC])
    refine wpAnyH_take (i := 8) (v := ?_) (by simp only [gA, gB, gC]; rfl) (by kernel_rfl) (by kernel_rfl) (by kernel_rfl) (by exact fun _ _ _ h => h) (Or.inl ⟨by rfl, ?_⟩) (by assumption) ?_; rotate_left; (focus (intro w hSw; (try dsimp only at hSw); go_simp; try with_reducible rfl)); (try simp only [Act.put, sA, sB, sC])
    refine wpAnyH_take (i := 9) (v := ?_) (by simp only [gA, gB, gC]; rfl) (by kernel_rfl) (by kernel_rfl) (by kernel_rfl) (by exact fun _ _ _ h => h) (Or.inl ⟨by rfl, ?_⟩) (by assumption) ?_; rotate_left; (focus (intro w hSw; (try dsimp only at hSw); go_simp; try with_reducible rfl)); (try simp only [Act.put, sA, sB, sC])
    refine wpAnyH_ready (rs := [11]) (by kernel_rfl) (by simp) ?_
    refine AllReadyH.cons (by simp only [gA, gB, gC]; rfl) (fun K hK => ?_) AllReadyH.nil
    obtain ⟨w4, hwz, hthz, hn4, hS4⟩ := put_mid hn3 0 f.cs (by rw [pn_len]; decide) (by decide) hS3 hbnZ
    replace hn4 : BlkL bn f.cs w4 := hn4
    have hfa4 : f.At w4 := by rw [← hwz]; exact hfa3.off hoff 0 f.cs
    refine step_store_part rfl _ _ rfl bn 0 rfl f.cs rfl hthz (by rw [pn_len]; exact hszN) (pn_one f) hwz ?_
    (try simp only [Act.put, sA, sB, sC])
    refine hK.out _ _ (hS4) ?_
    clear hHeld hK
    intro hHeld
    (try simp only [Act.put, sA, sB, sC])
    refine wpAnyH_take (i := 12) (v := ?_) (by simp only [gA, gB, gC]; rfl) (by kernel_rfl) (by kernel_rfl) (by kernel_rfl) (by exact fun _ _ _ h => h) (Or.inl ⟨by rfl, ?_⟩) (by assumption) ?_; rotate_left; (focus (intro w hSw; (try dsimp only at hSw); go_simp; try with_reducible rfl)); (try simp only [Act.put, sA, sB, sC])
    refine wpAnyH_done (by kernel_rfl) ?_ _
    go_wp2_with fail
    go_meet
    exact ⟨rfl, f, bn, rfl, hn4, hfn, hfa4, hS4⟩
  case rest =>
  obtain ⟨rfl, f1, c1, rfl, hbf1, hnf1, haf1, hd⟩ := hcut
  obtain ⟨Y2, hY2⟩ : ∃ Y2, Y2 = wc := ⟨_, rfl⟩
  subst hY2
  replace hXc := Below.then hXc hd
  replace hbsY := stab_blk _ _ _ _ hbsY hd
  replace kmB := fun W (q : Below Y2.heap.size Y2 W) => kmB W (Below.then hd q)
  replace kcA := fun W (q : Below Y2.heap.size Y2 W) => kcA W (Below.then hd q)
  replace kcB := fun W (q : Below Y2.heap.size Y2 W) => kcB W (Below.then hd q)
  clear kmA hd
  go_upto_region 23 with fail
  go_cut [25, 26] from 99 to 169 (fun s25 s26 wc => s26 = .int .i64 E ∧ ∃ (f : PN) (bn : Nat), s25 = .pointer (some ⟨bn, 0, none⟩) ∧ BlkL bn f.cs wc ∧ f.n = TM ∧ f.At wc ∧ Below Y2.heap.size Y2 wc)
  case first =>
    have hS0 : Below Y2.heap.size Y2 Y2.drew := (Below.refl _ _).drew
    refine wp_region_held_drew (S := (fun W => Below Y2.heap.size Y2 W)) (by kernel_rfl) (by exact hS0) ?_
    intro hHeld
    generalize Y2.drew = w0 at *
    refine wpAnyH_take (i := 0) (v := ?_) (by simp only [gA, gB, gC]; rfl) (by kernel_rfl) (by kernel_rfl) (by kernel_rfl) (by exact fun _ _ _ h => h) (Or.inl ⟨by rfl, ?_⟩) (by assumption) ?_; rotate_left; (focus (intro w hSw; (try dsimp only at hSw); go_simp; try with_reducible rfl)); (try simp only [Act.put, sA, sB, sC])
    refine wpAnyH_take (i := 1) (v := _) (by simp only [gA, gB, gC]; rfl) (by kernel_rfl) (by kernel_rfl) (by kernel_rfl) (by exact fun _ _ _ h => h) (yields_row (by rfl) _ rfl bs rfl (sbL u t) (fun _ q => (stab_blk _ _ _ _ hbsY q).range) hundM rfl hsm) (by assumption) ?_; (try simp only [Act.put, sA, sB, sC])
    refine wpAnyH_take (i := 2) (v := ?_) (by simp only [gA, gB, gC]; rfl) (by kernel_rfl) (by kernel_rfl) (by kernel_rfl) (by exact fun _ _ _ h => h) (Or.inl ⟨by rfl, ?_⟩) (by assumption) ?_; rotate_left; (focus (intro w hSw; (try dsimp only at hSw); go_simp; try with_reducible rfl)); (try simp only [Act.put, sA, sB, sC])
    refine wpAnyH_take (i := 3) (v := ?_) (by simp only [gA, gB, gC]; rfl) (by kernel_rfl) (by kernel_rfl) (by kernel_rfl) (by exact fun _ _ _ h => h) (Or.inl ⟨by rfl, ?_⟩) (by assumption) ?_; rotate_left; (focus (intro w hSw; (try dsimp only at hSw); go_simp; try with_reducible rfl)); (try simp only [Act.put, sA, sB, sC])
    refine wpAnyH_ready (rs := [4, 10]) (by kernel_rfl) (by simp) ?_
    refine AllReadyH.cons (by simp only [gA, gB, gC]; rfl) (fun K hK => ?_) ?_
    · go_simp
      go_at_call 12
      refine (kw7 w0).mono ?_
      rintro e w1 ⟨rfl, hb⟩
      have hS1 := Below.then hS0 hb
      refine hK.out _ _ (hS1) ?_
      clear hHeld hK
      intro hHeld
      clear hb
      (try simp only [Act.put, sA, sB, sC])
      refine wpAnyH_take (i := 5) (v := ?_) (by simp only [gA, gB, gC]; rfl) (by kernel_rfl) (by kernel_rfl) (by kernel_rfl) (by exact fun _ _ _ h => h) (Or.inl ⟨by rfl, ?_⟩) (by assumption) ?_; rotate_left; (focus (intro w hSw; (try dsimp only at hSw); go_simp; try with_reducible rfl)); (try simp only [Act.put, sA, sB, sC])
      refine wpAnyH_ready (rs := [6, 10]) (by kernel_rfl) (by simp) ?_
      refine AllReadyH.cons (by simp only [gA, gB, gC]; rfl) (fun K hK => ?_) ?_
      · go_simp
        go_at_call 17
        refine (kmB w1 hS1).mono ?_
        rintro e w2 ⟨f, rfl, hfn, hfa2, hb, hfo⟩
        have hS2 := Below.then hS1 hb
        refine hK.out _ _ (hS2) ?_
        clear hHeld hK
        intro hHeld
        clear hb
        (try simp only [Act.put, sA, sB, sC])
        refine wpAnyH_take (i := 7) (v := ?_) (by simp only [gA, gB, gC]; rfl) (by kernel_rfl) (by kernel_rfl) (by kernel_rfl) (by exact fun _ _ _ h => h) (Or.inl ⟨by rfl, ?_⟩) (by assumption) ?_; rotate_left; (focus (intro w hSw; (try dsimp only at hSw); go_simp; try with_reducible rfl)); (try simp only [Act.put, sA, sB, sC])
        refine wpAnyH_take (i := 8) (v := ?_) (by simp only [gA, gB, gC]; rfl) (by kernel_rfl) (by kernel_rfl) (by kernel_rfl) (by exact fun _ _ _ h => h) (Or.inl ⟨by rfl, ?_⟩) (by assumption) ?_; rotate_left; (focus (intro w hSw; (try dsimp only at hSw); go_simp; try with_reducible rfl)); (try simp only [Act.put, sA, sB, sC])
        refine wpAnyH_take (i := 9) (v := ?_) (by simp only [gA, gB, gC]; rfl) (by kernel_rfl) (by kernel_rfl) (by kernel_rfl) (by exact fun _ _ _ h => h) (Or.inl ⟨by rfl, ?_⟩) (by assumption) ?_; rotate_left; (focus (intro w hSw; (try dsimp only at hSw); go_simp; try with_reducible rfl)); (try simp only [Act.put, sA, sB, sC])
        refine wpAnyH_ready (rs := [10]) (by kernel_rfl) (by simp) ?_
        refine AllReadyH.cons (by simp only [gA, gB, gC]; rfl) (fun K hK => ?_) AllReadyH.nil
        go_simp
        refine hK.out _ _ (Below.then hS2 (alloc_below _ _)) ?_
        clear hHeld hK
        intro hHeld
        have hn3 := blkl_alloc w2 zN 36
        have hbnZ : Y2.heap.size ≤ w2.heap.size := hS2.size
        have hS3 := Below.then hS2 (alloc_below w2 (.cells zN 36))
        have hfa3 := hfa2.below (alloc_below w2 (.cells zN 36))
        have hoff := hfo.off (g := w2.heap.size) (.inr (Nat.le_refl _))
        clear hfo
        generalize hwx : w2.alloc (.cells zN 36) = w3 at *
        clear hwx
        generalize w2.heap.size = bn at *
        (try simp only [Act.put, sA, sB, sC])
        refine wpAnyH_ready (rs := [11]) (by kernel_rfl) (by simp) ?_
        refine AllReadyH.cons (by simp only [gA, gB, gC]; rfl) (fun K hK => ?_) AllReadyH.nil
        obtain ⟨w4, hwz, hthz, hn4, hS4⟩ := put_mid hn3 0 f.cs (by rw [pn_len]; decide) (by decide) hS3 hbnZ
        replace hn4 : BlkL bn f.cs w4 := hn4
        have hfa4 : f.At w4 := by rw [← hwz]; exact hfa3.off hoff 0 f.cs
        refine step_store_part rfl _ _ rfl bn 0 rfl f.cs rfl hthz (by rw [pn_len]; exact hszN) (pn_one f) hwz ?_
        (try simp only [Act.put, sA, sB, sC])
        refine hK.out _ _ (hS4) ?_
        clear hHeld hK
        intro hHeld
        (try simp only [Act.put, sA, sB, sC])
        refine wpAnyH_take (i := 12) (v := ?_) (by simp only [gA, gB, gC]; rfl) (by kernel_rfl) (by kernel_rfl) (by kernel_rfl) (by exact fun _ _ _ h => h) (Or.inl ⟨by rfl, ?_⟩) (by assumption) ?_; rotate_left; (focus (intro w hSw; (try dsimp only at hSw); go_simp; try with_reducible rfl)); (try simp only [Act.put, sA, sB, sC])
        refine wpAnyH_done (by kernel_rfl) ?_ _
        go_wp2_with fail
        go_meet
        exact ⟨rfl, f, bn, rfl, hn4, hfn, hfa4, hS4⟩
      refine AllReadyH.cons (by simp only [gA, gB, gC]; rfl) (fun K hK => ?_) AllReadyH.nil
      go_simp
      refine hK.out _ _ (Below.then hS1 (alloc_below _ _)) ?_
      clear hHeld hK
      intro hHeld
      have hn2 := blkl_alloc w1 zN 36
      have hbnZ : Y2.heap.size ≤ w1.heap.size := hS1.size
      have hS2 := Below.then hS1 (alloc_below w1 (.cells zN 36))
      generalize hwx : w1.alloc (.cells zN 36) = w2 at *
      clear hwx
      generalize w1.heap.size = bn at *
      (try simp only [Act.put, sA, sB, sC])
      refine wpAnyH_ready (rs := [6]) (by kernel_rfl) (by simp) ?_
      refine AllReadyH.cons (by simp only [gA, gB, gC]; rfl) (fun K hK => ?_) AllReadyH.nil
      go_simp
      go_at_call 17
      refine (kmB w2 hS2).mono ?_
      rintro e w3 ⟨f, rfl, hfn, hfa3, hb, hfo⟩
      have hoff := hfo.off (g := bn) (.inl hn2.2)
      clear hfo
      have hS3 := Below.then hS2 hb
      have hn3 := stab_blk _ _ _ _ hn2 hb
      refine hK.out _ _ (hS3) ?_
      clear hHeld hK
      intro hHeld
      clear hb
      (try simp only [Act.put, sA, sB, sC])
      refine wpAnyH_take (i := 7) (v := ?_) (by simp only [gA, gB, gC]; rfl) (by kernel_rfl) (by kernel_rfl) (by kernel_rfl) (by exact fun _ _ _ h => h) (Or.inl ⟨by rfl, ?_⟩) (by assumption) ?_; rotate_left; (focus (intro w hSw; (try dsimp only at hSw); go_simp; try with_reducible rfl)); (try simp only [Act.put, sA, sB, sC])
      refine wpAnyH_take (i := 8) (v := ?_) (by simp only [gA, gB, gC]; rfl) (by kernel_rfl) (by kernel_rfl) (by kernel_rfl) (by exact fun _ _ _ h => h) (Or.inl ⟨by rfl, ?_⟩) (by assumption) ?_; rotate_left; (focus (intro w hSw; (try dsimp only at hSw); go_simp; try with_reducible rfl)); (try simp only [Act.put, sA, sB, sC])
      refine wpAnyH_take (i := 9) (v := ?_) (by simp only [gA, gB, gC]; rfl) (by kernel_rfl) (by kernel_rfl) (by kernel_rfl) (by exact fun _ _ _ h => h) (Or.inl ⟨by rfl, ?_⟩) (by assumption) ?_; rotate_left; (focus (intro w hSw; (try dsimp only at hSw); go_simp; try with_reducible rfl)); (try simp only [Act.put, sA, sB, sC])
      refine wpAnyH_ready (rs := [11]) (by kernel_rfl) (by simp) ?_
      refine AllReadyH.cons (by simp only [gA, gB, gC]; rfl) (fun K hK => ?_) AllReadyH.nil
      obtain ⟨w4, hwz, hthz, hn4, hS4⟩ := put_mid hn3 0 f.cs (by rw [pn_len]; decide) (by decide) hS3 hbnZ
      replace hn4 : BlkL bn f.cs w4 := hn4
      have hfa4 : f.At w4 := by rw [← hwz]; exact hfa3.off hoff 0 f.cs
      refine step_store_part rfl _ _ rfl bn 0 rfl f.cs rfl hthz (by rw [pn_len]; exact hszN) (pn_one f) hwz ?_
      (try simp only [Act.put, sA, sB, sC])
      refine hK.out _ _ (hS4) ?_
      clear hHeld hK
      intro hHeld
      (try simp only [Act.put, sA, sB, sC])
      refine wpAnyH_take (i := 12) (v := ?_) (by simp only [gA, gB, gC]; rfl) (by kernel_rfl) (by kernel_rfl) (by kernel_rfl) (by exact fun _ _ _ h => h) (Or.inl ⟨by rfl, ?_⟩) (by assumption) ?_; rotate_left; (focus (intro w hSw; (try dsimp only at hSw); go_simp; try with_reducible rfl)); (try simp only [Act.put, sA, sB, sC])
      refine wpAnyH_done (by kernel_rfl) ?_ _
      go_wp2_with fail
      go_meet
      exact ⟨rfl, f, bn, rfl, hn4, hfn, hfa4, hS4⟩
    refine AllReadyH.cons (by simp only [gA, gB, gC]; rfl) (fun K hK => ?_) AllReadyH.nil
    go_simp
    refine hK.out _ _ (Below.then hS0 (alloc_below _ _)) ?_
    clear hHeld hK
    intro hHeld
    have hn1 := blkl_alloc w0 zN 36
    have hbnZ : Y2.heap.size ≤ w0.heap.size := hS0.size
    have hS1 := Below.then hS0 (alloc_below w0 (.cells zN 36))
    generalize hwx : w0.alloc (.cells zN 36) = w1 at *
    clear hwx
    generalize w0.heap.size = bn at *
    (try simp only [Act.put, sA, sB, sC])
    refine wpAnyH_ready (rs := [4]) (by kernel_rfl) (by simp) ?_
    refine AllReadyH.cons (by simp only [gA, gB, gC]; rfl) (fun K hK => ?_) AllReadyH.nil
    go_simp
    go_at_call 12
    refine (kw7 w1).mono ?_
    rintro e w2 ⟨rfl, hb⟩
    have hS2 := Below.then hS1 hb
    have hn2 := stab_blk _ _ _ _ hn1 hb
    refine hK.out _ _ (hS2) ?_
    clear hHeld hK
    intro hHeld
    clear hb
    (try simp only [Act.put, sA, sB, sC])
    refine wpAnyH_take (i := 5) (v := ?_) (by simp only [gA, gB, gC]; rfl) (by kernel_rfl) (by kernel_rfl) (by kernel_rfl) (by exact fun _ _ _ h => h) (Or.inl ⟨by rfl, ?_⟩) (by assumption) ?_; rotate_left; (focus (intro w hSw; (try dsimp only at hSw); go_simp; try with_reducible rfl)); (try simp only [Act.put, sA, sB, sC])
    refine wpAnyH_ready (rs := [6]) (by kernel_rfl) (by simp) ?_
    refine AllReadyH.cons (by simp only [gA, gB, gC]; rfl) (fun K hK => ?_) AllReadyH.nil
    go_simp
    go_at_call 17
    refine (kmB w2 hS2).mono ?_
    rintro e w3 ⟨f, rfl, hfn, hfa3, hb, hfo⟩
    have hoff := hfo.off (g := bn) (.inl hn2.2)
    clear hfo
    have hS3 := Below.then hS2 hb
    have hn3 := stab_blk _ _ _ _ hn2 hb
    refine hK.out _ _ (hS3) ?_
    clear hHeld hK
    intro hHeld
    clear hb
    (try simp only [Act.put, sA, sB, sC])
    refine wpAnyH_take (i := 7) (v := ?_) (by simp only [gA, gB, gC]; rfl) (by kernel_rfl) (by kernel_rfl) (by kernel_rfl) (by exact fun _ _ _ h => h) (Or.inl ⟨by rfl, ?_⟩) (by assumption) ?_; rotate_left; (focus (intro w hSw; (try dsimp only at hSw); go_simp; try with_reducible rfl)); (try simp only [Act.put, sA, sB, sC])
    refine wpAnyH_take (i := 8) (v := ?_) (by simp only [gA, gB, gC]; rfl) (by kernel_rfl) (by kernel_rfl) (by kernel_rfl) (by exact fun _ _ _ h => h) (Or.inl ⟨by rfl, ?_⟩) (by assumption) ?_; rotate_left; (focus (intro w hSw; (try dsimp only at hSw); go_simp; try with_reducible rfl)); (try simp only [Act.put, sA, sB, sC])
    refine wpAnyH_take (i := 9) (v := ?_) (by simp only [gA, gB, gC]; rfl) (by kernel_rfl) (by kernel_rfl) (by kernel_rfl) (by exact fun _ _ _ h => h) (Or.inl ⟨by rfl, ?_⟩) (by assumption) ?_; rotate_left; (focus (intro w hSw; (try dsimp only at hSw); go_simp; try with_reducible rfl)); (try simp only [Act.put, sA, sB, sC])
    refine wpAnyH_ready (rs := [11]) (by kernel_rfl) (by simp) ?_
    refine AllReadyH.cons (by simp only [gA, gB, gC]; rfl) (fun K hK => ?_) AllReadyH.nil
    obtain ⟨w4, hwz, hthz, hn4, hS4⟩ := put_mid hn3 0 f.cs (by rw [pn_len]; decide) (by decide) hS3 hbnZ
    replace hn4 : BlkL bn f.cs w4 := hn4
    have hfa4 : f.At w4 := by rw [← hwz]; exact hfa3.off hoff 0 f.cs
    refine step_store_part rfl _ _ rfl bn 0 rfl f.cs rfl hthz (by rw [pn_len]; exact hszN) (pn_one f) hwz ?_
    (try simp only [Act.put, sA, sB, sC])
    refine hK.out _ _ (hS4) ?_
    clear hHeld hK
    intro hHeld
    (try simp only [Act.put, sA, sB, sC])
    refine wpAnyH_take (i := 12) (v := ?_) (by simp only [gA, gB, gC]; rfl) (by kernel_rfl) (by kernel_rfl) (by kernel_rfl) (by exact fun _ _ _ h => h) (Or.inl ⟨by rfl, ?_⟩) (by assumption) ?_; rotate_left; (focus (intro w hSw; (try dsimp only at hSw); go_simp; try with_reducible rfl)); (try simp only [Act.put, sA, sB, sC])
    refine wpAnyH_done (by kernel_rfl) ?_ _
    go_wp2_with fail
    go_meet
    exact ⟨rfl, f, bn, rfl, hn4, hfn, hfa4, hS4⟩
  case rest =>
  obtain ⟨rfl, f2, c2, rfl, hbf2, hnf2, haf2, hd⟩ := hcut
  obtain ⟨Y3, hY3⟩ : ∃ Y3, Y3 = wc := ⟨_, rfl⟩
  subst hY3
  replace hXc := Below.then hXc hd
  replace hbsY := stab_blk _ _ _ _ hbsY hd
  replace hbf1 := stab_blk _ _ _ _ hbf1 hd
  replace haf1 := haf1.below hd
  replace kcA := kcA Y3 hd
  replace kcB := fun W (q : Below Y3.heap.size Y3 W) => kcB W (Below.then hd q)
  clear kmB hd
  have hrs := hbsY.range
  go_wp2_with (first | (refine wpList_load_row rfl _ rfl bs rfl (sbL u t) hrs hundM rfl hsm ?_) | fail)
  refine kcA.mono ?_
  rintro e V1 ⟨f3, rfl, hnf3, haf3, hb3, -⟩
  obtain ⟨U1, hU1, hth1, hbf3, hc3⟩ := put_new V1 zN 36 f3.cs (by rw [pn_len]; rfl) (by rw [pn_len]; omega)
  have hd := Below.then hb3 hc3
  replace hXc := Below.then hXc hd
  replace hbsY := stab_blk _ _ _ _ hbsY hd
  replace hbf1 := stab_blk _ _ _ _ hbf1 hd
  replace haf1 := haf1.below hd
  replace hbf2 := stab_blk _ _ _ _ hbf2 hd
  replace haf2 := haf2.below hd
  replace haf3 := haf3.below hc3
  replace kcB := kcB U1 hd
  clear hrs kcA hb3 hc3 hd
  go_upto_region 25 with (first | (refine wpList_store_row rfl _ _ rfl V1.heap.size rfl f3.cs rfl hth1 (by rw [pn_len]; exact hszN) (pn_one f3) hU1 ?_) | fail)
  generalize V1.heap.size = c3 at *
  clear hth1 hU1
  have hrs := hbsY.range
  go_wp2_with (first | (refine wpList_load_row rfl _ rfl bs rfl (sbL u t) hrs hundM rfl hsm ?_) | fail)
  refine kcB.mono ?_
  rintro e V2 ⟨f4, rfl, hnf4, haf4, hb4, -⟩
  obtain ⟨U2, hU2, hth2, hbf4, hc4⟩ := put_new V2 zN 36 f4.cs (by rw [pn_len]; rfl) (by rw [pn_len]; omega)
  have hd := Below.then hb4 hc4
  replace hXc := Below.then hXc hd
  replace hbf1 := stab_blk _ _ _ _ hbf1 hd
  replace haf1 := haf1.below hd
  replace hbf2 := stab_blk _ _ _ _ hbf2 hd
  replace haf2 := haf2.below hd
  replace hbf3 := stab_blk _ _ _ _ hbf3 hd
  replace haf3 := haf3.below hd
  replace haf4 := haf4.below hc4
  clear hrs kcB hb4 hc4 hd hbsY
  go_upto_region 26 with (first | (refine wpList_store_row rfl _ _ rfl V2.heap.size rfl f4.cs rfl hth2 (by rw [pn_len]; exact hszN) (pn_one f4) hU2 ?_) | fail)
  generalize V2.heap.size = c4 at *
  clear hth2 hU2
  have hfewf1 := hfewM
  have hfewf3 := hfewC
  have hs1 := rsame_any f1.n f2.n f1.aa f1.ca f1.wa f1.cw f2.aa f2.ca f2.wa f2.cw (by rw [hnf1]; exact hfewf1.1) (by rw [hnf1]; exact hfewf1.2) U2 haf1.g haf2.g haf1.w haf2.w
  rw [show nodEq f1.n f2.n = true from nodEq_iff.2 (hnf1.trans hnf2.symm)] at hs1
  replace hs1 : Calls Tryd.prog 23 #[.agg f1.cs.toArray, .agg f2.cs.toArray] U2 _ := hs1
  have hri := hbf1.range
  have hrj := hbf2.range
  have hzi : (Tryd.prog.info? 36).map (·.size) = some f1.cs.length := by rw [pn_len]; exact hszN
  have hzj : (Tryd.prog.info? 36).map (·.size) = some f2.cs.length := by rw [pn_len]; exact hszN
  go_wp2_with (first | (refine wpList_load_rowg (by rfl) _ rfl c1 rfl f1.cs hri hund rfl hzi ?_) | (refine wpList_load_rowg (by rfl) _ rfl c2 rfl f2.cs hrj hund rfl hzj ?_) | fail)
  refine hs1.mono ?_
  rintro e Y5 ⟨rfl, hSb⟩
  clear hri hrj hzi hzj hs1
  replace hXc := Below.then hXc hSb
  replace hbf3 := stab_blk _ _ _ _ hbf3 hSb
  replace haf3 := haf3.below hSb
  replace hbf4 := stab_blk _ _ _ _ hbf4 hSb
  replace haf4 := haf4.below hSb
  clear hSb hbf1 haf1 hbf2 haf2
  have hs2 := rsame_any f3.n f4.n f3.aa f3.ca f3.wa f3.cw f4.aa f4.ca f4.wa f4.cw (by rw [hnf3]; exact hfewf3.1) (by rw [hnf3]; exact hfewf3.2) Y5 haf3.g haf4.g haf3.w haf4.w
  rw [show nodEq f3.n f4.n = true from nodEq_iff.2 (hnf3.trans hnf4.symm)] at hs2
  replace hs2 : Calls Tryd.prog 23 #[.agg f3.cs.toArray, .agg f4.cs.toArray] Y5 _ := hs2
  have hri := hbf3.range
  have hrj := hbf4.range
  have hzi : (Tryd.prog.info? 36).map (·.size) = some f3.cs.length := by rw [pn_len]; exact hszN
  have hzj : (Tryd.prog.info? 36).map (·.size) = some f4.cs.length := by rw [pn_len]; exact hszN
  go_wp2_with (first | (refine wpList_load_rowg (by rfl) _ rfl c3 rfl f3.cs hri hund rfl hzi ?_) | (refine wpList_load_rowg (by rfl) _ rfl c4 rfl f4.cs hrj hund rfl hzj ?_) | fail)
  refine hs2.mono ?_
  rintro e Y6 ⟨rfl, hSb⟩
  clear hri hrj hzi hzj hs2
  replace hXc := Below.then hXc hSb
  go_wp2_with fail
  exact ⟨⟨j + 1, by omega, by simp, hXc⟩, by simp [Go.RowKit.intOf]; omega⟩
end Go.Proofs.YtapgjdmnlkedgaaDoor
