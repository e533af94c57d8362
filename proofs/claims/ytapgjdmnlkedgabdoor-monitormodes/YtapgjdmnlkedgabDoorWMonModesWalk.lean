/-
  P1302: modes that are none are refused, whatever the path: the law's walk. Written by mk_monmodes.py.
-/
import Derived.Test.YtapgjdmnlkedgabDoorPt3
namespace Go.Proofs.YtapgjdmnlkedgabDoor
open Go.RowKit
set_option maxRecDepth 8000
set_option linter.unusedSimpArgs false
set_option linter.unusedVariables false

set_option maxRecDepth 20000 in
set_option maxHeartbeats 8000000 in
theorem monitorModes_walk (K : MonOk) (ta : Option Addr) (ct : Nat) (ts : List Lab) (ma : Option Addr) (mc : Nat) (ms : List PM) (pick mode : Int) (w : World) (hlr : RowAt 4 lrow w ta ts) (hmr : RowM w ma ms) (hV : MaxV w) :
    Calls Tryd.prog 4 #[.slice ta ts.length ct, .slice ma ms.length mc, .int .i64 pick, .int .i64 mode] w fun e w' => e = .returned (.bool true) ∧ Below w.heap.size w w' := by
  have hund := Tryd.underlying34
  have hundL := Tryd.underlying28
  have hundM := Tryd.underlying38
  have hszN : (Tryd.prog.info? 34).map (·.size) = some 16 := by kernel_rfl
  have hsl : (Tryd.prog.info? 28).map (·.size) = some 4 := by kernel_rfl
  have hsm : (Tryd.prog.info? 38).map (·.size) = some 5 := by kernel_rfl
  have kg := fun W (q1 : RowAt 4 lrow W ta ts) (q2 : RowM W ma ms) => growB_any ta ct ts ma mc ms W q1 q2
  obtain ⟨nt, hnt⟩ : ∃ nt, ts.length = nt := ⟨_, rfl⟩
  obtain ⟨nm, hnm⟩ : ∃ nm, ms.length = nm := ⟨_, rfl⟩
  rw [hnt, hnm] at kg ⊢
  clear hnt hnm
  go_enter Tryd.func4, Tryd.ntmps4
  go_wp2_with fail
  refine (mknown_any K w hV).mono ?_
  rintro e W1 ⟨rfl, hB1⟩
  go_wp2_with fail
  refine (kg W1 (hlr.below lab_ok.len hB1) (hmr.below hB1)).mono ?_
  rintro e W2 ⟨v, l, rfl, ho, hat, hnm, hB2, hA⟩
  obtain ⟨a, c, rfl, hG⟩ := gt_of ho hat hnm hA
  have hB02 := Below.then hB1 hB2
  have hlen := hG.len
  have hpos := hG.pos
  clear kg ho hat hnm hA hB2 hlr hmr
  generalize W1.heap.size = B1 at *
  obtain ⟨n, hn⟩ : ∃ n, l.length = n := ⟨_, rfl⟩
  rw [hn] at hlen hpos ⊢
  replace hn : Aside (l.length = n) := hn
  have hmod : ∀ q : Int, ∃ j : Nat, q % (n : Int) = (j : Int) ∧ j < n := fun q => ⟨(q % (n : Int)).toNat, by have := Int.emod_nonneg q (show (n : Int) ≠ 0 by omega); omega, by have h1 := Int.emod_nonneg q (show (n : Int) ≠ 0 by omega); have h2 := Int.emod_lt_of_pos q (show 0 < (n : Int) by omega); omega⟩
  go_wp2_with fail
  refine (w13_any pick (n : Int) (by omega) (by omega) W2).mono ?_
  rintro e w' ⟨rfl, hw'⟩
  replace hw' := hw'.symm
  subst hw'
  obtain ⟨k, hk, hkn⟩ := hmod pick
  rw [hk]
  clear hk hmod
  obtain ⟨x, hx⟩ : ∃ x, l[k]? = some x := ⟨_, List.getElem?_eq_getElem (by rw [hn.out]; exact hkn)⟩
  have hxm := List.mem_of_getElem? hx
  obtain ⟨y, rfl⟩ := hG.row.some_ hx
  have hcx := hG.row.r.at pn_len hx
  obtain ⟨W3, hW3, hth3, hbn, hB3⟩ := put_new W2 zN 34 x.cs rfl (by rw [pn_len]; omega)
  have hszx : (Tryd.prog.info? 34).map (·.size) = some x.cs.length := by rw [pn_len]; exact hszN
  have hG3 := hG.below hB3
  have hB03 := Below.then hB02 hB3
  clear hx
  go_upto_region 5 with (first | (refine wpList_load_at rfl _ rfl (y.add (k * 16)) rfl x.cs hcx hund rfl hszx ?_) | (refine wpList_store_row rfl _ _ rfl W2.heap.size rfl x.cs rfl hth3 hszx (pn_one x) hW3 ?_) | fail)
  generalize W2.heap.size = bn at *
  clear hcx hth3 hW3 hG hB02 hB3
  have hcl := nd_lab hbn
  have hGt := hG3.lab hxm
  have hown := see_own hG3.tree (hG3.mem hxm) hGt (rov_self hGt)
  have hmo := fun h1 h7 => may_own hG3.tree (hG3.mem hxm) ⟨#[97]⟩ (m := mode) h1 h7
  obtain ⟨t, ht⟩ : ∃ t, x.n.label = t := ⟨_, rfl⟩
  rw [ht] at hcl hGt hown hmo
  have hbs := blkl_alloc W3 (sbL ⟨#[97]⟩ t).toArray 38
  have hB5 := alloc_below W3 (.cells (sbL ⟨#[97]⟩ t).toArray 38)
  replace hbs : BlkL W3.heap.size (sbL ⟨#[97]⟩ t) (W3.alloc (.cells (sbL ⟨#[97]⟩ t).toArray 38)) := hbs
  obtain ⟨W5, hW5⟩ : ∃ W5, W3.alloc (.cells (sbL ⟨#[97]⟩ t).toArray 38) = W5 := ⟨_, rfl⟩
  rw [hW5] at hbs hB5
  have hG := hG3.below hB5
  have hB := Below.then hB03 hB5
  replace hbn := stab_blk _ _ _ _ hbn hB5
  clear ht hG3 hB03 hB5
  go_upto_region 6 with (first | (refine wpList_load_at rfl _ rfl ⟨bn, 2, none⟩ rfl (labM t) hcl hundL rfl hsl ?_) | fail)
  (try rw [hW5])
  generalize W3.heap.size = bs at *
  clear hW5 hcl
  have hF := hG.fine
  have hps := hG.path hxm
  have hfx := find_mem hG.tree.ord (hG.mem hxm)
  have hfew := told_few hF x.n.path 0
  have hz20 : toldN (namesP l) x.n.path 0 = x.n := by unfold toldN; rw [if_pos rfl, hfx]; rfl
  rw [hz20] at hfew
  have km := fun W (q : GT B1 W (some y) c l ts (ms.map (·.m))) (q2 : MaxV W) => K.may (some y) c l ⟨#[97]⟩ t x.n.path mode hF hGt (by omega) W q.row q2
  have kse := fun W (q : GT B1 W (some y) c l ts (ms.map (·.m))) (q2 : MaxV W) => K.see (some y) c l ⟨#[97]⟩ t x.n.path hF hGt (by omega) W q.row q2
  rw [hown] at kse
  rw [hz20] at kse
  rw [hn.out] at km kse
  have hme : (mode < 1 ∨ 7 < mode) → mayE (namesP l) ⟨#[97]⟩ t x.n.path mode = 1 := fun q => by unfold mayE; rw [if_pos q]
  obtain ⟨E, hE⟩ : ∃ E, mayE (namesP l) ⟨#[97]⟩ t x.n.path mode = E := ⟨_, rfl⟩
  rw [hE] at km hme hmo
  have hxa := hG.row.p x hxm
  clear hE hown hz20 hfx
  have hrs := hbs.range
  have hz0 := (hbn.1 0 _ rfl).1
  go_wp2_with (first | (refine wpList_load_row rfl _ rfl bs rfl (sbL ⟨#[97]⟩ t) hrs hundM rfl hsm ?_) | fail)
  refine (km _ hG (hV.below hB)).mono ?_
  rintro e V1 ⟨f1, rfl, hf1, ha1, hb1⟩
  obtain ⟨U1, hU1, hth1, hbk1, hc1⟩ := put_new V1 zN 34 f1.cs (by rw [pn_len]; rfl) (by rw [pn_len]; omega)
  have hd1 := Below.then hb1 hc1
  replace hG := hG.below hd1
  replace hbs := stab_blk _ _ _ _ hbs hd1
  replace hbn := stab_blk _ _ _ _ hbn hd1
  replace hB := Below.then hB hd1
  replace ha1 := ha1.below hc1
  replace hxa := hxa.below hd1
  clear hrs hz0 hb1 hc1 hd1 km
  go_upto_region 7 with (first | (refine wpList_store_row rfl _ _ rfl V1.heap.size rfl f1.cs rfl hth1 (by rw [pn_len]; exact hszN) (pn_one f1) hU1 ?_) | fail)
  generalize V1.heap.size = c1 at *
  clear hth1 hU1
  have hrs := hbs.range
  have hz0 := (hbn.1 0 _ rfl).1
  go_wp2_with (first | (refine wpList_load_row rfl _ rfl bs rfl (sbL ⟨#[97]⟩ t) hrs hundM rfl hsm ?_) | fail)
  refine (kse _ hG (hV.below hB)).mono ?_
  rintro e V2 ⟨f2, rfl, hz2, ha2, hb1⟩
  obtain ⟨U2, hU2, hth2, hbk2, hc1⟩ := put_new V2 zN 34 f2.cs (by rw [pn_len]; rfl) (by rw [pn_len]; omega)
  have hd1 := Below.then hb1 hc1
  replace hbn := stab_blk _ _ _ _ hbn hd1
  replace hbk1 := stab_blk _ _ _ _ hbk1 hd1
  replace hB := Below.then hB hd1
  replace ha1 := ha1.below hd1
  replace ha2 := ha2.below hc1
  replace hxa := hxa.below hd1
  clear hrs hz0 hb1 hc1 hd1 kse hG hbs
  go_upto_region 8 with (first | (refine wpList_store_row rfl _ _ rfl V2.heap.size rfl f2.cs rfl hth2 (by rw [pn_len]; exact hszN) (pn_one f2) hU2 ?_) | fail)
  generalize V2.heap.size = c2 at *
  clear hth2 hU2
  by_cases hout : mode < 1 ∨ 7 < mode
  · obtain rfl : E = 1 := hme hout
    have hz1 : f1.n = zeroP.n := by rw [hf1]; rfl
    by_cases hm1 : mode < 1
    · go_upto_region 9 with fail
      have hs0 := rsame_any f1.n zeroP.n f1.aa f1.ca f1.wa f1.cw zeroP.aa zeroP.ca zeroP.wa zeroP.cw (by rw [hz1]; decide) (by rw [hz1]; decide) U2 ha1.g (zero_atM U2).g ha1.w (zero_atM U2).w
      rw [show nodEq f1.n zeroP.n = true from nodEq_iff.2 (hz1)] at hs0
      replace hs0 : Calls Tryd.prog 14 #[.agg f1.cs.toArray, .agg zeroP.cs.toArray] U2 _ := hs0
      have hri := hbk1.range
      go_wp2_with (first | (refine wpList_load_rowg (by rfl) _ rfl c1 rfl f1.cs hri hund rfl (by rw [pn_len]; exact hszN) ?_) | fail)
      refine hs0.mono ?_
      rintro e Y1 ⟨rfl, hSb0⟩
      have hbk2' := stab_blk _ _ _ _ hbk2 hSb0
      have hbn' := stab_blk _ _ _ _ hbn hSb0
      have ha2' := ha2.below hSb0
      have hxa' := hxa.below hSb0
      clear hri hs0
      have hs1 := rsame_any f2.n x.n f2.aa f2.ca f2.wa f2.cw x.aa x.ca x.wa x.cw (by rw [hz2]; exact hfew.1) (by rw [hz2]; exact hfew.2) Y1 ha2'.g hxa'.g ha2'.w hxa'.w
      rw [show nodEq f2.n x.n = true from nodEq_iff.2 (hz2)] at hs1
      replace hs1 : Calls Tryd.prog 14 #[.agg f2.cs.toArray, .agg x.cs.toArray] Y1 _ := hs1
      have hri := hbk2'.range
      have hrj := hbn'.range
      go_wp2_with (first | (refine wpList_load_rowg (by rfl) _ rfl c2 rfl f2.cs hri hund rfl (by rw [pn_len]; exact hszN) ?_) | (refine wpList_load_rowg (by rfl) _ rfl bn rfl x.cs hrj hund rfl (by rw [pn_len]; exact hszN) ?_) | fail)
      refine hs1.mono ?_
      rintro e Y2 ⟨rfl, hSb1⟩
      go_wp2_with fail
      go_ret
      exact ⟨rfl, Below.then hB (Below.then hSb0 hSb1)⟩
    · have hm7 : 7 < mode := by rcases hout with q | q; exact absurd q hm1; exact q
      go_upto_region 9 with fail
      have hs0 := rsame_any f1.n zeroP.n f1.aa f1.ca f1.wa f1.cw zeroP.aa zeroP.ca zeroP.wa zeroP.cw (by rw [hz1]; decide) (by rw [hz1]; decide) U2 ha1.g (zero_atM U2).g ha1.w (zero_atM U2).w
      rw [show nodEq f1.n zeroP.n = true from nodEq_iff.2 (hz1)] at hs0
      replace hs0 : Calls Tryd.prog 14 #[.agg f1.cs.toArray, .agg zeroP.cs.toArray] U2 _ := hs0
      have hri := hbk1.range
      go_wp2_with (first | (refine wpList_load_rowg (by rfl) _ rfl c1 rfl f1.cs hri hund rfl (by rw [pn_len]; exact hszN) ?_) | fail)
      refine hs0.mono ?_
      rintro e Y1 ⟨rfl, hSb0⟩
      have hbk2' := stab_blk _ _ _ _ hbk2 hSb0
      have hbn' := stab_blk _ _ _ _ hbn hSb0
      have ha2' := ha2.below hSb0
      have hxa' := hxa.below hSb0
      clear hri hs0
      have hs1 := rsame_any f2.n x.n f2.aa f2.ca f2.wa f2.cw x.aa x.ca x.wa x.cw (by rw [hz2]; exact hfew.1) (by rw [hz2]; exact hfew.2) Y1 ha2'.g hxa'.g ha2'.w hxa'.w
      rw [show nodEq f2.n x.n = true from nodEq_iff.2 (hz2)] at hs1
      replace hs1 : Calls Tryd.prog 14 #[.agg f2.cs.toArray, .agg x.cs.toArray] Y1 _ := hs1
      have hri := hbk2'.range
      have hrj := hbn'.range
      go_wp2_with (first | (refine wpList_load_rowg (by rfl) _ rfl c2 rfl f2.cs hri hund rfl (by rw [pn_len]; exact hszN) ?_) | (refine wpList_load_rowg (by rfl) _ rfl bn rfl x.cs hrj hund rfl (by rw [pn_len]; exact hszN) ?_) | fail)
      refine hs1.mono ?_
      rintro e Y2 ⟨rfl, hSb1⟩
      go_wp2_with fail
      go_ret
      exact ⟨rfl, Below.then hB (Below.then hSb0 hSb1)⟩
  · have hm1 : ¬ mode < 1 := fun q => hout (.inl q)
    have hm7 : ¬ 7 < mode := fun q => hout (.inr q)
    rcases hmo (by omega) (by omega) with rfl | rfl
    · go_upto_region 10 with fail
      have hs1 := rsame_any f2.n x.n f2.aa f2.ca f2.wa f2.cw x.aa x.ca x.wa x.cw (by rw [hz2]; exact hfew.1) (by rw [hz2]; exact hfew.2) U2 ha2.g hxa.g ha2.w hxa.w
      rw [show nodEq f2.n x.n = true from nodEq_iff.2 (hz2)] at hs1
      replace hs1 : Calls Tryd.prog 14 #[.agg f2.cs.toArray, .agg x.cs.toArray] U2 _ := hs1
      have hri := hbk2.range
      have hrj := hbn.range
      go_wp2_with (first | (refine wpList_load_rowg (by rfl) _ rfl c2 rfl f2.cs hri hund rfl (by rw [pn_len]; exact hszN) ?_) | (refine wpList_load_rowg (by rfl) _ rfl bn rfl x.cs hrj hund rfl (by rw [pn_len]; exact hszN) ?_) | fail)
      refine hs1.mono ?_
      rintro e Y2 ⟨rfl, hSb1⟩
      go_wp2_with fail
      go_ret
      exact ⟨rfl, Below.then hB hSb1⟩
    · go_upto_region 10 with fail
      have hs1 := rsame_any f2.n x.n f2.aa f2.ca f2.wa f2.cw x.aa x.ca x.wa x.cw (by rw [hz2]; exact hfew.1) (by rw [hz2]; exact hfew.2) U2 ha2.g hxa.g ha2.w hxa.w
      rw [show nodEq f2.n x.n = true from nodEq_iff.2 (hz2)] at hs1
      replace hs1 : Calls Tryd.prog 14 #[.agg f2.cs.toArray, .agg x.cs.toArray] U2 _ := hs1
      have hri := hbk2.range
      have hrj := hbn.range
      go_wp2_with (first | (refine wpList_load_rowg (by rfl) _ rfl c2 rfl f2.cs hri hund rfl (by rw [pn_len]; exact hszN) ?_) | (refine wpList_load_rowg (by rfl) _ rfl bn rfl x.cs hrj hund rfl (by rw [pn_len]; exact hszN) ?_) | fail)
      refine hs1.mono ?_
      rintro e Y2 ⟨rfl, hSb1⟩
      go_wp2_with fail
      go_ret
      exact ⟨rfl, Below.then hB hSb1⟩
end Go.Proofs.YtapgjdmnlkedgabDoor
