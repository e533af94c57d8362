/-
  P1302: two users of whom a list says the same are told the same: the law's walk. Written by mk_monusers.py.
-/
import Derived.Test.YtapgjdmnlkedgaaDoorPt3
import Derived.Test.YtapgjdmnlkedgaaDoorPt4
namespace Go.Proofs.YtapgjdmnlkedgaaDoor
open Go.RowKit
set_option maxRecDepth 8000
set_option linter.unusedSimpArgs false
set_option linter.unusedVariables false

theorem not_usr {u : ByteArray} (h : ∀ k, k < 5 → u ≠ usr k) : ¬ OkUsr u := fun ⟨k, hk, e⟩ => h k hk e
set_option maxRecDepth 20000 in
set_option maxHeartbeats 8000000 in
theorem monitorUsers_walk (K : MonOk) (ta : Option Addr) (ct : Nat) (ts : List Lab) (ma : Option Addr) (mc : Nat) (ms : List PM) (pick mode : Int) (hpk : -9223372036854775808 ≤ pick ∧ pick ≤ 9223372036854775807) (ia : Option Addr) (ic : Nat) (is : List Int) (his : ∀ q ∈ is, -9223372036854775808 ≤ q ∧ q ≤ 9223372036854775807) (w : World) (hlr : RowAt 4 lrow w ta ts) (hmr : RowM w ma ms) (hir : RowAt 1 icell w ia is) (hV : MaxV w) :
    Calls Tryd.prog 8 #[.slice ta ts.length ct, .slice ma ms.length mc, .int .i64 pick, .int .i64 mode, .slice ia is.length ic] w fun e w' => e = .returned (.bool true) ∧ Below w.heap.size w w' := by
  have hund := Tryd.underlying36
  have hundL := Tryd.underlying25
  have hszN : (Tryd.prog.info? 36).map (·.size) = some 16 := by kernel_rfl
  have hsl : (Tryd.prog.info? 25).map (·.size) = some 4 := by kernel_rfl
  have kg := fun W (q1 : RowAt 4 lrow W ta ts) (q2 : RowM W ma ms) => growB_any ta ct ts ma mc ms W q1 q2
  have kof := fun W (q : RowAt 1 icell W ia is) => of_any ia is is.length ic W rfl (fun j hj => by
    obtain ⟨y, hy, hc⟩ := q j is[j] (List.getElem?_eq_getElem hj)
    refine ⟨y, hy, ?_⟩
    have := hc 0 (by decide)
    rw [show j * 1 + 0 = j by omega] at this
    rw [this]
    simp [icell, List.getD_eq_getElem?_getD, List.getElem?_eq_getElem hj]) (fun j => by
    by_cases hj : j < is.length
    · have : is.getD j 0 = is[j] := by simp [List.getD_eq_getElem?_getD, List.getElem?_eq_getElem hj]
      rw [this]
      exact his _ (List.getElem_mem hj)
    · have : is.getD j 0 = 0 := by simp [List.getD_eq_getElem?_getD, List.getElem?_eq_none (show is.length ≤ j by omega)]
      rw [this]
      decide)
  obtain ⟨po, hpo, hpz⟩ : ∃ po, pathB (namesOf is) = po ∧ po.size ≤ 78 := ⟨_, rfl, names_size (namesOf_names is)⟩
  rw [hpo] at kof
  obtain ⟨nt, hnt⟩ : ∃ nt, ts.length = nt := ⟨_, rfl⟩
  obtain ⟨nm, hnm⟩ : ∃ nm, ms.length = nm := ⟨_, rfl⟩
  obtain ⟨ni, hni⟩ : ∃ ni, is.length = ni := ⟨_, rfl⟩
  rw [hnt, hnm] at kg
  rw [hni] at kof
  rw [hnt, hnm, hni]
  clear hnt hnm hpo hni
  go_enter Tryd.func8, Tryd.ntmps8
  go_wp2_with fail
  refine (mknown_any K w hV).mono ?_
  rintro e W1 ⟨rfl, hB1⟩
  go_wp2_with fail
  refine (kg W1 (hlr.below lab_ok.len hB1) (hmr.below hB1)).mono ?_
  rintro e W2 ⟨v, l, rfl, ho, hat, hnm, hB2, hA⟩
  obtain ⟨a, c, rfl, hG⟩ := gt_of ho hat hnm hA
  have hB02 := Below.then hB1 hB2
  have hlen := hG.len
  have hpos := hG.pos
  clear kg ho hat hnm hA hB2 hlr hmr
  generalize W1.heap.size = B1 at *
  obtain ⟨n, hn⟩ : ∃ n, l.length = n := ⟨_, rfl⟩
  rw [hn] at hlen hpos ⊢
  replace hn : Aside (l.length = n) := hn
  have hmod : ∀ q : Int, ∃ j : Nat, q % (n : Int) = (j : Int) ∧ j < n := fun q => ⟨(q % (n : Int)).toNat, by have := Int.emod_nonneg q (show (n : Int) ≠ 0 by omega); omega, by have h1 := Int.emod_nonneg q (show (n : Int) ≠ 0 by omega); have h2 := Int.emod_lt_of_pos q (show 0 < (n : Int) by omega); omega⟩
  go_wp2_with fail
  refine (w13_any pick (n : Int) (by omega) (by omega) W2).mono ?_
  rintro e w' ⟨rfl, hw'⟩
  replace hw' := hw'.symm
  subst hw'
  obtain ⟨k, hk, hkn⟩ := hmod pick
  rw [hk]
  clear hk
  obtain ⟨x, hx⟩ : ∃ x, l[k]? = some x := ⟨_, List.getElem?_eq_getElem (by rw [hn.out]; exact hkn)⟩
  have hxm := List.mem_of_getElem? hx
  obtain ⟨y, rfl⟩ := hG.row.some_ hx
  have hcl := cells_lab (hG.row.r.at pn_len hx)
  have hGt := hG.lab hxm
  obtain ⟨t, ht⟩ : ∃ t, x.n.label = t := ⟨_, rfl⟩
  rw [ht] at hcl hGt
  obtain ⟨W3, hW3, hth3, hbl, hB3⟩ := put_new W2 #[.int .i64 0, .int .i64 0, .int .i64 0, .int .i64 0] 25 (labM t) rfl (by simp)
  have hG3 := hG.below hB3
  have hB03 := Below.then hB02 hB3
  clear hx ht
  go_upto_region 5 with (first | (refine wpList_load_at rfl _ rfl ⟨(y.add (k * 16)).block, (y.add (k * 16)).off + 2, none⟩ rfl (labM t) hcl hundL rfl hsl ?_) | (refine wpList_store_row rfl _ _ rfl W2.heap.size rfl (labM t) rfl hth3 hsl (lab4_one t) hW3 ?_) | fail)
  generalize W2.heap.size = bl at *
  clear hcl hth3 hW3 hG hB02 hB3
  have hm7 : 0 ≤ mode % 7 ∧ mode % 7 < 7 := ⟨Int.emod_nonneg _ (by decide), Int.emod_lt_of_pos _ (by decide)⟩
  have kw7 := w13_any mode 7 (by decide) (by decide) W3
  obtain ⟨m0, hm0⟩ : ∃ m0, mode % 7 = m0 := ⟨_, rfl⟩
  rw [hm0] at hm7 kw7
  clear hm0
  go_wp2_with fail
  refine kw7.mono ?_
  rintro e w' ⟨rfl, hw'⟩
  replace hw' := hw'.symm
  subst hw'
  clear kw7
  go_wp2_with fail
  refine (kof W3 (hir.below (fun _ => rfl) hB03)).mono ?_
  rintro e W4 ⟨rfl, hB4⟩
  have hG4 := hG3.below hB4
  have hbl4 := stab_blk _ _ _ _ hbl hB4
  have hB04 := Below.then hB03 hB4
  clear kof hir hG3 hbl hB03 hB4
  go_upto_if 41 with fail
  go_cut [13] from 38 (fun s13 wc => ∃ p : ByteArray, s13 = .string p ∧ p.size ≤ 1000 ∧ GT B1 wc (some y) c l ts (ms.map (·.m)) ∧ BlkL bl (labM t) wc ∧ Below w.heap.size w wc)
  case first =>
    cases hq : (((ni : Int) % 2) == 0)
    · go_wp2_with fail
      go_meet
      exact ⟨po, rfl, by omega, hG4, hbl4, hB04⟩
    · obtain ⟨k2, hk2, hkn2⟩ := hmod (pick.tdiv 5)
      obtain ⟨x2, hx2⟩ : ∃ x2, l[k2]? = some x2 := ⟨_, List.getElem?_eq_getElem (by rw [hn.out]; exact hkn2)⟩
      have hc2 : W4.cell? (y.add (k2 * 16)) = some (.string x2.n.path) := (hG4.row.r.at pn_len hx2) 0 _ rfl
      have hps := hG4.path (List.mem_of_getElem? hx2)
      have kw := w13_any (pick.tdiv 5) (n : Int) (by omega) (by omega) W4
      rw [hk2] at kw
      clear hx2 hk2
      go_wp2_with fail
      refine kw.mono ?_
      rintro e w' ⟨rfl, hw'⟩
      replace hw' := hw'.symm
      subst hw'
      go_wp2_with fail
      go_meet
      exact ⟨x2.n.path, rfl, by omega, hG4, hbl4, hB04⟩
  case rest =>
    clear hG4 hbl4 hB04
    obtain ⟨p, rfl, hp, hG, hbl, hB⟩ := hcut
    have hF := hG.fine
    have hus : ∀ x ∈ namesP l, UsrN x := by rw [hG.names]; exact grow_usr ts (ms.map (·.m))
    have e1 : mayE (namesP l) ⟨#[120]⟩ t p (1 + m0) = mayE (namesP l) ⟨#[42]⟩ t p (1 + m0) := may_user (fun x hx => usr_modes (hus x hx) (not_usr (by decide))) t p _
    have e2 : mayE (namesP l) ⟨#[121]⟩ t p (1 + m0) = mayE (namesP l) ⟨#[42]⟩ t p (1 + m0) := may_user (fun x hx => usr_modes (hus x hx) (not_usr (by decide))) t p _
    have kmay0 := fun W (q : GT B1 W (some y) c l ts (ms.map (·.m))) (q2 : MaxV W) => K.may (some y) c l ⟨#[120]⟩ t p (1 + m0) hF hGt hp W q.row q2
    have kmay1 := fun W (q : GT B1 W (some y) c l ts (ms.map (·.m))) (q2 : MaxV W) => K.may (some y) c l ⟨#[121]⟩ t p (1 + m0) hF hGt hp W q.row q2
    have kmay2 := fun W (q : GT B1 W (some y) c l ts (ms.map (·.m))) (q2 : MaxV W) => K.may (some y) c l ⟨#[42]⟩ t p (1 + m0) hF hGt hp W q.row q2
    rw [e1] at kmay0
    rw [e2] at kmay1
    rw [hn.out] at kmay0 kmay1 kmay2
    obtain ⟨E, hE⟩ : ∃ E, mayE (namesP l) ⟨#[42]⟩ t p (1 + m0) = E := ⟨_, rfl⟩
    rw [hE] at kmay0 kmay1 kmay2
    clear hE e1 e2 hus
    go_upto_region 9 with fail
    have hrl := hbl.range
    go_wp2_with (first | (refine wpList_load_row rfl _ rfl bl rfl (labM t) hrl hundL rfl hsl ?_) | fail)
    refine (kmay0 wc hG (hV.below hB)).mono ?_
    rintro e V0 ⟨f0, rfl, hf0, ha0, hb⟩
    obtain ⟨wc_1, hU0, hth0, hbk0, hb2⟩ := put_new V0 zN 36 f0.cs (by rw [pn_len]; rfl) (by rw [pn_len]; omega)
    have hszf0 : (Tryd.prog.info? 36).map (·.size) = some f0.cs.length := by rw [pn_len]; exact hszN
    replace ha0 := ha0.below hb2
    have hd := Below.then hb hb2
    replace hG := hG.below hd
    replace hbl := stab_blk _ _ _ _ hbl hd
    replace hB := Below.then hB hd
    clear hrl hb hb2 hd
    go_upto_region 10 with (first | (refine wpList_store_row rfl _ _ rfl V0.heap.size rfl f0.cs rfl hth0 hszf0 (pn_one f0) hU0 ?_) | fail)
    generalize V0.heap.size = c0 at *
    clear hth0 hU0
    have hrl := hbl.range
    go_wp2_with (first | (refine wpList_load_row rfl _ rfl bl rfl (labM t) hrl hundL rfl hsl ?_) | fail)
    refine (kmay1 wc_1 hG (hV.below hB)).mono ?_
    rintro e V1 ⟨f1, rfl, hf1, ha1, hb⟩
    obtain ⟨wc_2, hU1, hth1, hbk1, hb2⟩ := put_new V1 zN 36 f1.cs (by rw [pn_len]; rfl) (by rw [pn_len]; omega)
    have hszf1 : (Tryd.prog.info? 36).map (·.size) = some f1.cs.length := by rw [pn_len]; exact hszN
    replace ha1 := ha1.below hb2
    have hd := Below.then hb hb2
    replace hG := hG.below hd
    replace hbl := stab_blk _ _ _ _ hbl hd
    replace hB := Below.then hB hd
    replace hbk0 := stab_blk _ _ _ _ hbk0 hd
    replace ha0 := ha0.below hd
    clear hrl hb hb2 hd
    go_upto_region 11 with (first | (refine wpList_store_row rfl _ _ rfl V1.heap.size rfl f1.cs rfl hth1 hszf1 (pn_one f1) hU1 ?_) | fail)
    generalize V1.heap.size = c1 at *
    clear hth1 hU1
    have hrl := hbl.range
    go_wp2_with (first | (refine wpList_load_row rfl _ rfl bl rfl (labM t) hrl hundL rfl hsl ?_) | fail)
    refine (kmay2 wc_2 hG (hV.below hB)).mono ?_
    rintro e V2 ⟨f2, rfl, hf2, ha2, hb⟩
    obtain ⟨wc_3, hU2, hth2, hbk2, hb2⟩ := put_new V2 zN 36 f2.cs (by rw [pn_len]; rfl) (by rw [pn_len]; omega)
    have hszf2 : (Tryd.prog.info? 36).map (·.size) = some f2.cs.length := by rw [pn_len]; exact hszN
    replace ha2 := ha2.below hb2
    have hd := Below.then hb hb2
    replace hG := hG.below hd
    replace hbl := stab_blk _ _ _ _ hbl hd
    replace hB := Below.then hB hd
    replace hbk0 := stab_blk _ _ _ _ hbk0 hd
    replace ha0 := ha0.below hd
    replace hbk1 := stab_blk _ _ _ _ hbk1 hd
    replace ha1 := ha1.below hd
    clear hrl hb hb2 hd
    go_upto_region 12 with (first | (refine wpList_store_row rfl _ _ rfl V2.heap.size rfl f2.cs rfl hth2 hszf2 (pn_one f2) hU2 ?_) | fail)
    generalize V2.heap.size = c2 at *
    clear hth2 hU2
    have hs0 := rsame_any f0.n f1.n f0.aa f0.ca f0.wa f0.cw f1.aa f1.ca f1.wa f1.cw (by rw [hf0]; exact (told_few hF _ _).1) (by rw [hf0]; exact (told_few hF _ _).2) wc_3 ha0.g ha1.g ha0.w ha1.w
    rw [show nodEq f0.n f1.n = true from nodEq_iff.2 (hf0.trans hf1.symm)] at hs0
    replace hs0 : Calls Tryd.prog 23 #[.agg f0.cs.toArray, .agg f1.cs.toArray] wc_3 _ := hs0
    have hri := hbk0.range
    have hrj := hbk1.range
    go_wp2_with (first | (refine wpList_load_rowg (by rfl) _ rfl c0 rfl f0.cs hri hund rfl hszf0 ?_) | (refine wpList_load_rowg (by rfl) _ rfl c1 rfl f1.cs hrj hund rfl hszf1 ?_) | fail)
    refine hs0.mono ?_
    rintro e wc_4 ⟨rfl, hSb⟩
    clear hri hrj hs0
    replace hB := Below.then hB hSb
    replace hbk0 := stab_blk _ _ _ _ hbk0 hSb
    replace ha0 := ha0.below hSb
    replace hbk1 := stab_blk _ _ _ _ hbk1 hSb
    replace ha1 := ha1.below hSb
    replace hbk2 := stab_blk _ _ _ _ hbk2 hSb
    replace ha2 := ha2.below hSb
    clear hSb
    have hs1 := rsame_any f0.n f2.n f0.aa f0.ca f0.wa f0.cw f2.aa f2.ca f2.wa f2.cw (by rw [hf0]; exact (told_few hF _ _).1) (by rw [hf0]; exact (told_few hF _ _).2) wc_4 ha0.g ha2.g ha0.w ha2.w
    rw [show nodEq f0.n f2.n = true from nodEq_iff.2 (hf0.trans hf2.symm)] at hs1
    replace hs1 : Calls Tryd.prog 23 #[.agg f0.cs.toArray, .agg f2.cs.toArray] wc_4 _ := hs1
    have hri := hbk0.range
    have hrj := hbk2.range
    go_wp2_with (first | (refine wpList_load_rowg (by rfl) _ rfl c0 rfl f0.cs hri hund rfl hszf0 ?_) | (refine wpList_load_rowg (by rfl) _ rfl c2 rfl f2.cs hrj hund rfl hszf2 ?_) | fail)
    refine hs1.mono ?_
    rintro e wc_5 ⟨rfl, hSb⟩
    clear hri hrj hs1
    replace hB := Below.then hB hSb
    replace hbk0 := stab_blk _ _ _ _ hbk0 hSb
    replace ha0 := ha0.below hSb
    replace hbk1 := stab_blk _ _ _ _ hbk1 hSb
    replace ha1 := ha1.below hSb
    replace hbk2 := stab_blk _ _ _ _ hbk2 hSb
    replace ha2 := ha2.below hSb
    clear hSb
    go_wp2_with fail
    go_ret
    exact ⟨rfl, hB⟩
end Go.Proofs.YtapgjdmnlkedgaaDoor
