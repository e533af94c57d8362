/-
  PART 6 of what ProcMakes leans on: MonFns2 PcIdx PcKnown PcPm ProcAcc PcSteps PcRun PcOne PcMade PcNew MakeE PcKnoP PcLaw PcKno CpuStH ProcRun PcLimits PcLaw2.
-/
import Derived.Deep.RegionHeld
import Derived.Deep.CutBlock
import Derived.Deep.Cut
import Derived.Deep.CutRange
import Derived.Test.YtidihdiffiffmaaGreatDoorProcMakesP5
namespace Go.Proofs.YtidihdiffiffmaaGreatDoor
open Go.RowKit
set_option maxRecDepth 8000
set_option linter.unusedSimpArgs false
set_option linter.unusedVariables false
def PN.Off (y : PN) (b : Nat) : Prop := InBlk y.aa (fun g => g ≠ b) ∧ InBlk y.wa (fun g => g ≠ b)
theorem PN.At.off {y : PN} {W : World} {g : Nat} (h : y.At W) (ho : y.Off g) (o : Nat) (vs : List Value) : y.At (W.setCells g o vs) :=
 ⟨grs_keep h.g (ho.1.imp fun k hk => heap_setCells_other (b := g) (k := k) hk vs o W), wrds_keep h.w (ho.2.imp fun k hk => heap_setCells_other (b := g) (k := k) hk vs o W)⟩
theorem PN.Own.off {y : PN} {W : World} {b g : Nat} (h : y.Own b W) (hg : g < b ∨ W.heap.size ≤ g) : y.Off g := ⟨h.1.imp fun k hk => by omega, h.2.imp fun k hk => by omega⟩
set_option maxRecDepth 20000 in
set_option maxHeartbeats 8000000 in
theorem mmay_any (a : Option Addr) (cap : Nat) (l : List PN) (u : ByteArray) (t : Lab) (p : ByteArray) (m : Int) (hF : FineL l) (hGt : GL t) (hp : p.size ≤ 1000) (w : World) (h : RowN w a l) (hV : MaxV w) :
    Calls Tryz.prog 21 #[.slice a l.length cap, .agg (sbL u t).toArray, .string p, .int .i64 m] w fun e w' => ∃ f : PN, e = .returned (.tuple #[.agg f.cs.toArray, .int .i64 (mayE (namesP l) u t p m)]) ∧ f.n = toldN (namesP l) p (mayE (namesP l) u t p m) ∧ f.At w' ∧ Below w.heap.size w w' ∧ f.Own w.heap.size w' := by
 have hund := Tryz.underlying36
 have hundM := Tryz.underlying52
 have hsz : (Tryz.prog.info? 36).map (·.size) = some zeroP.cs.length := by kernel_rfl
 have hszN : (Tryz.prog.info? 36).map (·.size) = some 16 := by kernel_rfl
 have hsm : (Tryz.prog.info? 52).map (·.size) = some 5 := by kernel_rfl
 have ks := fun W (r : RowN W a l) (q : MaxV W) => msee_any a cap l u t p hF hGt hp W r q
 obtain ⟨E, hE⟩ : ∃ E, mayE (namesP l) u t p m = E := ⟨_, rfl⟩
 rw [hE]
 unfold mayE at hE
 obtain ⟨n, hn⟩ : ∃ n, l.length = n := ⟨_, rfl⟩
 rw [hn] at ks ⊢
 replace hn : Aside (l.length = n) := hn
 have h0 := ms_startM w u t
 have hbad := True.intro
 by_cases hm : m < 1 ∨ 7 < m
 ·rw [if_pos hm] at hE
  subst hE
  clear ks
  by_cases hm1 : m < 1
  ·go_enter Tryz.func21, Tryz.ntmps21
   go_upto_region 2 with fail
   generalize (w.alloc (.cells (sbL u t).toArray 52)).alloc (.cells zN 36) = W0 at *
   obtain ⟨W9, hW9, hth9, hk9, hb9⟩ := put_res h0.rs zeroP h0.bl (by omega)
   have hzz : zeroP.n = toldN (namesP l) p 1 := told_zero (by decide)
   have hza := zero_atM W9
   clear hbad
   as_aux_lemma =>
    go_wp2_with (first | (refine wpList_store_part rfl _ _ rfl (w.heap.size + 1) 0 rfl zeroP.cs rfl hth9 hsz (pn_one zeroP) hW9 ?_) | fail)
    refine bodyPost_ret (v := .tuple #[.agg zeroP.cs.toArray, .int .i64 1]) (results_row2 rfl _ _ (w.heap.size + 1) rfl (.int .i64 1) rfl zeroP.cs hk9.range hund rfl hsz) rfl ?_
    exact ⟨zeroP, rfl, hzz, hza, hb9, .inl rfl, .inl rfl⟩
  ·have hm7 : 7 < m := by omega
   go_enter Tryz.func21, Tryz.ntmps21
   go_upto_region 2 with fail
   generalize (w.alloc (.cells (sbL u t).toArray 52)).alloc (.cells zN 36) = W0 at *
   obtain ⟨W9, hW9, hth9, hk9, hb9⟩ := put_res h0.rs zeroP h0.bl (by omega)
   have hzz : zeroP.n = toldN (namesP l) p 1 := told_zero (by decide)
   have hza := zero_atM W9
   clear hbad
   as_aux_lemma =>
    go_wp2_with (first | (refine wpList_store_part rfl _ _ rfl (w.heap.size + 1) 0 rfl zeroP.cs rfl hth9 hsz (pn_one zeroP) hW9 ?_) | fail)
    refine bodyPost_ret (v := .tuple #[.agg zeroP.cs.toArray, .int .i64 1]) (results_row2 rfl _ _ (w.heap.size + 1) rfl (.int .i64 1) rfl zeroP.cs hk9.range hund rfl hsz) rfl ?_
    exact ⟨zeroP, rfl, hzz, hza, hb9, .inl rfl, .inl rfl⟩
 rw [if_neg hm] at hE
 have hm1 : ¬ m < 1 := by omega
 have hm7 : ¬ 7 < m := by omega
 clear hm
 obtain ⟨SE, hSE⟩ : ∃ SE, seeE (namesP l) t p = SE := ⟨_, rfl⟩
 rw [hSE] at hE ks
 have hrs := h0.bx.range
 go_enter Tryz.func21, Tryz.ntmps21
 go_upto_region 3 with fail
 generalize (w.alloc (.cells (sbL u t).toArray 52)).alloc (.cells zN 36) = W0 at *
 go_wp2_with (first | (refine wpList_load_row rfl _ rfl w.heap.size rfl (sbL u t) hrs hundM rfl hsm ?_) | fail)
 refine (ks W0 (h.below h0.bl) (hV.below h0.bl)).mono ?_
 rintro e W2 ⟨f, rfl, hfn, hfa, hB2, hfo⟩
 have hM2 := h0.then hB2
 have hlt2 : w.heap.size + 1 < W0.heap.size := h0.rs.2
 obtain ⟨W4, hW4, hth4, hbn, hB4⟩ := put_new W2 zN 36 f.cs (by rw [pn_len]; rfl) (by rw [pn_len]; omega)
 have hM4 := hM2.then hB4
 replace hfa := hfa.below hB4
 replace hfo : f.Own (w.heap.size + 2) W4 := hfo.lower (by omega) hB4.size
 clear ks h0 hrs hB2 hM2 hB4
 go_upto_region 4 with (first | (refine wpList_store_row rfl _ _ rfl W2.heap.size rfl f.cs rfl hth4 (by rw [pn_len]; exact hszN) (pn_one f) hW4 ?_) | fail)
 generalize W2.heap.size = bn at *
 clear hth4 hW4
 by_cases hs0 : SE = 0
 rotate_left
 ·rw [if_pos hs0] at hE
  subst hE
  clear hfn
  obtain ⟨W9, hW9, hth9, hk9, hb9⟩ := put_res hM4.rs zeroP hM4.bl (by omega)
  have hzz : zeroP.n = toldN (namesP l) p SE := told_zero hs0
  have hza := zero_atM W9
  clear hbad
  as_aux_lemma =>
   go_wp2_with (first | (refine wpList_store_part rfl _ _ rfl (w.heap.size + 1) 0 rfl zeroP.cs rfl hth9 hsz (pn_one zeroP) hW9 ?_) | fail)
   refine bodyPost_ret (v := .tuple #[.agg zeroP.cs.toArray, .int .i64 SE]) (results_row2 rfl _ _ (w.heap.size + 1) rfl (.int .i64 SE) rfl zeroP.cs hk9.range hund rfl hsz) rfl ?_
   exact ⟨zeroP, rfl, hzz, hza, hb9, .inl rfl, .inl rfl⟩
 subst hs0
 obtain ⟨d, hfd⟩ := see_find hSE
 have hdm := findP_in hfd
 rw [if_neg (by simp), find_names, hfd] at hE
 have hfd2 : f.n = d.n := by
  rw [hfn]
  unfold toldN
  rw [if_pos rfl, find_names, hfd]
  rfl
 replace hE : modE d.n u t m = E := hE
 rw [← hfd2] at hE
 have ku := muse_any f u t m (by omega) (by omega) hGt (by rw [hfd2]; exact hF.lab hdm) (by rw [hfd2]; exact hF.acl d hdm) W4 hfa
 rw [hE] at ku
 have hrs := hM4.bx.range
 have hrf := hbn.range
 have hszf : (Tryz.prog.info? 36).map (·.size) = some f.cs.length := by rw [pn_len]; exact hszN
 replace hSE : Aside _ := hSE
 replace hfd : Aside _ := hfd
 replace hfd2 : Aside _ := hfd2
 replace hfn : Aside _ := hfn
 clear hE
 go_wp2_with (first | (refine wpList_load_row rfl _ rfl bn rfl f.cs hrf hund rfl hszf ?_) | (refine wpList_load_row rfl _ rfl w.heap.size rfl (sbL u t) hrs hundM rfl hsm ?_) | fail)
 refine ku.mono ?_
 rintro e W5 ⟨rfl, hB5⟩
 have hM5 := hM4.then hB5
 replace hbn := stab_blk _ _ _ _ hbn hB5
 replace hfa := hfa.below hB5
 replace hfo := hfo.lower (Nat.le_refl _) hB5.size
 clear ku hrs hrf hM4 hB5 hszf
 by_cases hs0 : E = 0
 rotate_left
 ·clear hfn hfd2 hfd hSE
  obtain ⟨W9, hW9, hth9, hk9, hb9⟩ := put_res hM5.rs zeroP hM5.bl (by omega)
  have hzz : zeroP.n = toldN (namesP l) p E := told_zero hs0
  have hza := zero_atM W9
  clear hbad
  as_aux_lemma =>
   go_wp2_with (first | (refine wpList_store_part rfl _ _ rfl (w.heap.size + 1) 0 rfl zeroP.cs rfl hth9 hsz (pn_one zeroP) hW9 ?_) | fail)
   refine bodyPost_ret (v := .tuple #[.agg zeroP.cs.toArray, .int .i64 E]) (results_row2 rfl _ _ (w.heap.size + 1) rfl (.int .i64 E) rfl zeroP.cs hk9.range hund rfl hsz) rfl ?_
   exact ⟨zeroP, rfl, hzz, hza, hb9, .inl rfl, .inl rfl⟩
 subst hs0
 obtain ⟨W9, hW9, hth9, hk9, hb9⟩ := put_res hM5.rs f hM5.bl (by omega)
 have hrn := hbn.range
 have hszf : (Tryz.prog.info? 36).map (·.size) = some f.cs.length := by rw [pn_len]; exact hszN
 have hfa9 : f.At W9 := by rw [← hW9]; exact hfa.cells hfo (by omega) 0 f.cs
 have hfw : f.Own w.heap.size W9 := hfo.lower (by omega) (by rw [← hW9]; exact cells_size _ _ _ _)
 have hft : f.n = toldN (namesP l) p 0 := hfn.out
 clear hbad
 as_aux_lemma =>
  go_wp2_with (first | (refine wpList_load_row rfl _ rfl bn rfl f.cs hrn hund rfl hszf ?_) | (refine wpList_store_part rfl _ _ rfl (w.heap.size + 1) 0 rfl f.cs rfl hth9 hszf (pn_one f) hW9 ?_) | fail)
  refine bodyPost_ret (v := .tuple #[.agg f.cs.toArray, .int .i64 0]) (results_row2 rfl _ _ (w.heap.size + 1) rfl (.int .i64 0) rfl f.cs hk9.range hund rfl hszf) rfl ?_
  exact ⟨f, rfl, hft, hfa9, hb9, hfw⟩
end Go.Proofs.YtidihdiffiffmaaGreatDoor
namespace Go.Proofs.YtidihdiffiffmaaGreatDoor
open Go.RowKit
set_option maxRecDepth 8000
set_option linter.unusedSimpArgs false
set_option linter.unusedVariables false
theorem idx3 {i : Nat} (hi : i < 3) (w : World) : (Instr.index 176 (.agg #[.int .i64 1, .int .i64 2, .int .i64 4]) (.int .i64 (i : Int))).run Tryz.prog w = .ok (.int .i64 (bitK i)) w := by
 have h1 := Tryz.underlying176
 have h2 := Tryz.underlying3
 obtain ⟨j, hj⟩ : ∃ j, Tryz.prog.info? 3 = some j ∧ j.size = 1 := by
  have h3 : (Tryz.prog.info? 3).map (·.size) = some 1 := by kernel_rfl
  cases hi : Tryz.prog.info? 3 with
  | none => rw [hi] at h3; cases h3
  | some j => exact ⟨j, rfl, by rw [hi] at h3; exact Option.some.inj h3⟩
 match i, hi with
 | 0, _ => simp [Instr.index, asIntOf, run_underlying h1, run_underlying h2, part, isAgg, sizeOf, typeInfo, hj.1, hj.2, bitK]
 | 1, _ => simp [Instr.index, asIntOf, run_underlying h1, run_underlying h2, part, isAgg, sizeOf, typeInfo, hj.1, hj.2, bitK]
 | 2, _ => simp [Instr.index, asIntOf, run_underlying h1, run_underlying h2, part, isAgg, sizeOf, typeInfo, hj.1, hj.2, bitK]
set_option maxRecDepth 8000 in
set_option maxHeartbeats 4000000 in
theorem pmods_any (a : Option Addr) (cap : Nat) (l : List PN) (u : ByteArray) (t : Lab) (p : ByteArray) (hF : FineL l) (hGt : GL t) (hp : p.size ≤ 1000) (w : World) (h : RowN w a l) (hV : MaxV w) :
    Calls Tryz.prog 60 #[.slice a l.length cap, .agg (sbL u t).toArray, .string p] w fun e w' => e = .returned (.int .i64 (modsP (namesP l) u t p)) ∧ Below w.heap.size w w' := by
 have hundS := Tryz.underlying52
 have hszN : (Tryz.prog.info? 36).map (·.size) = some 16 := by kernel_rfl
 have hss : (Tryz.prog.info? 52).map (·.size) = some 5 := by kernel_rfl
 have km := fun W (r : RowN W a l) (hv : MaxV W) (m : Int) => mmay_any a cap l u t p m hF hGt hp W r hv
 obtain ⟨n, hn⟩ : ∃ n, l.length = n := ⟨_, rfl⟩
 rw [hn] at km ⊢
 replace hn : Aside (l.length = n) := hn
 have hb0 := blkl_alloc w (sbL u t).toArray 52
 have hB0 := alloc_below w (.cells (sbL u t).toArray 52)
 replace hb0 : BlkL w.heap.size (sbL u t) (w.alloc (.cells (sbL u t).toArray 52)) := hb0
 go_enter Tryz.func60, Tryz.ntmps60
 go_upto_region 2 with fail
 generalize w.alloc (.cells (sbL u t).toArray 52) = W0 at *
 go_wp2_with fail
 go_loopw [7, 13] (fun t7 t13 wr => ∃ i : Nat, i ≤ 3 ∧ t13 = .int .i64 (i : Int) ∧ t7 = .int .i64 (modK (namesP l) u t p i) ∧ BlkL w.heap.size (sbL u t) wr ∧ Below w.heap.size w wr) (fun _ t13 _ => 3 - (Go.RowKit.intOf t13).toNat)
 case atStart => exact ⟨0, by omega, rfl, rfl, hb0, hB0⟩
 case round =>
  clear hb0 hB0
  obtain ⟨i, hi, rfl, rfl, hb, hB⟩ := hrel
  by_cases hlt : i < 3
  ·obtain ⟨k1, k2, -, -⟩ := modK_step (namesP l) u t p hlt
   have hidx := fun W => idx3 hlt W
   have kb := km wr (h.below hB) (hV.below hB) (bitK i)
   have hrs := hb.range
   obtain ⟨E1, hE1⟩ : ∃ E1, mayE (namesP l) u t p (bitK i) = E1 := ⟨_, rfl⟩
   rw [hE1] at kb k1 k2
   obtain ⟨M1, hM1⟩ : ∃ M1, modK (namesP l) u t p i = M1 := ⟨_, rfl⟩
   rw [hM1] at k1 k2 ⊢
   obtain ⟨M2, hM2⟩ : ∃ M2, modK (namesP l) u t p (i + 1) = M2 := ⟨_, rfl⟩
   rw [hM2] at k1 k2
   obtain ⟨b1, hb1⟩ : ∃ b1, bitK i = b1 := ⟨_, rfl⟩
   rw [hb1] at kb k1 hidx
   replace hM2 : Aside _ := hM2
   clear hE1 hM1 hb1 km
   go_upto_region 5 with fail
   clear hidx
   go_wp2_with (first | (refine wpList_load_row rfl _ rfl w.heap.size rfl (sbL u t) hrs hundS rfl hss ?_) | fail)
   refine kb.mono ?_
   rintro e W1 ⟨f, rfl, -, -, hb1, -⟩
   obtain ⟨W2, hW2, hth2, -, hB2⟩ := put_new W1 #[.string ⟨#[]⟩, .bool false, .int .i64 0, .int .i64 0, .int .i64 0, .int .i64 0, .slice none 0 0, .int .i64 0, .int .i64 0, .int .i64 0, .int .i64 0, .slice none 0 0, .int .i64 0, .int .i64 0, .int .i64 0, .int .i64 0] 36 f.cs (by rw [pn_len]; rfl) (by rw [pn_len]; decide)
   have hB3 := Below.then (Below.then hB hb1) hB2
   have hb3 := stab_blk _ _ _ _ (stab_blk _ _ _ _ hb hb1) hB2
   have hszT : (Tryz.prog.info? 36).map (·.size) = some f.cs.length := by rw [pn_len]; exact hszN
   have hone : ∀ v ∈ f.cs, v.oneCell' = true := pn_one f
   clear kb hrs hb hB hb1 hB2
   by_cases h0 : E1 = 0
   ·have k := k1 h0
    subst h0
    clear k1 k2
    go_wp2_with (first | (refine wpList_store_row rfl _ _ rfl W1.heap.size rfl f.cs rfl hth2 hszT hone hW2 ?_) | fail)
    exact ⟨⟨i + 1, by omega, by simp, by rw [hM2.out], hb3, hB3⟩, by simp [Go.RowKit.intOf]; omega⟩
   ·have k := k2 h0
    have hq : (E1 == 0) = false := by simpa using h0
    clear k1 k2 h0
    go_wp2_with (first | (refine wpList_store_row rfl _ _ rfl W1.heap.size rfl f.cs rfl hth2 hszT hone hW2 ?_) | fail)
    exact ⟨⟨i + 1, by omega, by simp, by rw [hM2.out], hb3, hB3⟩, by simp [Go.RowKit.intOf]; omega⟩
  ·obtain rfl : i = 3 := by omega
   go_wp2_with fail
   go_ret
   exact ⟨rfl, hB⟩
set_option maxHeartbeats 1000000 in
theorem psame_any (w : World) (bx : Nat) (p : ByteArray) (x : PN) (hb : w.cell? ⟨bx, 0, none⟩ = some (.string p)) :
    Calls Tryz.prog 59 #[.agg x.cs.toArray, .pointer (some ⟨bx, 0, none⟩)] w fun e w' => e = .returned (.bool (eqs x.n.path p)) ∧ Below w.heap.size w w' := by
 have hl : bx < w.heap.size := World.block_lt_of_cell? w _ hb
 obtain ⟨b, he⟩ : ∃ b, eqs x.n.path p = b := ⟨_, rfl⟩
 have he2 : (x.n.path.toList == p.toList) = b := he
 rw [he]
 have hb0 := blkl_alloc w x.cs.toArray 36
 have hB0 := alloc_below w (.cells x.cs.toArray 36)
 have c0 := (hb0.1 0 (.string x.n.path) rfl).1
 have c1 := (hB0.cell (p := ⟨bx, 0, none⟩) hl).trans hb
 obtain ⟨X, hX⟩ : ∃ X, x.cs = X := ⟨_, rfl⟩
 rw [hX] at c0 c1 hB0 ⊢
 clear hX hb0 he hb
 go_enter Tryz.func59, Tryz.ntmps59
 go_wp2_with fail
 go_ret
 exact ⟨rfl, hB0⟩
theorem findP_at {l : List PN} {p : ByteArray} {i : Nat} {x : PN} (hu : l[i]? = some x) : (l.drop i).find? (fun x => eqs x.n.path p) = if eqs x.n.path p = true then some x else (l.drop (i + 1)).find? fun x => eqs x.n.path p := by
 have hil := (List.getElem?_eq_some_iff.1 hu).1
 rw [List.drop_eq_getElem_cons hil, (List.getElem?_eq_some_iff.1 hu).2, List.find?_cons]
 cases eqs x.n.path p <;> rfl
def PIdx (l : List PN) (o : Option PN) (r : Int) : Prop := match o with
 | some x => ∃ i : Nat, r = (i : Int) ∧ l[i]? = some x
 | none => r = -1
set_option maxHeartbeats 1000000 in
theorem pidx_any (w : World) (bx : Nat) (p : ByteArray) (hb : w.cell? ⟨bx, 0, none⟩ = some (.string p)) (a : Option Addr) (l : List PN) (cap : Nat) (hm2 : l.length ≤ 1000000) (hG : RowN w a l) :
    Calls Tryz.prog 58 #[.slice a l.length cap, .func (.func 59) #[] #[.pointer (some ⟨bx, 0, none⟩)]] w fun e w' =>
     ∃ r : Int, e = .returned (.int .i64 r) ∧ PIdx l (findP l p) r ∧ Below w.heap.size w w' := by
 have hund := Tryz.underlying36
 have hszN : (Tryz.prog.info? 36).map (·.size) = some 16 := by kernel_rfl
 obtain ⟨m, hm⟩ : ∃ m, l.length = m := ⟨_, rfl⟩
 rw [hm] at hm2 ⊢
 replace hm : Aside (l.length = m) := hm
 have hr0 : Aside (findP l p = (l.drop 0).find? fun x => eqs x.n.path p) := rfl
 obtain ⟨o, ho⟩ : ∃ o, findP l p = o := ⟨_, rfl⟩
 rw [ho] at hr0 ⊢
 clear ho
 go_enter Tryz.func58, Tryz.ntmps58
 go_wp2_with fail
 go_loopw [8] (fun t wr => ∃ q : Nat, q ≤ m ∧ t = .int .i64 (q : Int) ∧ Below w.heap.size w wr ∧ Aside (o = (l.drop q).find? fun x => eqs x.n.path p)) (fun t _ => m - (Go.RowKit.intOf t).toNat)
 case atStart => exact ⟨0, by omega, rfl, Below.refl _ _, hr0⟩
 case round =>
  obtain ⟨q, hq, rfl, hB, hall⟩ := hrel
  by_cases hlt : q < m
  ·obtain ⟨x, hu⟩ : ∃ x, l[q]? = some x := ⟨_, List.getElem?_eq_getElem (by rw [hm.out]; omega)⟩
   rw [findP_at hu] at hall
   have hrow := hG.below hB
   obtain ⟨y, rfl⟩ := hrow.some_ hu
   have hw := hrow.r.at pn_len hu
   have cS := psame_any wr bx p x ((hB.cell (p := ⟨bx, 0, none⟩) (World.block_lt_of_cell? w _ hb)).trans hb)
   obtain ⟨cs, hcs⟩ : ∃ cs, x.cs = cs := ⟨_, rfl⟩
   have hlen : cs.length = 16 := by rw [← hcs]; rfl
   rw [hcs] at hw cS
   have hszc : (Tryz.prog.info? 36).map (·.size) = some cs.length := by rw [hlen]; exact hszN
   clear hb hrow hcs hlen
   cases he : eqs x.n.path p
   ·rw [he, if_neg (by simp)] at hall
    rw [he] at cS
    clear he hu
    go_wp2_with (first | (refine wpList_load_at rfl _ rfl (y.add (q * 16)) rfl cs hw hund rfl hszc ?_) | fail)
    refine cS.mono ?_
    rintro e w1 ⟨rfl, hB1⟩
    go_wp2_with fail
    exact ⟨⟨q + 1, by omega, by simp, Below.then hB hB1, hall⟩, by simp [Go.RowKit.intOf]; omega⟩
   ·rw [he, if_pos rfl] at hall
    rw [he] at cS
    have hfin : PIdx l o (q : Int) := by
     rw [hall.out]
     exact ⟨q, rfl, hu⟩
    clear he hu hall
    go_wp2_with (first | (refine wpList_load_at rfl _ rfl (y.add (q * 16)) rfl cs hw hund rfl hszc ?_) | fail)
    refine cS.mono ?_
    rintro e w1 ⟨rfl, hB1⟩
    go_wp2_with fail
    go_ret
    exact ⟨_, rfl, hfin, Below.then hB hB1⟩
  ·have hfin : PIdx l o (-1) := by
    rw [hall.out, List.drop_eq_nil_of_le (by rw [hm.out]; omega)]
    exact rfl
   go_wp2_with fail
   go_ret
   exact ⟨_, rfl, hfin, hB⟩
end Go.Proofs.YtidihdiffiffmaaGreatDoor
namespace Go.Proofs.YtidihdiffiffmaaGreatDoor
open Go.RowKit
set_option maxRecDepth 8000
set_option linter.unusedSimpArgs false
set_option linter.unusedVariables false
theorem strQ_load (w : World) (y : Addr) (v : Value) (h : w.cell? y = some v) : (Instr.loadAt 9 (.pointer (some y))).run Tryz.prog w = .ok v w := by
 have h1 := Tryz.underlying9
 go_simp
section
variable {ops : Array Oper} {o : Oper} {a : Act} {w w' : World} {Q : Exit → Act → World → Prop} {T : TypeId}
theorem step_mapU {K : Act → World → Prop} {E : Prop} (hg : o.guard = none) (x y z : Operand) (ho : o.op = .mapUpdate T x y z) (m : Value) (hx : a.eval x = m) (k : Value) (hy : a.eval y = k) (v : Value) (hz : a.eval z = v) (hs : (Instr.mapUpdate T m k v).run Tryz.prog w = .ok () w') (hK : K (a.put o.dst undef) w') :
    if Region.wanted o (yielded ops a.tmps) = true then Oper.wp Tryz.prog o a w K Q else E := by
 have hw : Region.wanted o (yielded ops a.tmps) = true := by simp [Region.wanted, hg]
 rw [if_pos hw]
 unfold Oper.wp
 simp [execOp, ho, hx, hy, hz, hs, Result.andThen]
 exact hK
end
structure KS (b bx B n i : Nat) (u : ByteArray) (t : Lab) (p : ByteArray) (d : PN) (l : List PN) (W : World) : Prop where
 row : RowN W (some ⟨B, 0, none⟩) l
 sb : BlkL b (sbL u t) W
 px : W.cell? ⟨bx, 0, none⟩ = some (.string p)
 wd : W.cell? ⟨B, i * 16 + 11, none⟩ = some (.slice d.wa d.n.words.length d.cw)
 rg : W.rangeAt B (i * 16 + 7) [.int .i64 d.n.r1, .int .i64 d.n.r2, .int .i64 d.n.r3, .int .i64 d.n.gates]
theorem KS.then {b bx B n i : Nat} {u : ByteArray} {t : Lab} {p : ByteArray} {d : PN} {l : List PN} {W W' : World} (h : KS b bx B n i u t p d l W) (k : Below W.heap.size W W') : KS b bx B n i u t p d l W' :=
 ⟨h.row.below k, stab_blk _ _ _ _ h.sb k, (k.cell (World.block_lt_of_cell? _ _ h.px)).trans h.px, (k.cell (World.block_lt_of_cell? _ _ h.wd)).trans h.wd, fun j v hv => (k.cell (World.block_lt_of_cell? _ _ (h.rg j v hv))).trans (h.rg j v hv)⟩
theorem MapI.kept {W W' : World} {b : Nat} {val : Int → Value} {live : Int → Bool} (h : MapI W b val live) (hk : ∀ j, j ≠ b → W'.heap[j]? = W.heap[j]?) (y : Addr) (v : Value) (hc : W.cell? y = some v) : W'.cell? y = some v := by
 by_cases hy : y.block = b
 ·obtain ⟨es, clock, hb, -⟩ := h
  rw [← hy] at hb
  simp [World.cell?, hb] at hc
 ·exact (World.cell?_of_block (hk y.block hy)).trans hc
theorem RowAt.cells {α : Type} {sz : Nat} {f : α → List Value} {W W' : World} {a : Option Addr} {l : List α} (hf : ∀ x, (f x).length = sz) (h : RowAt sz f W a l) (hc : ∀ y v, W.cell? y = some v → W'.cell? y = some v) : RowAt sz f W' a l := fun j x hx => by
 obtain ⟨y, hy, h1⟩ := h j x hx
 refine ⟨y, hy, fun i hi => ?_⟩
 have h2 := h1 i hi
 obtain ⟨u, hu⟩ : ∃ u, (f x)[i]? = some u := ⟨_, List.getElem?_eq_getElem (by rw [hf]; exact hi)⟩
 rw [hu] at h2 ⊢
 exact hc _ _ h2
theorem RowN.cells {W W' : World} {a : Option Addr} {l : List PN} (h : RowN W a l) (hc : ∀ y v, W.cell? y = some v → W'.cell? y = some v) : RowN W' a l :=
 ⟨h.r.cells pn_len hc, fun x hx => ⟨row_grs ((grs_row (h.p x hx).g).cells (fun _ => rfl) hc), row_wrds ((wrds_row (h.p x hx).w).cells (fun _ => rfl) hc)⟩⟩
theorem KS.mapped {b bx B n i m : Nat} {u : ByteArray} {t : Lab} {p : ByteArray} {d : PN} {l : List PN} {W W' : World} {val : Int → Value} {live : Int → Bool} (h : KS b bx B n i u t p d l W) (hm : MapI W m val live) (hz : W.heap.size ≤ W'.heap.size) (hk : ∀ j, j ≠ m → W'.heap[j]? = W.heap[j]?) (hbm : b ≠ m) : KS b bx B n i u t p d l W' :=
 ⟨h.row.cells (hm.kept hk), ⟨h.sb.1.same (hk b hbm), Nat.lt_of_lt_of_le h.sb.2 hz⟩, hm.kept hk _ _ h.px, hm.kept hk _ _ h.wd, fun j v hv => hm.kept hk _ _ (h.rg j v hv)⟩
theorem row_parts {W : World} {B i : Nat} {l : List PN} {d : PN} (h : RowN W (some ⟨B, 0, none⟩) l) (hd : l[i]? = some d) : W.cell? ⟨B, i * 16 + 1, none⟩ = some (.bool d.n.dir) ∧ W.cell? ⟨B, i * 16 + 11, none⟩ = some (.slice d.wa d.n.words.length d.cw) ∧ W.rangeAt B (i * 16 + 7) [.int .i64 d.n.r1, .int .i64 d.n.r2, .int .i64 d.n.r3, .int .i64 d.n.gates] := by
 obtain ⟨y, hy, hc⟩ := h.r i d hd
 injection hy with hy
 subst hy
 have hc' : ∀ j, j < 16 → W.cell? ⟨B, i * 16 + j, none⟩ = d.cs[j]? := fun j hj => by
  have := hc j hj
  rwa [add_at] at this
 refine ⟨hc' 1 (by omega), hc' 11 (by omega), fun j v hv => ?_⟩
 have hj : j < 4 := (List.getElem?_eq_some_iff.1 hv).1
 have h1 := hc' (7 + j) (by omega)
 rw [show i * 16 + (7 + j) = i * 16 + 7 + j from by omega] at h1
 rw [h1]
 match j, hj with
 | 0, _ => exact hv
 | 1, _ => exact hv
 | 2, _ => exact hv
 | 3, _ => exact hv
theorem kn_at {bs : List ByteArray} {l : List PN} {u : ByteArray} {t : Lab} {k : Nat} {p : ByteArray} (h : bs[k]? = some p) : knP (bs.map (segQ l u t)) (k : Int) = segQ l u t p := by
 unfold knP
 rw [if_neg (by omega), Int.toNat_natCast, List.getD_eq_getElem?_getD, List.getElem?_map, h]
 rfl
theorem live_next {gs : List Sg} {k : Nat} {g : Sg} (hk : kn gs (k : Int) = g ∧ g.is = true) (j : Int) : (decide (j < (((k + 1 : Nat) : Int))) && (kn gs j).is) = (decide (j = (k : Int)) || (decide (j < (k : Int)) && (kn gs j).is)) := by
 by_cases h1 : j = (k : Int)
 ·subst h1
  rw [hk.1, hk.2, decide_eq_true (show (k : Int) < ((k + 1 : Nat) : Int) by omega), decide_eq_true rfl]
  rfl
 ·by_cases h2 : j < (k : Int)
  ·rw [decide_eq_true (show j < ((k + 1 : Nat) : Int) by omega), decide_eq_true h2, decide_eq_false h1]
   rfl
  ·rw [decide_eq_false (show ¬ j < ((k + 1 : Nat) : Int) by omega), decide_eq_false h2, decide_eq_false h1]
   rfl
theorem live_skip {gs : List Sg} {k : Nat} (hk : (kn gs (k : Int)).is = false) (j : Int) : (decide (j < (((k + 1 : Nat) : Int))) && (kn gs j).is) = (decide (j < (k : Int)) && (kn gs j).is) := by
 by_cases h1 : j = (k : Int)
 ·subst h1
  rw [hk, Bool.and_false, Bool.and_false]
 ·by_cases h2 : j < (k : Int)
  ·rw [decide_eq_true (show j < ((k + 1 : Nat) : Int) by omega), decide_eq_true h2]
  ·rw [decide_eq_false (show ¬ j < ((k + 1 : Nat) : Int) by omega), decide_eq_false h2]
theorem live_none (gs : List Sg) (j : Int) : (decide (j < (((0 : Nat) : Int))) && (kn gs j).is) = false := by
 by_cases hj : j < 0
 ·have : (kn gs j).is = false := by unfold kn; rw [if_pos hj]; rfl
  rw [this, Bool.and_false]
 ·rw [decide_eq_false (show ¬ j < ((0 : Nat) : Int) from hj)]
  rfl
theorem live_all {gs : List Sg} {k : Nat} (h : gs.length = k) (j : Int) : (kn gs j).is = (decide (j < (k : Int)) && (kn gs j).is) := by
 by_cases hj : j < (k : Int)
 ·rw [decide_eq_true hj]
  rfl
 ·have : (kn gs j).is = false := by
    unfold kn
    rw [if_neg (by omega), List.getD_eq_getElem?_getD, List.getElem?_eq_none (by omega)]
    rfl
  rw [this, Bool.and_false]
set_option maxRecDepth 8000 in
set_option maxHeartbeats 8000000 in
theorem pknown_any (B cap : Nat) (l : List PN) (u : ByteArray) (t : Lab) (ba : Option Addr) (bc : Nat) (bs : List ByteArray) (hF : FineL l) (hGt : GL t) (hbs : bs.length ≤ 4) (hps : ∀ p ∈ bs, p.size ≤ 1000) (w : World) (h : RowN w (some ⟨B, 0, none⟩) l) (hbl0 : B < w.heap.size) (hRB : RowAt 1 scl w ba bs) (hV : MaxV w) :
    Calls Tryz.prog 36 #[.slice (some ⟨B, 0, none⟩) l.length cap, .agg (sbL u t).toArray, .slice ba bs.length bc] w fun e w' => ∃ mb, e = .returned (.map (some mb)) ∧ w.heap.size ≤ mb ∧ MapI w' mb (segV (bs.map (segQ l u t))) (fun k => (kn ((bs.map (segQ l u t)).map (·.g)) k).is) ∧ Below w.heap.size w w' := by
 have hundS := Tryz.underlying52
 have hundN := Tryz.underlying36
 have hundR := Tryz.underlying33
 have hszN : (Tryz.prog.info? 36).map (·.size) = some 16 := by kernel_rfl
 have hss : (Tryz.prog.info? 52).map (·.size) = some (sbL u t).length := by kernel_rfl
 have hsr : (Tryz.prog.info? 33).map (·.size) = some 4 := by kernel_rfl
 have kidx := fun (W : World) bx p hb hr => pidx_any W bx p hb (some ⟨B, 0, none⟩) l cap (by have := hF.len; omega) hr
 have ksee := fun (W : World) p hp hr hv => msee_any (some ⟨B, 0, none⟩) cap l u t p hF hGt hp W hr hv
 have kmd := fun (W : World) p hp hr hv => pmods_any (some ⟨B, 0, none⟩) cap l u t p hF hGt hp W hr hv
 have hlen := hF.len
 obtain ⟨n, hn⟩ : ∃ n, l.length = n := ⟨_, rfl⟩
 obtain ⟨nb, hnb⟩ : ∃ nb, bs.length = nb := ⟨_, rfl⟩
 rw [hn] at kidx ksee kmd hlen ⊢
 rw [hnb] at hbs ⊢
 replace hn : Aside (l.length = n) := hn
 replace hnb : Aside (bs.length = nb) := hnb
 have hmm := @run_makeMap Tryz.prog
 have hb0 := blkl_alloc w (sbL u t).toArray 52
 have hB0 := alloc_below w (.cells (sbL u t).toArray 52)
 have hB1 := alloc_below (w.alloc (.cells (sbL u t).toArray 52)) (.map #[] 0)
 have hb1 := stab_blk _ _ _ _ hb0 hB1
 have hM1 := mapI_made (w.alloc (.cells (sbL u t).toArray 52)) (segV (bs.map (segQ l u t)))
 rw [World.size_alloc] at hM1
 have hB01 := Below.then hB0 hB1
 replace hb1 : BlkL w.heap.size (sbL u t) ((w.alloc (.cells (sbL u t).toArray 52)).alloc (.map #[] 0)) := hb1
 clear hb0 hB0 hB1
 go_enter Tryz.func36, Tryz.ntmps36
 go_upto_region 2 with fail
 generalize (w.alloc (.cells (sbL u t).toArray 52)).alloc (.map #[] 0) = W1 at *
 have hM2 := hM1.turn (val' := segV (bs.map (segQ l u t))) (live' := fun j => decide (j < (((0 : Nat) : Int))) && (kn ((bs.map (segQ l u t)).map (·.g)) j).is) (fun _ _ => rfl) (live_none _)
 clear hM1 hmm
 go_wp2_with fail
 go_loopw [16] (fun t16 wr => ∃ k : Nat, k ≤ nb ∧ t16 = .int .i64 (k : Int) ∧ BlkL w.heap.size (sbL u t) wr ∧ MapI wr (w.heap.size + 1) (segV (bs.map (segQ l u t))) (fun j => decide (j < (k : Int)) && (kn ((bs.map (segQ l u t)).map (·.g)) j).is) ∧ Below w.heap.size w wr) (fun t16 _ => nb - (Go.RowKit.intOf t16).toNat)
 case atStart => exact ⟨0, by omega, rfl, hb1, hM2, hB01⟩
 case round =>
  clear hb1 hM2 hB01
  obtain ⟨k, hk, rfl, hb, hM, hB⟩ := hrel
  by_cases hlt : k < nb
  ·obtain ⟨p, hp⟩ : ∃ p, bs[k]? = some p := ⟨_, List.getElem?_eq_getElem (by rw [hnb.out]; exact hlt)⟩
   have hpz := hps p (List.mem_of_getElem? hp)
   have hkp := kn_at (l := l) (u := u) (t := t) hp
   have hkg := knP_g (bs.map (segQ l u t)) (k : Int)
   rw [hkp] at hkg
   obtain ⟨y, rfl, hyc⟩ := (hRB.below scl_ok.len hB) k p hp
   have hy0 : wr.cell? (y.add k) = some (.string p) := by
    have := hyc 0 (by decide)
    rw [Nat.mul_one, Nat.add_zero] at this
    exact this
   have hB2 := alloc_below wr (.cells #[.string p] 9)
   have hbx : (wr.alloc (.cells #[.string p] 9)).cell? ⟨wr.heap.size, 0, none⟩ = some (.string p) := (blk_alloc wr #[.string p] 9 0 _ rfl).1
   have hw1 : w.heap.size + 1 < wr.heap.size := hM.lt
   clear hyc hkp
   go_upto_region 5 with fail
   clear hy0
   generalize wr.alloc (.cells #[.string p] 9) = V1 at *
   have hb2 := stab_blk _ _ _ _ hb hB2
   have hM2 := hM.same (hB2.block _ hM.lt)
   have hBB2 := Below.then hB hB2
   clear hb hM hB hB2
   go_wp2_with fail
   refine (kidx V1 wr.heap.size p hbx (h.below hBB2)).mono ?_
   rintro e V2 ⟨ix, rfl, hix, hB3⟩
   have hb3 := stab_blk _ _ _ _ hb2 hB3
   have hM3 := hM2.same (hB3.block _ hM2.lt)
   have hBB3 := Below.then hBB2 hB3
   have hbx3 := (hB3.cell (p := ⟨wr.heap.size, 0, none⟩) (World.block_lt_of_cell? _ _ hbx)).trans hbx
   clear hb2 hM2 hBB2 hB3 hbx kidx
   have hrs := hb3.range
   go_wp2_with (first | (refine wpList_load_row rfl _ rfl w.heap.size rfl (sbL u t) hrs hundS rfl hss ?_) | fail)
   refine (ksee V2 p hpz (h.below hBB3) (hV.below hBB3)).mono ?_
   rintro e V3 ⟨f, rfl, -, -, hB4, -⟩
   obtain ⟨V4, hW4, hth4, -, hB5⟩ := put_new V3 #[.string ⟨#[]⟩, .bool false, .int .i64 0, .int .i64 0, .int .i64 0, .int .i64 0, .slice none 0 0, .int .i64 0, .int .i64 0, .int .i64 0, .int .i64 0, .slice none 0 0, .int .i64 0, .int .i64 0, .int .i64 0, .int .i64 0] 36 f.cs (by rw [pn_len]; rfl) (by rw [pn_len]; decide)
   have hB45 := Below.then hB4 hB5
   have hb4 := stab_blk _ _ _ _ hb3 hB45
   have hM4 := hM3.same (hB45.block _ hM3.lt)
   have hBB4 := Below.then hBB3 hB45
   have hbx4 := (hB45.cell (p := ⟨wr.heap.size, 0, none⟩) (World.block_lt_of_cell? _ _ hbx3)).trans hbx3
   have hszT : (Tryz.prog.info? 36).map (·.size) = some f.cs.length := by rw [pn_len]; exact hszN
   have hone : ∀ v ∈ f.cs, v.oneCell' = true := pn_one f
   obtain ⟨E, hE⟩ : ∃ E, seeE (namesP l) t p = E := ⟨_, rfl⟩
   rw [hE]
   clear hrs hb3 hM3 hBB3 hbx3 hB4 hB5 hB45 ksee
   go_upto_region 7 with (first | (refine wpList_store_row rfl _ _ rfl V3.heap.size rfl f.cs rfl hth4 hszT hone hW4 ?_) | fail)
   clear hth4 hW4 hszT hone
   by_cases hE0 : E = 0
   rotate_left
   ·have hno : (kn ((bs.map (segQ l u t)).map (·.g)) (k : Int)).is = false := by
      rw [← hkg, segQ_g]
      unfold segP
      rw [if_pos (.inl (by rw [hE]; exact hE0))]
      rfl
    have hM5 := hM4.turn (val' := segV (bs.map (segQ l u t))) (live' := fun j => decide (j < (((k + 1 : Nat) : Int))) && (kn ((bs.map (segQ l u t)).map (·.g)) j).is) (fun _ _ => rfl) (fun j => live_skip hno j)
    have hq : (E != 0) = true := by simpa using hE0
    have hq2 : (E == 0) = false := by simpa using hE0
    clear hM4 hno hkg
    go_wp2_with fail
    exact ⟨⟨k + 1, by omega, by simp, hb4, hM5, hBB4⟩, by simp [Go.RowKit.intOf]; omega⟩
   subst hE0
   obtain ⟨hgm, hfd⟩ : gotP l p ∈ l ∧ findP l p = some (gotP l p) := by
    obtain ⟨_, _, x, hx⟩ := see_zero.1 hE
    rw [find_names] at hx
    obtain ⟨d, hd, _⟩ := Option.map_eq_some_iff.1 hx
    unfold gotP
    rw [hd]
    exact ⟨List.mem_of_find?_eq_some hd, rfl⟩
   have hgn := gotP_n l p
   have hsq : (gotN (namesP l) p).dir = false → segQ l u t p = ⟨segP (namesP l) u t p, (gotP l p).wa, (gotP l p).cw⟩ ∧ segP (namesP l) u t p = ⟨true, (gotP l p).n.words, modsP (namesP l) u t p, (gotP l p).n.rg⟩ := fun q => by
    unfold segQ segP
    rw [if_neg (by rw [hE, q]; simp), if_neg (by rw [hE, q]; simp), hgn]
    exact ⟨rfl, rfl⟩
   have hsz' : (gotN (namesP l) p).dir = true → (segP (namesP l) u t p).is = false := fun q => by
    unfold segP
    rw [if_pos (.inr q)]
    rfl
   rw [hfd] at hix
   obtain ⟨d, hd⟩ : ∃ d, gotP l p = d := ⟨_, rfl⟩
   rw [hd] at hix hgm hsq
   rw [← hgn, hd] at hsq hsz'
   obtain ⟨i, rfl, hi⟩ : ∃ i : Nat, ix = (i : Int) ∧ l[i]? = some d := hix
   have hil : i < n := by rw [← hn.out]; exact (List.getElem?_eq_some_iff.1 hi).1
   have hrow4 := h.below hBB4
   obtain ⟨hdir, hwd, hrg⟩ := row_parts hrow4 hi
   have hi0 : ¬ (i : Int) < 0 := by omega
   have hi1 : (i : Int) < (n : Int) := by omega
   clear hgn hfd hd hgm
   cases hdd : d.n.dir
   rotate_left
   ·have hno : (kn ((bs.map (segQ l u t)).map (·.g)) (k : Int)).is = false := by
      rw [← hkg, segQ_g]
      exact hsz' hdd
    have hM5 := hM4.turn (val' := segV (bs.map (segQ l u t))) (live' := fun j => decide (j < (((k + 1 : Nat) : Int))) && (kn ((bs.map (segQ l u t)).map (·.g)) j).is) (fun _ _ => rfl) (fun j => live_skip hno j)
    rw [hdd] at hdir
    clear hM4 hno hkg hsq hsz' hrow4 hwd hrg hi
    go_wp2_with fail
    exact ⟨⟨k + 1, by omega, by simp, hb4, hM5, hBB4⟩, by simp [Go.RowKit.intOf]; omega⟩
   ·obtain ⟨hs1, hs2⟩ := hsq hdd
    rw [hdd] at hdir
    have hkn : kn ((bs.map (segQ l u t)).map (·.g)) (k : Int) = segP (namesP l) u t p ∧ (segP (namesP l) u t p).is = true := by
     rw [← hkg, segQ_g]
     exact ⟨rfl, by rw [hs2]⟩
    have hsegV : .agg #[.slice d.wa d.n.words.length d.cw, .int .i64 (modsP (namesP l) u t p), .int .i64 d.n.r1, .int .i64 d.n.r2, .int .i64 d.n.r3, .int .i64 d.n.gates] = segV (bs.map (segQ l u t)) (k : Int) := by
     unfold segV
     rw [kn_at hp, hs1, hs2]
     rfl
    replace hsegV : Aside _ := hsegV
    obtain ⟨W5, hW5⟩ : ∃ W5, V4 = W5 := ⟨_, rfl⟩
    rw [hW5] at hb4 hM4 hBB4 hbx4 hrow4 hdir hwd hrg ⊢
    clear hW5
    have hS0 : KS w.heap.size wr.heap.size B n i u t p d l W5.drew := (KS.mk hrow4 hb4 hbx4 hwd hrg : KS w.heap.size wr.heap.size B n i u t p d l W5).then (Below.refl _ _).drew
    have hMp0 : MapI W5.drew (w.heap.size + 1) (segV (bs.map (segQ l u t))) (fun j => decide (j < (k : Int)) && (kn ((bs.map (segQ l u t)).map (·.g)) j).is) := hM4.same ((Below.refl W5.heap.size W5).drew.block _ hM4.lt)
    have hbB0 : Below w.heap.size w W5.drew := hBB4.drew
    have hV0 : MaxV W5.drew := hV.below hbB0
    have kmod := fun (W : World) r v => kmd W p hpz r v
    go_upto_region 8 with fail
    clear hsq hsz' hs1 hs2 hdir hwd hrg hrow4 hb4 hM4 hBB4 hbx4 hkg hp hi kmd
    refine wp_region_held_drew (S := (fun W => KS w.heap.size wr.heap.size B n i u t p d l W)) (by kernel_rfl) (by exact hS0) ?_
    intro hHeld
    generalize W5.drew = w0 at *
    refine tkA 0 ?_
    refine tkA 1 ?_
    refine tkA 2 ?_
    refine tkA 3 ?_
    refine tkA 4 ?_
    refine tkA 5 ?_
    refine tkB 6 (y := yields_cellI (by rfl) _ rfl ⟨B, i * 16 + 11, none⟩ rfl (.slice d.wa d.n.words.length d.cw) (fun _ s => s.wd) wrdsP_load) (h := ?_)
    refine tkA 7 ?_
    refine tkB 8 (y := yieldsIf_load_mid (by rfl) 52 _ rfl w.heap.size 0 rfl (sbL u t) _ (fun W s => s.sb.range) hundS rfl hss) (h := ?_)
    refine tkB 9 (y := yields_cellI (by rfl) _ rfl ⟨wr.heap.size, 0, none⟩ rfl (.string p) (fun _ s => s.px) strQ_load) (h := ?_)
    refine tkA 11 ?_
    refine tkA 12 ?_
    refine tkA 13 ?_
    refine tkA 14 ?_
    refine tkB 15 (y := yieldsIf_load_mid (by rfl) 33 _ rfl B (i * 16 + 7) rfl [.int .i64 d.n.r1, .int .i64 d.n.r2, .int .i64 d.n.r3, .int .i64 d.n.gates] _ (fun W s => s.rg) hundR rfl hsr) (h := ?_)
    refine tkR (rs := [10]) ?_
    refine tkC (fun K hK => ?_) AllReadyH.nil
    go_simp
    go_at_call 60
    refine (kmod w0 hS0.row hV0 ).mono ?_
    rintro e w1 ⟨rfl, hb1⟩
    have hS1 := hS0.then hb1
    refine hK.out _ _ (hS1) ?_
    clear hHeld hK
    intro hHeld
    have hMp1 := hMp0.same (hb1.block _ hMp0.lt)
    have hbB1 := Below.then hbB0 hb1
    have hbs1 := hS1.sb
    clear hS0 hMp0 hbB0 hb1
    (try simp only [Act.put, zsA, zsB, zsC])
    refine tkA 16 ?_
    refine tkR (rs := [17]) ?_
    refine tkC (fun K hK => ?_) AllReadyH.nil
    obtain ⟨w2, hup, hM2, ho2, ht2, hu2, hz2, hk2⟩ := updI Tryz.underlying108 hMp1 (k : Int) (.agg #[.slice d.wa d.n.words.length d.cw, .int .i64 (modsP (namesP l) u t p), .int .i64 d.n.r1, .int .i64 d.n.r2, .int .i64 d.n.r3, .int .i64 d.n.gates]) (by simp)
    refine step_mapU rfl _ _ _ rfl (.map (some (w.heap.size + 1))) rfl (.int .i64 (k : Int)) rfl (.agg #[.slice d.wa d.n.words.length d.cw, .int .i64 (modsP (namesP l) u t p), .int .i64 d.n.r1, .int .i64 d.n.r2, .int .i64 d.n.r3, .int .i64 d.n.gates]) rfl hup ?_
    (try simp only [Act.put, zsA, zsB, zsC])
    refine hK.out _ _ (hS1.mapped hMp1 (by rw [hz2]; exact Nat.le_refl _) hk2 (by omega)) ?_
    clear hHeld hK
    intro hHeld
    have hb3 : BlkL w.heap.size (sbL u t) w2 := ⟨hbs1.1.same (hk2 _ (by omega)), by rw [hz2]; exact hbs1.2⟩
    have hB3 : Below w.heap.size w w2 := hbB1.trans ⟨ho2, ht2, hu2, by rw [hz2]; exact Nat.le_refl _, fun j hj => hk2 j (by omega)⟩
    have hM3 := hM2.turn (val' := segV (bs.map (segQ l u t))) (live' := fun j => decide (j < (((k + 1 : Nat) : Int))) && (kn ((bs.map (segQ l u t)).map (·.g)) j).is) (fun j hj => by
  by_cases hjk : j = (k : Int)
  ·rw [if_pos hjk, hjk]; exact hsegV.out.symm
  ·rw [if_neg hjk]) (fun j => live_next hkn j)
    clear hM2 hk2 hup hS1 hMp1 hbs1 hbB1
    (try simp only [Act.put, zsA, zsB, zsC])
    refine wpAnyH_done (by kernel_rfl) ?_ _
    clear hHeld
    go_wp2_with fail
    exact ⟨⟨k + 1, by omega, by simp, hb3, hM3, hB3⟩, by simp [Go.RowKit.intOf]; omega⟩
  ·obtain rfl : k = nb := by omega
   go_wp2_with fail
   go_ret
   exact ⟨w.heap.size + 1, rfl, Nat.le_succ _, hM.turn (fun _ _ => rfl) (live_all (by simp [hnb.out])), hB⟩
end Go.Proofs.YtidihdiffiffmaaGreatDoor
namespace Go.Proofs.YtidihdiffiffmaaGreatDoor
open Go.RowKit
set_option maxRecDepth 8000
set_option linter.unusedSimpArgs false
set_option linter.unusedVariables false
def setP (p : ByteArray) (o : Nat) (v : Int) (x : PN) : PN := { x with n := setN p o v x.n }
theorem setP_names (l : List PN) (p : ByteArray) (o : Nat) (v : Int) : namesP (l.map (setP p o v)) = setW (namesP l) p o v := by
 unfold namesP setW
 rw [List.map_map, List.map_map]
 rfl
theorem setP_wv (p : ByteArray) (o : Nat) (v : Int) (x : PN) : (setP p o v x).wv = x.wv := by
 unfold PN.wv setP
 simp only [setN_len]
theorem setP_av (p : ByteArray) (o : Nat) (v : Int) (x : PN) : (setP p o v x).av = x.av := by
 unfold PN.av setP
 simp only [setN_acl]
theorem setP_cs (p : ByteArray) (o : Nat) (v : Int) (x : PN) : (setP p o v x).cs = x.cs := by
 unfold setP
 rw [setN_same]
 unfold PN.cs nclT
 simp only [setN_len]
theorem findP_set (l : List PN) (p : ByteArray) (o : Nat) (v : Int) (q : ByteArray) : findP (l.map (setP p o v)) q = (findP l q).map (setP p o v) := by
 unfold findP
 rw [List.find?_map]
 congr 1
 congr 1
 funext x
 show eqs (setN p o v x.n).path q = eqs x.n.path q
 rw [setN_path]
theorem segP_set (L : List Nod) (p : ByteArray) (o : Nat) (v : Int) (u : ByteArray) (t : Lab) (q : ByteArray) (hz : eqs (⟨#[]⟩ : ByteArray) p = false) : (segP (setW L p o v) u t q).is = (segP L u t q).is ∧ (segP (setW L p o v) u t q).md = (segP L u t q).md ∧ (segP (setW L p o v) u t q).rg = (segP L u t q).rg ∧ (segP (setW L p o v) u t q).ws.length = (segP L u t q).ws.length := by
 unfold segP
 rw [see_set, got_set L p o v q hz, setN_dir, setN_rg, mods_set]
 by_cases h : seeE L t q ≠ 0 ∨ (gotN L q).dir = true
 ·rw [if_pos h, if_pos h]
  exact ⟨rfl, rfl, rfl, rfl⟩
 ·rw [if_neg h, if_neg h]
  exact ⟨rfl, rfl, rfl, setN_len p o v _⟩
theorem segQ_v (l : List PN) (u : ByteArray) (t : Lab) (q : ByteArray) (h : (segP (namesP l) u t q).is = true) : segQ l u t q = ⟨segP (namesP l) u t q, (gotP l q).wa, (gotP l q).cw⟩ ∧ (segQ l u t q).v = (gotP l q).wv ∧ (segQ l u t q).g.ws = (gotP l q).n.words := by
 obtain ⟨h1, h2, h3⟩ := seg_is h
 have e : segQ l u t q = ⟨segP (namesP l) u t q, (gotP l q).wa, (gotP l q).cw⟩ := by
  unfold segQ
  rw [if_neg (by rw [h1, h2]; simp)]
 refine ⟨e, ?_, ?_⟩
 ·rw [e]
  unfold PG.v PN.wv
  simp only [h3, gotP_n]
 ·rw [e]
  simp only [h3, gotP_n]
theorem gotP_find {l : List PN} {t : Lab} {q : ByteArray} (h : seeE (namesP l) t q = 0) : findP l q = some (gotP l q) ∧ gotP l q ∈ l ∧ eqs (gotP l q).n.path q = true := by
 obtain ⟨_, _, x, hx⟩ := see_zero.1 h
 rw [find_names] at hx
 obtain ⟨d, hd, _⟩ := Option.map_eq_some_iff.1 hx
 have e : gotP l q = d := by
  unfold gotP
  rw [hd]
  rfl
 rw [e]
 exact ⟨hd, List.mem_of_find?_eq_some hd, List.find?_some (p := fun x : PN => eqs x.n.path q) hd⟩
theorem segV_set (l : List PN) (p : ByteArray) (o : Nat) (v : Int) (u : ByteArray) (t : Lab) (q : ByteArray) (hz : eqs (⟨#[]⟩ : ByteArray) p = false) : (segQ (l.map (setP p o v)) u t q).g.is = (segQ l u t q).g.is ∧ sg6 (segQ (l.map (setP p o v)) u t q).g (segQ (l.map (setP p o v)) u t q).v = sg6 (segQ l u t q).g (segQ l u t q).v := by
 have h1 := segP_set (namesP l) p o v u t q hz
 rw [← setP_names] at h1
 rw [segQ_g, segQ_g]
 refine ⟨h1.1, ?_⟩
 cases hi : (segP (namesP l) u t q).is
 ·have e1 : segQ l u t q = zeroPG := by
    unfold segQ
    unfold segP at hi
    by_cases h : seeE (namesP l) t q ≠ 0 ∨ (gotN (namesP l) q).dir = true
    ·rw [if_pos h]
    ·rw [if_neg h] at hi; cases hi
  have e2 : segQ (l.map (setP p o v)) u t q = zeroPG := by
   have hi' := h1.1
   rw [hi] at hi'
   unfold segQ
   unfold segP at hi'
   by_cases h : seeE (namesP (l.map (setP p o v))) t q ≠ 0 ∨ (gotN (namesP (l.map (setP p o v))) q).dir = true
   ·rw [if_pos h]
   ·rw [if_neg h] at hi'; cases hi'
  have g1 := segQ_g l u t q
  have g2 := segQ_g (l.map (setP p o v)) u t q
  rw [e1] at g1
  rw [e2] at g2
  rw [e1, e2, ← g1, ← g2]
 ·have hi' := h1.1
  rw [hi] at hi'
  have hsee := (seg_is hi).1
  obtain ⟨-, v1, -⟩ := segQ_v l u t q hi
  obtain ⟨-, v2, -⟩ := segQ_v (l.map (setP p o v)) u t q hi'
  rw [v1, v2]
  have hg : gotP (l.map (setP p o v)) q = setP p o v (gotP l q) := by
   unfold gotP
   rw [findP_set, (gotP_find hsee).1]
   rfl
  rw [hg, setP_wv]
  unfold sg6
  rw [h1.2.1, h1.2.2.1]
theorem knP_map (f : ByteArray → PG) (bs : List ByteArray) (k : Int) : knP (bs.map f) k = if k < 0 then zeroPG else ((bs[k.toNat]?).map f).getD zeroPG := by
 unfold knP
 by_cases h : k < 0
 ·rw [if_pos h, if_pos h]
 ·rw [if_neg h, if_neg h, List.getD_eq_getElem?_getD, List.getElem?_map]
theorem two_of {α : Type} {R : α → α → Prop} : ∀ {l : List α}, l.Pairwise R → ∀ {x y : α}, x ∈ l → y ∈ l → x = y ∨ R x y ∨ R y x
 | [], _, _, _, h, _ => by cases h
 | a :: r, hp, x, y, hx, hy => by
  obtain ⟨h1, h2⟩ := List.pairwise_cons.1 hp
  rcases List.mem_cons.1 hx with rfl | hx' <;> rcases List.mem_cons.1 hy with rfl | hy'
  ·exact .inl rfl
  ·exact .inr (.inl (h1 _ hy'))
  ·exact .inr (.inr (h1 _ hx'))
  ·exact two_of h2 hx' hy'
structure PMq (W : World) (B L0 bm n : Nat) (u : ByteArray) (t : Lab) (bs : List ByteArray) (l : List PN) : Prop where
 ln : l.length = n
 row : OwnN W B (.slice (some ⟨B, 0, none⟩) n n) l
 own : OwnX W (B + 1) l
 lo : ∀ y ∈ l, ∀ g, (y.av.ownBlock = some g ∨ y.wv.ownBlock = some g) → g < L0
 map : MapI W bm (segV (bs.map (segQ l u t))) (fun k => (kn ((bs.map (segQ l u t)).map (·.g)) k).is)
 bm : L0 ≤ bm
 B0 : B < L0
section
variable {W W' : World} {B L0 bm n : Nat} {u : ByteArray} {t : Lab} {bs : List ByteArray} {l : List PN}
theorem PMq.keep (h : PMq W B L0 bm n u t bs l) (hb : ∀ j, (B ≤ j ∧ j < L0) ∨ j = bm → W'.heap[j]? = W.heap[j]?) : PMq W' B L0 bm n u t bs l := by
 refine ⟨h.ln, h.row.keep fun k hk => ?_, ⟨fun x hx => (h.own.acl x hx).keep fun k hk => hb k (.inl ⟨?_, h.lo x hx k (.inl hk)⟩), fun x hx => (h.own.wds x hx).keep fun k hk => hb k (.inl ⟨?_, h.lo x hx k (.inr hk)⟩), h.own.dis, h.own.apt⟩, h.lo, h.map.same (hb bm (.inr rfl)), h.bm, h.B0⟩
 ·have e : B = k := by simpa [Value.ownBlock] using hk
  exact hb k (.inl ⟨by omega, by have := h.B0; omega⟩)
 ·have := ((h.own.acl x hx).lt hk).1
  omega
 ·have := ((h.own.wds x hx).lt hk).1
  omega
theorem PMq.below (h : PMq W B L0 bm n u t bs l) (hb : Below W.heap.size W W') : PMq W' B L0 bm n u t bs l := h.keep fun j hj => hb.block j (by
 have := h.map.lt
 have := h.bm
 omega)
theorem PMq.rowN (h : PMq W B L0 bm n u t bs l) : RowN W (some ⟨B, 0, none⟩) l := by
 obtain ⟨a, c, hv, -, -, hr⟩ := h.row.slice pn_len
 injection hv with e1 e2 e3
 subst e1
 refine ⟨hr, fun x hx => ⟨?_, ?_⟩⟩
 ·obtain ⟨a1, c1, h1, -, -, h2⟩ := (h.own.acl x hx).slice gr_okT.len
  unfold PN.av at h1
  injection h1 with q1 q2 q3
  rw [q1]
  exact row_grs h2
 ·obtain ⟨a1, c1, h1, -, -, h2⟩ := (h.own.wds x hx).slice wd_okC.len
  unfold PN.wv at h1
  injection h1 with q1 q2 q3
  rw [q1]
  exact row_wrds h2
theorem PMq.mat (h : PMq W B L0 bm n u t bs l) : MAt bm none (B + 1) (bs.map (segQ l u t)) W := by
 refine ⟨h.map, fun x hx hi => ?_⟩
 obtain ⟨q, _, rfl⟩ := List.mem_map.1 hx
 rw [segQ_g] at hi
 obtain ⟨-, h1, h2⟩ := segQ_v l u t q hi
 rw [h1, h2]
 exact h.own.wds _ (gotP_find (seg_is hi).1).2.1
theorem own_same {α : Type} {e : TypeId} {sz : Nat} {f : α → List Value} {base : Nat} {v : Value} {l : List α} {s : α → α} (h : OwnR e sz f W base v l) (hs : ∀ x, f (s x) = f x) : OwnR e sz f W base v (l.map s) := by
 have he : (l.map s).flatMap f = l.flatMap f := by
  rw [List.flatMap_map]
  congr 1
  funext x
  exact hs x
 unfold OwnR at h ⊢
 rw [List.length_map, he]
 exact h
theorem PMq.wrote (h : PMq W B L0 bm n u t bs l) (ho : Ordered (namesP l)) (hne : ∀ x ∈ namesP l, x.path ≠ ⟨#[]⟩) {k o y : Int} (hw : WrtM (bs.map (segQ l u t)) k o y W W') (hk : (kn ((bs.map (segQ l u t)).map (·.g)) k).is = true) (hin : inG (kn ((bs.map (segQ l u t)).map (·.g)) k) o) :
    PMq W' B L0 bm n u t bs (l.map (setP (bindP bs k) o.toNat y)) ∧ Sole L0 W W ∧ (∀ j, j < W.heap.size → (j < B + 1 ∨ L0 ≤ j) → W'.heap[j]? = W.heap[j]?) := by
 obtain ⟨g, hg, hgl, hs, hce⟩ := hw
 have hkp := knP_mem hk
 have hkg := knP_g (bs.map (segQ l u t)) k
 obtain ⟨p, hp, hq⟩ : ∃ p, bindP bs k = p ∧ knP (bs.map (segQ l u t)) k = segQ l u t p := by
  have h1 := hkp.2.1
  rw [List.getElem?_map] at h1
  obtain ⟨p, hp, hq⟩ := Option.map_eq_some_iff.1 h1
  refine ⟨p, ?_, hq.symm⟩
  unfold bindP
  rw [List.getD_eq_getElem?_getD, hp]
  rfl
 rw [hp]
 rw [hq] at hg hkg
 rw [← hkg] at hk hin
 rw [segQ_g] at hk
 obtain ⟨hsee, hdir, hsg⟩ := seg_is hk
 obtain ⟨-, hv, hws⟩ := segQ_v l u t p hk
 obtain ⟨hfd, hdm, hdp⟩ := gotP_find hsee
 obtain ⟨d, hd⟩ : ∃ d, gotP l p = d := ⟨_, rfl⟩
 rw [hd] at hv hws hfd hdm hdp
 rw [hv] at hg
 have hgB := ((h.own.wds d hdm).lt hg).1
 have hgL := h.lo d hdm g (.inr hg)
 have hlm := h.map.lt
 have hbm := h.bm
 have hz : eqs (⟨#[]⟩ : ByteArray) p = false := eqs_ne fun q => hne d.n (List.mem_map.2 ⟨d, hdm, rfl⟩) (by rw [eqs_iff.1 hdp, q])
 have hoth : ∀ j, j < W.heap.size → j ≠ g → W'.heap[j]? = W.heap[j]? := hs.block
 have hor : l.Pairwise fun a b => lt a.n.path b.n.path = true := by
  have := ho
  unfold Ordered namesP at this
  rw [List.pairwise_map] at this
  exact this
 have huniq : ∀ x ∈ l, eqs x.n.path p = true → x = d := fun x hx hxp => by
  have e : x.n.path = d.n.path := by rw [eqs_iff.1 hxp, eqs_iff.1 hdp]
  rcases two_of hor hx hdm with q | q | q
  ·exact q
  ·exact absurd e (lt_ne q)
  ·exact absurd e.symm (lt_ne q)
 have hgne : ∀ x ∈ l, eqs x.n.path p = false → ∀ j, x.wv.ownBlock = some j → j ≠ g := fun x hx hxp j hj q => by
  subst q
  rcases two_of h.own.dis hx hdm with r | r | r
  ·rw [r, hdp] at hxp; cases hxp
  ·exact r j hj hg
  ·exact r j hg hj
 have hlen : o.toNat < d.n.words.length ∧ 0 ≤ o := by
  have h1 := hin.1
  have h2 := hin.2
  rw [hws] at h2
  omega
 refine ⟨⟨by rw [List.length_map]; exact h.ln, (own_same h.row (setP_cs p o.toNat y)).keep fun j hj => ?_, ⟨fun x hx => ?_, fun x hx => ?_, ?_, fun x hx z hz' j hj => ?_⟩, fun x hx j hj => ?_, ?_, hbm, h.B0⟩, ⟨rfl, rfl, rfl, Nat.le_refl _, fun _ _ _ => rfl⟩, fun j hj hjj => hoth j hj (by omega)⟩
 ·have e : B = j := by simpa [Value.ownBlock] using hj
  exact hoth j (by have := h.B0; omega) (by omega)
 ·obtain ⟨x0, hx0, rfl⟩ := List.mem_map.1 hx
  rw [setP_av]
  have h1 := h.own.acl x0 hx0
  have h2 : (setP p o.toNat y x0).n.acl = x0.n.acl := setN_acl _ _ _ _
  rw [h2]
  exact h1.keep fun j hj => hoth j (h1.lt hj).2 (fun q => h.own.apt d hdm x0 hx0 g hg (by rw [hj, q]))
 ·obtain ⟨x0, hx0, rfl⟩ := List.mem_map.1 hx
  rw [setP_wv]
  have h1 := h.own.wds x0 hx0
  cases hxp : eqs x0.n.path p
  ·have h2 : (setP p o.toNat y x0).n.words = x0.n.words := by
     unfold setP setN
     rw [if_neg (by rw [hxp]; decide)]
   rw [h2]
   exact h1.keep fun j hj => hoth j (h1.lt hj).2 (hgne x0 hx0 hxp j hj)
  ·have h2 : (setP p o.toNat y x0).n.words = x0.n.words.set o.toNat y := by
     unfold setP setN
     rw [if_pos hxp]
   rw [h2]
   have h3 := huniq x0 hx0 hxp
   subst h3
   obtain ⟨g', cap', hv', hg'⟩ : ∃ g' cap', x0.wv = .slice (some ⟨g', 0, none⟩) x0.n.words.length cap' ∧ True := by
    obtain ⟨g', cap', e1, -, -⟩ := h1.formR (by omega)
    exact ⟨g', cap', e1, trivial⟩
   have hgg : g' = g := by
    rw [hv'] at hg
    simpa [Value.ownBlock] using hg
   subst hgg
   rw [hv'] at h1 ⊢
   obtain ⟨xw, hxw⟩ : ∃ xw, x0.n.words[o.toNat]? = some xw := ⟨_, List.getElem?_eq_getElem hlen.1⟩
   have h4 := (OwnR.storedR (f := wcl) (sz := 1) wd_okC.len h1 rfl (j := o.toNat) (o := 0) (y := y) (u := .int .i64 y) hxw (by decide) rfl).1
   rw [Nat.mul_one, Nat.add_zero] at h4
   refine h4.keep fun j hj => ?_
   have e : g' = j := by simpa [Value.ownBlock] using hj
   rw [← e]
   exact hce
 ·rw [List.pairwise_map]
  exact List.Pairwise.imp (fun {a b} q j => by rw [setP_wv, setP_wv]; exact q j) h.own.dis
 ·obtain ⟨x0, hx0, rfl⟩ := List.mem_map.1 hx
  obtain ⟨z0, hz0, rfl⟩ := List.mem_map.1 hz'
  rw [setP_wv] at hj
  rw [setP_av]
  exact h.own.apt x0 hx0 z0 hz0 j hj
 ·obtain ⟨x0, hx0, rfl⟩ := List.mem_map.1 hx
  rw [setP_av, setP_wv] at hj
  exact h.lo x0 hx0 j hj
 ·have key : ∀ j, (knP (bs.map (segQ (l.map (setP p o.toNat y)) u t)) j).g.is = (knP (bs.map (segQ l u t)) j).g.is ∧ segV (bs.map (segQ (l.map (setP p o.toNat y)) u t)) j = segV (bs.map (segQ l u t)) j := fun j => by
   unfold segV
   rw [knP_map, knP_map]
   by_cases hj : j < 0
   ·rw [if_pos hj, if_pos hj]
    exact ⟨rfl, rfl⟩
   ·rw [if_neg hj, if_neg hj]
    cases bs[j.toNat]? with
    | none => exact ⟨rfl, rfl⟩
    | some q =>
     have h5 := segV_set l p o.toNat y u t q hz
     exact ⟨h5.1, by show Value.agg (sg6 (segQ (l.map (setP p o.toNat y)) u t q).g (segQ (l.map (setP p o.toNat y)) u t q).v).toArray = Value.agg (sg6 (segQ l u t q).g (segQ l u t q).v).toArray; rw [h5.2]⟩
  refine (h.map.same (hoth bm hlm (by omega))).turn (fun j _ => (key j).2) (fun j => ?_)
  rw [← knP_g, ← knP_g]
  exact (key j).1
end
end Go.Proofs.YtidihdiffiffmaaGreatDoor
namespace Go.Proofs.YtidihdiffiffmaaGreatDoor
open Go.RowKit
set_option maxRecDepth 8000
set_option linter.unusedSimpArgs false
set_option linter.unusedVariables false
theorem setM_all : ∀ (Y X p : List Value), X.length = Y.length → setM (p ++ X) p.length Y = p ++ Y
 | [], X, p, h => by
  have : X = [] := List.eq_nil_of_length_eq_zero h
  subst this
  rfl
 | y :: Y, [], p, h => by simp at h
 | y :: Y, x :: X, p, h => by
  have ih := setM_all Y X (p ++ [y]) (by simpa using h)
  rw [setM]
  have e : (p ++ x :: X).set p.length y = (p ++ [y]) ++ X := by simp
  rw [e]
  simpa using ih
structure LI (l : List PN) : Prop where
 inv : InvP (namesP l)
 len : l.length ≤ 1000
 cap : ∀ x ∈ l, x.wa = none → x.cw = 0
theorem LI.acl {l : List PN} (h : LI l) : ∀ x ∈ l, chkA x.n.acl = 0 := fun x hx => (nodC_zero.1 (h.inv.tr.ok x.n (List.mem_map.2 ⟨x, hx, rfl⟩))).2.2.2.1
theorem segs_names (l : List PN) (u : ByteArray) (t : Lab) (bs : List ByteArray) : (bs.map (segQ l u t)).map (·.g) = segsP (namesP l) u t bs := by
 unfold segsP
 rw [List.map_map]
 exact List.map_congr_left fun p _ => segQ_g l u t p
def accR (o : List Int) (r : Rn) : Rn := ⟨r.l, r.c, o ++ r.out, r.over, r.e⟩
theorem accR_nil (r : Rn) : accR [] r = r := rfl
theorem accR_acc (a b : List Int) (r : Rn) : accR a (accR b r) = accR (a ++ b) r := by simp [accR, List.append_assoc]
theorem told_len (O : Ot) : (toldO O).length ≤ 1 := by
 unfold toldO
 split
 ·simp
 ·simp
theorem runP_fault {u : ByteArray} {t : Lab} {bs : List ByteArray} {n : Nat} {L : List Nod} {c : Cp} {O : Ot} (h : stepC c (segsP L u t bs) = O) (he : O.e ≠ 0) : runP u t bs (n + 1) L c = ⟨L, c, [], true, O.e⟩ := by
 rw [runP, h, if_pos he]
theorem runP_halt {u : ByteArray} {t : Lab} {bs : List ByteArray} {n : Nat} {L : List Nod} {c : Cp} {O : Ot} (h : stepC c (segsP L u t bs) = O) (he : O.e = 0) (hh : O.t.hl = true) : runP u t bs (n + 1) L c = ⟨wrL L bs O.wr, O.t, toldO O, true, 0⟩ := by
 rw [runP, h, if_neg (by simp [he]), if_pos hh]
theorem runP_on {u : ByteArray} {t : Lab} {bs : List ByteArray} {n : Nat} {L : List Nod} {c : Cp} {O : Ot} (h : stepC c (segsP L u t bs) = O) (he : O.e = 0) (hh : O.t.hl = false) : runP u t bs (n + 1) L c = accR (toldO O) (runP u t bs n (wrL L bs O.wr) O.t) := by
 rw [runP, h, if_neg (by simp [he]), if_neg (by simp [hh])]
 rfl
theorem runP_on_eq {u : ByteArray} {t : Lab} {bs : List ByteArray} {n : Nat} {L : List Nod} {c : Cp} {O : Ot} (h : stepC c (segsP L u t bs) = O) (he : O.e = 0) : runP u t bs (n + 1) L c = if O.t.hl = true then ⟨wrL L bs O.wr, O.t, toldO O, true, 0⟩ else accR (toldO O) (runP u t bs n (wrL L bs O.wr) O.t) := by
 cases hh : O.t.hl
 ·rw [runP_on h he hh]; rfl
 ·rw [runP_halt h he hh]; rfl
theorem results_run {fn : Func} {T : TypeId} {d : TypeDesc} (h : fn.results = #[.tmp 8, .cell 9 T, .tmp 10, .tmp 11, .tmp 12]) (tmps : Array Value) (w : World) (b : Nat) (h9 : tmps.getD 9 undef = .pointer (some ⟨b, 0, none⟩)) (v8 v10 v11 v12 : Value) (h8 : tmps.getD 8 undef = v8) (h10 : tmps.getD 10 undef = v10) (h11 : tmps.getD 11 undef = v11) (h12 : tmps.getD 12 undef = v12)
    (cs : List Value) (hr : w.rangeAt b 0 cs) (hu : Tryz.prog.underlying T = some d) (hd : d.isRow = true) (hi : (Tryz.prog.info? T).map (·.size) = some cs.length) : (results fn tmps).run Tryz.prog w = .ok (.tuple #[v8, .agg cs.toArray, v10, v11, v12]) w := by
 have g8 : tmps[8]?.getD undef = v8 := by simpa using h8
 have g9 : tmps[9]?.getD undef = .pointer (some ⟨b, 0, none⟩) := by simpa using h9
 have g10 : tmps[10]?.getD undef = v10 := by simpa using h10
 have g11 : tmps[11]?.getD undef = v11 := by simpa using h11
 have g12 : tmps[12]?.getD undef = v12 := by simpa using h12
 have e := run_loadVar_mid (P := Tryz.prog) w b 0 T cs d hr hu hd hi
 simp [results, h, g8, g9, g10, g11, g12, asAddr, e]
end Go.Proofs.YtidihdiffiffmaaGreatDoor
namespace Go.Proofs.YtidihdiffiffmaaGreatDoor
open Go.RowKit
set_option maxRecDepth 8000
set_option linter.unusedSimpArgs false
set_option linter.unusedVariables false
def FW (O : Ot) : Prop := O.e ≠ 0 → O.wr = none
theorem ite_fw {p : Prop} [Decidable p] {x y : Ot} (h1 : p → FW x) (h2 : ¬ p → FW y) : FW (if p then x else y) := by
 by_cases h : p
 ·rw [if_pos h]; exact h1 h
 ·rw [if_neg h]; exact h2 h
theorem fw_step (c : Cp) (m : List Sg) : FW (stepC c m) := by
 have ok : ∀ t, FW (okC t) := fun t h => absurd rfl h
 have fl : ∀ e, FW (flt e) := fun e _ => rfl
 unfold stepC
 refine ite_fw (fun _ => ok _) (fun _ => ite_fw (fun _ => fl _) (fun _ => ?_))
 unfold opC
 refine ite_fw (fun _ => ok _) (fun _ => ?_)
 refine ite_fw (fun _ => ite_fw (fun _ => fl _) (fun _ => ok _)) (fun _ => ?_)
 refine ite_fw (fun _ => ite_fw (fun _ => fl _) (fun _ => fun h => absurd rfl h)) (fun _ => ?_)
 refine ite_fw (fun _ => ok _) (fun _ => ?_)
 refine ite_fw (fun _ => ok _) (fun _ => ?_)
 refine ite_fw (fun _ => ite_fw (fun _ => fl _) (fun _ => ok _)) (fun _ => ?_)
 refine ite_fw (fun _ => ok _) (fun _ => ?_)
 refine ite_fw (fun _ => ok _) (fun _ => ?_)
 refine ite_fw (fun _ => ite_fw (fun _ => fl _) (fun _ => ok _)) (fun _ => ?_)
 refine ite_fw (fun _ => ok _) (fun _ => ?_)
 refine ite_fw (fun _ => ite_fw (fun _ => fl _) (fun _ => ok _)) (fun _ => ?_)
 refine ite_fw (fun _ => ite_fw (fun _ => fl _) (fun _ => ok _)) (fun _ => ?_)
 exact ite_fw (fun _ => fun h => absurd rfl h) (fun _ => ok _)
structure Oth (b B L0 : Nat) (w W : World) : Prop where
 os : W.os = w.os
 tape : W.tape = w.tape
 output : W.output = w.output
 size : w.heap.size ≤ W.heap.size
 block : ∀ j, j < b → (j < B + 1 ∨ L0 ≤ j) → W.heap[j]? = w.heap[j]?
theorem Oth.of {b B L0 : Nat} {w W : World} (h : Below b w W) : Oth b B L0 w W := ⟨h.os, h.tape, h.output, h.size, fun j hj _ => h.block j hj⟩
theorem Oth.trans {b B L0 : Nat} {w W X : World} (h : Oth b B L0 w W) (k : Oth b B L0 W X) : Oth b B L0 w X := ⟨k.os.trans h.os, k.tape.trans h.tape, k.output.trans h.output, Nat.le_trans h.size k.size, fun j hj hc => (k.block j hj hc).trans (h.block j hj hc)⟩
theorem path_ne {L : List Nod} (h : InvP L) : ∀ x ∈ L, x.path ≠ ⟨#[]⟩ := fun x hx q => by
 have h1 := (nodC_zero.1 (h.tr.ok x hx)).1
 rw [q] at h1
 exact absurd h1 (by decide +kernel)
theorem step_pm {w W1 : World} {B L0 bm n : Nat} {u : ByteArray} {t : Lab} {bs : List ByteArray} {l : List PN} {c : Cp} {nn : Int} {O : Ot} (hP : PMq w B L0 bm n u t bs l) (hI : InvP (namesP l)) (hO : stepC c (segsP (namesP l) u t bs) = O) (hw : Wr bm w.heap.size (bs.map (segQ l u t)) nn w O.wr W1) :
    ∃ l1, PMq W1 B L0 bm n u t bs l1 ∧ namesP l1 = wrL (namesP l) bs O.wr ∧ Oth w.heap.size B L0 w W1 := by
 cases hr : O.wr with
 | none =>
  rw [hr] at hw
  have hb : Below w.heap.size w W1 := hw
  exact ⟨l, hP.below hb, rfl, Oth.of hb⟩
 | some p =>
  obtain ⟨k, o, y⟩ := p
  rw [hr] at hw
  have hwm : WrtM (bs.map (segQ l u t)) k o y w W1 := hw
  obtain ⟨h1, -, h2, -⟩ := wrQ_step c (segsP (namesP l) u t bs) k o y (by rw [hO]; exact hr)
  rw [← segs_names] at h1 h2
  obtain ⟨h3, -, h4⟩ := hP.wrote hI.tr.ord (path_ne hI) hwm h1 h2
  refine ⟨_, h3, by rw [setP_names]; rfl, ?_⟩
  obtain ⟨g, hg, hgl, hs, -⟩ := hwm
  exact ⟨hs.os, hs.tape, hs.output, hs.size, h4⟩
structure PS (v0 : Value) (w W : World) (B L0 bm n N : Nat) (u : ByteArray) (t : Lab) (bs : List ByteArray) (R : Rn) (m : Nat) (l : List PN) (c : Cp) (v : Value) (acc : List Int) (tv : Value) : Prop where
 bl : Oth w.heap.size B L0 w W
 pm : PMq W B L0 bm n u t bs l
 inv : InvP (namesP l)
 ok : c.Ok
 st : BlkL w.heap.size (stCs c v) W
 rs : BlkL (w.heap.size + 1) (stCs zeroC nilS) W
 stk : OwnR 102 3 frc W L0 v c.st
 out : OwnR 2 1 wcl W (w.heap.size + 2) tv acc
 apa : ∀ k, v.ownBlock = some k → k ≠ w.heap.size ∧ k ≠ w.heap.size + 1 ∧ tv.ownBlock ≠ some k
 al : acc.length + m ≤ N
 lw : bm < w.heap.size
 nb : ∀ k, v.ownBlock = some k → v0.ownBlock = some k ∨ w.heap.size ≤ k
 eqn : c.hl = false → R = accR acc (runP u t bs m (namesP l) c)
 eqh : c.hl = true → R = ⟨namesP l, c, acc, true, 0⟩
def StepsR (v0 : Value) (B L0 bm n : Nat) (u : ByteArray) (t : Lab) (bs : List ByteArray) (R : Rn) (w : World) (e : Ending) (w' : World) : Prop := ∃ (l' : List PN) (v' tv : Value), e = .returned (.tuple #[.agg (stCs R.c v').toArray, tv, .int .i64 R.e]) ∧ PMq w' B L0 bm n u t bs l' ∧ namesP l' = R.l ∧ InvP R.l ∧ R.c.Ok ∧ OwnR 102 3 frc w' L0 v' R.c.st ∧ OwnR 2 1 wcl w' (w.heap.size + 2) tv R.out ∧ R.over = (R.c.hl || (R.e != 0)) ∧ Oth w.heap.size B L0 w w' ∧ ∀ k, v'.ownBlock = some k → v0.ownBlock = some k ∨ w.heap.size ≤ k
theorem results_st3 {fn : Func} {T : TypeId} {d : TypeDesc} (h : fn.results = #[.cell 6 T, .tmp 7, .tmp 8]) (tmps : Array Value) (w : World) (b : Nat) (h6 : tmps.getD 6 undef = .pointer (some ⟨b, 0, none⟩)) (v7 v8 : Value) (h7 : tmps.getD 7 undef = v7) (h8 : tmps.getD 8 undef = v8)
    (cs : List Value) (hr : w.rangeAt b 0 cs) (hu : Tryz.prog.underlying T = some d) (hd : d.isRow = true) (hi : (Tryz.prog.info? T).map (·.size) = some cs.length) : (results fn tmps).run Tryz.prog w = .ok (.tuple #[.agg cs.toArray, v7, v8]) w := by
 have g6 : tmps[6]?.getD undef = .pointer (some ⟨b, 0, none⟩) := by simpa using h6
 have g7 : tmps[7]?.getD undef = v7 := by simpa using h7
 have g8 : tmps[8]?.getD undef = v8 := by simpa using h8
 have e := run_loadVar_mid (P := Tryz.prog) w b 0 T cs d hr hu hd hi
 simp [results, h, g6, g7, g8, asAddr, e]
theorem PS.ends {v0 : Value} {w W W9 : World} {B L0 bm n N : Nat} {u : ByteArray} {t : Lab} {bs : List ByteArray} {R : Rn} {m : Nat} {l : List PN} {c : Cp} {v : Value} {acc : List Int} {tv : Value} {e : Int} {over : Bool} (h : PS v0 w W B L0 bm n N u t bs R m l c v acc tv) (hW : W.setCells (w.heap.size + 1) 0 (stCs c v) = W9) (hR : R = ⟨namesP l, c, acc, over, e⟩) (ho : over = (c.hl || (e != 0))) :
    StepsR v0 B L0 bm n u t bs R w (.returned (.tuple #[.agg (stCs c v).toArray, tv, .int .i64 e])) W9 := by
 have hk : ∀ j, j ≠ w.heap.size + 1 → W9.heap[j]? = W.heap[j]? := fun j hj => by rw [← hW]; exact heap_setCells_other hj _ _ _
 have hbm := h.pm.bm
 have hml := h.pm.map.lt
 have hs := h.bl.size
 have hsz : W.heap.size ≤ W9.heap.size := by rw [← hW]; exact (Below.cells (B := 0) (b := w.heap.size + 1) (Nat.zero_le _) (stCs c v) 0 (Below.refl 0 W)).size
 have hb9 := Below.cells (B := w.heap.size) (b := w.heap.size + 1) (Nat.le_succ _) (stCs c v) 0 (Below.refl w.heap.size W)
 rw [hW] at hb9
 subst hR
 refine ⟨l, v, tv, rfl, h.pm.keep fun j hj => hk j (by have := h.lw; rcases hj with hj | hj <;> omega), rfl, h.inv, h.ok, h.stk.keep fun j hj => hk j (h.apa j hj).2.1, h.out.keep fun j hj => hk j (by have := (h.out.lt hj).1; omega), ho, h.bl.trans (Oth.of hb9), h.nb⟩
theorem PS.reach {v0 : Value} {w W : World} {B L0 bm n N : Nat} {u : ByteArray} {t : Lab} {bs : List ByteArray} {R : Rn} {m : Nat} {l : List PN} {c : Cp} {v : Value} {acc : List Int} {tv : Value} (h : PS v0 w W B L0 bm n N u t bs R m l c v acc tv) : ∃ W9, W.setCells (w.heap.size + 1) 0 (stCs c v) = W9 ∧ W.there (w.heap.size + 1) 0 (stCs c v).length ∧ W9.rangeAt (w.heap.size + 1) 0 (stCs c v) := by
 obtain ⟨W9, h1, h2, h3, -⟩ := put_any h.rs (ds := stCs c v) (by rw [st_len h.ok.ps]; rfl) (by rw [st_len h.ok.ps]; decide)
 exact ⟨W9, h1, h2, h3.range⟩
theorem PS.next {v0 : Value} {w Z : World} {B L0 bm n N : Nat} {u : ByteArray} {t : Lab} {bs : List ByteArray} {R : Rn} {k : Nat} {l1 : List PN} {c1 : Cp} {v1 : Value} {acc2 : List Int} {tv2 : Value} {X : List Value} (hbl : Oth w.heap.size B L0 w Z) (hP : PMq Z B L0 bm n u t bs l1) (hinv : InvP (namesP l1)) (hok : c1.Ok) (hst : BlkL w.heap.size X Z) (hX : X.length = 18) (hrs : BlkL (w.heap.size + 1) (stCs zeroC nilS) Z)
    (hv1 : OwnR 102 3 frc Z L0 v1 c1.st) (hout : OwnR 2 1 wcl Z (w.heap.size + 2) tv2 acc2) (hap : ∀ j, v1.ownBlock = some j → j ≠ w.heap.size ∧ j ≠ w.heap.size + 1 ∧ tv2.ownBlock ≠ some j) (hal : acc2.length + k ≤ N) (hlw : bm < w.heap.size) (hnb : ∀ k, v1.ownBlock = some k → v0.ownBlock = some k ∨ w.heap.size ≤ k) (he1 : c1.hl = false → R = accR acc2 (runP u t bs k (namesP l1) c1)) (he2 : c1.hl = true → R = ⟨namesP l1, c1, acc2, true, 0⟩) :
    ∃ W8, Z.setCells w.heap.size 0 (stCs c1 v1) = W8 ∧ Z.there w.heap.size 0 (stCs c1 v1).length ∧ PS v0 w W8 B L0 bm n N u t bs R k l1 c1 v1 acc2 tv2 := by
 have hl := st_len (v := v1) hok.ps
 obtain ⟨W8, h1, h2, h3, h4⟩ := put_any hst (ds := stCs c1 v1) (by rw [hX, hl]) (by rw [hl]; decide)
 have hk : ∀ j, j ≠ w.heap.size → W8.heap[j]? = Z.heap[j]? := fun j hj => by rw [← h1]; exact heap_setCells_other hj _ _ _
 have hL0 := hP.bm
 refine ⟨W8, h1, h2, hbl.trans (Oth.of (h4 w.heap.size Z (Nat.le_refl _) (Below.refl _ _))), hP.keep fun j hj => hk j (by rcases hj with hj | hj <;> omega), hinv, hok, h3, ⟨hrs.1.same (hk _ (by omega)), Nat.lt_of_lt_of_le hrs.2 (h4 w.heap.size Z (Nat.le_refl _) (Below.refl _ _)).size⟩, hv1.keep fun j hj => hk j (hap j hj).1, hout.keep fun j hj => hk j (by have := (hout.lt hj).1; omega), hap, hal, hlw, hnb, he1, he2⟩
theorem appC {t : TypeId} {u v r : Value} {w w' : World} (x y : Operand) (hc : (Builtin.append_ #[t, t] t #[u, v]).run Tryz.prog w = .ok r w') {ops : Array Oper} {o : Oper} {rest : List Oper} {Q : Exit → Act → World → Prop} {a : Act} (h1 : o.guard = none) (h2 : o.op = .call { callee := .builtin .append, args := #[x, y], argTypes := #[t, t] }) (h3 : o.type = t) (h4 : a.eval x = u) (h5 : a.eval y = v) (h6 : wpList Tryz.prog ops Q rest (a.put o.dst r) w') : wpList Tryz.prog ops Q (o :: rest) a w := wpList_append h1 x y h2 h3 h4 h5 hc h6
set_option maxRecDepth 8000 in
set_option maxHeartbeats 8000000 in
theorem psteps_any {B L0 bm n : Nat} {u : ByteArray} {t : Lab} {bs : List ByteArray} {l0 : List PN} (c0 : Cp) (v0 : Value) (N : Nat) (R : Rn) (hN : N ≤ 100) (hbs : bs.length ≤ 4) (hI : InvP (namesP l0)) (hc : c0.Ok) (hh0 : c0.hl = false) (hR : runP u t bs N (namesP l0) c0 = R) (w : World) (hP : PMq w B L0 bm n u t bs l0) (hv : OwnR 102 3 frc w L0 v0 c0.st) :
    Calls Tryz.prog 35 #[.agg (stCs c0 v0).toArray, memI bm, .int .i64 (N : Int)] w (StepsR v0 B L0 bm n u t bs R w) := by
 have hundS := Tryz.underlying45
 have hszS : (Tryz.prog.info? 45).map (·.size) = some 18 := by kernel_rfl
 have g0 := alloc_below w (.cells (stCs c0 v0).toArray 45)
 have f0 := blkl_alloc w (stCs c0 v0).toArray 45
 have f1 := blkl_alloc (w.alloc (.cells (stCs c0 v0).toArray 45)) (stCs zeroC nilS).toArray 45
 have g1 := alloc_below (w.alloc (.cells (stCs c0 v0).toArray 45)) (.cells (stCs zeroC nilS).toArray 45)
 rw [World.size_alloc] at f1
 have hS0 : PS v0 w ((w.alloc (.cells (stCs c0 v0).toArray 45)).alloc (.cells (stCs zeroC nilS).toArray 45)) B L0 bm n N u t bs R N l0 c0 v0 [] nilS := ⟨Oth.of (Below.then g0 g1), (hP.below g0).below g1, hI, hc, stab_blk _ _ _ _ f0 g1, f1, (hv.below g0).below g1, OwnR.nil _ _ _ _ _, fun k hk => ⟨by have := (hv.lt hk).2; omega, by have := (hv.lt hk).2; omega, fun q => by cases q⟩, by simp, hP.map.lt, fun k hk => .inl hk, fun _ => by rw [accR_nil]; exact hR.symm, fun q => by rw [hh0] at q; cases q⟩
 replace hS0 : PS v0 w ((w.alloc (.cells (stCs c0 v0).toArray 45)).alloc (.cells #[.int .i64 0, .int .i64 0, .int .i64 0, .int .i64 0, .int .i64 0, .int .i64 0, .int .i64 0, .int .i64 0, .int .i64 0, .int .i64 0, .int .i64 0, .int .i64 0, .int .i64 0, .int .i64 0, .int .i64 0, .int .i64 0, .slice none 0 0, .bool false] 45)) B L0 bm n N u t bs R N l0 c0 v0 [] nilS := hS0
 clear f0 f1 g0 g1 hP hv hc hI hR hh0
 obtain ⟨X0, hX0⟩ : ∃ X0, stCs c0 v0 = X0 := ⟨_, rfl⟩
 rw [hX0] at hS0 ⊢
 clear hX0
 go_enter Tryz.func35, Tryz.ntmps35
 go_upto_region 1 with fail
 generalize (w.alloc (.cells X0.toArray 45)).alloc (.cells #[.int .i64 0, .int .i64 0, .int .i64 0, .int .i64 0, .int .i64 0, .int .i64 0, .int .i64 0, .int .i64 0, .int .i64 0, .int .i64 0, .int .i64 0, .int .i64 0, .int .i64 0, .int .i64 0, .int .i64 0, .int .i64 0, .slice none 0 0, .bool false] 45) = W0 at *
 go_wp2_with fail
 go_loopw [2, 9] (fun t2 t9 wr => ∃ (m : Nat) (l : List PN) (c : Cp) (v : Value) (acc : List Int) (tv : Value), t2 = .int .i64 (m : Int) ∧ tv = t9 ∧ m ≤ N ∧ PS v0 w wr B L0 bm n N u t bs R m l c v acc tv) (fun t2 _ _ => (Go.RowKit.intOf t2).toNat)
 case atStart => exact ⟨N, l0, c0, v0, [], _, rfl, rfl, Nat.le_refl _, hS0⟩
 case round =>
  clear hS0
  obtain ⟨m, l, c, v, acc, tv, rfl, rfl, hmN, hS⟩ := hrel
  have hXl : (stCs c v).length = 18 := st_len hS.ok.ps
  have x17 := (hS.st.1 17 _ (st_hl hS.ok.ps)).1
  have hXr := hS.st.range
  have hvf := hS.stk.slice frc_len
  obtain ⟨W9, hW9, hth9, hr9⟩ := hS.reach
  by_cases hgo : m = 0 ∨ c.hl = true
  ·have hend : StepsR v0 B L0 bm n u t bs R w (.returned (.tuple #[.agg (stCs c v).toArray, tv, .int .i64 0])) W9 := by
     rcases hgo with h0 | h0
     ·cases hh : c.hl with
      | true => exact hS.ends hW9 (hS.eqh hh) (by rw [hh]; rfl)
      | false =>
       refine hS.ends hW9 (over := false) ?_ (by rw [hh]; rfl)
       rw [hS.eqn hh, h0]
       simp [runP, accR]
     ·exact hS.ends hW9 (hS.eqh h0) (by rw [h0]; rfl)
   have hone : ∀ y ∈ stCs c v, y.oneCell' = true := by
    obtain ⟨a1, c1, hv1, -⟩ := hvf
    exact st_one c v (by rw [hv1]; rfl)
   clear hS hvf
   obtain ⟨X, hX⟩ : ∃ X, stCs c v = X := ⟨_, rfl⟩
   rw [hX] at hXl hXr hW9 hth9 hr9 hend hone
   have hszX : (Tryz.prog.info? 45).map (·.size) = some X.length := by rw [hXl]; exact hszS
   clear hX hXl
   by_cases h0 : m = 0
   ·subst h0
    clear hgo
    go_wp2_with (first | (refine wpList_load_row rfl _ rfl w.heap.size rfl X hXr hundS rfl hszX ?_) | (refine wpList_store_row rfl _ _ rfl (w.heap.size + 1) rfl X rfl hth9 hszX hone hW9 ?_) | fail)
    refine bodyPost_ret (v := _) (results_st3 rfl _ _ (w.heap.size + 1) rfl _ _ rfl rfl X hr9 hundS rfl hszX) rfl ?_
    exact hend
   ·have h1 : c.hl = true := by rcases hgo with q | q; exact absurd q h0; exact q
    have h2 : (0 : Int) < (m : Int) := by omega
    rw [h1] at x17
    clear hgo h1
    go_wp2_with (first | (refine wpList_load_row rfl _ rfl w.heap.size rfl X hXr hundS rfl hszX ?_) | (refine wpList_store_row rfl _ _ rfl (w.heap.size + 1) rfl X rfl hth9 hszX hone hW9 ?_) | fail)
    refine bodyPost_ret (v := _) (results_st3 rfl _ _ (w.heap.size + 1) rfl _ _ rfl rfl X hr9 hundS rfl hszX) rfl ?_
    exact hend
  ·have hm0 : m ≠ 0 := fun q => hgo (.inl q)
   have hhl : c.hl = false := by
    cases q : c.hl with
    | false => rfl
    | true => exact absurd (.inr q) hgo
   obtain ⟨k, rfl⟩ : ∃ k, m = k + 1 := ⟨m - 1, by omega⟩
   clear hgo hm0
   obtain ⟨a1, c1, hv1, -, hn1, hfr⟩ := hvf
   have hMG : MG (bs.map (segQ l u t)) := ⟨by rw [List.length_map]; omega, fun x hx => by
    obtain ⟨q, _, rfl⟩ := List.mem_map.1 hx
    rw [segQ_g]
    exact seg_ok hS.inv u t q, fun x hx => by
    obtain ⟨q, _, rfl⟩ := List.mem_map.1 hx
    cases hi : (segP (namesP l) u t q).is
    ·unfold segQ
     unfold segP at hi
     by_cases h0 : seeE (namesP l) t q ≠ 0 ∨ (gotN (namesP l) q).dir = true
     ·rw [if_pos h0]; exact fun _ => rfl
     ·rw [if_neg h0] at hi; cases hi
    ·obtain ⟨h1, h2, -⟩ := segQ_v l u t q hi
     have h3 := hS.pm.own.wds _ (gotP_find (seg_is hi).1).2.1
     obtain ⟨a5, c5, h5, -, h6, -⟩ := h3.slice wd_okC.len
     unfold PN.wv at h5
     injection h5 with e1 e2 e3
     rw [h1, e1, e3]
     exact h6⟩
   have kst := cstep_any c hS.ok a1 c1 hn1 bm none (B + 1) (bs.map (segQ l u t)) hMG false 0 0 0 0 ⟨by decide, by decide⟩ wr hfr hS.pm.mat
   rw [segs_names] at kst
   rw [← hv1] at kst
   obtain ⟨O, hO⟩ : ∃ O, stepC c (segsP (namesP l) u t bs) = O := ⟨_, rfl⟩
   have hOok : O.e = 0 → O.t.Ok := fun q => by rw [← hO] at q ⊢; exact step_ok hS.ok (segs_ok hS.inv u t bs) q
   have hOps : O.t.ps.length = 4 := by rw [← hO]; exact step_ps hS.ok (segs_ok hS.inv u t bs)
   have hOI : InvP (wrL (namesP l) bs O.wr) := by rw [← hO]; exact wrL_inv hS.inv hS.ok
   have hOw : O.e ≠ 0 → O.wr = none := fun q => by rw [← hO] at q ⊢; exact fw_step _ _ q
   rw [hO] at kst
   have hone : ∀ y ∈ stCs c v, y.oneCell' = true := st_one c v (by rw [hv1]; rfl)
   have h2 : (0 : Int) < ((k + 1 : Nat) : Int) := by omega
   have h3 : ((k + 1 : Nat) : Int) - 1 = (k : Int) := by omega
   rw [hhl] at x17
   obtain ⟨X, hX⟩ : ∃ X, stCs c v = X := ⟨_, rfl⟩
   rw [hX] at hXl hXr hW9 hth9 hr9 hone kst
   replace hX : Aside _ := hX
   have hszX : (Tryz.prog.info? 45).map (·.size) = some X.length := by rw [hXl]; exact hszS
   clear hMG hfr hn1 hv1
   go_upto_region 4 with fail
   clear x17
   go_wp2_with (first | (refine wpList_load_row rfl _ rfl w.heap.size rfl X hXr hundS rfl hszX ?_) | fail)
   refine kst.mono ?_
   rintro e W1 ⟨v1, rfl, ho1, hw1⟩
   obtain ⟨l1, hP1, hl1, hO1⟩ := step_pm hS.pm hS.inv hO hw1
   have hlW := hO1.size
   have hblw := hS.rs.2
   have hlw := hS.lw
   have hL0 := hS.pm.bm
   have hB0 := hS.pm.B0
   have hkp : ∀ j, j < wr.heap.size → (j < B + 1 ∨ L0 ≤ j) → W1.heap[j]? = wr.heap[j]? := hO1.block
   have hst1 : BlkL w.heap.size X W1 := by
    have := hS.st
    rw [hX.out] at this
    exact ⟨this.1.same (hkp _ (by omega) (.inr (by omega))), by omega⟩
   have hrs1 : BlkL (w.heap.size + 1) (stCs zeroC nilS) W1 := ⟨hS.rs.1.same (hkp _ (by omega) (.inr (by omega))), by omega⟩
   have hout1 := hS.out.keep fun j hj => hkp j (hS.out.lt hj).2 (.inr (by have := (hS.out.lt hj).1; omega))
   have hstk1 := hS.stk.keep fun j hj => hkp j (hS.stk.lt hj).2 (.inr (hS.stk.lt hj).1)
   have hbl1 : Oth w.heap.size B L0 w W1 := hS.bl.trans ⟨hO1.os, hO1.tape, hO1.output, hO1.size, fun j hj hc => hO1.block j (by omega) hc⟩
   have hYl : (stCs O.t v1).length = 18 := st_len hOps
   obtain ⟨a6, c6, hv6, -⟩ := ho1.slice frc_len
   have hYo : ∀ y ∈ stCs O.t v1, y.oneCell' = true := st_one O.t v1 (by rw [hv6]; rfl)
   obtain ⟨W2, hW2, hth2, hY2, hB2⟩ := put_new W1 #[.int .i64 0, .int .i64 0, .int .i64 0, .int .i64 0, .int .i64 0, .int .i64 0, .int .i64 0, .int .i64 0, .int .i64 0, .int .i64 0, .int .i64 0, .int .i64 0, .int .i64 0, .int .i64 0, .int .i64 0, .int .i64 0, .slice none 0 0, .bool false] 45 (stCs O.t v1) (by rw [hYl]; rfl) (by rw [hYl]; decide)
   have hst2 := stab_blk _ _ _ _ hst1 hB2
   have hrs2 := stab_blk _ _ _ _ hrs1 hB2
   have hout2 := hout1.below hB2
   have hstk2 := hstk1.below hB2
   have ho2 := ho1.below hB2
   have hP2 := hP1.below hB2
   have hl12 : W1.heap.size < W2.heap.size := hY2.2
   have hbl2 : Oth w.heap.size B L0 w W2 := hbl1.trans (Oth.of ⟨hB2.os, hB2.tape, hB2.output, hB2.size, fun j hj => hB2.block j (by omega)⟩)
   have hapa1 : ∀ j, v1.ownBlock = some j → j ≠ w.heap.size ∧ j ≠ w.heap.size + 1 ∧ wr.heap.size ≤ j := fun j hj => ⟨by have := (ho1.lt hj).1; omega, by have := (ho1.lt hj).1; omega, (ho1.lt hj).1⟩
   have htvl : ∀ j, tv.ownBlock = some j → w.heap.size + 2 ≤ j ∧ j < wr.heap.size := fun j hj => hS.out.lt hj
   clear hst1 hrs1 hout1 hstk1 ho1 hP1 hbl1 hB2 hw1 hO1 hkp
   have heqn := hS.eqn hhl
   have hal := hS.al
   have hinv := hS.inv
   have hapa := hS.apa
   have hcok := hS.ok
   have hnb0 := hS.nb
   have hnb1 : ∀ j, v1.ownBlock = some j → v0.ownBlock = some j ∨ w.heap.size ≤ j := fun j hj => .inr (by have := (hapa1 j hj).2.2; omega)
   clear hS
   by_cases he : O.e = 0
   rotate_left
   ·have hwn := hOw he
    rw [hwn] at hl1
    have hS2 : PS v0 w W2 B L0 bm n N u t bs R 0 l1 c v acc tv ∨ True := .inr trivial
    have hR : R = ⟨namesP l1, c, acc, true, O.e⟩ := by
     rw [heqn, runP_fault hO he, hl1]
     simp [accR, wrL]
    obtain ⟨W8, hW8, hth8, hr8⟩ : ∃ W8, W2.setCells (w.heap.size + 1) 0 X = W8 ∧ W2.there (w.heap.size + 1) 0 X.length ∧ W8.rangeAt (w.heap.size + 1) 0 X := by
     obtain ⟨W8, h1, h2, h3, -⟩ := put_any hrs2 (ds := X) (by rw [hXl]; rfl) (by rw [hXl]; decide)
     exact ⟨W8, h1, h2, h3.range⟩
    have hk8 : ∀ j, j ≠ w.heap.size + 1 → W8.heap[j]? = W2.heap[j]? := fun j hj => by rw [← hW8]; exact heap_setCells_other hj _ _ _
    have hb8 := Below.cells (B := w.heap.size) (b := w.heap.size + 1) (Nat.le_succ _) X 0 (Below.refl w.heap.size W2)
    rw [hW8] at hb8
    have hend : StepsR v0 B L0 bm n u t bs R w (.returned (.tuple #[.agg X.toArray, tv, .int .i64 O.e])) W8 := by
     subst hR
     refine ⟨l1, v, tv, by rw [← hX.out], hP2.keep fun j hj => hk8 j (by rcases hj with hj | hj <;> omega), rfl, by show InvP (namesP l1); rw [hl1]; exact hinv, hcok, hstk2.keep fun j hj => hk8 j (hapa j hj).2.1, hout2.keep fun j hj => hk8 j (by have := (hout2.lt hj).1; omega), ?_, hbl2.trans (Oth.of hb8), hnb0⟩
     show true = (c.hl || (O.e != 0))
     rw [hhl, show (O.e != 0) = true by simpa using he]
     rfl
    have hq : (O.e != 0) = true := by simpa using he
    have hXr2 := hst2.range
    have hYs : (Tryz.prog.info? 45).map (·.size) = some (stCs O.t v1).length := by rw [hYl]; exact hszS
    obtain ⟨Y, hY⟩ : ∃ Y, stCs O.t v1 = Y := ⟨_, rfl⟩
    rw [hY] at hYl hYo hW2 hth2 hYs ⊢
    clear hR hP2 hout2 hstk2 hst2 hrs2 ho2 hY2 hbl2 heqn hl1 hX hY
    go_upto_region 5 with (first | (refine wpList_store_row rfl _ _ rfl W1.heap.size rfl Y rfl hth2 hYs hYo hW2 ?_) | fail)
    go_wp2_with (first | (refine wpList_load_row rfl _ rfl w.heap.size rfl X hXr2 hundS rfl hszX ?_) | (refine wpList_store_row rfl _ _ rfl (w.heap.size + 1) rfl X rfl hth8 hszX hone hW8 ?_) | fail)
    refine bodyPost_ret (v := _) (results_st3 rfl _ _ (w.heap.size + 1) rfl _ _ rfl rfl X hr8 hundS rfl hszX) rfl ?_
    exact hend
   ·have hok := hOok he
    have hrun := runP_on_eq (n := k) hO he
    have hlk : acc.length + (toldO O).length + k ≤ N := by have := told_len O; omega
    have hXr2 := hY2.range
    have hYs : (Tryz.prog.info? 45).map (·.size) = some (stCs O.t v1).length := by rw [hYl]; exact hszS
    have heA : O.t.hl = false → R = accR (acc ++ toldO O) (runP u t bs k (namesP l1) O.t) := fun q => by
     rw [heqn, hrun, if_neg (by rw [q]; decide), accR_acc, hl1]
    have heB : O.t.hl = true → R = ⟨namesP l1, O.t, acc ++ toldO O, true, 0⟩ := fun q => by
     rw [heqn, hrun, if_pos q, hl1]
     rfl
    have hinv1 : InvP (namesP l1) := by rw [hl1]; exact hOI
    clear hrun heqn hl1 hOI hinv hOok hOw hstk2
    cases htd : O.told
    ·have htn : toldO O = [] := by unfold toldO; rw [htd]; rfl
     rw [htn, List.append_nil] at heA heB
     obtain ⟨W8, hW8, hth8, hS8⟩ := PS.next (N := N) (k := k) hbl2 hP2 hinv1 hok hst2 hXl hrs2 (ho2.lower (by omega)) hout2 (fun j hj => ⟨(hapa1 j hj).1, (hapa1 j hj).2.1, fun q => by have := (hapa1 j hj).2.2; have := (htvl j q).2; omega⟩) (by omega) hlw hnb1 heA heB
     obtain ⟨Y, hY⟩ : ∃ Y, stCs O.t v1 = Y := ⟨_, rfl⟩
     rw [hY] at hYl hYo hW2 hth2 hYs hW8 hth8 hXr2 ⊢
     clear heA heB hP2 hout2 hst2 hrs2 ho2 hY2 hbl2 hY htn hX
     go_upto_region 7 with (first | (refine wpList_store_row rfl _ _ rfl W1.heap.size rfl Y rfl hth2 hYs hYo hW2 ?_) | fail)
     go_wp2_with (first | (refine wpList_load_row rfl _ rfl W1.heap.size rfl Y hXr2 hundS rfl hYs ?_) | (refine wpList_store_row rfl _ _ rfl w.heap.size rfl Y rfl hth8 hYs hYo hW8 ?_) | fail)
     exact ⟨⟨k, l1, O.t, v1, acc, tv, by simp, rfl, by omega, hS8⟩, by simp [Go.RowKit.intOf]⟩
    ·have hacl : acc.length < 900000 := by omega
     obtain ⟨tv2, Z, hap, hout3, hgr⟩ := OwnR.push wd_okC hout2 (show w.heap.size + 2 ≤ W2.heap.size by omega) O.v (wcl O.v).toArray rfl 2 hacl
     have hap2 := @appC _ _ _ _ _ _ (.tmp 37) (.tmp 39) (show (Builtin.append_ #[34, 34] 34 #[tv, .slice (some ⟨W2.heap.size, 0, none⟩) 1 1]).run Tryz.prog (W2.alloc (.cells #[.int .i64 O.v] 2)) = .ok tv2 Z from hap)
     have htn : toldO O = [O.v] := by unfold toldO; rw [htd]; rfl
     rw [htn] at heA heB hlk
     have hkz : ∀ j, j < W2.heap.size → tv.ownBlock ≠ some j → Z.heap[j]? = W2.heap[j]? := fun j h1 h2 => hgr.by_.block j h1 fun q => h2 q.symm
     have hsz : W2.heap.size ≤ Z.heap.size := hgr.by_.size
     have htn1 : ∀ j, (j < w.heap.size + 2 ∨ wr.heap.size ≤ j) → tv.ownBlock ≠ some j := fun j hj q => by have := htvl j q; omega
     have hst3 : BlkL w.heap.size X Z := ⟨hst2.1.same (hkz _ hst2.2 (htn1 _ (by omega))), by omega⟩
     have hrs3 : BlkL (w.heap.size + 1) (stCs zeroC nilS) Z := ⟨hrs2.1.same (hkz _ hrs2.2 (htn1 _ (by omega))), by omega⟩
     have ho3 := ho2.keep fun j hj => hkz j (ho2.lt hj).2 (htn1 j (.inr (hapa1 j hj).2.2))
     have hP3 := hP2.keep (W' := Z) fun j hj => hkz j (by rcases hj with hj | hj <;> omega) (htn1 j (by rcases hj with hj | hj <;> omega))
     have hbl3 : Oth w.heap.size B L0 w Z := hbl2.trans ⟨hgr.by_.os, hgr.by_.tape, hgr.by_.output, hsz, fun j hj _ => hkz j (by omega) (htn1 j (by omega))⟩
     have hY3 : BlkL W1.heap.size (stCs O.t v1) Z := ⟨hY2.1.same (hkz _ hY2.2 (htn1 _ (by omega))), by omega⟩
     obtain ⟨W8, hW8, hth8, hS8⟩ := PS.next (N := N) (k := k) hbl3 hP3 hinv1 hok hst3 hXl hrs3 (ho3.lower (by omega)) hout3 (fun j hj => ⟨(hapa1 j hj).1, (hapa1 j hj).2.1, fun q => hgr.apart (ho2.lt hj).2 (fun q2 => htn1 j (.inr (hapa1 j hj).2.2) q2.symm) q.symm⟩) (by simpa using hlk) hlw hnb1 heA heB
     have hXr3 := hY3.range
     obtain ⟨Y, hY⟩ : ∃ Y, stCs O.t v1 = Y := ⟨_, rfl⟩
     rw [hY] at hYl hYo hW2 hth2 hYs hW8 hth8 hXr3 ⊢
     clear heA heB hP2 hout2 hst2 hrs2 ho2 hY2 hbl2 hY htn hX hst3 hrs3 ho3 hP3 hbl3 hY3 hap hgr hout3 hkz htn1
     go_upto_region 8 with (first | (refine wpList_store_row rfl _ _ rfl W1.heap.size rfl Y rfl hth2 hYs hYo hW2 ?_) | fail)
     go_wp2_with (first | (refine hap2 rfl rfl rfl rfl rfl ?_) | (refine wpList_load_row rfl _ rfl W1.heap.size rfl Y hXr3 hundS rfl hYs ?_) | (refine wpList_store_row rfl _ _ rfl w.heap.size rfl Y rfl hth8 hYs hYo hW8 ?_) | fail)
     exact ⟨⟨k, l1, O.t, v1, acc ++ [O.v], tv2, by simp, rfl, by omega, hS8⟩, by simp [Go.RowKit.intOf]⟩
end Go.Proofs.YtidihdiffiffmaaGreatDoor
namespace Go.Proofs.YtidihdiffiffmaaGreatDoor
open Go.RowKit
set_option maxRecDepth 8000
set_option linter.unusedSimpArgs false
set_option linter.unusedVariables false
theorem pr_one {w : World} {b1 b2 : Nat} {bv pv : Value} {bs : List ByteArray} {st : List Fr} {c : Cp} (h1 : OwnR 9 1 scl w b1 bv bs) (h2 : OwnR 102 3 frc w b2 pv st) : ∀ y ∈ prL bv (stCs c pv), y.oneCell' = true := fun y hy => by
 obtain ⟨a1, c1, e1, -⟩ := h1.slice scl_ok.len
 obtain ⟨a2, c2, e2, -⟩ := h2.slice frc_len
 rcases List.mem_cons.1 hy with rfl | hy
 ·rw [e1]; rfl
 ·exact st_one c pv (by rw [e2]; rfl) y hy
theorem OwnL.keepG {W W' : World} {B n L0 gA : Nat} {l l1 : List PN} {i : Nat} (h : OwnL W B n l i l1) (hf : ∀ y ∈ l1, ∀ g, (y.av.ownBlock = some g ∨ y.wv.ownBlock = some g) → g < L0) (hk : ∀ j, j ≠ gA → W'.heap[j]? = W.heap[j]?) (hg : gA < B ∨ L0 ≤ gA) (hne : gA ≠ B) : OwnL W' B n l i l1 :=
 ⟨h.ln, h.le, h.len, h.nm, h.row.keep fun j hj => hk j (fun q => by
  have e : B = j := by simpa [Value.ownBlock] using hj
  omega), ⟨fun x hx => (h.own.acl x hx).keep fun j hj => hk j (by have := ((h.own.acl x hx).lt hj).1; have := hf x hx j (.inl hj); omega), fun x hx => (h.own.wds x hx).keep fun j hj => hk j (by have := ((h.own.wds x hx).lt hj).1; have := hf x hx j (.inr hj); omega), h.own.dis, h.own.apt⟩⟩
abbrev Z18C : Array Value := #[.int .i64 0, .int .i64 0, .int .i64 0, .int .i64 0, .int .i64 0, .int .i64 0, .int .i64 0, .int .i64 0, .int .i64 0, .int .i64 0, .int .i64 0, .int .i64 0, .int .i64 0, .int .i64 0, .int .i64 0, .int .i64 0, .slice none 0 0, .bool false]
theorem Oth.blk {b B L0 g : Nat} {w W : World} {cs : List Value} (h : Oth b B L0 w W) (hg : BlkL g cs w) (hl : g < b) (hc : g < B + 1 ∨ L0 ≤ g) : BlkL g cs W := ⟨hg.1.same (h.block g hl hc), Nat.lt_of_lt_of_le hg.2 h.size⟩
theorem strsL_load (w : World) (y : Addr) (v : Value) (h : w.cell? y = some v) : (Instr.loadAt 39 (.pointer (some y))).run Tryz.prog w = .ok v w := by
 have h1 := Tryz.underlying39
 go_simp
structure S4 (b gA : Nat) (u : ByteArray) (t : Lab) (ba : Option Addr) (nb bc : Nat) (X : List Value) (bv : Value) (c : Cp) (pv : Value) (W : World) : Prop where
 a : BlkL gA (prL bv (stCs c pv)) W
 s : BlkL b (sbL u t) W
 p : BlkL (b + 1) (prL (.slice ba nb bc) X) W
section
variable {b gA : Nat} {u : ByteArray} {t : Lab} {ba : Option Addr} {nb bc : Nat} {X : List Value} {bv : Value} {c : Cp} {pv : Value} {W W' : World}
theorem S4.st (h : S4 b gA u t ba nb bc X bv c pv W) : W.rangeAt gA 1 (stCs c pv) := fun j v hv => by
 have := (h.a.1 (1 + j) v (by rw [Nat.add_comm]; exact hv)).1
 exact this
theorem S4.then (h : S4 b gA u t ba nb bc X bv c pv W) (k : Below W.heap.size W W') : S4 b gA u t ba nb bc X bv c pv W' := ⟨stab_blk _ _ _ _ h.a k, stab_blk _ _ _ _ h.s k, stab_blk _ _ _ _ h.p k⟩
theorem S4.keep {g : Nat} (h : S4 b gA u t ba nb bc X bv c pv W) (hk : ∀ j, j ≠ g → W'.heap[j]? = W.heap[j]?) (hs : W.heap.size ≤ W'.heap.size) (h3 : b + 3 ≤ g) (hg : g ≠ gA) : S4 b gA u t ba nb bc X bv c pv W' := ⟨⟨h.a.1.same (hk _ (Ne.symm hg)), Nat.lt_of_lt_of_le h.a.2 hs⟩, ⟨h.s.1.same (hk _ (by omega)), Nat.lt_of_lt_of_le h.s.2 hs⟩, ⟨h.p.1.same (hk _ (by omega)), Nat.lt_of_lt_of_le h.p.2 hs⟩⟩
theorem S4.oth {B L0 : Nat} (h : S4 b gA u t ba nb bc X bv c pv W) (k : Oth W.heap.size B L0 W W') (h3 : b + 3 ≤ B) (hg : gA < B ∨ L0 ≤ gA) : S4 b gA u t ba nb bc X bv c pv W' := ⟨k.blk h.a h.a.2 (by omega), k.blk h.s h.s.2 (.inl (by omega)), k.blk h.p h.p.2 (.inl (by omega))⟩
theorem OwnL.rowN {B n : Nat} {l l1 : List PN} (h : OwnL W B n l n l1) : RowN W (some ⟨B, 0, none⟩) l1 ∧ namesP l1 = namesP l ∧ OwnN W B (.slice (some ⟨B, 0, none⟩) n n) l1 := by
 have hrow := h.row
 rw [List.drop_eq_nil_of_le (by rw [h.ln]; exact Nat.le_refl _), List.append_nil] at hrow
 obtain ⟨a, cc, hv, -, -, hr⟩ := hrow.slice pn_len
 injection hv with e1 e2 e3
 subst e1
 refine ⟨⟨hr, fun x hx => ⟨?_, ?_⟩⟩, ?_, hrow⟩
 ·obtain ⟨a1, c1, h1, -, -, h2⟩ := (h.own.acl x hx).slice gr_okT.len
  unfold PN.av at h1
  injection h1 with q1 q2 q3
  rw [q1]
  exact row_grs h2
 ·obtain ⟨a1, c1, h1, -, -, h2⟩ := (h.own.wds x hx).slice wd_okC.len
  unfold PN.wv at h1
  injection h1 with q1 q2 q3
  rw [q1]
  exact row_wrds h2
 ·rw [h.nm, List.take_of_length_le (by rw [h.ln]; exact Nat.le_refl _)]
theorem OwnL.pm {B n L0 mb : Nat} {bs : List ByteArray} {l l1 : List PN} (h : OwnL W B n l n l1) (hf : ∀ y ∈ l1, ∀ g, (y.av.ownBlock = some g ∨ y.wv.ownBlock = some g) → g < L0) (hBL : B < L0) (hm : MapI W mb (segV (bs.map (segQ l1 u t))) (fun k => (kn ((bs.map (segQ l1 u t)).map (·.g)) k).is)) (hL : L0 ≤ mb) : PMq W B L0 mb n u t bs l1 := ⟨h.len, h.rowN.2.2, h.own, hf, hm, hL, hBL⟩
end
theorem fine_names {l l1 : List PN} (h : FineL l) (he : namesP l1 = namesP l) : FineL l1 := by
 have hl : l1.length = l.length := by
  have := congrArg List.length he
  simpa [namesP] using this
 refine ⟨by rw [hl]; exact h.len, by rw [he]; exact h.ord, fun x hx => ?_⟩
 have h1 : x.n ∈ namesP l := by rw [← he]; exact List.mem_map.2 ⟨x, hx, rfl⟩
 obtain ⟨y, hy, e⟩ := List.mem_map.1 h1
 rw [← e]
 exact h.ok y hy
theorem boolP_load (w : World) (y : Addr) (v : Value) (h : w.cell? y = some v) : (Instr.loadAt 4 (.pointer (some y))).run Tryz.prog w = .ok v w := by
 have h1 := Tryz.underlying4
 go_simp
def RunP (bs : List ByteArray) (n : Nat) (R : Rn) (w : World) (e : Ending) (w' : World) : Prop := ∃ (l' : List PN) (B : Nat) (bv v' tv : Value), e = .returned (.tuple #[.slice (some ⟨B, 0, none⟩) n n, .agg (prL bv (stCs R.c v')).toArray, tv, .bool R.over, .int .i64 R.e]) ∧ l'.length = n ∧ w.heap.size ≤ B ∧ RowN w' (some ⟨B, 0, none⟩) l' ∧ OwnX w' (B + 1) l' ∧ namesP l' = R.l ∧ InvP R.l ∧ R.c.Ok ∧ OwnR 9 1 scl w' w.heap.size bv bs ∧ OwnR 102 3 frc w' w.heap.size v' R.c.st ∧ OwnR 2 1 wcl w' w.heap.size tv R.out ∧ Below w.heap.size w w'
set_option maxRecDepth 8000 in
set_option maxHeartbeats 8000000 in
theorem prunA_any (a : Option Addr) (cap : Nat) (l : List PN) (u : ByteArray) (t : Lab) (ba : Option Addr) (bc : Nat) (bs : List ByteArray) (c : Cp) (v : Value) (n0 : Nat) (R : Rn) (hF : FineL l) (hI : InvP (namesP l)) (hGt : GL t) (hbs : bs.length ≤ 4) (hps : ∀ p ∈ bs, p.size ≤ 1000) (hc : c.Ok) (hh : c.hl = false) (hn0 : n0 ≤ 100) (hR : runP u t bs n0 (namesP l) c = R) (w : World) (h : RowN w a l) (hRB : RowAt 1 scl w ba bs) (hv : SV v c.st w) (hV : MaxV w) :
    Calls Tryz.prog 17 #[.slice a l.length cap, .agg (sbL u t).toArray, .agg (prL (.slice ba bs.length bc) (stCs c v)).toArray, .int .i64 (n0 : Int)] w (RunP bs l.length R w) := by
 have hundP := Tryz.underlying47
 have hundT := Tryz.underlying45
 have hszP : (Tryz.prog.info? 47).map (·.size) = some 19 := by kernel_rfl
 have hszT : (Tryz.prog.info? 45).map (·.size) = some 18 := by kernel_rfl
 have kown := fun (W : World) r => pown_any a cap l hF.len hF.few W r
 have kpro := fun (W : World) r q => popp_any ba bc bs c hc.ps v (by omega) (by have := hc.st; omega) W r q
 obtain ⟨n, hn⟩ : ∃ n, l.length = n := ⟨_, rfl⟩
 obtain ⟨nb, hnb⟩ : ∃ nb, bs.length = nb := ⟨_, rfl⟩
 rw [hn] at kown ⊢
 rw [hnb] at hbs kpro ⊢
 replace hn : Aside (l.length = n) := hn
 replace hnb : Aside (bs.length = nb) := hnb
 have hXl : (stCs c v).length = 18 := st_len hc.ps
 obtain ⟨X, hX⟩ : ∃ X, stCs c v = X := ⟨_, rfl⟩
 rw [hX] at hXl kpro ⊢
 clear hX
 have hszX : (Tryz.prog.info? 47).map (·.size) = some (prL (.slice ba nb bc) X).length := by rw [hszP]; simp [hXl]
 have f0 := blkl_alloc w (sbL u t).toArray 52
 have g0 := alloc_below w (.cells (sbL u t).toArray 52)
 have f1 := blkl_alloc (w.alloc (.cells (sbL u t).toArray 52)) (prL (.slice ba nb bc) X).toArray 47
 have g1 := alloc_below (w.alloc (.cells (sbL u t).toArray 52)) (.cells (prL (.slice ba nb bc) X).toArray 47)
 have f2 := blkl_alloc ((w.alloc (.cells (sbL u t).toArray 52)).alloc (.cells (prL (.slice ba nb bc) X).toArray 47)) zPC 47
 have g2 := alloc_below ((w.alloc (.cells (sbL u t).toArray 52)).alloc (.cells (prL (.slice ba nb bc) X).toArray 47)) (.cells zPC 47)
 rw [World.size_alloc] at f1
 rw [World.size_alloc, World.size_alloc] at f2
 have hsb := stab_blk _ _ _ _ (stab_blk _ _ _ _ f0 g1) g2
 have hpr := stab_blk _ _ _ _ f1 g2
 have hrs : BlkL (w.heap.size + 2) (prL nilS (stCs zeroC nilS)) _ := f2
 have hBw := Below.then (Below.then g0 g1) g2
 have hwz : w.heap.size + 3 ≤ (((w.alloc (.cells (sbL u t).toArray 52)).alloc (.cells (prL (.slice ba nb bc) X).toArray 47)).alloc (.cells zPC 47)).heap.size := by simp
 clear f0 g0 f1 g1 f2 g2
 go_enter Tryz.func17, Tryz.ntmps17
 go_upto_region 3 with fail
 generalize ((w.alloc (.cells (sbL u t).toArray 52)).alloc (.cells (prL (.slice ba nb bc) X).toArray 47)).alloc (.cells zPC 47) = W0 at *
 have hdr : Below W0.heap.size W0 W0.drew := (Below.refl _ _).drew
 replace hsb : BlkL w.heap.size (sbL u t) W0.drew := stab_blk _ _ _ _ hsb hdr
 replace hpr : BlkL (w.heap.size + 1) (prL (.slice ba nb bc) X) W0.drew := stab_blk _ _ _ _ hpr hdr
 replace hrs : BlkL (w.heap.size + 2) (prL nilS (stCs zeroC nilS)) W0.drew := stab_blk _ _ _ _ hrs hdr
 replace hBw : Below w.heap.size w W0.drew := hBw.drew
 replace hwz : w.heap.size + 3 ≤ W0.drew.heap.size := hwz
 have hrow := h.below hBw
 clear hdr
 go_cut [13, 14] from 25 (fun s13 s14 wc => ∃ (B L0 gA : Nat) (l1 : List PN) (bv pv : Value), s13 = .slice (some ⟨B, 0, none⟩) n n ∧ s14 = .pointer (some ⟨gA, 0, none⟩) ∧ w.heap.size + 3 ≤ B ∧ B < L0 ∧ Below w.heap.size w wc ∧ BlkL w.heap.size (sbL u t) wc ∧ BlkL (w.heap.size + 1) (prL (.slice ba nb bc) X) wc ∧ BlkL (w.heap.size + 2) (prL nilS (stCs zeroC nilS)) wc ∧ OwnL wc B n l n l1 ∧ (∀ y ∈ l1, ∀ g, (y.av.ownBlock = some g ∨ y.wv.ownBlock = some g) → g < L0) ∧ OwnR 9 1 scl wc L0 bv bs ∧ OwnR 102 3 frc wc L0 pv c.st ∧ (gA < B ∨ L0 ≤ gA) ∧ w.heap.size + 3 ≤ gA ∧ bv.ownBlock ≠ some gA ∧ pv.ownBlock ≠ some gA ∧ BlkL gA (prL bv (stCs c pv)) wc ∧ L0 ≤ wc.heap.size)
 ·skip
  refine wp_region_held_drew (S := (fun W => BlkL (w.heap.size + 1) (prL (.slice ba nb bc) X) W)) (by kernel_rfl) (by exact hpr) ?_
  intro hHeld
  generalize W0.drew = w0 at *
  refine tkA 0 ?_
  refine tkB 2 (y := yieldsIf_load_mid (by rfl) 47 _ rfl (w.heap.size + 1) 0 rfl (prL (.slice ba nb bc) X) _ (fun W s => s.range) hundP rfl hszX) (h := ?_)
  refine tkR (rs := [1, 4]) ?_
  refine tkC (fun K hK => ?_) ?_
  ·go_simp
   go_at_call 33
   refine (kown w0 hrow).mono ?_
   rintro e w1 ⟨l1, rfl, hL, hb⟩
   replace hBw := Below.then hBw hb
   replace hsb := stab_blk _ _ _ _ hsb hb
   replace hpr := stab_blk _ _ _ _ hpr hb
   replace hrs := stab_blk _ _ _ _ hrs hb
   obtain ⟨B, hBe⟩ : ∃ B, w0.heap.size = B := ⟨_, rfl⟩
   rw [hBe] at hL ⊢
   have hBlo : w.heap.size + 3 ≤ B := by rw [← hBe]; exact hwz
   replace hwz := Nat.le_trans hwz hb.size
   obtain ⟨L0, hL0⟩ : ∃ L0, w1.heap.size = L0 := ⟨_, rfl⟩
   have hBL : B < L0 := by rw [← hL0]; exact (hL.row.lt rfl).2
   have hfew : ∀ y ∈ l1, ∀ g, (y.av.ownBlock = some g ∨ y.wv.ownBlock = some g) → g < L0 := by rw [← hL0]; exact hL.own.few
   have hloL : L0 ≤ w1.heap.size := by rw [hL0]; exact Nat.le_refl _
   clear hrow hBe hL0 hb
   refine hK.out _ _ (hpr) ?_
   clear hHeld hK
   intro hHeld
   (try simp only [Act.put, zsA, zsB, zsC])
   refine tkR (rs := [3, 4]) ?_
   refine tkC (fun K hK => ?_) ?_
   ·go_simp
    go_at_call 34
    refine (kpro w1 (hRB.below scl_ok.len hBw) (hv.below hBw)).mono ?_
    rintro e w2 ⟨bv, pv, rfl, hbo, hpo, hb⟩
    have hloW := hloL
    replace hBw := Below.then hBw hb
    replace hsb := stab_blk _ _ _ _ hsb hb
    replace hpr := stab_blk _ _ _ _ hpr hb
    replace hrs := stab_blk _ _ _ _ hrs hb
    replace hwz := Nat.le_trans hwz hb.size
    replace hL := hL.below hb
    replace hloL := Nat.le_trans hloL hb.size
    replace hbo : OwnR 9 1 scl w2 L0 bv bs := hbo.lower (by omega)
    replace hpo : OwnR 102 3 frc w2 L0 pv c.st := hpo.lower (by omega)
    clear hb
    refine hK.out _ _ (hpr) ?_
    clear hHeld hK
    intro hHeld
    (try simp only [Act.put, zsA, zsB, zsC])
    refine tkR (rs := [4]) ?_
    refine tkC (fun K hK => ?_) AllReadyH.nil
    have hb := alloc_below w2 (.cells zPC 47)
    refine step_allocC (z := zPC) rfl rfl (fun _ => rfl) ?_
    (try simp only [Act.put, zsA, zsB, zsC])
    refine hK.out _ _ (stab_blk _ _ _ _ hpr hb) ?_
    clear hHeld hK
    intro hHeld
    have hne1 : bv.ownBlock ≠ some w2.heap.size := fun q => by have := (hbo.lt q).2; omega
    have hne2 : pv.ownBlock ≠ some w2.heap.size := fun q => by have := (hpo.lt q).2; omega
    have hgab : w2.heap.size < B ∨ L0 ≤ w2.heap.size := .inr hloL
    have hglo : w.heap.size + 3 ≤ w2.heap.size := hwz
    have hgz : BlkL w2.heap.size (prL nilS (stCs zeroC nilS)) (w2.alloc (.cells zPC 47)) := blkl_alloc w2 zPC 47
    have hgas : w2.heap.size < (w2.alloc (.cells zPC 47)).heap.size := hgz.2
    replace hBw := Below.then hBw hb
    replace hsb := stab_blk _ _ _ _ hsb hb
    replace hpr := stab_blk _ _ _ _ hpr hb
    replace hrs := stab_blk _ _ _ _ hrs hb
    replace hwz := Nat.le_trans hwz hb.size
    replace hL := hL.below hb
    replace hloL := Nat.le_trans hloL hb.size
    replace hbo := hbo.below hb
    replace hpo := hpo.below hb
    replace hHeld := hHeld
    generalize w2.alloc (.cells zPC 47) = w3 at *
    generalize w2.heap.size = gA at *
    clear hb
    (try simp only [Act.put, zsA, zsB, zsC])
    refine tkA 5 ?_
    refine tkR (rs := [6]) ?_
    refine tkC (fun K hK => ?_) AllReadyH.nil
    have hZl : (prL bv (stCs c pv)).length = 19 := by simp [st_len hc.ps]
    have hZo : ∀ y ∈ prL bv (stCs c pv), y.oneCell' = true := pr_one hbo hpo
    have hZs : (Tryz.prog.info? 47).map (·.size) = some (prL bv (stCs c pv)).length := by rw [hZl]; exact hszP
    obtain ⟨V9, hV9, hth9, hbh, hb9⟩ := put_any hgz (ds := prL bv (stCs c pv)) (by rw [hZl]; rfl) (by rw [hZl]; decide)
    refine step_store_rowC rfl _ _ rfl gA rfl (prL bv (stCs c pv)) rfl hth9 hZs hZo hV9 ?_
    (try simp only [Act.put, zsA, zsB, zsC])
    have hk9 : ∀ j, j ≠ gA → V9.heap[j]? = w3.heap[j]? := fun j hj => by rw [← hV9]; exact heap_setCells_other hj _ _ _
    have hs9 : w3.heap.size ≤ V9.heap.size := (hb9 0 w3 (Nat.zero_le _) (Below.refl _ _)).size
    replace hBw := hb9 _ _ (by omega) hBw
    replace hsb : BlkL w.heap.size (sbL u t) V9 := ⟨hsb.1.same (hk9 _ (by omega)), Nat.lt_of_lt_of_le hsb.2 hs9⟩
    replace hpr : BlkL (w.heap.size + 1) (prL (.slice ba nb bc) X) V9 := ⟨hpr.1.same (hk9 _ (by omega)), Nat.lt_of_lt_of_le hpr.2 hs9⟩
    replace hrs : BlkL (w.heap.size + 2) (prL nilS (stCs zeroC nilS)) V9 := ⟨hrs.1.same (hk9 _ (by omega)), Nat.lt_of_lt_of_le hrs.2 hs9⟩
    replace hloL : L0 ≤ V9.heap.size := Nat.le_trans hloL hs9
    replace hL := hL.keepG hfew hk9 hgab (by omega)
    replace hbo := hbo.keep fun j hj => hk9 j (fun q => hne1 (by rw [hj, q]))
    replace hpo := hpo.keep fun j hj => hk9 j (fun q => hne2 (by rw [hj, q]))
    clear hgz hk9 hth9 hb9 hV9 hZl hZo hZs hs9
    refine hK.out _ _ (hpr) ?_
    clear hHeld hK
    intro hHeld
    (try simp only [Act.put, zsA, zsB, zsC])
    refine wpAnyH_done (by kernel_rfl) ?_ _
    clear hHeld
    go_wp2_with fail
    go_meet
    exact ⟨B, L0, gA, l1, bv, pv, rfl, rfl, hBlo, hBL, hBw, hsb, hpr, hrs, hL, hfew, hbo, hpo, hgab, hglo, hne1, hne2, hbh, hloL⟩
   refine tkC (fun K hK => ?_) AllReadyH.nil
   have hb := alloc_below w1 (.cells zPC 47)
   refine step_allocC (z := zPC) rfl rfl (fun _ => rfl) ?_
   (try simp only [Act.put, zsA, zsB, zsC])
   refine hK.out _ _ (stab_blk _ _ _ _ hpr hb) ?_
   clear hHeld hK
   intro hHeld
   have hgab : w1.heap.size < B ∨ L0 ≤ w1.heap.size := .inr hloL
   have hglo : w.heap.size + 3 ≤ w1.heap.size := hwz
   have hgz : BlkL w1.heap.size (prL nilS (stCs zeroC nilS)) (w1.alloc (.cells zPC 47)) := blkl_alloc w1 zPC 47
   have hgas : w1.heap.size < (w1.alloc (.cells zPC 47)).heap.size := hgz.2
   replace hBw := Below.then hBw hb
   replace hsb := stab_blk _ _ _ _ hsb hb
   replace hpr := stab_blk _ _ _ _ hpr hb
   replace hrs := stab_blk _ _ _ _ hrs hb
   replace hwz := Nat.le_trans hwz hb.size
   replace hL := hL.below hb
   replace hloL := Nat.le_trans hloL hb.size
   replace hHeld := hHeld
   generalize w1.alloc (.cells zPC 47) = w2 at *
   generalize w1.heap.size = gA at *
   clear hb
   (try simp only [Act.put, zsA, zsB, zsC])
   refine tkR (rs := [3]) ?_
   refine tkC (fun K hK => ?_) AllReadyH.nil
   go_simp
   go_at_call 34
   refine (kpro w2 (hRB.below scl_ok.len hBw) (hv.below hBw)).mono ?_
   rintro e w3 ⟨bv, pv, rfl, hbo, hpo, hb⟩
   have hloW := hloL
   have hne1 : bv.ownBlock ≠ some gA := fun q => by have := (hbo.lt q).1; omega
   have hne2 : pv.ownBlock ≠ some gA := fun q => by have := (hpo.lt q).1; omega
   replace hgas : gA < w3.heap.size := Nat.lt_of_lt_of_le hgas hb.size
   replace hBw := Below.then hBw hb
   replace hsb := stab_blk _ _ _ _ hsb hb
   replace hpr := stab_blk _ _ _ _ hpr hb
   replace hrs := stab_blk _ _ _ _ hrs hb
   replace hwz := Nat.le_trans hwz hb.size
   replace hL := hL.below hb
   replace hloL := Nat.le_trans hloL hb.size
   replace hgz := stab_blk _ _ _ _ hgz hb
   replace hbo : OwnR 9 1 scl w3 L0 bv bs := hbo.lower (by omega)
   replace hpo : OwnR 102 3 frc w3 L0 pv c.st := hpo.lower (by omega)
   clear hb
   refine hK.out _ _ (hpr) ?_
   clear hHeld hK
   intro hHeld
   (try simp only [Act.put, zsA, zsB, zsC])
   refine tkA 5 ?_
   refine tkR (rs := [6]) ?_
   refine tkC (fun K hK => ?_) AllReadyH.nil
   have hZl : (prL bv (stCs c pv)).length = 19 := by simp [st_len hc.ps]
   have hZo : ∀ y ∈ prL bv (stCs c pv), y.oneCell' = true := pr_one hbo hpo
   have hZs : (Tryz.prog.info? 47).map (·.size) = some (prL bv (stCs c pv)).length := by rw [hZl]; exact hszP
   obtain ⟨V9, hV9, hth9, hbh, hb9⟩ := put_any hgz (ds := prL bv (stCs c pv)) (by rw [hZl]; rfl) (by rw [hZl]; decide)
   refine step_store_rowC rfl _ _ rfl gA rfl (prL bv (stCs c pv)) rfl hth9 hZs hZo hV9 ?_
   (try simp only [Act.put, zsA, zsB, zsC])
   have hk9 : ∀ j, j ≠ gA → V9.heap[j]? = w3.heap[j]? := fun j hj => by rw [← hV9]; exact heap_setCells_other hj _ _ _
   have hs9 : w3.heap.size ≤ V9.heap.size := (hb9 0 w3 (Nat.zero_le _) (Below.refl _ _)).size
   replace hBw := hb9 _ _ (by omega) hBw
   replace hsb : BlkL w.heap.size (sbL u t) V9 := ⟨hsb.1.same (hk9 _ (by omega)), Nat.lt_of_lt_of_le hsb.2 hs9⟩
   replace hpr : BlkL (w.heap.size + 1) (prL (.slice ba nb bc) X) V9 := ⟨hpr.1.same (hk9 _ (by omega)), Nat.lt_of_lt_of_le hpr.2 hs9⟩
   replace hrs : BlkL (w.heap.size + 2) (prL nilS (stCs zeroC nilS)) V9 := ⟨hrs.1.same (hk9 _ (by omega)), Nat.lt_of_lt_of_le hrs.2 hs9⟩
   replace hloL : L0 ≤ V9.heap.size := Nat.le_trans hloL hs9
   replace hL := hL.keepG hfew hk9 hgab (by omega)
   replace hbo := hbo.keep fun j hj => hk9 j (fun q => hne1 (by rw [hj, q]))
   replace hpo := hpo.keep fun j hj => hk9 j (fun q => hne2 (by rw [hj, q]))
   clear hgz hk9 hth9 hb9 hV9 hZl hZo hZs hs9
   refine hK.out _ _ (hpr) ?_
   clear hHeld hK
   intro hHeld
   (try simp only [Act.put, zsA, zsB, zsC])
   refine wpAnyH_done (by kernel_rfl) ?_ _
   clear hHeld
   go_wp2_with fail
   go_meet
   exact ⟨B, L0, gA, l1, bv, pv, rfl, rfl, hBlo, hBL, hBw, hsb, hpr, hrs, hL, hfew, hbo, hpo, hgab, hglo, hne1, hne2, hbh, hloL⟩
  refine tkC (fun K hK => ?_) AllReadyH.nil
  have hb := alloc_below w0 (.cells zPC 47)
  refine step_allocC (z := zPC) rfl rfl (fun _ => rfl) ?_
  (try simp only [Act.put, zsA, zsB, zsC])
  refine hK.out _ _ (stab_blk _ _ _ _ hpr hb) ?_
  clear hHeld hK
  intro hHeld
  have hglo : w.heap.size + 3 ≤ w0.heap.size := hwz
  have hgz : BlkL w0.heap.size (prL nilS (stCs zeroC nilS)) (w0.alloc (.cells zPC 47)) := blkl_alloc w0 zPC 47
  have hgas : w0.heap.size < (w0.alloc (.cells zPC 47)).heap.size := hgz.2
  replace hBw := Below.then hBw hb
  replace hsb := stab_blk _ _ _ _ hsb hb
  replace hpr := stab_blk _ _ _ _ hpr hb
  replace hrs := stab_blk _ _ _ _ hrs hb
  replace hwz := Nat.le_trans hwz hb.size
  replace hrow := hrow.below hb
  replace hHeld := hHeld
  generalize w0.alloc (.cells zPC 47) = w1 at *
  generalize w0.heap.size = gA at *
  clear hb
  (try simp only [Act.put, zsA, zsB, zsC])
  refine tkR (rs := [1]) ?_
  refine tkC (fun K hK => ?_) AllReadyH.nil
  go_simp
  go_at_call 33
  refine (kown w1 hrow).mono ?_
  rintro e w2 ⟨l1, rfl, hL, hb⟩
  replace hBw := Below.then hBw hb
  replace hsb := stab_blk _ _ _ _ hsb hb
  replace hpr := stab_blk _ _ _ _ hpr hb
  replace hrs := stab_blk _ _ _ _ hrs hb
  replace hgz := stab_blk _ _ _ _ hgz hb
  obtain ⟨B, hBe⟩ : ∃ B, w1.heap.size = B := ⟨_, rfl⟩
  rw [hBe] at hL ⊢
  have hBlo : w.heap.size + 3 ≤ B := by rw [← hBe]; exact hwz
  replace hwz := Nat.le_trans hwz hb.size
  obtain ⟨L0, hL0⟩ : ∃ L0, w2.heap.size = L0 := ⟨_, rfl⟩
  have hBL : B < L0 := by rw [← hL0]; exact (hL.row.lt rfl).2
  have hfew : ∀ y ∈ l1, ∀ g, (y.av.ownBlock = some g ∨ y.wv.ownBlock = some g) → g < L0 := by rw [← hL0]; exact hL.own.few
  have hloL : L0 ≤ w2.heap.size := by rw [hL0]; exact Nat.le_refl _
  have hgab : gA < B ∨ L0 ≤ gA := .inl (by rw [← hBe]; omega)
  replace hgas : gA < w2.heap.size := Nat.lt_of_lt_of_le hgas hb.size
  clear hrow hBe hL0 hb
  refine hK.out _ _ (hpr) ?_
  clear hHeld hK
  intro hHeld
  (try simp only [Act.put, zsA, zsB, zsC])
  refine tkR (rs := [3]) ?_
  refine tkC (fun K hK => ?_) AllReadyH.nil
  go_simp
  go_at_call 34
  refine (kpro w2 (hRB.below scl_ok.len hBw) (hv.below hBw)).mono ?_
  rintro e w3 ⟨bv, pv, rfl, hbo, hpo, hb⟩
  have hloW := hloL
  have hne1 : bv.ownBlock ≠ some gA := fun q => by have := (hbo.lt q).1; omega
  have hne2 : pv.ownBlock ≠ some gA := fun q => by have := (hpo.lt q).1; omega
  replace hgas : gA < w3.heap.size := Nat.lt_of_lt_of_le hgas hb.size
  replace hBw := Below.then hBw hb
  replace hsb := stab_blk _ _ _ _ hsb hb
  replace hpr := stab_blk _ _ _ _ hpr hb
  replace hrs := stab_blk _ _ _ _ hrs hb
  replace hwz := Nat.le_trans hwz hb.size
  replace hL := hL.below hb
  replace hloL := Nat.le_trans hloL hb.size
  replace hgz := stab_blk _ _ _ _ hgz hb
  replace hbo : OwnR 9 1 scl w3 L0 bv bs := hbo.lower (by omega)
  replace hpo : OwnR 102 3 frc w3 L0 pv c.st := hpo.lower (by omega)
  clear hb
  refine hK.out _ _ (hpr) ?_
  clear hHeld hK
  intro hHeld
  (try simp only [Act.put, zsA, zsB, zsC])
  refine tkA 5 ?_
  refine tkR (rs := [6]) ?_
  refine tkC (fun K hK => ?_) AllReadyH.nil
  have hZl : (prL bv (stCs c pv)).length = 19 := by simp [st_len hc.ps]
  have hZo : ∀ y ∈ prL bv (stCs c pv), y.oneCell' = true := pr_one hbo hpo
  have hZs : (Tryz.prog.info? 47).map (·.size) = some (prL bv (stCs c pv)).length := by rw [hZl]; exact hszP
  obtain ⟨V9, hV9, hth9, hbh, hb9⟩ := put_any hgz (ds := prL bv (stCs c pv)) (by rw [hZl]; rfl) (by rw [hZl]; decide)
  refine step_store_rowC rfl _ _ rfl gA rfl (prL bv (stCs c pv)) rfl hth9 hZs hZo hV9 ?_
  (try simp only [Act.put, zsA, zsB, zsC])
  have hk9 : ∀ j, j ≠ gA → V9.heap[j]? = w3.heap[j]? := fun j hj => by rw [← hV9]; exact heap_setCells_other hj _ _ _
  have hs9 : w3.heap.size ≤ V9.heap.size := (hb9 0 w3 (Nat.zero_le _) (Below.refl _ _)).size
  replace hBw := hb9 _ _ (by omega) hBw
  replace hsb : BlkL w.heap.size (sbL u t) V9 := ⟨hsb.1.same (hk9 _ (by omega)), Nat.lt_of_lt_of_le hsb.2 hs9⟩
  replace hpr : BlkL (w.heap.size + 1) (prL (.slice ba nb bc) X) V9 := ⟨hpr.1.same (hk9 _ (by omega)), Nat.lt_of_lt_of_le hpr.2 hs9⟩
  replace hrs : BlkL (w.heap.size + 2) (prL nilS (stCs zeroC nilS)) V9 := ⟨hrs.1.same (hk9 _ (by omega)), Nat.lt_of_lt_of_le hrs.2 hs9⟩
  replace hloL : L0 ≤ V9.heap.size := Nat.le_trans hloL hs9
  replace hL := hL.keepG hfew hk9 hgab (by omega)
  replace hbo := hbo.keep fun j hj => hk9 j (fun q => hne1 (by rw [hj, q]))
  replace hpo := hpo.keep fun j hj => hk9 j (fun q => hne2 (by rw [hj, q]))
  clear hgz hk9 hth9 hb9 hV9 hZl hZo hZs hs9
  refine hK.out _ _ (hpr) ?_
  clear hHeld hK
  intro hHeld
  (try simp only [Act.put, zsA, zsB, zsC])
  refine wpAnyH_done (by kernel_rfl) ?_ _
  clear hHeld
  go_wp2_with fail
  go_meet
  exact ⟨B, L0, gA, l1, bv, pv, rfl, rfl, hBlo, hBL, hBw, hsb, hpr, hrs, hL, hfew, hbo, hpo, hgab, hglo, hne1, hne2, hbh, hloL⟩
 case rest =>
  clear hsb hpr hrs hBw hwz hrow kown kpro h
  obtain ⟨B, L0, gA, l1, bv, pv, rfl, rfl, hBlo, hBL, hBw, hsb, hpr, hrs, hOL, hfew, hbo, hpo, hgab, hglo, hne1, hne2, hbh, hszL⟩ := hcut
  have hnm := hOL.rowN.2.1
  have hF1 := fine_names hF hnm
  have hln1 := hOL.len
  have kkn := fun (W : World) r q s v => pknown_any B n l1 u t ba bc bs hF1 hGt (by rw [hnb.out]; exact hbs) hps W r q s v
  have kst := fun (W : World) mb (p : PMq W B L0 mb n u t bs l1) s => psteps_any (bm := mb) c pv n0 R hn0 (by rw [hnb.out]; exact hbs) (by rw [hnm]; exact hI) hc hh (by rw [hnm]; exact hR) W p s
  rw [hln1, hnb.out] at kkn
  have hS4 : S4 w.heap.size gA u t ba nb bc X bv c pv wc := ⟨hbh, hsb, hpr⟩
  have hszC : (Tryz.prog.info? 45).map (·.size) = some (stCs c pv).length := by rw [st_len hc.ps]; exact hszT
  have hss : (Tryz.prog.info? 52).map (·.size) = some (sbL u t).length := by kernel_rfl
  have hundS := Tryz.underlying52
  clear hbh hsb hpr hnm hF1 hln1 hF hI hGt hps hh hR
  go_upto_region 4 with fail
  obtain ⟨W1, hW1⟩ : ∃ W1, W1 = wc := ⟨_, rfl⟩
  rw [← hW1] at hBw hrs hOL hbo hpo hS4 hszL ⊢
  clear hW1
  have hdr : Below W1.heap.size W1 W1.drew := (Below.refl _ _).drew
  replace hBw : Below w.heap.size w W1.drew := hBw.drew
  replace hrs : BlkL (w.heap.size + 2) (prL nilS (stCs zeroC nilS)) W1.drew := stab_blk _ _ _ _ hrs hdr
  replace hOL : OwnL W1.drew B n l n l1 := hOL.below hdr
  replace hbo : OwnR 9 1 scl W1.drew L0 bv bs := hbo.below hdr
  replace hpo : OwnR 102 3 frc W1.drew L0 pv c.st := hpo.below hdr
  replace hS4 : S4 w.heap.size gA u t ba nb bc X bv c pv W1.drew := hS4.then hdr
  replace hszL : L0 ≤ W1.drew.heap.size := hszL
  clear hdr
  go_cut [15, 16, 17] from 29 (fun s15 s16 s17 wd => ∃ (g15 mb : Nat) (l2 : List PN) (v2 tv : Value), s15 = .pointer (some ⟨g15, 0, none⟩) ∧ tv = s16 ∧ s17 = .int .i64 R.e ∧ Below w.heap.size w wd ∧ BlkL (w.heap.size + 2) (prL nilS (stCs zeroC nilS)) wd ∧ BlkL gA (prL bv (stCs c pv)) wd ∧ BlkL g15 (stCs R.c v2) wd ∧ PMq wd B L0 mb n u t bs l2 ∧ namesP l2 = R.l ∧ InvP R.l ∧ R.c.Ok ∧ OwnR 102 3 frc wd L0 v2 R.c.st ∧ OwnR 2 1 wcl wd (w.heap.size + 3) tv R.out ∧ OwnR 9 1 scl wd L0 bv bs ∧ R.over = (R.c.hl || (R.e != 0)) ∧ v2.ownBlock ≠ some gA ∧ tv.ownBlock ≠ some gA ∧ w.heap.size + 3 ≤ g15 ∧ g15 ≠ gA ∧ mb ≠ gA)
  ·skip
   refine wp_region_held_drew (S := (fun W => S4 w.heap.size gA u t ba nb bc X bv c pv W)) (by kernel_rfl) (by exact hS4) ?_
   intro hHeld
   generalize W1.drew = w0 at *
   refine tkA 0 ?_
   refine tkB 1 (y := yieldsIf_load_mid (by rfl) 45 _ rfl gA 1 rfl (stCs c pv) _ (fun W s => s.st) hundT rfl hszC) (h := ?_)
   refine tkA 2 ?_
   refine tkB 3 (y := yieldsIf_load_mid (by rfl) 52 _ rfl w.heap.size 0 rfl (sbL u t) _ (fun W s => s.s.range) hundS rfl hss) (h := ?_)
   refine tkA 4 ?_
   refine tkB 5 (y := yields_cellI (by rfl) _ rfl ⟨w.heap.size + 1, 0, none⟩ rfl (.slice ba nb bc) (fun _ s => (s.p.1 0 _ rfl).1) strsL_load) (h := ?_)
   refine tkA 8 ?_
   refine tkR (rs := [6, 14]) ?_
   refine tkC (fun K hK => ?_) ?_
   ·go_simp
    go_at_call 36
    refine (kkn w0 (hOL.rowN.1) (by omega) (hRB.below scl_ok.len hBw) (hV.below hBw)).mono ?_
    rintro e w1 ⟨mb, rfl, hmb, hmap, hb⟩
    have hmL : L0 ≤ mb := Nat.le_trans hszL hmb
    have hmA : gA < mb := Nat.lt_of_lt_of_le hS4.a.2 hmb
    replace hBw := Below.then hBw hb
    replace hS4 := hS4.then hb
    replace hrs := stab_blk _ _ _ _ hrs hb
    replace hbo := hbo.below hb
    replace hszL := Nat.le_trans hszL hb.size
    replace hpo := hpo.below hb
    replace hOL := hOL.below hb
    clear hb
    refine hK.out _ _ (hS4) ?_
    clear hHeld hK
    intro hHeld
    (try simp only [Act.put, zsA, zsB, zsC])
    refine tkA 7 ?_
    refine tkR (rs := [9, 14]) ?_
    refine tkC (fun K hK => ?_) ?_
    ·go_simp
     go_at_call 35
     refine (kst w1 mb (hOL.pm hfew hBL hmap hmL) hpo).mono ?_
     rintro e w2 ⟨l2, v2, tv, rfl, hPM, hl2, hIR, hcR, hstk, hout, hov, hoth, hnew⟩
     have hsz : w.heap.size + 3 ≤ w1.heap.size := by omega
     have hnA : v2.ownBlock ≠ some gA := fun q => by have h9 := hS4.a.2; rcases hnew gA q with r | r; exact hne2 r; omega
     have hnT : tv.ownBlock ≠ some gA := fun q => by have h9 := hS4.a.2; have := (hout.lt q).1; omega
     replace hBw : Below w.heap.size w w2 := hBw.trans ⟨hoth.os, hoth.tape, hoth.output, hoth.size, fun j hj => hoth.block j (by omega) (.inl (by omega))⟩
     replace hrs := hoth.blk hrs hrs.2 (.inl (by omega))
     replace hbo := hbo.keep fun j hj => hoth.block j (hbo.lt hj).2 (.inr (hbo.lt hj).1)
     replace hS4 := hS4.oth hoth (by omega) hgab
     replace hszL := Nat.le_trans hszL hoth.size
     replace hout := hout.lower (b := w.heap.size + 3) (by omega)
     clear hOL hpo hmap hoth hnew
     refine hK.out _ _ (hS4) ?_
     clear hHeld hK
     intro hHeld
     (try simp only [Act.put, zsA, zsB, zsC])
     refine tkA 10 ?_
     refine tkA 11 ?_
     refine tkA 12 ?_
     refine tkA 13 ?_
     refine tkR (rs := [14]) ?_
     refine tkC (fun K hK => ?_) AllReadyH.nil
     have hb := alloc_below w2 (.cells Z18C 45)
     refine step_allocC (z := Z18C) rfl rfl (fun _ => rfl) ?_
     (try simp only [Act.put, zsA, zsB, zsC])
     refine hK.out _ _ (hS4.then hb) ?_
     clear hHeld hK
     intro hHeld
     have hn15 : v2.ownBlock ≠ some w2.heap.size := fun q => by have := (hstk.lt q).2; omega
     have ht15 : tv.ownBlock ≠ some w2.heap.size := fun q => by have := (hout.lt q).2; omega
     have hm15 : mb < w2.heap.size := by have := hPM.map.lt; omega
     have hb15 : bv.ownBlock ≠ some w2.heap.size := fun q => by have := (hbo.lt q).2; omega
     have hg15L : L0 ≤ w2.heap.size := hszL
     have hgA15 : w2.heap.size ≠ gA := fun q => by have := hS4.a.2; omega
     have hg3 : w.heap.size + 3 ≤ w2.heap.size := by omega
     have hg15 : BlkL w2.heap.size (stCs zeroC nilS) (w2.alloc (.cells Z18C 45)) := blkl_alloc w2 Z18C 45
     have hg15s : w2.heap.size < (w2.alloc (.cells Z18C 45)).heap.size := hg15.2
     replace hBw := Below.then hBw hb
     replace hS4 := hS4.then hb
     replace hrs := stab_blk _ _ _ _ hrs hb
     replace hbo := hbo.below hb
     replace hszL := Nat.le_trans hszL hb.size
     replace hPM := hPM.below hb
     replace hstk := hstk.below hb
     replace hout := hout.below hb
     replace hHeld := hHeld
     generalize w2.alloc (.cells Z18C 45) = w3 at *
     generalize w2.heap.size = g15 at *
     clear hb
     (try simp only [Act.put, zsA, zsB, zsC])
     refine tkR (rs := [15]) ?_
     refine tkC (fun K hK => ?_) AllReadyH.nil
     obtain ⟨sa, sc, hsv, -⟩ := hstk.slice frc_len
     have hZl : (stCs R.c v2).length = 18 := st_len hcR.ps
     have hZo : ∀ y ∈ stCs R.c v2, y.oneCell' = true := st_one R.c v2 (by rw [hsv]; rfl)
     have hZs : (Tryz.prog.info? 45).map (·.size) = some (stCs R.c v2).length := by rw [hZl]; exact hszT
     obtain ⟨V9, hV9, hth9, hgn, hb9⟩ := put_any hg15 (ds := stCs R.c v2) (by rw [hZl]; rfl) (by rw [hZl]; decide)
     refine step_store_rowC rfl _ _ rfl g15 rfl (stCs R.c v2) rfl hth9 hZs hZo hV9 ?_
     (try simp only [Act.put, zsA, zsB, zsC])
     have hk9 : ∀ j, j ≠ g15 → V9.heap[j]? = w3.heap[j]? := fun j hj => by rw [← hV9]; exact heap_setCells_other hj _ _ _
     have hs9 : w3.heap.size ≤ V9.heap.size := (hb9 0 w3 (Nat.zero_le _) (Below.refl _ _)).size
     replace hBw := hb9 _ _ (by omega) hBw
     replace hrs : BlkL (w.heap.size + 2) (prL nilS (stCs zeroC nilS)) V9 := ⟨hrs.1.same (hk9 _ (by omega)), Nat.lt_of_lt_of_le hrs.2 hs9⟩
     replace hS4 := hS4.keep hk9 hs9 hg3 hgA15
     replace hg15 := hgn
     replace hbo := hbo.keep fun j hj => hk9 j (fun q => hb15 (by rw [hj, q]))
     replace hPM := hPM.keep fun j hj => hk9 j (by rcases hj with hj | hj <;> omega)
     replace hstk := hstk.keep fun j hj => hk9 j (fun q => hn15 (by rw [hj, q]))
     replace hout := hout.keep fun j hj => hk9 j (fun q => ht15 (by rw [hj, q]))
     replace hmA : mb ≠ gA := by omega
     clear hk9 hth9 hb9 hV9 hZl hZo hZs hs9 hgn hsv
     refine hK.out _ _ (hS4) ?_
     clear hHeld hK
     intro hHeld
     (try simp only [Act.put, zsA, zsB, zsC])
     refine tkA 16 ?_
     refine tkA 17 ?_
     refine wpAnyH_done (by kernel_rfl) ?_ _
     clear hHeld
     go_wp2_with fail
     go_meet
     exact ⟨g15, mb, l2, v2, tv, rfl, rfl, rfl, hBw, hrs, hS4.a, hg15, hPM, hl2, hIR, hcR, hstk, hout, hbo, hov, hnA, hnT, hg3, hgA15, hmA⟩
    refine tkC (fun K hK => ?_) AllReadyH.nil
    have hb := alloc_below w1 (.cells Z18C 45)
    refine step_allocC (z := Z18C) rfl rfl (fun _ => rfl) ?_
    (try simp only [Act.put, zsA, zsB, zsC])
    refine hK.out _ _ (hS4.then hb) ?_
    clear hHeld hK
    intro hHeld
    have hp15 : pv.ownBlock ≠ some w1.heap.size := fun q => by have := (hpo.lt q).2; omega
    have hm15 : mb < w1.heap.size := by have := hmap.lt; omega
    have hb15 : bv.ownBlock ≠ some w1.heap.size := fun q => by have := (hbo.lt q).2; omega
    have hg15L : L0 ≤ w1.heap.size := hszL
    have hgA15 : w1.heap.size ≠ gA := fun q => by have := hS4.a.2; omega
    have hg3 : w.heap.size + 3 ≤ w1.heap.size := by omega
    have hg15 : BlkL w1.heap.size (stCs zeroC nilS) (w1.alloc (.cells Z18C 45)) := blkl_alloc w1 Z18C 45
    have hg15s : w1.heap.size < (w1.alloc (.cells Z18C 45)).heap.size := hg15.2
    replace hBw := Below.then hBw hb
    replace hS4 := hS4.then hb
    replace hrs := stab_blk _ _ _ _ hrs hb
    replace hbo := hbo.below hb
    replace hszL := Nat.le_trans hszL hb.size
    replace hpo := hpo.below hb
    replace hOL := hOL.below hb
    replace hmap := hmap.same (hb.block _ hmap.lt)
    replace hHeld := hHeld
    generalize w1.alloc (.cells Z18C 45) = w2 at *
    generalize w1.heap.size = g15 at *
    clear hb
    (try simp only [Act.put, zsA, zsB, zsC])
    refine tkR (rs := [9]) ?_
    refine tkC (fun K hK => ?_) AllReadyH.nil
    go_simp
    go_at_call 35
    refine (kst w2 mb (hOL.pm hfew hBL hmap hmL) hpo).mono ?_
    rintro e w3 ⟨l2, v2, tv, rfl, hPM, hl2, hIR, hcR, hstk, hout, hov, hoth, hnew⟩
    have hsz : w.heap.size + 3 ≤ w2.heap.size := by omega
    have hnA : v2.ownBlock ≠ some gA := fun q => by have h9 := hS4.a.2; rcases hnew gA q with r | r; exact hne2 r; omega
    have hnT : tv.ownBlock ≠ some gA := fun q => by have h9 := hS4.a.2; have := (hout.lt q).1; omega
    have hn15 : v2.ownBlock ≠ some g15 := fun q => by rcases hnew g15 q with r | r; exact hp15 r; omega
    have ht15 : tv.ownBlock ≠ some g15 := fun q => by have := (hout.lt q).1; omega
    replace hg15 := hoth.blk hg15 hg15s (.inr hg15L)
    replace hBw : Below w.heap.size w w3 := hBw.trans ⟨hoth.os, hoth.tape, hoth.output, hoth.size, fun j hj => hoth.block j (by omega) (.inl (by omega))⟩
    replace hrs := hoth.blk hrs hrs.2 (.inl (by omega))
    replace hbo := hbo.keep fun j hj => hoth.block j (hbo.lt hj).2 (.inr (hbo.lt hj).1)
    replace hS4 := hS4.oth hoth (by omega) hgab
    replace hszL := Nat.le_trans hszL hoth.size
    replace hout := hout.lower (b := w.heap.size + 3) (by omega)
    clear hOL hpo hmap hoth hnew
    refine hK.out _ _ (hS4) ?_
    clear hHeld hK
    intro hHeld
    (try simp only [Act.put, zsA, zsB, zsC])
    refine tkA 10 ?_
    refine tkA 11 ?_
    refine tkA 12 ?_
    refine tkA 13 ?_
    refine tkR (rs := [15]) ?_
    refine tkC (fun K hK => ?_) AllReadyH.nil
    obtain ⟨sa, sc, hsv, -⟩ := hstk.slice frc_len
    have hZl : (stCs R.c v2).length = 18 := st_len hcR.ps
    have hZo : ∀ y ∈ stCs R.c v2, y.oneCell' = true := st_one R.c v2 (by rw [hsv]; rfl)
    have hZs : (Tryz.prog.info? 45).map (·.size) = some (stCs R.c v2).length := by rw [hZl]; exact hszT
    obtain ⟨V9, hV9, hth9, hgn, hb9⟩ := put_any hg15 (ds := stCs R.c v2) (by rw [hZl]; rfl) (by rw [hZl]; decide)
    refine step_store_rowC rfl _ _ rfl g15 rfl (stCs R.c v2) rfl hth9 hZs hZo hV9 ?_
    (try simp only [Act.put, zsA, zsB, zsC])
    have hk9 : ∀ j, j ≠ g15 → V9.heap[j]? = w3.heap[j]? := fun j hj => by rw [← hV9]; exact heap_setCells_other hj _ _ _
    have hs9 : w3.heap.size ≤ V9.heap.size := (hb9 0 w3 (Nat.zero_le _) (Below.refl _ _)).size
    replace hBw := hb9 _ _ (by omega) hBw
    replace hrs : BlkL (w.heap.size + 2) (prL nilS (stCs zeroC nilS)) V9 := ⟨hrs.1.same (hk9 _ (by omega)), Nat.lt_of_lt_of_le hrs.2 hs9⟩
    replace hS4 := hS4.keep hk9 hs9 hg3 hgA15
    replace hg15 := hgn
    replace hbo := hbo.keep fun j hj => hk9 j (fun q => hb15 (by rw [hj, q]))
    replace hPM := hPM.keep fun j hj => hk9 j (by rcases hj with hj | hj <;> omega)
    replace hstk := hstk.keep fun j hj => hk9 j (fun q => hn15 (by rw [hj, q]))
    replace hout := hout.keep fun j hj => hk9 j (fun q => ht15 (by rw [hj, q]))
    replace hmA : mb ≠ gA := by omega
    clear hk9 hth9 hb9 hV9 hZl hZo hZs hs9 hgn hsv
    refine hK.out _ _ (hS4) ?_
    clear hHeld hK
    intro hHeld
    (try simp only [Act.put, zsA, zsB, zsC])
    refine tkA 16 ?_
    refine tkA 17 ?_
    refine wpAnyH_done (by kernel_rfl) ?_ _
    clear hHeld
    go_wp2_with fail
    go_meet
    exact ⟨g15, mb, l2, v2, tv, rfl, rfl, rfl, hBw, hrs, hS4.a, hg15, hPM, hl2, hIR, hcR, hstk, hout, hbo, hov, hnA, hnT, hg3, hgA15, hmA⟩
   refine tkC (fun K hK => ?_) AllReadyH.nil
   have hb := alloc_below w0 (.cells Z18C 45)
   refine step_allocC (z := Z18C) rfl rfl (fun _ => rfl) ?_
   (try simp only [Act.put, zsA, zsB, zsC])
   refine hK.out _ _ (hS4.then hb) ?_
   clear hHeld hK
   intro hHeld
   have hp15 : pv.ownBlock ≠ some w0.heap.size := fun q => by have := (hpo.lt q).2; omega
   have hb15 : bv.ownBlock ≠ some w0.heap.size := fun q => by have := (hbo.lt q).2; omega
   have hg15L : L0 ≤ w0.heap.size := hszL
   have hgA15 : w0.heap.size ≠ gA := fun q => by have := hS4.a.2; omega
   have hg3 : w.heap.size + 3 ≤ w0.heap.size := by omega
   have hg15 : BlkL w0.heap.size (stCs zeroC nilS) (w0.alloc (.cells Z18C 45)) := blkl_alloc w0 Z18C 45
   have hg15s : w0.heap.size < (w0.alloc (.cells Z18C 45)).heap.size := hg15.2
   replace hBw := Below.then hBw hb
   replace hS4 := hS4.then hb
   replace hrs := stab_blk _ _ _ _ hrs hb
   replace hbo := hbo.below hb
   replace hszL := Nat.le_trans hszL hb.size
   replace hpo := hpo.below hb
   replace hOL := hOL.below hb
   replace hHeld := hHeld
   generalize w0.alloc (.cells Z18C 45) = w1 at *
   generalize w0.heap.size = g15 at *
   clear hb
   (try simp only [Act.put, zsA, zsB, zsC])
   refine tkR (rs := [6]) ?_
   refine tkC (fun K hK => ?_) AllReadyH.nil
   go_simp
   go_at_call 36
   refine (kkn w1 (hOL.rowN.1) (by omega) (hRB.below scl_ok.len hBw) (hV.below hBw)).mono ?_
   rintro e w2 ⟨mb, rfl, hmb, hmap, hb⟩
   have hmL : L0 ≤ mb := Nat.le_trans hszL hmb
   have hmA : gA < mb := Nat.lt_of_lt_of_le hS4.a.2 hmb
   replace hBw := Below.then hBw hb
   replace hS4 := hS4.then hb
   replace hrs := stab_blk _ _ _ _ hrs hb
   replace hbo := hbo.below hb
   replace hszL := Nat.le_trans hszL hb.size
   replace hpo := hpo.below hb
   replace hOL := hOL.below hb
   replace hg15 := stab_blk _ _ _ _ hg15 hb
   have hm15 : g15 < mb := Nat.lt_of_lt_of_le hg15s hmb
   replace hg15s : g15 < w2.heap.size := Nat.lt_of_lt_of_le hg15s hb.size
   clear hb
   refine hK.out _ _ (hS4) ?_
   clear hHeld hK
   intro hHeld
   (try simp only [Act.put, zsA, zsB, zsC])
   refine tkA 7 ?_
   refine tkR (rs := [9]) ?_
   refine tkC (fun K hK => ?_) AllReadyH.nil
   go_simp
   go_at_call 35
   refine (kst w2 mb (hOL.pm hfew hBL hmap hmL) hpo).mono ?_
   rintro e w3 ⟨l2, v2, tv, rfl, hPM, hl2, hIR, hcR, hstk, hout, hov, hoth, hnew⟩
   have hsz : w.heap.size + 3 ≤ w2.heap.size := by omega
   have hnA : v2.ownBlock ≠ some gA := fun q => by have h9 := hS4.a.2; rcases hnew gA q with r | r; exact hne2 r; omega
   have hnT : tv.ownBlock ≠ some gA := fun q => by have h9 := hS4.a.2; have := (hout.lt q).1; omega
   have hn15 : v2.ownBlock ≠ some g15 := fun q => by rcases hnew g15 q with r | r; exact hp15 r; omega
   have ht15 : tv.ownBlock ≠ some g15 := fun q => by have := (hout.lt q).1; omega
   replace hg15 := hoth.blk hg15 hg15s (.inr hg15L)
   replace hBw : Below w.heap.size w w3 := hBw.trans ⟨hoth.os, hoth.tape, hoth.output, hoth.size, fun j hj => hoth.block j (by omega) (.inl (by omega))⟩
   replace hrs := hoth.blk hrs hrs.2 (.inl (by omega))
   replace hbo := hbo.keep fun j hj => hoth.block j (hbo.lt hj).2 (.inr (hbo.lt hj).1)
   replace hS4 := hS4.oth hoth (by omega) hgab
   replace hszL := Nat.le_trans hszL hoth.size
   replace hout := hout.lower (b := w.heap.size + 3) (by omega)
   clear hOL hpo hmap hoth hnew
   refine hK.out _ _ (hS4) ?_
   clear hHeld hK
   intro hHeld
   (try simp only [Act.put, zsA, zsB, zsC])
   refine tkA 10 ?_
   refine tkA 11 ?_
   refine tkA 12 ?_
   refine tkA 13 ?_
   refine tkR (rs := [15]) ?_
   refine tkC (fun K hK => ?_) AllReadyH.nil
   obtain ⟨sa, sc, hsv, -⟩ := hstk.slice frc_len
   have hZl : (stCs R.c v2).length = 18 := st_len hcR.ps
   have hZo : ∀ y ∈ stCs R.c v2, y.oneCell' = true := st_one R.c v2 (by rw [hsv]; rfl)
   have hZs : (Tryz.prog.info? 45).map (·.size) = some (stCs R.c v2).length := by rw [hZl]; exact hszT
   obtain ⟨V9, hV9, hth9, hgn, hb9⟩ := put_any hg15 (ds := stCs R.c v2) (by rw [hZl]; rfl) (by rw [hZl]; decide)
   refine step_store_rowC rfl _ _ rfl g15 rfl (stCs R.c v2) rfl hth9 hZs hZo hV9 ?_
   (try simp only [Act.put, zsA, zsB, zsC])
   have hk9 : ∀ j, j ≠ g15 → V9.heap[j]? = w3.heap[j]? := fun j hj => by rw [← hV9]; exact heap_setCells_other hj _ _ _
   have hs9 : w3.heap.size ≤ V9.heap.size := (hb9 0 w3 (Nat.zero_le _) (Below.refl _ _)).size
   replace hBw := hb9 _ _ (by omega) hBw
   replace hrs : BlkL (w.heap.size + 2) (prL nilS (stCs zeroC nilS)) V9 := ⟨hrs.1.same (hk9 _ (by omega)), Nat.lt_of_lt_of_le hrs.2 hs9⟩
   replace hS4 := hS4.keep hk9 hs9 hg3 hgA15
   replace hg15 := hgn
   replace hbo := hbo.keep fun j hj => hk9 j (fun q => hb15 (by rw [hj, q]))
   replace hPM := hPM.keep fun j hj => hk9 j (by rcases hj with hj | hj <;> omega)
   replace hstk := hstk.keep fun j hj => hk9 j (fun q => hn15 (by rw [hj, q]))
   replace hout := hout.keep fun j hj => hk9 j (fun q => ht15 (by rw [hj, q]))
   replace hmA : mb ≠ gA := by omega
   clear hk9 hth9 hb9 hV9 hZl hZo hZs hs9 hgn hsv
   refine hK.out _ _ (hS4) ?_
   clear hHeld hK
   intro hHeld
   (try simp only [Act.put, zsA, zsB, zsC])
   refine tkA 16 ?_
   refine tkA 17 ?_
   refine wpAnyH_done (by kernel_rfl) ?_ _
   clear hHeld
   go_wp2_with fail
   go_meet
   exact ⟨g15, mb, l2, v2, tv, rfl, rfl, rfl, hBw, hrs, hS4.a, hg15, hPM, hl2, hIR, hcR, hstk, hout, hbo, hov, hnA, hnT, hg3, hgA15, hmA⟩
  case rest =>
   clear hS4 hBw hrs hOL hbo hpo hszL kkn kst
   obtain ⟨g15, mb, l2, v2, tv, rfl, rfl, rfl, hBw, hrs, hbh, hg15, hPM, hl2, hIR, hcR, hstk, hout, hbo, hov, hnA, hnT, hg3, hgA15, hmA⟩ := hcut
   have hlY : (stCs R.c v2).length = 18 := st_len hcR.ps
   have hx17 := (hg15.1 17 _ (st_hl hcR.ps)).1
   obtain ⟨sa, sc, hsv, -⟩ := hstk.slice frc_len
   have hYo : ∀ y ∈ stCs R.c v2, y.oneCell' = true := st_one R.c v2 (by rw [hsv]; rfl)
   obtain ⟨sa2, sc2, hbv, -⟩ := hbo.slice scl_ok.len
   have hlX : (stCs c pv).length = 18 := st_len hc.ps
   obtain ⟨W4, hW4, hth4, hp4, hb4⟩ := put_mid (Z := w) hbh 1 (stCs R.c v2) (by simp [hlX, hlY]) (by simp) hBw (by omega)
   rw [show setM (prL bv (stCs c pv)) 1 (stCs R.c v2) = prL bv (stCs R.c v2) from setM_all (stCs R.c v2) (stCs c pv) [bv] (by rw [hlX, hlY])] at hp4
   have hk4 : ∀ j, j ≠ gA → W4.heap[j]? = wc.heap[j]? := fun j hj => by rw [← hW4]; exact heap_setCells_other hj _ _ _
   have hs4 : wc.heap.size ≤ W4.heap.size := by rw [← hW4]; exact (Below.cells (B := 0) (b := gA) (Nat.zero_le _) (stCs R.c v2) 1 (Below.refl 0 wc)).size
   have hrs4 : BlkL (w.heap.size + 2) (prL nilS (stCs zeroC nilS)) W4 := ⟨hrs.1.same (hk4 _ (by omega)), Nat.lt_of_lt_of_le hrs.2 hs4⟩
   have hPM4 := hPM.keep fun j hj => hk4 j (by rcases hj with hj | hj <;> omega)
   have hstk4 := hstk.keep fun j hj => hk4 j (fun q => hnA (by rw [hj, q]))
   have hout4 := hout.keep fun j hj => hk4 j (fun q => hnT (by rw [hj, q]))
   have hbo4 := hbo.keep fun j hj => hk4 j (fun q => hne1 (by rw [hj, q]))
   have hx4 : W4.drew.cell? ⟨g15, 17, none⟩ = some (.bool R.c.hl) := (World.cell?_of_block (a := ⟨g15, 17, none⟩) (hk4 g15 hgA15)).trans hx17
   have hrA : W4.drew.rangeAt gA 0 (prL bv (stCs R.c v2)) := hp4.range
   have hg15r := hg15.range
   have hsY : (Tryz.prog.info? 45).map (·.size) = some (stCs R.c v2).length := by rw [hlY]; exact hszT
   have hoP : ∀ y ∈ prL bv (stCs R.c v2), y.oneCell' = true := fun y hy => (List.mem_cons.1 hy).elim (fun q => by rw [q, hbv]; rfl) (fun q => hYo y q)
   have hsP : (Tryz.prog.info? 47).map (·.size) = some (prL bv (stCs R.c v2)).length := by rw [hszP]; simp [hlY]
   have hrs5 : BlkL (w.heap.size + 2) (prL nilS (stCs zeroC nilS)) W4.drew := stab_blk _ _ _ _ hrs4 (Below.refl _ _).drew
   obtain ⟨W5, hW5, hth5, hk5, hb5⟩ := put_any hrs5 (ds := prL bv (stCs R.c v2)) (by simp [hlY, st_len (c := zeroC) (v := nilS) rfl]) (by simp)
   have hr5 := hk5.range
   have hB5 : Below w.heap.size w W5 := hb5 _ _ (by omega) hb4.drew
   have hkk : ∀ j, j ≠ w.heap.size + 2 → W5.heap[j]? = W4.heap[j]? := fun j hj => by rw [← hW5]; exact heap_setCells_other hj _ _ _
   have hPM5 := hPM4.keep (W' := W5) fun j hj => hkk j (by have := hPM4.bm; rcases hj with hj | hj <;> omega)
   have hstk5 : OwnR 102 3 frc W5 w.heap.size v2 R.c.st := (hstk4.keep fun j hj => hkk j (by have := (hstk4.lt hj).1; omega)).lower (by omega)
   have hout5 : OwnR 2 1 wcl W5 w.heap.size tv R.out := (hout4.keep fun j hj => hkk j (by have := (hout4.lt hj).1; omega)).lower (by omega)
   have hbo5 : OwnR 9 1 scl W5 w.heap.size bv bs := (hbo4.keep fun j hj => hkk j (by have := (hbo4.lt hj).1; omega)).lower (by omega)
   have hend : RunP bs n R w (.returned (.tuple #[.slice (some ⟨B, 0, none⟩) n n, .agg (prL bv (stCs R.c v2)).toArray, tv, .bool R.over, .int .i64 R.e])) W5 := ⟨l2, B, bv, v2, tv, rfl, hPM5.ln, by omega, hPM5.rowN, hPM5.own, hl2, hIR, hcR, hbo5, hstk5, hout5, hB5⟩
   have hkA : W5.heap[gA]? = W4.heap[gA]? := hkk gA (by omega)
   have hk15 : W5.heap[g15]? = W4.heap[g15]? := hkk g15 (by omega)
   have hxA : W5.rangeAt gA 0 (prL bv (stCs R.c v2)) := fun j v hv => (World.cell?_of_block (a := ⟨gA, 0 + j, none⟩) hkA).trans (hrA j v hv)
   have hx5 : W5.cell? ⟨g15, 17, none⟩ = some (.bool R.c.hl) := (World.cell?_of_block (a := ⟨g15, 17, none⟩) hk15).trans hx4
   clear hPM hPM4 hPM5 hstk hstk4 hstk5 hout hout4 hout5 hbo hbo4 hbo5 hBw hrs hrs4 hrs5 hbh hg15 hp4 hb4 hb5 hk5 hB5 hk4 hkk hkA hk15 hx17 hl2 hIR hnA hnT
   obtain ⟨Y, hY⟩ : ∃ Y, stCs R.c v2 = Y := ⟨_, rfl⟩
   rw [hY] at hlY hYo hW4 hth4 hrA hg15r hsY hoP hsP hW5 hth5 hr5 hend hxA
   clear hY hlX hcR
   obtain ⟨E, hE⟩ : ∃ E, R.e = E := ⟨_, rfl⟩
   obtain ⟨ov, hove⟩ : ∃ o, R.over = o := ⟨_, rfl⟩
   rw [hE] at hov hend ⊢
   rw [hove] at hov hend
   clear hE hove
   go_upto_region 6 with (first | (refine wpList_load_row rfl _ rfl g15 rfl Y hg15r hundT rfl hsY ?_) | (refine wpList_store_part rfl _ _ rfl gA 1 rfl Y rfl hth4 hsY hYo hW4 ?_) | fail)
   clear hth4 hW4 hg15r
   cases hhl : R.c.hl
   ·rw [hhl, Bool.false_or] at hov
    rw [hhl] at hx4 hx5
    subst hov
    have hS0 : W4.drew.rangeAt gA 0 (prL bv Y) ∧ W4.drew.cell? ⟨g15, 17, none⟩ = some (.bool false) := ⟨hrA, hx4⟩
    have hS9 : W5.rangeAt gA 0 (prL bv Y) ∧ W5.cell? ⟨g15, 17, none⟩ = some (.bool false) := ⟨hxA, hx5⟩
    refine wp_region_held_drew (S := (fun W => W.rangeAt gA 0 (prL bv Y) ∧ W.cell? ⟨g15, 17, none⟩ = some (.bool false))) (by kernel_rfl) (by first | exact hS0 | exact hS9) ?_
    intro hHeld
    (first | (refine tkA 0 ?_) | (refine tkB (v := undef) 0 (y := Or.inr ⟨by rfl, rfl⟩) (h := ?_)) | fail)
    (first | (refine tkB 1 (y := yieldsIf_load_mid (by rfl) 47 _ rfl gA 0 rfl (prL bv Y) _ (fun W s => s.1) hundP rfl hsP) (h := ?_)) | (refine tkB (v := undef) 1 (y := Or.inr ⟨by rfl, rfl⟩) (h := ?_)) | fail)
    (first | (refine tkA 2 ?_) | (refine tkB (v := undef) 2 (y := Or.inr ⟨by rfl, rfl⟩) (h := ?_)) | fail)
    (first | (refine tkA 3 ?_) | (refine tkB (v := undef) 3 (y := Or.inr ⟨by rfl, rfl⟩) (h := ?_)) | fail)
    (first | (refine tkB 4 (y := yields_cellI (by rfl) _ rfl ⟨g15, 17, none⟩ rfl (.bool false) (fun _ s => s.2) boolP_load) (h := ?_)) | (refine tkB (v := undef) 4 (y := Or.inr ⟨by rfl, rfl⟩) (h := ?_)) | fail)
    (first | (refine tkA 5 ?_) | (refine tkB (v := undef) 5 (y := Or.inr ⟨by rfl, rfl⟩) (h := ?_)) | fail)
    (first | (refine tkA 6 ?_) | (refine tkB (v := undef) 6 (y := Or.inr ⟨by rfl, rfl⟩) (h := ?_)) | fail)
    (first | (refine tkA 7 ?_) | (refine tkB (v := undef) 7 (y := Or.inr ⟨by rfl, rfl⟩) (h := ?_)) | fail)
    (first | (refine tkA 8 ?_) | (refine tkB (v := undef) 8 (y := Or.inr ⟨by rfl, rfl⟩) (h := ?_)) | fail)
    (first | (refine tkA 9 ?_) | (refine tkB (v := undef) 9 (y := Or.inr ⟨by rfl, rfl⟩) (h := ?_)) | fail)
    (first | (refine tkA 10 ?_) | (refine tkB (v := undef) 10 (y := Or.inr ⟨by rfl, rfl⟩) (h := ?_)) | fail)
    refine tkR (rs := [11]) ?_; refine tkC (fun K hK => ?_) AllReadyH.nil; refine step_store_rowC rfl _ _ rfl (w.heap.size + 2) rfl (prL bv Y) rfl hth5 hsP hoP hW5 ?_; (try simp only [Act.put, zsA, zsB, zsC]); refine hK.out _ _ (by first | exact hS0 | exact hS9) ?_; clear hHeld hK; intro hHeld; (try simp only [Act.put, zsA, zsB, zsC])
    (first | (refine tkA 12 ?_) | (refine tkB (v := undef) 12 (y := Or.inr ⟨by rfl, rfl⟩) (h := ?_)) | fail)
    (first | (refine tkA 13 ?_) | (refine tkB (v := undef) 13 (y := Or.inr ⟨by rfl, rfl⟩) (h := ?_)) | fail)
    (first | (refine tkA 14 ?_) | (refine tkB (v := undef) 14 (y := Or.inr ⟨by rfl, rfl⟩) (h := ?_)) | fail)
    refine wpAnyH_done (by kernel_rfl) ?_ _
    clear hHeld
    go_wp2_with fail
    refine bodyPost_ret (v := _) (results_run rfl _ _ (w.heap.size + 2) rfl _ _ _ _ rfl rfl rfl rfl (prL bv Y) hr5 hundP rfl hsP) rfl ?_
    exact hend
   ·rw [hhl, Bool.true_or] at hov
    rw [hhl] at hx4 hx5
    subst hov
    have hS0 : W4.drew.rangeAt gA 0 (prL bv Y) ∧ W4.drew.cell? ⟨g15, 17, none⟩ = some (.bool true) := ⟨hrA, hx4⟩
    have hS9 : W5.rangeAt gA 0 (prL bv Y) ∧ W5.cell? ⟨g15, 17, none⟩ = some (.bool true) := ⟨hxA, hx5⟩
    refine wp_region_held_drew (S := (fun W => W.rangeAt gA 0 (prL bv Y) ∧ W.cell? ⟨g15, 17, none⟩ = some (.bool true))) (by kernel_rfl) (by first | exact hS0 | exact hS9) ?_
    intro hHeld
    (first | (refine tkA 0 ?_) | (refine tkB (v := undef) 0 (y := Or.inr ⟨by rfl, rfl⟩) (h := ?_)) | fail)
    (first | (refine tkB 1 (y := yieldsIf_load_mid (by rfl) 47 _ rfl gA 0 rfl (prL bv Y) _ (fun W s => s.1) hundP rfl hsP) (h := ?_)) | (refine tkB (v := undef) 1 (y := Or.inr ⟨by rfl, rfl⟩) (h := ?_)) | fail)
    (first | (refine tkA 2 ?_) | (refine tkB (v := undef) 2 (y := Or.inr ⟨by rfl, rfl⟩) (h := ?_)) | fail)
    (first | (refine tkA 3 ?_) | (refine tkB (v := undef) 3 (y := Or.inr ⟨by rfl, rfl⟩) (h := ?_)) | fail)
    (first | (refine tkB 4 (y := yields_cellI (by rfl) _ rfl ⟨g15, 17, none⟩ rfl (.bool true) (fun _ s => s.2) boolP_load) (h := ?_)) | (refine tkB (v := undef) 4 (y := Or.inr ⟨by rfl, rfl⟩) (h := ?_)) | fail)
    (first | (refine tkA 5 ?_) | (refine tkB (v := undef) 5 (y := Or.inr ⟨by rfl, rfl⟩) (h := ?_)) | fail)
    (first | (refine tkA 6 ?_) | (refine tkB (v := undef) 6 (y := Or.inr ⟨by rfl, rfl⟩) (h := ?_)) | fail)
    (first | (refine tkA 7 ?_) | (refine tkB (v := undef) 7 (y := Or.inr ⟨by rfl, rfl⟩) (h := ?_)) | fail)
    (first | (refine tkA 8 ?_) | (refine tkB (v := undef) 8 (y := Or.inr ⟨by rfl, rfl⟩) (h := ?_)) | fail)
    (first | (refine tkA 9 ?_) | (refine tkB (v := undef) 9 (y := Or.inr ⟨by rfl, rfl⟩) (h := ?_)) | fail)
    (first | (refine tkA 10 ?_) | (refine tkB (v := undef) 10 (y := Or.inr ⟨by rfl, rfl⟩) (h := ?_)) | fail)
    refine tkR (rs := [11]) ?_; refine tkC (fun K hK => ?_) AllReadyH.nil; refine step_store_rowC rfl _ _ rfl (w.heap.size + 2) rfl (prL bv Y) rfl hth5 hsP hoP hW5 ?_; (try simp only [Act.put, zsA, zsB, zsC]); refine hK.out _ _ (by first | exact hS0 | exact hS9) ?_; clear hHeld hK; intro hHeld; (try simp only [Act.put, zsA, zsB, zsC])
    (first | (refine tkA 12 ?_) | (refine tkB (v := undef) 12 (y := Or.inr ⟨by rfl, rfl⟩) (h := ?_)) | fail)
    (first | (refine tkA 13 ?_) | (refine tkB (v := undef) 13 (y := Or.inr ⟨by rfl, rfl⟩) (h := ?_)) | fail)
    (first | (refine tkA 14 ?_) | (refine tkB (v := undef) 14 (y := Or.inr ⟨by rfl, rfl⟩) (h := ?_)) | fail)
    refine wpAnyH_done (by kernel_rfl) ?_ _
    clear hHeld
    go_wp2_with fail
    refine bodyPost_ret (v := _) (results_run rfl _ _ (w.heap.size + 2) rfl _ _ _ _ rfl rfl rfl rfl (prL bv Y) hr5 hundP rfl hsP) rfl ?_
    exact hend
end Go.Proofs.YtidihdiffiffmaaGreatDoor
namespace Go.Proofs.YtidihdiffiffmaaGreatDoor
open Go.RowKit
set_option maxRecDepth 8000
set_option linter.unusedSimpArgs false
set_option linter.unusedVariables false
structure One (b : Nat) (g : Option Nat) (V W : World) : Prop where
 os : W.os = V.os
 tape : W.tape = V.tape
 output : W.output = V.output
 size : V.heap.size ≤ W.heap.size
 block : ∀ j, j < V.heap.size → j ≠ b → g ≠ some j → W.heap[j]? = V.heap[j]?
theorem One.of {b : Nat} {g : Option Nat} {V W : World} (h : Below V.heap.size V W) : One b g V W := ⟨h.os, h.tape, h.output, h.size, fun j hj _ _ => h.block j hj⟩
theorem One.trans {b : Nat} {g : Option Nat} {U V W : World} (h : One b g U V) (k : One b g V W) : One b g U W := ⟨k.os.trans h.os, k.tape.trans h.tape, k.output.trans h.output, Nat.le_trans h.size k.size, fun j hj hn hg => (k.block j (Nat.lt_of_lt_of_le hj h.size) hn hg).trans (h.block j hj hn hg)⟩
theorem One.cells {b : Nat} {g : Option Nat} {V W : World} (h : One b g V W) (o : Nat) (us : List Value) : One b g V (W.setCells b o us) := by
 have k := Below.cells (B := 0) (b := b) (Nat.zero_le _) us o (Below.refl 0 W)
 exact ⟨k.os.trans h.os, k.tape.trans h.tape, k.output.trans h.output, Nat.le_trans h.size k.size, fun j hj hn hg => (heap_setCells_other hn us o W).trans (h.block j hj hn hg)⟩
theorem One.drew {b : Nat} {g : Option Nat} {V W : World} (h : One b g V W) : One b g V W.drew := ⟨h.os, h.tape, h.output, h.size, h.block⟩
theorem One.below {b B : Nat} {g : Option Nat} {w V W : World} (h : Below B w V) (k : One b g V W) (hb : B ≤ b) (hV : B ≤ w.heap.size) (hg : ∀ j, g = some j → B ≤ j) : Below B w W := ⟨k.os.trans h.os, k.tape.trans h.tape, k.output.trans h.output, Nat.le_trans h.size k.size, fun j hj => (k.block j (by have := h.size; omega) (by omega) (fun q => by have := hg j q; omega)).trans (h.block j hj)⟩
def Sty (b : Nat) (g : Option Nat) (V : World) (P : World → Prop) : Prop := ∀ W, One b g V W → P W
theorem Sty.then {b : Nat} {g : Option Nat} {V W : World} {P : World → Prop} (h : Sty b g V P) (k : One b g V W) : Sty b g W P := fun X hX => h X (k.trans hX)
theorem Sty.and {b : Nat} {g : Option Nat} {V : World} {P Q : World → Prop} (h : Sty b g V P) (k : Sty b g V Q) : Sty b g V (fun W => P W ∧ Q W) := fun X hX => ⟨h X hX, k X hX⟩
theorem Sty.low {b B : Nat} {g : Option Nat} {V : World} {P : World → Prop} (h : ∀ W, Below B V W → P W) (hB : B ≤ V.heap.size) (hb : B ≤ b) (hg : ∀ j, g = some j → B ≤ j) : Sty b g V P := fun W k => h W (One.below (Below.refl _ _) k hb hB hg)
theorem Sty.own {α : Type} {e : TypeId} {sz b base : Nat} {f : α → List Value} {g : Option Nat} {V : World} {v : Value} {l : List α} (h : OwnR e sz f V base v l) (hb : b < base) (hg : ∀ j, g = some j → v.ownBlock ≠ some j) : Sty b g V (fun W => OwnR e sz f W base v l) := fun W k => h.keep fun j hj => k.block j (h.lt hj).2 (by have := (h.lt hj).1; omega) (fun q => hg j q hj)
theorem Sty.blk {b q : Nat} {g : Option Nat} {V : World} {cs : List Value} (h : BlkL q cs V) (hb : q ≠ b) (hg : g ≠ some q) : Sty b g V (BlkL q cs) := fun W k => ⟨h.1.same (k.block q h.2 hb hg), Nat.lt_of_lt_of_le h.2 k.size⟩
end Go.Proofs.YtidihdiffiffmaaGreatDoor
namespace Go.Proofs.YtidihdiffiffmaaGreatDoor
open Go.RowKit
set_option maxRecDepth 8000
set_option linter.unusedSimpArgs false
set_option linter.unusedVariables false
theorem RowAt.drop1 {α : Type} {f : α → List Value} {W : World} {y : Addr} {l : List α} (h : RowAt 1 f W (some y) l) : RowAt 1 f W (some (y.add 1)) (l.drop 1) := fun j x hx => by
 rw [List.getElem?_drop] at hx
 obtain ⟨y', hy', hc⟩ := h (1 + j) x hx
 obtain rfl := Option.some.inj hy'
 refine ⟨_, rfl, fun i hi => ?_⟩
 rw [Addr.add_add, ← hc i hi]
 congr 2
 omega
theorem dirS0 : dirS 0 = ⟨#[47, 108, 48]⟩ := by decide +kernel
theorem dirS1 : dirS 1 = ⟨#[47, 108, 49]⟩ := by decide +kernel
set_option maxRecDepth 8000 in
set_option maxHeartbeats 4000000 in
theorem pmade_any (ta : Option Addr) (ct : Nat) (ts : List Lab) (ka : Option Addr) (kc : Nat) (ks : List PM) (pa : Option Addr) (pc : Nat) (ps : List PPg) (ma : Option Addr) (mc : Nat) (ms : List Int) (ra : Option Addr) (rc : Nat) (rs : List Rg) (hfit : FitM (ks.map (·.m))) (hpc : ps.length ≤ pc) (hpl : (ps.length : Int) ≤ 9223372036854775807) (w : World) (hlr : RowAt 4 lrow w ta ts) (hmr : RowM w ka ks) (hps : RowAt 1 pgcl w pa ps) (hpA : ∀ x ∈ ps, x.At w) (hms : RowAt 1 icell w ma ms) (hrsR : RowAt 4 rgcl w ra rs) :
    Calls Tryz.prog 10 #[.slice ta ts.length ct, .slice ka ks.length kc, .slice pa ps.length pc, .slice ma ms.length mc, .slice ra rs.length rc] w (PutR (madeN ts (ks.map (·.m)) (ps.map (·.is)) ms rs) w) := by
 have kg := growB_any ta ct ts ka kc ks w hlr hmr
 have kp := fun (a : Option Addr) cap (l : List PN) hl (W : World) h1 h2 h3 h4 h5 => pput_any 0 (by decide) a cap l pa pc ps ma mc ms ra rc rs hl W h1 h2 h3 h4 h5
 have kp1 := fun (a : Option Addr) cap (l : List PN) (y : Addr) hl (W : World) h1 h2 h3 h4 h5 => pput_any 1 (by decide) a cap l (some (y.add 1)) (pc - 1) (ps.drop 1) ma mc ms ra rc rs hl W h1 h2 h3 h4 h5
 rw [dirS0] at kp
 rw [dirS1] at kp1
 have hgood := grow_good ts hfit
 obtain ⟨R, hR⟩ : ∃ R, madeN ts (ks.map (·.m)) (ps.map (·.is)) ms rs = R := ⟨_, rfl⟩
 rw [hR]
 unfold madeN at hR
 rw [List.length_map] at hR
 replace hR : Aside _ := hR
 obtain ⟨nt, hnt⟩ : ∃ n, ts.length = n := ⟨_, rfl⟩
 obtain ⟨nk, hnk⟩ : ∃ n, ks.length = n := ⟨_, rfl⟩
 obtain ⟨np, hnp⟩ : ∃ n, ps.length = n := ⟨_, rfl⟩
 obtain ⟨nm, hnm⟩ : ∃ n, ms.length = n := ⟨_, rfl⟩
 obtain ⟨nr, hnr⟩ : ∃ n, rs.length = n := ⟨_, rfl⟩
 have hd1 : (ps.drop 1).length = np - 1 := by rw [List.length_drop, hnp]
 rw [hnt, hnk] at kg
 rw [hnp, hnm, hnr] at kp
 rw [hd1, hnm, hnr] at kp1
 rw [hnt, hnk, hnp, hnm, hnr]
 rw [hnp] at hpc hpl
 replace hnp : Aside (ps.length = np) := hnp
 clear hnt hnk hnm hnr hd1
 go_enter Tryz.func10, Tryz.ntmps10
 go_wp2_with fail
 refine kg.mono ?_
 rintro e W1 ⟨v, l, rfl, ho, hat, hnm, hb1, -⟩
 obtain ⟨a, c, rfl, -, -, hr⟩ := ho.slice pn_len
 have hl19 : l.length ≤ 19 := by
  have h1 := hgood.2.2
  rw [← hnm] at h1
  simpa [namesP] using h1
 have hrow : RowN W1 a l := ⟨hr, hat⟩
 have kp2 := kp a c l (by omega) W1 hrow (hps.below pg_len1 hb1) (fun x hx => ⟨(hpA x hx).1.below in_okW.len hb1, (hpA x hx).2⟩) (hms.below icell_len hb1) (hrsR.below rg_len hb1)
 clear kp kg ho hat hr hrow
 go_wp2_with fail
 refine kp2.mono ?_
 rintro e W2 ⟨l2, a2, c2, rfl, hrow2, hn2, hb2⟩
 have hB2 := Below.then hb1 hb2
 have hl2 : l2.length ≤ 24 := by
  have h1 := (putD_good (by omega : 0 < 2) hgood.1 hgood.2.1 (ps.map (·.is)) ms rs).2.2
  rw [← hnm, ← hn2] at h1
  have h2 : (namesP l2).length = l2.length := by simp [namesP]
  have h3 : (namesP l).length = l.length := by simp [namesP]
  omega
 clear kp2 hb1 hb2
 by_cases hgt : 2 < np
 ·have hR1 := hR.out
  rw [if_pos (by rw [hnp.out]; exact hgt)] at hR1
  obtain ⟨x, hx⟩ : ∃ x, ps[0]? = some x := ⟨_, List.getElem?_eq_getElem (by rw [hnp.out]; omega)⟩
  obtain ⟨y, rfl, -⟩ := hps 0 x hx
  have kq := kp1 a2 c2 l2 y (by omega) W2 hrow2 ((hps.below pg_len1 hB2).drop1) (fun x hx => ⟨(hpA x (List.mem_of_mem_drop hx)).1.below in_okW.len hB2, (hpA x (List.mem_of_mem_drop hx)).2⟩) (hms.below icell_len hB2) (hrsR.below rg_len hB2)
  have i1 : (2 : Int) < (np : Int) := by omega
  have i2 : ¬ (np : Int) < 1 := by omega
  have i3 : ¬ (pc : Int) < (np : Int) := by omega
  clear kp1 hR
  go_wp2_with fail
  refine kq.mono ?_
  rintro e W3 ⟨l3, a3, c3, rfl, hrow3, hn3, hb3⟩
  have hfin : namesP l3 = R := by
   rw [hn3, hn2, hnm, ← hR1]
   rw [List.map_drop]
  clear kq
  go_wp2_with fail
  go_ret
  exact ⟨l3, a3, c3, rfl, hrow3, hfin, Below.then hB2 hb3⟩
 ·have hR1 := hR.out
  rw [if_neg (by rw [hnp.out]; exact hgt)] at hR1
  have i1 : ¬ (2 : Int) < (np : Int) := by omega
  have hfin : namesP l2 = R := by rw [hn2, hnm, ← hR1]
  clear kp1 hR
  go_wp2_with fail
  go_ret
  exact ⟨l2, a2, c2, rfl, hrow2, hfin, hB2⟩
end Go.Proofs.YtidihdiffiffmaaGreatDoor
namespace Go.Proofs.YtidihdiffiffmaaGreatDoor
open Go.RowKit
set_option maxRecDepth 8000
set_option linter.unusedSimpArgs false
set_option linter.unusedVariables false
theorem newC_ok : newC.Ok := by
 refine ⟨rfl, fun p hp => ?_, ⟨by decide, by decide⟩, ⟨by decide, by decide⟩, by decide, fun f hf => (by simp [newC] at hf)⟩
 simp [newC] at hp
 rcases hp with rfl | rfl | rfl | rfl <;> refine ⟨?_, ?_, ?_, ?_⟩ <;> decide
def newK (k : Nat) : Cp := ⟨0, 0, 4, 0, [⟨0, 0, 4⟩, ⟨1, 0, 4⟩, ⟨2, 0, 4⟩, ⟨3, 0, 4⟩].take k ++ [⟨0, 0, 0⟩, ⟨0, 0, 0⟩, ⟨0, 0, 0⟩, ⟨0, 0, 0⟩].drop k, [], false⟩
theorem newK_len {k : Nat} (h : k ≤ 4) : (newK k).ps.length = 4 := by simp only [newK, List.length_append, List.length_take, List.length_drop, List.length_cons, List.length_nil]; omega
theorem newK_step {k : Nat} (h : k < 4) : setM (stCs (newK k) nilS) (4 + k * 3) (ptr3 ⟨(k : Int), 0, 4⟩) = stCs (newK (k + 1)) nilS := by
 match k, h with
 | 0, _ => rfl
 | 1, _ => rfl
 | 2, _ => rfl
 | 3, _ => rfl
set_option maxRecDepth 8000 in
set_option maxHeartbeats 2000000 in
theorem cnew_any (w : World) : Calls Tryz.prog 30 #[] w fun e w' => e = .returned (.agg (stCs newC nilS).toArray) ∧ Below w.heap.size w w' := by
 have hundS := Tryz.underlying45
 have hszS : (Tryz.prog.info? 45).map (·.size) = some (stCs newC nilS).length := by kernel_rfl
 have hszP : (Tryz.prog.info? 41).map (·.size) = some 3 := by kernel_rfl
 have hr0 : StAt w.heap.size zeroC nilS (w.alloc (.cells zS 45)) := ⟨rfl, blkl_alloc w (stCs zeroC nilS).toArray 45⟩
 have hB0 := alloc_below w (.cells zS 45)
 have hsw : (w.alloc (.cells zS 45)).heap.size = w.heap.size + 1 := by simp
 obtain ⟨W1, hW1, hth1, hs1, hb1⟩ := new_st (w.alloc (.cells zS 45)) (newK 0) rfl nilS 45
 rw [hsw] at hW1 hth1 hs1
 have hr1 := hr0.keep hb1
 have hB1 := Below.then hB0 hb1
 have hone0 : ∀ u ∈ stCs (newK 0) nilS, u.oneCell' = true := st_one _ _ rfl
 have hbd : ∀ w : World, (Instr.build 45 #[(2, .int .i64 4)]).run Tryz.prog w = .ok (.agg (stCs (newK 0) nilS).toArray) w := fun w => by
  have h1 := Tryz.underlying45
  show _ = Result.ok (Value.agg #[.int .i64 0, .int .i64 0, .int .i64 4, .int .i64 0, .int .i64 0, .int .i64 0, .int .i64 0, .int .i64 0, .int .i64 0, .int .i64 0, .int .i64 0, .int .i64 0, .int .i64 0, .int .i64 0, .int .i64 0, .int .i64 0, .slice none 0 0, .bool false]) w
  go_simp
 have hszX : (Tryz.prog.info? 45).map (·.size) = some (stCs (newK 0) nilS).length := by kernel_rfl
 obtain ⟨X, hX⟩ : ∃ X, stCs (newK 0) nilS = X := ⟨_, rfl⟩
 simp only [hX] at hW1 hth1 hone0 hbd hszX
 clear hX hr0 hB0 hb1 hsw
 go_enter Tryz.func30, Tryz.ntmps30
 go_upto_region 2 with (first | (refine wpList_buildv rfl _ rfl #[(2, .int .i64 4)] (by simp [Act.eval]) (hbd _) ?_) | (refine wpList_store_row rfl _ _ rfl (w.heap.size + 1) rfl X rfl hth1 hszX hone0 hW1 ?_) | fail)
 clear hW1 hth1 hone0 hbd hszX
 go_wp2_with fail
 go_loopw [4] (fun t4 wr => ∃ k : Nat, k ≤ 4 ∧ t4 = .int .i64 (k : Int) ∧ StAt w.heap.size zeroC nilS wr ∧ StAt (w.heap.size + 1) (newK k) nilS wr ∧ Below w.heap.size w wr) (fun t4 _ => 4 - (Go.RowKit.intOf t4).toNat)
 case atStart => exact ⟨0, by omega, rfl, hr1, hs1, hB1⟩
 case round =>
 clear hr1 hs1 hB1
 obtain ⟨k, hk, rfl, hr, hs, hB⟩ := hrel
 by_cases hk4 : k < 4
 ·have i1 : (k : Int) < 4 := by omega
  have i2 : ¬ (k : Int) < 0 := by omega
  obtain ⟨W2, hW2, hth2, hs2, hk2, hf2⟩ := hs.putPtr hk4 ⟨(k : Int), 0, 4⟩ (newK_len (by omega)) (newK_step hk4)
  have hB2 := hk2 _ _ (Nat.le_succ _) hB
  have hr2 : StAt w.heap.size zeroC nilS W2 := ⟨rfl, hr.blk.1.same (hf2 _ (by omega)), Nat.lt_of_lt_of_le hr.blk.2 (hk2 0 wr (Nat.zero_le _) (Below.refl _ _)).size⟩
  clear hr hs hB hk2 hf2
  go_wp2_with (first | (refine wpList_store_part rfl _ _ rfl (w.heap.size + 1) (4 + k * 3) rfl (ptr3 ⟨(k : Int), 0, 4⟩) rfl hth2 hszP (ptr3J_one _) hW2 ?_) | fail)
  exact ⟨⟨k + 1, by omega, by simp, hr2, hs2, hB2⟩, by simp [Go.RowKit.intOf]; omega⟩
 ·obtain rfl : k = 4 := by omega
  have hs4 : StAt (w.heap.size + 1) newC nilS wr := hs
  obtain ⟨W3, hW3, hth3, hr3, hk3⟩ := put_st hr (d := newC) rfl nilS
  have hB3 := hk3 _ _ (Nat.le_refl _) hB
  have hrg := hs4.blk.range
  have hr3r := hr3.blk.range
  have hone : ∀ u ∈ stCs newC nilS, u.oneCell' = true := st_one _ _ rfl
  obtain ⟨Y, hY⟩ : ∃ Y, stCs newC nilS = Y := ⟨_, rfl⟩
  rw [hY] at hW3 hth3 hrg hr3r hone hszS
  replace hY : Aside (stCs newC nilS = Y) := hY
  clear hr hs hB hs4 hr3 hk3
  go_wp2_with (first | (refine wpList_load_row rfl _ rfl (w.heap.size + 1) rfl Y hrg hundS rfl hszS ?_) | (refine wpList_store_row rfl _ _ rfl w.heap.size rfl Y rfl hth3 hszS hone hW3 ?_) | fail)
  refine bodyPost_ret (v := .agg Y.toArray) (results_row1 rfl _ _ w.heap.size rfl Y hr3r hundS rfl hszS) rfl ?_
  exact ⟨by rw [hY.out], hB3⟩
set_option maxRecDepth 8000 in
set_option maxHeartbeats 2000000 in
theorem rnew_any (w : World) : Calls Tryz.prog 32 #[] w fun e w' => e = .returned (.agg (stCs newC nilS).toArray) ∧ Below w.heap.size w w' := by
 have hundS := Tryz.underlying55
 have hszS : (Tryz.prog.info? 55).map (·.size) = some (stCs newC nilS).length := by kernel_rfl
 have hszP : (Tryz.prog.info? 41).map (·.size) = some 3 := by kernel_rfl
 have hr0 : StAt w.heap.size zeroC nilS (w.alloc (.cells zS 55)) := ⟨rfl, blkl_alloc w (stCs zeroC nilS).toArray 55⟩
 have hB0 := alloc_below w (.cells zS 55)
 have hsw : (w.alloc (.cells zS 55)).heap.size = w.heap.size + 1 := by simp
 obtain ⟨W1, hW1, hth1, hs1, hb1⟩ := new_st (w.alloc (.cells zS 55)) (newK 0) rfl nilS 55
 rw [hsw] at hW1 hth1 hs1
 have hr1 := hr0.keep hb1
 have hB1 := Below.then hB0 hb1
 have hone0 : ∀ u ∈ stCs (newK 0) nilS, u.oneCell' = true := st_one _ _ rfl
 have hbd : ∀ w : World, (Instr.build 55 #[(2, .int .i64 4)]).run Tryz.prog w = .ok (.agg (stCs (newK 0) nilS).toArray) w := fun w => by
  have h1 := Tryz.underlying55
  show _ = Result.ok (Value.agg #[.int .i64 0, .int .i64 0, .int .i64 4, .int .i64 0, .int .i64 0, .int .i64 0, .int .i64 0, .int .i64 0, .int .i64 0, .int .i64 0, .int .i64 0, .int .i64 0, .int .i64 0, .int .i64 0, .int .i64 0, .int .i64 0, .slice none 0 0, .bool false]) w
  go_simp
 have hszX : (Tryz.prog.info? 55).map (·.size) = some (stCs (newK 0) nilS).length := by kernel_rfl
 obtain ⟨X, hX⟩ : ∃ X, stCs (newK 0) nilS = X := ⟨_, rfl⟩
 simp only [hX] at hW1 hth1 hone0 hbd hszX
 clear hX hr0 hB0 hb1 hsw
 go_enter Tryz.func32, Tryz.ntmps32
 go_upto_region 2 with (first | (refine wpList_buildv rfl _ rfl #[(2, .int .i64 4)] (by simp [Act.eval]) (hbd _) ?_) | (refine wpList_store_row rfl _ _ rfl (w.heap.size + 1) rfl X rfl hth1 hszX hone0 hW1 ?_) | fail)
 clear hW1 hth1 hone0 hbd hszX
 go_wp2_with fail
 go_loopw [2] (fun t2 wr => ∃ k : Nat, k ≤ 4 ∧ t2 = .int .i64 (k : Int) ∧ StAt w.heap.size zeroC nilS wr ∧ StAt (w.heap.size + 1) (newK k) nilS wr ∧ Below w.heap.size w wr) (fun t2 _ => 4 - (Go.RowKit.intOf t2).toNat)
 case atStart => exact ⟨0, by omega, rfl, hr1, hs1, hB1⟩
 case round =>
 clear hr1 hs1 hB1
 obtain ⟨k, hk, rfl, hr, hs, hB⟩ := hrel
 by_cases hk4 : k < 4
 ·have i1 : (k : Int) < 4 := by omega
  have i2 : ¬ (k : Int) < 0 := by omega
  obtain ⟨W2, hW2, hth2, hs2, hk2, hf2⟩ := hs.putPtr hk4 ⟨(k : Int), 0, 4⟩ (newK_len (by omega)) (newK_step hk4)
  have hB2 := hk2 _ _ (Nat.le_succ _) hB
  have hr2 : StAt w.heap.size zeroC nilS W2 := ⟨rfl, hr.blk.1.same (hf2 _ (by omega)), Nat.lt_of_lt_of_le hr.blk.2 (hk2 0 wr (Nat.zero_le _) (Below.refl _ _)).size⟩
  clear hr hs hB hk2 hf2
  go_wp2_with (first | (refine wpList_store_part rfl _ _ rfl (w.heap.size + 1) (4 + k * 3) rfl (ptr3 ⟨(k : Int), 0, 4⟩) rfl hth2 hszP (ptr3J_one _) hW2 ?_) | fail)
  exact ⟨⟨k + 1, by omega, by simp, hr2, hs2, hB2⟩, by simp [Go.RowKit.intOf]; omega⟩
 ·obtain rfl : k = 4 := by omega
  have hs4 : StAt (w.heap.size + 1) newC nilS wr := hs
  obtain ⟨W3, hW3, hth3, hr3, hk3⟩ := put_st hr (d := newC) rfl nilS
  have hB3 := hk3 _ _ (Nat.le_refl _) hB
  have hrg := hs4.blk.range
  have hr3r := hr3.blk.range
  have hone : ∀ u ∈ stCs newC nilS, u.oneCell' = true := st_one _ _ rfl
  obtain ⟨Y, hY⟩ : ∃ Y, stCs newC nilS = Y := ⟨_, rfl⟩
  rw [hY] at hW3 hth3 hrg hr3r hone hszS
  replace hY : Aside (stCs newC nilS = Y) := hY
  clear hr hs hB hs4 hr3 hk3
  go_wp2_with (first | (refine wpList_load_row rfl _ rfl (w.heap.size + 1) rfl Y hrg hundS rfl hszS ?_) | (refine wpList_store_row rfl _ _ rfl w.heap.size rfl Y rfl hth3 hszS hone hW3 ?_) | fail)
  refine bodyPost_ret (v := .agg Y.toArray) (results_row1 rfl _ _ w.heap.size rfl Y hr3r hundS rfl hszS) rfl ?_
  exact ⟨by rw [hY.out], hB3⟩
end Go.Proofs.YtidihdiffiffmaaGreatDoor
namespace Go.Proofs.YtidihdiffiffmaaGreatDoor
open Go.RowKit
set_option maxRecDepth 8000
set_option linter.unusedSimpArgs false
set_option linter.unusedVariables false
def bindE (L : List Nod) (u : ByteArray) (t : Lab) (p : ByteArray) (m : Int) : Int := if mayE L u t p m ≠ 0 then mayE L u t p m else if (gotN L p).dir = true then 3 else 0
def goE (L : List Nod) (u : ByteArray) (t : Lab) : Int → List ByteArray → Int
 | _, [] => 0
 | m, p :: r => if bindE L u t p m ≠ 0 then bindE L u t p m else goE L u t 1 r
def makeE (L : List Nod) (u : ByteArray) (t : Lab) (bs : List ByteArray) : Int := if bs.length < 1 ∨ 4 < bs.length then 1 else goE L u t 4 bs
def modeK (k : Nat) : Int := if k = 0 then 4 else 1
theorem goE_at {L : List Nod} {u : ByteArray} {t : Lab} {bs : List ByteArray} {k : Nat} {p : ByteArray} (h : bs[k]? = some p) : goE L u t (modeK k) (bs.drop k) = if bindE L u t p (modeK k) ≠ 0 then bindE L u t p (modeK k) else goE L u t (modeK (k + 1)) (bs.drop (k + 1)) := by
 have hl := (List.getElem?_eq_some_iff.1 h).1
 rw [List.drop_eq_getElem_cons hl, (List.getElem?_eq_some_iff.1 h).2, goE]
 rfl
def MakeP (bs : List ByteArray) (E : Int) (w : World) (e : Ending) (w' : World) : Prop := Below w.heap.size w w' ∧ (E ≠ 0 → e = .returned (.tuple #[.agg (prL nilS (stCs zeroC nilS)).toArray, .int .i64 E])) ∧ (E = 0 → ∃ bv, e = .returned (.tuple #[.agg (prL bv (stCs newC nilS)).toArray, .int .i64 0]) ∧ OwnR 9 1 scl w' w.heap.size bv bs)
set_option maxRecDepth 8000 in
set_option maxHeartbeats 4000000 in
theorem pmayb_any (a : Option Addr) (cap : Nat) (l : List PN) (u : ByteArray) (t : Lab) (p : ByteArray) (m : Int) (hF : FineL l) (hGt : GL t) (hp : p.size ≤ 1000) (w : World) (h : RowN w a l) (hV : MaxV w) :
    Calls Tryz.prog 28 #[.slice a l.length cap, .agg (sbL u t).toArray, .string p, .int .i64 m] w fun e w' => e = .returned (.int .i64 (bindE (namesP l) u t p m)) ∧ Below w.heap.size w w' := by
 have hundS := Tryz.underlying52
 have hszN : (Tryz.prog.info? 36).map (·.size) = some 16 := by kernel_rfl
 have hss : (Tryz.prog.info? 52).map (·.size) = some (sbL u t).length := by kernel_rfl
 have hb0 := blkl_alloc w (sbL u t).toArray 52
 have hB0 := alloc_below w (.cells (sbL u t).toArray 52)
 have kb := mmay_any a cap l u t p m hF hGt hp _ (h.below hB0) (hV.below hB0)
 have hrs := hb0.range
 unfold bindE
 obtain ⟨E, hE⟩ : ∃ E, mayE (namesP l) u t p m = E := ⟨_, rfl⟩
 rw [hE] at kb ⊢
 obtain ⟨n, hn⟩ : ∃ n, l.length = n := ⟨_, rfl⟩
 rw [hn] at kb ⊢
 replace hrs : (w.alloc (.cells (sbL u t).toArray 52)).rangeAt w.heap.size 0 (sbL u t) := hrs
 obtain ⟨r, hr⟩ : ∃ r, (if E ≠ 0 then E else if (gotN (namesP l) p).dir = true then 3 else 0) = r := ⟨_, rfl⟩
 rw [hr]
 replace hr : Aside _ := hr
 clear hE hn hb0
 go_enter Tryz.func28, Tryz.ntmps28
 go_upto_region 1 with fail
 generalize w.alloc (.cells (sbL u t).toArray 52) = W0 at *
 go_wp2_with (first | (refine wpList_load_row rfl _ rfl w.heap.size rfl (sbL u t) hrs hundS rfl hss ?_) | fail)
 refine kb.mono ?_
 rintro e W1 ⟨f, rfl, hfn, -, hb1, -⟩
 obtain ⟨W2, hW2, hth2, hbf, hB2⟩ := put_new W1 #[.string ⟨#[]⟩, .bool false, .int .i64 0, .int .i64 0, .int .i64 0, .int .i64 0, .slice none 0 0, .int .i64 0, .int .i64 0, .int .i64 0, .int .i64 0, .slice none 0 0, .int .i64 0, .int .i64 0, .int .i64 0, .int .i64 0] 36 f.cs (by rw [pn_len]; rfl) (by rw [pn_len]; decide)
 have hB3 := Below.then (Below.then hB0 hb1) hB2
 have hszT : (Tryz.prog.info? 36).map (·.size) = some f.cs.length := by rw [pn_len]; exact hszN
 have hone : ∀ v ∈ f.cs, v.oneCell' = true := pn_one f
 have hdir : W2.cell? ⟨W1.heap.size, 1, none⟩ = some (.bool f.n.dir) := (hbf.1 1 _ rfl).1
 clear kb hrs hB0 hb1 hB2 hbf
 go_upto_region 2 with (first | (refine wpList_store_row rfl _ _ rfl W1.heap.size rfl f.cs rfl hth2 hszT hone hW2 ?_) | fail)
 clear hth2 hW2 hszT hone
 by_cases h0 : E = 0
 ·subst h0
  have hd : f.n.dir = (gotN (namesP l) p).dir := by
   rw [hfn]
   unfold toldN gotN
   rw [if_pos rfl]
  have hr2 := hr.out
  rw [if_neg (by decide), ← hd] at hr2
  clear hfn hd hr
  cases hdd : f.n.dir
  ·rw [hdd] at hdir hr2
   rw [if_neg (by decide)] at hr2
   subst hr2
   go_wp2_with fail
   go_ret
   exact ⟨rfl, hB3⟩
  ·rw [hdd] at hdir hr2
   rw [if_pos rfl] at hr2
   subst hr2
   go_wp2_with fail
   go_ret
   exact ⟨rfl, hB3⟩
 ·have hr2 := hr.out
  rw [if_pos h0] at hr2
  have hq : (E == 0) = false := by simpa using h0
  subst hr2
  clear hfn h0 hr
  go_wp2_with fail
  go_ret
  exact ⟨rfl, hB3⟩
theorem p_build (va : Option Addr) (vn vc : Nat) (w : World) : (Instr.build 47 #[(0, .slice va vn vc), (1, .agg (stCs newC nilS).toArray)]).run Tryz.prog w = .ok (.agg (prL (.slice va vn vc) (stCs newC nilS)).toArray) w := by
 have h1 := Tryz.underlying47
 have h2 := Tryz.underlying45
 unfold stCs prL
 simp only [newC]
 go_simp
theorem p_build0 (w : World) : (Instr.build 47 #[]).run Tryz.prog w = .ok (.agg (prL nilS (stCs zeroC nilS)).toArray) w := by
 have h1 := Tryz.underlying47
 show _ = Result.ok (Value.agg #[.slice none 0 0, .int .i64 0, .int .i64 0, .int .i64 0, .int .i64 0, .int .i64 0, .int .i64 0, .int .i64 0, .int .i64 0, .int .i64 0, .int .i64 0, .int .i64 0, .int .i64 0, .int .i64 0, .int .i64 0, .int .i64 0, .int .i64 0, .slice none 0 0, .bool false]) w
 go_simp
set_option maxRecDepth 8000 in
set_option maxHeartbeats 4000000 in
theorem pmake_any (a : Option Addr) (cap : Nat) (l : List PN) (u : ByteArray) (t : Lab) (ba : Option Addr) (bc : Nat) (bs : List ByteArray) (hF : FineL l) (hGt : GL t) (hbs : bs.length ≤ 1000) (hps : ∀ p ∈ bs, p.size ≤ 1000) (w : World) (h : RowN w a l) (hRB : RowAt 1 scl w ba bs) (hV : MaxV w) :
    Calls Tryz.prog 12 #[.slice a l.length cap, .agg (sbL u t).toArray, .slice ba bs.length bc] w (MakeP bs (makeE (namesP l) u t bs) w) := by
 have hundS := Tryz.underlying52
 have hundP := Tryz.underlying47
 have hszP : (Tryz.prog.info? 47).map (·.size) = some 19 := by kernel_rfl
 have hss : (Tryz.prog.info? 52).map (·.size) = some (sbL u t).length := by kernel_rfl
 have f0 := blkl_alloc w (sbL u t).toArray 52
 have g0 := alloc_below w (.cells (sbL u t).toArray 52)
 have f1 := blkl_alloc (w.alloc (.cells (sbL u t).toArray 52)) (prL nilS (stCs zeroC nilS)).toArray 47
 have g1 := alloc_below (w.alloc (.cells (sbL u t).toArray 52)) (.cells (prL nilS (stCs zeroC nilS)).toArray 47)
 rw [World.size_alloc] at f1
 have kb := fun (W : World) p m hp r v => pmayb_any a cap l u t p m hF hGt hp W r v
 have kc := fun (W : World) r => pcpS_any ba bc bs W hbs r
 have kn := fun (W : World) => cnew_any W
 have hbd := p_build
 have hbd0 := p_build0
 have hb := stab_blk _ _ _ _ f0 g1
 have hB := Below.then g0 g1
 have hr : BlkL (w.heap.size + 1) (prL nilS (stCs zeroC nilS)) ((w.alloc (.cells (sbL u t).toArray 52)).alloc (.cells zPC 47)) := f1
 replace hb : BlkL w.heap.size (sbL u t) ((w.alloc (.cells (sbL u t).toArray 52)).alloc (.cells zPC 47)) := hb
 replace hB : Below w.heap.size w ((w.alloc (.cells (sbL u t).toArray 52)).alloc (.cells zPC 47)) := hB
 clear f0 f1 g0 g1
 unfold makeE
 obtain ⟨n, hn⟩ : ∃ n, l.length = n := ⟨_, rfl⟩
 obtain ⟨nb, hnb⟩ : ∃ nb, bs.length = nb := ⟨_, rfl⟩
 rw [hn] at kb ⊢
 rw [hnb] at hbs kc ⊢
 replace hn : Aside (l.length = n) := hn
 replace hnb : Aside (bs.length = nb) := hnb
 have hZP : ∀ W : World, BlkL (w.heap.size + 1) (prL nilS (stCs zeroC nilS)) W → ∃ W', W.setCells (w.heap.size + 1) 0 (prL nilS (stCs zeroC nilS)) = W' ∧ W.there (w.heap.size + 1) 0 (prL nilS (stCs zeroC nilS)).length ∧ W'.rangeAt (w.heap.size + 1) 0 (prL nilS (stCs zeroC nilS)) ∧ (Below w.heap.size w W → Below w.heap.size w W') := fun W q => by
  obtain ⟨W', q1, q2, q3, q4⟩ := put_any q (ds := prL nilS (stCs zeroC nilS)) rfl (by decide)
  exact ⟨W', q1, q2, q3.range, fun r => q4 _ _ (by omega) r⟩
 have hszZ : (Tryz.prog.info? 47).map (·.size) = some (prL nilS (stCs zeroC nilS)).length := hszP
 have honeZ : ∀ y ∈ prL nilS (stCs zeroC nilS), y.oneCell' = true := fun y hy => (List.mem_cons.1 hy).elim (fun q => by rw [q]; rfl) (fun q => st_one _ _ rfl y q)
 by_cases hbad : nb < 1 ∨ 4 < nb
 ·rw [if_pos hbad]
  obtain ⟨W9, hW9, hth9, hr9, hk9⟩ := hZP _ hr
  have hB9 := hk9 hB
  obtain ⟨Z, hZ⟩ : ∃ Z, prL nilS (stCs zeroC nilS) = Z := ⟨_, rfl⟩
  have hfin : ∀ W, Below w.heap.size w W → MakeP bs 1 w (.returned (.tuple #[.agg Z.toArray, .int .i64 1])) W := fun W q => ⟨q, fun _ => by rw [hZ], fun q => absurd q (by decide)⟩
  rw [hZ] at hW9 hth9 hr9 hszZ honeZ hbd0
  clear hZ hZP hk9
  go_enter Tryz.func12, Tryz.ntmps12
  go_upto_region 1 with fail
  generalize (w.alloc (.cells (sbL u t).toArray 52)).alloc (.cells zPC 47) = W0 at *
  by_cases h1 : nb < 1
  ·have i1 : (nb : Int) < 1 := by omega
   go_wp2_with (first | (refine wpList_buildv rfl _ rfl #[] (by simp [Act.eval]) (hbd0 _) ?_) | (refine wpList_store_row rfl _ _ rfl (w.heap.size + 1) rfl Z rfl hth9 hszZ honeZ hW9 ?_) | fail)
   refine bodyPost_ret (v := .tuple #[.agg Z.toArray, .int .i64 1]) (results_row2 rfl _ _ (w.heap.size + 1) rfl (.int .i64 1) rfl Z hr9 hundP rfl hszZ) rfl ?_
   exact hfin _ hB9
  ·have i1 : ¬ (nb : Int) < 1 := by omega
   have i2 : (4 : Int) < (nb : Int) := by omega
   go_wp2_with (first | (refine wpList_buildv rfl _ rfl #[] (by simp [Act.eval]) (hbd0 _) ?_) | (refine wpList_store_row rfl _ _ rfl (w.heap.size + 1) rfl Z rfl hth9 hszZ honeZ hW9 ?_) | fail)
   refine bodyPost_ret (v := .tuple #[.agg Z.toArray, .int .i64 1]) (results_row2 rfl _ _ (w.heap.size + 1) rfl (.int .i64 1) rfl Z hr9 hundP rfl hszZ) rfl ?_
   exact hfin _ hB9
 rw [if_neg hbad]
 have i1 : ¬ (nb : Int) < 1 := by omega
 have i2 : ¬ (4 : Int) < (nb : Int) := by omega
 obtain ⟨E, hE⟩ : ∃ E, goE (namesP l) u t 4 bs = E := ⟨_, rfl⟩
 rw [hE]
 have hE0 : Aside (goE (namesP l) u t (modeK 0) (bs.drop 0) = E) := hE
 clear hE
 go_enter Tryz.func12, Tryz.ntmps12
 go_upto_region 1 with fail
 generalize (w.alloc (.cells (sbL u t).toArray 52)).alloc (.cells zPC 47) = W0 at *
 go_upto_region 4 with fail
 go_wp2_with fail
 go_loopw [8, 23] (fun t8 t23 wr => ∃ k : Nat, k ≤ nb ∧ t23 = .int .i64 (k : Int) ∧ t8 = .int .i64 (modeK k) ∧ Aside (goE (namesP l) u t (modeK k) (bs.drop k) = E) ∧ BlkL w.heap.size (sbL u t) wr ∧ BlkL (w.heap.size + 1) (prL nilS (stCs zeroC nilS)) wr ∧ Below w.heap.size w wr) (fun _ t23 _ => nb - (Go.RowKit.intOf t23).toNat)
 case atStart => exact ⟨0, by omega, rfl, rfl, hE0, hb, hr, hB⟩
 case round =>
  clear hb hr hB hE0
  obtain ⟨k, hk, rfl, rfl, hE, hb, hr, hB⟩ := hrel
  by_cases hlt : k < nb
  ·obtain ⟨p, hp⟩ : ∃ p, bs[k]? = some p := ⟨_, List.getElem?_eq_getElem (by rw [hnb.out]; exact hlt)⟩
   have hpz := hps p (List.mem_of_getElem? hp)
   obtain ⟨y, rfl, hyc⟩ := (hRB.below scl_ok.len hB) k p hp
   have hy0 : wr.cell? (y.add k) = some (.string p) := by
    have := hyc 0 (by decide)
    rw [Nat.mul_one, Nat.add_zero] at this
    exact this
   have hE1 := hE.out
   rw [goE_at hp] at hE1
   have kq := kb wr p (modeK k) hpz (h.below hB) (hV.below hB)
   obtain ⟨M, hM⟩ : ∃ M, modeK k = M := ⟨_, rfl⟩
   rw [hM] at kq hE1 ⊢
   obtain ⟨E1, hE2⟩ : ∃ E1, bindE (namesP l) u t p M = E1 := ⟨_, rfl⟩
   rw [hE2] at kq hE1
   have hrs := hb.range
   clear hyc hM hE2 hE
   go_upto_region 7 with fail
   clear hy0
   go_wp2_with (first | (refine wpList_load_row rfl _ rfl w.heap.size rfl (sbL u t) hrs hundS rfl hss ?_) | fail)
   refine kq.mono ?_
   rintro e W1 ⟨rfl, hb1⟩
   have hb2 := stab_blk _ _ _ _ hb hb1
   have hr2 := stab_blk _ _ _ _ hr hb1
   have hB2 := Below.then hB hb1
   clear hb hr hB hb1 kq hrs
   by_cases h0 : E1 = 0
   ·subst h0
    rw [if_neg (by decide)] at hE1
    replace hE1 : Aside _ := hE1
    go_wp2_with fail
    exact ⟨⟨k + 1, by omega, by simp, by rfl, hE1, hb2, hr2, hB2⟩, by simp [Go.RowKit.intOf]; omega⟩
   ·rw [if_pos h0] at hE1
    subst hE1
    have hq : (E1 != 0) = true := by simpa using h0
    obtain ⟨W9, hW9, hth9, hr9, hk9⟩ := hZP _ hr2
    have hB9 := hk9 hB2
    obtain ⟨Z, hZ⟩ : ∃ Z, prL nilS (stCs zeroC nilS) = Z := ⟨_, rfl⟩
    have hfin : ∀ W, Below w.heap.size w W → MakeP bs E1 w (.returned (.tuple #[.agg Z.toArray, .int .i64 E1])) W := fun W q => ⟨q, fun _ => by rw [hZ], fun q => absurd q h0⟩
    rw [hZ] at hW9 hth9 hr9 hszZ honeZ hbd0
    clear hZ hZP hk9 hb2 hr2 hB2
    go_wp2_with (first | (refine wpList_buildv rfl _ rfl #[] (by simp [Act.eval]) (hbd0 _) ?_) | (refine wpList_store_row rfl _ _ rfl (w.heap.size + 1) rfl Z rfl hth9 hszZ honeZ hW9 ?_) | fail)
    refine bodyPost_ret (v := .tuple #[.agg Z.toArray, .int .i64 E1]) (results_row2 rfl _ _ (w.heap.size + 1) rfl (.int .i64 E1) rfl Z hr9 hundP rfl hszZ) rfl ?_
    exact hfin _ hB9
  ·obtain rfl : k = nb := by omega
   have hE1 := hE.out
   rw [List.drop_eq_nil_of_le (by rw [hnb.out]; exact Nat.le_refl _), goE] at hE1
   subst hE1
   have kcw := kc wr (hRB.below scl_ok.len hB)
   clear hE hZP
   go_upto_region 12 with fail
   go_wp2_with fail
   refine kcw.mono ?_
   rintro e W1 ⟨rfl, ho1, hb1⟩
   go_wp2_with fail
   refine (kn W1).mono ?_
   rintro e W2 ⟨rfl, hb2⟩
   have ho2 := ho1.below hb2
   have hr2 := stab_blk _ _ _ _ (stab_blk _ _ _ _ hr hb1) hb2
   have hB2 := Below.then (Below.then hB hb1) hb2
   have hwr : w.heap.size + 1 < wr.heap.size := hr.2
   obtain ⟨Y, hY⟩ : ∃ Y, prL (.slice (some ⟨wr.heap.size, 0, none⟩) k k) (stCs newC nilS) = Y := ⟨_, rfl⟩
   have hYl : Y.length = 19 := by rw [← hY]; rfl
   have hbY := hbd (some ⟨wr.heap.size, 0, none⟩) k k W2
   have hYo : ∀ y ∈ Y, y.oneCell' = true := by
    rw [← hY]
    exact fun y hy => (List.mem_cons.1 hy).elim (fun q => by rw [q]; rfl) (fun q => st_one _ _ rfl y q)
   obtain ⟨W9, hW9, hth9, hk9, hb9⟩ := put_any hr2 (ds := Y) (by rw [hYl]; rfl) (by rw [hYl]; decide)
   have hszY : (Tryz.prog.info? 47).map (·.size) = some Y.length := by rw [hYl]; exact hszP
   have hr9 := hk9.range
   have hB9 := hb9 _ _ (by omega) hB2
   have ho9 : OwnR 9 1 scl W9 w.heap.size (.slice (some ⟨wr.heap.size, 0, none⟩) k k) bs := by rw [← hW9]; exact (ho2.setAll (fun q => by have := (ho2.lt q).1; omega) _).lower (by omega)
   have hfin : MakeP bs 0 w (.returned (.tuple #[.agg Y.toArray, .int .i64 0])) W9 := ⟨hB9, fun q => absurd rfl q, fun _ => ⟨_, by rw [← hY], ho9⟩⟩
   rw [hY] at hbY
   clear hY ho1 ho2 hb1 hb2 hr hr2 hB hB2 hb hk9 hb9 hB9 ho9 kcw
   go_wp2_with (first | (refine wpList_buildv rfl _ rfl #[(0, .slice (some ⟨wr.heap.size, 0, none⟩) k k), (1, .agg (stCs newC nilS).toArray)] (by simp [Act.eval]) hbY ?_) | (refine wpList_store_row rfl _ _ rfl (w.heap.size + 1) rfl Y rfl hth9 hszY hYo hW9 ?_) | fail)
   refine bodyPost_ret (v := .tuple #[.agg Y.toArray, .int .i64 0]) (results_row2 rfl _ _ (w.heap.size + 1) rfl (.int .i64 0) rfl Y hr9 hundP rfl hszY) rfl ?_
   exact hfin
end Go.Proofs.YtidihdiffiffmaaGreatDoor
namespace Go.Proofs.YtidihdiffiffmaaGreatDoor
open Go.RowKit
set_option maxRecDepth 8000
set_option linter.unusedSimpArgs false
set_option linter.unusedVariables false
def kpS : ByteArray := ⟨#[47, 108, 48, 47, 112, 48]⟩
def kaS : ByteArray := ⟨#[97]⟩
def kpL0 : List Nod := firstN [bottomL]
def kpL1 : List Nod := putD kpL0 0 [[]] [] []
def kpN0 : Nod := segX kpS bottomL 7 ⟨4, 4, 4, 0⟩ []
def kpN1 : Nod := { kpN0 with words := [0] }
def kpL2 : List Nod := putN kpL1 kpN1
theorem kp_L0 : kpL0 = [rootN, dirN 0 bottomL] := by kernel_rfl
theorem kp_find : findN kpL1 kpS = some kpN0 := by kernel_rfl
theorem kp_L2 : kpL2 = putN kpL0 kpN1 := by kernel_rfl
theorem kp_tree0 : Tree kpL0 := first_tree (fun t ht => by rw [List.mem_singleton] at ht; rw [ht]; exact bottom_GL) (by decide)
theorem kp_ok : nodC kpN1 = 0 := by decide +kernel
theorem kp_new : ∀ x ∈ kpL0, x.path ≠ kpN1.path := by decide +kernel
theorem kp_inv : InvP kpL2 := by
 rw [kp_L2]
 refine ⟨kp_tree0.put kp_ok (by decide +kernel) kp_new (d := dirN 0 bottomL) (by rw [kp_L0]; simp) (by decide +kernel) rfl (by decide +kernel) (fun _ => rfl), fun x hx w hw => ?_⟩
 rcases put_mem.1 hx with rfl | ⟨hx, _⟩
 ·obtain rfl : w = 0 := by simpa [kpN1] using hw
  decide
 ·rw [kp_L0] at hx
  simp at hx
  rcases hx with rfl | rfl
  ·cases hw
  ·cases hw
theorem kp_make : makeE kpL2 kaS bottomL [kpS] = 0 := by decide +kernel
def kpC : Cp := (stepC newC (segsP kpL2 kaS bottomL [kpS])).t
theorem kp_run : runP kaS bottomL [kpS] 5 kpL2 newC = ⟨kpL2, kpC, [], true, 0⟩ := by
 have h0 : (stepC newC (segsP kpL2 kaS bottomL [kpS])).e = 0 := by decide +kernel
 have h1 : (stepC newC (segsP kpL2 kaS bottomL [kpS])).t.hl = true := by decide +kernel
 have h2 : (stepC newC (segsP kpL2 kaS bottomL [kpS])).wr = none := by decide +kernel
 have h3 : (stepC newC (segsP kpL2 kaS bottomL [kpS])).told = false := by decide +kernel
 rw [runP, if_neg (by rw [h0]; decide), if_pos h1, h2]
 unfold toldO
 rw [h3]
 rfl
end Go.Proofs.YtidihdiffiffmaaGreatDoor
namespace Go.Proofs.YtidihdiffiffmaaGreatDoor
open Go.RowKit
set_option maxRecDepth 8000
set_option linter.unusedSimpArgs false
set_option linter.unusedVariables false
structure PrAt (b : Nat) (bv : Value) (c : Cp) (v : Value) (W : World) : Prop where
 ps : c.ps.length = 4
 blk : BlkL b (prL bv (stCs c v)) W
theorem PrAt.bnd {b : Nat} {bv : Value} {c : Cp} {v : Value} {W : World} (h : PrAt b bv c v W) : W.cell? ⟨b, 0, none⟩ = some bv := (h.blk.1 0 _ rfl).1
theorem PrAt.seg {b : Nat} {bv : Value} {c : Cp} {v : Value} {W : World} (h : PrAt b bv c v W) : W.cell? ⟨b, 1, none⟩ = some (.int .i64 c.seg) := (h.blk.1 1 _ rfl).1
theorem PrAt.off {b : Nat} {bv : Value} {c : Cp} {v : Value} {W : World} (h : PrAt b bv c v W) : W.cell? ⟨b, 2, none⟩ = some (.int .i64 c.off) := (h.blk.1 2 _ rfl).1
theorem PrAt.ring {b : Nat} {bv : Value} {c : Cp} {v : Value} {W : World} (h : PrAt b bv c v W) : W.cell? ⟨b, 3, none⟩ = some (.int .i64 c.ring) := (h.blk.1 3 _ rfl).1
theorem PrAt.a {b : Nat} {bv : Value} {c : Cp} {v : Value} {W : World} (h : PrAt b bv c v W) : W.cell? ⟨b, 4, none⟩ = some (.int .i64 c.a) := (h.blk.1 4 _ rfl).1
theorem PrAt.stk {b : Nat} {bv : Value} {c : Cp} {v : Value} {W : World} (h : PrAt b bv c v W) : W.cell? ⟨b, 17, none⟩ = some v := (h.blk.1 17 _ (show (stCs c v)[16]? = some v from st_stk h.ps)).1
theorem PrAt.hl {b : Nat} {bv : Value} {c : Cp} {v : Value} {W : World} (h : PrAt b bv c v W) : W.cell? ⟨b, 18, none⟩ = some (.bool c.hl) := (h.blk.1 18 _ (show (stCs c v)[17]? = some (.bool c.hl) from st_hl h.ps)).1
theorem PrAt.pts {b : Nat} {bv : Value} {c : Cp} {v : Value} {W : World} (h : PrAt b bv c v W) : W.rangeAt b 5 (c.ps.flatMap ptr3) := fun j u hu => by
 have hj : j < 12 := by have := (List.getElem?_eq_some_iff.1 hu).1; rw [flat_length ptr3_len, h.ps] at this; exact this
 refine (h.blk.1 (5 + j) u ?_).1
 show (bv :: stCs c v)[5 + j]? = some u
 rw [show 5 + j = (4 + j) + 1 by omega, List.getElem?_cons_succ]
 unfold stCs
 rw [List.getElem?_append_right (by show 4 ≤ 4 + j; omega), show 4 + j - [Value.int .i64 c.seg, .int .i64 c.off, .int .i64 c.ring, .int .i64 c.a].length = j by show 4 + j - 4 = j; omega]
 rw [List.getElem?_append_left (by rw [flat_length ptr3_len, h.ps]; omega), hu]
theorem strW_load (w : World) (y : Addr) (v : Value) (h : w.cell? y = some v) : (Instr.loadAt 9 (.pointer (some y))).run Tryz.prog w = .ok v w := by
 have h1 := Tryz.underlying9
 go_simp
theorem strsW_load (w : World) (y : Addr) (v : Value) (h : w.cell? y = some v) : (Instr.loadAt 39 (.pointer (some y))).run Tryz.prog w = .ok v w := by
 have h1 := Tryz.underlying39
 go_simp
set_option maxRecDepth 8000 in
set_option maxHeartbeats 4000000 in
theorem plsame_any (c : Cp) (h4 : c.ps.length = 4) (bs : List ByteArray) (b1 b2 : Option Addr) (d1 d2 : Nat) (a1 a2 : Option Addr) (c1 c2 : Nat) (w : World) (hn : c.st.length ≤ 1000) (hbn : bs.length ≤ 1000) (q1 : RowAt 1 scl w b1 bs) (q2 : RowAt 1 scl w b2 bs) (r1 : RowAt 3 frc w a1 c.st) (r2 : RowAt 3 frc w a2 c.st) :
    Calls Tryz.prog 14 #[.agg (prL (.slice b1 bs.length d1) (stCs c (.slice a1 c.st.length c1))).toArray, .agg (prL (.slice b2 bs.length d2) (stCs c (.slice a2 c.st.length c2))).toArray] w fun e w' => e = .returned (.bool true) ∧ Below w.heap.size w w' := by
 have hundP := Tryz.underlying42
 have hszP : (Tryz.prog.info? 42).map (·.size) = some 12 := by kernel_rfl
 have hundF := Tryz.underlying101
 have hszF : (Tryz.prog.info? 101).map (·.size) = some 3 := by kernel_rfl
 obtain ⟨n, hnn⟩ : ∃ n, c.st.length = n := ⟨_, rfl⟩
 obtain ⟨nb, hnb⟩ : ∃ n, bs.length = n := ⟨_, rfl⟩
 rw [hnn] at hn ⊢
 rw [hnb] at hbn ⊢
 replace hnn : Aside (c.st.length = n) := hnn
 replace hnb : Aside (bs.length = nb) := hnb
 have f0 := blkl_alloc w (prL (.slice b1 nb d1) (stCs c (.slice a1 n c1))).toArray 57
 have g0 := alloc_below w (.cells (prL (.slice b1 nb d1) (stCs c (.slice a1 n c1))).toArray 57)
 have f1 := blkl_alloc (w.alloc (.cells (prL (.slice b1 nb d1) (stCs c (.slice a1 n c1))).toArray 57)) (prL (.slice b2 nb d2) (stCs c (.slice a2 n c2))).toArray 57
 have g1 := alloc_below (w.alloc (.cells (prL (.slice b1 nb d1) (stCs c (.slice a1 n c1))).toArray 57)) (.cells (prL (.slice b2 nb d2) (stCs c (.slice a2 n c2))).toArray 57)
 rw [World.size_alloc] at f1
 have hs1 : PrAt w.heap.size (.slice b1 nb d1) c (.slice a1 n c1) ((w.alloc (.cells (prL (.slice b1 nb d1) (stCs c (.slice a1 n c1))).toArray 57)).alloc (.cells (prL (.slice b2 nb d2) (stCs c (.slice a2 n c2))).toArray 57)) := ⟨h4, stab_blk _ _ _ _ f0 g1⟩
 have ht0 : PrAt (w.heap.size + 1) (.slice b2 nb d2) c (.slice a2 n c2) ((w.alloc (.cells (prL (.slice b1 nb d1) (stCs c (.slice a1 n c1))).toArray 57)).alloc (.cells (prL (.slice b2 nb d2) (stCs c (.slice a2 n c2))).toArray 57)) := ⟨h4, f1⟩
 have hB1 := Below.then g0 g1
 clear f0 g0 f1 g1
 obtain ⟨X, hX⟩ : ∃ X, prL (.slice b1 nb d1) (stCs c (.slice a1 n c1)) = X := ⟨_, rfl⟩
 obtain ⟨Y, hY⟩ : ∃ Y, prL (.slice b2 nb d2) (stCs c (.slice a2 n c2)) = Y := ⟨_, rfl⟩
 rw [hX, hY] at hs1 hB1 ht0 ⊢
 clear hX hY
 have hneq := run_neq_pts h4
 have hp1 := hs1.pts
 have hp2 := ht0.pts
 have hlen : (c.ps.flatMap ptr3).length = 12 := by rw [flat_length ptr3_len, h4]
 obtain ⟨Z, hZ⟩ : ∃ Z, c.ps.flatMap ptr3 = Z := ⟨_, rfl⟩
 rw [hZ] at hp1 hp2 hneq hlen
 clear hZ
 have hszZ : (Tryz.prog.info? 42).map (·.size) = some Z.length := by rw [hlen]; exact hszP
 clear hlen
 go_enter Tryz.func14, Tryz.ntmps14
 go_upto_region 1 with fail
 generalize (w.alloc (.cells X.toArray 57)).alloc (.cells Y.toArray 57) = W0 at *
 have r1' := r1.below frc_len hB1
 have r2' := r2.below frc_len hB1
 have q1' := q1.below scl_ok.len hB1
 have q2' := q2.below scl_ok.len hB1
 have xb := hs1.bnd
 have x0 := hs1.seg
 have x1 := hs1.off
 have x2 := hs1.ring
 have x3 := hs1.a
 have x4 := hs1.hl
 have x5 := hs1.stk
 have yb := ht0.bnd
 have y0 := ht0.seg
 have y1 := ht0.off
 have y2 := ht0.ring
 have y3 := ht0.a
 have y4 := ht0.hl
 have y5 := ht0.stk
 clear r1 r2 q1 q2 hs1 ht0
 go_wp2_with (first | (refine wpList_load_midg (by rfl) _ rfl w.heap.size 5 rfl Z hp1 hundP rfl hszZ ?_) | (refine wpList_load_midg (by rfl) _ rfl (w.heap.size + 1) 5 rfl Z hp2 hundP rfl hszZ ?_) | fail)
 go_loopw [5] (fun t5 wr => ∃ k : Nat, k ≤ nb ∧ t5 = .int .i64 (k : Int) ∧ Below W0.heap.size W0 wr) (fun t5 _ => nb - (Go.RowKit.intOf t5).toNat)
 case atStart => exact ⟨0, by omega, rfl, Below.refl _ _⟩
 case round =>
 obtain ⟨k, hk, rfl, hd⟩ := hrel
 replace xb := (hd.cell (World.block_lt_of_cell? _ _ xb)).trans xb
 replace yb := (hd.cell (World.block_lt_of_cell? _ _ yb)).trans yb
 replace x5 := (hd.cell (World.block_lt_of_cell? _ _ x5)).trans x5
 replace y5 := (hd.cell (World.block_lt_of_cell? _ _ y5)).trans y5
 replace r1' := r1'.below frc_len hd
 replace r2' := r2'.below frc_len hd
 replace q1' := q1'.below scl_ok.len hd
 replace q2' := q2'.below scl_ok.len hd
 clear x0 x1 x2 x3 x4 y0 y1 y2 y3 y4 hp1 hp2 hneq
 by_cases hkn : k < nb
 ·obtain ⟨f, hf⟩ : ∃ f, bs[k]? = some f := ⟨_, List.getElem?_eq_getElem (by rw [hnb.out]; exact hkn)⟩
  obtain ⟨z1, rfl, -⟩ := q1' k f hf
  obtain ⟨z2, rfl, -⟩ := q2' k f hf
  have g1 := q1'.at scl_ok.len hf
  have g2 := q2'.at scl_ok.len hf
  rw [Nat.mul_one] at g1 g2
  have e1 : wr.cell? (z1.add k) = some (.string f) := g1 0 _ rfl
  have e2 : wr.cell? (z2.add k) = some (.string f) := g2 0 _ rfl
  have i1 : (k : Int) < (nb : Int) := by omega
  clear hf r1' r2' q1' q2' g1 g2 x5 y5
  go_upto_region 6 with fail
  obtain ⟨Z, hZ⟩ : ∃ Z, wr = Z := ⟨_, rfl⟩
  rw [hZ] at xb yb e1 e2 hd ⊢
  clear hZ
  have hS0 : Below Z.heap.size Z Z.drew := (Below.refl _ _).drew
  refine wp_region_held_drew (S := (fun W => Below Z.heap.size Z W)) (by kernel_rfl) (by exact hS0) ?_
  intro hHeld
  generalize Z.drew = w0 at *
  refine tkA 0 ?_
  refine tkB 1 (y := yields_cellI (by rfl) _ rfl ⟨w.heap.size, 0, none⟩ rfl (.slice (some z1) nb d1) (fun _ q => (q.cell (World.block_lt_of_cell? _ _ xb)).trans xb) strsW_load) (h := ?_)
  refine tkA 2 ?_
  refine tkA 3 ?_
  refine tkB 4 (y := yields_cellI (by rfl) _ rfl (z1.add k) rfl (.string f) (fun _ q => (q.cell (World.block_lt_of_cell? _ _ e1)).trans e1) strW_load) (h := ?_)
  refine tkA 5 ?_
  refine tkB 6 (y := yields_cellI (by rfl) _ rfl ⟨(w.heap.size + 1), 0, none⟩ rfl (.slice (some z2) nb d2) (fun _ q => (q.cell (World.block_lt_of_cell? _ _ yb)).trans yb) strsW_load) (h := ?_)
  refine tkA 7 ?_
  refine tkA 8 ?_
  refine tkB 9 (y := yields_cellI (by rfl) _ rfl (z2.add k) rfl (.string f) (fun _ q => (q.cell (World.block_lt_of_cell? _ _ e2)).trans e2) strW_load) (h := ?_)
  refine tkA 10 ?_
  refine wpAnyH_done (by kernel_rfl) ?_ _
  have hd2 := Below.then hd hS0
  go_wp2_with fail
  exact ⟨⟨k + 1, by omega, by simp, hd2⟩, by simp [Go.RowKit.intOf]; omega⟩
 have i1 : ¬ (k : Int) < (nb : Int) := by omega
 replace hB1 := Below.then hB1 hd
 go_wp2_with fail
 clear hkn i1 hd hk
 go_loopw [6] (fun t5 wr2 => ∃ k : Nat, k ≤ n ∧ t5 = .int .i64 (k : Int) ∧ Below wr.heap.size wr wr2) (fun t5 _ => n - (Go.RowKit.intOf t5).toNat)
 case atStart => exact ⟨0, by omega, rfl, Below.refl _ _⟩
 case round =>
 obtain ⟨k, hk, rfl, hd⟩ := hrel
 replace x5 := (hd.cell (World.block_lt_of_cell? _ _ x5)).trans x5
 replace y5 := (hd.cell (World.block_lt_of_cell? _ _ y5)).trans y5
 replace r1' := r1'.below frc_len hd
 replace r2' := r2'.below frc_len hd
 clear q1' q2' xb yb
 by_cases hkn : k < n
 ·obtain ⟨f, hf⟩ : ∃ f, c.st[k]? = some f := ⟨_, List.getElem?_eq_getElem (by rw [hnn.out]; exact hkn)⟩
  obtain ⟨z1, rfl, -⟩ := r1' k f hf
  obtain ⟨z2, rfl, -⟩ := r2' k f hf
  have g1 := r1'.at frc_len hf
  have g2 := r2'.at frc_len hf
  have hfq := run_neq_fr f
  have i1 : (k : Int) < (n : Int) := by omega
  clear hf r1' r2'
  go_upto_region 11 with fail
  obtain ⟨Z, hZ⟩ : ∃ Z, wr = Z := ⟨_, rfl⟩
  rw [hZ] at x5 y5 g1 g2 hd ⊢
  clear hZ
  have hS0 : Below Z.heap.size Z Z.drew := (Below.refl _ _).drew
  refine wp_region_held_drew (S := (fun W => Below Z.heap.size Z W)) (by kernel_rfl) (by exact hS0) ?_
  intro hHeld
  generalize Z.drew = w0 at *
  refine tkA 0 ?_
  refine tkA 1 ?_
  refine tkB 2 (y := yields_cellI (by rfl) _ rfl ⟨w.heap.size, 17, none⟩ rfl (.slice (some z1) n c1) (fun _ q => (q.cell (World.block_lt_of_cell? _ _ x5)).trans x5) frs_load) (h := ?_)
  refine tkA 3 ?_
  refine tkA 4 ?_
  refine tkB 5 (y := yields_at (by rfl) _ rfl (z1.add (k * 3)) rfl (frc f) (fun _ q => CellsAt.below g1 q) hundF rfl hszF) (h := ?_)
  refine tkA 6 ?_
  refine tkA 7 ?_
  refine tkB 8 (y := yields_cellI (by rfl) _ rfl ⟨(w.heap.size + 1), 17, none⟩ rfl (.slice (some z2) n c2) (fun _ q => (q.cell (World.block_lt_of_cell? _ _ y5)).trans y5) frs_load) (h := ?_)
  refine tkA 9 ?_
  refine tkA 10 ?_
  refine tkB 11 (y := yields_at (by rfl) _ rfl (z2.add (k * 3)) rfl (frc f) (fun _ q => CellsAt.below g2 q) hundF rfl hszF) (h := ?_)
  refine tkA 12 ?_
  refine wpAnyH_done (by kernel_rfl) ?_ _
  have hd2 := Below.then hd hS0
  go_wp2_with fail
  exact ⟨⟨k + 1, by omega, by simp, hd2⟩, by simp [Go.RowKit.intOf]; omega⟩
 ·have i1 : ¬ (k : Int) < (n : Int) := by omega
  have hfin := Below.then hB1 hd
  go_wp2_with fail
  go_ret
  exact ⟨rfl, hfin⟩
end Go.Proofs.YtidihdiffiffmaaGreatDoor
namespace Go.Proofs.YtidihdiffiffmaaGreatDoor
open Go.RowKit
set_option maxRecDepth 8000
set_option linter.unusedSimpArgs false
set_option linter.unusedVariables false
section
variable {ops : Array Oper} {rest : List Oper} {o : Oper} {a : Act} {w W : World} {Q : Exit → Act → World → Prop} {T : TypeId}
theorem wpList_stL (hg : o.guard = none) (x z : Operand) (ho : o.op = .store T x z) (y : Addr) (hx : a.eval x = .pointer (some y)) (v : Value) (hz : a.eval z = v) (hst : (Instr.storeAt T (.pointer (some y)) v).run Tryz.prog w = .ok () (w.setCell y v)) (h : wpList Tryz.prog ops Q rest (a.put o.dst undef) (w.setCell y v)) : wpList Tryz.prog ops Q (o :: rest) a w :=
 wpList_plain hg fun _ hK => by
  unfold Oper.wp
  simp [execOp, ho, hx, hz, hst, Result.andThen]
  exact hK _ _ h
end
abbrev zSB : Array Value := #[.string ⟨#[]⟩, .int .i64 0, .int .i64 0, .int .i64 0, .int .i64 0]
theorem rlbotW_any (w : World) :
    Calls Tryz.prog 23 #[] w fun e w' => e = .returned bottomL.v ∧ Below w.heap.size w w' := by
 go_enter Tryz.func23, Tryz.ntmps23
 go_wp2
 refine bodyPost_ret (v := bottomL.v) (by simp [results, Tryz.results23, go_sem, bottomL]) rfl ⟨rfl, (Below.refl _ _).alloc (Nat.le_refl _) _⟩
theorem first_row {W0 W1 : World} {v : Value} (ho : OwnN W1 W0.heap.size v (firstP [bottomL] 1 (some ⟨W0.heap.size + 1, 0, none⟩))) (hg : GrsAt W1 (some ⟨W0.heap.size + 1, 0, none⟩) allG) : ∃ (a : Option Addr) (c : Nat) (L : List PN), v = .slice a 2 c ∧ L.length = 2 ∧ RowN W1 a L ∧ namesP L = kpL0 := by
 obtain ⟨ag, hag⟩ : ∃ ag, (some ⟨W0.heap.size + 1, 0, none⟩ : Option Addr) = ag := ⟨_, rfl⟩
 rw [hag] at ho hg
 obtain ⟨L, hL⟩ : ∃ L, firstP [bottomL] 1 ag = L := ⟨_, rfl⟩
 have hLn : namesP L = kpL0 := by rw [← hL, firstP_names]; rfl
 have hLl : L.length = 2 := by rw [← hL, firstP_len]; decide +kernel
 have hLa : ∀ x ∈ L, x.At W1 := fun x hx => by
  rw [← hL] at hx
  obtain ⟨d, hd, rfl⟩ := List.mem_map.1 hx
  have hda : d.acl = allG ∧ d.words = [] := by
   rcases first_mem hd with rfl | ⟨k, t, _, _, rfl⟩
   ·exact ⟨rfl, rfl⟩
   ·exact ⟨rfl, rfl⟩
  refine ⟨?_, ?_⟩
  ·show GrsAt W1 ag d.acl
   rw [hda.1]
   exact hg
  ·show WrdsAt W1 none d.words
   rw [hda.2]
   exact fun j q hq => by simp at hq
 rw [hL] at ho
 obtain ⟨a, c, rfl, _, _, hr⟩ := OwnR.slice pn_len ho
 exact ⟨a, c, L, by rw [hLl], hLl, ⟨hr, hLa⟩, hLn⟩
set_option maxRecDepth 20000 in
set_option maxHeartbeats 8000000 in
theorem lknown_any (w : World) (hV : MaxV w) : Calls Tryz.prog 9 #[] w fun e w' => e = .returned (.bool true) ∧ Below w.heap.size w w' := by
 have hund := Tryz.underlying36
 have hundM := Tryz.underlying52
 have hundP := Tryz.underlying47
 have hszN : (Tryz.prog.info? 36).map (·.size) = some 16 := by kernel_rfl
 have hsm : (Tryz.prog.info? 52).map (·.size) = some 5 := by kernel_rfl
 have hszP : (Tryz.prog.info? 47).map (·.size) = some 19 := by kernel_rfl
 have kb := rlbotW_any
 go_enter Tryz.func9, Tryz.ntmps9
 go_wp2_with fail
 refine (kb w).mono ?_
 rintro e W0 ⟨rfl, hB0⟩
 have hrow := row_made lab_ok.len W0 bottomL #[.int .i64 bottomL.s, .int .i64 bottomL.c, .int .i64 bottomL.i, .int .i64 bottomL.k] rfl 30
 have hb := alloc_below W0 (.cells #[.int .i64 bottomL.s, .int .i64 bottomL.c, .int .i64 bottomL.i, .int .i64 bottomL.k] 30)
 have kf := rfirstT_any (some ⟨W0.heap.size, 0, none⟩) 1 [bottomL] none none 0 0 0 0 (by decide) _ hrow
 have hB1 := Below.then hB0 hb
 obtain ⟨W1, hW1⟩ : ∃ W1, W0.alloc (.cells #[.int .i64 bottomL.s, .int .i64 bottomL.c, .int .i64 bottomL.i, .int .i64 bottomL.k] 30) = W1 := ⟨_, rfl⟩
 rw [hW1] at kf hB1
 replace kf : Calls Tryz.prog 25 #[.agg #[.slice (some ⟨W0.heap.size, 0, none⟩) 1 1, .slice none 0 0, .slice none 0 0]] W1 _ := kf
 clear hrow hb hB0
 go_wp2_with fail
 (try rw [hW1])
 refine kf.mono ?_
 rintro e W2 ⟨v, rfl, ho, hg, hb⟩
 obtain ⟨a1, c1, L1, rfl, hL1, hr1, hn1⟩ := first_row ho hg
 have hB2 := Below.then hB1 hb
 clear kf ho hg hb hB1 hW1
 have hrp := row_made (f := pgcl) pg_len1 W2 (⟨[], none, 0⟩ : PPg) #[.slice none 0 0] rfl 92
 have hb := alloc_below W2 (.cells #[.slice none 0 0] 92)
 have hB3 := Below.then hB2 hb
 have kp := pput_any 0 (by decide) a1 c1 L1 (some ⟨W2.heap.size, 0, none⟩) 1 [⟨[], none, 0⟩] none 0 [] none 0 [] (by omega) _ (hr1.below hb) hrp (fun x hx => by obtain rfl := List.mem_singleton.1 hx; exact ⟨fun j x h => by simp at h, by simp⟩) (fun j x h => by simp at h) (fun j x h => by simp at h)
 rw [dirS0, hL1, hn1] at kp
 replace kp : Calls Tryz.prog 24 #[.slice a1 2 c1, .string ⟨#[47, 108, 48]⟩, .slice (some ⟨W2.heap.size, 0, none⟩) 1 1, .slice none 0 0, .slice none 0 0] (W2.alloc (.cells #[.slice none 0 0] 92)) (PutR kpL1 (W2.alloc (.cells #[.slice none 0 0] 92))) := kp
 clear hrp hb hB2 hr1 hn1 hL1
 go_wp2_with fail
 refine kp.mono ?_
 rintro e W4 ⟨l4, a4, c4, rfl, hr4, hn4, hb⟩
 have hB4 := Below.then hB3 hb
 clear hb hB3 kp
 have hl4 : l4.length = 3 := by
  have h1 : (namesP l4).length = l4.length := by simp [namesP]
  rw [← h1, hn4]
  decide +kernel
 obtain ⟨d, hd, hdn⟩ : ∃ d, findP l4 kpS = some d ∧ d.n = kpN0 := by
  have h1 := find_names l4 kpS
  rw [hn4, kp_find] at h1
  cases h2 : findP l4 kpS with
  | none => rw [h2] at h1; cases h1
  | some d => rw [h2] at h1; exact ⟨d, rfl, (Option.some.inj h1).symm⟩
 have hdat := hr4.p d (List.mem_of_find?_eq_some hd)
 have kfd := rfindT_any a4 c4 l4 kpS (by omega) W4 hr4
 rw [hd, hl4] at kfd
 replace kfd : Calls Tryz.prog 16 #[.slice a4 3 c4, .string ⟨#[47, 108, 48, 47, 112, 48]⟩] W4 fun e w' => e = .returned (.tuple #[.agg d.cs.toArray, .bool true]) ∧ Below W4.heap.size W4 w' := kfd
 rw [hl4]
 clear hd
 go_wp2_with fail
 refine kfd.mono ?_
 rintro e W5 ⟨rfl, hb5⟩
 obtain ⟨W6, hW6, hth6, hnd, hb⟩ := put_new W5 ZNP 36 d.cs (by rw [pn_len]; rfl) (by rw [pn_len]; decide)
 have hb46 := Below.then hb5 hb
 have hszd : (Tryz.prog.info? 36).map (·.size) = some d.cs.length := by rw [pn_len]; exact hszN
 have hone := pn_one d
 have hg45 : W4.heap.size ≤ W5.heap.size := hb5.size
 go_upto_region 3 with (first | (refine wpList_store_row rfl _ _ rfl W5.heap.size rfl d.cs rfl hth6 hszd hone hW6 ?_) | fail)
 clear kfd hb hb5 hth6 hW6 hszd hone
 generalize W5.heap.size = gn at *
 have how := own_oneP wd_okC W6 (Nat.le_refl _) (0 : Int)
 have hb := alloc_below W6 (.cells (wcl 0).toArray 2)
 have hgn6 : gn < W6.heap.size := hnd.2
 have hnd7 := stab_blk _ _ _ _ hnd hb
 have hb47 := Below.then hb46 hb
 obtain ⟨W7, hW7⟩ : ∃ W7, W6.alloc (.cells (wcl 0).toArray 2) = W7 := ⟨_, rfl⟩
 have hW7' : Aside (W6.alloc (.cells #[.int .i64 0] 2) = W7) := hW7
 rw [hW7] at how hnd7 hb47
 have hq11 := (hnd7.1 11 _ rfl).1
 have hf11 := (hnd7.1 11 _ rfl).2
 have hnd8 := blk_setS hnd7 (i := 11) (by rw [pn_len]; decide) (.slice (some ⟨W6.heap.size, 0, none⟩) 1 1)
 have how8 := how.set (g := gn) (j := 11) (u := .slice (some ⟨W6.heap.size, 0, none⟩) 1 1) (fun q => by have h9 : W6.heap.size = gn := Option.some.inj q; omega)
 have hb48 := hb47.setCell (p := ⟨gn, 11, none⟩) (by show W4.heap.size ≤ gn; omega) (.slice (some ⟨W6.heap.size, 0, none⟩) 1 1)
 obtain ⟨x, hx⟩ : ∃ x : PN, x = { d with n := { d.n with words := [0] }, wa := some ⟨W6.heap.size, 0, none⟩, cw := 1 } := ⟨_, rfl⟩
 have hxn : x.n = kpN1 := by rw [hx]; show { d.n with words := [0] } = _; rw [hdn]; rfl
 obtain ⟨W8, hW8⟩ : ∃ W8, W7.setCell ⟨gn, 11, none⟩ (.slice (some ⟨W6.heap.size, 0, none⟩) 1 1) = W8 := ⟨_, rfl⟩
 rw [hW8] at hnd8 how8 hb48
 replace hnd8 : BlkL gn x.cs W8 := by rw [hx]; exact hnd8
 have hxat : x.At W8 := by
  obtain ⟨a2, c2, e2, -, -, r2⟩ := how8.slice wd_okC.len
  injection e2 with q4 q5 q6
  subst q4
  rw [hx]
  exact ⟨(hdat.below hb48).g, row_wrds r2⟩
 clear hx hdn hdat how how8 hnd hnd7 hb hb46 hb47
 have hr8 := hr4.below hb48
 have hB8 := Below.then hB4 hb48
 have hgr := hnd8.range
 have hszx : (Tryz.prog.info? 36).map (·.size) = some x.cs.length := by rw [pn_len]; exact hszN
 have kput := rputT_any a4 c4 l4 x (by omega) W8 hr8
 rw [hl4] at kput
 have hnl9 : namesP (putP l4 x) = kpL2 := by rw [put_names, hn4, hxn]; rfl
 go_upto_region 4 with (first | (refine wpList_stL rfl _ _ rfl ⟨gn, 11, none⟩ rfl (.slice (some ⟨W6.heap.size, 0, none⟩) 1 1) rfl (by rw [hW7'.out]; exact wrdsP_store _ _ _ _ hq11 hf11 rfl) ?_) | fail)
 rw [hW7'.out, hW8]
 clear hq11 hf11 hW8 hW7 hW7'
 go_wp2_with (first | (refine wpList_load_row rfl _ rfl gn rfl x.cs hgr hund rfl hszx ?_) | fail)
 refine kput.mono ?_
 rintro e W9 ⟨v9, rfl, ho9, hb⟩
 obtain ⟨l9, hl9⟩ : ∃ l9, putP l4 x = l9 := ⟨_, rfl⟩
 obtain ⟨a9, c9, hv9, -, -, -⟩ := ho9.slice pn_len
 subst hv9
 have hr9 := put_rowN ho9 hr8 hxat hb
 rw [hl9] at hr9 hnl9
 have hll9 : l9.length = 3 := by
  have h1 : (namesP l9).length = l9.length := by simp [namesP]
  rw [← h1, hnl9]
  decide +kernel
 rw [hl9, hll9]
 have hB9 := Below.then hB8 hb
 have hF9 : FineL l9 := ⟨by omega, by rw [hnl9]; exact kp_inv.tr.ord, fun y hy => kp_inv.tr.ok y.n (by rw [← hnl9]; exact List.mem_map.2 ⟨y, hy, rfl⟩)⟩
 have hI9 : InvP (namesP l9) := by rw [hnl9]; exact kp_inv
 clear kput ho9 hb hl9 hr8 hxat hgr hszx hnd8 hxn hr4 hn4 hl4 hb48 hB8 hB4
 go_wp2_with fail
 refine (kb W9).mono ?_
 rintro e W10 ⟨rfl, hb10⟩
 obtain ⟨W11, hW11, hth11, hsb, hb⟩ := put_new W10 zSB 52 (sbL kaS bottomL) rfl (by decide)
 have hb911 := Below.then hb10 hb
 have hsz11 : (Tryz.prog.info? 52).map (·.size) = some (sbL kaS bottomL).length := hsm
 have hon11 := sbL_one kaS bottomL
 go_upto_region 6 with (first | (refine wpList_store_row rfl _ _ rfl W10.heap.size rfl (sbL kaS bottomL) rfl hth11 hsz11 hon11 hW11 ?_) | fail)
 have hrs := hsb.range
 clear hth11 hW11 hb hb10 hon11
 generalize W10.heap.size = gs at *
 have hB11 := Below.then hB9 hb911
 have hrp := row_made scl_ok.len W11 kpS #[.string kpS] rfl 9
 have hb := alloc_below W11 (.cells #[.string kpS] 9)
 have hb912 := Below.then hb911 hb
 have hB12 := Below.then hB11 hb
 have km := pmake_any a9 c9 l9 kaS bottomL (some ⟨W11.heap.size, 0, none⟩) 1 [kpS] hF9 bottom_GL (by decide) (fun p hp => by obtain rfl := List.mem_singleton.1 hp; decide) _ (hr9.below hb912) hrp (hV.below hB12)
 rw [hnl9, kp_make, hll9] at km
 replace km : Calls Tryz.prog 12 #[.slice a9 3 c9, .agg (sbL kaS bottomL).toArray, .slice (some ⟨W11.heap.size, 0, none⟩) 1 1] (W11.alloc (.cells #[.string kpS] 9)) _ := km
 clear hrp
 go_wp2_with (first | (refine wpList_load_row rfl _ rfl gs rfl (sbL kaS bottomL) hrs hundM rfl hsz11 ?_) | fail)
 refine km.mono ?_
 rintro e W13 ⟨hb13, -, h0⟩
 obtain ⟨bv, rfl, hob⟩ := h0 rfl
 clear km h0
 obtain ⟨ba, bc, rfl, -, -, hrb⟩ := hob.slice scl_ok.len
 obtain ⟨W14, hW14, hth14, hpr, hb14⟩ := put_new W13 zPC 47 (prL (.slice ba 1 bc) (stCs newC nilS)) rfl (by simp)
 have hb1314 := Below.then hb13 hb14
 have hb914 := Below.then hb912 hb1314
 have hB14 := Below.then hB12 hb1314
 have hsz14 : (Tryz.prog.info? 47).map (·.size) = some (prL (.slice ba 1 bc) (stCs newC nilS)).length := hszP
 have hon14 : ∀ x ∈ prL (.slice ba 1 bc) (stCs newC nilS), x.oneCell' = true := fun x hx => (List.mem_cons.1 hx).elim (fun q => by rw [q]; rfl) (fun q => st_one newC nilS rfl x q)
 have hsb14 := stab_blk _ _ _ _ hsb (Below.then hb hb1314)
 have hrb14 := hrb.below scl_ok.len hb14
 have kr := prunA_any a9 c9 l9 kaS bottomL ba bc [kpS] newC nilS 5 ⟨kpL2, kpC, [], true, 0⟩ hF9 hI9 bottom_GL (by decide) (fun p hp => by obtain rfl := List.mem_singleton.1 hp; decide) newC_ok rfl (by decide) (by rw [hnl9]; exact kp_run) W14 (hr9.below hb914) hrb14 (SV.nil _) (hV.below hB14)
 rw [hll9] at kr
 obtain ⟨X, hX⟩ : ∃ X, prL (.slice ba 1 bc) (stCs newC nilS) = X := ⟨_, rfl⟩
 replace kr : Calls Tryz.prog 17 #[.slice a9 3 c9, .agg (sbL kaS bottomL).toArray, .agg X.toArray, .int .i64 5] W14 (RunP [kpS] 3 ⟨kpL2, kpC, [], true, 0⟩ W14) := by rw [← hX]; exact kr
 have hXe : Aside (Value.agg (prL (.slice ba 1 bc) (stCs newC nilS)).toArray = .agg X.toArray) := by show _ = _; rw [hX]
 rw [hX] at hW14 hth14 hpr hsz14 hon14
 go_upto_region 7 with (first | (refine wpList_store_row rfl _ _ rfl W13.heap.size rfl X hXe.out hth14 hsz14 hon14 hW14 ?_) | (refine wpList_store_row rfl _ _ rfl W13.heap.size rfl X rfl hth14 hsz14 hon14 hW14 ?_) | fail)
 have hrs14 := hsb14.range
 have hrp14 := hpr.range
 clear hXe hX hth14 hW14 hon14 hpr hsb14 hrb14 hrb hob hsb hb hb912 hb911 hb13 hb14 hb1314 hB12 hB11 hB9 hrs hr9 hF9 hI9 hnl9 hb914
 go_wp2_with (first | (refine wpList_load_row rfl _ rfl gs rfl (sbL kaS bottomL) hrs14 hundM rfl hsz11 ?_) | (refine wpList_load_row rfl _ rfl W13.heap.size rfl X hrp14 hundP rfl hsz14 ?_) | fail)
 refine kr.mono ?_
 rintro e W15 ⟨l15, B15, bv15, v15, tv, rfl, -, -, -, -, -, -, -, hob15, hov15, hot, hb15⟩
 obtain ⟨ta, tc, rfl, -, -, -⟩ := hot.slice wd_okC.len
 obtain ⟨ba2, bc2, rfl, -, -, -⟩ := hob15.slice scl_ok.len
 have hv15 := (SV.own hov15).one
 have h4C : (prL (.slice ba2 1 bc2) (stCs kpC v15)).length = 19 := by
  show (stCs kpC v15).length + 1 = 19
  rw [st_len (by decide +kernel : kpC.ps.length = 4)]
 obtain ⟨W16, hW16, hth16, hp16, hb16⟩ := put_new W15 zPC 47 (prL (.slice ba2 1 bc2) (stCs kpC v15)) (by rw [h4C]; rfl) (by simp)
 have hsz16 : (Tryz.prog.info? 47).map (·.size) = some (prL (.slice ba2 1 bc2) (stCs kpC v15)).length := by rw [h4C]; exact hszP
 have hon16 : ∀ x ∈ prL (.slice ba2 1 bc2) (stCs kpC v15), x.oneCell' = true := fun x hx => (List.mem_cons.1 hx).elim (fun q => by rw [q]; rfl) (fun q => st_one kpC v15 hv15 x q)
 have hfin := Below.then hB14 (Below.then hb15 hb16)
 obtain ⟨Y, hY⟩ : ∃ Y, prL (.slice ba2 1 bc2) (stCs kpC v15) = Y := ⟨_, rfl⟩
 have hYe : Aside (Value.agg (prL (.slice ba2 1 bc2) (stCs kpC v15)).toArray = .agg Y.toArray) := by show _ = _; rw [hY]
 rw [hY] at hW16 hth16 hsz16 hon16
 clear h4C kr hob15 hov15 hot hb15 hb16 hp16 hB14 hY
 go_wp2_with (first | (refine wpList_store_row rfl _ _ rfl W15.heap.size rfl Y hYe.out hth16 hsz16 hon16 hW16 ?_) | (refine wpList_store_row rfl _ _ rfl W15.heap.size rfl Y rfl hth16 hsz16 hon16 hW16 ?_) | fail)
 go_ret
 exact ⟨rfl, hfin⟩
end Go.Proofs.YtidihdiffiffmaaGreatDoor
namespace Go.Proofs.YtidihdiffiffmaaGreatDoor
open Go.RowKit
set_option maxRecDepth 8000
set_option linter.unusedSimpArgs false
set_option linter.unusedVariables false
theorem st_setA {c : Cp} (v : Value) (x : Int) : (stCs c v).set 3 (.int .i64 x) = stCs { c with a := x } v := rfl
theorem StAt.setA {b : Nat} {c : Cp} {v : Value} {W : World} (h : StAt b c v W) (x : Int) : StAt b { c with a := x } v (W.setCell ⟨b, 3, none⟩ (.int .i64 x)) := by
 have h1 := h.blk.1.set 3 (.int .i64 x) (by rw [st_len h.ps]; decide)
 rw [st_setA] at h1
 exact ⟨h.ps, h1, h1.lt rfl⟩
theorem SV.off {v : Value} {st : List Fr} {W W' : World} {b : Nat} (h : SV v st W) (hne : v.ownBlock ≠ some b) (k : Sole b W W') : SV v st W' := by
 obtain ⟨a, cap, hv, hn, hr⟩ := h
 refine ⟨a, cap, hv, hn, fun j x hx => ?_⟩
 obtain ⟨y, hy, hc⟩ := hr j x hx
 refine ⟨y, hy, fun i hi => ?_⟩
 have h1 := hc i hi
 obtain ⟨u, hu⟩ : ∃ u, (frc x)[i]? = some u := ⟨_, List.getElem?_eq_getElem (by rw [frc_len]; exact hi)⟩
 rw [hu] at h1 ⊢
 have hlt := World.block_lt_of_cell? _ _ h1
 have hb := k.block _ hlt (by rw [addC_block]; intro q; apply hne; rw [hv, hy]; simp [Value.ownBlock, q])
 exact (World.cell?_of_block hb).trans h1
abbrev z3 : Array Value := #[.int .i64 0, .int .i64 0, .int .i64 0]
abbrev z7 : Array Value := #[.bool false, .slice none 0 0, .int .i64 0, .int .i64 0, .int .i64 0, .int .i64 0, .int .i64 0]
end Go.Proofs.YtidihdiffiffmaaGreatDoor
namespace Go.Proofs.YtidihdiffiffmaaGreatDoor
open Go.RowKit
set_option maxRecDepth 8000
set_option linter.unusedSimpArgs false
set_option linter.unusedVariables false
structure RS (w W : World) (u : ByteArray) (t : Lab) (b : Value) (X : List Value) : Prop where
 bl : Below w.heap.size w W
 sb : BlkL w.heap.size (sbL u t) W
 pr : BlkL (w.heap.size + 1) (prL b X) W
 rs : BlkL (w.heap.size + 2) (prL nilS (stCs zeroC nilS)) W
theorem RS.then {w W W' : World} {u : ByteArray} {t : Lab} {b : Value} {X : List Value} (h : RS w W u t b X) (k : Below W.heap.size W W') : RS w W' u t b X := ⟨Below.then h.bl k, stab_blk _ _ _ _ h.sb k, stab_blk _ _ _ _ h.pr k, stab_blk _ _ _ _ h.rs k⟩
structure Three (b : Nat) (g : Option Nat) (V W : World) : Prop where
 os : W.os = V.os
 tape : W.tape = V.tape
 output : W.output = V.output
 size : V.heap.size ≤ W.heap.size
 block : ∀ j, j < V.heap.size → (j < b ∨ b + 3 ≤ j) → g ≠ some j → W.heap[j]? = V.heap[j]?
theorem Three.of {b : Nat} {g : Option Nat} {V W : World} (h : Below V.heap.size V W) : Three b g V W := ⟨h.os, h.tape, h.output, h.size, fun j hj _ _ => h.block j hj⟩
theorem Three.trans {b : Nat} {g : Option Nat} {U V W : World} (h : Three b g U V) (k : Three b g V W) : Three b g U W := ⟨k.os.trans h.os, k.tape.trans h.tape, k.output.trans h.output, Nat.le_trans h.size k.size, fun j hj hn hg => (k.block j (Nat.lt_of_lt_of_le hj h.size) hn hg).trans (h.block j hj hn hg)⟩
theorem Three.cells {b q : Nat} {g : Option Nat} {V W : World} (h : Three b g V W) (h1 : b ≤ q) (h2 : q < b + 3) (o : Nat) (us : List Value) : Three b g V (W.setCells q o us) := by
 have k := Below.cells (B := 0) (b := q) (Nat.zero_le _) us o (Below.refl 0 W)
 exact ⟨k.os.trans h.os, k.tape.trans h.tape, k.output.trans h.output, Nat.le_trans h.size k.size, fun j hj hn hg => (heap_setCells_other (by omega) us o W).trans (h.block j hj hn hg)⟩
theorem Three.drew {b : Nat} {g : Option Nat} {V W : World} (h : Three b g V W) : Three b g V W.drew := ⟨h.os, h.tape, h.output, h.size, h.block⟩
theorem Three.below {b : Nat} {w V W : World} (h : Below b w V) (k : Three b none V W) (hb : b ≤ w.heap.size) : Below b w W := ⟨k.os.trans h.os, k.tape.trans h.tape, k.output.trans h.output, Nat.le_trans h.size k.size, fun j hj => (k.block j (by have := h.size; omega) (.inl hj) (fun q => by cases q)).trans (h.block j hj)⟩
def Stay (b : Nat) (g : Option Nat) (V : World) (P : World → Prop) : Prop := ∀ W, Three b g V W → P W
theorem Stay.then {b : Nat} {g : Option Nat} {V W : World} {P : World → Prop} (h : Stay b g V P) (k : Three b g V W) : Stay b g W P := fun X hX => h X (k.trans hX)
theorem RS.low {w V W : World} {u : ByteArray} {t : Lab} {b : Value} {X : List Value} (h : RS w V u t b X) (k : Below (w.heap.size + 3) V W) : RS w W u t b X :=
 ⟨h.bl.trans (k.mono (by omega)), ⟨h.sb.1.same (k.block _ (by omega)), Nat.lt_of_lt_of_le h.sb.2 k.size⟩, ⟨h.pr.1.same (k.block _ (by omega)), Nat.lt_of_lt_of_le h.pr.2 k.size⟩, ⟨h.rs.1.same (k.block _ (by omega)), Nat.lt_of_lt_of_le h.rs.2 k.size⟩⟩
end Go.Proofs.YtidihdiffiffmaaGreatDoor
namespace Go.Proofs.YtidihdiffiffmaaGreatDoor
open Go.RowKit
set_option maxRecDepth 8000
set_option linter.unusedSimpArgs false
set_option linter.unusedVariables false
theorem fine_of {l : List PN} {L : List Nod} (h : namesP l = L) (hI : InvP L) (hl : l.length ≤ 1000) : FineL l := ⟨hl, by rw [h]; exact hI.tr.ord, fun y hy => hI.tr.ok y.n (by rw [← h]; exact List.mem_map.2 ⟨y, hy, rfl⟩)⟩
theorem pr_oneL (bv : Value) (c : Cp) (v : Value) (hb : bv.oneCell' = true) (hv : v.oneCell' = true) : ∀ x ∈ prL bv (stCs c v), x.oneCell' = true := fun x hx => (List.mem_cons.1 hx).elim (fun q => by rw [q]; exact hb) (fun q => st_one c v hv x q)
theorem pr_lenL {c : Cp} (h : c.ps.length = 4) (bv v : Value) : (prL bv (stCs c v)).length = 19 := by
 show (stCs c v).length + 1 = 19
 rw [st_len h]
end Go.Proofs.YtidihdiffiffmaaGreatDoor
namespace Go.Proofs.YtidihdiffiffmaaGreatDoor
open Go.RowKit
set_option maxRecDepth 8000
set_option linter.unusedSimpArgs false
set_option linter.unusedVariables false
theorem i64L_store (w : World) (y : Addr) (u : Value) (x : Int) (hc : w.cell? y = some u) (hf : w.frozen? y = false) : (Instr.storeAt 2 (.pointer (some y)) (.int .i64 x)).run Tryz.prog w = .ok () (w.setCell y (.int .i64 x)) := by
 have h1 := Tryz.underlying2
 go_simp
theorem boolL_store (w : World) (y : Addr) (u : Value) (x : Bool) (hc : w.cell? y = some u) (hf : w.frozen? y = false) : (Instr.storeAt 4 (.pointer (some y)) (.bool x)).run Tryz.prog w = .ok () (w.setCell y (.bool x)) := by
 have h1 := Tryz.underlying4
 go_simp
theorem boolL_load (w : World) (y : Addr) (v : Value) (h : w.cell? y = some v) : (Instr.loadAt 4 (.pointer (some y))).run Tryz.prog w = .ok v w := by
 have h1 := Tryz.underlying4
 go_simp
theorem pr_build (a : Option Addr) (n c : Nat) (w : World) : (Instr.build 57 #[(0, .slice a n c)]).run Tryz.prog w = .ok (.agg (prL (.slice a n c) (stCs zeroC nilS)).toArray) w := by
 have h1 := Tryz.underlying57
 unfold prL stCs
 go_simp
 exact ⟨rfl, rfl, rfl, rfl, rfl⟩
theorem pr_six {c : Cp} (h : c.ps.length = 4) (bv : Value) : (setM (((((prL bv (stCs zeroC nilS)).set 1 (.int .i64 c.seg)).set 2 (.int .i64 c.off)).set 3 (.int .i64 c.ring)).set 4 (.int .i64 c.a)) 5 (c.ps.flatMap ptr3)).set 18 (.bool c.hl) = prL bv (stCs c nilS) := by
 obtain ⟨p0, p1, p2, p3, hl⟩ := four h
 obtain ⟨s, o, rg, a, ps, st, hl'⟩ := c
 simp only at hl
 subst hl
 rfl
theorem PrAt.setStk {b : Nat} {bv : Value} {c : Cp} {v : Value} {W : World} (h : PrAt b bv c v W) (u : Value) : PrAt b bv c u (W.setCell ⟨b, 17, none⟩ u) := by
 have h1 := blk_setS h.blk (i := 17) (by show 17 < (stCs c v).length + 1; rw [st_len h.ps]; decide) u
 have h2 : (prL bv (stCs c v)).set 17 u = prL bv ((stCs c v).set 16 u) := rfl
 rw [h2, st_setStk h.ps] at h1
 exact ⟨h.ps, h1⟩
theorem PrAt.keep {b : Nat} {bv : Value} {c : Cp} {v : Value} {W W' : World} (h : PrAt b bv c v W) (hb : Below W.heap.size W W') : PrAt b bv c v W' := ⟨h.ps, stab_blk _ _ _ _ h.blk hb⟩
theorem blk_keepB {b : Nat} {cs : List Value} {W W' : World} {B : Nat} (h : BlkL b cs W) (hb : Below B W W') (hlt : b < B) : BlkL b cs W' := ⟨h.1.same (hb.block b hlt), Nat.lt_of_lt_of_le h.2 hb.size⟩
theorem add_blockL (y : Addr) (j : Nat) : (y.add j).block = y.block := by unfold Addr.add; split <;> rfl
structure FrS (b4 : Nat) (sv : Value) (y : Addr) (f : Fr) (W : World) : Prop where
 s : W.cell? ⟨b4, 16, none⟩ = some sv
 f : CellsAt W y (frc f)
theorem FrS.c0 {b4 : Nat} {sv : Value} {y : Addr} {f : Fr} {W : World} (h : FrS b4 sv y f W) : W.cell? y = some (.int .i64 f.s) := h.f 0 _ rfl
theorem FrS.c1 {b4 : Nat} {sv : Value} {y : Addr} {f : Fr} {W : World} (h : FrS b4 sv y f W) : W.cell? ⟨y.block, y.off + 1, none⟩ = some (.int .i64 f.f) := h.f 1 _ rfl
theorem FrS.c2 {b4 : Nat} {sv : Value} {y : Addr} {f : Fr} {W : World} (h : FrS b4 sv y f W) : W.cell? ⟨y.block, y.off + 2, none⟩ = some (.int .i64 f.r) := h.f 2 _ rfl
theorem FrS.below {b4 : Nat} {sv : Value} {y : Addr} {f : Fr} {W W' : World} {B : Nat} (h : FrS b4 sv y f W) (hb : Below B W W') (h1 : b4 < B) (h2 : y.block < B) : FrS b4 sv y f W' := ⟨(hb.cell (p := ⟨b4, 16, none⟩) h1).trans h.s, fun j v hv => (hb.cell (p := y.add j) (by rw [add_blockL]; exact h2)).trans (h.f j v hv)⟩
theorem FrS.set {b4 : Nat} {sv : Value} {y : Addr} {f : Fr} {W : World} (h : FrS b4 sv y f W) {g : Nat} (h1 : b4 ≠ g) (h2 : y.block ≠ g) (o : Nat) (u : Value) : FrS b4 sv y f (W.setCell ⟨g, o, none⟩ u) := ⟨(World.cell?_of_block (a := ⟨b4, 16, none⟩) (heap_setCell_other W ⟨g, o, none⟩ b4 u h1)).trans h.s, fun j v hv => (World.cell?_of_block (a := y.add j) (heap_setCell_other W ⟨g, o, none⟩ (y.add j).block u (by rw [add_blockL]; exact h2))).trans (h.f j v hv)⟩
set_option maxRecDepth 8000 in
set_option maxHeartbeats 4000000 in
theorem plstate_any (ba : Option Addr) (nb bc : Nat) (c : Cp) (h4 : c.ps.length = 4) (a1 : Option Addr) (c1 : Nat) (w : World) (hn : c.st.length ≤ 1000) (r1 : RowAt 3 frc w a1 c.st) :
    Calls Tryz.prog 15 #[.agg (prL (.slice ba nb bc) (stCs c (.slice a1 c.st.length c1))).toArray] w fun e w' => ∃ v, e = .returned (.agg (prL (.slice ba nb bc) (stCs c v)).toArray) ∧ OwnR 101 3 frc w' w.heap.size v c.st ∧ Below w.heap.size w w' := by
 have hundP := Tryz.underlying42
 have hszP : (Tryz.prog.info? 42).map (·.size) = some 12 := by kernel_rfl
 have hundS := Tryz.underlying45
 have hszS : (Tryz.prog.info? 45).map (·.size) = some 18 := by kernel_rfl
 have hundQ := Tryz.underlying57
 have hszQ : (Tryz.prog.info? 57).map (·.size) = some 19 := by kernel_rfl
 obtain ⟨n, hnn⟩ : ∃ n, c.st.length = n := ⟨_, rfl⟩
 rw [hnn] at hn ⊢
 replace hnn : Aside (c.st.length = n) := hnn
 have hXl : (stCs c (.slice a1 n c1)).length = 18 := st_len h4
 have hXo := st_one c (.slice a1 n c1) rfl
 have f0 := blkl_alloc w (prL (.slice ba nb bc) (stCs c (.slice a1 n c1))).toArray 47
 have g0 := alloc_below w (.cells (prL (.slice ba nb bc) (stCs c (.slice a1 n c1))).toArray 47)
 have f1 := blkl_alloc (w.alloc (.cells (prL (.slice ba nb bc) (stCs c (.slice a1 n c1))).toArray 47)) zPC 57
 have g1 := alloc_below (w.alloc (.cells (prL (.slice ba nb bc) (stCs c (.slice a1 n c1))).toArray 47)) (.cells zPC 57)
 rw [World.size_alloc] at f1
 have hP : BlkL w.heap.size (prL (.slice ba nb bc) (stCs c (.slice a1 n c1))) ((w.alloc (.cells (prL (.slice ba nb bc) (stCs c (.slice a1 n c1))).toArray 47)).alloc (.cells zPC 57)) := stab_blk _ _ _ _ f0 g1
 have hR : BlkL (w.heap.size + 1) (prL nilS (stCs zeroC nilS)) ((w.alloc (.cells (prL (.slice ba nb bc) (stCs c (.slice a1 n c1))).toArray 47)).alloc (.cells zPC 57)) := f1
 have hB := Below.then g0 g1
 clear f0 g0 f1 g1
 obtain ⟨X, hX⟩ : ∃ X, stCs c (.slice a1 n c1) = X := ⟨_, rfl⟩
 rw [hX] at hP hR hB hXl hXo ⊢
 replace hX : Aside (stCs c (.slice a1 n c1) = X) := hX
 have hbd := pr_build ba nb bc
 go_enter Tryz.func15, Tryz.ntmps15
 go_upto_region 1 with fail
 generalize (w.alloc (.cells (prL (.slice ba nb bc) X).toArray 47)).alloc (.cells zPC 57) = W0 at *
 have c00 := (hP.1 0 _ rfl).1
 obtain ⟨W1, hW1, hth1, hQ1, hb1⟩ := put_new W0 zPC 57 (prL (.slice ba nb bc) (stCs zeroC nilS)) rfl (by simp)
 have hszB : (Tryz.prog.info? 57).map (·.size) = some (prL (.slice ba nb bc) (stCs zeroC nilS)).length := hszQ
 have honeB : ∀ x ∈ prL (.slice ba nb bc) (stCs zeroC nilS), x.oneCell' = true := fun x hx => (List.mem_cons.1 hx).elim (fun q => by rw [q]; rfl) (fun q => st_one zeroC nilS rfl x q)
 obtain ⟨Y, hY⟩ : ∃ Y, prL (.slice ba nb bc) (stCs zeroC nilS) = Y := ⟨_, rfl⟩
 rw [hY] at hW1 hth1 hQ1 hszB honeB
 simp only [hY] at hbd
 replace hY : Aside _ := hY
 go_upto_region 2 with (first | (refine wpList_buildv rfl _ rfl #[(0, .slice ba nb bc)] (by simp [Act.eval]) (hbd _) ?_) | (refine wpList_store_row rfl _ _ rfl W0.heap.size rfl Y rfl hth1 hszB honeB hW1 ?_) | fail)
 have hl3 : w.heap.size + 1 < W0.heap.size := hR.2
 replace hP := stab_blk _ _ _ _ hP hb1
 replace hR := stab_blk _ _ _ _ hR hb1
 replace hB := Below.then hB hb1
 clear hb1 hth1 hW1 hszB honeB hbd c00
 generalize W0.heap.size = b3 at *
 have hsr : W1.rangeAt w.heap.size 1 X := fun j u hu => (hP.1 (1 + j) u (by rw [Nat.add_comm]; exact hu)).1
 have hszX : (Tryz.prog.info? 45).map (·.size) = some X.length := by rw [hXl]; exact hszS
 obtain ⟨W2, hW2, hth2, hS2, hb2⟩ := put_new W1 zS 45 X (by rw [hXl]; rfl) (by rw [hXl]; decide)
 go_upto_region 3 with (first | (refine wpList_load_midg (by rfl) _ rfl w.heap.size 1 rfl X hsr hundS rfl hszX ?_) | (refine wpList_store_row rfl _ _ rfl W1.heap.size rfl X rfl hth2 hszX hXo hW2 ?_) | fail)
 have hl4 : b3 < W1.heap.size := hQ1.2
 replace hR := stab_blk _ _ _ _ hR hb2
 replace hQ1 := stab_blk _ _ _ _ hQ1 hb2
 replace hB := Below.then hB hb2
 clear hb2 hth2 hW2 hszX hXo hsr hP hXl
 generalize W1.heap.size = b4 at *
 have hdr : Below W2.heap.size W2 W2.drew := (Below.refl _ _).drew
 have hS0 : StAt b4 c (.slice a1 n c1) W2.drew := ⟨h4, stab_blk _ _ _ _ (by rw [hX.out]; exact hS2) hdr⟩
 have hR0 := stab_blk _ _ _ _ hR hdr
 have hQ0 := stab_blk _ _ _ _ hQ1 hdr
 have hB0 : Below w.heap.size w W2.drew := hB.drew
 have hpl : (c.ps.flatMap ptr3).length = 12 := by rw [flat_length ptr3_len, h4]
 have hsix := pr_six h4 (.slice ba nb bc)
 have hZs : ∀ {W : World}, StAt b4 c (.slice a1 n c1) W → W.rangeAt b4 4 (c.ps.flatMap ptr3) := fun h => h.pts
 have hZo : ∀ u ∈ c.ps.flatMap ptr3, u.oneCell' = true := fun u hu => by
  obtain ⟨p, -, hp⟩ := List.mem_flatMap.1 hu
  simp [ptr3] at hp
  rcases hp with rfl | rfl | rfl <;> rfl
 obtain ⟨Z, hZ⟩ : ∃ Z, c.ps.flatMap ptr3 = Z := ⟨_, rfl⟩
 rw [hZ] at hpl hsix hZo
 simp only [hZ] at hZs
 clear hZ
 have hYl : Y.length = 19 := by rw [← hY.out]; rfl
 rw [hY.out] at hsix
 replace hsix : Aside _ := hsix
 have hszZ : (Tryz.prog.info? 42).map (·.size) = some Z.length := by rw [hpl]; exact hszP
 clear hS2 hR hQ1 hB hdr hY hX
 refine wp_region_held_drew (S := (fun W => StAt b4 c (.slice a1 n c1) W)) (by kernel_rfl) (by exact hS0) ?_
 intro hHeld
 generalize W2.drew = w0 at *
 refine tkA 0 ?_
 refine tkB 1 (y := yields_cellI (by rfl) _ rfl ⟨b4, 0, none⟩ rfl (.int .i64 c.seg) (fun _ s => StAt.seg s) intI_load) (h := ?_)
 refine tkA 2 ?_
 refine tkB 3 (y := yields_cellI (by rfl) _ rfl ⟨b4, 1, none⟩ rfl (.int .i64 c.off) (fun _ s => StAt.off s) intI_load) (h := ?_)
 refine tkA 4 ?_
 refine tkB 5 (y := yields_cellI (by rfl) _ rfl ⟨b4, 2, none⟩ rfl (.int .i64 c.ring) (fun _ s => StAt.ring s) intI_load) (h := ?_)
 refine tkA 6 ?_
 refine tkB 7 (y := yields_cellI (by rfl) _ rfl ⟨b4, 3, none⟩ rfl (.int .i64 c.a) (fun _ s => StAt.a s) i64C_load) (h := ?_)
 refine tkA 8 ?_
 refine tkB 9 (y := yieldsIf_load_mid (by rfl) 42 _ rfl b4 4 rfl Z _ (fun W s => hZs s) hundP rfl hszZ) (h := ?_)
 refine tkA 10 ?_
 refine tkB 11 (y := yields_cellI (by rfl) _ rfl ⟨b4, 17, none⟩ rfl (.bool c.hl) (fun _ s => StAt.hl s) boolL_load) (h := ?_)
 refine tkA 12 ?_
 refine tkA 13 ?_
 refine tkR (rs := [14]) ?_
 refine tkC (fun K hK => ?_) AllReadyH.nil
 obtain ⟨u1, hu1⟩ : ∃ u, w0.cell? ⟨b3, 1, none⟩ = some u ∧ w0.frozen? ⟨b3, 1, none⟩ = false := ⟨_, hQ0.1 1 _ (List.getElem?_eq_getElem (by simp [hYl, setM_len, hpl]))⟩
 have hQ1 := blk_setS hQ0 (i := 1) (by simp [hYl, setM_len, hpl]) (.int .i64 c.seg)
 have hS1 : StAt b4 c (.slice a1 n c1) (w0.setCell ⟨b3, 1, none⟩ (.int .i64 c.seg)) := ⟨h4, blk_setO hS0.blk (by omega) 1 (.int .i64 c.seg)⟩
 have hR1 := blk_setO hR0 (g := b3) (by omega) 1 (.int .i64 c.seg)
 have hB1 := hB0.setCell (p := ⟨b3, 1, none⟩) (by show w.heap.size ≤ b3; omega) (.int .i64 c.seg)
 refine step_st rfl _ _ rfl ⟨b3, 1, none⟩ rfl (.int .i64 c.seg) rfl (int_store _ _ _ _ hu1.1 hu1.2) ?_
 (try simp only [Act.put, zsA, zsB, zsC])
 refine hK.out _ _ (hS1) ?_
 clear hHeld hK
 intro hHeld
 clear hu1
 generalize w0.setCell ⟨b3, 1, none⟩ (.int .i64 c.seg) = w1 at *
 clear hS0 hR0 hQ0 hB0
 (try simp only [Act.put, zsA, zsB, zsC])
 refine tkA 15 ?_
 refine tkA 16 ?_
 refine tkR (rs := [17]) ?_
 refine tkC (fun K hK => ?_) AllReadyH.nil
 obtain ⟨u2, hu2⟩ : ∃ u, w1.cell? ⟨b3, 2, none⟩ = some u ∧ w1.frozen? ⟨b3, 2, none⟩ = false := ⟨_, hQ1.1 2 _ (List.getElem?_eq_getElem (by simp [hYl, setM_len, hpl]))⟩
 have hQ2 := blk_setS hQ1 (i := 2) (by simp [hYl, setM_len, hpl]) (.int .i64 c.off)
 have hS2 : StAt b4 c (.slice a1 n c1) (w1.setCell ⟨b3, 2, none⟩ (.int .i64 c.off)) := ⟨h4, blk_setO hS1.blk (by omega) 2 (.int .i64 c.off)⟩
 have hR2 := blk_setO hR1 (g := b3) (by omega) 2 (.int .i64 c.off)
 have hB2 := hB1.setCell (p := ⟨b3, 2, none⟩) (by show w.heap.size ≤ b3; omega) (.int .i64 c.off)
 refine step_st rfl _ _ rfl ⟨b3, 2, none⟩ rfl (.int .i64 c.off) rfl (int_store _ _ _ _ hu2.1 hu2.2) ?_
 (try simp only [Act.put, zsA, zsB, zsC])
 refine hK.out _ _ (hS2) ?_
 clear hHeld hK
 intro hHeld
 clear hu2
 generalize w1.setCell ⟨b3, 2, none⟩ (.int .i64 c.off) = w2 at *
 clear hS1 hR1 hQ1 hB1
 (try simp only [Act.put, zsA, zsB, zsC])
 refine tkA 18 ?_
 refine tkA 19 ?_
 refine tkR (rs := [20]) ?_
 refine tkC (fun K hK => ?_) AllReadyH.nil
 obtain ⟨u3, hu3⟩ : ∃ u, w2.cell? ⟨b3, 3, none⟩ = some u ∧ w2.frozen? ⟨b3, 3, none⟩ = false := ⟨_, hQ2.1 3 _ (List.getElem?_eq_getElem (by simp [hYl, setM_len, hpl]))⟩
 have hQ3 := blk_setS hQ2 (i := 3) (by simp [hYl, setM_len, hpl]) (.int .i64 c.ring)
 have hS3 : StAt b4 c (.slice a1 n c1) (w2.setCell ⟨b3, 3, none⟩ (.int .i64 c.ring)) := ⟨h4, blk_setO hS2.blk (by omega) 3 (.int .i64 c.ring)⟩
 have hR3 := blk_setO hR2 (g := b3) (by omega) 3 (.int .i64 c.ring)
 have hB3 := hB2.setCell (p := ⟨b3, 3, none⟩) (by show w.heap.size ≤ b3; omega) (.int .i64 c.ring)
 refine step_st rfl _ _ rfl ⟨b3, 3, none⟩ rfl (.int .i64 c.ring) rfl (int_store _ _ _ _ hu3.1 hu3.2) ?_
 (try simp only [Act.put, zsA, zsB, zsC])
 refine hK.out _ _ (hS3) ?_
 clear hHeld hK
 intro hHeld
 clear hu3
 generalize w2.setCell ⟨b3, 3, none⟩ (.int .i64 c.ring) = w3 at *
 clear hS2 hR2 hQ2 hB2
 (try simp only [Act.put, zsA, zsB, zsC])
 refine tkA 21 ?_
 refine tkA 22 ?_
 refine tkR (rs := [23]) ?_
 refine tkC (fun K hK => ?_) AllReadyH.nil
 obtain ⟨u4, hu4⟩ : ∃ u, w3.cell? ⟨b3, 4, none⟩ = some u ∧ w3.frozen? ⟨b3, 4, none⟩ = false := ⟨_, hQ3.1 4 _ (List.getElem?_eq_getElem (by simp [hYl, setM_len, hpl]))⟩
 have hQ4 := blk_setS hQ3 (i := 4) (by simp [hYl, setM_len, hpl]) (.int .i64 c.a)
 have hS4 : StAt b4 c (.slice a1 n c1) (w3.setCell ⟨b3, 4, none⟩ (.int .i64 c.a)) := ⟨h4, blk_setO hS3.blk (by omega) 4 (.int .i64 c.a)⟩
 have hR4 := blk_setO hR3 (g := b3) (by omega) 4 (.int .i64 c.a)
 have hB4 := hB3.setCell (p := ⟨b3, 4, none⟩) (by show w.heap.size ≤ b3; omega) (.int .i64 c.a)
 refine step_st rfl _ _ rfl ⟨b3, 4, none⟩ rfl (.int .i64 c.a) rfl (i64L_store _ _ _ _ hu4.1 hu4.2) ?_
 (try simp only [Act.put, zsA, zsB, zsC])
 refine hK.out _ _ (hS4) ?_
 clear hHeld hK
 intro hHeld
 clear hu4
 generalize w3.setCell ⟨b3, 4, none⟩ (.int .i64 c.a) = w4 at *
 clear hS3 hR3 hQ3 hB3
 (try simp only [Act.put, zsA, zsB, zsC])
 refine tkA 24 ?_
 refine tkA 25 ?_
 refine tkR (rs := [26]) ?_
 refine tkC (fun K hK => ?_) AllReadyH.nil
 obtain ⟨w5, hw5, hth5, hQ5, hb5⟩ := put_mid (Z := w) hQ4 5 Z (by simp [hpl, hYl]) (by simp [hYl]) hB4 (by omega)
 have hk5 : ∀ j, j ≠ b3 → w5.heap[j]? = w4.heap[j]? := fun j hj => by rw [← hw5]; exact heap_setCells_other hj _ _ _
 have hsz5 : w4.heap.size ≤ w5.heap.size := by rw [← hw5]; exact (Below.cells (Nat.zero_le b3) Z 5 (Below.refl 0 w4)).size
 have hS5 : StAt b4 c (.slice a1 n c1) w5 := ⟨h4, hS4.blk.1.same (hk5 b4 (by omega)), Nat.lt_of_lt_of_le hS4.blk.2 hsz5⟩
 have hR5 : BlkL (w.heap.size + 1) (prL nilS (stCs zeroC nilS)) w5 := ⟨hR4.1.same (hk5 _ (by omega)), Nat.lt_of_lt_of_le hR4.2 hsz5⟩
 have hB5 := hb5
 refine step_store_part rfl _ _ rfl b3 5 rfl Z rfl hth5 hszZ hZo hw5 ?_
 (try simp only [Act.put, zsA, zsB, zsC])
 refine hK.out _ _ (hS5) ?_
 clear hHeld hK
 intro hHeld
 clear hS4 hR4 hQ4 hB4 hk5 hsz5 hb5 hth5 hw5
 (try simp only [Act.put, zsA, zsB, zsC])
 refine tkA 27 ?_
 refine tkA 28 ?_
 refine tkR (rs := [29]) ?_
 refine tkC (fun K hK => ?_) AllReadyH.nil
 obtain ⟨u6, hu6⟩ : ∃ u, w5.cell? ⟨b3, 18, none⟩ = some u ∧ w5.frozen? ⟨b3, 18, none⟩ = false := ⟨_, hQ5.1 18 _ (List.getElem?_eq_getElem (by simp [hYl, setM_len, hpl]))⟩
 have hQ6 := blk_setS hQ5 (i := 18) (by simp [hYl, setM_len, hpl]) (.bool c.hl)
 have hS6 : StAt b4 c (.slice a1 n c1) (w5.setCell ⟨b3, 18, none⟩ (.bool c.hl)) := ⟨h4, blk_setO hS5.blk (by omega) 18 (.bool c.hl)⟩
 have hR6 := blk_setO hR5 (g := b3) (by omega) 18 (.bool c.hl)
 have hB6 := hB5.setCell (p := ⟨b3, 18, none⟩) (by show w.heap.size ≤ b3; omega) (.bool c.hl)
 refine step_st rfl _ _ rfl ⟨b3, 18, none⟩ rfl (.bool c.hl) rfl (boolL_store _ _ _ _ hu6.1 hu6.2) ?_
 (try simp only [Act.put, zsA, zsB, zsC])
 refine hK.out _ _ (hS6) ?_
 clear hHeld hK
 intro hHeld
 clear hu6
 generalize w5.setCell ⟨b3, 18, none⟩ (.bool c.hl) = w6 at *
 clear hS5 hR5 hQ5 hB5
 (try simp only [Act.put, zsA, zsB, zsC])
 refine wpAnyH_done (by kernel_rfl) ?_ _
 clear hHeld
 rw [hsix.out] at hQ6
 obtain ⟨W3, hW3⟩ : ∃ W, W = w6 := ⟨_, rfl⟩
 rw [← hW3] at hQ6 hR6 hS6 hB6 ⊢
 clear hW3 hsix
 have hS3 := hS6
 have hR3 := hR6
 have hQ3 := hQ6
 have hB3 := hB6
 clear hS6 hR6 hQ6 hB6
 have hRow := OwnR.nil 101 3 frc W3 (b4 + 1)
 go_wp2_with fail
 go_loopw [5] (fun t4 wr => ∃ (k : Nat) (v : Value), k ≤ n ∧ t4 = .int .i64 (k : Int) ∧ StAt b4 c (.slice a1 n c1) wr ∧ BlkL (w.heap.size + 1) (prL nilS (stCs zeroC nilS)) wr ∧ PrAt b3 (.slice ba nb bc) c v wr ∧ OwnR 101 3 frc wr (b4 + 1) v (c.st.take k) ∧ Below w.heap.size w wr) (fun t4 _ => n - (Go.RowKit.intOf t4).toNat)
 case atStart => exact ⟨0, _, by omega, rfl, hS3, hR3, ⟨h4, hQ3⟩, hRow, hB3⟩
 case round =>
 clear hS3 hR3 hQ3 hB3 hRow hpl hZo hZs hszZ hYl
 obtain ⟨k, v, hk, rfl, hs, ht, hst, ho, hB⟩ := hrel
 have x5 := hs.stk
 by_cases hkn : k < n
 ·obtain ⟨f, hf⟩ : ∃ f, c.st[k]? = some f := ⟨_, List.getElem?_eq_getElem (by rw [hnn.out]; exact hkn)⟩
  have hstep : c.st.take (k + 1) = c.st.take k ++ [f] := by rw [List.take_add_one, hf]; rfl
  have r1' := r1.below frc_len hB
  obtain ⟨z1, hz1, hzc⟩ := r1 k f hf
  have hzw : (z1.add (k * 3)).block < w.heap.size := by
   have h0 := hzc 0 (by decide)
   have := World.block_lt_of_cell? _ _ (h0.trans rfl)
   rw [Nat.add_zero] at this
   exact this
  subst hz1
  have g1 := r1'.at frc_len hf
  have i1 : (k : Int) < (n : Int) := by omega
  replace hstep : Aside (c.st.take (k + 1) = c.st.take k ++ [f]) := hstep
  have hnl := hnn.out
  have hF : FrS b4 (.slice (some z1) n c1) (z1.add (k * 3)) f wr := ⟨x5, g1⟩
  clear hf r1' hzc g1
  go_upto_region 7 with fail
  obtain ⟨Z, hZ⟩ : ∃ Z, wr = Z := ⟨_, rfl⟩
  rw [hZ] at hF hs ht hst ho hB ⊢
  clear hZ
  have hdr := (Below.refl Z.heap.size Z).drew
  have ho0 := ho.below hdr
  have hst0 := hst.keep hdr
  have hs0 := hs.keep hdr
  have ht0 := stab_blk _ _ _ _ ht hdr
  have hF0 : FrS b4 (.slice (some z1) n c1) (z1.add (k * 3)) f Z.drew := hF.below hdr (by have := hs.blk.2; exact this) (by have := hs.blk.2; omega)
  have hB0 : Below w.heap.size w Z.drew := hB.drew
  have hb4 : b4 < Z.drew.heap.size := hs0.blk.2
  have hstep := hstep.out
  clear x5
  refine wp_region_held_drew (S := (fun W => FrS b4 (.slice (some z1) n c1) (z1.add (k * 3)) f W)) (by kernel_rfl) (by exact hF0) ?_
  intro hHeld
  generalize Z.drew = w0 at *
  obtain ⟨v2, W2, hap, ho2, hg2⟩ := OwnR.push fr_ok ho0 (show b4 + 1 ≤ w0.heap.size from hb4) f (frc f).toArray rfl 101 (by rw [List.length_take]; omega)
  have hb2 := ho0.grew_below (show b4 + 1 ≤ w0.heap.size from hb4) hg2
  have hbA := alloc_below w0 (.cells (frc f).toArray 101)
  have hstA := hst0.keep hbA
  have hFA : FrS b4 (.slice (some z1) n c1) (z1.add (k * 3)) f (w0.alloc (.cells (frc f).toArray 101)) := hF0.below hbA hb4 (by omega)
  have hF2 := hF0.below hb2 (Nat.lt_succ_self _) (by omega)
  have hst2 : PrAt b3 (.slice ba nb bc) c v W2 := ⟨h4, blk_keepB hst0.blk hb2 (by omega)⟩
  have hs2 : StAt b4 c (.slice (some z1) n c1) W2 := ⟨h4, blk_keepB hs0.blk hb2 (Nat.lt_succ_self _)⟩
  have ht2 := blk_keepB ht0 hb2 (by omega)
  have hB2 := hB0.trans (hb2.mono (by omega))
  obtain ⟨a2, cap2, hv2, -, -, -⟩ := ho2.slice frc_len
  refine tkA 0 ?_
  refine tkA 1 ?_
  refine tkA 3 ?_
  refine tkB 4 (y := yields_cellI (by rfl) _ rfl ⟨b4, 16, none⟩ rfl (.slice (some z1) n c1) (fun _ q => FrS.s q) crs_load) (h := ?_)
  refine tkA 5 ?_
  refine tkA 6 ?_
  refine tkA 7 ?_
  refine tkB 8 (y := yields_cellI (by rfl) _ rfl (z1.add (k * 3)) rfl (.int .i64 f.s) (fun _ q => FrS.c0 q) intI_load) (h := ?_)
  refine tkA 9 ?_
  refine tkB 10 (y := yields_cellI (by rfl) _ rfl ⟨b4, 16, none⟩ rfl (.slice (some z1) n c1) (fun _ q => FrS.s q) crs_load) (h := ?_)
  refine tkA 11 ?_
  refine tkA 12 ?_
  refine tkA 13 ?_
  refine tkB 14 (y := yields_cellI (by rfl) _ rfl ⟨(z1.add (k * 3)).block, (z1.add (k * 3)).off + 1, none⟩ rfl (.int .i64 f.f) (fun _ q => FrS.c1 q) intI_load) (h := ?_)
  refine tkA 15 ?_
  refine tkB 16 (y := yields_cellI (by rfl) _ rfl ⟨b4, 16, none⟩ rfl (.slice (some z1) n c1) (fun _ q => FrS.s q) crs_load) (h := ?_)
  refine tkA 17 ?_
  refine tkA 18 ?_
  refine tkA 19 ?_
  refine tkB 20 (y := yields_cellI (by rfl) _ rfl ⟨(z1.add (k * 3)).block, (z1.add (k * 3)).off + 2, none⟩ rfl (.int .i64 f.r) (fun _ q => FrS.c2 q) intI_load) (h := ?_)
  refine tkA 21 ?_
  refine tkR (rs := [2, 22]) ?_
  refine tkC (fun K hK => ?_) ?_
  ·skip
   refine step_oneJ rfl _ rfl ⟨b3, 17, none⟩ rfl v hst0.stk frs_load ?_
   (try simp only [Act.put, zsA, zsB, zsC])
   refine hK.out _ _ (hF0) ?_
   clear hHeld hK
   intro hHeld
   (try simp only [Act.put, zsA, zsB, zsC])
   refine tkR (rs := [22]) ?_
   refine tkC (fun K hK => ?_) AllReadyH.nil
   refine step_build1 fr_ok (by decide) rfl _ rfl (frc f) rfl rfl ?_
   (try simp only [Act.put, zsA, zsB, zsC])
   refine hK.out _ _ (hFA) ?_
   clear hHeld hK
   intro hHeld
   (try simp only [Act.put, zsA, zsB, zsC])
   refine tkR (rs := [23]) ?_
   refine tkC (fun K hK => ?_) AllReadyH.nil
   refine step_append rfl _ _ rfl rfl rfl rfl hap ?_
   (try simp only [Act.put, zsA, zsB, zsC])
   refine hK.out _ _ (hF2) ?_
   clear hHeld hK
   intro hHeld
   clear hap
   (try simp only [Act.put, zsA, zsB, zsC])
   refine tkA 24 ?_
   refine tkA 25 ?_
   refine tkR (rs := [26]) ?_
   refine tkC (fun K hK => ?_) AllReadyH.nil
   have hfz := (hst2.blk.1 17 _ (show (stCs c v)[16]? = some v from st_stk h4)).2
   have hst3 := hst2.setStk v2
   have ho3 := ho2.keep (w' := W2.setCell ⟨b3, 17, none⟩ v2) (fun q hq => heap_setCell_other _ ⟨b3, 17, none⟩ q _ (by have := (ho2.lt hq).1; show q ≠ b3; omega))
   rw [← hstep] at ho3
   have hfs : StAt b4 c (.slice (some z1) n c1) (W2.setCell ⟨b3, 17, none⟩ v2) := ⟨h4, blk_setO hs2.blk (by omega) 17 v2⟩
   have hft := blk_setO ht2 (g := b3) (by omega) 17 v2
   have hB3 := hB2.setCell (p := ⟨b3, 17, none⟩) (by show w.heap.size ≤ b3; omega) v2
   have hF3 := hF2.set (g := b3) (by omega) (by omega) 17 v2
   refine step_storeJ rfl _ _ rfl ⟨b3, 17, none⟩ rfl v2 rfl _ hst2.stk hfz hv2 ?_
   (try simp only [Act.put, zsA, zsB, zsC])
   refine hK.out _ _ (hF3) ?_
   clear hHeld hK
   intro hHeld
   (try simp only [Act.put, zsA, zsB, zsC])
   refine wpAnyH_done (by kernel_rfl) ?_ _
   clear hv2
   go_wp2_with fail
   exact ⟨⟨k + 1, v2, by omega, by simp, hfs, hft, hst3, ho3, hB3⟩, by simp [Go.RowKit.intOf]; omega⟩
  refine tkC (fun K hK => ?_) AllReadyH.nil
  refine step_build1 fr_ok (by decide) rfl _ rfl (frc f) rfl rfl ?_
  (try simp only [Act.put, zsA, zsB, zsC])
  refine hK.out _ _ (hFA) ?_
  clear hHeld hK
  intro hHeld
  (try simp only [Act.put, zsA, zsB, zsC])
  refine tkR (rs := [2]) ?_
  refine tkC (fun K hK => ?_) AllReadyH.nil
  refine step_oneJ rfl _ rfl ⟨b3, 17, none⟩ rfl v hstA.stk frs_load ?_
  (try simp only [Act.put, zsA, zsB, zsC])
  refine hK.out _ _ (hFA) ?_
  clear hHeld hK
  intro hHeld
  (try simp only [Act.put, zsA, zsB, zsC])
  refine tkR (rs := [23]) ?_
  refine tkC (fun K hK => ?_) AllReadyH.nil
  refine step_append rfl _ _ rfl rfl rfl rfl hap ?_
  (try simp only [Act.put, zsA, zsB, zsC])
  refine hK.out _ _ (hF2) ?_
  clear hHeld hK
  intro hHeld
  clear hap
  (try simp only [Act.put, zsA, zsB, zsC])
  refine tkA 24 ?_
  refine tkA 25 ?_
  refine tkR (rs := [26]) ?_
  refine tkC (fun K hK => ?_) AllReadyH.nil
  have hfz := (hst2.blk.1 17 _ (show (stCs c v)[16]? = some v from st_stk h4)).2
  have hst3 := hst2.setStk v2
  have ho3 := ho2.keep (w' := W2.setCell ⟨b3, 17, none⟩ v2) (fun q hq => heap_setCell_other _ ⟨b3, 17, none⟩ q _ (by have := (ho2.lt hq).1; show q ≠ b3; omega))
  rw [← hstep] at ho3
  have hfs : StAt b4 c (.slice (some z1) n c1) (W2.setCell ⟨b3, 17, none⟩ v2) := ⟨h4, blk_setO hs2.blk (by omega) 17 v2⟩
  have hft := blk_setO ht2 (g := b3) (by omega) 17 v2
  have hB3 := hB2.setCell (p := ⟨b3, 17, none⟩) (by show w.heap.size ≤ b3; omega) v2
  have hF3 := hF2.set (g := b3) (by omega) (by omega) 17 v2
  refine step_storeJ rfl _ _ rfl ⟨b3, 17, none⟩ rfl v2 rfl _ hst2.stk hfz hv2 ?_
  (try simp only [Act.put, zsA, zsB, zsC])
  refine hK.out _ _ (hF3) ?_
  clear hHeld hK
  intro hHeld
  (try simp only [Act.put, zsA, zsB, zsC])
  refine wpAnyH_done (by kernel_rfl) ?_ _
  clear hv2
  go_wp2_with fail
  exact ⟨⟨k + 1, v2, by omega, by simp, hfs, hft, hst3, ho3, hB3⟩, by simp [Go.RowKit.intOf]; omega⟩
 ·obtain rfl : k = n := by omega
  have i1 : ¬ (k : Int) < (k : Int) := by omega
  rw [List.take_of_length_le (by rw [hnn.out]; exact Nat.le_refl _)] at ho
  obtain ⟨W3, hW3, hth3, ht3, hk3⟩ := put_any ht (ds := prL (.slice ba nb bc) (stCs c v)) (by show (stCs zeroC nilS).length + 1 = (stCs c v).length + 1; rw [st_len h4]; rfl) (by simp)
  have hB3 := hk3 _ _ (Nat.le_succ _) hB
  have hr := hst.blk.range
  have hr3 := ht3.range
  have hv1 : v.oneCell' = true := by obtain ⟨a2, cap2, rfl, -⟩ := ho.slice frc_len; rfl
  have hone : ∀ x ∈ prL (.slice ba nb bc) (stCs c v), x.oneCell' = true := fun x hx => (List.mem_cons.1 hx).elim (fun q => by rw [q]; rfl) (fun q => st_one c v hv1 x q)
  have hlen : (prL (.slice ba nb bc) (stCs c v)).length = 19 := by show (stCs c v).length + 1 = 19; rw [st_len h4]
  have ho3 : OwnR 101 3 frc W3 w.heap.size v c.st := by
   rw [← hW3]
   exact (ho.setAll (g := w.heap.size + 1) (fun q => by have := (ho.lt q).1; omega) _).lower (by omega)
  obtain ⟨X2, hX⟩ : ∃ X2, prL (.slice ba nb bc) (stCs c v) = X2 := ⟨_, rfl⟩
  rw [hX] at hW3 hth3 hr hr3 hone hlen
  have hfin : Aside (prL (.slice ba nb bc) (stCs c v) = X2) := hX
  have hszX : (Tryz.prog.info? 57).map (·.size) = some X2.length := by rw [hlen]; exact hszQ
  clear hs hst ht ht3 hk3 hB hX hlen ho hv1
  go_wp2_with (first | (refine wpList_load_row rfl _ rfl b3 rfl X2 hr hundQ rfl hszX ?_) | (refine wpList_store_row rfl _ _ rfl (w.heap.size + 1) rfl X2 rfl hth3 hszX hone hW3 ?_) | fail)
  refine bodyPost_ret (v := .agg X2.toArray) (results_row1 rfl _ _ (w.heap.size + 1) rfl X2 hr3 hundQ rfl hszX) rfl ?_
  exact ⟨v, by rw [hfin.out], ho3, hB3⟩
end Go.Proofs.YtidihdiffiffmaaGreatDoor
