/-
  P1303: what a directory says is changed just by who may write it; whether the node is there does not matter: the law's walk. Written by mk_monchanges.py.
-/
import Derived.Deep.Cut
import Derived.Test.YtapgjdmnlkedgabDoorPt2
import Derived.Test.YtapgjdmnlkedgabDoorPt3
namespace Go.Proofs.YtapgjdmnlkedgabDoor
open Go.RowKit
set_option maxRecDepth 8000
set_option linter.unusedSimpArgs false
set_option linter.unusedVariables false

theorem zzM_name : name zzS = true := by decide +kernel
theorem zzM_under {L : List Nod} (hT : Tree L) (hok : ∀ x ∈ L, OkPath x.path) {d : Nod} (hd : d ∈ L) : (∀ x ∈ L, x.path ≠ joinOf d.path zzS) ∧ joinOf d.path zzS ≠ slashS ∧ parentOf (joinOf d.path zzS) = d.path ∧ d.path.size < (joinOf d.path zzS).size ∧ (joinOf d.path zzS).size ≤ 1000 := by
  obtain ⟨ns, hn, e⟩ := hT.names hd
  have hps : (pathB ns).size ≤ 78 := names_size hn
  have hj : joinOf d.path zzS = pathB (ns ++ [zzS]) := by rw [e]; exact join_path zzS (fun q hq => (hn.flat q hq).2)
  have hfl : ∀ q ∈ ns ++ [zzS], Flat q ∧ 1 ≤ q.size := fun q hq => by
    rcases List.mem_append.1 hq with hq | hq
    · exact hn.flat q hq
    · obtain rfl := List.mem_singleton.1 hq
      exact (show Names [zzS] from ⟨by simp, fun n hn => by obtain rfl := List.mem_singleton.1 hn; exact zzM_name⟩).flat zzS (by simp)
  have hpar : parentOf (joinOf d.path zzS) = d.path := by rw [hj, parent_path (hfl zzS (by simp)).1 (hfl zzS (by simp)).2, e]
  have hne : ns ++ [zzS] ≠ [] := by simp
  have hsz : (pathB (ns ++ [zzS])).size = (body ns).length + 3 := by
    rw [← bytes_len, pathB_bytes hne, body_append, List.length_append]
    rfl
  have hb : (body ns).length ≤ (pathB ns).size ∧ (pathB ns).size ≤ (body ns).length + 1 := by
    by_cases hm : ns = []
    · rw [hm, pathB_nil]
      decide
    · rw [← bytes_len, pathB_bytes hm]
      omega
  refine ⟨fun x hx q => ?_, fun q => ?_, hpar, by rw [hj, hsz, e]; omega, by rw [hj, hsz]; omega⟩
  · have := hok x hx
    rw [q, hj] at this
    exact path_not hfl (b := zzS) (by simp) zz_not this
  · have : (pathB (ns ++ [zzS])).size = slashS.size := by rw [← hj, q]
    rw [hsz] at this
    have h1 : slashS.size = 1 := rfl
    omega
/-- The node that is put there. -/
def zzP (p : ByteArray) (t : Lab) : PN := ⟨⟨p, false, t, [], 0, 0, 0, 0, [], ⟨0, 0, 0, 0⟩⟩, none, 0, none, 0⟩
theorem zzP_by : GL ⟨0, 0, 0, 0⟩ := by constructor <;> decide
theorem zzP_rg : OkR ⟨0, 0, 0, 0⟩ := by decide
theorem zzP_acl : chkA [] = 0 := by decide +kernel
theorem zzP_ok {p : ByteArray} {t : Lab} (hc : checkOf p = 0) (ht : GL t) (hs : p ≠ slashS) : nodC (zzP p t).n = 0 :=
  nodC_zero.2 ⟨hc, ht, zzP_by, zzP_acl, (fun q => by cases q), fun _ => ⟨hs, zzP_rg, by simp [zzP]⟩⟩
theorem put_fine {l : List PN} (h : FineL l) (hl : l.length ≤ 19) {x : PN} (hx : nodC x.n = 0) : FineL (putP l x) := by
  refine ⟨?_, by rw [put_names]; exact put_ordered h.ord x.n, fun q hq => ?_⟩
  · have e : (putP l x).length = (namesP (putP l x)).length := by simp [namesP]
    rw [e, put_names]
    unfold putN
    have h1 : (dropN (namesP l) x.n.path).length ≤ (namesP l).length := List.length_filter_le _ _
    have h2 := congrArg List.length (List.takeWhile_append_dropWhile (p := fun y : Nod => lt y.path x.n.path) (l := dropN (namesP l) x.n.path))
    have h3 : (namesP l).length = l.length := by simp [namesP]
    rw [List.length_append] at h2 ⊢
    rw [List.length_cons]
    omega
  · rcases put_sub hq with rfl | hq
    · exact hx
    · exact h.ok q hq
theorem zz_at (W : World) (p : ByteArray) (t : Lab) : (zzP p t).At W := ⟨fun j q hq => by simp [zzP] at hq, fun j q hq => by simp [zzP] at hq⟩
set_option maxRecDepth 20000 in
set_option maxHeartbeats 8000000 in
theorem monitorChanges_walk (ta : Option Addr) (ct : Nat) (ts : List Lab) (ma : Option Addr) (mc : Nat) (ms : List PM) (who pick at_ : Int) (w : World) (hlr : RowAt 4 lrow w ta ts) (hmr : RowM w ma ms) (hV : MaxV w) :
    Calls Tryd.prog 3 #[.slice ta ts.length ct, .slice ma ms.length mc, .int .i64 who, .int .i64 pick, .int .i64 at_] w fun e w' => e = .returned (.bool true) ∧ Below w.heap.size w w' := by
  have hund := Tryd.underlying34
  have hundL := Tryd.underlying28
  have hundM := Tryd.underlying38
  have hszN : (Tryd.prog.info? 34).map (·.size) = some 16 := by kernel_rfl
  have hsl : (Tryd.prog.info? 28).map (·.size) = some 4 := by kernel_rfl
  have hsm : (Tryd.prog.info? 38).map (·.size) = some 5 := by kernel_rfl
  have kg := fun W (q1 : RowAt 4 lrow W ta ts) (q2 : RowM W ma ms) => growB_any ta ct ts ma mc ms W q1 q2
  obtain ⟨nt, hnt⟩ : ∃ nt, ts.length = nt := ⟨_, rfl⟩
  obtain ⟨nm, hnm⟩ : ∃ nm, ms.length = nm := ⟨_, rfl⟩
  rw [hnt, hnm] at kg ⊢
  clear hnt hnm
  go_enter Tryd.func3, Tryd.ntmps3
  go_wp2_with fail
  refine (mknown_any monOk w hV).mono ?_
  rintro e W1 ⟨rfl, hB1⟩
  go_wp2_with fail
  refine (kg W1 (hlr.below lab_ok.len hB1) (hmr.below hB1)).mono ?_
  rintro e W2 ⟨v, l, rfl, ho, hat, hnm, hB2, hA⟩
  obtain ⟨a, c, rfl, hG⟩ := gt_of ho hat hnm hA
  have hB02 := Below.then hB1 hB2
  have hlen := hG.len
  have hpos := hG.pos
  clear kg ho hat hnm hA hB2 hlr hmr
  generalize W1.heap.size = B1 at *
  obtain ⟨n, hn⟩ : ∃ n, l.length = n := ⟨_, rfl⟩
  rw [hn] at hlen hpos ⊢
  replace hn : Aside (l.length = n) := hn
  have hmod : ∀ q : Int, ∃ j : Nat, q % (n : Int) = (j : Int) ∧ j < n := fun q => ⟨(q % (n : Int)).toNat, by have := Int.emod_nonneg q (show (n : Int) ≠ 0 by omega); omega, by have h1 := Int.emod_nonneg q (show (n : Int) ≠ 0 by omega); have h2 := Int.emod_lt_of_pos q (show 0 < (n : Int) by omega); omega⟩
  go_wp2_with fail
  refine (w13_any pick (n : Int) (by omega) (by omega) W2).mono ?_
  rintro e w' ⟨rfl, hw'⟩
  replace hw' := hw'.symm
  subst hw'
  obtain ⟨k, hk, hkn⟩ := hmod pick
  rw [hk]
  clear hk
  obtain ⟨x, hx⟩ : ∃ x, l[k]? = some x := ⟨_, List.getElem?_eq_getElem (by rw [hn.out]; exact hkn)⟩
  have hxm := List.mem_of_getElem? hx
  obtain ⟨y, rfl⟩ := hG.row.some_ hx
  have hcx := hG.row.r.at pn_len hx
  obtain ⟨W3, hW3, hth3, hbn, hB3⟩ := put_new W2 zN 34 x.cs rfl (by rw [pn_len]; omega)
  have hszx : (Tryd.prog.info? 34).map (·.size) = some x.cs.length := by rw [pn_len]; exact hszN
  have hG3 := hG.below hB3
  have hB03 := Below.then hB02 hB3
  clear hx
  go_upto_region 5 with (first | (refine wpList_load_at rfl _ rfl (y.add (k * 16)) rfl x.cs hcx hund rfl hszx ?_) | (refine wpList_store_row rfl _ _ rfl W2.heap.size rfl x.cs rfl hth3 hszx (pn_one x) hW3 ?_) | fail)
  generalize W2.heap.size = bn at *
  clear hcx hth3 hW3 hG hB02 hB3
  have hz1 := (hbn.1 1 _ rfl).1
  cases hdir : x.n.dir
  · rw [hdir] at hz1
    go_wp2_with fail
    go_ret
    exact ⟨rfl, hB03⟩
  rw [hdir] at hz1
  go_wp2_with fail
  refine (who_any who W3).mono ?_
  rintro e W4 ⟨rfl, hB4⟩
  have hG4 := hG3.below hB4
  have hbn4 := stab_blk _ _ _ _ hbn hB4
  have hB04 := Below.then hB03 hB4
  obtain ⟨u, hu⟩ : ∃ u, whoS who = u := ⟨_, rfl⟩
  rw [hu]
  clear hu hbn hG3 hB03 hB4 hz1
  go_wp2_with fail
  refine (w13_any _ (n : Int) (by omega) (by omega) W4).mono ?_
  rintro e w' ⟨rfl, hw'⟩
  replace hw' := hw'.symm
  subst hw'
  obtain ⟨j, hj, hjn⟩ := hmod at_
  rw [hj]
  clear hj hmod
  obtain ⟨z, hz⟩ : ∃ z, l[j]? = some z := ⟨_, List.getElem?_eq_getElem (by rw [hn.out]; exact hjn)⟩
  have hzm := List.mem_of_getElem? hz
  have hcl := cells_lab (hG4.row.r.at pn_len hz)
  have hGt := hG4.lab hzm
  obtain ⟨t, ht⟩ : ∃ t, z.n.label = t := ⟨_, rfl⟩
  rw [ht] at hcl hGt
  have hbs := blkl_alloc W4 (sbL u t).toArray 38
  have hB5 := alloc_below W4 (.cells (sbL u t).toArray 38)
  replace hbs : BlkL W4.heap.size (sbL u t) (W4.alloc (.cells (sbL u t).toArray 38)) := hbs
  obtain ⟨W5, hW5⟩ : ∃ W5, W4.alloc (.cells (sbL u t).toArray 38) = W5 := ⟨_, rfl⟩
  rw [hW5] at hbs hB5
  have hG5 := hG4.below hB5
  have hbn5 := stab_blk _ _ _ _ hbn4 hB5
  have hB05 := Below.then hB04 hB5
  clear ht hz hzm hG4 hbn4 hB04 hB5
  go_upto_region 8 with (first | (refine wpList_load_at rfl _ rfl ⟨(y.add (j * 16)).block, (y.add (j * 16)).off + 2, none⟩ rfl (labM t) hcl hundL rfl hsl ?_) | fail)
  (try rw [hW5])
  generalize W4.heap.size = bs at *
  clear hW5 hcl
  have hG := hG5
  have hbn := hbn5
  have hB := hB05
  clear hG5 hbn5 hB05
  have hps := hG.path hxm
  have hfx := find_mem hG.tree.ord (hG.mem hxm)
  have hF := hG.fine
  have hT := hG.tree
  have hGx := hG.lab hxm
  have hokp : ∀ q ∈ namesP l, OkPath q.path := by rw [hG.names]; exact grow_paths ts (ms.map (·.m))
  obtain ⟨hz1, hz2, hz3, hz4, hz5⟩ := zzM_under hT hokp (hG.mem hxm)
  have kmay := fun W (q : GT B1 W (some y) c l ts (ms.map (·.m))) (q2 : MaxV W) => mmay_any (some y) c l u t x.n.path 2 hF hGt (by omega) W q.row q2
  have kroot := fun W (q : GT B1 W (some y) c l ts (ms.map (·.m))) (q2 : MaxV W) => mchg_any (some y) c l u t slashS hF hGt (by decide) W q.row q2
  have hchg := fun (hc : checkOf (joinOf x.n.path zzS) = 0) => chg_join (u := u) (t := t) hfx hdir hc hz2 hz3
  have hput := fun (hc : checkOf (joinOf x.n.path zzS) = 0) => may_put hT (n := (zzP (joinOf x.n.path zzS) x.n.label).n) (hG.mem hxm) hz1 hz4 u t 2
  rw [hn.out] at kmay kroot
  rw [chg_root] at kroot
  have kj := rjoin_any x.n.path zzS (by omega) (by decide)
  obtain ⟨jp, hjp⟩ : ∃ jp, joinOf x.n.path zzS = jp := ⟨_, rfl⟩
  rw [hjp] at hz1 hz2 hz3 hz4 hz5 hchg hput kj
  have kc1 := fun W (q : GT B1 W (some y) c l ts (ms.map (·.m))) (q2 : MaxV W) => mchg_any (some y) c l u t jp hF hGt hz5 W q.row q2
  rw [hn.out, hz3] at kc1
  have kchk := rpcheck_any jp (by omega)
  obtain ⟨E, hE⟩ : ∃ E, mayE (namesP l) u t x.n.path 2 = E := ⟨_, rfl⟩
  rw [hE] at kmay hchg hput
  have htold : E = 0 → toldN (namesP l) x.n.path E = x.n := fun q => by unfold toldN; rw [if_pos q, hfx]; rfl
  have hfew := told_few hF x.n.path E
  have hp0 : x.cs[0]? = some (.string x.n.path) := rfl
  obtain ⟨p, hp⟩ : ∃ p, x.n.path = p := ⟨_, rfl⟩
  rw [hp] at kmay kj hp0
  replace hp : Aside (x.n.path = p) := hp
  clear hjp hE
  have hz0 := (hbn.1 0 _ hp0).1
  have hrs := hbs.range
  go_wp2_with (first | (refine wpList_load_row rfl _ rfl bs rfl (sbL u t) hrs hundM rfl hsm ?_) | fail)
  refine (kmay _ hG (hV.below hB)).mono ?_
  rintro e V1 ⟨f1, rfl, hnf1, haf1, hb1, -⟩
  obtain ⟨U1, hU1, hth1, hbf1, hc1⟩ := put_new V1 zN 34 f1.cs (by rw [pn_len]; rfl) (by rw [pn_len]; omega)
  have hd1 := Below.then hb1 hc1
  replace hG := hG.below hd1
  replace hbs := stab_blk _ _ _ _ hbs hd1
  replace hbn := stab_blk _ _ _ _ hbn hd1
  replace hB := Below.then hB hd1
  replace haf1 := haf1.below hc1
  clear hz0
  clear hrs hb1 hc1 hd1
  go_upto_region 9 with (first | (refine wpList_store_row rfl _ _ rfl V1.heap.size rfl f1.cs rfl hth1 (by rw [pn_len]; exact hszN) (pn_one f1) hU1 ?_) | fail)
  generalize V1.heap.size = c1 at *
  clear hth1 hU1
  clear hnf1 haf1 hbf1 kmay
  have hz0 := (hbn.1 0 _ hp0).1
  go_wp2_with fail
  refine (kj U1).mono ?_
  rintro e w' ⟨rfl, hw'⟩
  replace hw' := hw'.symm
  subst hw'
  clear kj
  go_wp2_with fail
  refine (kchk _).mono ?_
  rintro e V2 ⟨rfl, hb2⟩
  by_cases hck : checkOf jp = 0
  rotate_left
  · have hfin := Below.then hB hb2
    generalize checkOf jp = ce at *
    go_wp2_with fail
    go_ret
    exact ⟨rfl, hfin⟩
  have hch := hchg hck
  have hpu := hput hck
  replace hG := hG.below hb2
  replace hbs := stab_blk _ _ _ _ hbs hb2
  replace hbn := stab_blk _ _ _ _ hbn hb2
  replace hB := Below.then hB hb2
  rw [hch] at kc1
  have hzok := zzP_ok (t := x.n.label) hck hGx hz2
  have hFP := put_fine hF (by rw [hn.out]; exact hlen) hzok
  have hpn := put_names l (zzP jp x.n.label)
  have kc2 := fun a2 c2 W (r : RowN W a2 (putP l (zzP jp x.n.label))) (q2 : MaxV W) => mchg_any a2 c2 (putP l (zzP jp x.n.label)) u t jp hFP hGt hz5 W r q2
  have hch2 : chgE (putN (namesP l) (zzP jp x.n.label).n) u t jp = E := by
    have h1 := hpu.2.trans hfx
    rw [chg_join h1 hdir hck hz2 hz3]
    exact hpu.1
  have htl2 : toldN (putN (namesP l) (zzP jp x.n.label).n) x.n.path E = toldN (namesP l) x.n.path E := by
    unfold toldN
    rw [hpu.2]
  rw [hpn, hch2, hz3, htl2] at kc2
  have kp0 := fun W (q : GT B1 W (some y) c l ts (ms.map (·.m))) => rputT_any (some y) c l (zzP jp x.n.label) (by rw [hn.out]; omega) W q.row
  rw [hn.out] at kp0
  obtain ⟨P, hP⟩ : ∃ P, putP l (zzP jp x.n.label) = P := ⟨_, rfl⟩
  have hPs : ∀ q ∈ P, q = zzP jp x.n.label ∨ q ∈ l := fun q hq => put_sub (by rw [hP]; exact hq)
  rw [hP] at kc2 kp0
  obtain ⟨n2, hn2⟩ : ∃ n2, P.length = n2 := ⟨_, rfl⟩
  rw [hn2] at kc2
  obtain ⟨TT, hTT⟩ : ∃ TT, toldN (namesP l) x.n.path E = TT := ⟨_, rfl⟩
  rw [hTT] at kc1 kc2 htold hfew
  clear hch hpu hch2 htl2 hpn hFP hzok hchg hput hP hTT hb2 kchk hz0 hfx hokp
  go_upto_region 12 with fail
  replace hck : Aside _ := hck
  have hrs := hbs.range
  go_wp2_with (first | (refine wpList_load_row rfl _ rfl bs rfl (sbL u t) hrs hundM rfl hsm ?_) | fail)
  refine (kc1 _ hG (hV.below hB)).mono ?_
  rintro e V3 ⟨f2, rfl, hnf2, haf2, hb1, -⟩
  obtain ⟨U3, hU1, hth1, hbf2, hc1⟩ := put_new V3 zN 34 f2.cs (by rw [pn_len]; rfl) (by rw [pn_len]; omega)
  have hd1 := Below.then hb1 hc1
  replace hG := hG.below hd1
  replace hbs := stab_blk _ _ _ _ hbs hd1
  replace hbn := stab_blk _ _ _ _ hbn hd1
  replace hB := Below.then hB hd1
  replace haf2 := haf2.below hc1
  clear hrs hb1 hc1 hd1
  go_upto_region 13 with (first | (refine wpList_store_row rfl _ _ rfl V3.heap.size rfl f2.cs rfl hth1 (by rw [pn_len]; exact hszN) (pn_one f2) hU1 ?_) | fail)
  generalize V3.heap.size = c2 at *
  clear hth1 hU1
  obtain ⟨Z, hZ⟩ : ∃ Z, Z = U3 := ⟨_, rfl⟩
  subst hZ
  have kput : ∀ W, Below Z.heap.size Z W → Calls Tryd.prog 13 #[.slice (some y) n c, .agg (zzP jp x.n.label).cs.toArray] W fun e w' => ∃ a2 c2, e = .returned (.slice a2 n2 c2) ∧ RowN w' a2 P ∧ Below W.heap.size W w' := fun W q => by
    refine (kp0 W (hG.below q)).mono ?_
    rintro e w' ⟨v, rfl, ho, hb⟩
    obtain ⟨a2, c2, rfl, -, -, hr⟩ := OwnR.slice pn_len ho
    rw [hn2]
    refine ⟨a2, c2, rfl, ⟨hr, fun q2 hq2 => ?_⟩, hb⟩
    rcases hPs q2 hq2 with rfl | hm
    · exact zz_at _ _ _
    · exact ((hG.below q).row.p q2 hm).below hb
  replace kc2 := fun a2 c2 W (r : RowN W a2 P) (q : Below Z.heap.size Z W) => kc2 a2 c2 W r (hV.below (Below.then hB q))
  replace hn2 : Aside (P.length = n2) := hn2
  clear kp0 kc1
  go_cut [19, 20] from 70 (fun s19 s20 wc => s20 = .int .i64 E ∧ ∃ (f : PN) (bm : Nat), s19 = .pointer (some ⟨bm, 0, none⟩) ∧ BlkL bm f.cs wc ∧ f.n = TT ∧ f.At wc ∧ Below Z.heap.size Z wc)
  case first =>
    have hS0 : Below Z.heap.size Z Z.drew := (Below.refl _ _).drew
    refine wp_region_held_drew (S := (fun W => Below Z.heap.size Z W)) (by kernel_rfl) (by exact hS0) ?_
    intro hHeld
    generalize Z.drew = w0 at *
    refine wpAnyH_take (i := 0) (v := ?_) (by simp only [gA, gB, gC]; rfl) (by kernel_rfl) (by kernel_rfl) (by kernel_rfl) (by exact fun _ _ _ h => h) (Or.inl ⟨by rfl, ?_⟩) (by assumption) ?_; rotate_left; (focus (intro w hSw; (try dsimp only at hSw); go_simp; try with_reducible rfl)); (try simp only [Act.put, sA, sB, sC])
    refine wpAnyH_take (i := 1) (v := ?_) (by simp only [gA, gB, gC]; rfl) (by kernel_rfl) (by kernel_rfl) (by kernel_rfl) (by exact fun _ _ _ h => h) (Or.inl ⟨by rfl, ?_⟩) (by assumption) ?_; rotate_left; (focus (intro w hSw; (try dsimp only at hSw); go_simp; try with_reducible rfl)); (try simp only [Act.put, sA, sB, sC])
    refine wpAnyH_take (i := 2) (v := ?_) (by simp only [gA, gB, gC]; rfl) (by kernel_rfl) (by kernel_rfl) (by kernel_rfl) (by exact fun _ _ _ h => h) (Or.inl ⟨by rfl, ?_⟩) (by assumption) ?_; rotate_left; (focus (intro w hSw; (try dsimp only at hSw); go_simp; try with_reducible rfl)); (try simp only [Act.put, sA, sB, sC])
    refine wpAnyH_take (i := 3) (v := _) (by simp only [gA, gB, gC]; rfl) (by kernel_rfl) (by kernel_rfl) (by kernel_rfl) (by exact fun _ _ _ h => h) (yields_at (by rfl) _ rfl ⟨bn, 2, none⟩ rfl (labM x.n.label) (fun _ q => nd_lab (stab_blk _ _ _ _ hbn q)) hundL rfl hsl) (by assumption) ?_; (try simp only [Act.put, sA, sB, sC])
    refine wpAnyH_take (i := 4) (v := ?_) (by simp only [gA, gB, gC]; rfl) (by kernel_rfl) (by kernel_rfl) (by kernel_rfl) (by exact fun _ _ _ h => h) (Or.inl ⟨by rfl, ?_⟩) (by assumption) ?_; rotate_left; (focus (intro w hSw; (try dsimp only at hSw); go_simp; try with_reducible rfl)); (try simp only [Act.put, sA, sB, sC])
    refine wpAnyH_take (i := 6) (v := _) (by simp only [gA, gB, gC]; rfl) (by kernel_rfl) (by kernel_rfl) (by kernel_rfl) (by exact fun _ _ _ h => h) (yields_row (by rfl) _ rfl bs rfl (sbL u t) (fun _ q => (stab_blk _ _ _ _ hbs q).range) hundM rfl hsm) (by assumption) ?_; (try simp only [Act.put, sA, sB, sC])
    refine wpAnyH_take (i := 7) (v := ?_) (by simp only [gA, gB, gC]; rfl) (by kernel_rfl) (by kernel_rfl) (by kernel_rfl) (by exact fun _ _ _ h => h) (Or.inl ⟨by rfl, ?_⟩) (by assumption) ?_; rotate_left; (focus (intro w hSw; (try dsimp only at hSw); go_simp; try with_reducible rfl)); (try simp only [Act.put, sA, sB, sC])
    refine wpAnyH_ready (rs := [5, 12]) (by kernel_rfl) (by simp) ?_
    refine AllReadyH.cons (by simp only [gA, gB, gC]; rfl) (fun K hK => ?_) ?_
    · go_simp
      go_at_call 13
      refine (kput w0 hS0).mono ?_
      rintro e w1 ⟨a2, c2, rfl, hr1, hb⟩
      have hS1 := Below.then hS0 hb
      refine hK.out _ _ (hS1) ?_
      clear hHeld hK
      intro hHeld
      clear hb
      (try simp only [Act.put, sA, sB, sC])
      refine wpAnyH_ready (rs := [8, 12]) (by kernel_rfl) (by simp) ?_
      refine AllReadyH.cons (by simp only [gA, gB, gC]; rfl) (fun K hK => ?_) ?_
      · go_simp
        go_at_call 12
        refine (kc2 a2 c2 w1 hr1 hS1).mono ?_
        rintro e w2 ⟨f, rfl, hfn, hfa2, hb, hfo⟩
        have hr2 := hr1.below (hb)
        have hS2 := Below.then hS1 hb
        refine hK.out _ _ (hS2) ?_
        clear hHeld hK
        intro hHeld
        clear hb
        (try simp only [Act.put, sA, sB, sC])
        refine wpAnyH_take (i := 9) (v := ?_) (by simp only [gA, gB, gC]; rfl) (by kernel_rfl) (by kernel_rfl) (by kernel_rfl) (by exact fun _ _ _ h => h) (Or.inl ⟨by rfl, ?_⟩) (by assumption) ?_; rotate_left; (focus (intro w hSw; (try dsimp only at hSw); go_simp; try with_reducible rfl)); (try simp only [Act.put, sA, sB, sC])
        refine wpAnyH_take (i := 10) (v := ?_) (by simp only [gA, gB, gC]; rfl) (by kernel_rfl) (by kernel_rfl) (by kernel_rfl) (by exact fun _ _ _ h => h) (Or.inl ⟨by rfl, ?_⟩) (by assumption) ?_; rotate_left; (focus (intro w hSw; (try dsimp only at hSw); go_simp; try with_reducible rfl)); (try simp only [Act.put, sA, sB, sC])
        refine wpAnyH_take (i := 11) (v := ?_) (by simp only [gA, gB, gC]; rfl) (by kernel_rfl) (by kernel_rfl) (by kernel_rfl) (by exact fun _ _ _ h => h) (Or.inl ⟨by rfl, ?_⟩) (by assumption) ?_; rotate_left; (focus (intro w hSw; (try dsimp only at hSw); go_simp; try with_reducible rfl)); (try simp only [Act.put, sA, sB, sC])
        refine wpAnyH_ready (rs := [12]) (by kernel_rfl) (by simp) ?_
        refine AllReadyH.cons (by simp only [gA, gB, gC]; rfl) (fun K hK => ?_) AllReadyH.nil
        go_simp
        refine hK.out _ _ (Below.then hS2 (alloc_below _ _)) ?_
        clear hHeld hK
        intro hHeld
        have hr3 := hr2.below (alloc_below w2 (.cells zN 34))
        have hn3 := blkl_alloc w2 zN 34
        have hbnZ : Z.heap.size ≤ w2.heap.size := hS2.size
        have hS3 := Below.then hS2 (alloc_below w2 (.cells zN 34))
        have hfa3 := hfa2.below (alloc_below w2 (.cells zN 34))
        have hoff := hfo.off (g := w2.heap.size) (.inr (Nat.le_refl _))
        clear hfo
        generalize hwx : w2.alloc (.cells zN 34) = w3 at *
        clear hwx
        generalize w2.heap.size = bm at *
        (try simp only [Act.put, sA, sB, sC])
        refine wpAnyH_ready (rs := [13]) (by kernel_rfl) (by simp) ?_
        refine AllReadyH.cons (by simp only [gA, gB, gC]; rfl) (fun K hK => ?_) AllReadyH.nil
        obtain ⟨w4, hwz, hthz, hn4, hS4⟩ := put_mid hn3 0 f.cs (by rw [pn_len]; decide) (by decide) hS3 hbnZ
        replace hn4 : BlkL bm f.cs w4 := hn4
        have hfa4 : f.At w4 := by rw [← hwz]; exact hfa3.off hoff 0 f.cs
        refine step_store_part rfl _ _ rfl bm 0 rfl f.cs rfl hthz (by rw [pn_len]; exact hszN) (pn_one f) hwz ?_
        (try simp only [Act.put, sA, sB, sC])
        refine hK.out _ _ (hS4) ?_
        clear hHeld hK
        intro hHeld
        (try simp only [Act.put, sA, sB, sC])
        refine wpAnyH_take (i := 14) (v := ?_) (by simp only [gA, gB, gC]; rfl) (by kernel_rfl) (by kernel_rfl) (by kernel_rfl) (by exact fun _ _ _ h => h) (Or.inl ⟨by rfl, ?_⟩) (by assumption) ?_; rotate_left; (focus (intro w hSw; (try dsimp only at hSw); go_simp; try with_reducible rfl)); (try simp only [Act.put, sA, sB, sC])
        refine wpAnyH_done (by kernel_rfl) ?_ _
        go_wp2_with fail
        go_meet
        exact ⟨rfl, f, bm, rfl, hn4, hfn, hfa4, hS4⟩
      refine AllReadyH.cons (by simp only [gA, gB, gC]; rfl) (fun K hK => ?_) AllReadyH.nil
      go_simp
      refine hK.out _ _ (Below.then hS1 (alloc_below _ _)) ?_
      clear hHeld hK
      intro hHeld
      have hr2 := hr1.below (alloc_below w1 (.cells zN 34))
      have hn2 := blkl_alloc w1 zN 34
      have hbnZ : Z.heap.size ≤ w1.heap.size := hS1.size
      have hS2 := Below.then hS1 (alloc_below w1 (.cells zN 34))
      generalize hwx : w1.alloc (.cells zN 34) = w2 at *
      clear hwx
      generalize w1.heap.size = bm at *
      (try simp only [Act.put, sA, sB, sC])
      refine wpAnyH_ready (rs := [8]) (by kernel_rfl) (by simp) ?_
      refine AllReadyH.cons (by simp only [gA, gB, gC]; rfl) (fun K hK => ?_) AllReadyH.nil
      go_simp
      go_at_call 12
      refine (kc2 a2 c2 w2 hr2 hS2).mono ?_
      rintro e w3 ⟨f, rfl, hfn, hfa3, hb, hfo⟩
      have hoff := hfo.off (g := bm) (.inl hn2.2)
      clear hfo
      have hr3 := hr2.below (hb)
      have hS3 := Below.then hS2 hb
      have hn3 := stab_blk _ _ _ _ hn2 hb
      refine hK.out _ _ (hS3) ?_
      clear hHeld hK
      intro hHeld
      clear hb
      (try simp only [Act.put, sA, sB, sC])
      refine wpAnyH_take (i := 9) (v := ?_) (by simp only [gA, gB, gC]; rfl) (by kernel_rfl) (by kernel_rfl) (by kernel_rfl) (by exact fun _ _ _ h => h) (Or.inl ⟨by rfl, ?_⟩) (by assumption) ?_; rotate_left; (focus (intro w hSw; (try dsimp only at hSw); go_simp; try with_reducible rfl)); (try simp only [Act.put, sA, sB, sC])
      refine wpAnyH_take (i := 10) (v := ?_) (by simp only [gA, gB, gC]; rfl) (by kernel_rfl) (by kernel_rfl) (by kernel_rfl) (by exact fun _ _ _ h => h) (Or.inl ⟨by rfl, ?_⟩) (by assumption) ?_; rotate_left; (focus (intro w hSw; (try dsimp only at hSw); go_simp; try with_reducible rfl)); (try simp only [Act.put, sA, sB, sC])
      refine wpAnyH_take (i := 11) (v := ?_) (by simp only [gA, gB, gC]; rfl) (by kernel_rfl) (by kernel_rfl) (by kernel_rfl) (by exact fun _ _ _ h => h) (Or.inl ⟨by rfl, ?_⟩) (by assumption) ?_; rotate_left; (focus (intro w hSw; (try dsimp only at hSw); go_simp; try with_reducible rfl)); (try simp only [Act.put, sA, sB, sC])
      refine wpAnyH_ready (rs := [13]) (by kernel_rfl) (by simp) ?_
      refine AllReadyH.cons (by simp only [gA, gB, gC]; rfl) (fun K hK => ?_) AllReadyH.nil
      obtain ⟨w4, hwz, hthz, hn4, hS4⟩ := put_mid hn3 0 f.cs (by rw [pn_len]; decide) (by decide) hS3 hbnZ
      replace hn4 : BlkL bm f.cs w4 := hn4
      have hfa4 : f.At w4 := by rw [← hwz]; exact hfa3.off hoff 0 f.cs
      refine step_store_part rfl _ _ rfl bm 0 rfl f.cs rfl hthz (by rw [pn_len]; exact hszN) (pn_one f) hwz ?_
      (try simp only [Act.put, sA, sB, sC])
      refine hK.out _ _ (hS4) ?_
      clear hHeld hK
      intro hHeld
      (try simp only [Act.put, sA, sB, sC])
      refine wpAnyH_take (i := 14) (v := ?_) (by simp only [gA, gB, gC]; rfl) (by kernel_rfl) (by kernel_rfl) (by kernel_rfl) (by exact fun _ _ _ h => h) (Or.inl ⟨by rfl, ?_⟩) (by assumption) ?_; rotate_left; (focus (intro w hSw; (try dsimp only at hSw); go_simp; try with_reducible rfl)); (try simp only [Act.put, sA, sB, sC])
      refine wpAnyH_done (by kernel_rfl) ?_ _
      go_wp2_with fail
      go_meet
      exact ⟨rfl, f, bm, rfl, hn4, hfn, hfa4, hS4⟩
    refine AllReadyH.cons (by simp only [gA, gB, gC]; rfl) (fun K hK => ?_) AllReadyH.nil
    go_simp
    refine hK.out _ _ (Below.then hS0 (alloc_below _ _)) ?_
    clear hHeld hK
    intro hHeld
    have hn1 := blkl_alloc w0 zN 34
    have hbnZ : Z.heap.size ≤ w0.heap.size := hS0.size
    have hS1 := Below.then hS0 (alloc_below w0 (.cells zN 34))
    generalize hwx : w0.alloc (.cells zN 34) = w1 at *
    clear hwx
    generalize w0.heap.size = bm at *
    (try simp only [Act.put, sA, sB, sC])
    refine wpAnyH_ready (rs := [5]) (by kernel_rfl) (by simp) ?_
    refine AllReadyH.cons (by simp only [gA, gB, gC]; rfl) (fun K hK => ?_) AllReadyH.nil
    go_simp
    go_at_call 13
    refine (kput w1 hS1).mono ?_
    rintro e w2 ⟨a2, c2, rfl, hr2, hb⟩
    have hS2 := Below.then hS1 hb
    have hn2 := stab_blk _ _ _ _ hn1 hb
    refine hK.out _ _ (hS2) ?_
    clear hHeld hK
    intro hHeld
    clear hb
    (try simp only [Act.put, sA, sB, sC])
    refine wpAnyH_ready (rs := [8]) (by kernel_rfl) (by simp) ?_
    refine AllReadyH.cons (by simp only [gA, gB, gC]; rfl) (fun K hK => ?_) AllReadyH.nil
    go_simp
    go_at_call 12
    refine (kc2 a2 c2 w2 hr2 hS2).mono ?_
    rintro e w3 ⟨f, rfl, hfn, hfa3, hb, hfo⟩
    have hoff := hfo.off (g := bm) (.inl hn2.2)
    clear hfo
    have hr3 := hr2.below (hb)
    have hS3 := Below.then hS2 hb
    have hn3 := stab_blk _ _ _ _ hn2 hb
    refine hK.out _ _ (hS3) ?_
    clear hHeld hK
    intro hHeld
    clear hb
    (try simp only [Act.put, sA, sB, sC])
    refine wpAnyH_take (i := 9) (v := ?_) (by simp only [gA, gB, gC]; rfl) (by kernel_rfl) (by kernel_rfl) (by kernel_rfl) (by exact fun _ _ _ h => h) (Or.inl ⟨by rfl, ?_⟩) (by assumption) ?_; rotate_left; (focus (intro w hSw; (try dsimp only at hSw); go_simp; try with_reducible rfl)); (try simp only [Act.put, sA, sB, sC])
    refine wpAnyH_take (i := 10) (v := ?_) (by simp only [gA, gB, gC]; rfl) (by kernel_rfl) (by kernel_rfl) (by kernel_rfl) (by exact fun _ _ _ h => h) (Or.inl ⟨by rfl, ?_⟩) (by assumption) ?_; rotate_left; (focus (intro w hSw; (try dsimp only at hSw); go_simp; try with_reducible rfl)); (try simp only [Act.put, sA, sB, sC])
    refine wpAnyH_take (i := 11) (v := ?_) (by simp only [gA, gB, gC]; rfl) (by kernel_rfl) (by kernel_rfl) (by kernel_rfl) (by exact fun _ _ _ h => h) (Or.inl ⟨by rfl, ?_⟩) (by assumption) ?_; rotate_left; (focus (intro w hSw; (try dsimp only at hSw); go_simp; try with_reducible rfl)); (try simp only [Act.put, sA, sB, sC])
    refine wpAnyH_ready (rs := [13]) (by kernel_rfl) (by simp) ?_
    refine AllReadyH.cons (by simp only [gA, gB, gC]; rfl) (fun K hK => ?_) AllReadyH.nil
    obtain ⟨w4, hwz, hthz, hn4, hS4⟩ := put_mid hn3 0 f.cs (by rw [pn_len]; decide) (by decide) hS3 hbnZ
    replace hn4 : BlkL bm f.cs w4 := hn4
    have hfa4 : f.At w4 := by rw [← hwz]; exact hfa3.off hoff 0 f.cs
    refine step_store_part rfl _ _ rfl bm 0 rfl f.cs rfl hthz (by rw [pn_len]; exact hszN) (pn_one f) hwz ?_
    (try simp only [Act.put, sA, sB, sC])
    refine hK.out _ _ (hS4) ?_
    clear hHeld hK
    intro hHeld
    (try simp only [Act.put, sA, sB, sC])
    refine wpAnyH_take (i := 14) (v := ?_) (by simp only [gA, gB, gC]; rfl) (by kernel_rfl) (by kernel_rfl) (by kernel_rfl) (by exact fun _ _ _ h => h) (Or.inl ⟨by rfl, ?_⟩) (by assumption) ?_; rotate_left; (focus (intro w hSw; (try dsimp only at hSw); go_simp; try with_reducible rfl)); (try simp only [Act.put, sA, sB, sC])
    refine wpAnyH_done (by kernel_rfl) ?_ _
    go_wp2_with fail
    go_meet
    exact ⟨rfl, f, bm, rfl, hn4, hfn, hfa4, hS4⟩
  case rest =>
  obtain ⟨rfl, f3, c3, rfl, hbf3, hnf3, haf3, hd⟩ := hcut
  obtain ⟨Y, hY⟩ : ∃ Y, Y = wc := ⟨_, rfl⟩
  subst hY
  replace hG := hG.below hd
  replace hbs := stab_blk _ _ _ _ hbs hd
  replace hbn := stab_blk _ _ _ _ hbn hd
  replace hB := Below.then hB hd
  replace hbf2 := stab_blk _ _ _ _ hbf2 hd
  replace haf2 := haf2.below hd
  clear kput kc2 hPs hd
  replace kroot : ∀ W, GT B1 W (some y) c l ts (ms.map (·.m)) → MaxV W → Calls Tryd.prog 12 #[.slice (some y) n c, .agg (sbL u t).toArray, .string ⟨#[47]⟩] W _ := kroot
  go_upto_region 14 with fail
  have hrs := hbs.range
  go_wp2_with (first | (refine wpList_load_row rfl _ rfl bs rfl (sbL u t) hrs hundM rfl hsm ?_) | fail)
  refine (kroot _ hG (hV.below hB)).mono ?_
  rintro e V5 ⟨f4, rfl, hnf4, haf4, hb1, -⟩
  obtain ⟨U5, hU1, hth1, hbf4, hc1⟩ := put_new V5 zN 34 f4.cs (by rw [pn_len]; rfl) (by rw [pn_len]; omega)
  have hd1 := Below.then hb1 hc1
  replace hG := hG.below hd1
  replace hbs := stab_blk _ _ _ _ hbs hd1
  replace hbn := stab_blk _ _ _ _ hbn hd1
  replace hB := Below.then hB hd1
  replace haf4 := haf4.below hc1
  replace hbf2 := stab_blk _ _ _ _ hbf2 hd1
  replace haf2 := haf2.below hd1
  replace hbf3 := stab_blk _ _ _ _ hbf3 hd1
  replace haf3 := haf3.below hd1
  clear hrs hb1 hc1 hd1
  go_upto_region 15 with (first | (refine wpList_store_row rfl _ _ rfl V5.heap.size rfl f4.cs rfl hth1 (by rw [pn_len]; exact hszN) (pn_one f4) hU1 ?_) | fail)
  generalize V5.heap.size = c4 at *
  clear hth1 hU1
  clear kroot hbs hG
  have hz0 := (hbn.1 0 _ hp0).1
  have hs1 := rsame_any f2.n f3.n f2.aa f2.ca f2.wa f2.cw f3.aa f3.ca f3.wa f3.cw (by rw [hnf2]; exact hfew.1) (by rw [hnf2]; exact hfew.2) U5 haf2.g haf3.g haf2.w haf3.w
  rw [show nodEq f2.n f3.n = true from nodEq_iff.2 (hnf2.trans hnf3.symm)] at hs1
  replace hs1 : Calls Tryd.prog 14 #[.agg f2.cs.toArray, .agg f3.cs.toArray] U5 _ := hs1
  have hri := hbf2.range
  have hrj := hbf3.range
  have hzi : (Tryd.prog.info? 34).map (·.size) = some f2.cs.length := by rw [pn_len]; exact hszN
  have hzj : (Tryd.prog.info? 34).map (·.size) = some f3.cs.length := by rw [pn_len]; exact hszN
  go_wp2_with (first | (refine wpList_load_rowg (by rfl) _ rfl c2 rfl f2.cs hri hund rfl hzi ?_) | (refine wpList_load_rowg (by rfl) _ rfl c3 rfl f3.cs hrj hund rfl hzj ?_) | fail)
  refine hs1.mono ?_
  rintro e Y6 ⟨rfl, hSb⟩
  replace hz0 : Y6.cell? ⟨bn, 0, none⟩ = some (.string p) := (hSb.cell (World.block_lt_of_cell? _ _ hz0)).trans hz0
  have hfin := Below.then hB hSb
  have hbf := stab_blk _ _ _ _ hbf2 hSb
  clear hri hrj hzi hzj hs1 hbf2 hbf3 haf2 haf3 hbn
  by_cases hs0 : E = 0
  · subst hs0
    have hf0 : Y6.cell? ⟨c2, 0, none⟩ = some (.string p) := by
      have := (hbf.1 0 _ rfl).1
      rw [hnf2, htold rfl, hp.out] at this
      exact this
    clear hbf htold hnf2 hnf3
    go_wp2_with fail
    go_ret
    exact ⟨rfl, hfin⟩
  · clear hbf htold hnf2 hnf3
    go_wp2_with fail
    go_ret
    exact ⟨rfl, hfin⟩
end Go.Proofs.YtapgjdmnlkedgabDoor
