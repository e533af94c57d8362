/-
  P1301 to P1303: in any tree, of any path, a subject is told what the document says: the law's walk. Written by mk_monasks.py.
-/
import Derived.Deep.Cut
import Derived.Test.YtapgjdmnlkedgaaDoorPt3
import Derived.Test.YtapgjdmnlkedgaaDoorPt4
namespace Go.Proofs.YtapgjdmnlkedgaaDoor
open Go.RowKit
set_option maxRecDepth 8000
set_option linter.unusedSimpArgs false
set_option linter.unusedVariables false

theorem strA_load (w : World) (y : Addr) (v : Value) (h : w.cell? y = some v) : (Instr.loadAt 9 (.pointer (some y))).run Tryd.prog w = .ok v w := by
  have h1 := Tryd.underlying9
  go_simp
/-- A label's box of one's own turned. -/
theorem turn_lab {b : Nat} {W : World} {s : Lab} (t : Lab) (hb : BlkL b (lab4 s) W) : ∃ W', W.setCells b 0 (lab4 t) = W' ∧ W.there b 0 (lab4 t).length ∧ BlkL b (lab4 t) W' ∧ (∀ k, k ≠ b → W'.heap[k]? = W.heap[k]?) ∧ ∀ B W0, B ≤ b → Below B W0 W → Below B W0 W' := by
  have h1 : Blk (W.setCells b 0 (lab4 t)) b (lab4 t) := hb.1.setAll rfl
  exact ⟨_, rfl, hb.1.there, ⟨h1, h1.lt rfl⟩, fun k hk => heap_setCells_other hk _ _ _, fun B W0 hB h => Below.cells hB _ 0 h⟩
theorem joinx_size (p : ByteArray) : (joinOf p ⟨#[120]⟩).size ≤ p.size + 2 := by
  unfold joinOf
  split
  · rw [ByteArray.size_append]
    show p.size + 1 ≤ _
    omega
  · rw [ByteArray.size_append, ByteArray.size_append]
    show p.size + 1 + 1 ≤ _
    omega
set_option maxRecDepth 20000 in
set_option maxHeartbeats 8000000 in
theorem monitorAsks_walk (K : MonOk3) (ta : Option Addr) (ct : Nat) (ts : List Lab) (ma : Option Addr) (mc : Nat) (ms : List PM) (who : Int) (at_ : Lab) (raw : ByteArray) (ia : Option Addr) (ic : Nat) (is : List Int) (his : ∀ q ∈ is, -9223372036854775808 ≤ q ∧ q ≤ 9223372036854775807) (mode pick : Int) (hpk : -9223372036854775808 ≤ pick ∧ pick ≤ 9223372036854775807) (w : World) (hlr : RowAt 4 lrow w ta ts) (hmr : RowM w ma ms) (hir : RowAt 1 icell w ia is) (hV : MaxV w) :
    Calls Tryd.prog 3 #[.slice ta ts.length ct, .slice ma ms.length mc, .int .i64 who, at_.v, .string raw, .slice ia is.length ic, .int .i64 mode, .int .i64 pick] w fun e w' => e = .returned (.bool true) ∧ Below w.heap.size w w' := by
  have hundL := Tryd.underlying25
  have hsl : (Tryd.prog.info? 25).map (·.size) = some 4 := by kernel_rfl
  have kg := fun W (q1 : RowAt 4 lrow W ta ts) (q2 : RowM W ma ms) => growB_any ta ct ts ma mc ms W q1 q2
  have kof := fun W (q : RowAt 1 icell W ia is) => of_any ia is is.length ic W rfl (fun j hj => by
    obtain ⟨y, hy, hc⟩ := q j is[j] (List.getElem?_eq_getElem hj)
    refine ⟨y, hy, ?_⟩
    have := hc 0 (by decide)
    rw [show j * 1 + 0 = j by omega] at this
    rw [this]
    simp [icell, List.getD_eq_getElem?_getD, List.getElem?_eq_getElem hj]) (fun j => by
    by_cases hj : j < is.length
    · have : is.getD j 0 = is[j] := by simp [List.getD_eq_getElem?_getD, List.getElem?_eq_getElem hj]
      rw [this]
      exact his _ (List.getElem_mem hj)
    · have : is.getD j 0 = 0 := by simp [List.getD_eq_getElem?_getD, List.getElem?_eq_none (show is.length ≤ j by omega)]
      rw [this]
      decide)
  obtain ⟨po, hpo, hpz⟩ : ∃ po, pathB (namesOf is) = po ∧ po.size ≤ 78 := ⟨_, rfl, names_size (namesOf_names is)⟩
  rw [hpo] at kof
  obtain ⟨nt, hnt⟩ : ∃ nt, ts.length = nt := ⟨_, rfl⟩
  obtain ⟨nm, hnm⟩ : ∃ nm, ms.length = nm := ⟨_, rfl⟩
  obtain ⟨ni, hni⟩ : ∃ ni, is.length = ni := ⟨_, rfl⟩
  rw [hnt, hnm] at kg
  rw [hni] at kof
  rw [hnt, hnm, hni]
  clear hnt hnm hpo hni
  have hb8 := blkl_alloc w (lab4 at_).toArray 25
  have hB0 := alloc_below w (.cells (lab4 at_).toArray 25)
  replace hb8 : BlkL w.heap.size (lab4 at_) (w.alloc (.cells (lab4 at_).toArray 25)) := hb8
  go_enter Tryd.func3, Tryd.ntmps3
  go_wp2_with fail
  generalize w.alloc (.cells #[.int .i64 at_.s, .int .i64 at_.c, .int .i64 at_.i, .int .i64 at_.k] 25) = W0 at *
  refine (mknown_any K.toMonOk W0 (hV.below hB0)).mono ?_
  rintro e W1 ⟨rfl, hB1⟩
  replace hb8 := stab_blk _ _ _ _ hb8 hB1
  have hB01 := Below.then hB0 hB1
  by_cases hr : (500 : Int) < (raw.size : Int)
  · go_wp2_with fail
    go_ret
    exact ⟨rfl, hB01⟩
  have hr5 : raw.size ≤ 1000 := by omega
  go_wp2_with fail
  refine (kg W1 (hlr.below lab_ok.len hB01) (hmr.below hB01)).mono ?_
  rintro e W2 ⟨v, l, rfl, ho, hat, hnm, hB2, hA⟩
  obtain ⟨a, c, rfl, hG⟩ := gt_of ho hat hnm hA
  have hB02 := Below.then hB01 hB2
  have hbB : w.heap.size < W1.heap.size := hb8.2
  replace hb8 := stab_blk _ _ _ _ hb8 hB2
  have hlen := hG.len
  have hpos := hG.pos
  clear kg ho hat hnm hA hB2 hlr hmr hB0 hB1 hB01
  generalize W1.heap.size = B1 at *
  obtain ⟨n, hn⟩ : ∃ n, l.length = n := ⟨_, rfl⟩
  rw [hn] at hlen hpos ⊢
  replace hn : Aside (l.length = n) := hn
  have hmod : ∀ q : Int, ∃ j : Nat, q % (n : Int) = (j : Int) ∧ j < n := fun q => ⟨(q % (n : Int)).toNat, by have := Int.emod_nonneg q (show (n : Int) ≠ 0 by omega); omega, by have h1 := Int.emod_nonneg q (show (n : Int) ≠ 0 by omega); have h2 := Int.emod_lt_of_pos q (show 0 < (n : Int) by omega); omega⟩
  have hr8 := hb8.range
  go_wp2_with (first | (refine wpList_load_row rfl _ rfl w.heap.size rfl (lab4 at_) hr8 hundL rfl hsl ?_) | fail)
  refine (good_any at_ W2).mono ?_
  rintro e W3 ⟨rfl, hB3⟩
  replace hb8 := stab_blk _ _ _ _ hb8 hB3
  have hG3 := hG.below hB3
  have hB03 := Below.then hB02 hB3
  clear hr8 hG hB02 hB3
  obtain ⟨W4, hW4, hth4, hb4, hk4, hB4⟩ := turn_lab (goodL at_) hb8
  have hG4 := hG3.turn (W' := W4) (fun k hk => hk4 k (by omega))
  have hB04 := hB4 _ _ (Nat.le_refl _) hB03
  have hGg := good_GL at_
  clear hb8 hG3 hB03 hk4 hB4
  go_upto_region 7 with (first | (refine wpList_store_row rfl _ _ rfl w.heap.size rfl (lab4 (goodL at_)) rfl hth4 hsl (lab4_one _) hW4 ?_) | fail)
  clear hth4 hW4
  obtain ⟨g, hg⟩ : ∃ g, goodL at_ = g := ⟨_, rfl⟩
  rw [hg] at hb4 hGg
  clear hg
  obtain ⟨y, rfl⟩ : ∃ y, a = some y := hG4.row.some_ (List.getElem?_eq_getElem (by rw [hn.out]; exact hpos))
  (try simp only [Act.put])
  go_cut [35] from 18 (fun s35 wd => wd = W4 ∧ ∃ b : Bool, s35 = .bool b)
  case first =>
    go_wp2_with fail
    all_goals go_meet
    all_goals exact ⟨rfl, _, rfl⟩
  case rest =>
  obtain ⟨hwd, bq, rfl⟩ := hcut
  replace hwd := hwd.symm
  subst hwd
  go_upto_if 35 with fail
  go_cut [] from 18 (fun wc => ∃ t : Lab, GL t ∧ GT B1 wc (some y) c l ts (ms.map (·.m)) ∧ BlkL w.heap.size (lab4 t) wc ∧ Below w.heap.size w wc)
  case first =>
    cases bq
    · go_wp2_with fail
      go_meet
      exact ⟨g, hGg, hG4, hb4, hB04⟩
    · obtain ⟨k2, hk2, hkn2⟩ := hmod pick
      obtain ⟨x2, hx2⟩ : ∃ x2, l[k2]? = some x2 := ⟨_, List.getElem?_eq_getElem (by rw [hn.out]; exact hkn2)⟩
      have hcl := cells_lab (hG4.row.r.at pn_len hx2)
      have hGt := hG4.lab (List.mem_of_getElem? hx2)
      obtain ⟨t, ht⟩ : ∃ t, x2.n.label = t := ⟨_, rfl⟩
      rw [ht] at hcl hGt
      have kw := w13_any pick (n : Int) (by omega) (by omega) W4
      rw [hk2] at kw
      obtain ⟨W5, hW5, hth5, hb5, hk5, hB5⟩ := turn_lab t hb4
      have hG5 := hG4.turn (W' := W5) (fun k hk => hk5 k (by omega))
      have hB05 := hB5 _ _ (Nat.le_refl _) hB04
      clear hx2 hk2 ht
      go_wp2_with fail
      refine kw.mono ?_
      rintro e w' ⟨rfl, hw'⟩
      replace hw' := hw'.symm
      subst hw'
      go_wp2_with (first | (refine wpList_load_at rfl _ rfl ⟨(y.add (k2 * 16)).block, (y.add (k2 * 16)).off + 2, none⟩ rfl (labM t) hcl hundL rfl hsl ?_) | (refine wpList_store_row rfl _ _ rfl w.heap.size rfl (lab4 t) rfl hth5 hsl (lab4_one _) hW5 ?_) | fail)
      go_meet
      exact ⟨t, hGt, hG5, hb5, hB05⟩
  case rest =>
  clear hG4 hb4 hB04 hGg
  obtain ⟨t, hGt, hG, hbt, hB⟩ := hcut
  obtain ⟨Z, hZ⟩ : ∃ Z, Z = wc := ⟨_, rfl⟩
  subst hZ
  obtain ⟨k, hk, hkn⟩ := hmod (IntKind.i64.wrap (pick.tdiv 3))
  obtain ⟨x, hx⟩ : ∃ x, l[k]? = some x := ⟨_, List.getElem?_eq_getElem (by rw [hn.out]; exact hkn)⟩
  have hps := hG.path (List.mem_of_getElem? hx)
  have hcx : ∀ W, Below Z.heap.size Z W → W.cell? (y.add (k * 16)) = some (.string x.n.path) := fun W q => ((hG.below q).row.r.at pn_len hx) 0 _ rfl
  have kwk := fun W => w13_any (IntKind.i64.wrap (pick.tdiv 3)) (n : Int) (by omega) (by omega) W
  have kw8 := fun W => w13_any mode 8 (by decide) (by decide) W
  have kw7 := fun W => w13_any mode 7 (by decide) (by decide) W
  have hm7 : 0 ≤ mode % 7 ∧ mode % 7 < 7 := ⟨Int.emod_nonneg _ (by decide), Int.emod_lt_of_pos _ (by decide)⟩
  rw [hk] at kwk
  obtain ⟨p, hp⟩ : ∃ p, x.n.path = p := ⟨_, rfl⟩
  rw [hp] at hps hcx
  have hjz := joinx_size p
  have kj := fun W => rjoin_any p ⟨#[120]⟩ (by omega) (by decide) W
  obtain ⟨pj, hpj⟩ : ∃ pj, joinOf p ⟨#[120]⟩ = pj := ⟨_, rfl⟩
  rw [hpj] at hjz kj
  obtain ⟨m7, hm7e⟩ : ∃ m7, mode % 7 = m7 := ⟨_, rfl⟩
  rw [hm7e] at hm7 kw7
  obtain ⟨m8, hm8e⟩ : ∃ m8, mode % 8 = m8 := ⟨_, rfl⟩
  rw [hm8e] at kw8
  obtain ⟨u, hu⟩ : ∃ u, whoS who = u := ⟨_, rfl⟩
  have kwho := fun W => who_any who W
  rw [hu] at kwho
  have hF := hG.fine
  have kask := fun (q : ByteArray) (m : Int) (hq : q.size ≤ 1000) W (q1 : GT B1 W (some y) c l ts (ms.map (·.m))) (q2 : MaxV W) => ask_any K (some y) c l u t q m hF hGt hq W q1.row q2
  rw [hn.out] at kask
  have ki := fun W (q : Below Z.heap.size Z W) => kof W (hir.below (fun _ => rfl) (Below.then hB q))
  clear hk hx hp hpj hm7e hm8e hu hF kof hir hmod
  go_upto_region 9 with fail
  have hS0 : Below Z.heap.size Z Z.drew := (Below.refl _ _).drew
  refine wp_region_held_drew (S := (fun W => Below Z.heap.size Z W)) (by kernel_rfl) (by exact hS0) ?_
  intro hHeld
  generalize Z.drew = w0 at *
  refine wpAnyH_take (i := 0) (v := ?_) (by simp only [gA, gB, gC]; rfl) (by kernel_rfl) (by kernel_rfl) (by kernel_rfl) (by exact fun _ _ _ h => h) (Or.inl ⟨by rfl, ?_⟩) (by assumption) ?_; rotate_left; (focus (intro w hSw; (try dsimp only at hSw); go_simp; try with_reducible rfl)); (try simp only [Act.put, sA, sB, sC])
  refine wpAnyH_take (i := 1) (v := ?_) (by simp only [gA, gB, gC]; rfl) (by kernel_rfl) (by kernel_rfl) (by kernel_rfl) (by exact fun _ _ _ h => h) (Or.inl ⟨by rfl, ?_⟩) (by assumption) ?_; rotate_left; (focus (intro w hSw; (try dsimp only at hSw); go_simp; try with_reducible rfl)); (try simp only [Act.put, sA, sB, sC])
  refine wpAnyH_take (i := 3) (v := _) (by simp only [gA, gB, gC]; rfl) (by kernel_rfl) (by kernel_rfl) (by kernel_rfl) (by exact fun _ _ _ h => h) (yields_row (by rfl) _ rfl w.heap.size rfl (lab4 t) (fun _ q => (stab_blk _ _ _ _ hbt q).range) hundL rfl hsl) (by assumption) ?_; (try simp only [Act.put, sA, sB, sC])
  refine wpAnyH_take (i := 4) (v := ?_) (by simp only [gA, gB, gC]; rfl) (by kernel_rfl) (by kernel_rfl) (by kernel_rfl) (by exact fun _ _ _ h => h) (Or.inl ⟨by rfl, ?_⟩) (by assumption) ?_; rotate_left; (focus (intro w hSw; (try dsimp only at hSw); go_simp; try with_reducible rfl)); (try simp only [Act.put, sA, sB, sC])
  refine wpAnyH_take (i := 5) (v := ?_) (by simp only [gA, gB, gC]; rfl) (by kernel_rfl) (by kernel_rfl) (by kernel_rfl) (by exact fun _ _ _ h => h) (Or.inl ⟨by rfl, ?_⟩) (by assumption) ?_; rotate_left; (focus (intro w hSw; (try dsimp only at hSw); go_simp; try with_reducible rfl)); (try simp only [Act.put, sA, sB, sC])
  refine wpAnyH_ready (rs := [2]) (by kernel_rfl) (by simp) ?_
  refine AllReadyH.cons (by simp only [gA, gB, gC]; rfl) (fun K hK => ?_) AllReadyH.nil
  go_simp
  go_at_call 14
  refine (kwho w0).mono ?_
  rintro e w1 ⟨rfl, hb⟩
  have hS1 := Below.then hS0 hb
  clear hb
  refine hK.out _ _ (by exact hS1) ?_
  clear hHeld hK
  intro hHeld
  (try simp only [Act.put, sA, sB, sC])
  refine wpAnyH_ready (rs := [6]) (by kernel_rfl) (by simp) ?_
  refine AllReadyH.cons (by simp only [gA, gB, gC]; rfl) (fun K hK => ?_) AllReadyH.nil
  go_simp
  go_at_call 13
  refine (kask raw mode hr5 w1 (hG.below hS1) (hV.below (Below.then hB hS1))).mono ?_
  rintro e w2 ⟨rfl, hb⟩
  have hS2 := Below.then hS1 hb
  clear hb
  refine hK.out _ _ (by exact hS2) ?_
  clear hHeld hK
  intro hHeld
  (try simp only [Act.put, sA, sB, sC])
  refine wpAnyH_take (i := 7) (v := ?_) (by simp only [gA, gB, gC]; rfl) (by kernel_rfl) (by kernel_rfl) (by kernel_rfl) (by exact fun _ _ _ h => h) (Or.inl ⟨by rfl, ?_⟩) (by assumption) ?_; rotate_left; (focus (intro w hSw; (try dsimp only at hSw); go_simp; try with_reducible rfl)); (try simp only [Act.put, sA, sB, sC])
  refine wpAnyH_take (i := 8) (v := ?_) (by simp only [gA, gB, gC]; rfl) (by kernel_rfl) (by kernel_rfl) (by kernel_rfl) (by exact fun _ _ _ h => h) (Or.inl ⟨by rfl, ?_⟩) (by assumption) ?_; rotate_left; (focus (intro w hSw; (try dsimp only at hSw); go_simp; try with_reducible rfl)); (try simp only [Act.put, sA, sB, sC])
  refine wpAnyH_take (i := 9) (v := ?_) (by simp only [gA, gB, gC]; rfl) (by kernel_rfl) (by kernel_rfl) (by kernel_rfl) (by exact fun _ _ _ h => h) (Or.inl ⟨by rfl, ?_⟩) (by assumption) ?_; rotate_left; (focus (intro w hSw; (try dsimp only at hSw); go_simp; try with_reducible rfl)); (try simp only [Act.put, sA, sB, sC])
  refine wpAnyH_take (i := 11) (v := _) (by simp only [gA, gB, gC]; rfl) (by kernel_rfl) (by kernel_rfl) (by kernel_rfl) (by exact fun _ _ _ h => h) (yields_row (by rfl) _ rfl w.heap.size rfl (lab4 t) (fun _ q => (stab_blk _ _ _ _ hbt q).range) hundL rfl hsl) (by assumption) ?_; (try simp only [Act.put, sA, sB, sC])
  refine wpAnyH_take (i := 12) (v := ?_) (by simp only [gA, gB, gC]; rfl) (by kernel_rfl) (by kernel_rfl) (by kernel_rfl) (by exact fun _ _ _ h => h) (Or.inl ⟨by rfl, ?_⟩) (by assumption) ?_; rotate_left; (focus (intro w hSw; (try dsimp only at hSw); go_simp; try with_reducible rfl)); (try simp only [Act.put, sA, sB, sC])
  refine wpAnyH_take (i := 14) (v := ?_) (by simp only [gA, gB, gC]; rfl) (by kernel_rfl) (by kernel_rfl) (by kernel_rfl) (by exact fun _ _ _ h => h) (Or.inl ⟨by rfl, ?_⟩) (by assumption) ?_; rotate_left; (focus (intro w hSw; (try dsimp only at hSw); go_simp; try with_reducible rfl)); (try simp only [Act.put, sA, sB, sC])
  refine wpAnyH_ready (rs := [10]) (by kernel_rfl) (by simp) ?_
  refine AllReadyH.cons (by simp only [gA, gB, gC]; rfl) (fun K hK => ?_) AllReadyH.nil
  go_simp
  go_at_call 14
  refine (kwho w2).mono ?_
  rintro e w3 ⟨rfl, hb⟩
  have hS3 := Below.then hS2 hb
  clear hb
  refine hK.out _ _ (by exact hS3) ?_
  clear hHeld hK
  intro hHeld
  (try simp only [Act.put, sA, sB, sC])
  refine wpAnyH_ready (rs := [13]) (by kernel_rfl) (by simp) ?_
  refine AllReadyH.cons (by simp only [gA, gB, gC]; rfl) (fun K hK => ?_) AllReadyH.nil
  go_simp
  go_at_call 15
  refine (ki w3 hS3).mono ?_
  rintro e w4 ⟨rfl, hb⟩
  have hS4 := Below.then hS3 hb
  clear hb
  refine hK.out _ _ (by exact hS4) ?_
  clear hHeld hK
  intro hHeld
  (try simp only [Act.put, sA, sB, sC])
  refine wpAnyH_ready (rs := [15]) (by kernel_rfl) (by simp) ?_
  refine AllReadyH.cons (by simp only [gA, gB, gC]; rfl) (fun K hK => ?_) AllReadyH.nil
  go_simp
  go_at_call 12
  refine (kw8 w4).mono ?_
  rintro e w' ⟨rfl, hw'⟩
  replace hw' := hw'.symm
  subst hw'
  refine hK.out _ _ (by exact hS4) ?_
  clear hHeld hK
  intro hHeld
  (try simp only [Act.put, sA, sB, sC])
  refine wpAnyH_ready (rs := [16]) (by kernel_rfl) (by simp) ?_
  refine AllReadyH.cons (by simp only [gA, gB, gC]; rfl) (fun K hK => ?_) AllReadyH.nil
  go_simp
  go_at_call 13
  refine (kask po m8 (by omega) w4 (hG.below hS4) (hV.below (Below.then hB hS4))).mono ?_
  rintro e w5 ⟨rfl, hb⟩
  have hS5 := Below.then hS4 hb
  clear hb
  refine hK.out _ _ (by exact hS5) ?_
  clear hHeld hK
  intro hHeld
  (try simp only [Act.put, sA, sB, sC])
  refine wpAnyH_take (i := 17) (v := ?_) (by simp only [gA, gB, gC]; rfl) (by kernel_rfl) (by kernel_rfl) (by kernel_rfl) (by exact fun _ _ _ h => h) (Or.inl ⟨by rfl, ?_⟩) (by assumption) ?_; rotate_left; (focus (intro w hSw; (try dsimp only at hSw); go_simp; try with_reducible rfl)); (try simp only [Act.put, sA, sB, sC])
  refine wpAnyH_take (i := 18) (v := ?_) (by simp only [gA, gB, gC]; rfl) (by kernel_rfl) (by kernel_rfl) (by kernel_rfl) (by exact fun _ _ _ h => h) (Or.inl ⟨by rfl, ?_⟩) (by assumption) ?_; rotate_left; (focus (intro w hSw; (try dsimp only at hSw); go_simp; try with_reducible rfl)); (try simp only [Act.put, sA, sB, sC])
  refine wpAnyH_take (i := 19) (v := ?_) (by simp only [gA, gB, gC]; rfl) (by kernel_rfl) (by kernel_rfl) (by kernel_rfl) (by exact fun _ _ _ h => h) (Or.inl ⟨by rfl, ?_⟩) (by assumption) ?_; rotate_left; (focus (intro w hSw; (try dsimp only at hSw); go_simp; try with_reducible rfl)); (try simp only [Act.put, sA, sB, sC])
  refine wpAnyH_take (i := 20) (v := ?_) (by simp only [gA, gB, gC]; rfl) (by kernel_rfl) (by kernel_rfl) (by kernel_rfl) (by exact fun _ _ _ h => h) (Or.inl ⟨by rfl, ?_⟩) (by assumption) ?_; rotate_left; (focus (intro w hSw; (try dsimp only at hSw); go_simp; try with_reducible rfl)); (try simp only [Act.put, sA, sB, sC])
  refine wpAnyH_take (i := 22) (v := _) (by simp only [gA, gB, gC]; rfl) (by kernel_rfl) (by kernel_rfl) (by kernel_rfl) (by exact fun _ _ _ h => h) (yields_row (by rfl) _ rfl w.heap.size rfl (lab4 t) (fun _ q => (stab_blk _ _ _ _ hbt q).range) hundL rfl hsl) (by assumption) ?_; (try simp only [Act.put, sA, sB, sC])
  refine wpAnyH_take (i := 23) (v := ?_) (by simp only [gA, gB, gC]; rfl) (by kernel_rfl) (by kernel_rfl) (by kernel_rfl) (by exact fun _ _ _ h => h) (Or.inl ⟨by rfl, ?_⟩) (by assumption) ?_; rotate_left; (focus (intro w hSw; (try dsimp only at hSw); go_simp; try with_reducible rfl)); (try simp only [Act.put, sA, sB, sC])
  refine wpAnyH_take (i := 24) (v := ?_) (by simp only [gA, gB, gC]; rfl) (by kernel_rfl) (by kernel_rfl) (by kernel_rfl) (by exact fun _ _ _ h => h) (Or.inl ⟨by rfl, ?_⟩) (by assumption) ?_; rotate_left; (focus (intro w hSw; (try dsimp only at hSw); go_simp; try with_reducible rfl)); (try simp only [Act.put, sA, sB, sC])
  refine wpAnyH_take (i := 25) (v := ?_) (by simp only [gA, gB, gC]; rfl) (by kernel_rfl) (by kernel_rfl) (by kernel_rfl) (by exact fun _ _ _ h => h) (Or.inl ⟨by rfl, ?_⟩) (by assumption) ?_; rotate_left; (focus (intro w hSw; (try dsimp only at hSw); go_simp; try with_reducible rfl)); (try simp only [Act.put, sA, sB, sC])
  refine wpAnyH_take (i := 26) (v := ?_) (by simp only [gA, gB, gC]; rfl) (by kernel_rfl) (by kernel_rfl) (by kernel_rfl) (by exact fun _ _ _ h => h) (Or.inl ⟨by rfl, ?_⟩) (by assumption) ?_; rotate_left; (focus (intro w hSw; (try dsimp only at hSw); go_simp; try with_reducible rfl)); (try simp only [Act.put, sA, sB, sC])
  refine wpAnyH_take (i := 27) (v := ?_) (by simp only [gA, gB, gC]; rfl) (by kernel_rfl) (by kernel_rfl) (by kernel_rfl) (by exact fun _ _ _ h => h) (Or.inl ⟨by rfl, ?_⟩) (by assumption) ?_; rotate_left; (focus (intro w hSw; (try dsimp only at hSw); go_simp; try with_reducible rfl)); (try simp only [Act.put, sA, sB, sC])
  refine wpAnyH_take (i := 32) (v := ?_) (by simp only [gA, gB, gC]; rfl) (by kernel_rfl) (by kernel_rfl) (by kernel_rfl) (by exact fun _ _ _ h => h) (Or.inl ⟨by rfl, ?_⟩) (by assumption) ?_; rotate_left; (focus (intro w hSw; (try dsimp only at hSw); go_simp; try with_reducible rfl)); (try simp only [Act.put, sA, sB, sC])
  refine wpAnyH_ready (rs := [21]) (by kernel_rfl) (by simp) ?_
  refine AllReadyH.cons (by simp only [gA, gB, gC]; rfl) (fun K hK => ?_) AllReadyH.nil
  go_simp
  go_at_call 14
  refine (kwho w5).mono ?_
  rintro e w6 ⟨rfl, hb⟩
  have hS6 := Below.then hS5 hb
  clear hb
  refine hK.out _ _ (by exact hS6) ?_
  clear hHeld hK
  intro hHeld
  (try simp only [Act.put, sA, sB, sC])
  refine wpAnyH_ready (rs := [28]) (by kernel_rfl) (by simp) ?_
  refine AllReadyH.cons (by simp only [gA, gB, gC]; rfl) (fun K hK => ?_) AllReadyH.nil
  go_simp
  go_at_call 12
  refine (kwk w6).mono ?_
  rintro e w' ⟨rfl, hw'⟩
  replace hw' := hw'.symm
  subst hw'
  refine hK.out _ _ (by exact hS6) ?_
  clear hHeld hK
  intro hHeld
  (try simp only [Act.put, sA, sB, sC])
  refine wpAnyH_take (i := 29) (v := ?_) (by simp only [gA, gB, gC]; rfl) (by kernel_rfl) (by kernel_rfl) (by kernel_rfl) (by exact fun _ _ _ h => h) (Or.inl ⟨by rfl, ?_⟩) (by assumption) ?_; rotate_left; (focus (intro w hSw; (try dsimp only at hSw); go_simp; try with_reducible rfl)); (try simp only [Act.put, sA, sB, sC])
  refine wpAnyH_take (i := 30) (v := ?_) (by simp only [gA, gB, gC]; rfl) (by kernel_rfl) (by kernel_rfl) (by kernel_rfl) (by exact fun _ _ _ h => h) (Or.inl ⟨by rfl, ?_⟩) (by assumption) ?_; rotate_left; (focus (intro w hSw; (try dsimp only at hSw); go_simp; try with_reducible rfl)); (try simp only [Act.put, sA, sB, sC])
  refine wpAnyH_take (i := 31) (v := _) (by simp only [gA, gB, gC]; rfl) (by kernel_rfl) (by kernel_rfl) (by kernel_rfl) (by exact fun _ _ _ h => h) (yields_cell (by rfl) _ rfl (y.add (k * 16)) rfl (.string p) hcx strA_load) (by assumption) ?_; (try simp only [Act.put, sA, sB, sC])
  refine wpAnyH_ready (rs := [33]) (by kernel_rfl) (by simp) ?_
  refine AllReadyH.cons (by simp only [gA, gB, gC]; rfl) (fun K hK => ?_) AllReadyH.nil
  go_simp
  go_at_call 12
  refine (kw7 w6).mono ?_
  rintro e w' ⟨rfl, hw'⟩
  replace hw' := hw'.symm
  subst hw'
  refine hK.out _ _ (by exact hS6) ?_
  clear hHeld hK
  intro hHeld
  (try simp only [Act.put, sA, sB, sC])
  refine wpAnyH_take (i := 34) (v := ?_) (by simp only [gA, gB, gC]; rfl) (by kernel_rfl) (by kernel_rfl) (by kernel_rfl) (by exact fun _ _ _ h => h) (Or.inl ⟨by rfl, ?_⟩) (by assumption) ?_; rotate_left; (focus (intro w hSw; (try dsimp only at hSw); go_simp; try with_reducible rfl)); (try simp only [Act.put, sA, sB, sC])
  refine wpAnyH_ready (rs := [35]) (by kernel_rfl) (by simp) ?_
  refine AllReadyH.cons (by simp only [gA, gB, gC]; rfl) (fun K hK => ?_) AllReadyH.nil
  go_simp
  go_at_call 13
  refine (kask p _ (by omega) w6 (hG.below hS6) (hV.below (Below.then hB hS6))).mono ?_
  rintro e w7 ⟨rfl, hb⟩
  have hS7 := Below.then hS6 hb
  clear hb
  refine hK.out _ _ (by exact hS7) ?_
  clear hHeld hK
  intro hHeld
  (try simp only [Act.put, sA, sB, sC])
  refine wpAnyH_take (i := 36) (v := ?_) (by simp only [gA, gB, gC]; rfl) (by kernel_rfl) (by kernel_rfl) (by kernel_rfl) (by exact fun _ _ _ h => h) (Or.inl ⟨by rfl, ?_⟩) (by assumption) ?_; rotate_left; (focus (intro w hSw; (try dsimp only at hSw); go_simp; try with_reducible rfl)); (try simp only [Act.put, sA, sB, sC])
  refine wpAnyH_take (i := 37) (v := ?_) (by simp only [gA, gB, gC]; rfl) (by kernel_rfl) (by kernel_rfl) (by kernel_rfl) (by exact fun _ _ _ h => h) (Or.inl ⟨by rfl, ?_⟩) (by assumption) ?_; rotate_left; (focus (intro w hSw; (try dsimp only at hSw); go_simp; try with_reducible rfl)); (try simp only [Act.put, sA, sB, sC])
  refine wpAnyH_take (i := 38) (v := ?_) (by simp only [gA, gB, gC]; rfl) (by kernel_rfl) (by kernel_rfl) (by kernel_rfl) (by exact fun _ _ _ h => h) (Or.inl ⟨by rfl, ?_⟩) (by assumption) ?_; rotate_left; (focus (intro w hSw; (try dsimp only at hSw); go_simp; try with_reducible rfl)); (try simp only [Act.put, sA, sB, sC])
  refine wpAnyH_take (i := 39) (v := ?_) (by simp only [gA, gB, gC]; rfl) (by kernel_rfl) (by kernel_rfl) (by kernel_rfl) (by exact fun _ _ _ h => h) (Or.inl ⟨by rfl, ?_⟩) (by assumption) ?_; rotate_left; (focus (intro w hSw; (try dsimp only at hSw); go_simp; try with_reducible rfl)); (try simp only [Act.put, sA, sB, sC])
  refine wpAnyH_take (i := 41) (v := _) (by simp only [gA, gB, gC]; rfl) (by kernel_rfl) (by kernel_rfl) (by kernel_rfl) (by exact fun _ _ _ h => h) (yields_row (by rfl) _ rfl w.heap.size rfl (lab4 t) (fun _ q => (stab_blk _ _ _ _ hbt q).range) hundL rfl hsl) (by assumption) ?_; (try simp only [Act.put, sA, sB, sC])
  refine wpAnyH_take (i := 42) (v := ?_) (by simp only [gA, gB, gC]; rfl) (by kernel_rfl) (by kernel_rfl) (by kernel_rfl) (by exact fun _ _ _ h => h) (Or.inl ⟨by rfl, ?_⟩) (by assumption) ?_; rotate_left; (focus (intro w hSw; (try dsimp only at hSw); go_simp; try with_reducible rfl)); (try simp only [Act.put, sA, sB, sC])
  refine wpAnyH_take (i := 43) (v := ?_) (by simp only [gA, gB, gC]; rfl) (by kernel_rfl) (by kernel_rfl) (by kernel_rfl) (by exact fun _ _ _ h => h) (Or.inl ⟨by rfl, ?_⟩) (by assumption) ?_; rotate_left; (focus (intro w hSw; (try dsimp only at hSw); go_simp; try with_reducible rfl)); (try simp only [Act.put, sA, sB, sC])
  refine wpAnyH_take (i := 44) (v := ?_) (by simp only [gA, gB, gC]; rfl) (by kernel_rfl) (by kernel_rfl) (by kernel_rfl) (by exact fun _ _ _ h => h) (Or.inl ⟨by rfl, ?_⟩) (by assumption) ?_; rotate_left; (focus (intro w hSw; (try dsimp only at hSw); go_simp; try with_reducible rfl)); (try simp only [Act.put, sA, sB, sC])
  refine wpAnyH_take (i := 45) (v := ?_) (by simp only [gA, gB, gC]; rfl) (by kernel_rfl) (by kernel_rfl) (by kernel_rfl) (by exact fun _ _ _ h => h) (Or.inl ⟨by rfl, ?_⟩) (by assumption) ?_; rotate_left; (focus (intro w hSw; (try dsimp only at hSw); go_simp; try with_reducible rfl)); (try simp only [Act.put, sA, sB, sC])
  refine wpAnyH_take (i := 46) (v := ?_) (by simp only [gA, gB, gC]; rfl) (by kernel_rfl) (by kernel_rfl) (by kernel_rfl) (by exact fun _ _ _ h => h) (Or.inl ⟨by rfl, ?_⟩) (by assumption) ?_; rotate_left; (focus (intro w hSw; (try dsimp only at hSw); go_simp; try with_reducible rfl)); (try simp only [Act.put, sA, sB, sC])
  refine wpAnyH_take (i := 52) (v := ?_) (by simp only [gA, gB, gC]; rfl) (by kernel_rfl) (by kernel_rfl) (by kernel_rfl) (by exact fun _ _ _ h => h) (Or.inl ⟨by rfl, ?_⟩) (by assumption) ?_; rotate_left; (focus (intro w hSw; (try dsimp only at hSw); go_simp; try with_reducible rfl)); (try simp only [Act.put, sA, sB, sC])
  refine wpAnyH_ready (rs := [40]) (by kernel_rfl) (by simp) ?_
  refine AllReadyH.cons (by simp only [gA, gB, gC]; rfl) (fun K hK => ?_) AllReadyH.nil
  go_simp
  go_at_call 14
  refine (kwho w7).mono ?_
  rintro e w8 ⟨rfl, hb⟩
  have hS8 := Below.then hS7 hb
  clear hb
  refine hK.out _ _ (by exact hS8) ?_
  clear hHeld hK
  intro hHeld
  (try simp only [Act.put, sA, sB, sC])
  refine wpAnyH_ready (rs := [47]) (by kernel_rfl) (by simp) ?_
  refine AllReadyH.cons (by simp only [gA, gB, gC]; rfl) (fun K hK => ?_) AllReadyH.nil
  go_simp
  go_at_call 12
  refine (kwk w8).mono ?_
  rintro e w' ⟨rfl, hw'⟩
  replace hw' := hw'.symm
  subst hw'
  refine hK.out _ _ (by exact hS8) ?_
  clear hHeld hK
  intro hHeld
  (try simp only [Act.put, sA, sB, sC])
  refine wpAnyH_take (i := 48) (v := ?_) (by simp only [gA, gB, gC]; rfl) (by kernel_rfl) (by kernel_rfl) (by kernel_rfl) (by exact fun _ _ _ h => h) (Or.inl ⟨by rfl, ?_⟩) (by assumption) ?_; rotate_left; (focus (intro w hSw; (try dsimp only at hSw); go_simp; try with_reducible rfl)); (try simp only [Act.put, sA, sB, sC])
  refine wpAnyH_take (i := 49) (v := ?_) (by simp only [gA, gB, gC]; rfl) (by kernel_rfl) (by kernel_rfl) (by kernel_rfl) (by exact fun _ _ _ h => h) (Or.inl ⟨by rfl, ?_⟩) (by assumption) ?_; rotate_left; (focus (intro w hSw; (try dsimp only at hSw); go_simp; try with_reducible rfl)); (try simp only [Act.put, sA, sB, sC])
  refine wpAnyH_take (i := 50) (v := _) (by simp only [gA, gB, gC]; rfl) (by kernel_rfl) (by kernel_rfl) (by kernel_rfl) (by exact fun _ _ _ h => h) (yields_cell (by rfl) _ rfl (y.add (k * 16)) rfl (.string p) hcx strA_load) (by assumption) ?_; (try simp only [Act.put, sA, sB, sC])
  refine wpAnyH_ready (rs := [51]) (by kernel_rfl) (by simp) ?_
  refine AllReadyH.cons (by simp only [gA, gB, gC]; rfl) (fun K hK => ?_) AllReadyH.nil
  go_simp
  go_at_call 16
  refine (kj w8).mono ?_
  rintro e w' ⟨rfl, hw'⟩
  replace hw' := hw'.symm
  subst hw'
  refine hK.out _ _ (by exact hS8) ?_
  clear hHeld hK
  intro hHeld
  (try simp only [Act.put, sA, sB, sC])
  refine wpAnyH_ready (rs := [53]) (by kernel_rfl) (by simp) ?_
  refine AllReadyH.cons (by simp only [gA, gB, gC]; rfl) (fun K hK => ?_) AllReadyH.nil
  go_simp
  go_at_call 12
  refine (kw7 w8).mono ?_
  rintro e w' ⟨rfl, hw'⟩
  replace hw' := hw'.symm
  subst hw'
  refine hK.out _ _ (by exact hS8) ?_
  clear hHeld hK
  intro hHeld
  (try simp only [Act.put, sA, sB, sC])
  refine wpAnyH_take (i := 54) (v := ?_) (by simp only [gA, gB, gC]; rfl) (by kernel_rfl) (by kernel_rfl) (by kernel_rfl) (by exact fun _ _ _ h => h) (Or.inl ⟨by rfl, ?_⟩) (by assumption) ?_; rotate_left; (focus (intro w hSw; (try dsimp only at hSw); go_simp; try with_reducible rfl)); (try simp only [Act.put, sA, sB, sC])
  refine wpAnyH_ready (rs := [55]) (by kernel_rfl) (by simp) ?_
  refine AllReadyH.cons (by simp only [gA, gB, gC]; rfl) (fun K hK => ?_) AllReadyH.nil
  go_simp
  go_at_call 13
  refine (kask pj _ (by omega) w8 (hG.below hS8) (hV.below (Below.then hB hS8))).mono ?_
  rintro e w9 ⟨rfl, hb⟩
  have hS9 := Below.then hS8 hb
  clear hb
  refine hK.out _ _ (by exact hS9) ?_
  clear hHeld hK
  intro hHeld
  (try simp only [Act.put, sA, sB, sC])
  refine wpAnyH_take (i := 56) (v := ?_) (by simp only [gA, gB, gC]; rfl) (by kernel_rfl) (by kernel_rfl) (by kernel_rfl) (by exact fun _ _ _ h => h) (Or.inl ⟨by rfl, ?_⟩) (by assumption) ?_; rotate_left; (focus (intro w hSw; (try dsimp only at hSw); go_simp; try with_reducible rfl)); (try simp only [Act.put, sA, sB, sC])
  refine wpAnyH_take (i := 57) (v := ?_) (by simp only [gA, gB, gC]; rfl) (by kernel_rfl) (by kernel_rfl) (by kernel_rfl) (by exact fun _ _ _ h => h) (Or.inl ⟨by rfl, ?_⟩) (by assumption) ?_; rotate_left; (focus (intro w hSw; (try dsimp only at hSw); go_simp; try with_reducible rfl)); (try simp only [Act.put, sA, sB, sC])
  refine wpAnyH_done (by kernel_rfl) ?_ _
  go_wp2_with fail
  go_ret
  exact ⟨rfl, Below.then hB hS9⟩
end Go.Proofs.YtapgjdmnlkedgaaDoor
