/-
  P1104: along each path of a tree that was grown labels rise: the law's walk.
-/
import Derived.Test.YtacjfbomjglnjaaDoorPt6
namespace Go.Proofs.YtacjfbomjglnjaaDoor
open Go.RowKit
set_option maxRecDepth 8000
set_option linter.unusedSimpArgs false
set_option linter.unusedVariables false

set_option maxRecDepth 20000 in
set_option maxHeartbeats 8000000 in
theorem treeRises_walk (ta : Option Addr) (ct : Nat) (ts : List Lab) (ma : Option Addr) (mc : Nat) (ms : List PM) (w : World) (hlr : RowAt 4 lrow w ta ts) (hmr : RowM w ma ms) (hM : MaxV w) :
    Calls Tryd.prog 6 #[.slice ta ts.length ct, .slice ma ms.length mc] w fun e w' => e = .returned (.bool true) ∧ Below w.heap.size w w' := by
  have hszN : (Tryd.prog.info? 32).map (·.size) = some 16 := by kernel_rfl
  have hsl : (Tryd.prog.info? 26).map (·.size) = some 4 := by kernel_rfl
  have kg := fun W (q1 : RowAt 4 lrow W ta ts) (q2 : RowM W ma ms) => growT_any ta ct ts ma mc ms W q1 q2
  obtain ⟨nt, hnt⟩ : ∃ nt, ts.length = nt := ⟨_, rfl⟩
  obtain ⟨nm, hnm⟩ : ∃ nm, ms.length = nm := ⟨_, rfl⟩
  rw [hnt, hnm] at kg ⊢
  clear hnt hnm
  go_enter Tryd.func6, Tryd.ntmps6
  go_wp2_with fail
  refine (tknown_any w).mono ?_
  rintro e W1 ⟨rfl, hB1⟩
  go_wp2_with fail
  refine (kg W1 (hlr.below lab_ok.len hB1) (hmr.below hB1)).mono ?_
  rintro e W2 ⟨v, l, rfl, ho, hat, hnm, hB2⟩
  obtain ⟨a, c, rfl, hg2⟩ := grown_of ho hat hnm
  have hB02 := Below.then hB1 hB2
  have kc := tcheck_any a c l (by have := hg2.len; omega) hg2.fine.small W2 hg2.row (hM.below hB02)
  rw [hg2.tree.check] at kc
  have hT := hg2.tree
  have hF := hg2.fine
  have hO : OrdP l := ordP.1 hT.ord
  have kf := fun W p (q : RowN W a l) => tfind_any a c l p (by have := hg2.len; omega) hO hF.few W q
  have hlen := hg2.len
  obtain ⟨n, hn⟩ : ∃ n, l.length = n := ⟨_, rfl⟩
  rw [hn] at kc kf hlen ⊢
  replace hn : Aside (l.length = n) := hn
  clear kg ho hat hnm hB2 hlr hmr
  go_wp2_with fail
  refine kc.mono ?_
  rintro e W3 ⟨rfl, hB3⟩
  have hg3 := hg2.below hB3
  have hB03 := Below.then hB02 hB3
  clear kc hg2 hB02 hB3
  go_wp2_with fail
  go_loopw [6] (fun t6 wr => ∃ i : Nat, i ≤ n ∧ t6 = .int .i64 (i : Int) ∧ Grown wr a c l ∧ Below w.heap.size w wr) (fun t6 _ => n - (Go.RowKit.intOf t6).toNat)
  case atStart => exact ⟨0, by omega, rfl, hg3, hB03⟩
  case round =>
    clear hg3 hB03
    obtain ⟨i, hi, rfl, hg, hB⟩ := hrel
    by_cases hlt : i < n
    · obtain ⟨x, hx⟩ : ∃ x, l[i]? = some x := ⟨_, List.getElem?_eq_getElem (by rw [hn.out]; exact hlt)⟩
      have hxm := List.mem_of_getElem? hx
      have hxn : x.n ∈ namesP l := List.mem_map.2 ⟨x, hxm, rfl⟩
      obtain ⟨y, rfl⟩ := hg.row.some_ hx
      have hc := hg.row.path hx
      have hps := (hF.slashed x hxm).2
      have hw0 := hT.way hxn
      go_wp2_with fail
      refine (rparent_any x.n.path (by omega) wr).mono ?_
      rintro e W4 ⟨rfl, hW4⟩
      subst hW4
      go_wp2_with fail
      go_loopw [7] (fun t7 wq => ∃ p, t7 = .string p ∧ OnWay (namesP l) x.n p ∧ Grown wq (some y) c l ∧ Below w.heap.size w wq) (fun t7 _ => strL t7)
      case atStart => exact ⟨_, rfl, hw0, hg, hB⟩
      case round =>
        clear hg hB hc hw0
        obtain ⟨p, rfl, hw, hg, hB⟩ := hrel
        rcases hw with rfl | ⟨d, hd, rfl, hdd, hov⟩
        · go_wp2_with fail
          exact ⟨⟨i + 1, by omega, by simp, hg, hB⟩, by simp [Go.RowKit.intOf]; omega⟩
        · obtain ⟨dp, hdp, rfl⟩ := mem_names hd
          obtain ⟨z, hz, hzn⟩ := findP_mem hO hdp
          have hpc := (nodC_zero.1 (hF.ok dp hdp)).1
          have hplt := parent_lt hpc
          have hpsz := (hF.slashed dp hdp).2
          have hne : dp.n.path.toList.isEmpty = false := by
            cases hb : dp.n.path.toList with
            | nil =>
              exfalso
              rw [toL] at hb
              have : dp.n.path.size = 0 := by show dp.n.path.data.size = 0; rw [← Array.length_toList, hb]; rfl
              omega
            | cons _ _ => rfl
          have hway := hT.way_up hxn hd hov
          have kfp := kf wr dp.n.path hg.row
          rw [hz] at kfp
          go_wp2_with fail
          refine kfp.mono ?_
          rintro e W5 ⟨f, rfl, hfn, hfa, hB5⟩
          replace hfn : f.n = dp.n := hfn.trans hzn
          have hg5 := hg.below hB5
          have hB05 := Below.then hB hB5
          obtain ⟨W6, hW6, hth, hbk, hB6⟩ := put_new W5 ndz 32 f.cs rfl (by rw [pn_len]; omega)
          have hg6 := hg5.below hB6
          have hB06 := Below.then hB05 hB6
          have hszf : (Tryd.prog.info? 32).map (·.size) = some f.cs.length := by rw [pn_len]; exact hszN
          have hone := pn_one f
          have hfl : CellsAt W6.drew ⟨W5.heap.size, 2, none⟩ [.int .i64 dp.n.label.s, .int .i64 dp.n.label.c, .int .i64 dp.n.label.i, .int .i64 dp.n.label.k] := by
            have q := pn_lab (p := f) (show CellsAt W6 ⟨W5.heap.size, 0, none⟩ f.cs from hbk.at)
            rw [hfn, Nat.zero_add] at q
            exact q
          have hfd : W6.drew.cell? ⟨W5.heap.size, 1, none⟩ = some (.bool true) := by
            have q := (hbk.1 1 _ rfl).1
            rw [hfn, hdd] at q
            exact q
          have hxl : CellsAt W6.drew ⟨(y.add (i * 16)).block, (y.add (i * 16)).off + 2, none⟩ [.int .i64 x.n.label.s, .int .i64 x.n.label.c, .int .i64 x.n.label.i, .int .i64 x.n.label.k] := pn_lab (hg6.row.r.at pn_len hx)
          have hS : (fun W => CellsAt W ⟨W5.heap.size, 2, none⟩ [.int .i64 dp.n.label.s, .int .i64 dp.n.label.c, .int .i64 dp.n.label.i, .int .i64 dp.n.label.k] ∧ W.cell? ⟨W5.heap.size, 1, none⟩ = some (.bool true) ∧ CellsAt W ⟨(y.add (i * 16)).block, (y.add (i * 16)).off + 2, none⟩ [.int .i64 x.n.label.s, .int .i64 x.n.label.c, .int .i64 x.n.label.i, .int .i64 x.n.label.k]) W6.drew := ⟨hfl, hfd, hxl⟩
          have ko := rlover_any x.n.label dp.n.label W6.drew
          rw [hov] at ko
          clear kfp hg hB hfl hfd hxl hbk hfa
          go_wp2_with (first | (refine wpList_store_row rfl _ _ rfl W5.heap.size rfl f.cs rfl hth hszf hone hW6 ?_) | fail)
          refine wp_region_held_drew (S := (fun W => CellsAt W ⟨W5.heap.size, 2, none⟩ [.int .i64 dp.n.label.s, .int .i64 dp.n.label.c, .int .i64 dp.n.label.i, .int .i64 dp.n.label.k] ∧ W.cell? ⟨W5.heap.size, 1, none⟩ = some (.bool true) ∧ CellsAt W ⟨(y.add (i * 16)).block, (y.add (i * 16)).off + 2, none⟩ [.int .i64 x.n.label.s, .int .i64 x.n.label.c, .int .i64 x.n.label.i, .int .i64 x.n.label.k])) (by kernel_rfl) (by first | exact hS1 | exact hS) ?_
          intro hHeld
          (first | (refine wpAnyH_take (i := 0) (v := ?_) (by simp only [gA, gB, gC]; rfl) (by kernel_rfl) (by kernel_rfl) (by kernel_rfl) (by exact fun _ _ _ h => h) (Or.inl ⟨by rfl, ?_⟩) (by assumption) ?_; rotate_left; (focus (intro w hSw; (try dsimp only at hSw); go_simp; try with_reducible rfl))) | (refine wpAnyH_take (i := 0) (v := undef) (by simp only [gA, gB, gC]; rfl) (by kernel_rfl) (by kernel_rfl) (by kernel_rfl) (by exact fun _ _ _ h => h) (Or.inr ⟨by rfl, rfl⟩) (by assumption) ?_) | fail); simp only [Act.put, sA, sB, sC, Bool.not_true, Bool.not_false]
          (first | (refine wpAnyH_take (i := 1) (v := ?_) (by simp only [gA, gB, gC]; rfl) (by kernel_rfl) (by kernel_rfl) (by kernel_rfl) (by exact fun _ _ _ h => h) (Or.inl ⟨by rfl, ?_⟩) (by assumption) ?_; rotate_left; (focus (intro w hSw; (try dsimp only at hSw); go_simp; try with_reducible rfl))) | (refine wpAnyH_take (i := 1) (v := undef) (by simp only [gA, gB, gC]; rfl) (by kernel_rfl) (by kernel_rfl) (by kernel_rfl) (by exact fun _ _ _ h => h) (Or.inr ⟨by rfl, rfl⟩) (by assumption) ?_) | fail); simp only [Act.put, sA, sB, sC, Bool.not_true, Bool.not_false]
          (first | (refine wpAnyH_take (i := 2) (v := ?_) (by simp only [gA, gB, gC]; rfl) (by kernel_rfl) (by kernel_rfl) (by kernel_rfl) (by exact fun _ _ _ h => h) (Or.inl ⟨by rfl, ?_⟩) (by assumption) ?_; rotate_left; (focus (intro w hSw; (try dsimp only at hSw); go_simp; try with_reducible rfl))) | (refine wpAnyH_take (i := 2) (v := undef) (by simp only [gA, gB, gC]; rfl) (by kernel_rfl) (by kernel_rfl) (by kernel_rfl) (by exact fun _ _ _ h => h) (Or.inr ⟨by rfl, rfl⟩) (by assumption) ?_) | fail); simp only [Act.put, sA, sB, sC, Bool.not_true, Bool.not_false]
          (first | (refine wpAnyH_take (i := 3) (v := ?_) (by simp only [gA, gB, gC]; rfl) (by kernel_rfl) (by kernel_rfl) (by kernel_rfl) (by exact fun _ _ _ h => h) (Or.inl ⟨by rfl, ?_⟩) (by assumption) ?_; rotate_left; (focus (intro w hSw; (try dsimp only at hSw); go_simp; try with_reducible rfl))) | (refine wpAnyH_take (i := 3) (v := undef) (by simp only [gA, gB, gC]; rfl) (by kernel_rfl) (by kernel_rfl) (by kernel_rfl) (by exact fun _ _ _ h => h) (Or.inr ⟨by rfl, rfl⟩) (by assumption) ?_) | fail); simp only [Act.put, sA, sB, sC, Bool.not_true, Bool.not_false]
          (first | (refine wpAnyH_take (i := 4) (v := _) (by simp only [gA, gB, gC]; rfl) (by kernel_rfl) (by kernel_rfl) (by kernel_rfl) (by exact fun _ _ _ h => h) (yields_one (by rfl) _ rfl ⟨W5.heap.size, 1, none⟩ rfl (.bool true) (fun _ q => q.2.1) bool_load) (by assumption) ?_) | (refine wpAnyH_take (i := 4) (v := undef) (by simp only [gA, gB, gC]; rfl) (by kernel_rfl) (by kernel_rfl) (by kernel_rfl) (by exact fun _ _ _ h => h) (Or.inr ⟨by rfl, rfl⟩) (by assumption) ?_) | fail); simp only [Act.put, sA, sB, sC, Bool.not_true, Bool.not_false]
          (first | (refine wpAnyH_take (i := 5) (v := ?_) (by simp only [gA, gB, gC]; rfl) (by kernel_rfl) (by kernel_rfl) (by kernel_rfl) (by exact fun _ _ _ h => h) (Or.inl ⟨by rfl, ?_⟩) (by assumption) ?_; rotate_left; (focus (intro w hSw; (try dsimp only at hSw); go_simp; try with_reducible rfl))) | (refine wpAnyH_take (i := 5) (v := undef) (by simp only [gA, gB, gC]; rfl) (by kernel_rfl) (by kernel_rfl) (by kernel_rfl) (by exact fun _ _ _ h => h) (Or.inr ⟨by rfl, rfl⟩) (by assumption) ?_) | fail); simp only [Act.put, sA, sB, sC, Bool.not_true, Bool.not_false]
          (first | (refine wpAnyH_take (i := 6) (v := ?_) (by simp only [gA, gB, gC]; rfl) (by kernel_rfl) (by kernel_rfl) (by kernel_rfl) (by exact fun _ _ _ h => h) (Or.inl ⟨by rfl, ?_⟩) (by assumption) ?_; rotate_left; (focus (intro w hSw; (try dsimp only at hSw); go_simp; try with_reducible rfl))) | (refine wpAnyH_take (i := 6) (v := undef) (by simp only [gA, gB, gC]; rfl) (by kernel_rfl) (by kernel_rfl) (by kernel_rfl) (by exact fun _ _ _ h => h) (Or.inr ⟨by rfl, rfl⟩) (by assumption) ?_) | fail); simp only [Act.put, sA, sB, sC, Bool.not_true, Bool.not_false]
          (first | (refine wpAnyH_take (i := 7) (v := ?_) (by simp only [gA, gB, gC]; rfl) (by kernel_rfl) (by kernel_rfl) (by kernel_rfl) (by exact fun _ _ _ h => h) (Or.inl ⟨by rfl, ?_⟩) (by assumption) ?_; rotate_left; (focus (intro w hSw; (try dsimp only at hSw); go_simp; try with_reducible rfl))) | (refine wpAnyH_take (i := 7) (v := undef) (by simp only [gA, gB, gC]; rfl) (by kernel_rfl) (by kernel_rfl) (by kernel_rfl) (by exact fun _ _ _ h => h) (Or.inr ⟨by rfl, rfl⟩) (by assumption) ?_) | fail); simp only [Act.put, sA, sB, sC, Bool.not_true, Bool.not_false]
          (first | (refine wpAnyH_take (i := 8) (v := ?_) (by simp only [gA, gB, gC]; rfl) (by kernel_rfl) (by kernel_rfl) (by kernel_rfl) (by exact fun _ _ _ h => h) (Or.inl ⟨by rfl, ?_⟩) (by assumption) ?_; rotate_left; (focus (intro w hSw; (try dsimp only at hSw); go_simp; try with_reducible rfl))) | (refine wpAnyH_take (i := 8) (v := undef) (by simp only [gA, gB, gC]; rfl) (by kernel_rfl) (by kernel_rfl) (by kernel_rfl) (by exact fun _ _ _ h => h) (Or.inr ⟨by rfl, rfl⟩) (by assumption) ?_) | fail); simp only [Act.put, sA, sB, sC, Bool.not_true, Bool.not_false]
          (first | (refine wpAnyH_take (i := 9) (v := ?_) (by simp only [gA, gB, gC]; rfl) (by kernel_rfl) (by kernel_rfl) (by kernel_rfl) (by exact fun _ _ _ h => h) (Or.inl ⟨by rfl, ?_⟩) (by assumption) ?_; rotate_left; (focus (intro w hSw; (try dsimp only at hSw); go_simp; try with_reducible rfl))) | (refine wpAnyH_take (i := 9) (v := undef) (by simp only [gA, gB, gC]; rfl) (by kernel_rfl) (by kernel_rfl) (by kernel_rfl) (by exact fun _ _ _ h => h) (Or.inr ⟨by rfl, rfl⟩) (by assumption) ?_) | fail); simp only [Act.put, sA, sB, sC, Bool.not_true, Bool.not_false]
          (first | (refine wpAnyH_take (i := 10) (v := ?_) (by simp only [gA, gB, gC]; rfl) (by kernel_rfl) (by kernel_rfl) (by kernel_rfl) (by exact fun _ _ _ h => h) (Or.inl ⟨by rfl, ?_⟩) (by assumption) ?_; rotate_left; (focus (intro w hSw; (try dsimp only at hSw); go_simp; try with_reducible rfl))) | (refine wpAnyH_take (i := 10) (v := undef) (by simp only [gA, gB, gC]; rfl) (by kernel_rfl) (by kernel_rfl) (by kernel_rfl) (by exact fun _ _ _ h => h) (Or.inr ⟨by rfl, rfl⟩) (by assumption) ?_) | fail); simp only [Act.put, sA, sB, sC, Bool.not_true, Bool.not_false]
          (first | (refine wpAnyH_take (i := 11) (v := ?_) (by simp only [gA, gB, gC]; rfl) (by kernel_rfl) (by kernel_rfl) (by kernel_rfl) (by exact fun _ _ _ h => h) (Or.inl ⟨by rfl, ?_⟩) (by assumption) ?_; rotate_left; (focus (intro w hSw; (try dsimp only at hSw); go_simp; try with_reducible rfl))) | (refine wpAnyH_take (i := 11) (v := undef) (by simp only [gA, gB, gC]; rfl) (by kernel_rfl) (by kernel_rfl) (by kernel_rfl) (by exact fun _ _ _ h => h) (Or.inr ⟨by rfl, rfl⟩) (by assumption) ?_) | fail); simp only [Act.put, sA, sB, sC, Bool.not_true, Bool.not_false]
          (first | (refine wpAnyH_take (i := 12) (v := _) (by simp only [gA, gB, gC]; rfl) (by kernel_rfl) (by kernel_rfl) (by kernel_rfl) (by exact fun _ _ _ h => h) (yields_at (by rfl) _ rfl _ rfl [.int .i64 x.n.label.s, .int .i64 x.n.label.c, .int .i64 x.n.label.i, .int .i64 x.n.label.k] (fun _ q => q.2.2) Tryd.underlying26 rfl hsl) (by assumption) ?_) | (refine wpAnyH_take (i := 12) (v := undef) (by simp only [gA, gB, gC]; rfl) (by kernel_rfl) (by kernel_rfl) (by kernel_rfl) (by exact fun _ _ _ h => h) (Or.inr ⟨by rfl, rfl⟩) (by assumption) ?_) | fail); simp only [Act.put, sA, sB, sC, Bool.not_true, Bool.not_false]
          (first | (refine wpAnyH_take (i := 13) (v := ?_) (by simp only [gA, gB, gC]; rfl) (by kernel_rfl) (by kernel_rfl) (by kernel_rfl) (by exact fun _ _ _ h => h) (Or.inl ⟨by rfl, ?_⟩) (by assumption) ?_; rotate_left; (focus (intro w hSw; (try dsimp only at hSw); go_simp; try with_reducible rfl))) | (refine wpAnyH_take (i := 13) (v := undef) (by simp only [gA, gB, gC]; rfl) (by kernel_rfl) (by kernel_rfl) (by kernel_rfl) (by exact fun _ _ _ h => h) (Or.inr ⟨by rfl, rfl⟩) (by assumption) ?_) | fail); simp only [Act.put, sA, sB, sC, Bool.not_true, Bool.not_false]
          (first | (refine wpAnyH_take (i := 14) (v := _) (by simp only [gA, gB, gC]; rfl) (by kernel_rfl) (by kernel_rfl) (by kernel_rfl) (by exact fun _ _ _ h => h) (yields_at (by rfl) _ rfl _ rfl [.int .i64 dp.n.label.s, .int .i64 dp.n.label.c, .int .i64 dp.n.label.i, .int .i64 dp.n.label.k] (fun _ q => q.1) Tryd.underlying26 rfl hsl) (by assumption) ?_) | (refine wpAnyH_take (i := 14) (v := undef) (by simp only [gA, gB, gC]; rfl) (by kernel_rfl) (by kernel_rfl) (by kernel_rfl) (by exact fun _ _ _ h => h) (Or.inr ⟨by rfl, rfl⟩) (by assumption) ?_) | fail); simp only [Act.put, sA, sB, sC, Bool.not_true, Bool.not_false]
          first | (refine wpAnyH_take (i := 15) (v := undef) (by simp only [gA, gB, gC]; rfl) (by kernel_rfl) (by kernel_rfl) (by kernel_rfl) (by exact fun _ _ _ h => h) (Or.inr ⟨by rfl, rfl⟩) (by assumption) ?_; simp only [Act.put, sA, sB, sC, Bool.not_true, Bool.not_false]) | (refine wpAnyH_ready (rs := [15]) (by kernel_rfl) (by simp) ?_; refine AllReadyH.cons (by simp only [gA, gB, gC]; rfl) (fun K hK => ?_) AllReadyH.nil; go_simp; (first | (go_at_call 29; refine ko.mono ?_; rintro e W7 ⟨rfl, hB7⟩; have hS1 : (fun W => CellsAt W ⟨W5.heap.size, 2, none⟩ [.int .i64 dp.n.label.s, .int .i64 dp.n.label.c, .int .i64 dp.n.label.i, .int .i64 dp.n.label.k] ∧ W.cell? ⟨W5.heap.size, 1, none⟩ = some (.bool true) ∧ CellsAt W ⟨(y.add (i * 16)).block, (y.add (i * 16)).off + 2, none⟩ [.int .i64 x.n.label.s, .int .i64 x.n.label.c, .int .i64 x.n.label.i, .int .i64 x.n.label.k]) W7 := ⟨hS.1.below hB7, (hB7.cell (World.block_lt_of_cell? _ _ hS.2.1)).trans hS.2.1, hS.2.2.below hB7⟩)); refine hK.out _ _ (by first | exact hS1 | exact hS) ?_; clear hHeld hK; intro hHeld; (try simp only [Act.put, sA, sB, sC, Bool.not_true, Bool.not_false])) | fail
          (first | (refine wpAnyH_take (i := 16) (v := ?_) (by simp only [gA, gB, gC]; rfl) (by kernel_rfl) (by kernel_rfl) (by kernel_rfl) (by exact fun _ _ _ h => h) (Or.inl ⟨by rfl, ?_⟩) (by assumption) ?_; rotate_left; (focus (intro w hSw; (try dsimp only at hSw); go_simp; try with_reducible rfl))) | (refine wpAnyH_take (i := 16) (v := undef) (by simp only [gA, gB, gC]; rfl) (by kernel_rfl) (by kernel_rfl) (by kernel_rfl) (by exact fun _ _ _ h => h) (Or.inr ⟨by rfl, rfl⟩) (by assumption) ?_) | fail); simp only [Act.put, sA, sB, sC, Bool.not_true, Bool.not_false]
          (first | (refine wpAnyH_take (i := 17) (v := ?_) (by simp only [gA, gB, gC]; rfl) (by kernel_rfl) (by kernel_rfl) (by kernel_rfl) (by exact fun _ _ _ h => h) (Or.inl ⟨by rfl, ?_⟩) (by assumption) ?_; rotate_left; (focus (intro w hSw; (try dsimp only at hSw); go_simp; try with_reducible rfl))) | (refine wpAnyH_take (i := 17) (v := undef) (by simp only [gA, gB, gC]; rfl) (by kernel_rfl) (by kernel_rfl) (by kernel_rfl) (by exact fun _ _ _ h => h) (Or.inr ⟨by rfl, rfl⟩) (by assumption) ?_) | fail); simp only [Act.put, sA, sB, sC, Bool.not_true, Bool.not_false]
          refine wpAnyH_done (by kernel_rfl) ?_ _
          have hb67 : Below W6.heap.size W6 W7 := Below.then (Below.refl _ _).drew hB7
          have hg7 := hg6.below hb67
          have hB07 := Below.then hB06 hb67
          clear ko hS hS1 hg6 hB06
          go_wp2_with fail
          refine (rparent_any dp.n.path (by omega) W7).mono ?_
          rintro e W8 ⟨rfl, hW8⟩
          subst hW8
          go_wp2_with fail
          exact ⟨⟨_, rfl, hway, hg7, hB07⟩, by simp [strL]; omega⟩
    · obtain rfl : i = n := by omega
      go_wp2_with fail
      go_ret
      exact ⟨rfl, hB⟩
end Go.Proofs.YtacjfbomjglnjaaDoor
