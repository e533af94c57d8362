/-
  P1503: pointers as words: the law's walk. Written by mk_isaptr.py.
-/
import Derived.Test.YtolccbdogfmcaaaIsaWordsWalk
namespace Go.Proofs.Ytolccbdogfmcaaa
open Go.RowKit
set_option maxRecDepth 8000
set_option linter.unusedSimpArgs false
set_option linter.unusedVariables false

section
variable {ops : Array Oper} {o : Oper} {a : Act} {w : World} {Q : Exit → Act → World → Prop}
theorem step_store_rowI {T : TypeId} {K : Act → World → Prop} {E : Prop} {W : World} (hg : o.guard = none) (x y : Operand) (ho : o.op = .store T x y) (b : Nat) (hx : a.eval x = .pointer (some ⟨b, 0, none⟩)) (cs : List Value) (hy : a.eval y = .agg cs.toArray)
    (ht : w.there b 0 cs.length) (hi : (Try.prog.info? T).map (·.size) = some cs.length) (h1 : ∀ v ∈ cs, v.oneCell' = true) (hW : w.setCells b 0 cs = W) (hK : K (a.put o.dst undef) W) :
    if Region.wanted o (yielded ops a.tmps) = true then Oper.wp Try.prog o a w K Q else E := by
  have hw : Region.wanted o (yielded ops a.tmps) = true := by simp [Region.wanted, hg]
  rw [if_pos hw]
  exact wp_store_mid T x y ho b 0 cs.toArray hx hy ht hi (all_oneCell_toArray h1) (hW ▸ hK)
end
theorem ptr3_one (i : Ptr) : ∀ v ∈ ptr3 i, v.oneCell' = true := fun v hv => by simp [ptr3] at hv; rcases hv with rfl | rfl | rfl <;> rfl
theorem w15_bel (k m : Int) (h0 : 0 < m) (h1 : m < 1000000000000) (w : World) :
    Calls Try.prog 16 #[.int .i64 k, .int .i64 m] w fun e w' => e = .returned (.int .i64 (k % m)) ∧ Below w.heap.size w w' :=
  (w15_any k m h0 h1 w).mono fun e w' h => ⟨h.1, by rw [h.2]; exact Below.refl _ _⟩
set_option maxRecDepth 8000 in
set_option maxHeartbeats 8000000 in
theorem isaPointers_walk {I : World → Prop} (C : IsaOk I) (p : Ptr) (x : Int) (hx : fit64 x) (w : World) (hI : ∀ W, Below w.heap.size w W → I W) :
    Calls Try.prog 4 #[p.v, .int .i64 x] w fun r w' => r = .returned (.bool true) ∧ Below w.heap.size w w' := by
  have hund := Try.underlying37
  have hsz : (Try.prog.info? 37).map (·.size) = some 3 := by kernel_rfl
  have hb0 := blkl_alloc w (ptr3 p).toArray 37
  have hB0 := alloc_below w (.cells (ptr3 p).toArray 37)
  replace hb0 : BlkL w.heap.size (ptr3 p) (w.alloc (.cells (ptr3 p).toArray 37)) := hb0
  have kE := fun (W : World) (q : Below w.heap.size w W) => C.encP p W (hI _ q)
  have kR := fun (W : World) => riEncP_any p W
  have kD := fun (W : World) (q : Below w.heap.size w W) => C.decP x hx W (hI _ q)
  have kS := fun (W : World) => riDecP_any x hx W
  have hback := ptr_back p
  have kQ := fun (W : World) (q : Below w.heap.size w W) => C.encP (goodP p) W (hI _ q)
  have kB := fun (W : World) (q : Below w.heap.size w W) => C.decP (ptrW (goodP p)) (ptrW_fit _) W (hI _ q)
  simp only [hback] at kB
  have k1 := w15_bel p.s 65536 (by decide) (by decide)
  have k2 := w15_bel p.f 4294967296 (by decide) (by decide)
  have k3 := w15_bel p.r 8 (by decide) (by decide)
  obtain ⟨V, hV⟩ : ∃ V, ptrW p = V := ⟨_, rfl⟩
  obtain ⟨D, hD⟩ : ∃ D, wPtr x = D := ⟨_, rfl⟩
  obtain ⟨U, hU⟩ : ∃ U, ptrW (goodP p) = U := ⟨_, rfl⟩
  obtain ⟨q, hq⟩ : ∃ q, goodP p = q := ⟨_, rfl⟩
  simp only [hV] at kE kR
  simp only [hD] at kD kS
  simp only [hU, hq] at kQ kB
  have hq1 : p.s % 65536 = q.s := by rw [← hq]; rfl
  have hq2 : p.f % 4294967296 = q.f := by rw [← hq]; rfl
  have hq3 : p.r % 8 = q.r := by rw [← hq]; rfl
  rw [hq1] at k1
  rw [hq2] at k2
  rw [hq3] at k3
  have hnq := run_neq_ptr D D
  rw [ptrQ_self] at hnq
  have heq := run_eql_ptr q q
  rw [ptrQ_self] at heq
  clear hV hD hU hq hq1 hq2 hq3 hback
  go_enter Try.func4, Try.ntmps4
  go_upto_region 1 with fail
  generalize w.alloc (.cells #[.int .i64 p.s, .int .i64 p.f, .int .i64 p.r] 37) = W0 at *
  go_wp2_with fail
  refine (iknown_any C W0 (hI _ hB0)).mono ?_
  rintro e W1 ⟨rfl, hB1⟩
  have hb1 := stab_blk _ _ _ _ hb0 hB1
  replace hB1 := Below.then hB0 hB1
  clear hb0 hB0
  go_upto_region 3 with fail
  have hS0 : Below W1.heap.size W1 W1.drew := (Below.refl _ _).drew
  refine wp_region_held_drew (S := (fun W => Below W1.heap.size W1 W)) (by kernel_rfl) (by exact hS0) ?_
  intro hHeld
  generalize W1.drew = w0 at *
  refine wpAnyH_take (i := 0) (v := _) (by simp only [List.getElem?_toArray, List.getElem?_cons_zero, List.getElem?_cons_succ]; rfl) (by kernel_rfl) (by kernel_rfl) (by kernel_rfl) (by exact fun _ _ _ h => h) (yields_row (by rfl) _ rfl w.heap.size rfl (ptr3 p) (fun _ q => (stab_blk _ _ _ _ hb1 q).range) hund rfl hsz) (by assumption) ?_; (try simp only [Act.put, List.setIfInBounds_toArray, List.set_cons_zero, List.set_cons_succ])
  refine wpAnyH_take (i := 2) (v := _) (by simp only [List.getElem?_toArray, List.getElem?_cons_zero, List.getElem?_cons_succ]; rfl) (by kernel_rfl) (by kernel_rfl) (by kernel_rfl) (by exact fun _ _ _ h => h) (yields_row (by rfl) _ rfl w.heap.size rfl (ptr3 p) (fun _ q => (stab_blk _ _ _ _ hb1 q).range) hund rfl hsz) (by assumption) ?_; (try simp only [Act.put, List.setIfInBounds_toArray, List.set_cons_zero, List.set_cons_succ])
  refine wpAnyH_ready (rs := [1]) (by kernel_rfl) (by simp) ?_
  refine AllReadyH.cons (by simp only [List.getElem?_toArray, List.getElem?_cons_zero, List.getElem?_cons_succ]; rfl) (fun K hK => ?_) AllReadyH.nil
  go_simp
  go_at_call 12
  refine (kE w0 (Below.then hB1 hS0)).mono ?_
  rintro e w1 ⟨rfl, hb⟩
  have hS1 := Below.then hS0 hb
  clear hb
  refine hK.out _ _ (by exact hS1) ?_
  clear hHeld hK
  intro hHeld
  (try simp only [Act.put, List.setIfInBounds_toArray, List.set_cons_zero, List.set_cons_succ])
  refine wpAnyH_ready (rs := [3]) (by kernel_rfl) (by simp) ?_
  refine AllReadyH.cons (by simp only [List.getElem?_toArray, List.getElem?_cons_zero, List.getElem?_cons_succ]; rfl) (fun K hK => ?_) AllReadyH.nil
  go_simp
  go_at_call 13
  refine (kR w1).mono ?_
  rintro e w2 ⟨rfl, hb⟩
  have hS2 := Below.then hS1 hb
  clear hb
  refine hK.out _ _ (by exact hS2) ?_
  clear hHeld hK
  intro hHeld
  (try simp only [Act.put, List.setIfInBounds_toArray, List.set_cons_zero, List.set_cons_succ])
  refine wpAnyH_take (i := 4) (v := ?_) (by simp only [List.getElem?_toArray, List.getElem?_cons_zero, List.getElem?_cons_succ]; rfl) (by kernel_rfl) (by kernel_rfl) (by kernel_rfl) (by exact fun _ _ _ h => h) (Or.inl ⟨by rfl, ?_⟩) (by assumption) ?_; rotate_left; (focus (intro w hSw; (try dsimp only at hSw); go_simp; try with_reducible rfl)); (try simp only [Act.put, List.setIfInBounds_toArray, List.set_cons_zero, List.set_cons_succ])
  refine wpAnyH_take (i := 5) (v := ?_) (by simp only [List.getElem?_toArray, List.getElem?_cons_zero, List.getElem?_cons_succ]; rfl) (by kernel_rfl) (by kernel_rfl) (by kernel_rfl) (by exact fun _ _ _ h => h) (Or.inl ⟨by rfl, ?_⟩) (by assumption) ?_; rotate_left; (focus (intro w hSw; (try dsimp only at hSw); go_simp; try with_reducible rfl)); (try simp only [Act.put, List.setIfInBounds_toArray, List.set_cons_zero, List.set_cons_succ])
  refine wpAnyH_take (i := 6) (v := ?_) (by simp only [List.getElem?_toArray, List.getElem?_cons_zero, List.getElem?_cons_succ]; rfl) (by kernel_rfl) (by kernel_rfl) (by kernel_rfl) (by exact fun _ _ _ h => h) (Or.inl ⟨by rfl, ?_⟩) (by assumption) ?_; rotate_left; (focus (intro w hSw; (try dsimp only at hSw); go_simp; try with_reducible rfl)); (try simp only [Act.put, List.setIfInBounds_toArray, List.set_cons_zero, List.set_cons_succ])
  refine wpAnyH_take (i := 8) (v := ?_) (by simp only [List.getElem?_toArray, List.getElem?_cons_zero, List.getElem?_cons_succ]; rfl) (by kernel_rfl) (by kernel_rfl) (by kernel_rfl) (by exact fun _ _ _ h => h) (Or.inl ⟨by rfl, ?_⟩) (by assumption) ?_; rotate_left; (focus (intro w hSw; (try dsimp only at hSw); go_simp; try with_reducible rfl)); (try simp only [Act.put, List.setIfInBounds_toArray, List.set_cons_zero, List.set_cons_succ])
  refine wpAnyH_ready (rs := [7]) (by kernel_rfl) (by simp) ?_
  refine AllReadyH.cons (by simp only [List.getElem?_toArray, List.getElem?_cons_zero, List.getElem?_cons_succ]; rfl) (fun K hK => ?_) AllReadyH.nil
  go_simp
  go_at_call 14
  refine (kD w2 (Below.then hB1 hS2)).mono ?_
  rintro e w3 ⟨rfl, hb⟩
  have hS3 := Below.then hS2 hb
  clear hb
  refine hK.out _ _ (by exact hS3) ?_
  clear hHeld hK
  intro hHeld
  (try simp only [Act.put, List.setIfInBounds_toArray, List.set_cons_zero, List.set_cons_succ])
  refine wpAnyH_ready (rs := [9]) (by kernel_rfl) (by simp) ?_
  refine AllReadyH.cons (by simp only [List.getElem?_toArray, List.getElem?_cons_zero, List.getElem?_cons_succ]; rfl) (fun K hK => ?_) AllReadyH.nil
  go_simp
  go_at_call 15
  refine (kS w3).mono ?_
  rintro e w4 ⟨rfl, hb⟩
  have hS4 := Below.then hS3 hb
  clear hb
  refine hK.out _ _ (by exact hS4) ?_
  clear hHeld hK
  intro hHeld
  (try simp only [Act.put, List.setIfInBounds_toArray, List.set_cons_zero, List.set_cons_succ])
  refine wpAnyH_take (i := 10) (v := ?_) (by simp only [List.getElem?_toArray, List.getElem?_cons_zero, List.getElem?_cons_succ]; rfl) (by kernel_rfl) (by kernel_rfl) (by kernel_rfl) (by exact fun _ _ _ h => h) (Or.inl ⟨by rfl, ?_⟩) (by assumption) ?_; rotate_left; (focus (intro w hSw; (try dsimp only at hSw); go_simp; try with_reducible rfl)); (try simp only [Act.put, List.setIfInBounds_toArray, List.set_cons_zero, List.set_cons_succ])
  refine wpAnyH_take (i := 11) (v := ?_) (by simp only [List.getElem?_toArray, List.getElem?_cons_zero, List.getElem?_cons_succ]; rfl) (by kernel_rfl) (by kernel_rfl) (by kernel_rfl) (by exact fun _ _ _ h => h) (Or.inl ⟨by rfl, ?_⟩) (by assumption) ?_; rotate_left; (focus (intro w hSw; (try dsimp only at hSw); go_simp; try with_reducible rfl)); (try simp only [Act.put, List.setIfInBounds_toArray, List.set_cons_zero, List.set_cons_succ])
  refine wpAnyH_done (by kernel_rfl) ?_ _
  have hb4 := stab_blk _ _ _ _ hb1 hS4
  have hB4 := Below.then hB1 hS4
  clear hHeld kE kR kD kS
  go_upto_region 5 with fail
  obtain ⟨Z5, hZ5⟩ : ∃ Z5, Z5 = w4 := ⟨_, rfl⟩
  rw [← hZ5] at hb4 hB4 ⊢
  clear hZ5
  go_cut [5] from 20 to 29 (fun s5 wc => ∃ g, s5 = .pointer (some ⟨g, 0, none⟩) ∧ BlkL g (ptr3 q) wc ∧ Below Z5.heap.size Z5 wc)
  case first =>
    have hS0 : Below Z5.heap.size Z5 Z5.drew := (Below.refl _ _).drew
    refine wp_region_held_drew (S := (fun W => Below Z5.heap.size Z5 W)) (by kernel_rfl) (by exact hS0) ?_
    intro hHeld
    generalize Z5.drew = w0 at *
    refine wpAnyH_take (i := 0) (v := ?_) (by simp only [List.getElem?_toArray, List.getElem?_cons_zero, List.getElem?_cons_succ]; rfl) (by kernel_rfl) (by kernel_rfl) (by kernel_rfl) (by exact fun _ _ _ h => h) (Or.inl ⟨by rfl, ?_⟩) (by assumption) ?_; rotate_left; (focus (intro w hSw; (try dsimp only at hSw); go_simp; try with_reducible rfl)); (try simp only [Act.put, List.setIfInBounds_toArray, List.set_cons_zero, List.set_cons_succ])
    refine wpAnyH_take (i := 1) (v := _) (by simp only [List.getElem?_toArray, List.getElem?_cons_zero, List.getElem?_cons_succ]; rfl) (by kernel_rfl) (by kernel_rfl) (by kernel_rfl) (by exact fun _ _ _ h => h) (yields_cellI (by rfl) _ rfl ⟨w.heap.size, 0, none⟩ rfl (.int .i64 p.s) (fun _ q => ((stab_blk _ _ _ _ hb4 q).1 0 _ rfl).1) intI_load) (by assumption) ?_; (try simp only [Act.put, List.setIfInBounds_toArray, List.set_cons_zero, List.set_cons_succ])
    refine wpAnyH_take (i := 3) (v := ?_) (by simp only [List.getElem?_toArray, List.getElem?_cons_zero, List.getElem?_cons_succ]; rfl) (by kernel_rfl) (by kernel_rfl) (by kernel_rfl) (by exact fun _ _ _ h => h) (Or.inl ⟨by rfl, ?_⟩) (by assumption) ?_; rotate_left; (focus (intro w hSw; (try dsimp only at hSw); go_simp; try with_reducible rfl)); (try simp only [Act.put, List.setIfInBounds_toArray, List.set_cons_zero, List.set_cons_succ])
    refine wpAnyH_take (i := 4) (v := _) (by simp only [List.getElem?_toArray, List.getElem?_cons_zero, List.getElem?_cons_succ]; rfl) (by kernel_rfl) (by kernel_rfl) (by kernel_rfl) (by exact fun _ _ _ h => h) (yields_cellI (by rfl) _ rfl ⟨w.heap.size, 1, none⟩ rfl (.int .i64 p.f) (fun _ q => ((stab_blk _ _ _ _ hb4 q).1 1 _ rfl).1) intI_load) (by assumption) ?_; (try simp only [Act.put, List.setIfInBounds_toArray, List.set_cons_zero, List.set_cons_succ])
    refine wpAnyH_take (i := 6) (v := ?_) (by simp only [List.getElem?_toArray, List.getElem?_cons_zero, List.getElem?_cons_succ]; rfl) (by kernel_rfl) (by kernel_rfl) (by kernel_rfl) (by exact fun _ _ _ h => h) (Or.inl ⟨by rfl, ?_⟩) (by assumption) ?_; rotate_left; (focus (intro w hSw; (try dsimp only at hSw); go_simp; try with_reducible rfl)); (try simp only [Act.put, List.setIfInBounds_toArray, List.set_cons_zero, List.set_cons_succ])
    refine wpAnyH_take (i := 7) (v := _) (by simp only [List.getElem?_toArray, List.getElem?_cons_zero, List.getElem?_cons_succ]; rfl) (by kernel_rfl) (by kernel_rfl) (by kernel_rfl) (by exact fun _ _ _ h => h) (yields_cellI (by rfl) _ rfl ⟨w.heap.size, 2, none⟩ rfl (.int .i64 p.r) (fun _ q => ((stab_blk _ _ _ _ hb4 q).1 2 _ rfl).1) intI_load) (by assumption) ?_; (try simp only [Act.put, List.setIfInBounds_toArray, List.set_cons_zero, List.set_cons_succ])
    refine wpAnyH_ready (rs := [2, 10]) (by kernel_rfl) (by simp) ?_
    refine AllReadyH.cons (by simp only [List.getElem?_toArray, List.getElem?_cons_zero, List.getElem?_cons_succ]; rfl) (fun K hK => ?_) ?_
    · go_simp
      go_at_call 16
      refine (k1 w0).mono ?_
      rintro e w1 ⟨rfl, hb⟩
      have hS1 := Below.then hS0 hb
      refine hK.out _ _ (hS1) ?_
      clear hHeld hK
      intro hHeld
      clear hb
      (try simp only [Act.put, List.setIfInBounds_toArray, List.set_cons_zero, List.set_cons_succ])
      refine wpAnyH_ready (rs := [5, 10]) (by kernel_rfl) (by simp) ?_
      refine AllReadyH.cons (by simp only [List.getElem?_toArray, List.getElem?_cons_zero, List.getElem?_cons_succ]; rfl) (fun K hK => ?_) ?_
      · go_simp
        go_at_call 16
        refine (k2 w1).mono ?_
        rintro e w2 ⟨rfl, hb⟩
        have hS2 := Below.then hS1 hb
        refine hK.out _ _ (hS2) ?_
        clear hHeld hK
        intro hHeld
        clear hb
        (try simp only [Act.put, List.setIfInBounds_toArray, List.set_cons_zero, List.set_cons_succ])
        refine wpAnyH_ready (rs := [8, 10]) (by kernel_rfl) (by simp) ?_
        refine AllReadyH.cons (by simp only [List.getElem?_toArray, List.getElem?_cons_zero, List.getElem?_cons_succ]; rfl) (fun K hK => ?_) ?_
        · go_simp
          go_at_call 16
          refine (k3 w2).mono ?_
          rintro e w3 ⟨rfl, hb⟩
          have hS3 := Below.then hS2 hb
          refine hK.out _ _ (hS3) ?_
          clear hHeld hK
          intro hHeld
          clear hb
          (try simp only [Act.put, List.setIfInBounds_toArray, List.set_cons_zero, List.set_cons_succ])
          refine wpAnyH_take (i := 9) (v := ?_) (by simp only [List.getElem?_toArray, List.getElem?_cons_zero, List.getElem?_cons_succ]; rfl) (by kernel_rfl) (by kernel_rfl) (by kernel_rfl) (by exact fun _ _ _ h => h) (Or.inl ⟨by rfl, ?_⟩) (by assumption) ?_; rotate_left; (focus (intro w hSw; (try dsimp only at hSw); go_simp; try with_reducible rfl)); (try simp only [Act.put, List.setIfInBounds_toArray, List.set_cons_zero, List.set_cons_succ])
          refine wpAnyH_ready (rs := [10]) (by kernel_rfl) (by simp) ?_
          refine AllReadyH.cons (by simp only [List.getElem?_toArray, List.getElem?_cons_zero, List.getElem?_cons_succ]; rfl) (fun K hK => ?_) AllReadyH.nil
          go_simp
          refine hK.out _ _ (Below.then hS3 (alloc_below _ _)) ?_
          clear hHeld hK
          intro hHeld
          have hb := alloc_below w3 (.cells #[.int .i64 0, .int .i64 0, .int .i64 0] 37)
          have hbn4 := blkl_alloc w3 #[.int .i64 0, .int .i64 0, .int .i64 0] 37
          have hpb4 := hb
          have hS4 := Below.then hS3 hb
          generalize hwx : w3.alloc (.cells #[.int .i64 0, .int .i64 0, .int .i64 0] 37) = w4 at *
          clear hwx hb
          (try simp only [Act.put, List.setIfInBounds_toArray, List.set_cons_zero, List.set_cons_succ])
          refine wpAnyH_ready (rs := [11]) (by kernel_rfl) (by simp) ?_
          refine AllReadyH.cons (by simp only [List.getElem?_toArray, List.getElem?_cons_zero, List.getElem?_cons_succ]; rfl) (fun K hK => ?_) AllReadyH.nil
          have hthz : w4.there w3.heap.size 0 ((ptr3 q) : List Value).length := hbn4.1.there
          obtain ⟨wz, hwz⟩ : ∃ wz, w4.setCells w3.heap.size 0 (ptr3 q) = wz := ⟨_, rfl⟩
          have hbz1 : Blk wz w3.heap.size (ptr3 q) := by rw [← hwz]; exact hbn4.1.setAll rfl
          have hBz : Below w3.heap.size w3 wz := by rw [← hwz]; exact Below.cells (Nat.le_refl _) _ 0 hpb4
          have hSz := Below.then hS3 hBz
          refine step_store_rowI rfl _ _ rfl w3.heap.size rfl ((ptr3 q)) rfl hthz hsz (ptr3_one q) hwz ?_
          (try simp only [Act.put, List.setIfInBounds_toArray, List.set_cons_zero, List.set_cons_succ])
          refine hK.out _ _ (hSz) ?_
          clear hHeld hK
          intro hHeld
          (try simp only [Act.put, List.setIfInBounds_toArray, List.set_cons_zero, List.set_cons_succ])
          refine wpAnyH_done (by kernel_rfl) ?_ _
          go_wp2_with fail
          go_meet
          exact ⟨_, rfl, ⟨hbz1, hbz1.lt rfl⟩, hSz⟩
        refine AllReadyH.cons (by simp only [List.getElem?_toArray, List.getElem?_cons_zero, List.getElem?_cons_succ]; rfl) (fun K hK => ?_) AllReadyH.nil
        go_simp
        refine hK.out _ _ (Below.then hS2 (alloc_below _ _)) ?_
        clear hHeld hK
        intro hHeld
        have hb := alloc_below w2 (.cells #[.int .i64 0, .int .i64 0, .int .i64 0] 37)
        have hbn3 := blkl_alloc w2 #[.int .i64 0, .int .i64 0, .int .i64 0] 37
        have hpb3 := hb
        have hS3 := Below.then hS2 hb
        generalize hwx : w2.alloc (.cells #[.int .i64 0, .int .i64 0, .int .i64 0] 37) = w3 at *
        clear hwx hb
        (try simp only [Act.put, List.setIfInBounds_toArray, List.set_cons_zero, List.set_cons_succ])
        refine wpAnyH_ready (rs := [8]) (by kernel_rfl) (by simp) ?_
        refine AllReadyH.cons (by simp only [List.getElem?_toArray, List.getElem?_cons_zero, List.getElem?_cons_succ]; rfl) (fun K hK => ?_) AllReadyH.nil
        go_simp
        go_at_call 16
        refine (k3 w3).mono ?_
        rintro e w4 ⟨rfl, hb⟩
        have hS4 := Below.then hS3 hb
        have hbn4 := stab_blk _ _ _ _ hbn3 hb
        have hpb4 := Below.then hpb3 hb
        refine hK.out _ _ (hS4) ?_
        clear hHeld hK
        intro hHeld
        clear hb
        (try simp only [Act.put, List.setIfInBounds_toArray, List.set_cons_zero, List.set_cons_succ])
        refine wpAnyH_take (i := 9) (v := ?_) (by simp only [List.getElem?_toArray, List.getElem?_cons_zero, List.getElem?_cons_succ]; rfl) (by kernel_rfl) (by kernel_rfl) (by kernel_rfl) (by exact fun _ _ _ h => h) (Or.inl ⟨by rfl, ?_⟩) (by assumption) ?_; rotate_left; (focus (intro w hSw; (try dsimp only at hSw); go_simp; try with_reducible rfl)); (try simp only [Act.put, List.setIfInBounds_toArray, List.set_cons_zero, List.set_cons_succ])
        refine wpAnyH_ready (rs := [11]) (by kernel_rfl) (by simp) ?_
        refine AllReadyH.cons (by simp only [List.getElem?_toArray, List.getElem?_cons_zero, List.getElem?_cons_succ]; rfl) (fun K hK => ?_) AllReadyH.nil
        have hthz : w4.there w2.heap.size 0 ((ptr3 q) : List Value).length := hbn4.1.there
        obtain ⟨wz, hwz⟩ : ∃ wz, w4.setCells w2.heap.size 0 (ptr3 q) = wz := ⟨_, rfl⟩
        have hbz1 : Blk wz w2.heap.size (ptr3 q) := by rw [← hwz]; exact hbn4.1.setAll rfl
        have hBz : Below w2.heap.size w2 wz := by rw [← hwz]; exact Below.cells (Nat.le_refl _) _ 0 hpb4
        have hSz := Below.then hS2 hBz
        refine step_store_rowI rfl _ _ rfl w2.heap.size rfl ((ptr3 q)) rfl hthz hsz (ptr3_one q) hwz ?_
        (try simp only [Act.put, List.setIfInBounds_toArray, List.set_cons_zero, List.set_cons_succ])
        refine hK.out _ _ (hSz) ?_
        clear hHeld hK
        intro hHeld
        (try simp only [Act.put, List.setIfInBounds_toArray, List.set_cons_zero, List.set_cons_succ])
        refine wpAnyH_done (by kernel_rfl) ?_ _
        go_wp2_with fail
        go_meet
        exact ⟨_, rfl, ⟨hbz1, hbz1.lt rfl⟩, hSz⟩
      refine AllReadyH.cons (by simp only [List.getElem?_toArray, List.getElem?_cons_zero, List.getElem?_cons_succ]; rfl) (fun K hK => ?_) AllReadyH.nil
      go_simp
      refine hK.out _ _ (Below.then hS1 (alloc_below _ _)) ?_
      clear hHeld hK
      intro hHeld
      have hb := alloc_below w1 (.cells #[.int .i64 0, .int .i64 0, .int .i64 0] 37)
      have hbn2 := blkl_alloc w1 #[.int .i64 0, .int .i64 0, .int .i64 0] 37
      have hpb2 := hb
      have hS2 := Below.then hS1 hb
      generalize hwx : w1.alloc (.cells #[.int .i64 0, .int .i64 0, .int .i64 0] 37) = w2 at *
      clear hwx hb
      (try simp only [Act.put, List.setIfInBounds_toArray, List.set_cons_zero, List.set_cons_succ])
      refine wpAnyH_ready (rs := [5]) (by kernel_rfl) (by simp) ?_
      refine AllReadyH.cons (by simp only [List.getElem?_toArray, List.getElem?_cons_zero, List.getElem?_cons_succ]; rfl) (fun K hK => ?_) AllReadyH.nil
      go_simp
      go_at_call 16
      refine (k2 w2).mono ?_
      rintro e w3 ⟨rfl, hb⟩
      have hS3 := Below.then hS2 hb
      have hbn3 := stab_blk _ _ _ _ hbn2 hb
      have hpb3 := Below.then hpb2 hb
      refine hK.out _ _ (hS3) ?_
      clear hHeld hK
      intro hHeld
      clear hb
      (try simp only [Act.put, List.setIfInBounds_toArray, List.set_cons_zero, List.set_cons_succ])
      refine wpAnyH_ready (rs := [8]) (by kernel_rfl) (by simp) ?_
      refine AllReadyH.cons (by simp only [List.getElem?_toArray, List.getElem?_cons_zero, List.getElem?_cons_succ]; rfl) (fun K hK => ?_) AllReadyH.nil
      go_simp
      go_at_call 16
      refine (k3 w3).mono ?_
      rintro e w4 ⟨rfl, hb⟩
      have hS4 := Below.then hS3 hb
      have hbn4 := stab_blk _ _ _ _ hbn3 hb
      have hpb4 := Below.then hpb3 hb
      refine hK.out _ _ (hS4) ?_
      clear hHeld hK
      intro hHeld
      clear hb
      (try simp only [Act.put, List.setIfInBounds_toArray, List.set_cons_zero, List.set_cons_succ])
      refine wpAnyH_take (i := 9) (v := ?_) (by simp only [List.getElem?_toArray, List.getElem?_cons_zero, List.getElem?_cons_succ]; rfl) (by kernel_rfl) (by kernel_rfl) (by kernel_rfl) (by exact fun _ _ _ h => h) (Or.inl ⟨by rfl, ?_⟩) (by assumption) ?_; rotate_left; (focus (intro w hSw; (try dsimp only at hSw); go_simp; try with_reducible rfl)); (try simp only [Act.put, List.setIfInBounds_toArray, List.set_cons_zero, List.set_cons_succ])
      refine wpAnyH_ready (rs := [11]) (by kernel_rfl) (by simp) ?_
      refine AllReadyH.cons (by simp only [List.getElem?_toArray, List.getElem?_cons_zero, List.getElem?_cons_succ]; rfl) (fun K hK => ?_) AllReadyH.nil
      have hthz : w4.there w1.heap.size 0 ((ptr3 q) : List Value).length := hbn4.1.there
      obtain ⟨wz, hwz⟩ : ∃ wz, w4.setCells w1.heap.size 0 (ptr3 q) = wz := ⟨_, rfl⟩
      have hbz1 : Blk wz w1.heap.size (ptr3 q) := by rw [← hwz]; exact hbn4.1.setAll rfl
      have hBz : Below w1.heap.size w1 wz := by rw [← hwz]; exact Below.cells (Nat.le_refl _) _ 0 hpb4
      have hSz := Below.then hS1 hBz
      refine step_store_rowI rfl _ _ rfl w1.heap.size rfl ((ptr3 q)) rfl hthz hsz (ptr3_one q) hwz ?_
      (try simp only [Act.put, List.setIfInBounds_toArray, List.set_cons_zero, List.set_cons_succ])
      refine hK.out _ _ (hSz) ?_
      clear hHeld hK
      intro hHeld
      (try simp only [Act.put, List.setIfInBounds_toArray, List.set_cons_zero, List.set_cons_succ])
      refine wpAnyH_done (by kernel_rfl) ?_ _
      go_wp2_with fail
      go_meet
      exact ⟨_, rfl, ⟨hbz1, hbz1.lt rfl⟩, hSz⟩
    refine AllReadyH.cons (by simp only [List.getElem?_toArray, List.getElem?_cons_zero, List.getElem?_cons_succ]; rfl) (fun K hK => ?_) AllReadyH.nil
    go_simp
    refine hK.out _ _ (Below.then hS0 (alloc_below _ _)) ?_
    clear hHeld hK
    intro hHeld
    have hb := alloc_below w0 (.cells #[.int .i64 0, .int .i64 0, .int .i64 0] 37)
    have hbn1 := blkl_alloc w0 #[.int .i64 0, .int .i64 0, .int .i64 0] 37
    have hpb1 := hb
    have hS1 := Below.then hS0 hb
    generalize hwx : w0.alloc (.cells #[.int .i64 0, .int .i64 0, .int .i64 0] 37) = w1 at *
    clear hwx hb
    (try simp only [Act.put, List.setIfInBounds_toArray, List.set_cons_zero, List.set_cons_succ])
    refine wpAnyH_ready (rs := [2]) (by kernel_rfl) (by simp) ?_
    refine AllReadyH.cons (by simp only [List.getElem?_toArray, List.getElem?_cons_zero, List.getElem?_cons_succ]; rfl) (fun K hK => ?_) AllReadyH.nil
    go_simp
    go_at_call 16
    refine (k1 w1).mono ?_
    rintro e w2 ⟨rfl, hb⟩
    have hS2 := Below.then hS1 hb
    have hbn2 := stab_blk _ _ _ _ hbn1 hb
    have hpb2 := Below.then hpb1 hb
    refine hK.out _ _ (hS2) ?_
    clear hHeld hK
    intro hHeld
    clear hb
    (try simp only [Act.put, List.setIfInBounds_toArray, List.set_cons_zero, List.set_cons_succ])
    refine wpAnyH_ready (rs := [5]) (by kernel_rfl) (by simp) ?_
    refine AllReadyH.cons (by simp only [List.getElem?_toArray, List.getElem?_cons_zero, List.getElem?_cons_succ]; rfl) (fun K hK => ?_) AllReadyH.nil
    go_simp
    go_at_call 16
    refine (k2 w2).mono ?_
    rintro e w3 ⟨rfl, hb⟩
    have hS3 := Below.then hS2 hb
    have hbn3 := stab_blk _ _ _ _ hbn2 hb
    have hpb3 := Below.then hpb2 hb
    refine hK.out _ _ (hS3) ?_
    clear hHeld hK
    intro hHeld
    clear hb
    (try simp only [Act.put, List.setIfInBounds_toArray, List.set_cons_zero, List.set_cons_succ])
    refine wpAnyH_ready (rs := [8]) (by kernel_rfl) (by simp) ?_
    refine AllReadyH.cons (by simp only [List.getElem?_toArray, List.getElem?_cons_zero, List.getElem?_cons_succ]; rfl) (fun K hK => ?_) AllReadyH.nil
    go_simp
    go_at_call 16
    refine (k3 w3).mono ?_
    rintro e w4 ⟨rfl, hb⟩
    have hS4 := Below.then hS3 hb
    have hbn4 := stab_blk _ _ _ _ hbn3 hb
    have hpb4 := Below.then hpb3 hb
    refine hK.out _ _ (hS4) ?_
    clear hHeld hK
    intro hHeld
    clear hb
    (try simp only [Act.put, List.setIfInBounds_toArray, List.set_cons_zero, List.set_cons_succ])
    refine wpAnyH_take (i := 9) (v := ?_) (by simp only [List.getElem?_toArray, List.getElem?_cons_zero, List.getElem?_cons_succ]; rfl) (by kernel_rfl) (by kernel_rfl) (by kernel_rfl) (by exact fun _ _ _ h => h) (Or.inl ⟨by rfl, ?_⟩) (by assumption) ?_; rotate_left; (focus (intro w hSw; (try dsimp only at hSw); go_simp; try with_reducible rfl)); (try simp only [Act.put, List.setIfInBounds_toArray, List.set_cons_zero, List.set_cons_succ])
    refine wpAnyH_ready (rs := [11]) (by kernel_rfl) (by simp) ?_
    refine AllReadyH.cons (by simp only [List.getElem?_toArray, List.getElem?_cons_zero, List.getElem?_cons_succ]; rfl) (fun K hK => ?_) AllReadyH.nil
    have hthz : w4.there w0.heap.size 0 ((ptr3 q) : List Value).length := hbn4.1.there
    obtain ⟨wz, hwz⟩ : ∃ wz, w4.setCells w0.heap.size 0 (ptr3 q) = wz := ⟨_, rfl⟩
    have hbz1 : Blk wz w0.heap.size (ptr3 q) := by rw [← hwz]; exact hbn4.1.setAll rfl
    have hBz : Below w0.heap.size w0 wz := by rw [← hwz]; exact Below.cells (Nat.le_refl _) _ 0 hpb4
    have hSz := Below.then hS0 hBz
    refine step_store_rowI rfl _ _ rfl w0.heap.size rfl ((ptr3 q)) rfl hthz hsz (ptr3_one q) hwz ?_
    (try simp only [Act.put, List.setIfInBounds_toArray, List.set_cons_zero, List.set_cons_succ])
    refine hK.out _ _ (hSz) ?_
    clear hHeld hK
    intro hHeld
    (try simp only [Act.put, List.setIfInBounds_toArray, List.set_cons_zero, List.set_cons_succ])
    refine wpAnyH_done (by kernel_rfl) ?_ _
    go_wp2_with fail
    go_meet
    exact ⟨_, rfl, ⟨hbz1, hbz1.lt rfl⟩, hSz⟩
  case rest =>
  obtain ⟨g, rfl, hb6, hd⟩ := hcut
  have hB6 := Below.then hB4 hd
  obtain ⟨W6, hW6⟩ : ∃ W6, W6 = wc := ⟨_, rfl⟩
  rw [← hW6] at hb6 hB6 ⊢
  clear hW6 hb1 hb4 hB1 hB4 hd k1 k2 k3
  go_upto_region 6 with fail
  have hS0 : Below W6.heap.size W6 W6.drew := (Below.refl _ _).drew
  refine wp_region_held_drew (S := (fun W => Below W6.heap.size W6 W)) (by kernel_rfl) (by exact hS0) ?_
  intro hHeld
  generalize W6.drew = w0 at *
  refine wpAnyH_take (i := 0) (v := _) (by simp only [List.getElem?_toArray, List.getElem?_cons_zero, List.getElem?_cons_succ]; rfl) (by kernel_rfl) (by kernel_rfl) (by kernel_rfl) (by exact fun _ _ _ h => h) (yields_row (by rfl) _ rfl g rfl (ptr3 q) (fun _ q => (stab_blk _ _ _ _ hb6 q).range) hund rfl hsz) (by assumption) ?_; (try simp only [Act.put, List.setIfInBounds_toArray, List.set_cons_zero, List.set_cons_succ])
  refine wpAnyH_take (i := 3) (v := _) (by simp only [List.getElem?_toArray, List.getElem?_cons_zero, List.getElem?_cons_succ]; rfl) (by kernel_rfl) (by kernel_rfl) (by kernel_rfl) (by exact fun _ _ _ h => h) (yields_row (by rfl) _ rfl g rfl (ptr3 q) (fun _ q => (stab_blk _ _ _ _ hb6 q).range) hund rfl hsz) (by assumption) ?_; (try simp only [Act.put, List.setIfInBounds_toArray, List.set_cons_zero, List.set_cons_succ])
  refine wpAnyH_ready (rs := [1]) (by kernel_rfl) (by simp) ?_
  refine AllReadyH.cons (by simp only [List.getElem?_toArray, List.getElem?_cons_zero, List.getElem?_cons_succ]; rfl) (fun K hK => ?_) AllReadyH.nil
  go_simp
  go_at_call 12
  refine (kQ w0 (Below.then hB6 hS0)).mono ?_
  rintro e w1 ⟨rfl, hb⟩
  have hS1 := Below.then hS0 hb
  clear hb
  refine hK.out _ _ (by exact hS1) ?_
  clear hHeld hK
  intro hHeld
  (try simp only [Act.put, List.setIfInBounds_toArray, List.set_cons_zero, List.set_cons_succ])
  refine wpAnyH_ready (rs := [2]) (by kernel_rfl) (by simp) ?_
  refine AllReadyH.cons (by simp only [List.getElem?_toArray, List.getElem?_cons_zero, List.getElem?_cons_succ]; rfl) (fun K hK => ?_) AllReadyH.nil
  go_simp
  go_at_call 14
  refine (kB w1 (Below.then hB6 hS1)).mono ?_
  rintro e w2 ⟨rfl, hb⟩
  have hS2 := Below.then hS1 hb
  clear hb
  refine hK.out _ _ (by exact hS2) ?_
  clear hHeld hK
  intro hHeld
  (try simp only [Act.put, List.setIfInBounds_toArray, List.set_cons_zero, List.set_cons_succ])
  refine wpAnyH_take (i := 4) (v := ?_) (by simp only [List.getElem?_toArray, List.getElem?_cons_zero, List.getElem?_cons_succ]; rfl) (by kernel_rfl) (by kernel_rfl) (by kernel_rfl) (by exact fun _ _ _ h => h) (Or.inl ⟨by rfl, ?_⟩) (by assumption) ?_; rotate_left; (focus (intro w hSw; (try dsimp only at hSw); go_simp; try with_reducible rfl)); (try simp only [Act.put, List.setIfInBounds_toArray, List.set_cons_zero, List.set_cons_succ])
  refine wpAnyH_take (i := 5) (v := ?_) (by simp only [List.getElem?_toArray, List.getElem?_cons_zero, List.getElem?_cons_succ]; rfl) (by kernel_rfl) (by kernel_rfl) (by kernel_rfl) (by exact fun _ _ _ h => h) (Or.inl ⟨by rfl, ?_⟩) (by assumption) ?_; rotate_left; (focus (intro w hSw; (try dsimp only at hSw); go_simp; try with_reducible rfl)); (try simp only [Act.put, List.setIfInBounds_toArray, List.set_cons_zero, List.set_cons_succ])
  refine wpAnyH_done (by kernel_rfl) ?_ _
  have hfin := Below.then hB6 hS2
  go_wp2_with fail
  go_ret
  exact ⟨rfl, hfin⟩
end Go.Proofs.Ytolccbdogfmcaaa
