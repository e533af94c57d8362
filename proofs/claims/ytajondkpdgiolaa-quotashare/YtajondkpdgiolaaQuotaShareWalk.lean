/-
  P1201: a label has Share nodes at most, whatever others have: the law's walk. Written by mk_quota.py.
-/
import Derived.Test.YtajondkpdgiolaaQuotaBase
namespace Go.Proofs.Ytajondkpdgiolaa
open Go.RowKit
set_option maxRecDepth 8000
set_option linter.unusedSimpArgs false
set_option linter.unusedVariables false

/-- The nodes that the law lays. -/
def shP (p : UInt8) (by_ lb : Lab) : PN := ⟨⟨⟨#[47, p]⟩, false, lb, [], 0, 0, 0, 0, [], by_⟩, none, 0, none, 0⟩
theorem cnt_rep {n m : Nat} {A B : Lab} (hne : A ≠ B) : cntBy (namesP (List.replicate n (shP 97 A B) ++ List.replicate m (shP 98 B A))) A = n ∧ cntBy (namesP (List.replicate n (shP 97 A B) ++ List.replicate m (shP 98 B A))) B = m := by
  unfold cntBy namesP
  rw [List.map_append, List.map_replicate, List.map_replicate]
  constructor
  · rw [List.countP_append, List.countP_replicate, List.countP_replicate, if_pos (by exact labEq_self A), if_neg (by rw [show labEq (shP 98 B A).n.by_ A = labEq B A from rfl, labEq_ne (Ne.symm hne)]; decide)]
    rfl
  · rw [List.countP_append, List.countP_replicate, List.countP_replicate, if_neg (by rw [show labEq (shP 97 A B).n.by_ B = labEq A B from rfl, labEq_ne hne]; decide), if_pos (by exact labEq_self B)]
    omega
set_option maxRecDepth 20000 in
set_option maxHeartbeats 8000000 in
theorem quotaShare_walk {Q : World → List Nat → Addr → List Lab → Prop} (C : Cnts3 Q) (kn : ∀ (a : Option Addr) (cap : Nat) (l : List PN) (b : Lab) (w : World), l.length ≤ 1000 → RowAt 16 PN.cs w a l → Calls Try.prog 10 #[.slice a l.length cap, b.v] w fun e w' => e = .returned (.int .i64 ((cntBy (namesP l) b : Nat) : Int)) ∧ Below w.heap.size w w') (km : ∀ (a : Option Addr) (cap : Nat) (l : List PN) (b : Lab) (w : World), l.length ≤ 1000 → RowAt 16 PN.cs w a l → Calls Try.prog 12 #[.slice a l.length cap, b.v] w fun e w' => e = .returned (.int .i64 (mayQ (cntBy (namesP l) b))) ∧ Below w.heap.size w w') (a b : Lab) (n m : Int) (w : World) :
    Calls Try.prog 6 #[a.v, b.v, .int .i64 n, .int .i64 m] w fun e w' => e = .returned (.bool true) ∧ Below w.heap.size w w' := by
  have hundL := Try.underlying25
  have hsl : (Try.prog.info? 25).map (·.size) = some 4 := by kernel_rfl
  have hba := stab_blk _ _ _ _ (blkl_alloc w (lab4 a).toArray 25) (alloc_below _ (.cells (lab4 b).toArray 25))
  have hbb := blkl_alloc (w.alloc (.cells (lab4 a).toArray 25)) (lab4 b).toArray 25
  have hB0 := Below.then (alloc_below w (.cells (lab4 a).toArray 25)) (alloc_below _ (.cells (lab4 b).toArray 25))
  rw [show (w.alloc (.cells (lab4 a).toArray 25)).heap.size = w.heap.size + 1 from by simp] at hbb
  replace hba : BlkL w.heap.size (lab4 a) ((w.alloc (.cells (lab4 a).toArray 25)).alloc (.cells (lab4 b).toArray 25)) := hba
  replace hbb : BlkL (w.heap.size + 1) (lab4 b) ((w.alloc (.cells (lab4 a).toArray 25)).alloc (.cells (lab4 b).toArray 25)) := hbb
  go_enter Try.func6, Try.ntmps6
  go_wp2_with fail
  generalize (w.alloc (.cells #[.int .i64 a.s, .int .i64 a.c, .int .i64 a.i, .int .i64 a.k] 25)).alloc (.cells #[.int .i64 b.s, .int .i64 b.c, .int .i64 b.i, .int .i64 b.k] 25) = W0 at *
  refine (qknown_any C W0).mono ?_
  rintro e Z ⟨rfl, hBk⟩
  have hB := Below.then hB0 hBk
  replace hba := stab_blk _ _ _ _ hba hBk
  replace hbb := stab_blk _ _ _ _ hbb hBk
  clear hB0 hBk
  go_upto_region 3 with fail
  go_cut [2, 3] from 14 (fun s2 s3 wc => s2 = .int .i64 (n % 30) ∧ s3 = .int .i64 (m % 30) ∧ Below w.heap.size w wc ∧ BlkL w.heap.size (lab4 (goodL a)) wc ∧ BlkL (w.heap.size + 1) (lab4 (goodL b)) wc)
  case first =>
    refine wp_region_held_drew (S := (fun _ : World => True)) (by kernel_rfl) (trivial) ?_
    intro hHeld
    have hBd : Below Z.heap.size Z Z.drew := (Below.refl _ _).drew
    have hB0 := Below.then hB hBd
    have hL0_0 := stab_blk _ _ _ _ hba hBd
    have hL1_0 := stab_blk _ _ _ _ hbb hBd
    clear hBd
    generalize Z.drew = w0 at *
    refine wpAnyH_take (i := 4) (v := ?_) (by simp only [List.getElem?_toArray, List.getElem?_cons_zero, List.getElem?_cons_succ]; rfl) (by kernel_rfl) (by kernel_rfl) (by kernel_rfl) (by exact fun _ _ _ h => h) (Or.inl ⟨by rfl, ?_⟩) (by assumption) ?_; rotate_left; (focus (intro w hSw; (try dsimp only at hSw); go_simp; try with_reducible rfl)); (try simp only [Act.put, List.setIfInBounds_toArray, List.set_cons_zero, List.set_cons_succ])
    refine wpAnyH_take (i := 6) (v := ?_) (by simp only [List.getElem?_toArray, List.getElem?_cons_zero, List.getElem?_cons_succ]; rfl) (by kernel_rfl) (by kernel_rfl) (by kernel_rfl) (by exact fun _ _ _ h => h) (Or.inl ⟨by rfl, ?_⟩) (by assumption) ?_; rotate_left; (focus (intro w hSw; (try dsimp only at hSw); go_simp; try with_reducible rfl)); (try simp only [Act.put, List.setIfInBounds_toArray, List.set_cons_zero, List.set_cons_succ])
    refine wpAnyH_ready (rs := [0, 2]) (by kernel_rfl) (by simp) ?_
    refine AllReadyH.cons (by simp only [List.getElem?_toArray, List.getElem?_cons_zero, List.getElem?_cons_succ]; rfl) (fun K hK => ?_) ?_
    · skip
      refine step_load_row rfl _ rfl w.heap.size rfl (lab4 a) hL0_0.range hundL rfl hsl ?_
      (try simp only [Act.put, List.setIfInBounds_toArray, List.set_cons_zero, List.set_cons_succ])
      refine hK.out _ _ (trivial) ?_
      clear hHeld hK
      intro hHeld
      (try simp only [Act.put, List.setIfInBounds_toArray, List.set_cons_zero, List.set_cons_succ])
      refine wpAnyH_ready (rs := [1, 2]) (by kernel_rfl) (by simp) ?_
      refine AllReadyH.cons (by simp only [List.getElem?_toArray, List.getElem?_cons_zero, List.getElem?_cons_succ]; rfl) (fun K hK => ?_) ?_
      · go_simp
        go_at_call 9
        refine (good_any a _).mono ?_
        rintro e w1 ⟨rfl, hb⟩
        have hB1 := Below.then hB0 hb
        have hL0_1 := stab_blk _ _ _ _ hL0_0 hb
        have hL1_1 := stab_blk _ _ _ _ hL1_0 hb
        clear hB0 hL0_0 hL1_0
        refine hK.out _ _ (trivial) ?_
        clear hHeld hK
        intro hHeld
        clear hb
        (try simp only [Act.put, List.setIfInBounds_toArray, List.set_cons_zero, List.set_cons_succ])
        refine wpAnyH_ready (rs := [2]) (by kernel_rfl) (by simp) ?_
        refine AllReadyH.cons (by simp only [List.getElem?_toArray, List.getElem?_cons_zero, List.getElem?_cons_succ]; rfl) (fun K hK => ?_) AllReadyH.nil
        refine step_load_row rfl _ rfl (w.heap.size + 1) rfl (lab4 b) hL1_1.range hundL rfl hsl ?_
        (try simp only [Act.put, List.setIfInBounds_toArray, List.set_cons_zero, List.set_cons_succ])
        refine hK.out _ _ (trivial) ?_
        clear hHeld hK
        intro hHeld
        (try simp only [Act.put, List.setIfInBounds_toArray, List.set_cons_zero, List.set_cons_succ])
        refine wpAnyH_ready (rs := [3]) (by kernel_rfl) (by simp) ?_
        refine AllReadyH.cons (by simp only [List.getElem?_toArray, List.getElem?_cons_zero, List.getElem?_cons_succ]; rfl) (fun K hK => ?_) AllReadyH.nil
        go_simp
        go_at_call 9
        refine (good_any b _).mono ?_
        rintro e w2 ⟨rfl, hb⟩
        have hB2 := Below.then hB1 hb
        have hL0_2 := stab_blk _ _ _ _ hL0_1 hb
        have hL1_2 := stab_blk _ _ _ _ hL1_1 hb
        clear hB1 hL0_1 hL1_1
        refine hK.out _ _ (trivial) ?_
        clear hHeld hK
        intro hHeld
        clear hb
        (try simp only [Act.put, List.setIfInBounds_toArray, List.set_cons_zero, List.set_cons_succ])
        refine wpAnyH_ready (rs := [5]) (by kernel_rfl) (by simp) ?_
        refine AllReadyH.cons (by simp only [List.getElem?_toArray, List.getElem?_cons_zero, List.getElem?_cons_succ]; rfl) (fun K hK => ?_) AllReadyH.nil
        go_simp
        go_at_call 21
        refine (w12_any n 30 (by decide) (by decide) _).mono ?_
        rintro e w3 ⟨rfl, hww⟩
        have hb : Below w2.heap.size w2 w3 := by rw [hww]; exact Below.refl _ _
        have hB3 := Below.then hB2 hb
        have hL0_3 := stab_blk _ _ _ _ hL0_2 hb
        have hL1_3 := stab_blk _ _ _ _ hL1_2 hb
        clear hB2 hL0_2 hL1_2
        refine hK.out _ _ (trivial) ?_
        clear hHeld hK
        intro hHeld
        clear hb hww
        (try simp only [Act.put, List.setIfInBounds_toArray, List.set_cons_zero, List.set_cons_succ])
        refine wpAnyH_ready (rs := [7]) (by kernel_rfl) (by simp) ?_
        refine AllReadyH.cons (by simp only [List.getElem?_toArray, List.getElem?_cons_zero, List.getElem?_cons_succ]; rfl) (fun K hK => ?_) AllReadyH.nil
        go_simp
        go_at_call 21
        refine (w12_any m 30 (by decide) (by decide) _).mono ?_
        rintro e w4 ⟨rfl, hww⟩
        have hb : Below w3.heap.size w3 w4 := by rw [hww]; exact Below.refl _ _
        have hB4 := Below.then hB3 hb
        have hL0_4 := stab_blk _ _ _ _ hL0_3 hb
        have hL1_4 := stab_blk _ _ _ _ hL1_3 hb
        clear hB3 hL0_3 hL1_3
        refine hK.out _ _ (trivial) ?_
        clear hHeld hK
        intro hHeld
        clear hb hww
        (try simp only [Act.put, List.setIfInBounds_toArray, List.set_cons_zero, List.set_cons_succ])
        refine wpAnyH_ready (rs := [8]) (by kernel_rfl) (by simp) ?_
        refine AllReadyH.cons (by simp only [List.getElem?_toArray, List.getElem?_cons_zero, List.getElem?_cons_succ]; rfl) (fun K hK => ?_) AllReadyH.nil
        obtain ⟨w5, hw5, hth5, hbk5, hB5⟩ := put_mid hL0_4 0 (lab4 (goodL a)) (by simp) (by simp) hB4 (by omega)
        have hL0_5 : BlkL w.heap.size (lab4 (goodL a)) w5 := hbk5
        have hL1_5 : BlkL (w.heap.size + 1) (lab4 b) w5 := hL1_4.other hw5 (by omega)
        refine step_store_part rfl _ _ rfl w.heap.size 0 rfl (lab4 (goodL a)) rfl hth5 hsl (lab4_one _) hw5 ?_
        (try simp only [Act.put, List.setIfInBounds_toArray, List.set_cons_zero, List.set_cons_succ])
        refine hK.out _ _ (trivial) ?_
        clear hHeld hK
        intro hHeld
        clear hB4 hw5 hth5 hbk5 hL0_4 hL1_4
        (try simp only [Act.put, List.setIfInBounds_toArray, List.set_cons_zero, List.set_cons_succ])
        refine wpAnyH_ready (rs := [9]) (by kernel_rfl) (by simp) ?_
        refine AllReadyH.cons (by simp only [List.getElem?_toArray, List.getElem?_cons_zero, List.getElem?_cons_succ]; rfl) (fun K hK => ?_) AllReadyH.nil
        obtain ⟨w6, hw6, hth6, hbk6, hB6⟩ := put_mid hL1_5 0 (lab4 (goodL b)) (by simp) (by simp) hB5 (by omega)
        have hL0_6 : BlkL w.heap.size (lab4 (goodL a)) w6 := hL0_5.other hw6 (by omega)
        have hL1_6 : BlkL (w.heap.size + 1) (lab4 (goodL b)) w6 := hbk6
        refine step_store_part rfl _ _ rfl (w.heap.size + 1) 0 rfl (lab4 (goodL b)) rfl hth6 hsl (lab4_one _) hw6 ?_
        (try simp only [Act.put, List.setIfInBounds_toArray, List.set_cons_zero, List.set_cons_succ])
        refine hK.out _ _ (trivial) ?_
        clear hHeld hK
        intro hHeld
        clear hB5 hw6 hth6 hbk6 hL0_5 hL1_5
        (try simp only [Act.put, List.setIfInBounds_toArray, List.set_cons_zero, List.set_cons_succ])
        refine wpAnyH_take (i := 10) (v := ?_) (by simp only [List.getElem?_toArray, List.getElem?_cons_zero, List.getElem?_cons_succ]; rfl) (by kernel_rfl) (by kernel_rfl) (by kernel_rfl) (by exact fun _ _ _ h => h) (Or.inl ⟨by rfl, ?_⟩) (by assumption) ?_; rotate_left; (focus (intro w hSw; (try dsimp only at hSw); go_simp; try with_reducible rfl)); (try simp only [Act.put, List.setIfInBounds_toArray, List.set_cons_zero, List.set_cons_succ])
        refine wpAnyH_take (i := 11) (v := ?_) (by simp only [List.getElem?_toArray, List.getElem?_cons_zero, List.getElem?_cons_succ]; rfl) (by kernel_rfl) (by kernel_rfl) (by kernel_rfl) (by exact fun _ _ _ h => h) (Or.inl ⟨by rfl, ?_⟩) (by assumption) ?_; rotate_left; (focus (intro w hSw; (try dsimp only at hSw); go_simp; try with_reducible rfl)); (try simp only [Act.put, List.setIfInBounds_toArray, List.set_cons_zero, List.set_cons_succ])
        refine wpAnyH_done (by kernel_rfl) ?_ _
        go_wp2_with fail
        go_meet
        exact ⟨rfl, rfl, hB6, hL0_6, hL1_6⟩
      refine AllReadyH.cons (by simp only [List.getElem?_toArray, List.getElem?_cons_zero, List.getElem?_cons_succ]; rfl) (fun K hK => ?_) AllReadyH.nil
      refine step_load_row rfl _ rfl (w.heap.size + 1) rfl (lab4 b) hL1_0.range hundL rfl hsl ?_
      (try simp only [Act.put, List.setIfInBounds_toArray, List.set_cons_zero, List.set_cons_succ])
      refine hK.out _ _ (trivial) ?_
      clear hHeld hK
      intro hHeld
      (try simp only [Act.put, List.setIfInBounds_toArray, List.set_cons_zero, List.set_cons_succ])
      refine wpAnyH_ready (rs := [1]) (by kernel_rfl) (by simp) ?_
      refine AllReadyH.cons (by simp only [List.getElem?_toArray, List.getElem?_cons_zero, List.getElem?_cons_succ]; rfl) (fun K hK => ?_) AllReadyH.nil
      go_simp
      go_at_call 9
      refine (good_any a _).mono ?_
      rintro e w1 ⟨rfl, hb⟩
      have hB1 := Below.then hB0 hb
      have hL0_1 := stab_blk _ _ _ _ hL0_0 hb
      have hL1_1 := stab_blk _ _ _ _ hL1_0 hb
      clear hB0 hL0_0 hL1_0
      refine hK.out _ _ (trivial) ?_
      clear hHeld hK
      intro hHeld
      clear hb
      (try simp only [Act.put, List.setIfInBounds_toArray, List.set_cons_zero, List.set_cons_succ])
      refine wpAnyH_ready (rs := [3]) (by kernel_rfl) (by simp) ?_
      refine AllReadyH.cons (by simp only [List.getElem?_toArray, List.getElem?_cons_zero, List.getElem?_cons_succ]; rfl) (fun K hK => ?_) AllReadyH.nil
      go_simp
      go_at_call 9
      refine (good_any b _).mono ?_
      rintro e w2 ⟨rfl, hb⟩
      have hB2 := Below.then hB1 hb
      have hL0_2 := stab_blk _ _ _ _ hL0_1 hb
      have hL1_2 := stab_blk _ _ _ _ hL1_1 hb
      clear hB1 hL0_1 hL1_1
      refine hK.out _ _ (trivial) ?_
      clear hHeld hK
      intro hHeld
      clear hb
      (try simp only [Act.put, List.setIfInBounds_toArray, List.set_cons_zero, List.set_cons_succ])
      refine wpAnyH_ready (rs := [5]) (by kernel_rfl) (by simp) ?_
      refine AllReadyH.cons (by simp only [List.getElem?_toArray, List.getElem?_cons_zero, List.getElem?_cons_succ]; rfl) (fun K hK => ?_) AllReadyH.nil
      go_simp
      go_at_call 21
      refine (w12_any n 30 (by decide) (by decide) _).mono ?_
      rintro e w3 ⟨rfl, hww⟩
      have hb : Below w2.heap.size w2 w3 := by rw [hww]; exact Below.refl _ _
      have hB3 := Below.then hB2 hb
      have hL0_3 := stab_blk _ _ _ _ hL0_2 hb
      have hL1_3 := stab_blk _ _ _ _ hL1_2 hb
      clear hB2 hL0_2 hL1_2
      refine hK.out _ _ (trivial) ?_
      clear hHeld hK
      intro hHeld
      clear hb hww
      (try simp only [Act.put, List.setIfInBounds_toArray, List.set_cons_zero, List.set_cons_succ])
      refine wpAnyH_ready (rs := [7]) (by kernel_rfl) (by simp) ?_
      refine AllReadyH.cons (by simp only [List.getElem?_toArray, List.getElem?_cons_zero, List.getElem?_cons_succ]; rfl) (fun K hK => ?_) AllReadyH.nil
      go_simp
      go_at_call 21
      refine (w12_any m 30 (by decide) (by decide) _).mono ?_
      rintro e w4 ⟨rfl, hww⟩
      have hb : Below w3.heap.size w3 w4 := by rw [hww]; exact Below.refl _ _
      have hB4 := Below.then hB3 hb
      have hL0_4 := stab_blk _ _ _ _ hL0_3 hb
      have hL1_4 := stab_blk _ _ _ _ hL1_3 hb
      clear hB3 hL0_3 hL1_3
      refine hK.out _ _ (trivial) ?_
      clear hHeld hK
      intro hHeld
      clear hb hww
      (try simp only [Act.put, List.setIfInBounds_toArray, List.set_cons_zero, List.set_cons_succ])
      refine wpAnyH_ready (rs := [8]) (by kernel_rfl) (by simp) ?_
      refine AllReadyH.cons (by simp only [List.getElem?_toArray, List.getElem?_cons_zero, List.getElem?_cons_succ]; rfl) (fun K hK => ?_) AllReadyH.nil
      obtain ⟨w5, hw5, hth5, hbk5, hB5⟩ := put_mid hL0_4 0 (lab4 (goodL a)) (by simp) (by simp) hB4 (by omega)
      have hL0_5 : BlkL w.heap.size (lab4 (goodL a)) w5 := hbk5
      have hL1_5 : BlkL (w.heap.size + 1) (lab4 b) w5 := hL1_4.other hw5 (by omega)
      refine step_store_part rfl _ _ rfl w.heap.size 0 rfl (lab4 (goodL a)) rfl hth5 hsl (lab4_one _) hw5 ?_
      (try simp only [Act.put, List.setIfInBounds_toArray, List.set_cons_zero, List.set_cons_succ])
      refine hK.out _ _ (trivial) ?_
      clear hHeld hK
      intro hHeld
      clear hB4 hw5 hth5 hbk5 hL0_4 hL1_4
      (try simp only [Act.put, List.setIfInBounds_toArray, List.set_cons_zero, List.set_cons_succ])
      refine wpAnyH_ready (rs := [9]) (by kernel_rfl) (by simp) ?_
      refine AllReadyH.cons (by simp only [List.getElem?_toArray, List.getElem?_cons_zero, List.getElem?_cons_succ]; rfl) (fun K hK => ?_) AllReadyH.nil
      obtain ⟨w6, hw6, hth6, hbk6, hB6⟩ := put_mid hL1_5 0 (lab4 (goodL b)) (by simp) (by simp) hB5 (by omega)
      have hL0_6 : BlkL w.heap.size (lab4 (goodL a)) w6 := hL0_5.other hw6 (by omega)
      have hL1_6 : BlkL (w.heap.size + 1) (lab4 (goodL b)) w6 := hbk6
      refine step_store_part rfl _ _ rfl (w.heap.size + 1) 0 rfl (lab4 (goodL b)) rfl hth6 hsl (lab4_one _) hw6 ?_
      (try simp only [Act.put, List.setIfInBounds_toArray, List.set_cons_zero, List.set_cons_succ])
      refine hK.out _ _ (trivial) ?_
      clear hHeld hK
      intro hHeld
      clear hB5 hw6 hth6 hbk6 hL0_5 hL1_5
      (try simp only [Act.put, List.setIfInBounds_toArray, List.set_cons_zero, List.set_cons_succ])
      refine wpAnyH_take (i := 10) (v := ?_) (by simp only [List.getElem?_toArray, List.getElem?_cons_zero, List.getElem?_cons_succ]; rfl) (by kernel_rfl) (by kernel_rfl) (by kernel_rfl) (by exact fun _ _ _ h => h) (Or.inl ⟨by rfl, ?_⟩) (by assumption) ?_; rotate_left; (focus (intro w hSw; (try dsimp only at hSw); go_simp; try with_reducible rfl)); (try simp only [Act.put, List.setIfInBounds_toArray, List.set_cons_zero, List.set_cons_succ])
      refine wpAnyH_take (i := 11) (v := ?_) (by simp only [List.getElem?_toArray, List.getElem?_cons_zero, List.getElem?_cons_succ]; rfl) (by kernel_rfl) (by kernel_rfl) (by kernel_rfl) (by exact fun _ _ _ h => h) (Or.inl ⟨by rfl, ?_⟩) (by assumption) ?_; rotate_left; (focus (intro w hSw; (try dsimp only at hSw); go_simp; try with_reducible rfl)); (try simp only [Act.put, List.setIfInBounds_toArray, List.set_cons_zero, List.set_cons_succ])
      refine wpAnyH_done (by kernel_rfl) ?_ _
      go_wp2_with fail
      go_meet
      exact ⟨rfl, rfl, hB6, hL0_6, hL1_6⟩
    refine AllReadyH.cons (by simp only [List.getElem?_toArray, List.getElem?_cons_zero, List.getElem?_cons_succ]; rfl) (fun K hK => ?_) AllReadyH.nil
    refine step_load_row rfl _ rfl (w.heap.size + 1) rfl (lab4 b) hL1_0.range hundL rfl hsl ?_
    (try simp only [Act.put, List.setIfInBounds_toArray, List.set_cons_zero, List.set_cons_succ])
    refine hK.out _ _ (trivial) ?_
    clear hHeld hK
    intro hHeld
    (try simp only [Act.put, List.setIfInBounds_toArray, List.set_cons_zero, List.set_cons_succ])
    refine wpAnyH_ready (rs := [0]) (by kernel_rfl) (by simp) ?_
    refine AllReadyH.cons (by simp only [List.getElem?_toArray, List.getElem?_cons_zero, List.getElem?_cons_succ]; rfl) (fun K hK => ?_) AllReadyH.nil
    refine step_load_row rfl _ rfl w.heap.size rfl (lab4 a) hL0_0.range hundL rfl hsl ?_
    (try simp only [Act.put, List.setIfInBounds_toArray, List.set_cons_zero, List.set_cons_succ])
    refine hK.out _ _ (trivial) ?_
    clear hHeld hK
    intro hHeld
    (try simp only [Act.put, List.setIfInBounds_toArray, List.set_cons_zero, List.set_cons_succ])
    refine wpAnyH_ready (rs := [1]) (by kernel_rfl) (by simp) ?_
    refine AllReadyH.cons (by simp only [List.getElem?_toArray, List.getElem?_cons_zero, List.getElem?_cons_succ]; rfl) (fun K hK => ?_) AllReadyH.nil
    go_simp
    go_at_call 9
    refine (good_any a _).mono ?_
    rintro e w1 ⟨rfl, hb⟩
    have hB1 := Below.then hB0 hb
    have hL0_1 := stab_blk _ _ _ _ hL0_0 hb
    have hL1_1 := stab_blk _ _ _ _ hL1_0 hb
    clear hB0 hL0_0 hL1_0
    refine hK.out _ _ (trivial) ?_
    clear hHeld hK
    intro hHeld
    clear hb
    (try simp only [Act.put, List.setIfInBounds_toArray, List.set_cons_zero, List.set_cons_succ])
    refine wpAnyH_ready (rs := [3]) (by kernel_rfl) (by simp) ?_
    refine AllReadyH.cons (by simp only [List.getElem?_toArray, List.getElem?_cons_zero, List.getElem?_cons_succ]; rfl) (fun K hK => ?_) AllReadyH.nil
    go_simp
    go_at_call 9
    refine (good_any b _).mono ?_
    rintro e w2 ⟨rfl, hb⟩
    have hB2 := Below.then hB1 hb
    have hL0_2 := stab_blk _ _ _ _ hL0_1 hb
    have hL1_2 := stab_blk _ _ _ _ hL1_1 hb
    clear hB1 hL0_1 hL1_1
    refine hK.out _ _ (trivial) ?_
    clear hHeld hK
    intro hHeld
    clear hb
    (try simp only [Act.put, List.setIfInBounds_toArray, List.set_cons_zero, List.set_cons_succ])
    refine wpAnyH_ready (rs := [5]) (by kernel_rfl) (by simp) ?_
    refine AllReadyH.cons (by simp only [List.getElem?_toArray, List.getElem?_cons_zero, List.getElem?_cons_succ]; rfl) (fun K hK => ?_) AllReadyH.nil
    go_simp
    go_at_call 21
    refine (w12_any n 30 (by decide) (by decide) _).mono ?_
    rintro e w3 ⟨rfl, hww⟩
    have hb : Below w2.heap.size w2 w3 := by rw [hww]; exact Below.refl _ _
    have hB3 := Below.then hB2 hb
    have hL0_3 := stab_blk _ _ _ _ hL0_2 hb
    have hL1_3 := stab_blk _ _ _ _ hL1_2 hb
    clear hB2 hL0_2 hL1_2
    refine hK.out _ _ (trivial) ?_
    clear hHeld hK
    intro hHeld
    clear hb hww
    (try simp only [Act.put, List.setIfInBounds_toArray, List.set_cons_zero, List.set_cons_succ])
    refine wpAnyH_ready (rs := [7]) (by kernel_rfl) (by simp) ?_
    refine AllReadyH.cons (by simp only [List.getElem?_toArray, List.getElem?_cons_zero, List.getElem?_cons_succ]; rfl) (fun K hK => ?_) AllReadyH.nil
    go_simp
    go_at_call 21
    refine (w12_any m 30 (by decide) (by decide) _).mono ?_
    rintro e w4 ⟨rfl, hww⟩
    have hb : Below w3.heap.size w3 w4 := by rw [hww]; exact Below.refl _ _
    have hB4 := Below.then hB3 hb
    have hL0_4 := stab_blk _ _ _ _ hL0_3 hb
    have hL1_4 := stab_blk _ _ _ _ hL1_3 hb
    clear hB3 hL0_3 hL1_3
    refine hK.out _ _ (trivial) ?_
    clear hHeld hK
    intro hHeld
    clear hb hww
    (try simp only [Act.put, List.setIfInBounds_toArray, List.set_cons_zero, List.set_cons_succ])
    refine wpAnyH_ready (rs := [8]) (by kernel_rfl) (by simp) ?_
    refine AllReadyH.cons (by simp only [List.getElem?_toArray, List.getElem?_cons_zero, List.getElem?_cons_succ]; rfl) (fun K hK => ?_) AllReadyH.nil
    obtain ⟨w5, hw5, hth5, hbk5, hB5⟩ := put_mid hL0_4 0 (lab4 (goodL a)) (by simp) (by simp) hB4 (by omega)
    have hL0_5 : BlkL w.heap.size (lab4 (goodL a)) w5 := hbk5
    have hL1_5 : BlkL (w.heap.size + 1) (lab4 b) w5 := hL1_4.other hw5 (by omega)
    refine step_store_part rfl _ _ rfl w.heap.size 0 rfl (lab4 (goodL a)) rfl hth5 hsl (lab4_one _) hw5 ?_
    (try simp only [Act.put, List.setIfInBounds_toArray, List.set_cons_zero, List.set_cons_succ])
    refine hK.out _ _ (trivial) ?_
    clear hHeld hK
    intro hHeld
    clear hB4 hw5 hth5 hbk5 hL0_4 hL1_4
    (try simp only [Act.put, List.setIfInBounds_toArray, List.set_cons_zero, List.set_cons_succ])
    refine wpAnyH_ready (rs := [9]) (by kernel_rfl) (by simp) ?_
    refine AllReadyH.cons (by simp only [List.getElem?_toArray, List.getElem?_cons_zero, List.getElem?_cons_succ]; rfl) (fun K hK => ?_) AllReadyH.nil
    obtain ⟨w6, hw6, hth6, hbk6, hB6⟩ := put_mid hL1_5 0 (lab4 (goodL b)) (by simp) (by simp) hB5 (by omega)
    have hL0_6 : BlkL w.heap.size (lab4 (goodL a)) w6 := hL0_5.other hw6 (by omega)
    have hL1_6 : BlkL (w.heap.size + 1) (lab4 (goodL b)) w6 := hbk6
    refine step_store_part rfl _ _ rfl (w.heap.size + 1) 0 rfl (lab4 (goodL b)) rfl hth6 hsl (lab4_one _) hw6 ?_
    (try simp only [Act.put, List.setIfInBounds_toArray, List.set_cons_zero, List.set_cons_succ])
    refine hK.out _ _ (trivial) ?_
    clear hHeld hK
    intro hHeld
    clear hB5 hw6 hth6 hbk6 hL0_5 hL1_5
    (try simp only [Act.put, List.setIfInBounds_toArray, List.set_cons_zero, List.set_cons_succ])
    refine wpAnyH_take (i := 10) (v := ?_) (by simp only [List.getElem?_toArray, List.getElem?_cons_zero, List.getElem?_cons_succ]; rfl) (by kernel_rfl) (by kernel_rfl) (by kernel_rfl) (by exact fun _ _ _ h => h) (Or.inl ⟨by rfl, ?_⟩) (by assumption) ?_; rotate_left; (focus (intro w hSw; (try dsimp only at hSw); go_simp; try with_reducible rfl)); (try simp only [Act.put, List.setIfInBounds_toArray, List.set_cons_zero, List.set_cons_succ])
    refine wpAnyH_take (i := 11) (v := ?_) (by simp only [List.getElem?_toArray, List.getElem?_cons_zero, List.getElem?_cons_succ]; rfl) (by kernel_rfl) (by kernel_rfl) (by kernel_rfl) (by exact fun _ _ _ h => h) (Or.inl ⟨by rfl, ?_⟩) (by assumption) ?_; rotate_left; (focus (intro w hSw; (try dsimp only at hSw); go_simp; try with_reducible rfl)); (try simp only [Act.put, List.setIfInBounds_toArray, List.set_cons_zero, List.set_cons_succ])
    refine wpAnyH_done (by kernel_rfl) ?_ _
    go_wp2_with fail
    go_meet
    exact ⟨rfl, rfl, hB6, hL0_6, hL1_6⟩
  case rest =>
    obtain ⟨rfl, rfl, hBw, hbA, hbB⟩ := hcut
    clear hB hba hbb
    obtain ⟨A, hA⟩ : ∃ A, goodL a = A := ⟨_, rfl⟩
    obtain ⟨B, hBe⟩ : ∃ B, goodL b = B := ⟨_, rfl⟩
    rw [hA] at hbA
    rw [hBe] at hbB
    clear hA hBe
    obtain ⟨nn, hnn, hn30⟩ : ∃ nn : Nat, n % 30 = (nn : Int) ∧ nn < 30 := ⟨(n % 30).toNat, by omega, by omega⟩
    obtain ⟨mm, hmm, hm30⟩ : ∃ mm : Nat, m % 30 = (mm : Int) ∧ mm < 30 := ⟨(m % 30).toNat, by omega, by omega⟩
    rw [hnn, hmm]
    clear hnn hmm
    have hnq : ∀ W, (binOp .eql 25 (.agg (lab4 A).toArray) (.agg (lab4 B).toArray)).run Try.prog W = .ok (.bool (labEq A B)) W := run_eql_lab A B
    have hrA := hbA.range
    have hrB := hbB.range
    cases heq : labEq A B
    rotate_left
    · rw [heq] at hnq
      go_wp2_with (first | (refine wpList_load_row rfl _ rfl w.heap.size rfl (lab4 A) hrA hundL rfl hsl ?_) | (refine wpList_load_row rfl _ rfl (w.heap.size + 1) rfl (lab4 B) hrB hundL rfl hsl ?_) | fail)
      go_ret
      exact ⟨rfl, hBw⟩
    rw [heq] at hnq
    have hne : A ≠ B := fun q => by rw [q, labEq_self] at heq; cases heq
    go_wp2_with (first | (refine wpList_load_row rfl _ rfl w.heap.size rfl (lab4 A) hrA hundL rfl hsl ?_) | (refine wpList_load_row rfl _ rfl (w.heap.size + 1) rfl (lab4 B) hrB hundL rfl hsl ?_) | fail)
    clear hrA hrB hnq
    go_loopw [9, 10] (fun t9 ts wr => ∃ (k : Nat) (v : Value), k ≤ nn ∧ ts = .int .i64 (k : Int) ∧ v = t9 ∧ OwnN wr wc.heap.size v (List.replicate k (shP 97 A B)) ∧ Below wc.heap.size wc wr) (fun _ ts _ => nn - (Go.RowKit.intOf ts).toNat)
    case atStart => exact ⟨0, _, by omega, rfl, rfl, OwnR.nil _ _ _ _ _, Below.refl _ _⟩
    case round =>
      obtain ⟨k, v, hk, rfl, rfl, ho, hBr⟩ := hrel
      by_cases hlt : k < nn
      · obtain ⟨v2, W2, hap, ho2, hg2⟩ := OwnR.push pn_ok ho hBr.size (shP 97 A B) (shP 97 A B).cs.toArray rfl 36 (by simp; omega)
        have hb2 := hBr.trans (ho.grew_below hBr.size hg2)
        rw [← List.replicate_succ'] at ho2
        have hrA := (stab_blk _ _ _ _ hbA hBr).range
        have hrB := (stab_blk _ _ _ _ hbB hBr).range
        have i1 : (k : Int) < (nn : Int) := by omega
        replace hap : (Builtin.append_ #[27, 27] 27 #[v, .slice (some ⟨wr.heap.size, 0, none⟩) 1 1]).run Try.prog (wr.alloc (.cells ([.string ⟨#[47, 97]⟩, .bool false, .int .i64 B.s, .int .i64 B.c, .int .i64 B.i, .int .i64 B.k, .slice none 0 0, .int .i64 0, .int .i64 0, .int .i64 0, .int .i64 0, .slice none 0 0, .int .i64 A.s, .int .i64 A.c, .int .i64 A.i, .int .i64 A.k]).toArray 36)) = .ok v2 W2 := hap
        clear ho hg2
        go_wp2_with (first | (refine wpList_load_row rfl _ rfl w.heap.size rfl (lab4 A) hrA hundL rfl hsl ?_) | (refine wpList_load_row rfl _ rfl (w.heap.size + 1) rfl (lab4 B) hrB hundL rfl hsl ?_) | (refine wpList_build1 pn_ok (by decide) rfl _ rfl ([.string ⟨#[47, 97]⟩, .bool false, .int .i64 B.s, .int .i64 B.c, .int .i64 B.i, .int .i64 B.k, .slice none 0 0, .int .i64 0, .int .i64 0, .int .i64 0, .int .i64 0, .slice none 0 0, .int .i64 A.s, .int .i64 A.c, .int .i64 A.i, .int .i64 A.k]) rfl rfl ?_) | (refine wpList_append rfl _ _ rfl rfl rfl rfl hap ?_) | fail)
        exact ⟨⟨k + 1, v2, by omega, by simp, rfl, ho2, hb2⟩, by simp [Go.RowKit.intOf]; omega⟩
      · have hkn : k = nn := by omega
        subst hkn
        generalize hk0 : k = k0 at *
        clear hk0
        have ho1 := ho
        have hB1 := hBr
        clear ho hBr
        go_wp2_with fail
        go_loopw [9, 11] (fun t9 ts wr => ∃ (k : Nat) (v : Value), k ≤ mm ∧ ts = .int .i64 (k : Int) ∧ v = t9 ∧ OwnN wr wc.heap.size v (List.replicate k0 (shP 97 A B) ++ List.replicate k (shP 98 B A)) ∧ Below wc.heap.size wc wr) (fun _ ts _ => mm - (Go.RowKit.intOf ts).toNat)
        case atStart => exact ⟨0, _, by omega, rfl, rfl, by simpa using ho1, hB1⟩
        case round =>
          clear ho1 hB1
          obtain ⟨k, v, hk, rfl, rfl, ho, hBr⟩ := hrel
          by_cases hlt : k < mm
          · obtain ⟨v2, W2, hap, ho2, hg2⟩ := OwnR.push pn_ok ho hBr.size (shP 98 B A) (shP 98 B A).cs.toArray rfl 36 (by simp; omega)
            have hb2 := hBr.trans (ho.grew_below hBr.size hg2)
            rw [List.append_assoc, ← List.replicate_succ'] at ho2
            have hrA := (stab_blk _ _ _ _ hbA hBr).range
            have hrB := (stab_blk _ _ _ _ hbB hBr).range
            have i1 : (k : Int) < (mm : Int) := by omega
            replace hap : (Builtin.append_ #[27, 27] 27 #[v, .slice (some ⟨wr.heap.size, 0, none⟩) 1 1]).run Try.prog (wr.alloc (.cells ([.string ⟨#[47, 98]⟩, .bool false, .int .i64 A.s, .int .i64 A.c, .int .i64 A.i, .int .i64 A.k, .slice none 0 0, .int .i64 0, .int .i64 0, .int .i64 0, .int .i64 0, .slice none 0 0, .int .i64 B.s, .int .i64 B.c, .int .i64 B.i, .int .i64 B.k]).toArray 36)) = .ok v2 W2 := hap
            clear ho hg2
            go_wp2_with (first | (refine wpList_load_row rfl _ rfl w.heap.size rfl (lab4 A) hrA hundL rfl hsl ?_) | (refine wpList_load_row rfl _ rfl (w.heap.size + 1) rfl (lab4 B) hrB hundL rfl hsl ?_) | (refine wpList_build1 pn_ok (by decide) rfl _ rfl ([.string ⟨#[47, 98]⟩, .bool false, .int .i64 A.s, .int .i64 A.c, .int .i64 A.i, .int .i64 A.k, .slice none 0 0, .int .i64 0, .int .i64 0, .int .i64 0, .int .i64 0, .slice none 0 0, .int .i64 B.s, .int .i64 B.c, .int .i64 B.i, .int .i64 B.k]) rfl rfl ?_) | (refine wpList_append rfl _ _ rfl rfl rfl rfl hap ?_) | fail)
            exact ⟨⟨k + 1, v2, by omega, by simp, rfl, ho2, hb2⟩, by simp [Go.RowKit.intOf]; omega⟩
          · obtain rfl : k = mm := by omega
            have hcn := cnt_rep (n := k0) (m := k) hne
            obtain ⟨la, lc, hlv, hlc, hln, hlr⟩ := OwnR.slice pn_len ho
            subst hlv
            have hR : ∀ {W' : World}, Below wr.heap.size wr W' → RowAt 16 PN.cs W' la (List.replicate k0 (shP 97 A B) ++ List.replicate k (shP 98 B A)) := fun hb => hlr.below pn_len hb
            have hll : (List.replicate k0 (shP 97 A B) ++ List.replicate k (shP 98 B A)).length ≤ 1000 := by simp; omega
            have kA := fun W q => kn la lc _ A W hll q
            have kB := fun W q => kn la lc _ B W hll q
            have mA := fun W q => km la lc _ A W hll q
            have mB := fun W q => km la lc _ B W hll q
            rw [hcn.1] at kA mA
            rw [hcn.2] at kB mB
            generalize List.replicate k0 (shP 97 A B) ++ List.replicate k (shP 98 B A) = L at *
            obtain ⟨ll, hle⟩ : ∃ ll, L.length = ll := ⟨_, rfl⟩
            rw [hle] at kA kB mA mB ⊢
            clear hle hll ho hlr hcn
            have hS : (fun W => Below wr.heap.size wr W) wr.drew := (Below.refl _ _).drew
            have hbA' := stab_blk _ _ _ _ hbA hBr
            have hbB' := stab_blk _ _ _ _ hbB hBr
            have hBfin := Below.then hBw hBr
            clear hBr hbA hbB
            have i0 : ¬ (k : Int) < (k : Int) := by omega
            have eA : mayQ k0 = (if 20 ≤ k0 then 17 else 0) := rfl
            have eB : mayQ k = (if 20 ≤ k then 17 else 0) := rfl
            obtain ⟨MA, hMA⟩ : ∃ MA, mayQ k0 = MA := ⟨_, rfl⟩
            obtain ⟨MB, hMB⟩ : ∃ MB, mayQ k = MB := ⟨_, rfl⟩
            rw [hMA] at mA eA
            rw [hMB] at mB eB
            clear hMA hMB
            have fA : (MA == 0) = decide ((k0 : Int) < 20) := by
              rw [eA]
              by_cases h : 20 ≤ k0
              · rw [if_pos h, decide_eq_false (by omega)]; rfl
              · rw [if_neg h, decide_eq_true (by omega)]; rfl
            have fB : (MB == 17) = decide ((20 : Int) ≤ (k : Int)) := by
              rw [eB]
              by_cases h : 20 ≤ k
              · rw [if_pos h, decide_eq_true (by omega)]; rfl
              · rw [if_neg h, decide_eq_false (by omega)]; rfl
            clear eA eB
            have hS0 : Below wr.heap.size wr wr := Below.refl _ _
            clear hS
            have hrq1 := (stab_blk _ _ _ _ hbA' hS0).range
            go_wp2_with (first | (refine wpList_load_row rfl _ rfl w.heap.size rfl (lab4 A) hrq1 hundL rfl hsl ?_) | (refine wpList_load_rowg (by rfl) _ rfl w.heap.size rfl (lab4 A) hrq1 hundL rfl hsl ?_) | fail)
            refine (kA _ (hR hS0)).mono ?_
            rintro e q1 ⟨rfl, hbq1⟩
            have hSq1 := Below.then hS0 hbq1
            clear hrq1
            have hrq2 := (stab_blk _ _ _ _ hbB' hSq1).range
            go_wp2_with (first | (refine wpList_load_row rfl _ rfl (w.heap.size + 1) rfl (lab4 B) hrq2 hundL rfl hsl ?_) | (refine wpList_load_rowg (by rfl) _ rfl (w.heap.size + 1) rfl (lab4 B) hrq2 hundL rfl hsl ?_) | fail)
            refine (kB _ (hR hSq1)).mono ?_
            rintro e q2 ⟨rfl, hbq2⟩
            have hSq2 := Below.then hSq1 hbq2
            clear hrq2
            have hrq3 := (stab_blk _ _ _ _ hbA' hSq2).range
            go_wp2_with (first | (refine wpList_load_row rfl _ rfl w.heap.size rfl (lab4 A) hrq3 hundL rfl hsl ?_) | (refine wpList_load_rowg (by rfl) _ rfl w.heap.size rfl (lab4 A) hrq3 hundL rfl hsl ?_) | fail)
            refine (mA _ (hR hSq2)).mono ?_
            rintro e q3 ⟨rfl, hbq3⟩
            have hSq3 := Below.then hSq2 hbq3
            clear hrq3
            have hrq4 := (stab_blk _ _ _ _ hbB' hSq3).range
            go_wp2_with (first | (refine wpList_load_row rfl _ rfl (w.heap.size + 1) rfl (lab4 B) hrq4 hundL rfl hsl ?_) | (refine wpList_load_rowg (by rfl) _ rfl (w.heap.size + 1) rfl (lab4 B) hrq4 hundL rfl hsl ?_) | fail)
            refine (mB _ (hR hSq3)).mono ?_
            rintro e q4 ⟨rfl, hbq4⟩
            have hSq4 := Below.then hSq3 hbq4
            clear hrq4
            go_wp2_with fail
            go_ret
            exact ⟨rfl, Below.then hBfin hSq4⟩
end Go.Proofs.Ytajondkpdgiolaa
