/-
  P1202, P7: what is counted at one label changes no other one's count; two counts do not see one another: the law's walk. Written by mk_quota.py.
-/
import Derived.Test.YtajondkpdgiolaaPt2
namespace Go.Proofs.Ytajondkpdgiolaa
open Go.RowKit
set_option maxRecDepth 8000
set_option linter.unusedSimpArgs false
set_option linter.unusedVariables false

def sortOf (l : List Lab) : List Lab := l.foldr (fun x r => addL r x) []
theorem sortOf_ok : ∀ l : List Lab, SortL (sortOf l) ∧ (∀ x, cntL (sortOf l) x = cntL l x) ∧ (sortOf l).length = l.length
  | [] => ⟨List.Pairwise.nil, fun _ => rfl, rfl⟩
  | y :: r => by
    obtain ⟨h1, h2, h3⟩ := sortOf_ok r
    exact ⟨add_sorted h1 y, fun x => by rw [show sortOf (y :: r) = addL (sortOf r) y from rfl, add_cnt, h2, cnt_cons], by rw [show sortOf (y :: r) = addL (sortOf r) y from rfl, add_len, h3]; rfl⟩
theorem same_len {r l : List Lab} (hs : SortL r) (hc : ∀ x, cntL r x = cntL l x) : r.length = l.length := by
  obtain ⟨h1, h2, h3⟩ := sortOf_ok l
  rw [sort_uniq r (sortOf l) hs h1 fun x => by rw [hc, h2], h3]
/-- What the law holds from round to round. -/
structure ApR (Q : World → List Nat → Addr → List Lab → Prop) (w W : World) (A B : Lab) (S S2 : List Nat) (p p2 : Addr) (nn mm k : Nat) (ls : List Lab) : Prop where
  q : Q W S p ls
  q2 : Q W S2 p2 []
  bA : BlkL w.heap.size (lab4 A) W
  bB : BlkL (w.heap.size + 1) (lab4 B) W
  cA : cntL ls A = min k nn
  cB : cntL ls B = min k mm
  len : ls.length = min k nn + min k mm
  bl : Below w.heap.size w W
  hS : ∀ j ∈ S, w.heap.size + 2 ≤ j
  h2 : ∀ j ∈ S2, j ∉ S
  n30 : nn < 30
  m30 : mm < 30
section
variable {Q : World → List Nat → Addr → List Lab → Prop} {w W W' W2 : World} {A B : Lab} {S S' S2 S3 : List Nat} {p p2 : Addr} {nn mm k : Nat} {ls ls' : List Lab}
theorem ApR.turn (h : ApR Q w W A B S S2 p p2 nn mm k ls) (C : Cnts Q) (hT : Turned S W W') (hSS : ∀ j ∈ S', j ∈ S ∨ W.heap.size ≤ j) : Q W' S2 p2 [] ∧ BlkL w.heap.size (lab4 A) W' ∧ BlkL (w.heap.size + 1) (lab4 B) W' ∧ Below w.heap.size w W' ∧ (∀ j ∈ S', w.heap.size + 2 ≤ j) ∧ ∀ j ∈ S2, j ∉ S' :=
  ⟨C.keep h.q2 fun j hj => hT.block j (C.lt h.q2 j hj) (h.h2 j hj), hT.blk h.bA fun q => by have := h.hS _ q; omega, hT.blk h.bB fun q => by have := h.hS _ q; omega, h.bl.trans (hT.below (fun j hj => by have := h.hS j hj; omega) h.bl.size), fun j hj => (hSS j hj).elim (h.hS j) fun q => by have := h.bB.2; omega, fun j hj q => (hSS j q).elim (h.h2 j hj) fun q => by have := C.lt h.q2 j hj; omega⟩
theorem ApR.addA (h : ApR Q w W A B S S2 p p2 nn mm k ls) (C : Cnts Q) (hne : A ≠ B) (hT : Turned S W W') (hq : Q W' S' p (A :: ls)) (hSS : ∀ j ∈ S', j ∈ S ∨ W.heap.size ≤ j) (h1 : k < nn) (h2 : mm ≤ k) : ApR Q w W' A B S' S2 p p2 nn mm (k + 1) (A :: ls) := by
  obtain ⟨a, b, c, d, f, g⟩ := h.turn C hT hSS
  have e1 := h.cA
  have e2 := h.cB
  have e3 := h.len
  exact ⟨hq, a, b, c, by rw [cnt_cons, labEq_self, if_pos rfl]; omega, by rw [cnt_cons, labEq_ne hne, if_neg (by decide)]; omega, by simp only [List.length_cons]; omega, d, f, g, h.n30, h.m30⟩
theorem ApR.addB (h : ApR Q w W A B S S2 p p2 nn mm k ls) (C : Cnts Q) (hne : A ≠ B) (hT : Turned S W W') (hq : Q W' S' p (B :: ls)) (hSS : ∀ j ∈ S', j ∈ S ∨ W.heap.size ≤ j) (h1 : nn ≤ k) (h2 : k < mm) : ApR Q w W' A B S' S2 p p2 nn mm (k + 1) (B :: ls) := by
  obtain ⟨a, b, c, d, f, g⟩ := h.turn C hT hSS
  have e1 := h.cA
  have e2 := h.cB
  have e3 := h.len
  exact ⟨hq, a, b, c, by rw [cnt_cons, labEq_ne (Ne.symm hne), if_neg (by decide)]; omega, by rw [cnt_cons, labEq_self, if_pos rfl]; omega, by simp only [List.length_cons]; omega, d, f, g, h.n30, h.m30⟩
theorem ApR.both (h : ApR Q w W A B S S2 p p2 nn mm k ls) (C : Cnts Q) (hne : A ≠ B) (h1 : Q W' S2 p2 [] ∧ BlkL w.heap.size (lab4 A) W' ∧ BlkL (w.heap.size + 1) (lab4 B) W' ∧ Below w.heap.size w W' ∧ (∀ j ∈ S', w.heap.size + 2 ≤ j) ∧ ∀ j ∈ S2, j ∉ S') (hT : Turned S W W') (hq : Q W2 S3 p (B :: A :: ls)) (hT2 : Turned S' W' W2) (hSS : ∀ j ∈ S3, j ∈ S' ∨ W'.heap.size ≤ j) (hn : k < nn) (hm : k < mm) : ApR Q w W2 A B S3 S2 p p2 nn mm (k + 1) (B :: A :: ls) := by
  obtain ⟨a, b, c, d, f, g⟩ := h1
  have e1 := h.cA
  have e2 := h.cB
  have e3 := h.len
  refine ⟨hq, C.keep a fun j hj => hT2.block j (C.lt a j hj) (g j hj), hT2.blk b fun q => by have := f _ q; omega, hT2.blk c fun q => by have := f _ q; omega, ?_, ?_, by simp only [List.length_cons]; omega, d.trans (hT2.below (fun j hj => by have := f j hj; omega) d.size), fun j hj => (hSS j hj).elim (f j) fun q => by have := c.2; omega, fun j hj q => (hSS j q).elim (g j hj) fun q => by have := C.lt a j hj; omega, h.n30, h.m30⟩
  · rw [cnt_cons, cnt_cons, labEq_ne (Ne.symm hne), labEq_self, if_pos rfl, if_neg (by decide)]; omega
  · rw [cnt_cons, cnt_cons, labEq_ne hne, labEq_self, if_neg (by decide), if_pos rfl]; omega
end
set_option maxRecDepth 20000 in
set_option maxHeartbeats 8000000 in
theorem quotaApart_walk {Q : World → List Nat → Addr → List Lab → Prop} (C : Cnts Q) (a b : Lab) (n m : Int) (w : World) :
    Calls Try.prog 5 #[a.v, b.v, .int .i64 n, .int .i64 m] w fun e w' => e = .returned (.bool true) ∧ Below w.heap.size w w' := by
  have hundL := Try.underlying25
  have hsl : (Try.prog.info? 25).map (·.size) = some 4 := by kernel_rfl
  have hba := stab_blk _ _ _ _ (blkl_alloc w (lab4 a).toArray 25) (alloc_below _ (.cells (lab4 b).toArray 25))
  have hbb := blkl_alloc (w.alloc (.cells (lab4 a).toArray 25)) (lab4 b).toArray 25
  have hB0 := Below.then (alloc_below w (.cells (lab4 a).toArray 25)) (alloc_below _ (.cells (lab4 b).toArray 25))
  rw [show (w.alloc (.cells (lab4 a).toArray 25)).heap.size = w.heap.size + 1 from by simp] at hbb
  replace hba : BlkL w.heap.size (lab4 a) ((w.alloc (.cells (lab4 a).toArray 25)).alloc (.cells (lab4 b).toArray 25)) := hba
  replace hbb : BlkL (w.heap.size + 1) (lab4 b) ((w.alloc (.cells (lab4 a).toArray 25)).alloc (.cells (lab4 b).toArray 25)) := hbb
  go_enter Try.func5, Try.ntmps5
  go_wp2_with fail
  generalize (w.alloc (.cells #[.int .i64 a.s, .int .i64 a.c, .int .i64 a.i, .int .i64 a.k] 25)).alloc (.cells #[.int .i64 b.s, .int .i64 b.c, .int .i64 b.i, .int .i64 b.k] 25) = W0 at *
  refine (qknown_any C.toCnts3 W0).mono ?_
  rintro e Z ⟨rfl, hBk⟩
  have hB := Below.then hB0 hBk
  replace hba := stab_blk _ _ _ _ hba hBk
  replace hbb := stab_blk _ _ _ _ hbb hBk
  clear hB0 hBk
  go_upto_region 3 with fail
  go_cut [] from 14 (fun wc => Below w.heap.size w wc ∧ BlkL w.heap.size (lab4 (goodL a)) wc ∧ BlkL (w.heap.size + 1) (lab4 (goodL b)) wc)
  case first =>
    refine wp_region_held_drew (S := (fun _ : World => True)) (by kernel_rfl) (trivial) ?_
    intro hHeld
    have hBd : Below Z.heap.size Z Z.drew := (Below.refl _ _).drew
    have hB0 := Below.then hB hBd
    have hL0_0 := stab_blk _ _ _ _ hba hBd
    have hL1_0 := stab_blk _ _ _ _ hbb hBd
    clear hBd
    generalize Z.drew = w0 at *
    refine wpAnyH_ready (rs := [0, 2]) (by kernel_rfl) (by simp) ?_
    refine AllReadyH.cons (by simp only [gA, gB, gC]; rfl) (fun K hK => ?_) ?_
    · skip
      refine step_load_row rfl _ rfl w.heap.size rfl (lab4 a) hL0_0.range hundL rfl hsl ?_
      (try simp only [Act.put, sA, sB, sC])
      refine hK.out _ _ (trivial) ?_
      clear hHeld hK
      intro hHeld
      (try simp only [Act.put, sA, sB, sC])
      refine wpAnyH_ready (rs := [1, 2]) (by kernel_rfl) (by simp) ?_
      refine AllReadyH.cons (by simp only [gA, gB, gC]; rfl) (fun K hK => ?_) ?_
      · go_simp
        go_at_call 9
        refine (good_any a _).mono ?_
        rintro e w1 ⟨rfl, hb⟩
        have hB1 := Below.then hB0 hb
        have hL0_1 := stab_blk _ _ _ _ hL0_0 hb
        have hL1_1 := stab_blk _ _ _ _ hL1_0 hb
        clear hB0 hL0_0 hL1_0
        refine hK.out _ _ (trivial) ?_
        clear hHeld hK
        intro hHeld
        clear hb
        (try simp only [Act.put, sA, sB, sC])
        refine wpAnyH_ready (rs := [2]) (by kernel_rfl) (by simp) ?_
        refine AllReadyH.cons (by simp only [gA, gB, gC]; rfl) (fun K hK => ?_) AllReadyH.nil
        refine step_load_row rfl _ rfl (w.heap.size + 1) rfl (lab4 b) hL1_1.range hundL rfl hsl ?_
        (try simp only [Act.put, sA, sB, sC])
        refine hK.out _ _ (trivial) ?_
        clear hHeld hK
        intro hHeld
        (try simp only [Act.put, sA, sB, sC])
        refine wpAnyH_ready (rs := [3]) (by kernel_rfl) (by simp) ?_
        refine AllReadyH.cons (by simp only [gA, gB, gC]; rfl) (fun K hK => ?_) AllReadyH.nil
        go_simp
        go_at_call 9
        refine (good_any b _).mono ?_
        rintro e w2 ⟨rfl, hb⟩
        have hB2 := Below.then hB1 hb
        have hL0_2 := stab_blk _ _ _ _ hL0_1 hb
        have hL1_2 := stab_blk _ _ _ _ hL1_1 hb
        clear hB1 hL0_1 hL1_1
        refine hK.out _ _ (trivial) ?_
        clear hHeld hK
        intro hHeld
        clear hb
        (try simp only [Act.put, sA, sB, sC])
        refine wpAnyH_ready (rs := [4]) (by kernel_rfl) (by simp) ?_
        refine AllReadyH.cons (by simp only [gA, gB, gC]; rfl) (fun K hK => ?_) AllReadyH.nil
        obtain ⟨w3, hw3, hth3, hbk3, hB3⟩ := put_mid hL0_2 0 (lab4 (goodL a)) (by simp) (by simp) hB2 (by omega)
        have hL0_3 : BlkL w.heap.size (lab4 (goodL a)) w3 := hbk3
        have hL1_3 : BlkL (w.heap.size + 1) (lab4 b) w3 := hL1_2.other hw3 (by omega)
        refine step_store_part rfl _ _ rfl w.heap.size 0 rfl (lab4 (goodL a)) rfl hth3 hsl (lab4_one _) hw3 ?_
        (try simp only [Act.put, sA, sB, sC])
        refine hK.out _ _ (trivial) ?_
        clear hHeld hK
        intro hHeld
        clear hB2 hw3 hth3 hbk3 hL0_2 hL1_2
        (try simp only [Act.put, sA, sB, sC])
        refine wpAnyH_ready (rs := [5]) (by kernel_rfl) (by simp) ?_
        refine AllReadyH.cons (by simp only [gA, gB, gC]; rfl) (fun K hK => ?_) AllReadyH.nil
        obtain ⟨w4, hw4, hth4, hbk4, hB4⟩ := put_mid hL1_3 0 (lab4 (goodL b)) (by simp) (by simp) hB3 (by omega)
        have hL0_4 : BlkL w.heap.size (lab4 (goodL a)) w4 := hL0_3.other hw4 (by omega)
        have hL1_4 : BlkL (w.heap.size + 1) (lab4 (goodL b)) w4 := hbk4
        refine step_store_part rfl _ _ rfl (w.heap.size + 1) 0 rfl (lab4 (goodL b)) rfl hth4 hsl (lab4_one _) hw4 ?_
        (try simp only [Act.put, sA, sB, sC])
        refine hK.out _ _ (trivial) ?_
        clear hHeld hK
        intro hHeld
        clear hB3 hw4 hth4 hbk4 hL0_3 hL1_3
        (try simp only [Act.put, sA, sB, sC])
        refine wpAnyH_done (by kernel_rfl) ?_ _
        go_wp2_with fail
        go_meet
        exact ⟨hB4, hL0_4, hL1_4⟩
      refine AllReadyH.cons (by simp only [gA, gB, gC]; rfl) (fun K hK => ?_) AllReadyH.nil
      refine step_load_row rfl _ rfl (w.heap.size + 1) rfl (lab4 b) hL1_0.range hundL rfl hsl ?_
      (try simp only [Act.put, sA, sB, sC])
      refine hK.out _ _ (trivial) ?_
      clear hHeld hK
      intro hHeld
      (try simp only [Act.put, sA, sB, sC])
      refine wpAnyH_ready (rs := [1]) (by kernel_rfl) (by simp) ?_
      refine AllReadyH.cons (by simp only [gA, gB, gC]; rfl) (fun K hK => ?_) AllReadyH.nil
      go_simp
      go_at_call 9
      refine (good_any a _).mono ?_
      rintro e w1 ⟨rfl, hb⟩
      have hB1 := Below.then hB0 hb
      have hL0_1 := stab_blk _ _ _ _ hL0_0 hb
      have hL1_1 := stab_blk _ _ _ _ hL1_0 hb
      clear hB0 hL0_0 hL1_0
      refine hK.out _ _ (trivial) ?_
      clear hHeld hK
      intro hHeld
      clear hb
      (try simp only [Act.put, sA, sB, sC])
      refine wpAnyH_ready (rs := [3]) (by kernel_rfl) (by simp) ?_
      refine AllReadyH.cons (by simp only [gA, gB, gC]; rfl) (fun K hK => ?_) AllReadyH.nil
      go_simp
      go_at_call 9
      refine (good_any b _).mono ?_
      rintro e w2 ⟨rfl, hb⟩
      have hB2 := Below.then hB1 hb
      have hL0_2 := stab_blk _ _ _ _ hL0_1 hb
      have hL1_2 := stab_blk _ _ _ _ hL1_1 hb
      clear hB1 hL0_1 hL1_1
      refine hK.out _ _ (trivial) ?_
      clear hHeld hK
      intro hHeld
      clear hb
      (try simp only [Act.put, sA, sB, sC])
      refine wpAnyH_ready (rs := [4]) (by kernel_rfl) (by simp) ?_
      refine AllReadyH.cons (by simp only [gA, gB, gC]; rfl) (fun K hK => ?_) AllReadyH.nil
      obtain ⟨w3, hw3, hth3, hbk3, hB3⟩ := put_mid hL0_2 0 (lab4 (goodL a)) (by simp) (by simp) hB2 (by omega)
      have hL0_3 : BlkL w.heap.size (lab4 (goodL a)) w3 := hbk3
      have hL1_3 : BlkL (w.heap.size + 1) (lab4 b) w3 := hL1_2.other hw3 (by omega)
      refine step_store_part rfl _ _ rfl w.heap.size 0 rfl (lab4 (goodL a)) rfl hth3 hsl (lab4_one _) hw3 ?_
      (try simp only [Act.put, sA, sB, sC])
      refine hK.out _ _ (trivial) ?_
      clear hHeld hK
      intro hHeld
      clear hB2 hw3 hth3 hbk3 hL0_2 hL1_2
      (try simp only [Act.put, sA, sB, sC])
      refine wpAnyH_ready (rs := [5]) (by kernel_rfl) (by simp) ?_
      refine AllReadyH.cons (by simp only [gA, gB, gC]; rfl) (fun K hK => ?_) AllReadyH.nil
      obtain ⟨w4, hw4, hth4, hbk4, hB4⟩ := put_mid hL1_3 0 (lab4 (goodL b)) (by simp) (by simp) hB3 (by omega)
      have hL0_4 : BlkL w.heap.size (lab4 (goodL a)) w4 := hL0_3.other hw4 (by omega)
      have hL1_4 : BlkL (w.heap.size + 1) (lab4 (goodL b)) w4 := hbk4
      refine step_store_part rfl _ _ rfl (w.heap.size + 1) 0 rfl (lab4 (goodL b)) rfl hth4 hsl (lab4_one _) hw4 ?_
      (try simp only [Act.put, sA, sB, sC])
      refine hK.out _ _ (trivial) ?_
      clear hHeld hK
      intro hHeld
      clear hB3 hw4 hth4 hbk4 hL0_3 hL1_3
      (try simp only [Act.put, sA, sB, sC])
      refine wpAnyH_done (by kernel_rfl) ?_ _
      go_wp2_with fail
      go_meet
      exact ⟨hB4, hL0_4, hL1_4⟩
    refine AllReadyH.cons (by simp only [gA, gB, gC]; rfl) (fun K hK => ?_) AllReadyH.nil
    refine step_load_row rfl _ rfl (w.heap.size + 1) rfl (lab4 b) hL1_0.range hundL rfl hsl ?_
    (try simp only [Act.put, sA, sB, sC])
    refine hK.out _ _ (trivial) ?_
    clear hHeld hK
    intro hHeld
    (try simp only [Act.put, sA, sB, sC])
    refine wpAnyH_ready (rs := [0]) (by kernel_rfl) (by simp) ?_
    refine AllReadyH.cons (by simp only [gA, gB, gC]; rfl) (fun K hK => ?_) AllReadyH.nil
    refine step_load_row rfl _ rfl w.heap.size rfl (lab4 a) hL0_0.range hundL rfl hsl ?_
    (try simp only [Act.put, sA, sB, sC])
    refine hK.out _ _ (trivial) ?_
    clear hHeld hK
    intro hHeld
    (try simp only [Act.put, sA, sB, sC])
    refine wpAnyH_ready (rs := [1]) (by kernel_rfl) (by simp) ?_
    refine AllReadyH.cons (by simp only [gA, gB, gC]; rfl) (fun K hK => ?_) AllReadyH.nil
    go_simp
    go_at_call 9
    refine (good_any a _).mono ?_
    rintro e w1 ⟨rfl, hb⟩
    have hB1 := Below.then hB0 hb
    have hL0_1 := stab_blk _ _ _ _ hL0_0 hb
    have hL1_1 := stab_blk _ _ _ _ hL1_0 hb
    clear hB0 hL0_0 hL1_0
    refine hK.out _ _ (trivial) ?_
    clear hHeld hK
    intro hHeld
    clear hb
    (try simp only [Act.put, sA, sB, sC])
    refine wpAnyH_ready (rs := [3]) (by kernel_rfl) (by simp) ?_
    refine AllReadyH.cons (by simp only [gA, gB, gC]; rfl) (fun K hK => ?_) AllReadyH.nil
    go_simp
    go_at_call 9
    refine (good_any b _).mono ?_
    rintro e w2 ⟨rfl, hb⟩
    have hB2 := Below.then hB1 hb
    have hL0_2 := stab_blk _ _ _ _ hL0_1 hb
    have hL1_2 := stab_blk _ _ _ _ hL1_1 hb
    clear hB1 hL0_1 hL1_1
    refine hK.out _ _ (trivial) ?_
    clear hHeld hK
    intro hHeld
    clear hb
    (try simp only [Act.put, sA, sB, sC])
    refine wpAnyH_ready (rs := [4]) (by kernel_rfl) (by simp) ?_
    refine AllReadyH.cons (by simp only [gA, gB, gC]; rfl) (fun K hK => ?_) AllReadyH.nil
    obtain ⟨w3, hw3, hth3, hbk3, hB3⟩ := put_mid hL0_2 0 (lab4 (goodL a)) (by simp) (by simp) hB2 (by omega)
    have hL0_3 : BlkL w.heap.size (lab4 (goodL a)) w3 := hbk3
    have hL1_3 : BlkL (w.heap.size + 1) (lab4 b) w3 := hL1_2.other hw3 (by omega)
    refine step_store_part rfl _ _ rfl w.heap.size 0 rfl (lab4 (goodL a)) rfl hth3 hsl (lab4_one _) hw3 ?_
    (try simp only [Act.put, sA, sB, sC])
    refine hK.out _ _ (trivial) ?_
    clear hHeld hK
    intro hHeld
    clear hB2 hw3 hth3 hbk3 hL0_2 hL1_2
    (try simp only [Act.put, sA, sB, sC])
    refine wpAnyH_ready (rs := [5]) (by kernel_rfl) (by simp) ?_
    refine AllReadyH.cons (by simp only [gA, gB, gC]; rfl) (fun K hK => ?_) AllReadyH.nil
    obtain ⟨w4, hw4, hth4, hbk4, hB4⟩ := put_mid hL1_3 0 (lab4 (goodL b)) (by simp) (by simp) hB3 (by omega)
    have hL0_4 : BlkL w.heap.size (lab4 (goodL a)) w4 := hL0_3.other hw4 (by omega)
    have hL1_4 : BlkL (w.heap.size + 1) (lab4 (goodL b)) w4 := hbk4
    refine step_store_part rfl _ _ rfl (w.heap.size + 1) 0 rfl (lab4 (goodL b)) rfl hth4 hsl (lab4_one _) hw4 ?_
    (try simp only [Act.put, sA, sB, sC])
    refine hK.out _ _ (trivial) ?_
    clear hHeld hK
    intro hHeld
    clear hB3 hw4 hth4 hbk4 hL0_3 hL1_3
    (try simp only [Act.put, sA, sB, sC])
    refine wpAnyH_done (by kernel_rfl) ?_ _
    go_wp2_with fail
    go_meet
    exact ⟨hB4, hL0_4, hL1_4⟩
  case rest =>
    obtain ⟨hBw, hbA, hbB⟩ := hcut
    clear hB hba hbb
    obtain ⟨A, hA⟩ : ∃ A, goodL a = A := ⟨_, rfl⟩
    obtain ⟨B, hBe⟩ : ∃ B, goodL b = B := ⟨_, rfl⟩
    rw [hA] at hbA
    rw [hBe] at hbB
    have hGA : GL A := hA ▸ good_GL a
    have hGB : GL B := hBe ▸ good_GL b
    clear hA hBe
    have hnq : ∀ W, (binOp .eql 25 (.agg (lab4 A).toArray) (.agg (lab4 B).toArray)).run Try.prog W = .ok (.bool (labEq A B)) W := run_eql_lab A B
    have hrA := hbA.range
    have hrB := hbB.range
    cases heq : labEq A B
    rotate_left
    · rw [heq] at hnq
      go_wp2_with (first | (refine wpList_load_row rfl _ rfl w.heap.size rfl (lab4 A) hrA hundL rfl hsl ?_) | (refine wpList_load_row rfl _ rfl (w.heap.size + 1) rfl (lab4 B) hrB hundL rfl hsl ?_) | fail)
      go_ret
      exact ⟨rfl, hBw⟩
    rw [heq] at hnq
    have hne : A ≠ B := fun q => by rw [q, labEq_self] at heq; cases heq
    obtain ⟨nn, hnn, hn30⟩ : ∃ nn : Nat, n % 30 = (nn : Int) ∧ nn < 30 := ⟨(n % 30).toNat, by omega, by omega⟩
    obtain ⟨mm, hmm, hm30⟩ : ∃ mm : Nat, m % 30 = (mm : Int) ∧ mm < 30 := ⟨(m % 30).toNat, by omega, by omega⟩
    have kwn := fun W => w12_any n 30 (by decide) (by decide) W
    have kwm := fun W => w12_any m 30 (by decide) (by decide) W
    rw [hnn] at kwn
    rw [hmm] at kwm
    clear hnn hmm
    go_wp2_with (first | (refine wpList_load_row rfl _ rfl w.heap.size rfl (lab4 A) hrA hundL rfl hsl ?_) | (refine wpList_load_row rfl _ rfl (w.heap.size + 1) rfl (lab4 B) hrB hundL rfl hsl ?_) | fail)
    clear hrA hrB hnq
    refine (kwn wc).mono ?_
    rintro e w' ⟨rfl, hw'⟩
    replace hw' := hw'.symm
    subst hw'
    go_wp2_with fail
    refine (kwm wc).mono ?_
    rintro e w' ⟨rfl, hw'⟩
    replace hw' := hw'.symm
    subst hw'
    clear kwn kwm
    go_wp2_with fail
    refine (C.new wc).mono ?_
    rintro e W1 ⟨p, S, rfl, hq1, hS1, hB1⟩
    go_wp2_with fail
    refine (C.new W1).mono ?_
    rintro e W2 ⟨p2, S2, rfl, hq2, hS2, hB2⟩
    have hB12 := Below.then hB1 hB2
    have h0 : ApR Q w W2 A B S S2 p p2 nn mm 0 [] := ⟨C.below hq1 hB2, hq2, stab_blk _ _ _ _ hbA hB12, stab_blk _ _ _ _ hbB hB12, by rw [Nat.zero_min]; rfl, by rw [Nat.zero_min]; rfl, by simp, Below.then hBw hB12, fun j hj => by have h1 := hS1 j hj; have h2 := hbB.2; omega, fun j hj q => by have h1 := hS2 j hj; have h2 := C.lt hq1 j q; omega, hn30, hm30⟩
    clear hq1 hS1 hB1 hq2 hS2 hB2 hB12 hbA hbB hBw heq
    go_wp2_with fail
    go_loopw [11] (fun t11 wr => ∃ (k : Nat) (ls : List Lab) (S : List Nat), k ≤ max nn mm ∧ t11 = .int .i64 (k : Int) ∧ ApR Q w wr A B S S2 p p2 nn mm k ls) (fun t11 _ => max nn mm - (Go.RowKit.intOf t11).toNat)
    case atStart => exact ⟨0, [], S, by omega, rfl, h0⟩
    case round =>
      clear h0
      obtain ⟨k, ls, S, hk, rfl, h⟩ := hrel
      by_cases hx : k < nn
      · have i1 : (k : Int) < (nn : Int) := by omega
        by_cases hy : k < mm
        · have i2 : (k : Int) < (mm : Int) := by omega
          have hrA := h.bA.range
          have hrB := h.bB.range
          go_wp2_with (first | (refine wpList_load_row rfl _ rfl w.heap.size rfl (lab4 A) hrA hundL rfl hsl ?_) | (refine wpList_load_rowg (by rfl) _ rfl w.heap.size rfl (lab4 A) hrA hundL rfl hsl ?_) | (refine wpList_load_row rfl _ rfl (w.heap.size + 1) rfl (lab4 B) hrB hundL rfl hsl ?_) | (refine wpList_load_rowg (by rfl) _ rfl (w.heap.size + 1) rfl (lab4 B) hrB hundL rfl hsl ?_) | fail)
          have ca := C.add A hGA wr h.q (by have := h.len; omega)
          rw [show cntL ls A + 1 = k + 1 from by rw [h.cA]; omega] at ca
          refine ca.mono ?_
          rintro e V1 ⟨rfl, S1, hq1, hT1, hSS1⟩
          clear ca
          have h1 := h.turn C hT1 hSS1
          clear hrA hrB
          have hrB := h1.2.2.1.range
          have hrA := h1.2.1.range
          go_wp2_with (first | (refine wpList_load_row rfl _ rfl w.heap.size rfl (lab4 A) hrA hundL rfl hsl ?_) | (refine wpList_load_rowg (by rfl) _ rfl w.heap.size rfl (lab4 A) hrA hundL rfl hsl ?_) | (refine wpList_load_row rfl _ rfl (w.heap.size + 1) rfl (lab4 B) hrB hundL rfl hsl ?_) | (refine wpList_load_rowg (by rfl) _ rfl (w.heap.size + 1) rfl (lab4 B) hrB hundL rfl hsl ?_) | fail)
          have cb := C.add B hGB V1 hq1 (by have := h.len; simp; omega)
          rw [show cntL (A :: ls) B + 1 = k + 1 from by rw [cnt_cons, h.cB, labEq_ne hne, if_neg (by decide)]; omega] at cb
          refine cb.mono ?_
          rintro e V2 ⟨rfl, S3, hq2, hT2, hSS2⟩
          clear cb
          have h2 := h.both C hne h1 hT1 hq2 hT2 hSS2 (by omega) (by omega)
          go_wp2_with fail
          exact ⟨⟨k + 1, B :: A :: ls, S3, by omega, by simp, h2⟩, by simp [Go.RowKit.intOf]; omega⟩
        · have i2 : ¬ (k : Int) < (mm : Int) := by omega
          have hrA := h.bA.range
          have hrB := h.bB.range
          go_wp2_with (first | (refine wpList_load_row rfl _ rfl w.heap.size rfl (lab4 A) hrA hundL rfl hsl ?_) | (refine wpList_load_rowg (by rfl) _ rfl w.heap.size rfl (lab4 A) hrA hundL rfl hsl ?_) | (refine wpList_load_row rfl _ rfl (w.heap.size + 1) rfl (lab4 B) hrB hundL rfl hsl ?_) | (refine wpList_load_rowg (by rfl) _ rfl (w.heap.size + 1) rfl (lab4 B) hrB hundL rfl hsl ?_) | fail)
          have ca := C.add A hGA wr h.q (by have := h.len; omega)
          rw [show cntL ls A + 1 = k + 1 from by rw [h.cA]; omega] at ca
          refine ca.mono ?_
          rintro e V1 ⟨rfl, S1, hq1, hT1, hSS1⟩
          clear ca
          have h1 := h.turn C hT1 hSS1
          clear hrA hrB
          have hrB := h1.2.2.1.range
          have hrA := h1.2.1.range
          go_wp2_with (first | (refine wpList_load_row rfl _ rfl w.heap.size rfl (lab4 A) hrA hundL rfl hsl ?_) | (refine wpList_load_rowg (by rfl) _ rfl w.heap.size rfl (lab4 A) hrA hundL rfl hsl ?_) | (refine wpList_load_row rfl _ rfl (w.heap.size + 1) rfl (lab4 B) hrB hundL rfl hsl ?_) | (refine wpList_load_rowg (by rfl) _ rfl (w.heap.size + 1) rfl (lab4 B) hrB hundL rfl hsl ?_) | fail)
          have h2 := h.addA C hne hT1 hq1 hSS1 (by omega) (by omega)
          exact ⟨⟨k + 1, A :: ls, S1, by omega, by simp, h2⟩, by simp [Go.RowKit.intOf]; omega⟩
      · have i1 : ¬ (k : Int) < (nn : Int) := by omega
        by_cases hy : k < mm
        · have i2 : (k : Int) < (mm : Int) := by omega
          have hrA := h.bA.range
          have hrB := h.bB.range
          go_wp2_with (first | (refine wpList_load_row rfl _ rfl w.heap.size rfl (lab4 A) hrA hundL rfl hsl ?_) | (refine wpList_load_rowg (by rfl) _ rfl w.heap.size rfl (lab4 A) hrA hundL rfl hsl ?_) | (refine wpList_load_row rfl _ rfl (w.heap.size + 1) rfl (lab4 B) hrB hundL rfl hsl ?_) | (refine wpList_load_rowg (by rfl) _ rfl (w.heap.size + 1) rfl (lab4 B) hrB hundL rfl hsl ?_) | fail)
          have cb := C.add B hGB wr h.q (by have := h.len; omega)
          rw [show cntL ls B + 1 = k + 1 from by rw [h.cB]; omega] at cb
          refine cb.mono ?_
          rintro e V2 ⟨rfl, S3, hq2, hT2, hSS2⟩
          clear cb
          have h2 := h.addB C hne hT2 hq2 hSS2 (by omega) (by omega)
          go_wp2_with fail
          exact ⟨⟨k + 1, B :: ls, S3, by omega, by simp, h2⟩, by simp [Go.RowKit.intOf]; omega⟩
        · have i2 : ¬ (k : Int) < (mm : Int) := by omega
          have hcA : cntL ls A = nn := by have := h.cA; omega
          have hcB : cntL ls B = mm := by have := h.cB; omega
          have hcl : ls.length = nn + mm := by have := h.len; omega
          have hrA := h.bA.range
          have hrB := h.bB.range
          have o1 := C.of_ A hGA wr h.q
          rw [hcA] at o1
          clear hk hx hy
          go_wp2_with (first | (refine wpList_load_row rfl _ rfl w.heap.size rfl (lab4 A) hrA hundL rfl hsl ?_) | (refine wpList_load_rowg (by rfl) _ rfl w.heap.size rfl (lab4 A) hrA hundL rfl hsl ?_) | (refine wpList_load_row rfl _ rfl (w.heap.size + 1) rfl (lab4 B) hrB hundL rfl hsl ?_) | (refine wpList_load_rowg (by rfl) _ rfl (w.heap.size + 1) rfl (lab4 B) hrB hundL rfl hsl ?_) | fail)
          refine o1.mono ?_
          rintro e V1 ⟨rfl, hV1⟩
          have hrA := (stab_blk _ _ _ _ h.bA hV1).range
          have hrB := (stab_blk _ _ _ _ h.bB hV1).range
          have o2 := C.of_ B hGB V1 (C.below h.q hV1)
          rw [hcB] at o2
          clear o1
          go_wp2_with (first | (refine wpList_load_row rfl _ rfl w.heap.size rfl (lab4 A) hrA hundL rfl hsl ?_) | (refine wpList_load_rowg (by rfl) _ rfl w.heap.size rfl (lab4 A) hrA hundL rfl hsl ?_) | (refine wpList_load_row rfl _ rfl (w.heap.size + 1) rfl (lab4 B) hrB hundL rfl hsl ?_) | (refine wpList_load_rowg (by rfl) _ rfl (w.heap.size + 1) rfl (lab4 B) hrB hundL rfl hsl ?_) | fail)
          refine o2.mono ?_
          rintro e V2 ⟨rfl, hV2⟩
          have hV02 := Below.then hV1 hV2
          clear o2 hrA hrB
          go_wp2_with fail
          refine (C.all V2 (C.below h.q hV02) (by omega)).mono ?_
          rintro e V3 ⟨v3, r3, rfl, ho3, hs3, hc3, hV3⟩
          have hl3 : r3.length = nn + mm := by rw [same_len hs3 hc3, hcl]
          obtain ⟨a3, c3, hv3, -, -, -⟩ := OwnR.slice lab_ok.len ho3
          rw [hl3] at hv3
          subst hv3
          have hV03 := Below.then hV02 hV3
          have hrA := (stab_blk _ _ _ _ h.bA hV03).range
          have o3 := C.of_ A hGA V3 (C.below h.q2 hV03)
          rw [show cntL [] A = 0 from rfl] at o3
          have e9 : ((nn + mm : Nat) : Int) = (nn : Int) + (mm : Int) := by omega
          clear ho3 hs3 hc3 hl3 hV1 hV2 hV02 hV3
          go_wp2_with (first | (refine wpList_load_rowg (by rfl) _ rfl w.heap.size rfl (lab4 A) hrA hundL rfl hsl ?_) | fail)
          refine o3.mono ?_
          rintro e V4 ⟨rfl, hV4⟩
          have hV04 := Below.then hV03 hV4
          clear o3 hrA
          go_wp2_with fail
          refine (C.all V4 (C.below h.q2 hV04) (by simp)).mono ?_
          rintro e V5 ⟨v5, r5, rfl, ho5, hs5, hc5, hV5⟩
          have hl5 : r5.length = 0 := by rw [same_len hs5 hc5]; rfl
          obtain ⟨a5, c5, hv5, -, -, -⟩ := OwnR.slice lab_ok.len ho5
          rw [hl5] at hv5
          subst hv5
          have hfin := Below.then h.bl (Below.then hV04 hV5)
          clear ho5 hs5 hc5 hl5
          go_wp2_with fail
          go_ret
          exact ⟨rfl, hfin⟩
end Go.Proofs.Ytajondkpdgiolaa
