/-
  P1401, T6: a label's log takes MaxLog entries, and no more; another label's is not touched by that: the law's walk. Written by mk_audfull.py.
-/
import Derived.Deep.RegionHeld
import Derived.Deep.CutBlock
import Derived.Test.YtohocomemkckeaaDoorPt2
import Derived.Test.YtohocomemkckeaaDoorPt3
namespace Go.Proofs.YtohocomemkckeaaDoor
open Go.RowKit
set_option maxRecDepth 8000
set_option linter.unusedSimpArgs false
set_option linter.unusedVariables false

/-- The three arguments' boxes. -/
structure AF (w W : World) (gb ge : Nat) (a b : Lab) (e : Ent) : Prop where
  bl : Below w.heap.size w W
  ba : BlkL w.heap.size (lab4 a) W
  bb : BlkL gb (lab4 b) W
  be : BlkL ge (ecs e) W
  nb : w.heap.size < gb
  ne : gb < ge
section
variable {w W W' : World} {gb ge : Nat} {a b : Lab} {e : Ent}
theorem AF.then (h : AF w W gb ge a b e) (k : Below W.heap.size W W') : AF w W' gb ge a b e := ⟨Below.then h.bl k, stab_blk _ _ _ _ h.ba k, stab_blk _ _ _ _ h.bb k, stab_blk _ _ _ _ h.be k, h.nb, h.ne⟩
theorem AF.upto (h : AF w W gb ge a b e) (k : Below (ge + 1) W W') : AF w W' gb ge a b e :=
  have q : ∀ {g : Nat} {cs : List Value}, g < ge + 1 → BlkL g cs W → BlkL g cs W' := fun hg hb => ⟨hb.1.same (k.block _ hg), Nat.lt_of_lt_of_le hb.2 k.size⟩
  have hn := h.nb
  have hm := h.ne
  ⟨h.bl.trans (k.mono (by omega)), q (by omega) h.ba, q (by omega) h.bb, q (by omega) h.be, hn, hm⟩
theorem AF.putA (h : AF w W gb ge a b e) (a' : Lab) : ∃ W', W.setCells w.heap.size 0 (lab4 a') = W' ∧ W.there w.heap.size 0 (lab4 a').length ∧ AF w W' gb ge a' b e := by
  have h1 := h.ba.1.setAll (cs := lab4 a') rfl
  have hn := h.nb
  have hm := h.ne
  refine ⟨_, rfl, h.ba.1.there, Below.cells (Nat.le_refl _) _ 0 h.bl, ⟨h1, h1.lt rfl⟩, h.bb.other rfl (by omega), h.be.other rfl (by omega), hn, hm⟩
theorem AF.putB (h : AF w W gb ge a b e) (b' : Lab) : ∃ W', W.setCells gb 0 (lab4 b') = W' ∧ W.there gb 0 (lab4 b').length ∧ AF w W' gb ge a b' e := by
  have h1 := h.bb.1.setAll (cs := lab4 b') rfl
  have hn := h.nb
  have hm := h.ne
  refine ⟨_, rfl, h.bb.1.there, Below.cells (Nat.le_of_lt hn) _ 0 h.bl, h.ba.other rfl (by omega), ⟨h1, h1.lt rfl⟩, h.be.other rfl (by omega), hn, hm⟩
theorem AF.putE (h : AF w W gb ge a b e) (e' : Ent) : ∃ W', W.setCells ge 0 (ecs e') = W' ∧ W.there ge 0 (ecs e').length ∧ AF w W' gb ge a b e' := by
  have h1 := h.be.1.setAll (cs := ecs e') rfl
  have hn := h.nb
  have hm := h.ne
  refine ⟨_, rfl, h.be.1.there, Below.cells (by omega) _ 0 h.bl, h.ba.other rfl (by omega), h.bb.other rfl (by omega), ⟨h1, h1.lt rfl⟩, hn, hm⟩
theorem AF.putL (h : AF w W gb ge a b e) (t : Lab) : ∃ W', W.setCells ge 1 (lab4 t) = W' ∧ W.there ge 1 (lab4 t).length ∧ AF w W' gb ge a b { e with label := t } := by
  have h1 := Blk.putM (lab4 t) 1 h.be.1 (by simp [ecs])
  have hn := h.nb
  have hm := h.ne
  refine ⟨_, rfl, h.be.1.thereM 1 _ (by simp [ecs]), Below.cells (by omega) _ 1 h.bl, h.ba.other rfl (by omega), h.bb.other rfl (by omega), ⟨h1, by rw [size_setCells]; exact h.be.2⟩, hn, hm⟩
theorem AF.putS (h : AF w W gb ge a b e) (s : Int) : AF w (W.setCell ⟨ge, 0, none⟩ (.int .i64 s)) gb ge a b { e with seq := s } := by
  have h1 := h.be.1.set 0 (.int .i64 s) (by simp [ecs])
  have hn := h.nb
  have hm := h.ne
  have q : ∀ {g : Nat} {cs : List Value}, g ≠ ge → BlkL g cs W → BlkL g cs (W.setCell ⟨ge, 0, none⟩ (.int .i64 s)) := fun hg hb => ⟨hb.1.same (heap_setCell_other W ⟨ge, 0, none⟩ _ _ hg), by simpa using hb.2⟩
  exact ⟨h.bl.setCell (p := ⟨ge, 0, none⟩) (by show w.heap.size ≤ ge; omega) _, q (by omega) h.ba, q (by omega) h.bb, ⟨h1, h1.lt rfl⟩, hn, hm⟩
end
theorem add_nil (x : Addr) : x.add 0 = x := by simp [Addr.add]
theorem cells_off {W : World} {x : Addr} {cs : List Value} (h : CellsAt W x cs) {i : Nat} {v : Value} (hv : cs[i]? = some v) (hi : i ≠ 0) : W.cell? ⟨x.block, x.off + i, none⟩ = some v := by
  have h1 := h i v hv
  have h2 := add_off x 0 i hi
  rw [Nat.zero_add, add_nil] at h2
  rw [h2] at h1
  exact h1
/-- A log of c entries of one label. -/
structure FSt (st : List Ent) (a b : Lab) (V : Int) (U : ByteArray) (c : Nat) : Prop where
  len : (audAll st a).length = c
  ent : ∀ (j : Nat) (x : Ent), (audAll st a)[j]? = some x → x.seq = (j : Int) + 1 ∧ x.label = a ∧ x.verb = V ∧ x.user = U
  nob : audAll st b = []
  tot : st.length = c
  le : c ≤ 40
theorem fs_nil (a b : Lab) (V : Int) (U : ByteArray) : FSt [] a b V U 0 := ⟨rfl, (fun j x h => by cases h), rfl, rfl, Nat.zero_le _⟩
theorem FSt.add {st : List Ent} {a b : Lab} {V : Int} {U : ByteArray} {c : Nat} (h : FSt st a b V U c) (hs : AudSt st) (hne : labEq a b = false) {e : Ent} (hm : audMay e = 0) (hl : e.label = a) (hv : e.verb = V) (hu : e.user = U) (hc : c < 40) : audErr st e = 0 ∧ FSt (audAdd st e) a b V U (c + 1) := by
  have h0 : audErr st e = 0 := err_zero.2 ⟨hm, by unfold audFull; rw [hl, h.len]; exact decide_eq_false (by omega)⟩
  have hall := add_all hs.sort e
  have haa : audAll (audAdd st e) a = audAll st a ++ [audNext st e] := by rw [hall, if_pos ⟨h0, by rw [hl]; exact (labEq_iff _ _).2 rfl⟩]
  refine ⟨h0, by rw [haa, List.length_append, h.len]; rfl, fun j x hx => ?_, by rw [hall, if_neg (fun q => by rw [hl, hne] at q; cases q.2), List.append_nil]; exact h.nob, ?_, by omega⟩
  · rw [haa] at hx
    by_cases hj : j < (audAll st a).length
    · rw [List.getElem?_append_left hj] at hx
      exact h.ent j x hx
    · rw [List.getElem?_append_right (by omega)] at hx
      obtain ⟨hj0, hxe⟩ : j = (audAll st a).length ∧ audNext st e = x := by
        match hq : j - (audAll st a).length, hx with
        | 0, hx => exact ⟨by omega, Option.some.inj hx⟩
      rw [← hxe]
      refine ⟨?_, hl, hv, hu⟩
      show (((audAll st e.label).length + 1 : Nat) : Int) = _
      rw [hl, hj0]
      omega
  · unfold audAdd
    rw [if_pos h0, ins_len, h.tot]
theorem FSt.full {st : List Ent} {a b : Lab} {V : Int} {U : ByteArray} (h : FSt st a b V U 40) {e : Ent} (hm : audMay e = 0) (hl : e.label = a) : audErr st e = 18 ∧ audAdd st e = st := by
  have h1 : audErr st e = 18 := by
    unfold audErr
    rw [if_neg (by simp [hm]), if_pos (by unfold audFull; rw [hl, h.len]; rfl)]
  exact ⟨h1, by unfold audAdd; rw [if_neg (by rw [h1]; decide)]⟩
theorem FSt.last {st : List Ent} {a b : Lab} {V : Int} {U : ByteArray} {c : Nat} (h : FSt st a b V U c) (hs : AudSt st) {e : Ent} (hm : audMay e = 0) (hl : e.label = b) : audErr st e = 0 ∧ (audAll (audAdd st e) b).length = 1 ∧ audFull st b = false := by
  have hf : audFull st b = false := by unfold audFull; rw [h.nob]; rfl
  have h0 : audErr st e = 0 := err_zero.2 ⟨hm, by rw [hl]; exact hf⟩
  refine ⟨h0, ?_, hf⟩
  rw [add_all hs.sort, if_pos ⟨h0, by rw [hl]; exact (labEq_iff _ _).2 rfl⟩, h.nob]
  rfl
set_option maxRecDepth 100000 in
set_option maxHeartbeats 8000000 in
theorem auditFull_walk {I : World → Prop} {Q : World → List Nat → Addr → List Ent → Prop} (C : LogOk I Q) (n0 : Int) (a b : Lab) (e : Ent) (w : World) (hI : ∀ W, Below w.heap.size w W → I W) :
    Calls Tryd.prog 3 #[.int .i64 n0, a.v, b.v, .agg (ecs e).toArray] w fun r w' => r = .returned (.bool true) ∧ Below w.heap.size w w' := by
  have hundL := Tryd.underlying23
  have hundE := Tryd.underlying26
  have hsl : (Tryd.prog.info? 23).map (·.size) = some 4 := by kernel_rfl
  have hse : (Tryd.prog.info? 26).map (·.size) = some 9 := by kernel_rfl
  obtain ⟨m, hm50, hmn⟩ : ∃ m : Nat, m < 50 ∧ n0 % 50 = (m : Int) := ⟨(n0 % 50).toNat, by omega, by omega⟩
  have kw := w14_any n0 50 (by decide) (by decide)
  rw [hmn] at kw
  clear hmn
  have hb1 := blkl_alloc w (lab4 a).toArray 23
  have hB1 := alloc_below w (.cells (lab4 a).toArray 23)
  have hs1 : (w.alloc (.cells (lab4 a).toArray 23)).heap.size = w.heap.size + 1 := World.size_alloc _ _
  replace hb1 : BlkL w.heap.size (lab4 a) (w.alloc (.cells (lab4 a).toArray 23)) := hb1
  have hA0 : AF w (((w.alloc (.cells (lab4 a).toArray 23)).alloc (.cells (lab4 b).toArray 23)).alloc (.cells (ecs e).toArray 26)) (w.heap.size + 1) (w.heap.size + 1 + 1) a b e := by
    generalize w.alloc (.cells (lab4 a).toArray 23) = X at *
    have hb2 := blkl_alloc X (lab4 b).toArray 23
    have hB2 := alloc_below X (.cells (lab4 b).toArray 23)
    have hs2 : (X.alloc (.cells (lab4 b).toArray 23)).heap.size = X.heap.size + 1 := World.size_alloc _ _
    replace hb2 : BlkL X.heap.size (lab4 b) (X.alloc (.cells (lab4 b).toArray 23)) := hb2
    generalize X.alloc (.cells (lab4 b).toArray 23) = Y at *
    have hb3 := blkl_alloc Y (ecs e).toArray 26
    have hB3 := alloc_below Y (.cells (ecs e).toArray 26)
    replace hb3 : BlkL Y.heap.size (ecs e) (Y.alloc (.cells (ecs e).toArray 26)) := hb3
    rw [hs1] at hb2
    rw [hs2, hs1] at hb3
    exact ⟨Below.then (Below.then hB1 hB2) hB3, stab_blk _ _ _ _ (stab_blk _ _ _ _ hb1 hB2) hB3, stab_blk _ _ _ _ hb2 hB3, hb3, Nat.lt_succ_self _, Nat.lt_succ_self _⟩
  have hcs : ecs e = [.int .i64 e.seq, .int .i64 e.label.s, .int .i64 e.label.c, .int .i64 e.label.i, .int .i64 e.label.k, .string e.user, .int .i64 e.verb, .string e.object, .int .i64 e.verdict] := rfl
  clear hb1 hB1 hs1
  go_enter Tryd.func3, Tryd.ntmps3
  rw [hcs]
  go_upto_region 1 with fail
  rw [← hcs]
  clear hcs
  generalize ((w.alloc (.cells (lab4 a).toArray 23)).alloc (.cells (lab4 b).toArray 23)).alloc (.cells (ecs e).toArray 26) = W0 at *
  obtain ⟨gb, hgb⟩ : ∃ gb, w.heap.size + 1 = gb := ⟨_, rfl⟩
  obtain ⟨ge, hge⟩ : ∃ ge, gb + 1 = ge := ⟨_, rfl⟩
  rw [hgb, hge] at hA0 ⊢
  clear hgb hge
  go_wp2_with fail
  refine (aknown_any C W0 (hI _ hA0.bl)).mono ?_
  rintro r Z ⟨rfl, hB1⟩
  replace hA0 := hA0.then hB1
  clear hB1
  go_upto_region 3 with fail
  go_cut [0] from 9 (fun s0 wc => ∃ m : Nat, m < 50 ∧ s0 = .int .i64 (m : Int) ∧ AF w wc gb ge (goodL a) (goodL b) e)
  case first =>
    replace hA0 : AF w Z.drew gb ge a b e := hA0.then (Below.refl _ _).drew
    refine wp_region_held_drew (S := (fun _ => True)) (by kernel_rfl) (trivial) ?_
    intro hHeld
    generalize Z.drew = w0 at *
    refine wpAnyH_take (i := 4) (v := ?_) (by simp only [gA, gB, gC]; rfl) (by kernel_rfl) (by kernel_rfl) (by kernel_rfl) (by exact fun _ _ _ h => h) (Or.inl ⟨by rfl, ?_⟩) (by assumption) ?_; rotate_left; (focus (intro w hSw; (try dsimp only at hSw); go_simp; try with_reducible rfl)); (try simp only [Act.put, sA, sB, sC])
    refine wpAnyH_ready (rs := [0, 2]) (by kernel_rfl) (by simp) ?_
    refine AllReadyH.cons (by simp only [gA, gB, gC]; rfl) (fun K hK => ?_) ?_
    · skip
      refine step_load_row rfl _ rfl w.heap.size rfl (lab4 a) hA0.ba.range hundL rfl hsl ?_
      (try simp only [Act.put, sA, sB, sC])
      refine hK.out _ _ (trivial) ?_
      clear hHeld hK
      intro hHeld
      (try simp only [Act.put, sA, sB, sC])
      refine wpAnyH_ready (rs := [1, 2]) (by kernel_rfl) (by simp) ?_
      refine AllReadyH.cons (by simp only [gA, gB, gC]; rfl) (fun K hK => ?_) ?_
      · go_simp
        go_at_call 8
        refine (good_any a w0).mono ?_
        rintro r w1 ⟨rfl, hb⟩
        have hA1 := hA0.then hb
        clear hb
        refine hK.out _ _ (trivial) ?_
        clear hHeld hK
        intro hHeld
        (try simp only [Act.put, sA, sB, sC])
        refine wpAnyH_ready (rs := [2]) (by kernel_rfl) (by simp) ?_
        refine AllReadyH.cons (by simp only [gA, gB, gC]; rfl) (fun K hK => ?_) AllReadyH.nil
        refine step_load_row rfl _ rfl gb rfl (lab4 b) hA1.bb.range hundL rfl hsl ?_
        (try simp only [Act.put, sA, sB, sC])
        refine hK.out _ _ (trivial) ?_
        clear hHeld hK
        intro hHeld
        (try simp only [Act.put, sA, sB, sC])
        refine wpAnyH_ready (rs := [3]) (by kernel_rfl) (by simp) ?_
        refine AllReadyH.cons (by simp only [gA, gB, gC]; rfl) (fun K hK => ?_) AllReadyH.nil
        go_simp
        go_at_call 8
        refine (good_any b w1).mono ?_
        rintro r w2 ⟨rfl, hb⟩
        have hA2 := hA1.then hb
        clear hb
        refine hK.out _ _ (trivial) ?_
        clear hHeld hK
        intro hHeld
        (try simp only [Act.put, sA, sB, sC])
        refine wpAnyH_ready (rs := [5]) (by kernel_rfl) (by simp) ?_
        refine AllReadyH.cons (by simp only [gA, gB, gC]; rfl) (fun K hK => ?_) AllReadyH.nil
        go_simp
        go_at_call 9
        refine (kw w2).mono ?_
        rintro r w' ⟨rfl, hw'⟩
        replace hw' := hw'.symm
        subst hw'
        refine hK.out _ _ (trivial) ?_
        clear hHeld hK
        intro hHeld
        (try simp only [Act.put, sA, sB, sC])
        refine wpAnyH_ready (rs := [6]) (by kernel_rfl) (by simp) ?_
        refine AllReadyH.cons (by simp only [gA, gB, gC]; rfl) (fun K hK => ?_) AllReadyH.nil
        obtain ⟨w3, hwz, hthz, hA3⟩ := hA2.putA (goodL a)
        refine step_store_part rfl _ _ rfl w.heap.size 0 rfl (lab4 (goodL a)) rfl hthz hsl (lab4_one _) hwz ?_
        (try simp only [Act.put, sA, sB, sC])
        refine hK.out _ _ (trivial) ?_
        clear hHeld hK
        intro hHeld
        clear hthz hwz
        (try simp only [Act.put, sA, sB, sC])
        refine wpAnyH_ready (rs := [7]) (by kernel_rfl) (by simp) ?_
        refine AllReadyH.cons (by simp only [gA, gB, gC]; rfl) (fun K hK => ?_) AllReadyH.nil
        obtain ⟨w4, hwz, hthz, hA4⟩ := hA3.putB (goodL b)
        refine step_store_part rfl _ _ rfl gb 0 rfl (lab4 (goodL b)) rfl hthz hsl (lab4_one _) hwz ?_
        (try simp only [Act.put, sA, sB, sC])
        refine hK.out _ _ (trivial) ?_
        clear hHeld hK
        intro hHeld
        clear hthz hwz
        (try simp only [Act.put, sA, sB, sC])
        refine wpAnyH_take (i := 8) (v := ?_) (by simp only [gA, gB, gC]; rfl) (by kernel_rfl) (by kernel_rfl) (by kernel_rfl) (by exact fun _ _ _ h => h) (Or.inl ⟨by rfl, ?_⟩) (by assumption) ?_; rotate_left; (focus (intro w hSw; (try dsimp only at hSw); go_simp; try with_reducible rfl)); (try simp only [Act.put, sA, sB, sC])
        refine wpAnyH_done (by kernel_rfl) ?_ _
        go_wp2_with fail
        go_meet
        exact ⟨m, hm50, rfl, hA4⟩
      refine AllReadyH.cons (by simp only [gA, gB, gC]; rfl) (fun K hK => ?_) AllReadyH.nil
      refine step_load_row rfl _ rfl gb rfl (lab4 b) hA0.bb.range hundL rfl hsl ?_
      (try simp only [Act.put, sA, sB, sC])
      refine hK.out _ _ (trivial) ?_
      clear hHeld hK
      intro hHeld
      (try simp only [Act.put, sA, sB, sC])
      refine wpAnyH_ready (rs := [1]) (by kernel_rfl) (by simp) ?_
      refine AllReadyH.cons (by simp only [gA, gB, gC]; rfl) (fun K hK => ?_) AllReadyH.nil
      go_simp
      go_at_call 8
      refine (good_any a w0).mono ?_
      rintro r w1 ⟨rfl, hb⟩
      have hA1 := hA0.then hb
      clear hb
      refine hK.out _ _ (trivial) ?_
      clear hHeld hK
      intro hHeld
      (try simp only [Act.put, sA, sB, sC])
      refine wpAnyH_ready (rs := [3]) (by kernel_rfl) (by simp) ?_
      refine AllReadyH.cons (by simp only [gA, gB, gC]; rfl) (fun K hK => ?_) AllReadyH.nil
      go_simp
      go_at_call 8
      refine (good_any b w1).mono ?_
      rintro r w2 ⟨rfl, hb⟩
      have hA2 := hA1.then hb
      clear hb
      refine hK.out _ _ (trivial) ?_
      clear hHeld hK
      intro hHeld
      (try simp only [Act.put, sA, sB, sC])
      refine wpAnyH_ready (rs := [5]) (by kernel_rfl) (by simp) ?_
      refine AllReadyH.cons (by simp only [gA, gB, gC]; rfl) (fun K hK => ?_) AllReadyH.nil
      go_simp
      go_at_call 9
      refine (kw w2).mono ?_
      rintro r w' ⟨rfl, hw'⟩
      replace hw' := hw'.symm
      subst hw'
      refine hK.out _ _ (trivial) ?_
      clear hHeld hK
      intro hHeld
      (try simp only [Act.put, sA, sB, sC])
      refine wpAnyH_ready (rs := [6]) (by kernel_rfl) (by simp) ?_
      refine AllReadyH.cons (by simp only [gA, gB, gC]; rfl) (fun K hK => ?_) AllReadyH.nil
      obtain ⟨w3, hwz, hthz, hA3⟩ := hA2.putA (goodL a)
      refine step_store_part rfl _ _ rfl w.heap.size 0 rfl (lab4 (goodL a)) rfl hthz hsl (lab4_one _) hwz ?_
      (try simp only [Act.put, sA, sB, sC])
      refine hK.out _ _ (trivial) ?_
      clear hHeld hK
      intro hHeld
      clear hthz hwz
      (try simp only [Act.put, sA, sB, sC])
      refine wpAnyH_ready (rs := [7]) (by kernel_rfl) (by simp) ?_
      refine AllReadyH.cons (by simp only [gA, gB, gC]; rfl) (fun K hK => ?_) AllReadyH.nil
      obtain ⟨w4, hwz, hthz, hA4⟩ := hA3.putB (goodL b)
      refine step_store_part rfl _ _ rfl gb 0 rfl (lab4 (goodL b)) rfl hthz hsl (lab4_one _) hwz ?_
      (try simp only [Act.put, sA, sB, sC])
      refine hK.out _ _ (trivial) ?_
      clear hHeld hK
      intro hHeld
      clear hthz hwz
      (try simp only [Act.put, sA, sB, sC])
      refine wpAnyH_take (i := 8) (v := ?_) (by simp only [gA, gB, gC]; rfl) (by kernel_rfl) (by kernel_rfl) (by kernel_rfl) (by exact fun _ _ _ h => h) (Or.inl ⟨by rfl, ?_⟩) (by assumption) ?_; rotate_left; (focus (intro w hSw; (try dsimp only at hSw); go_simp; try with_reducible rfl)); (try simp only [Act.put, sA, sB, sC])
      refine wpAnyH_done (by kernel_rfl) ?_ _
      go_wp2_with fail
      go_meet
      exact ⟨m, hm50, rfl, hA4⟩
    refine AllReadyH.cons (by simp only [gA, gB, gC]; rfl) (fun K hK => ?_) AllReadyH.nil
    refine step_load_row rfl _ rfl gb rfl (lab4 b) hA0.bb.range hundL rfl hsl ?_
    (try simp only [Act.put, sA, sB, sC])
    refine hK.out _ _ (trivial) ?_
    clear hHeld hK
    intro hHeld
    (try simp only [Act.put, sA, sB, sC])
    refine wpAnyH_ready (rs := [0]) (by kernel_rfl) (by simp) ?_
    refine AllReadyH.cons (by simp only [gA, gB, gC]; rfl) (fun K hK => ?_) AllReadyH.nil
    refine step_load_row rfl _ rfl w.heap.size rfl (lab4 a) hA0.ba.range hundL rfl hsl ?_
    (try simp only [Act.put, sA, sB, sC])
    refine hK.out _ _ (trivial) ?_
    clear hHeld hK
    intro hHeld
    (try simp only [Act.put, sA, sB, sC])
    refine wpAnyH_ready (rs := [1]) (by kernel_rfl) (by simp) ?_
    refine AllReadyH.cons (by simp only [gA, gB, gC]; rfl) (fun K hK => ?_) AllReadyH.nil
    go_simp
    go_at_call 8
    refine (good_any a w0).mono ?_
    rintro r w1 ⟨rfl, hb⟩
    have hA1 := hA0.then hb
    clear hb
    refine hK.out _ _ (trivial) ?_
    clear hHeld hK
    intro hHeld
    (try simp only [Act.put, sA, sB, sC])
    refine wpAnyH_ready (rs := [3]) (by kernel_rfl) (by simp) ?_
    refine AllReadyH.cons (by simp only [gA, gB, gC]; rfl) (fun K hK => ?_) AllReadyH.nil
    go_simp
    go_at_call 8
    refine (good_any b w1).mono ?_
    rintro r w2 ⟨rfl, hb⟩
    have hA2 := hA1.then hb
    clear hb
    refine hK.out _ _ (trivial) ?_
    clear hHeld hK
    intro hHeld
    (try simp only [Act.put, sA, sB, sC])
    refine wpAnyH_ready (rs := [5]) (by kernel_rfl) (by simp) ?_
    refine AllReadyH.cons (by simp only [gA, gB, gC]; rfl) (fun K hK => ?_) AllReadyH.nil
    go_simp
    go_at_call 9
    refine (kw w2).mono ?_
    rintro r w' ⟨rfl, hw'⟩
    replace hw' := hw'.symm
    subst hw'
    refine hK.out _ _ (trivial) ?_
    clear hHeld hK
    intro hHeld
    (try simp only [Act.put, sA, sB, sC])
    refine wpAnyH_ready (rs := [6]) (by kernel_rfl) (by simp) ?_
    refine AllReadyH.cons (by simp only [gA, gB, gC]; rfl) (fun K hK => ?_) AllReadyH.nil
    obtain ⟨w3, hwz, hthz, hA3⟩ := hA2.putA (goodL a)
    refine step_store_part rfl _ _ rfl w.heap.size 0 rfl (lab4 (goodL a)) rfl hthz hsl (lab4_one _) hwz ?_
    (try simp only [Act.put, sA, sB, sC])
    refine hK.out _ _ (trivial) ?_
    clear hHeld hK
    intro hHeld
    clear hthz hwz
    (try simp only [Act.put, sA, sB, sC])
    refine wpAnyH_ready (rs := [7]) (by kernel_rfl) (by simp) ?_
    refine AllReadyH.cons (by simp only [gA, gB, gC]; rfl) (fun K hK => ?_) AllReadyH.nil
    obtain ⟨w4, hwz, hthz, hA4⟩ := hA3.putB (goodL b)
    refine step_store_part rfl _ _ rfl gb 0 rfl (lab4 (goodL b)) rfl hthz hsl (lab4_one _) hwz ?_
    (try simp only [Act.put, sA, sB, sC])
    refine hK.out _ _ (trivial) ?_
    clear hHeld hK
    intro hHeld
    clear hthz hwz
    (try simp only [Act.put, sA, sB, sC])
    refine wpAnyH_take (i := 8) (v := ?_) (by simp only [gA, gB, gC]; rfl) (by kernel_rfl) (by kernel_rfl) (by kernel_rfl) (by exact fun _ _ _ h => h) (Or.inl ⟨by rfl, ?_⟩) (by assumption) ?_; rotate_left; (focus (intro w hSw; (try dsimp only at hSw); go_simp; try with_reducible rfl)); (try simp only [Act.put, sA, sB, sC])
    refine wpAnyH_done (by kernel_rfl) ?_ _
    go_wp2_with fail
    go_meet
    exact ⟨m, hm50, rfl, hA4⟩
  case rest =>
  clear kw hA0 hm50 m
  obtain ⟨m, hm50, rfl, hA⟩ := hcut
  have hGa := good_GL a
  have hGb := good_GL b
  generalize goodL a = a at *
  generalize goodL b = b at *
  have hra := hA.ba.range
  have hrb := hA.bb.range
  have hnq : ∀ W, (binOp .eql 23 (.agg (lab4 a).toArray) (.agg (lab4 b).toArray)).run Tryd.prog W = .ok (.bool (labEq a b)) W := run_eql_lab a b
  go_upto_if 24 with (first | (refine wpList_load_row rfl _ rfl w.heap.size rfl (lab4 a) hra hundL rfl hsl ?_) | (refine wpList_load_row rfl _ rfl gb rfl (lab4 b) hrb hundL rfl hsl ?_) | fail)
  clear hnq hra hrb
  cases hne : labEq a b
  rotate_left
  · have hfin := hA.bl
    go_wp2_with fail
    go_ret
    exact ⟨rfl, hfin⟩
  go_wp2_with fail
  refine (C.new wc (hI _ hA.bl)).mono ?_
  rintro r W2 ⟨p, S, rfl, hq2, hS2, hB2⟩
  have hgl : ge + 1 ≤ wc.heap.size := hA.be.2
  have hL2 : LG Q (ge + 1) W2 p [] := ⟨⟨S, hq2, fun k hk => Nat.le_trans hgl (hS2 k hk)⟩, aud_nil⟩
  replace hA := hA.then hB2
  have hre := hA.be.range
  clear hq2 hS2 hB2 hgl
  go_wp2_with (first | (refine wpList_load_row rfl _ rfl ge rfl (ecs e) hre hundE rfl hse ?_) | fail)
  refine (agood_any e W2).mono ?_
  rintro r W3 ⟨rfl, hB3⟩
  have hL3 := hL2.below C hB3
  replace hA := hA.then hB3
  obtain ⟨W4, hW4, hth4, hA4⟩ := hA.putE (goodE e)
  have hme := goodE_may e
  have hL4 : LG Q (ge + 1) W4 p [] := by
    obtain ⟨S3, hq3, hS3⟩ := hL3.q
    exact ⟨⟨S3, C.keep hq3 fun k hk => by rw [← hW4]; exact heap_setCells_other (by have := hS3 k hk; omega) _ _ _, hS3⟩, hL3.ok⟩
  obtain ⟨e0, he0⟩ : ∃ e0, goodE e = e0 := ⟨_, rfl⟩
  rw [he0] at hW4 hth4 hA4 hme ⊢
  have hone := ent_one e0
  clear hre hL2 hL3 hA hB3 he0
  go_wp2_with (first | (refine wpList_store_row rfl _ _ rfl ge rfl (ecs e0) rfl hth4 hse hone hW4 ?_) | fail)
  have hV0 : Aside (e0.verb = e0.verb) := rfl
  have hU0 : Aside (e0.user = e0.user) := rfl
  have hF0 := fs_nil a b e0.verb e0.user
  obtain ⟨V, hV⟩ : ∃ V, e0.verb = V := ⟨_, rfl⟩
  obtain ⟨U, hU⟩ : ∃ U, e0.user = U := ⟨_, rfl⟩
  rw [hV, hU] at hF0
  replace hV : Aside (e0.verb = V) := hV
  replace hU : Aside (e0.user = U) := hU
  clear hV0 hU0 hth4 hW4 hone
  go_loopw [10] (fun t10 wr => ∃ (k c : Nat) (st : List Ent) (e1 : Ent), 1 ≤ k ∧ k ≤ m + 1 ∧ Aside (c = min (k - 1) 40) ∧ t10 = .int .i64 (k : Int) ∧ AF w wr gb ge a b e1 ∧ LG Q (ge + 1) wr p st ∧ FSt st a b V U c ∧ audMay e1 = 0 ∧ Aside (e1.verb = V) ∧ Aside (e1.user = U)) (fun t10 _ => m + 1 - (Go.RowKit.intOf t10).toNat)
  case atStart => exact ⟨1, 0, [], e0, by omega, by omega, (show 0 = min (1 - 1) 40 by decide), rfl, hA4, hL4, hF0, hme, hV, hU⟩
  case round =>
  clear hA4 hL4 hF0 hme hV hU
  obtain ⟨k, c, st, e1, hk1, hkm, hck, rfl, hA, hL, hF, hm1, hv1, hu1⟩ := hrel
  by_cases hk : k ≤ m
  · have i1 : (k : Int) ≤ (m : Int) := by omega
    have hra := hA.ba.range
    obtain ⟨W5, hW5, hth5, hA5⟩ := hA.putL a
    have hA6 := hA5.putS (1000 - (k : Int))
    have hc5 := (hA5.be.1 0 _ rfl).1
    have hf5 := (hA5.be.1 0 _ rfl).2
    have hwr : IntKind.i64.wrap (1000 - (k : Int)) = 1000 - (k : Int) := by rw [IntKind.wrap_i64]; omega
    obtain ⟨W6, hW6⟩ : ∃ W6, W5.setCell ⟨ge, 0, none⟩ (.int .i64 (1000 - (k : Int))) = W6 := ⟨_, rfl⟩
    rw [hW6] at hA6
    obtain ⟨e2, he2⟩ : ∃ e2, ({ ({ e1 with label := a } : Ent) with seq := 1000 - (k : Int) } : Ent) = e2 := ⟨_, rfl⟩
    rw [he2] at hA6
    have hm2 : audMay e2 = 0 := by
      rw [← he2]
      obtain ⟨_, q⟩ := may_zero.1 hm1
      exact may_zero.2 ⟨chkL_zero.2 hGa, q⟩
    have hl2 : Aside (e2.label = a) := by rw [← he2]; exact rfl
    have hv2 : Aside (e2.verb = V) := by rw [← he2]; exact hv1
    have hu2 : Aside (e2.user = U) := by rw [← he2]; exact hu1
    have hL6 : LG Q (ge + 1) W6 p st := by
      obtain ⟨S3, hq3, hS3⟩ := hL.q
      refine ⟨⟨S3, C.keep hq3 fun j hj => ?_, hS3⟩, hL.ok⟩
      have hj1 := hS3 j hj
      rw [← hW6, heap_setCell_other W5 ⟨ge, 0, none⟩ j _ (by show j ≠ ge; omega), ← hW5]
      exact heap_setCells_other (by omega) _ _ _
    have hst := hL6.ok
    have hr6 := hA6.be.range
    have hgl : ge + 1 ≤ W6.heap.size := hA6.be.2
    clear hA5 he2 hA hL hm1 hv1 hu1
    go_upto_region 12 with (first | (refine wpList_load_row rfl _ rfl w.heap.size rfl (lab4 a) hra hundL rfl hsl ?_) | (refine wpList_store_part rfl _ _ rfl ge 1 rfl (lab4 a) rfl hth5 hsl (lab4_one _) hW5 ?_) | fail)
    (try rw [hW6])
    clear hra hth5 hW5 hW6 hc5 hf5
    have kadd := hL6.add C e2 (may_small hm2) (Below.refl _ _) hgl (by rw [hF.tot]; have := hF.le; omega) (hI _ hA6.bl)
    by_cases h40 : k ≤ 40
    · obtain ⟨hE, hF2⟩ := hF.add hst hne hm2 hl2.out hv2.out hu2.out (by rw [hck.out]; omega)
      rw [hE] at kadd
      have i2 : (k : Int) ≤ 40 := by omega
      clear hE
      go_wp2_with (first | (refine wpList_load_row rfl _ rfl ge rfl (ecs e2) hr6 hundE rfl hse ?_) | fail)
      refine kadd.mono ?_
      rintro r W7 ⟨rfl, hL7, hB7, -⟩
      have hA7 := hA6.upto hB7
      clear kadd hr6 hL6 hA6 hB7
      go_wp2_with fail
      exact ⟨⟨k + 1, c + 1, _, e2, by omega, by omega, (show c + 1 = min (k + 1 - 1) 40 by rw [hck.out]; omega), by simp, hA7, hL7, hF2, hm2, hv2, hu2⟩, by simp [Go.RowKit.intOf]; omega⟩
    · have hc40 : c = 40 := by rw [hck.out]; omega
      subst hc40
      obtain ⟨hE, hN⟩ := hF.full hm2 hl2.out
      rw [hE, hN] at kadd
      have i2 : ¬ (k : Int) ≤ 40 := by omega
      clear hE hN
      go_wp2_with (first | (refine wpList_load_row rfl _ rfl ge rfl (ecs e2) hr6 hundE rfl hse ?_) | fail)
      refine kadd.mono ?_
      rintro r W7 ⟨rfl, hL7, hB7, -⟩
      have hA7 := hA6.upto hB7
      clear kadd hr6 hL6 hA6 hB7
      go_wp2_with fail
      exact ⟨⟨k + 1, 40, _, e2, by omega, by omega, (show 40 = min (k + 1 - 1) 40 by omega), by simp, hA7, hL7, hF, hm2, hv2, hu2⟩, by simp [Go.RowKit.intOf]; omega⟩
  · obtain rfl : k = m + 1 := by omega
    have i1 : ¬ ((m : Int) + 1 ≤ (m : Int)) := by omega
    replace hck : Aside (c = min m 40) := hck
    obtain ⟨S1, hq1, hS1⟩ := hL.q
    have hst := hL.ok
    have htot : st.length ≤ 40 := by rw [hF.tot]; exact hF.le
    have ka := C.all a hGa wr (hI _ hA.bl) hq1 hst (by omega)
    have hra := hA.ba.range
    clear hk hk1 hkm
    obtain ⟨R, hR⟩ : ∃ R, audAll st a = R := ⟨_, rfl⟩
    have hRl : R.length = c := by rw [← hR]; exact hF.len
    have hRe : ∀ (j : Nat) (x : Ent), R[j]? = some x → x.seq = (j : Int) + 1 ∧ x.label = a ∧ x.verb = V ∧ x.user = U := by rw [← hR]; exact hF.ent
    rw [hR] at ka
    clear hR
    have hw1 : IntKind.i64.wrap ((m : Int) + 1) = (m : Int) + 1 := by rw [IntKind.wrap_i64]; omega
    go_wp2_with (first | (refine wpList_load_row rfl _ rfl w.heap.size rfl (lab4 a) hra hundL rfl hsl ?_) | fail)
    refine ka.mono ?_
    rintro r X ⟨vx, rfl, htell, hBX⟩
    obtain ⟨xa, xc, rfl, -, -, hrow⟩ := htell.sl
    rw [hRl]
    replace hRl : Aside (R.length = c) := hRl
    have hLX := hL.below C hBX
    have hAX := hA.then hBX
    have hc40 := hF.le
    clear ka hra hq1 hS1 hL hA htell hBX
    go_wp2_with fail
    go_loopw [13] (fun t13 wr => ∃ j : Nat, j ≤ c ∧ t13 = .int .i64 (j : Int) ∧ Below X.heap.size X wr) (fun t13 _ => c - (Go.RowKit.intOf t13).toNat)
    case atStart => exact ⟨0, by omega, rfl, Below.refl _ _⟩
    case round =>
    obtain ⟨j, hj, rfl, hB⟩ := hrel
    by_cases hjc : j < c
    · have j1 : (j : Int) < (c : Int) := by omega
      obtain ⟨q, hq⟩ : ∃ q, R[j]? = some q := ⟨_, List.getElem?_eq_getElem (by rw [hRl.out]; exact hjc)⟩
      obtain ⟨y, rfl, -⟩ := hrow j q hq
      have hcl : ∀ W, Below X.heap.size X W → CellsAt W (y.add (j * 9)) (ecs q) := fun W k => (hrow.below ent_ok.len k).at ent_ok.len hq
      obtain ⟨q0, q1, q6, q5⟩ := hRe j q hq
      have c0 : ∀ W, Below X.heap.size X W → W.cell? (y.add (j * 9)) = some (.int .i64 ((j : Int) + 1)) := fun W k => by
        have := hcl W k 0 _ rfl
        rw [add_nil, q0] at this
        exact this
      have c1 : ∀ W, Below X.heap.size X W → CellsAt W ⟨(y.add (j * 9)).block, (y.add (j * 9)).off + 1, none⟩ (lab4 a) := fun W k => by
        have := ent_lab (hcl W k)
        rw [q1] at this
        exact this
      have c6 : ∀ W, Below X.heap.size X W → W.cell? ⟨(y.add (j * 9)).block, (y.add (j * 9)).off + 6, none⟩ = some (.int .i64 V) := fun W k => by
        have := cells_off (hcl W k) (i := 6) rfl (by decide)
        rw [q6] at this
        exact this
      have c5 : ∀ W, Below X.heap.size X W → W.cell? ⟨(y.add (j * 9)).block, (y.add (j * 9)).off + 5, none⟩ = some (.string U) := fun W k => by
        have := cells_off (hcl W k) (i := 5) rfl (by decide)
        rw [q5] at this
        exact this
      have b6 : ∀ W, Below X.heap.size X W → W.cell? ⟨ge, 6, none⟩ = some (.int .i64 V) := fun W k => by
        have := ((hAX.then k).be.1 6 _ rfl).1
        rw [hv1.out] at this
        exact this
      have b5 : ∀ W, Below X.heap.size X W → W.cell? ⟨ge, 5, none⟩ = some (.string U) := fun W k => by
        have := ((hAX.then k).be.1 5 _ rfl).1
        rw [hu1.out] at this
        exact this
      have hnl : ∀ W, (binOp .neq 23 (.agg (lab4 a).toArray) (.agg (lab4 a).toArray)).run Tryd.prog W = .ok (.bool false) W := fun W => by
        have := run_neq_lab a a W
        rw [(labEq_iff a a).2 rfl] at this
        exact this
      have hwj : IntKind.i64.wrap ((j : Int) + 1) = (j : Int) + 1 := by rw [IntKind.wrap_i64]; omega
      have hS : (fun W => Below X.heap.size X W) wr.drew := Below.then hB (Below.refl _ _).drew
      clear hcl q0 q1 q6 q5 hq hB
      go_upto_region 19 with fail
      refine wp_region_held_drew (S := (fun W => Below X.heap.size X W)) (by kernel_rfl) (by exact hS) ?_
      intro hHeld
      (first | (refine wpAnyH_take (i := 0) (v := ?_) (by simp only [gA, gB, gC]; rfl) (by kernel_rfl) (by kernel_rfl) (by kernel_rfl) (by exact fun _ _ _ h => h) (Or.inl ⟨by rfl, ?_⟩) (by assumption) ?_; rotate_left; (focus (intro w hSw; (try dsimp only at hSw); go_simp; try with_reducible rfl))) | (refine wpAnyH_take (i := 0) (v := undef) (by simp only [gA, gB, gC]; rfl) (by kernel_rfl) (by kernel_rfl) (by kernel_rfl) (by exact fun _ _ _ h => h) (Or.inr ⟨by rfl, rfl⟩) (by assumption) ?_) | fail); simp only [Act.put, sA, sB, sC, hwj]
      (first | (refine wpAnyH_take (i := 1) (v := ?_) (by simp only [gA, gB, gC]; rfl) (by kernel_rfl) (by kernel_rfl) (by kernel_rfl) (by exact fun _ _ _ h => h) (Or.inl ⟨by rfl, ?_⟩) (by assumption) ?_; rotate_left; (focus (intro w hSw; (try dsimp only at hSw); go_simp; try with_reducible rfl))) | (refine wpAnyH_take (i := 1) (v := undef) (by simp only [gA, gB, gC]; rfl) (by kernel_rfl) (by kernel_rfl) (by kernel_rfl) (by exact fun _ _ _ h => h) (Or.inr ⟨by rfl, rfl⟩) (by assumption) ?_) | fail); simp only [Act.put, sA, sB, sC, hwj]
      (first | (refine wpAnyH_take (i := 2) (v := ?_) (by simp only [gA, gB, gC]; rfl) (by kernel_rfl) (by kernel_rfl) (by kernel_rfl) (by exact fun _ _ _ h => h) (Or.inl ⟨by rfl, ?_⟩) (by assumption) ?_; rotate_left; (focus (intro w hSw; (try dsimp only at hSw); go_simp; try with_reducible rfl))) | (refine wpAnyH_take (i := 2) (v := undef) (by simp only [gA, gB, gC]; rfl) (by kernel_rfl) (by kernel_rfl) (by kernel_rfl) (by exact fun _ _ _ h => h) (Or.inr ⟨by rfl, rfl⟩) (by assumption) ?_) | fail); simp only [Act.put, sA, sB, sC, hwj]
      (first | (refine wpAnyH_take (i := 3) (v := ?_) (by simp only [gA, gB, gC]; rfl) (by kernel_rfl) (by kernel_rfl) (by kernel_rfl) (by exact fun _ _ _ h => h) (Or.inl ⟨by rfl, ?_⟩) (by assumption) ?_; rotate_left; (focus (intro w hSw; (try dsimp only at hSw); go_simp; try with_reducible rfl))) | (refine wpAnyH_take (i := 3) (v := undef) (by simp only [gA, gB, gC]; rfl) (by kernel_rfl) (by kernel_rfl) (by kernel_rfl) (by exact fun _ _ _ h => h) (Or.inr ⟨by rfl, rfl⟩) (by assumption) ?_) | fail); simp only [Act.put, sA, sB, sC, hwj]
      (first | (refine wpAnyH_take (i := 4) (v := _) (by simp only [gA, gB, gC]; rfl) (by kernel_rfl) (by kernel_rfl) (by kernel_rfl) (by exact fun _ _ _ h => h) (yields_cell (by rfl) _ rfl (y.add (j * 9)) rfl (.int .i64 ((j : Int) + 1)) c0 intP_load) (by assumption) ?_) | (refine wpAnyH_take (i := 4) (v := undef) (by simp only [gA, gB, gC]; rfl) (by kernel_rfl) (by kernel_rfl) (by kernel_rfl) (by exact fun _ _ _ h => h) (Or.inr ⟨by rfl, rfl⟩) (by assumption) ?_) | fail); simp only [Act.put, sA, sB, sC, hwj]
      (first | (refine wpAnyH_take (i := 5) (v := ?_) (by simp only [gA, gB, gC]; rfl) (by kernel_rfl) (by kernel_rfl) (by kernel_rfl) (by exact fun _ _ _ h => h) (Or.inl ⟨by rfl, ?_⟩) (by assumption) ?_; rotate_left; (focus (intro w hSw; (try dsimp only at hSw); go_simp; try with_reducible rfl))) | (refine wpAnyH_take (i := 5) (v := undef) (by simp only [gA, gB, gC]; rfl) (by kernel_rfl) (by kernel_rfl) (by kernel_rfl) (by exact fun _ _ _ h => h) (Or.inr ⟨by rfl, rfl⟩) (by assumption) ?_) | fail); simp only [Act.put, sA, sB, sC, hwj]
      (first | (refine wpAnyH_take (i := 6) (v := ?_) (by simp only [gA, gB, gC]; rfl) (by kernel_rfl) (by kernel_rfl) (by kernel_rfl) (by exact fun _ _ _ h => h) (Or.inl ⟨by rfl, ?_⟩) (by assumption) ?_; rotate_left; (focus (intro w hSw; (try dsimp only at hSw); go_simp; try with_reducible rfl))) | (refine wpAnyH_take (i := 6) (v := undef) (by simp only [gA, gB, gC]; rfl) (by kernel_rfl) (by kernel_rfl) (by kernel_rfl) (by exact fun _ _ _ h => h) (Or.inr ⟨by rfl, rfl⟩) (by assumption) ?_) | fail); simp only [Act.put, sA, sB, sC, hwj]
      (first | (refine wpAnyH_take (i := 7) (v := ?_) (by simp only [gA, gB, gC]; rfl) (by kernel_rfl) (by kernel_rfl) (by kernel_rfl) (by exact fun _ _ _ h => h) (Or.inl ⟨by rfl, ?_⟩) (by assumption) ?_; rotate_left; (focus (intro w hSw; (try dsimp only at hSw); go_simp; try with_reducible rfl))) | (refine wpAnyH_take (i := 7) (v := undef) (by simp only [gA, gB, gC]; rfl) (by kernel_rfl) (by kernel_rfl) (by kernel_rfl) (by exact fun _ _ _ h => h) (Or.inr ⟨by rfl, rfl⟩) (by assumption) ?_) | fail); simp only [Act.put, sA, sB, sC, hwj]
      (first | (refine wpAnyH_take (i := 8) (v := ?_) (by simp only [gA, gB, gC]; rfl) (by kernel_rfl) (by kernel_rfl) (by kernel_rfl) (by exact fun _ _ _ h => h) (Or.inl ⟨by rfl, ?_⟩) (by assumption) ?_; rotate_left; (focus (intro w hSw; (try dsimp only at hSw); go_simp; try with_reducible rfl))) | (refine wpAnyH_take (i := 8) (v := undef) (by simp only [gA, gB, gC]; rfl) (by kernel_rfl) (by kernel_rfl) (by kernel_rfl) (by exact fun _ _ _ h => h) (Or.inr ⟨by rfl, rfl⟩) (by assumption) ?_) | fail); simp only [Act.put, sA, sB, sC, hwj]
      (first | (refine wpAnyH_take (i := 9) (v := ?_) (by simp only [gA, gB, gC]; rfl) (by kernel_rfl) (by kernel_rfl) (by kernel_rfl) (by exact fun _ _ _ h => h) (Or.inl ⟨by rfl, ?_⟩) (by assumption) ?_; rotate_left; (focus (intro w hSw; (try dsimp only at hSw); go_simp; try with_reducible rfl))) | (refine wpAnyH_take (i := 9) (v := undef) (by simp only [gA, gB, gC]; rfl) (by kernel_rfl) (by kernel_rfl) (by kernel_rfl) (by exact fun _ _ _ h => h) (Or.inr ⟨by rfl, rfl⟩) (by assumption) ?_) | fail); simp only [Act.put, sA, sB, sC, hwj]
      (first | (refine wpAnyH_take (i := 10) (v := ?_) (by simp only [gA, gB, gC]; rfl) (by kernel_rfl) (by kernel_rfl) (by kernel_rfl) (by exact fun _ _ _ h => h) (Or.inl ⟨by rfl, ?_⟩) (by assumption) ?_; rotate_left; (focus (intro w hSw; (try dsimp only at hSw); go_simp; try with_reducible rfl))) | (refine wpAnyH_take (i := 10) (v := undef) (by simp only [gA, gB, gC]; rfl) (by kernel_rfl) (by kernel_rfl) (by kernel_rfl) (by exact fun _ _ _ h => h) (Or.inr ⟨by rfl, rfl⟩) (by assumption) ?_) | fail); simp only [Act.put, sA, sB, sC, hwj]
      (first | (refine wpAnyH_take (i := 11) (v := ?_) (by simp only [gA, gB, gC]; rfl) (by kernel_rfl) (by kernel_rfl) (by kernel_rfl) (by exact fun _ _ _ h => h) (Or.inl ⟨by rfl, ?_⟩) (by assumption) ?_; rotate_left; (focus (intro w hSw; (try dsimp only at hSw); go_simp; try with_reducible rfl))) | (refine wpAnyH_take (i := 11) (v := undef) (by simp only [gA, gB, gC]; rfl) (by kernel_rfl) (by kernel_rfl) (by kernel_rfl) (by exact fun _ _ _ h => h) (Or.inr ⟨by rfl, rfl⟩) (by assumption) ?_) | fail); simp only [Act.put, sA, sB, sC, hwj]
      (first | (refine wpAnyH_take (i := 12) (v := ?_) (by simp only [gA, gB, gC]; rfl) (by kernel_rfl) (by kernel_rfl) (by kernel_rfl) (by exact fun _ _ _ h => h) (Or.inl ⟨by rfl, ?_⟩) (by assumption) ?_; rotate_left; (focus (intro w hSw; (try dsimp only at hSw); go_simp; try with_reducible rfl))) | (refine wpAnyH_take (i := 12) (v := undef) (by simp only [gA, gB, gC]; rfl) (by kernel_rfl) (by kernel_rfl) (by kernel_rfl) (by exact fun _ _ _ h => h) (Or.inr ⟨by rfl, rfl⟩) (by assumption) ?_) | fail); simp only [Act.put, sA, sB, sC, hwj]
      (first | (refine wpAnyH_take (i := 13) (v := _) (by simp only [gA, gB, gC]; rfl) (by kernel_rfl) (by kernel_rfl) (by kernel_rfl) (by exact fun _ _ _ h => h) (yields_at (by rfl) _ rfl ⟨(y.add (j * 9)).block, (y.add (j * 9)).off + 1, none⟩ rfl (lab4 a) c1 hundL rfl hsl) (by assumption) ?_) | (refine wpAnyH_take (i := 13) (v := undef) (by simp only [gA, gB, gC]; rfl) (by kernel_rfl) (by kernel_rfl) (by kernel_rfl) (by exact fun _ _ _ h => h) (Or.inr ⟨by rfl, rfl⟩) (by assumption) ?_) | fail); simp only [Act.put, sA, sB, sC, hwj]
      (first | (refine wpAnyH_take (i := 14) (v := _) (by simp only [gA, gB, gC]; rfl) (by kernel_rfl) (by kernel_rfl) (by kernel_rfl) (by exact fun _ _ _ h => h) (yields_row (by rfl) _ rfl w.heap.size rfl (lab4 a) (fun _ k => (hAX.then k).ba.range) hundL rfl hsl) (by assumption) ?_) | (refine wpAnyH_take (i := 14) (v := undef) (by simp only [gA, gB, gC]; rfl) (by kernel_rfl) (by kernel_rfl) (by kernel_rfl) (by exact fun _ _ _ h => h) (Or.inr ⟨by rfl, rfl⟩) (by assumption) ?_) | fail); simp only [Act.put, sA, sB, sC, hwj]
      (first | (refine wpAnyH_take (i := 15) (v := ?_) (by simp only [gA, gB, gC]; rfl) (by kernel_rfl) (by kernel_rfl) (by kernel_rfl) (by exact fun _ _ _ h => h) (Or.inl ⟨by rfl, ?_⟩) (by assumption) ?_; rotate_left; (focus (intro w hSw; (try dsimp only at hSw); go_simp; try with_reducible rfl))) | (refine wpAnyH_take (i := 15) (v := undef) (by simp only [gA, gB, gC]; rfl) (by kernel_rfl) (by kernel_rfl) (by kernel_rfl) (by exact fun _ _ _ h => h) (Or.inr ⟨by rfl, rfl⟩) (by assumption) ?_) | fail); simp only [Act.put, sA, sB, sC, hwj]
      (first | (refine wpAnyH_take (i := 16) (v := ?_) (by simp only [gA, gB, gC]; rfl) (by kernel_rfl) (by kernel_rfl) (by kernel_rfl) (by exact fun _ _ _ h => h) (Or.inl ⟨by rfl, ?_⟩) (by assumption) ?_; rotate_left; (focus (intro w hSw; (try dsimp only at hSw); go_simp; try with_reducible rfl))) | (refine wpAnyH_take (i := 16) (v := undef) (by simp only [gA, gB, gC]; rfl) (by kernel_rfl) (by kernel_rfl) (by kernel_rfl) (by exact fun _ _ _ h => h) (Or.inr ⟨by rfl, rfl⟩) (by assumption) ?_) | fail); simp only [Act.put, sA, sB, sC, hwj]
      (first | (refine wpAnyH_take (i := 17) (v := ?_) (by simp only [gA, gB, gC]; rfl) (by kernel_rfl) (by kernel_rfl) (by kernel_rfl) (by exact fun _ _ _ h => h) (Or.inl ⟨by rfl, ?_⟩) (by assumption) ?_; rotate_left; (focus (intro w hSw; (try dsimp only at hSw); go_simp; try with_reducible rfl))) | (refine wpAnyH_take (i := 17) (v := undef) (by simp only [gA, gB, gC]; rfl) (by kernel_rfl) (by kernel_rfl) (by kernel_rfl) (by exact fun _ _ _ h => h) (Or.inr ⟨by rfl, rfl⟩) (by assumption) ?_) | fail); simp only [Act.put, sA, sB, sC, hwj]
      (first | (refine wpAnyH_take (i := 18) (v := ?_) (by simp only [gA, gB, gC]; rfl) (by kernel_rfl) (by kernel_rfl) (by kernel_rfl) (by exact fun _ _ _ h => h) (Or.inl ⟨by rfl, ?_⟩) (by assumption) ?_; rotate_left; (focus (intro w hSw; (try dsimp only at hSw); go_simp; try with_reducible rfl))) | (refine wpAnyH_take (i := 18) (v := undef) (by simp only [gA, gB, gC]; rfl) (by kernel_rfl) (by kernel_rfl) (by kernel_rfl) (by exact fun _ _ _ h => h) (Or.inr ⟨by rfl, rfl⟩) (by assumption) ?_) | fail); simp only [Act.put, sA, sB, sC, hwj]
      (first | (refine wpAnyH_take (i := 19) (v := ?_) (by simp only [gA, gB, gC]; rfl) (by kernel_rfl) (by kernel_rfl) (by kernel_rfl) (by exact fun _ _ _ h => h) (Or.inl ⟨by rfl, ?_⟩) (by assumption) ?_; rotate_left; (focus (intro w hSw; (try dsimp only at hSw); go_simp; try with_reducible rfl))) | (refine wpAnyH_take (i := 19) (v := undef) (by simp only [gA, gB, gC]; rfl) (by kernel_rfl) (by kernel_rfl) (by kernel_rfl) (by exact fun _ _ _ h => h) (Or.inr ⟨by rfl, rfl⟩) (by assumption) ?_) | fail); simp only [Act.put, sA, sB, sC, hwj]
      (first | (refine wpAnyH_take (i := 20) (v := ?_) (by simp only [gA, gB, gC]; rfl) (by kernel_rfl) (by kernel_rfl) (by kernel_rfl) (by exact fun _ _ _ h => h) (Or.inl ⟨by rfl, ?_⟩) (by assumption) ?_; rotate_left; (focus (intro w hSw; (try dsimp only at hSw); go_simp; try with_reducible rfl))) | (refine wpAnyH_take (i := 20) (v := undef) (by simp only [gA, gB, gC]; rfl) (by kernel_rfl) (by kernel_rfl) (by kernel_rfl) (by exact fun _ _ _ h => h) (Or.inr ⟨by rfl, rfl⟩) (by assumption) ?_) | fail); simp only [Act.put, sA, sB, sC, hwj]
      (first | (refine wpAnyH_take (i := 21) (v := ?_) (by simp only [gA, gB, gC]; rfl) (by kernel_rfl) (by kernel_rfl) (by kernel_rfl) (by exact fun _ _ _ h => h) (Or.inl ⟨by rfl, ?_⟩) (by assumption) ?_; rotate_left; (focus (intro w hSw; (try dsimp only at hSw); go_simp; try with_reducible rfl))) | (refine wpAnyH_take (i := 21) (v := undef) (by simp only [gA, gB, gC]; rfl) (by kernel_rfl) (by kernel_rfl) (by kernel_rfl) (by exact fun _ _ _ h => h) (Or.inr ⟨by rfl, rfl⟩) (by assumption) ?_) | fail); simp only [Act.put, sA, sB, sC, hwj]
      (first | (refine wpAnyH_take (i := 22) (v := _) (by simp only [gA, gB, gC]; rfl) (by kernel_rfl) (by kernel_rfl) (by kernel_rfl) (by exact fun _ _ _ h => h) (yields_cell (by rfl) _ rfl ⟨(y.add (j * 9)).block, (y.add (j * 9)).off + 6, none⟩ rfl (.int .i64 V) c6 intP_load) (by assumption) ?_) | (refine wpAnyH_take (i := 22) (v := undef) (by simp only [gA, gB, gC]; rfl) (by kernel_rfl) (by kernel_rfl) (by kernel_rfl) (by exact fun _ _ _ h => h) (Or.inr ⟨by rfl, rfl⟩) (by assumption) ?_) | fail); simp only [Act.put, sA, sB, sC, hwj]
      (first | (refine wpAnyH_take (i := 23) (v := ?_) (by simp only [gA, gB, gC]; rfl) (by kernel_rfl) (by kernel_rfl) (by kernel_rfl) (by exact fun _ _ _ h => h) (Or.inl ⟨by rfl, ?_⟩) (by assumption) ?_; rotate_left; (focus (intro w hSw; (try dsimp only at hSw); go_simp; try with_reducible rfl))) | (refine wpAnyH_take (i := 23) (v := undef) (by simp only [gA, gB, gC]; rfl) (by kernel_rfl) (by kernel_rfl) (by kernel_rfl) (by exact fun _ _ _ h => h) (Or.inr ⟨by rfl, rfl⟩) (by assumption) ?_) | fail); simp only [Act.put, sA, sB, sC, hwj]
      (first | (refine wpAnyH_take (i := 24) (v := _) (by simp only [gA, gB, gC]; rfl) (by kernel_rfl) (by kernel_rfl) (by kernel_rfl) (by exact fun _ _ _ h => h) (yields_cell (by rfl) _ rfl ⟨ge, 6, none⟩ rfl (.int .i64 V) b6 intP_load) (by assumption) ?_) | (refine wpAnyH_take (i := 24) (v := undef) (by simp only [gA, gB, gC]; rfl) (by kernel_rfl) (by kernel_rfl) (by kernel_rfl) (by exact fun _ _ _ h => h) (Or.inr ⟨by rfl, rfl⟩) (by assumption) ?_) | fail); simp only [Act.put, sA, sB, sC, hwj]
      (first | (refine wpAnyH_take (i := 25) (v := ?_) (by simp only [gA, gB, gC]; rfl) (by kernel_rfl) (by kernel_rfl) (by kernel_rfl) (by exact fun _ _ _ h => h) (Or.inl ⟨by rfl, ?_⟩) (by assumption) ?_; rotate_left; (focus (intro w hSw; (try dsimp only at hSw); go_simp; try with_reducible rfl))) | (refine wpAnyH_take (i := 25) (v := undef) (by simp only [gA, gB, gC]; rfl) (by kernel_rfl) (by kernel_rfl) (by kernel_rfl) (by exact fun _ _ _ h => h) (Or.inr ⟨by rfl, rfl⟩) (by assumption) ?_) | fail); simp only [Act.put, sA, sB, sC, hwj]
      (first | (refine wpAnyH_take (i := 26) (v := ?_) (by simp only [gA, gB, gC]; rfl) (by kernel_rfl) (by kernel_rfl) (by kernel_rfl) (by exact fun _ _ _ h => h) (Or.inl ⟨by rfl, ?_⟩) (by assumption) ?_; rotate_left; (focus (intro w hSw; (try dsimp only at hSw); go_simp; try with_reducible rfl))) | (refine wpAnyH_take (i := 26) (v := undef) (by simp only [gA, gB, gC]; rfl) (by kernel_rfl) (by kernel_rfl) (by kernel_rfl) (by exact fun _ _ _ h => h) (Or.inr ⟨by rfl, rfl⟩) (by assumption) ?_) | fail); simp only [Act.put, sA, sB, sC, hwj]
      (first | (refine wpAnyH_take (i := 27) (v := ?_) (by simp only [gA, gB, gC]; rfl) (by kernel_rfl) (by kernel_rfl) (by kernel_rfl) (by exact fun _ _ _ h => h) (Or.inl ⟨by rfl, ?_⟩) (by assumption) ?_; rotate_left; (focus (intro w hSw; (try dsimp only at hSw); go_simp; try with_reducible rfl))) | (refine wpAnyH_take (i := 27) (v := undef) (by simp only [gA, gB, gC]; rfl) (by kernel_rfl) (by kernel_rfl) (by kernel_rfl) (by exact fun _ _ _ h => h) (Or.inr ⟨by rfl, rfl⟩) (by assumption) ?_) | fail); simp only [Act.put, sA, sB, sC, hwj]
      (first | (refine wpAnyH_take (i := 28) (v := ?_) (by simp only [gA, gB, gC]; rfl) (by kernel_rfl) (by kernel_rfl) (by kernel_rfl) (by exact fun _ _ _ h => h) (Or.inl ⟨by rfl, ?_⟩) (by assumption) ?_; rotate_left; (focus (intro w hSw; (try dsimp only at hSw); go_simp; try with_reducible rfl))) | (refine wpAnyH_take (i := 28) (v := undef) (by simp only [gA, gB, gC]; rfl) (by kernel_rfl) (by kernel_rfl) (by kernel_rfl) (by exact fun _ _ _ h => h) (Or.inr ⟨by rfl, rfl⟩) (by assumption) ?_) | fail); simp only [Act.put, sA, sB, sC, hwj]
      (first | (refine wpAnyH_take (i := 29) (v := ?_) (by simp only [gA, gB, gC]; rfl) (by kernel_rfl) (by kernel_rfl) (by kernel_rfl) (by exact fun _ _ _ h => h) (Or.inl ⟨by rfl, ?_⟩) (by assumption) ?_; rotate_left; (focus (intro w hSw; (try dsimp only at hSw); go_simp; try with_reducible rfl))) | (refine wpAnyH_take (i := 29) (v := undef) (by simp only [gA, gB, gC]; rfl) (by kernel_rfl) (by kernel_rfl) (by kernel_rfl) (by exact fun _ _ _ h => h) (Or.inr ⟨by rfl, rfl⟩) (by assumption) ?_) | fail); simp only [Act.put, sA, sB, sC, hwj]
      (first | (refine wpAnyH_take (i := 30) (v := ?_) (by simp only [gA, gB, gC]; rfl) (by kernel_rfl) (by kernel_rfl) (by kernel_rfl) (by exact fun _ _ _ h => h) (Or.inl ⟨by rfl, ?_⟩) (by assumption) ?_; rotate_left; (focus (intro w hSw; (try dsimp only at hSw); go_simp; try with_reducible rfl))) | (refine wpAnyH_take (i := 30) (v := undef) (by simp only [gA, gB, gC]; rfl) (by kernel_rfl) (by kernel_rfl) (by kernel_rfl) (by exact fun _ _ _ h => h) (Or.inr ⟨by rfl, rfl⟩) (by assumption) ?_) | fail); simp only [Act.put, sA, sB, sC, hwj]
      (first | (refine wpAnyH_take (i := 31) (v := ?_) (by simp only [gA, gB, gC]; rfl) (by kernel_rfl) (by kernel_rfl) (by kernel_rfl) (by exact fun _ _ _ h => h) (Or.inl ⟨by rfl, ?_⟩) (by assumption) ?_; rotate_left; (focus (intro w hSw; (try dsimp only at hSw); go_simp; try with_reducible rfl))) | (refine wpAnyH_take (i := 31) (v := undef) (by simp only [gA, gB, gC]; rfl) (by kernel_rfl) (by kernel_rfl) (by kernel_rfl) (by exact fun _ _ _ h => h) (Or.inr ⟨by rfl, rfl⟩) (by assumption) ?_) | fail); simp only [Act.put, sA, sB, sC, hwj]
      (first | (refine wpAnyH_take (i := 32) (v := _) (by simp only [gA, gB, gC]; rfl) (by kernel_rfl) (by kernel_rfl) (by kernel_rfl) (by exact fun _ _ _ h => h) (yields_cell (by rfl) _ rfl ⟨(y.add (j * 9)).block, (y.add (j * 9)).off + 5, none⟩ rfl (.string U) c5 strP_load) (by assumption) ?_) | (refine wpAnyH_take (i := 32) (v := undef) (by simp only [gA, gB, gC]; rfl) (by kernel_rfl) (by kernel_rfl) (by kernel_rfl) (by exact fun _ _ _ h => h) (Or.inr ⟨by rfl, rfl⟩) (by assumption) ?_) | fail); simp only [Act.put, sA, sB, sC, hwj]
      (first | (refine wpAnyH_take (i := 33) (v := ?_) (by simp only [gA, gB, gC]; rfl) (by kernel_rfl) (by kernel_rfl) (by kernel_rfl) (by exact fun _ _ _ h => h) (Or.inl ⟨by rfl, ?_⟩) (by assumption) ?_; rotate_left; (focus (intro w hSw; (try dsimp only at hSw); go_simp; try with_reducible rfl))) | (refine wpAnyH_take (i := 33) (v := undef) (by simp only [gA, gB, gC]; rfl) (by kernel_rfl) (by kernel_rfl) (by kernel_rfl) (by exact fun _ _ _ h => h) (Or.inr ⟨by rfl, rfl⟩) (by assumption) ?_) | fail); simp only [Act.put, sA, sB, sC, hwj]
      (first | (refine wpAnyH_take (i := 34) (v := _) (by simp only [gA, gB, gC]; rfl) (by kernel_rfl) (by kernel_rfl) (by kernel_rfl) (by exact fun _ _ _ h => h) (yields_cell (by rfl) _ rfl ⟨ge, 5, none⟩ rfl (.string U) b5 strP_load) (by assumption) ?_) | (refine wpAnyH_take (i := 34) (v := undef) (by simp only [gA, gB, gC]; rfl) (by kernel_rfl) (by kernel_rfl) (by kernel_rfl) (by exact fun _ _ _ h => h) (Or.inr ⟨by rfl, rfl⟩) (by assumption) ?_) | fail); simp only [Act.put, sA, sB, sC, hwj]
      (first | (refine wpAnyH_take (i := 35) (v := ?_) (by simp only [gA, gB, gC]; rfl) (by kernel_rfl) (by kernel_rfl) (by kernel_rfl) (by exact fun _ _ _ h => h) (Or.inl ⟨by rfl, ?_⟩) (by assumption) ?_; rotate_left; (focus (intro w hSw; (try dsimp only at hSw); go_simp; try with_reducible rfl))) | (refine wpAnyH_take (i := 35) (v := undef) (by simp only [gA, gB, gC]; rfl) (by kernel_rfl) (by kernel_rfl) (by kernel_rfl) (by exact fun _ _ _ h => h) (Or.inr ⟨by rfl, rfl⟩) (by assumption) ?_) | fail); simp only [Act.put, sA, sB, sC, hwj]
      (first | (refine wpAnyH_take (i := 36) (v := ?_) (by simp only [gA, gB, gC]; rfl) (by kernel_rfl) (by kernel_rfl) (by kernel_rfl) (by exact fun _ _ _ h => h) (Or.inl ⟨by rfl, ?_⟩) (by assumption) ?_; rotate_left; (focus (intro w hSw; (try dsimp only at hSw); go_simp; try with_reducible rfl))) | (refine wpAnyH_take (i := 36) (v := undef) (by simp only [gA, gB, gC]; rfl) (by kernel_rfl) (by kernel_rfl) (by kernel_rfl) (by exact fun _ _ _ h => h) (Or.inr ⟨by rfl, rfl⟩) (by assumption) ?_) | fail); simp only [Act.put, sA, sB, sC, hwj]
      refine wpAnyH_done (by kernel_rfl) ?_ _
      go_wp2_with fail
      exact ⟨⟨j + 1, by omega, by simp, hS⟩, by simp [Go.RowKit.intOf]; omega⟩
    · obtain rfl : j = c := by omega
      have j1 : ¬ (j : Int) < (j : Int) := by omega
      have hA8 := hAX.then hB
      have hL8 := hLX.below C hB
      clear hAX hLX hB hRe hrow
      obtain ⟨W9, hW9, hth9, hA9⟩ := hA8.putL b
      have hL9 : LG Q (ge + 1) W9 p st := by
        obtain ⟨S3, hq3, hS3⟩ := hL8.q
        exact ⟨⟨S3, C.keep hq3 fun k hk => by rw [← hW9]; exact heap_setCells_other (by have := hS3 k hk; omega) _ _ _, hS3⟩, hL8.ok⟩
      obtain ⟨e3, he3⟩ : ∃ e3, ({ e1 with label := b } : Ent) = e3 := ⟨_, rfl⟩
      rw [he3] at hA9
      have hm3 : audMay e3 = 0 := by
        rw [← he3]
        obtain ⟨_, q⟩ := may_zero.1 hm1
        exact may_zero.2 ⟨chkL_zero.2 hGb, q⟩
      have hl3 : e3.label = b := by rw [← he3]
      obtain ⟨hE, hlast, hfb⟩ := hF.last hst hm3 hl3
      have hfa : audFull st a = decide (40 ≤ m) := by
        unfold audFull
        rw [hF.len, hck.out]
        by_cases h : 40 ≤ m
        · rw [decide_eq_true h]; exact decide_eq_true (by omega)
        · rw [decide_eq_false h]; exact decide_eq_false (by omega)
      have hrb := hA8.bb.range
      clear hl3 he3 hm1 hv1 hu1 hF hL8
      go_upto_region 22 with (first | (refine wpList_load_row rfl _ rfl gb rfl (lab4 b) hrb hundL rfl hsl ?_) | (refine wpList_store_part rfl _ _ rfl ge 1 rfl (lab4 b) rfl hth9 hsl (lab4_one _) hW9 ?_) | fail)
      (try simp only [Act.put])
      clear hth9 hW9 hrb hA8
      obtain ⟨S4, hq4, hS4⟩ := hL9.q
      have ha9 := hA9.bl
      have kfa := C.full a hGa W9 (hI _ ha9) hq4 hst (by omega)
      rw [hfa] at kfa
      have hra := hA9.ba.range
      obtain ⟨mi, hmi⟩ : ∃ mi : Int, (m : Int) = mi := ⟨_, rfl⟩
      have imn : (if (40 : Int) < mi then (40 : Int) else mi) = (j : Int) := by
        have := hck.out
        split <;> omega
      obtain ⟨D, hD⟩ : ∃ D : Bool, decide (40 ≤ m) = D := ⟨_, rfl⟩
      have hge : decide ((40 : Int) ≤ mi) = D := by
        rw [← hD]
        by_cases h : 40 ≤ m
        · rw [decide_eq_true h]; exact decide_eq_true (by omega)
        · rw [decide_eq_false h]; exact decide_eq_false (by omega)
      rw [hD] at kfa
      rw [hmi]
      have kfb : ∀ W, Below W9.heap.size W9 W → Calls Tryd.prog 14 #[.pointer (some p), b.v] W fun r w' => r = .returned (.bool false) ∧ Below W.heap.size W w' := fun W q => by
        have := C.full b hGb W (hI _ (Below.then ha9 q)) (C.below hq4 q) hst (by omega)
        rw [hfb] at this
        exact this
      have kad : ∀ W, Below W9.heap.size W9 W → Calls Tryd.prog 12 #[.pointer (some p), .agg (ecs e3).toArray] W fun r w' => r = .returned (.int .i64 0) ∧ LG Q (ge + 1) w' p (audAdd st e3) ∧ Below (ge + 1) W w' := fun W q => by
        have h9 := hL9.below C q
        have := h9.add C e3 (may_small hm3) (Below.refl _ _) (Nat.le_trans hA9.be.2 q.size) (by omega) (hI _ (Below.then ha9 q))
        rw [hE] at this
        exact this.mono fun r w' h => ⟨h.1, h.2.1, h.2.2.1⟩
      have hlen2 : (audAdd st e3).length ≤ 200 := by have := add_lenA st e3; omega
      generalize audAdd st e3 = st2 at *
      clear hmi hck hfa hm50 hw1 i1 j1 hj hjc hc40 hE hfb hst htot hm3 hRl hne hD hq4 hS4 hGa
      go_wp2_with (first | (refine wpList_load_rowg (by rfl) _ rfl w.heap.size rfl (lab4 a) hra hundL rfl hsl ?_) | fail)
      refine kfa.mono ?_
      rintro r Y1 ⟨rfl, hb1⟩
      have hA1 := hA9.then hb1
      have hrb := hA1.bb.range
      clear kfa hra
      go_wp2_with (first | (refine wpList_load_rowg (by rfl) _ rfl gb rfl (lab4 b) hrb hundL rfl hsl ?_) | fail)
      refine (kfb Y1 hb1).mono ?_
      rintro r Y2 ⟨rfl, hb2⟩
      have hb12 := Below.then hb1 hb2
      have hA2 := hA1.then hb2
      have hre := hA2.be.range
      clear kfb hrb hA1
      go_wp2_with (first | (refine wpList_load_rowg (by rfl) _ rfl ge rfl (ecs e3) hre hundE rfl hse ?_) | fail)
      refine (kad Y2 hb12).mono ?_
      rintro r Y3 ⟨rfl, hL3, hb3⟩
      have hA3 := hA2.upto hb3
      have hrb := hA3.bb.range
      obtain ⟨S5, hq5, -⟩ := hL3.q
      have kal := C.all b hGb Y3 (hI _ hA3.bl) hq5 hL3.ok hlen2
      obtain ⟨R2, hR2⟩ : ∃ R2, audAll st2 b = R2 := ⟨_, rfl⟩
      rw [hR2] at kal hlast
      clear kad hre hA2 hR2 hq5
      go_wp2_with (first | (refine wpList_load_rowg (by rfl) _ rfl gb rfl (lab4 b) hrb hundL rfl hsl ?_) | fail)
      refine kal.mono ?_
      rintro r Y4 ⟨v4, rfl, ht4, hb4⟩
      obtain ⟨ta, tc, rfl, -, -, -⟩ := ht4.sl
      rw [hlast]
      have hfin := Below.then hA3.bl hb4
      clear kal hrb ht4 hlast
      go_wp2_with fail
      go_ret
      exact ⟨rfl, hfin⟩
end Go.Proofs.YtohocomemkckeaaDoor
