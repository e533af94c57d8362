/-
  CHAPTER 18's LAWS: within, a good message, rules. Written by mk_maillaw.py.
-/
import Derived.Test.YtjpabjmicaopcaaMailRef
import Derived.Test.YtjpabjmicaopcaaChr
import Derived.Deep.RegionHeld
namespace Go.Proofs.Ytjpabjmicaopcaa
open Go.RowKit
set_option maxRecDepth 8000
set_option linter.unusedSimpArgs false
set_option linter.unusedVariables false

set_option maxHeartbeats 400000 in
theorem w18_any (k m : Int) (h0 : 0 < m) (h1 : m < 1000000000000) (w : World) :
    Calls Try.prog 11 #[.int .i64 k, .int .i64 m] w fun e w' => e = .returned (.int .i64 (k % m)) ∧ w' = w := by
  have b1 := Int.lt_tmod_of_pos k h0
  have b2 := Int.tmod_lt_of_pos k h0
  have hm0 : ¬ m = 0 := by omega
  have hm1 : ¬ m = -1 := by omega
  by_cases hn : k.tmod m < 0
  · have e1 : k % m = k.tmod m + m := by
      rw [Int.tmod_eq_emod] at hn ⊢
      split at hn
      · have := Int.emod_nonneg k (by omega : m ≠ 0); omega
      · rename_i hc; rw [if_neg hc]; rw [Int.natAbs_of_nonneg (by omega)]; omega
    rw [e1]
    clear e1
    go_enter Try.func11, Try.ntmps11
    go_wp2
    go_ret
    exact ⟨rfl, rfl⟩
  · have e1 : k % m = k.tmod m := by
      rw [Int.tmod_eq_emod] at hn ⊢
      split
      · simp
      · rename_i hc
        rw [if_neg hc] at hn
        have := Int.emod_lt_of_pos k h0
        rw [Int.natAbs_of_nonneg (by omega)] at *
        omega
    rw [e1]
    clear e1
    go_enter Try.func11, Try.ntmps11
    go_wp2
    go_ret
    exact ⟨rfl, rfl⟩
theorem wpAnyH_strong {P : Program} {ops : Array Oper} {Q : Exit → Act → World → Prop} {md : Region.Mode} {S : World → Prop} (S' : World → Prop) (hs : ∀ w, S' w → S w) : ∀ {fuel : Nat} {listed : Array Bool} {a : Act} {w : World}, wpAnyH P md ops Q S' fuel listed a w → wpAnyH P md ops Q S fuel listed a w
  | 0, _, _, _, h => h
  | fuel + 1, _, _, _, h => ⟨h.1, fun i hi => wpOp_mono (fun a' w' h' => ⟨hs _ h'.1, wpAnyH_strong S' hs h'.2⟩) (h.2 i hi)⟩
section
variable {ops : Array Oper} {o : Oper} {a : Act} {w : World} {Q : Exit → Act → World → Prop}
theorem step_st {T : TypeId} {K : Act → World → Prop} {E : Prop} (hg : o.guard = none) (x z : Operand) (ho : o.op = .store T x z) (y : Addr) (hx : a.eval x = .pointer (some y)) (v : Value) (hz : a.eval z = v) (hst : (Instr.storeAt T (.pointer (some y)) v).run Try.prog w = .ok () (w.setCell y v)) (hK : K (a.put o.dst undef) (w.setCell y v)) :
    if Region.wanted o (yielded ops a.tmps) = true then Oper.wp Try.prog o a w K Q else E := by
  have hw : Region.wanted o (yielded ops a.tmps) = true := by simp [Region.wanted, hg]
  rw [if_pos hw]
  unfold Oper.wp
  simp [execOp, ho, hx, hz, hst, Result.andThen]
  exact hK
end
theorem strP_store (w : World) (y : Addr) (u v : Value) (hs : ∃ s, v = .string s) (hc : w.cell? y = some u) (hf : w.frozen? y = false) : (Instr.storeAt 9 (.pointer (some y)) v).run Try.prog w = .ok () (w.setCell y v) := by
  obtain ⟨s, rfl⟩ := hs
  have h1 := Try.underlying9
  go_simp
section
variable {ops : Array Oper} {o : Oper} {a : Act} {w : World} {Q : Exit → Act → World → Prop}
theorem step_allocM {T : TypeId} {K : Act → World → Prop} {E : Prop} {z : Array Value} (hg : o.guard = none) (ho : o.op = .alloc T) (hz : ∀ w : World, (Instr.alloc T true (.tuple #[])).run Try.prog w = .ok (.pointer (some ⟨w.heap.size, 0, none⟩)) (w.alloc (.cells z T))) (hK : K (a.put o.dst (.pointer (some ⟨w.heap.size, 0, none⟩))) (w.alloc (.cells z T))) :
    if Region.wanted o (yielded ops a.tmps) = true then Oper.wp Try.prog o a w K Q else E := by
  have hw : Region.wanted o (yielded ops a.tmps) = true := by simp [Region.wanted, hg]
  rw [if_pos hw]
  unfold Oper.wp
  simp [execOp, ho, hz, Result.andThen]
  exact hK
theorem step_load_atM {T : TypeId} {d : TypeDesc} {K : Act → World → Prop} {E : Prop} (hg : o.guard = none) (x : Operand) (ho : o.op = .load T x) (y : Addr) (hx : a.eval x = .pointer (some y)) (cs : List Value) (hc : CellsAt w y cs)
    (hu : Try.prog.underlying T = some d) (hd : d.isRow = true) (hi : (Try.prog.info? T).map (·.size) = some cs.length) (hK : K (a.put o.dst (.agg cs.toArray)) w) :
    if Region.wanted o (yielded ops a.tmps) = true then Oper.wp Try.prog o a w K Q else E := by
  have hw : Region.wanted o (yielded ops a.tmps) = true := by simp [Region.wanted, hg]
  rw [if_pos hw]
  exact wp_load_at x ho y hx cs hc hu hd hi hK
end
theorem ChrAt.keptM {W W' : World} {pb k : Nat} (h : ChrAt W pb k) (hb : W'.heap[pb]? = W.heap[pb]?) (hs : W.heap.size ≤ W'.heap.size) : ChrAt W' pb k := ⟨Nat.lt_of_lt_of_le h.lt hs, (World.cell?_of_block (a := ⟨pb, 0, none⟩) hb).trans h.cell, h.hk⟩
theorem chr_made97 (w : World) (q : Nat) (hq : 97 + q < 256) : ChrAt (w.alloc (.cells #[.int .u8 (97 + (q : Int))] 5)) w.heap.size (97 + q) := by
  have := chr_made w (97 + q) hq
  rw [Int.natCast_add] at this
  exact this
theorem blk_setO {W : World} {b g : Nat} {cs : List Value} (h : BlkL b cs W) (hne : b ≠ g) (o : Nat) (u : Value) : BlkL b cs (W.setCell ⟨g, o, none⟩ u) := ⟨h.1.same (heap_setCell_other W ⟨g, o, none⟩ b u hne), by simpa using h.2⟩
theorem blk_setS {W : World} {b i : Nat} {cs : List Value} (h : BlkL b cs W) (hi : i < cs.length) (u : Value) : BlkL b (cs.set i u) (W.setCell ⟨b, i, none⟩ u) := by
  have h1 := h.1.set i u hi
  exact ⟨h1, by simpa using h.2⟩
theorem cut0_run (s : ByteArray) (b : Nat) (h2 : b ≤ s.size) (w : World) : (Instr.slice 9 (.string s) none (some (.int .i64 (b : Int))) none).run Try.prog w = .ok (.string (s.extract 0 b)) w := by
  have h0 := Try.underlying9
  have i2 : ¬ (s.size : Int) < (b : Int) := by omega
  have i4 : (b : Int) ≤ (s.size : Int) := by omega
  go_simp
/-- A message such as may be. -/
def cutT (t : ByteArray) : ByteArray := if 40 < t.size then t.extract 0 40 else t
def goodM (m : Msg) (k : Int) : Msg := ⟨chr (97 + (k % 4).toNat), goodL m.lab, chr (97 + (k.tdiv 4 % 4).toNat), goodL m.box, cutT m.text⟩
set_option maxRecDepth 8000 in
set_option maxHeartbeats 4000000 in
theorem mgood_any (m : Msg) (k : Int) (hk : -9223372036854775808 ≤ k ∧ k ≤ 9223372036854775807) (w : World) :
    Calls Try.prog 18 #[.agg m.cs.toArray, .int .i64 k] w fun e w' => e = .returned (.agg (goodM m k).cs.toArray) ∧ Below w.heap.size w w' := by
  have hundL := Try.underlying24
  have hundM := Try.underlying26
  have hszL : ∀ t : Lab, (Try.prog.info? 24).map (·.size) = some (lab4 t).length := fun t => by show _ = some 4; kernel_rfl
  have hszM : (Try.prog.info? 26).map (·.size) = some 11 := by kernel_rfl
  have kg1 : ∀ W, Calls Try.prog 25 #[.agg (lab4 m.lab).toArray] W fun e w' => e = .returned (.agg (lab4 (goodL m.lab)).toArray) ∧ Below W.heap.size W w' := fun W => good_any m.lab W
  have kg2 : ∀ W, Calls Try.prog 25 #[.agg (lab4 m.box).toArray] W fun e w' => e = .returned (.agg (lab4 (goodL m.box)).toArray) ∧ Below W.heap.size W w' := fun W => good_any m.box W
  obtain ⟨j1, hj1⟩ : ∃ j : Nat, k % 4 = (j : Int) := ⟨(k % 4).toNat, by have := Int.emod_nonneg k (by decide : (4 : Int) ≠ 0); omega⟩
  obtain ⟨j2, hj2⟩ : ∃ j : Nat, k.tdiv 4 % 4 = (j : Int) := ⟨(k.tdiv 4 % 4).toNat, by have := Int.emod_nonneg (k.tdiv 4) (by decide : (4 : Int) ≠ 0); omega⟩
  have l1 : j1 < 4 := by have := Int.emod_lt_of_pos k (by decide : (0 : Int) < 4); omega
  have l2 : j2 < 4 := by have := Int.emod_lt_of_pos (k.tdiv 4) (by decide : (0 : Int) < 4); omega
  have kw1 := fun W => w18_any k 4 (by decide) (by decide) W
  have kw2 := fun W => w18_any (k.tdiv 4) 4 (by decide) (by decide) W
  rw [hj1] at kw1
  rw [hj2] at kw2
  have hG : goodM m k = ⟨chr (97 + j1), goodL m.lab, chr (97 + j2), goodL m.box, cutT m.text⟩ := by
    unfold goodM
    rw [hj1, hj2]
    rfl
  obtain ⟨G, hGe⟩ : ∃ G, goodM m k = G := ⟨_, rfl⟩
  rw [hGe] at hG ⊢
  clear hj1 hj2 hGe
  replace hG : Aside (G = ⟨chr (97 + j1), goodL m.lab, chr (97 + j2), goodL m.box, cutT m.text⟩) := hG
  have h0 := blkl_alloc w m.cs.toArray 26
  have b0 := alloc_below w (.cells m.cs.toArray 26)
  have h1 := blkl_alloc (w.alloc (.cells m.cs.toArray 26)) zM11 26
  have b1 := alloc_below (w.alloc (.cells m.cs.toArray 26)) (.cells zM11 26)
  rw [World.size_alloc] at h1
  have hm : BlkL w.heap.size m.cs ((w.alloc (.cells m.cs.toArray 26)).alloc (.cells zM11 26)) := stab_blk _ _ _ _ h0 b1
  have hr : BlkL (w.heap.size + 1) zeroM.cs ((w.alloc (.cells m.cs.toArray 26)).alloc (.cells zM11 26)) := h1
  have hB := Below.then b0 b1
  clear h0 h1 b0 b1
  obtain ⟨M, hM⟩ : ∃ M, m.cs = M := ⟨_, rfl⟩
  rw [hM] at hm hr hB ⊢
  replace hM : Aside (m.cs = M) := hM
  have hlM : M.length = 11 := by rw [← hM.out]; rfl
  go_enter Try.func18, Try.ntmps18
  go_upto_region 1 with fail
  generalize (w.alloc (.cells M.toArray 26)).alloc (.cells zM11 26) = Z at *
  (try simp only [World.size_alloc])
  have hwi1 : IntKind.i64.wrap (97 + (j1 : Int)) = 97 + (j1 : Int) := Go.IntWalk.i64_in _ (by omega)
  have hwi2 : IntKind.i64.wrap (97 + (j2 : Int)) = 97 + (j2 : Int) := Go.IntWalk.i64_in _ (by omega)
  have hwk : IntKind.i64.wrap (k.tdiv 4) = k.tdiv 4 := Go.IntWalk.i64_in _ (by
    by_cases h0 : 0 ≤ k
    · rw [Int.tdiv_eq_ediv_of_nonneg h0]; omega
    · have e : k.tdiv 4 = -((-k).tdiv 4) := by rw [Int.neg_tdiv, Int.neg_neg]
      rw [e, Int.tdiv_eq_ediv_of_nonneg (by omega)]
      omega)
  have hw1 : IntKind.u8.wrap (97 + (j1 : Int)) = 97 + (j1 : Int) := Go.IntWalk.u8_in _ (by omega)
  have hw2 : IntKind.u8.wrap (97 + (j2 : Int)) = 97 + (j2 : Int) := Go.IntWalk.u8_in _ (by omega)
  have hS0 : Below Z.heap.size Z Z.drew := (Below.refl _ _).drew
  replace hm := stab_blk _ _ _ _ hm hS0
  replace hr := stab_blk _ _ _ _ hr hS0
  replace hB := Below.then hB hS0
  clear hS0
  go_cut [5] from 5 to 19 (fun s5 wd => BlkL w.heap.size ((M.set 0 (.string (chr (97 + j1)))).set 5 (.string (chr (97 + j2)))) wd ∧ BlkL (w.heap.size + 1) zeroM.cs wd ∧ Below w.heap.size w wd)
  · skip
    refine wp_region_held_drew (S := (fun _ => True)) (by kernel_rfl) (trivial) ?_
    intro hHeld
    generalize Z.drew = w0 at *
    refine wpAnyH_take (i := 0) (v := ?_) (by simp only [List.getElem?_toArray, List.getElem?_cons_zero, List.getElem?_cons_succ]; rfl) (by kernel_rfl) (by kernel_rfl) (by kernel_rfl) (by exact fun _ _ _ h => h) (Or.inl ⟨by rfl, ?_⟩) (by assumption) ?_; rotate_left; (focus (intro w hSw; (try dsimp only at hSw); go_simp; try with_reducible rfl)); (try simp only [Act.put, List.setIfInBounds_toArray, List.set_cons_zero, List.set_cons_succ])
    refine wpAnyH_take (i := 6) (v := ?_) (by simp only [List.getElem?_toArray, List.getElem?_cons_zero, List.getElem?_cons_succ]; rfl) (by kernel_rfl) (by kernel_rfl) (by kernel_rfl) (by exact fun _ _ _ h => h) (Or.inl ⟨by rfl, ?_⟩) (by assumption) ?_; rotate_left; (focus (intro w hSw; (try dsimp only at hSw); go_simp; try with_reducible rfl)); (try simp only [Act.put, List.setIfInBounds_toArray, List.set_cons_zero, List.set_cons_succ])
    refine wpAnyH_take (i := 7) (v := ?_) (by simp only [List.getElem?_toArray, List.getElem?_cons_zero, List.getElem?_cons_succ]; rfl) (by kernel_rfl) (by kernel_rfl) (by kernel_rfl) (by exact fun _ _ _ h => h) (Or.inl ⟨by rfl, ?_⟩) (by assumption) ?_; rotate_left; (focus (intro w hSw; (try dsimp only at hSw); go_simp; try with_reducible rfl)); (try simp only [Act.put, List.setIfInBounds_toArray, List.set_cons_zero, List.set_cons_succ])
    refine wpAnyH_ready (rs := [1]) (by kernel_rfl) (by simp) ?_
    refine AllReadyH.cons (by simp only [List.getElem?_toArray, List.getElem?_cons_zero, List.getElem?_cons_succ]; rfl) (fun K hK => ?_) AllReadyH.nil
    go_simp
    refine (kw1 w0).mono ?_
    rintro e w1 ⟨rfl, rfl⟩
    refine hK.out _ _ (trivial) ?_
    clear hHeld hK
    intro hHeld
    (try simp only [Act.put, List.setIfInBounds_toArray, List.set_cons_zero, List.set_cons_succ])
    refine wpAnyH_take (i := 2) (v := ?_) (by simp only [List.getElem?_toArray, List.getElem?_cons_zero, List.getElem?_cons_succ]; rfl) (by kernel_rfl) (by kernel_rfl) (by kernel_rfl) (by exact fun _ _ _ h => h) (Or.inl ⟨by rfl, ?_⟩) (by assumption) ?_; rotate_left; (focus (intro w hSw; (try dsimp only at hSw); go_simp; try with_reducible rfl)); (try simp only [Act.put, List.setIfInBounds_toArray, List.set_cons_zero, List.set_cons_succ])
    refine wpAnyH_take (i := 3) (v := ?_) (by simp only [List.getElem?_toArray, List.getElem?_cons_zero, List.getElem?_cons_succ]; rfl) (by kernel_rfl) (by kernel_rfl) (by kernel_rfl) (by exact fun _ _ _ h => h) (Or.inl ⟨by rfl, ?_⟩) (by assumption) ?_; rotate_left; (focus (intro w hSw; (try dsimp only at hSw); go_simp; try with_reducible rfl)); (try simp only [Act.put, List.setIfInBounds_toArray, List.set_cons_zero, List.set_cons_succ])
    refine wpAnyH_ready (rs := [4, 8]) (by kernel_rfl) (by simp) ?_
    refine AllReadyH.cons (by simp only [List.getElem?_toArray, List.getElem?_cons_zero, List.getElem?_cons_succ]; rfl) (fun K hK => ?_) ?_
    · go_simp
      have hb := alloc_below w1 (.cells #[.int .u8 (97 + (j1 : Int))] 5)
      refine hK.out _ _ (trivial) ?_
      clear hHeld hK
      intro hHeld
      have hc4 : ChrAt (w1.alloc (.cells #[.int .u8 (97 + (j1 : Int))] 5)) w1.heap.size (97 + j1) := chr_made97 w1 j1 (by omega)
      have hne4 : w1.heap.size ≠ w.heap.size := by have := hm.2; omega
      replace hm := stab_blk _ _ _ _ hm hb
      replace hr := stab_blk _ _ _ _ hr hb
      replace hB := Below.then hB hb
      generalize w1.alloc (.cells #[.int .u8 (97 + (j1 : Int))] 5) = w2 at *
      generalize w1.heap.size = p4 at *
      clear hb
      refine wpAnyH_strong (S' := fun W => (True ∧ ChrAt W p4 (97 + j1))) (fun _ h => h.1) ?_
      replace hHeld : (True ∧ ChrAt w2 p4 (97 + j1)) := ⟨trivial, hc4⟩
      (try simp only [Act.put, List.setIfInBounds_toArray, List.set_cons_zero, List.set_cons_succ])
      refine wpAnyH_take (i := 5) (v := _) (by simp only [List.getElem?_toArray, List.getElem?_cons_zero, List.getElem?_cons_succ]; rfl) (by kernel_rfl) (by kernel_rfl) (by kernel_rfl) (by exact fun _ _ _ h => h) (yields_conv (by rfl) _ rfl rfl (fun _ s => s.2.conv)) (by assumption) ?_; (try simp only [Act.put, List.setIfInBounds_toArray, List.set_cons_zero, List.set_cons_succ])
      refine wpAnyH_take (i := 13) (v := ?_) (by simp only [List.getElem?_toArray, List.getElem?_cons_zero, List.getElem?_cons_succ]; rfl) (by kernel_rfl) (by kernel_rfl) (by kernel_rfl) (by exact fun _ _ _ h => h) (Or.inl ⟨by rfl, ?_⟩) (by assumption) ?_; rotate_left; (focus (intro w hSw; (try dsimp only at hSw); go_simp; try with_reducible rfl)); (try simp only [Act.put, List.setIfInBounds_toArray, List.set_cons_zero, List.set_cons_succ])
      refine wpAnyH_ready (rs := [8]) (by kernel_rfl) (by simp) ?_
      refine AllReadyH.cons (by simp only [List.getElem?_toArray, List.getElem?_cons_zero, List.getElem?_cons_succ]; rfl) (fun K hK => ?_) AllReadyH.nil
      go_simp
      refine (kw2 w2).mono ?_
      rintro e w3 ⟨rfl, rfl⟩
      refine hK.out _ _ (⟨trivial, hc4⟩) ?_
      clear hHeld hK
      intro hHeld
      (try simp only [Act.put, List.setIfInBounds_toArray, List.set_cons_zero, List.set_cons_succ])
      refine wpAnyH_take (i := 9) (v := ?_) (by simp only [List.getElem?_toArray, List.getElem?_cons_zero, List.getElem?_cons_succ]; rfl) (by kernel_rfl) (by kernel_rfl) (by kernel_rfl) (by exact fun _ _ _ h => h) (Or.inl ⟨by rfl, ?_⟩) (by assumption) ?_; rotate_left; (focus (intro w hSw; (try dsimp only at hSw); go_simp; try with_reducible rfl)); (try simp only [Act.put, List.setIfInBounds_toArray, List.set_cons_zero, List.set_cons_succ])
      refine wpAnyH_take (i := 10) (v := ?_) (by simp only [List.getElem?_toArray, List.getElem?_cons_zero, List.getElem?_cons_succ]; rfl) (by kernel_rfl) (by kernel_rfl) (by kernel_rfl) (by exact fun _ _ _ h => h) (Or.inl ⟨by rfl, ?_⟩) (by assumption) ?_; rotate_left; (focus (intro w hSw; (try dsimp only at hSw); go_simp; try with_reducible rfl)); (try simp only [Act.put, List.setIfInBounds_toArray, List.set_cons_zero, List.set_cons_succ])
      refine wpAnyH_ready (rs := [11, 14]) (by kernel_rfl) (by simp) ?_
      refine AllReadyH.cons (by simp only [List.getElem?_toArray, List.getElem?_cons_zero, List.getElem?_cons_succ]; rfl) (fun K hK => ?_) ?_
      · go_simp
        have hb := alloc_below w3 (.cells #[.int .u8 (97 + (j2 : Int))] 5)
        refine hK.out _ _ (⟨trivial, hc4.below hb⟩) ?_
        clear hHeld hK
        intro hHeld
        have hc11 : ChrAt (w3.alloc (.cells #[.int .u8 (97 + (j2 : Int))] 5)) w3.heap.size (97 + j2) := chr_made97 w3 j2 (by omega)
        have hne11 : w3.heap.size ≠ w.heap.size := by have := hm.2; omega
        replace hm := stab_blk _ _ _ _ hm hb
        replace hr := stab_blk _ _ _ _ hr hb
        replace hc4 := hc4.below hb
        replace hB := Below.then hB hb
        generalize w3.alloc (.cells #[.int .u8 (97 + (j2 : Int))] 5) = w4 at *
        generalize w3.heap.size = p11 at *
        clear hb
        refine wpAnyH_strong (S' := fun W => ((True ∧ ChrAt W p4 (97 + j1)) ∧ ChrAt W p11 (97 + j2))) (fun _ h => h.1) ?_
        replace hHeld : ((True ∧ ChrAt w4 p4 (97 + j1)) ∧ ChrAt w4 p11 (97 + j2)) := ⟨⟨trivial, hc4⟩, hc11⟩
        (try simp only [Act.put, List.setIfInBounds_toArray, List.set_cons_zero, List.set_cons_succ])
        refine wpAnyH_take (i := 12) (v := _) (by simp only [List.getElem?_toArray, List.getElem?_cons_zero, List.getElem?_cons_succ]; rfl) (by kernel_rfl) (by kernel_rfl) (by kernel_rfl) (by exact fun _ _ _ h => h) (yields_conv (by rfl) _ rfl rfl (fun _ s => s.2.conv)) (by assumption) ?_; (try simp only [Act.put, List.setIfInBounds_toArray, List.set_cons_zero, List.set_cons_succ])
        refine wpAnyH_ready (rs := [14]) (by kernel_rfl) (by simp) ?_
        refine AllReadyH.cons (by simp only [List.getElem?_toArray, List.getElem?_cons_zero, List.getElem?_cons_succ]; rfl) (fun K hK => ?_) AllReadyH.nil
        obtain ⟨u14, hu14⟩ : ∃ u, w4.cell? ⟨w.heap.size, 0, none⟩ = some u ∧ w4.frozen? ⟨w.heap.size, 0, none⟩ = false := ⟨_, hm.1 0 _ (List.getElem?_eq_getElem (by simp [hlM]))⟩
        have hm14 := blk_setS hm (i := 0) (by simp [hlM]) (.string (chr (97 + j1)))
        have hr14 := blk_setO hr (by omega : w.heap.size + 1 ≠ w.heap.size) 0 (.string (chr (97 + j1)))
        have hB14 := hB.setCell (p := ⟨w.heap.size, 0, none⟩) (Nat.le_refl _) (.string (chr (97 + j1)))
        have hk4 : ChrAt (w4.setCell ⟨w.heap.size, 0, none⟩ (.string (chr (97 + j1)))) p4 (97 + j1) := hc4.keptM (heap_setCell_other _ ⟨w.heap.size, 0, none⟩ p4 _ hne4) (by simp)
        have hk11 : ChrAt (w4.setCell ⟨w.heap.size, 0, none⟩ (.string (chr (97 + j1)))) p11 (97 + j2) := hc11.keptM (heap_setCell_other _ ⟨w.heap.size, 0, none⟩ p11 _ hne11) (by simp)
        refine step_st rfl _ _ rfl ⟨w.heap.size, 0, none⟩ rfl (.string (chr (97 + j1))) rfl (strP_store _ _ _ _ ⟨_, rfl⟩ hu14.1 hu14.2) ?_
        (try simp only [Act.put, List.setIfInBounds_toArray, List.set_cons_zero, List.set_cons_succ])
        refine hK.out _ _ (⟨⟨trivial, hk4⟩, hk11⟩) ?_
        clear hHeld hK
        intro hHeld
        generalize w4.setCell ⟨w.heap.size, 0, none⟩ (.string (chr (97 + j1))) = w5 at *
        replace hm := hm14
        replace hr := hr14
        replace hB := hB14
        replace hc4 := hk4
        replace hc11 := hk11
        clear hu14 hm14 hr14 hB14 hk4 hk11
        (try simp only [Act.put, List.setIfInBounds_toArray, List.set_cons_zero, List.set_cons_succ])
        refine wpAnyH_take (i := 15) (v := ?_) (by simp only [List.getElem?_toArray, List.getElem?_cons_zero, List.getElem?_cons_succ]; rfl) (by kernel_rfl) (by kernel_rfl) (by kernel_rfl) (by exact fun _ _ _ h => h) (Or.inl ⟨by rfl, ?_⟩) (by assumption) ?_; rotate_left; (focus (intro w hSw; (try dsimp only at hSw); go_simp; try with_reducible rfl)); (try simp only [Act.put, List.setIfInBounds_toArray, List.set_cons_zero, List.set_cons_succ])
        refine wpAnyH_ready (rs := [16]) (by kernel_rfl) (by simp) ?_
        refine AllReadyH.cons (by simp only [List.getElem?_toArray, List.getElem?_cons_zero, List.getElem?_cons_succ]; rfl) (fun K hK => ?_) AllReadyH.nil
        obtain ⟨u16, hu16⟩ : ∃ u, w5.cell? ⟨w.heap.size, 5, none⟩ = some u ∧ w5.frozen? ⟨w.heap.size, 5, none⟩ = false := ⟨_, hm.1 5 _ (List.getElem?_eq_getElem (by simp [hlM]))⟩
        have hm16 := blk_setS hm (i := 5) (by simp [hlM]) (.string (chr (97 + j2)))
        have hr16 := blk_setO hr (by omega : w.heap.size + 1 ≠ w.heap.size) 5 (.string (chr (97 + j2)))
        have hB16 := hB.setCell (p := ⟨w.heap.size, 5, none⟩) (Nat.le_refl _) (.string (chr (97 + j2)))
        have hk4 : ChrAt (w5.setCell ⟨w.heap.size, 5, none⟩ (.string (chr (97 + j2)))) p4 (97 + j1) := hc4.keptM (heap_setCell_other _ ⟨w.heap.size, 5, none⟩ p4 _ hne4) (by simp)
        have hk11 : ChrAt (w5.setCell ⟨w.heap.size, 5, none⟩ (.string (chr (97 + j2)))) p11 (97 + j2) := hc11.keptM (heap_setCell_other _ ⟨w.heap.size, 5, none⟩ p11 _ hne11) (by simp)
        refine step_st rfl _ _ rfl ⟨w.heap.size, 5, none⟩ rfl (.string (chr (97 + j2))) rfl (strP_store _ _ _ _ ⟨_, rfl⟩ hu16.1 hu16.2) ?_
        (try simp only [Act.put, List.setIfInBounds_toArray, List.set_cons_zero, List.set_cons_succ])
        refine hK.out _ _ (⟨⟨trivial, hk4⟩, hk11⟩) ?_
        clear hHeld hK
        intro hHeld
        generalize w5.setCell ⟨w.heap.size, 5, none⟩ (.string (chr (97 + j2))) = w6 at *
        replace hm := hm16
        replace hr := hr16
        replace hB := hB16
        replace hc4 := hk4
        replace hc11 := hk11
        clear hu16 hm16 hr16 hB16 hk4 hk11
        (try simp only [Act.put, List.setIfInBounds_toArray, List.set_cons_zero, List.set_cons_succ])
        refine wpAnyH_done (by kernel_rfl) ?_ _
        clear hHeld
        go_wp2_with fail
        go_meet
        exact ⟨hm, hr, hB⟩
      refine AllReadyH.cons (by simp only [List.getElem?_toArray, List.getElem?_cons_zero, List.getElem?_cons_succ]; rfl) (fun K hK => ?_) AllReadyH.nil
      obtain ⟨u14, hu14⟩ : ∃ u, w3.cell? ⟨w.heap.size, 0, none⟩ = some u ∧ w3.frozen? ⟨w.heap.size, 0, none⟩ = false := ⟨_, hm.1 0 _ (List.getElem?_eq_getElem (by simp [hlM]))⟩
      have hm14 := blk_setS hm (i := 0) (by simp [hlM]) (.string (chr (97 + j1)))
      have hr14 := blk_setO hr (by omega : w.heap.size + 1 ≠ w.heap.size) 0 (.string (chr (97 + j1)))
      have hB14 := hB.setCell (p := ⟨w.heap.size, 0, none⟩) (Nat.le_refl _) (.string (chr (97 + j1)))
      have hk4 : ChrAt (w3.setCell ⟨w.heap.size, 0, none⟩ (.string (chr (97 + j1)))) p4 (97 + j1) := hc4.keptM (heap_setCell_other _ ⟨w.heap.size, 0, none⟩ p4 _ hne4) (by simp)
      refine step_st rfl _ _ rfl ⟨w.heap.size, 0, none⟩ rfl (.string (chr (97 + j1))) rfl (strP_store _ _ _ _ ⟨_, rfl⟩ hu14.1 hu14.2) ?_
      (try simp only [Act.put, List.setIfInBounds_toArray, List.set_cons_zero, List.set_cons_succ])
      refine hK.out _ _ (⟨trivial, hk4⟩) ?_
      clear hHeld hK
      intro hHeld
      generalize w3.setCell ⟨w.heap.size, 0, none⟩ (.string (chr (97 + j1))) = w4 at *
      replace hm := hm14
      replace hr := hr14
      replace hB := hB14
      replace hc4 := hk4
      clear hu14 hm14 hr14 hB14 hk4
      (try simp only [Act.put, List.setIfInBounds_toArray, List.set_cons_zero, List.set_cons_succ])
      refine wpAnyH_ready (rs := [11]) (by kernel_rfl) (by simp) ?_
      refine AllReadyH.cons (by simp only [List.getElem?_toArray, List.getElem?_cons_zero, List.getElem?_cons_succ]; rfl) (fun K hK => ?_) AllReadyH.nil
      go_simp
      have hb := alloc_below w4 (.cells #[.int .u8 (97 + (j2 : Int))] 5)
      refine hK.out _ _ (⟨trivial, hc4.below hb⟩) ?_
      clear hHeld hK
      intro hHeld
      have hc11 : ChrAt (w4.alloc (.cells #[.int .u8 (97 + (j2 : Int))] 5)) w4.heap.size (97 + j2) := chr_made97 w4 j2 (by omega)
      have hne11 : w4.heap.size ≠ w.heap.size := by have := hm.2; omega
      replace hm := stab_blk _ _ _ _ hm hb
      replace hr := stab_blk _ _ _ _ hr hb
      replace hc4 := hc4.below hb
      replace hB := Below.then hB hb
      generalize w4.alloc (.cells #[.int .u8 (97 + (j2 : Int))] 5) = w5 at *
      generalize w4.heap.size = p11 at *
      clear hb
      refine wpAnyH_strong (S' := fun W => ((True ∧ ChrAt W p4 (97 + j1)) ∧ ChrAt W p11 (97 + j2))) (fun _ h => h.1) ?_
      replace hHeld : ((True ∧ ChrAt w5 p4 (97 + j1)) ∧ ChrAt w5 p11 (97 + j2)) := ⟨⟨trivial, hc4⟩, hc11⟩
      (try simp only [Act.put, List.setIfInBounds_toArray, List.set_cons_zero, List.set_cons_succ])
      refine wpAnyH_take (i := 12) (v := _) (by simp only [List.getElem?_toArray, List.getElem?_cons_zero, List.getElem?_cons_succ]; rfl) (by kernel_rfl) (by kernel_rfl) (by kernel_rfl) (by exact fun _ _ _ h => h) (yields_conv (by rfl) _ rfl rfl (fun _ s => s.2.conv)) (by assumption) ?_; (try simp only [Act.put, List.setIfInBounds_toArray, List.set_cons_zero, List.set_cons_succ])
      refine wpAnyH_take (i := 15) (v := ?_) (by simp only [List.getElem?_toArray, List.getElem?_cons_zero, List.getElem?_cons_succ]; rfl) (by kernel_rfl) (by kernel_rfl) (by kernel_rfl) (by exact fun _ _ _ h => h) (Or.inl ⟨by rfl, ?_⟩) (by assumption) ?_; rotate_left; (focus (intro w hSw; (try dsimp only at hSw); go_simp; try with_reducible rfl)); (try simp only [Act.put, List.setIfInBounds_toArray, List.set_cons_zero, List.set_cons_succ])
      refine wpAnyH_ready (rs := [16]) (by kernel_rfl) (by simp) ?_
      refine AllReadyH.cons (by simp only [List.getElem?_toArray, List.getElem?_cons_zero, List.getElem?_cons_succ]; rfl) (fun K hK => ?_) AllReadyH.nil
      obtain ⟨u16, hu16⟩ : ∃ u, w5.cell? ⟨w.heap.size, 5, none⟩ = some u ∧ w5.frozen? ⟨w.heap.size, 5, none⟩ = false := ⟨_, hm.1 5 _ (List.getElem?_eq_getElem (by simp [hlM]))⟩
      have hm16 := blk_setS hm (i := 5) (by simp [hlM]) (.string (chr (97 + j2)))
      have hr16 := blk_setO hr (by omega : w.heap.size + 1 ≠ w.heap.size) 5 (.string (chr (97 + j2)))
      have hB16 := hB.setCell (p := ⟨w.heap.size, 5, none⟩) (Nat.le_refl _) (.string (chr (97 + j2)))
      have hk4 : ChrAt (w5.setCell ⟨w.heap.size, 5, none⟩ (.string (chr (97 + j2)))) p4 (97 + j1) := hc4.keptM (heap_setCell_other _ ⟨w.heap.size, 5, none⟩ p4 _ hne4) (by simp)
      have hk11 : ChrAt (w5.setCell ⟨w.heap.size, 5, none⟩ (.string (chr (97 + j2)))) p11 (97 + j2) := hc11.keptM (heap_setCell_other _ ⟨w.heap.size, 5, none⟩ p11 _ hne11) (by simp)
      refine step_st rfl _ _ rfl ⟨w.heap.size, 5, none⟩ rfl (.string (chr (97 + j2))) rfl (strP_store _ _ _ _ ⟨_, rfl⟩ hu16.1 hu16.2) ?_
      (try simp only [Act.put, List.setIfInBounds_toArray, List.set_cons_zero, List.set_cons_succ])
      refine hK.out _ _ (⟨⟨trivial, hk4⟩, hk11⟩) ?_
      clear hHeld hK
      intro hHeld
      generalize w5.setCell ⟨w.heap.size, 5, none⟩ (.string (chr (97 + j2))) = w6 at *
      replace hm := hm16
      replace hr := hr16
      replace hB := hB16
      replace hc4 := hk4
      replace hc11 := hk11
      clear hu16 hm16 hr16 hB16 hk4 hk11
      (try simp only [Act.put, List.setIfInBounds_toArray, List.set_cons_zero, List.set_cons_succ])
      refine wpAnyH_done (by kernel_rfl) ?_ _
      clear hHeld
      go_wp2_with fail
      go_meet
      exact ⟨hm, hr, hB⟩
    refine AllReadyH.cons (by simp only [List.getElem?_toArray, List.getElem?_cons_zero, List.getElem?_cons_succ]; rfl) (fun K hK => ?_) AllReadyH.nil
    go_simp
    refine (kw2 w1).mono ?_
    rintro e w2 ⟨rfl, rfl⟩
    refine hK.out _ _ (trivial) ?_
    clear hHeld hK
    intro hHeld
    (try simp only [Act.put, List.setIfInBounds_toArray, List.set_cons_zero, List.set_cons_succ])
    refine wpAnyH_take (i := 9) (v := ?_) (by simp only [List.getElem?_toArray, List.getElem?_cons_zero, List.getElem?_cons_succ]; rfl) (by kernel_rfl) (by kernel_rfl) (by kernel_rfl) (by exact fun _ _ _ h => h) (Or.inl ⟨by rfl, ?_⟩) (by assumption) ?_; rotate_left; (focus (intro w hSw; (try dsimp only at hSw); go_simp; try with_reducible rfl)); (try simp only [Act.put, List.setIfInBounds_toArray, List.set_cons_zero, List.set_cons_succ])
    refine wpAnyH_take (i := 10) (v := ?_) (by simp only [List.getElem?_toArray, List.getElem?_cons_zero, List.getElem?_cons_succ]; rfl) (by kernel_rfl) (by kernel_rfl) (by kernel_rfl) (by exact fun _ _ _ h => h) (Or.inl ⟨by rfl, ?_⟩) (by assumption) ?_; rotate_left; (focus (intro w hSw; (try dsimp only at hSw); go_simp; try with_reducible rfl)); (try simp only [Act.put, List.setIfInBounds_toArray, List.set_cons_zero, List.set_cons_succ])
    refine wpAnyH_ready (rs := [4, 11]) (by kernel_rfl) (by simp) ?_
    refine AllReadyH.cons (by simp only [List.getElem?_toArray, List.getElem?_cons_zero, List.getElem?_cons_succ]; rfl) (fun K hK => ?_) ?_
    · go_simp
      have hb := alloc_below w2 (.cells #[.int .u8 (97 + (j1 : Int))] 5)
      refine hK.out _ _ (trivial) ?_
      clear hHeld hK
      intro hHeld
      have hc4 : ChrAt (w2.alloc (.cells #[.int .u8 (97 + (j1 : Int))] 5)) w2.heap.size (97 + j1) := chr_made97 w2 j1 (by omega)
      have hne4 : w2.heap.size ≠ w.heap.size := by have := hm.2; omega
      replace hm := stab_blk _ _ _ _ hm hb
      replace hr := stab_blk _ _ _ _ hr hb
      replace hB := Below.then hB hb
      generalize w2.alloc (.cells #[.int .u8 (97 + (j1 : Int))] 5) = w3 at *
      generalize w2.heap.size = p4 at *
      clear hb
      refine wpAnyH_strong (S' := fun W => (True ∧ ChrAt W p4 (97 + j1))) (fun _ h => h.1) ?_
      replace hHeld : (True ∧ ChrAt w3 p4 (97 + j1)) := ⟨trivial, hc4⟩
      (try simp only [Act.put, List.setIfInBounds_toArray, List.set_cons_zero, List.set_cons_succ])
      refine wpAnyH_take (i := 5) (v := _) (by simp only [List.getElem?_toArray, List.getElem?_cons_zero, List.getElem?_cons_succ]; rfl) (by kernel_rfl) (by kernel_rfl) (by kernel_rfl) (by exact fun _ _ _ h => h) (yields_conv (by rfl) _ rfl rfl (fun _ s => s.2.conv)) (by assumption) ?_; (try simp only [Act.put, List.setIfInBounds_toArray, List.set_cons_zero, List.set_cons_succ])
      refine wpAnyH_take (i := 13) (v := ?_) (by simp only [List.getElem?_toArray, List.getElem?_cons_zero, List.getElem?_cons_succ]; rfl) (by kernel_rfl) (by kernel_rfl) (by kernel_rfl) (by exact fun _ _ _ h => h) (Or.inl ⟨by rfl, ?_⟩) (by assumption) ?_; rotate_left; (focus (intro w hSw; (try dsimp only at hSw); go_simp; try with_reducible rfl)); (try simp only [Act.put, List.setIfInBounds_toArray, List.set_cons_zero, List.set_cons_succ])
      refine wpAnyH_ready (rs := [11, 14]) (by kernel_rfl) (by simp) ?_
      refine AllReadyH.cons (by simp only [List.getElem?_toArray, List.getElem?_cons_zero, List.getElem?_cons_succ]; rfl) (fun K hK => ?_) ?_
      · go_simp
        have hb := alloc_below w3 (.cells #[.int .u8 (97 + (j2 : Int))] 5)
        refine hK.out _ _ (⟨trivial, hc4.below hb⟩) ?_
        clear hHeld hK
        intro hHeld
        have hc11 : ChrAt (w3.alloc (.cells #[.int .u8 (97 + (j2 : Int))] 5)) w3.heap.size (97 + j2) := chr_made97 w3 j2 (by omega)
        have hne11 : w3.heap.size ≠ w.heap.size := by have := hm.2; omega
        replace hm := stab_blk _ _ _ _ hm hb
        replace hr := stab_blk _ _ _ _ hr hb
        replace hc4 := hc4.below hb
        replace hB := Below.then hB hb
        generalize w3.alloc (.cells #[.int .u8 (97 + (j2 : Int))] 5) = w4 at *
        generalize w3.heap.size = p11 at *
        clear hb
        refine wpAnyH_strong (S' := fun W => ((True ∧ ChrAt W p4 (97 + j1)) ∧ ChrAt W p11 (97 + j2))) (fun _ h => h.1) ?_
        replace hHeld : ((True ∧ ChrAt w4 p4 (97 + j1)) ∧ ChrAt w4 p11 (97 + j2)) := ⟨⟨trivial, hc4⟩, hc11⟩
        (try simp only [Act.put, List.setIfInBounds_toArray, List.set_cons_zero, List.set_cons_succ])
        refine wpAnyH_take (i := 12) (v := _) (by simp only [List.getElem?_toArray, List.getElem?_cons_zero, List.getElem?_cons_succ]; rfl) (by kernel_rfl) (by kernel_rfl) (by kernel_rfl) (by exact fun _ _ _ h => h) (yields_conv (by rfl) _ rfl rfl (fun _ s => s.2.conv)) (by assumption) ?_; (try simp only [Act.put, List.setIfInBounds_toArray, List.set_cons_zero, List.set_cons_succ])
        refine wpAnyH_ready (rs := [14]) (by kernel_rfl) (by simp) ?_
        refine AllReadyH.cons (by simp only [List.getElem?_toArray, List.getElem?_cons_zero, List.getElem?_cons_succ]; rfl) (fun K hK => ?_) AllReadyH.nil
        obtain ⟨u14, hu14⟩ : ∃ u, w4.cell? ⟨w.heap.size, 0, none⟩ = some u ∧ w4.frozen? ⟨w.heap.size, 0, none⟩ = false := ⟨_, hm.1 0 _ (List.getElem?_eq_getElem (by simp [hlM]))⟩
        have hm14 := blk_setS hm (i := 0) (by simp [hlM]) (.string (chr (97 + j1)))
        have hr14 := blk_setO hr (by omega : w.heap.size + 1 ≠ w.heap.size) 0 (.string (chr (97 + j1)))
        have hB14 := hB.setCell (p := ⟨w.heap.size, 0, none⟩) (Nat.le_refl _) (.string (chr (97 + j1)))
        have hk4 : ChrAt (w4.setCell ⟨w.heap.size, 0, none⟩ (.string (chr (97 + j1)))) p4 (97 + j1) := hc4.keptM (heap_setCell_other _ ⟨w.heap.size, 0, none⟩ p4 _ hne4) (by simp)
        have hk11 : ChrAt (w4.setCell ⟨w.heap.size, 0, none⟩ (.string (chr (97 + j1)))) p11 (97 + j2) := hc11.keptM (heap_setCell_other _ ⟨w.heap.size, 0, none⟩ p11 _ hne11) (by simp)
        refine step_st rfl _ _ rfl ⟨w.heap.size, 0, none⟩ rfl (.string (chr (97 + j1))) rfl (strP_store _ _ _ _ ⟨_, rfl⟩ hu14.1 hu14.2) ?_
        (try simp only [Act.put, List.setIfInBounds_toArray, List.set_cons_zero, List.set_cons_succ])
        refine hK.out _ _ (⟨⟨trivial, hk4⟩, hk11⟩) ?_
        clear hHeld hK
        intro hHeld
        generalize w4.setCell ⟨w.heap.size, 0, none⟩ (.string (chr (97 + j1))) = w5 at *
        replace hm := hm14
        replace hr := hr14
        replace hB := hB14
        replace hc4 := hk4
        replace hc11 := hk11
        clear hu14 hm14 hr14 hB14 hk4 hk11
        (try simp only [Act.put, List.setIfInBounds_toArray, List.set_cons_zero, List.set_cons_succ])
        refine wpAnyH_take (i := 15) (v := ?_) (by simp only [List.getElem?_toArray, List.getElem?_cons_zero, List.getElem?_cons_succ]; rfl) (by kernel_rfl) (by kernel_rfl) (by kernel_rfl) (by exact fun _ _ _ h => h) (Or.inl ⟨by rfl, ?_⟩) (by assumption) ?_; rotate_left; (focus (intro w hSw; (try dsimp only at hSw); go_simp; try with_reducible rfl)); (try simp only [Act.put, List.setIfInBounds_toArray, List.set_cons_zero, List.set_cons_succ])
        refine wpAnyH_ready (rs := [16]) (by kernel_rfl) (by simp) ?_
        refine AllReadyH.cons (by simp only [List.getElem?_toArray, List.getElem?_cons_zero, List.getElem?_cons_succ]; rfl) (fun K hK => ?_) AllReadyH.nil
        obtain ⟨u16, hu16⟩ : ∃ u, w5.cell? ⟨w.heap.size, 5, none⟩ = some u ∧ w5.frozen? ⟨w.heap.size, 5, none⟩ = false := ⟨_, hm.1 5 _ (List.getElem?_eq_getElem (by simp [hlM]))⟩
        have hm16 := blk_setS hm (i := 5) (by simp [hlM]) (.string (chr (97 + j2)))
        have hr16 := blk_setO hr (by omega : w.heap.size + 1 ≠ w.heap.size) 5 (.string (chr (97 + j2)))
        have hB16 := hB.setCell (p := ⟨w.heap.size, 5, none⟩) (Nat.le_refl _) (.string (chr (97 + j2)))
        have hk4 : ChrAt (w5.setCell ⟨w.heap.size, 5, none⟩ (.string (chr (97 + j2)))) p4 (97 + j1) := hc4.keptM (heap_setCell_other _ ⟨w.heap.size, 5, none⟩ p4 _ hne4) (by simp)
        have hk11 : ChrAt (w5.setCell ⟨w.heap.size, 5, none⟩ (.string (chr (97 + j2)))) p11 (97 + j2) := hc11.keptM (heap_setCell_other _ ⟨w.heap.size, 5, none⟩ p11 _ hne11) (by simp)
        refine step_st rfl _ _ rfl ⟨w.heap.size, 5, none⟩ rfl (.string (chr (97 + j2))) rfl (strP_store _ _ _ _ ⟨_, rfl⟩ hu16.1 hu16.2) ?_
        (try simp only [Act.put, List.setIfInBounds_toArray, List.set_cons_zero, List.set_cons_succ])
        refine hK.out _ _ (⟨⟨trivial, hk4⟩, hk11⟩) ?_
        clear hHeld hK
        intro hHeld
        generalize w5.setCell ⟨w.heap.size, 5, none⟩ (.string (chr (97 + j2))) = w6 at *
        replace hm := hm16
        replace hr := hr16
        replace hB := hB16
        replace hc4 := hk4
        replace hc11 := hk11
        clear hu16 hm16 hr16 hB16 hk4 hk11
        (try simp only [Act.put, List.setIfInBounds_toArray, List.set_cons_zero, List.set_cons_succ])
        refine wpAnyH_done (by kernel_rfl) ?_ _
        clear hHeld
        go_wp2_with fail
        go_meet
        exact ⟨hm, hr, hB⟩
      refine AllReadyH.cons (by simp only [List.getElem?_toArray, List.getElem?_cons_zero, List.getElem?_cons_succ]; rfl) (fun K hK => ?_) AllReadyH.nil
      obtain ⟨u14, hu14⟩ : ∃ u, w3.cell? ⟨w.heap.size, 0, none⟩ = some u ∧ w3.frozen? ⟨w.heap.size, 0, none⟩ = false := ⟨_, hm.1 0 _ (List.getElem?_eq_getElem (by simp [hlM]))⟩
      have hm14 := blk_setS hm (i := 0) (by simp [hlM]) (.string (chr (97 + j1)))
      have hr14 := blk_setO hr (by omega : w.heap.size + 1 ≠ w.heap.size) 0 (.string (chr (97 + j1)))
      have hB14 := hB.setCell (p := ⟨w.heap.size, 0, none⟩) (Nat.le_refl _) (.string (chr (97 + j1)))
      have hk4 : ChrAt (w3.setCell ⟨w.heap.size, 0, none⟩ (.string (chr (97 + j1)))) p4 (97 + j1) := hc4.keptM (heap_setCell_other _ ⟨w.heap.size, 0, none⟩ p4 _ hne4) (by simp)
      refine step_st rfl _ _ rfl ⟨w.heap.size, 0, none⟩ rfl (.string (chr (97 + j1))) rfl (strP_store _ _ _ _ ⟨_, rfl⟩ hu14.1 hu14.2) ?_
      (try simp only [Act.put, List.setIfInBounds_toArray, List.set_cons_zero, List.set_cons_succ])
      refine hK.out _ _ (⟨trivial, hk4⟩) ?_
      clear hHeld hK
      intro hHeld
      generalize w3.setCell ⟨w.heap.size, 0, none⟩ (.string (chr (97 + j1))) = w4 at *
      replace hm := hm14
      replace hr := hr14
      replace hB := hB14
      replace hc4 := hk4
      clear hu14 hm14 hr14 hB14 hk4
      (try simp only [Act.put, List.setIfInBounds_toArray, List.set_cons_zero, List.set_cons_succ])
      refine wpAnyH_ready (rs := [11]) (by kernel_rfl) (by simp) ?_
      refine AllReadyH.cons (by simp only [List.getElem?_toArray, List.getElem?_cons_zero, List.getElem?_cons_succ]; rfl) (fun K hK => ?_) AllReadyH.nil
      go_simp
      have hb := alloc_below w4 (.cells #[.int .u8 (97 + (j2 : Int))] 5)
      refine hK.out _ _ (⟨trivial, hc4.below hb⟩) ?_
      clear hHeld hK
      intro hHeld
      have hc11 : ChrAt (w4.alloc (.cells #[.int .u8 (97 + (j2 : Int))] 5)) w4.heap.size (97 + j2) := chr_made97 w4 j2 (by omega)
      have hne11 : w4.heap.size ≠ w.heap.size := by have := hm.2; omega
      replace hm := stab_blk _ _ _ _ hm hb
      replace hr := stab_blk _ _ _ _ hr hb
      replace hc4 := hc4.below hb
      replace hB := Below.then hB hb
      generalize w4.alloc (.cells #[.int .u8 (97 + (j2 : Int))] 5) = w5 at *
      generalize w4.heap.size = p11 at *
      clear hb
      refine wpAnyH_strong (S' := fun W => ((True ∧ ChrAt W p4 (97 + j1)) ∧ ChrAt W p11 (97 + j2))) (fun _ h => h.1) ?_
      replace hHeld : ((True ∧ ChrAt w5 p4 (97 + j1)) ∧ ChrAt w5 p11 (97 + j2)) := ⟨⟨trivial, hc4⟩, hc11⟩
      (try simp only [Act.put, List.setIfInBounds_toArray, List.set_cons_zero, List.set_cons_succ])
      refine wpAnyH_take (i := 12) (v := _) (by simp only [List.getElem?_toArray, List.getElem?_cons_zero, List.getElem?_cons_succ]; rfl) (by kernel_rfl) (by kernel_rfl) (by kernel_rfl) (by exact fun _ _ _ h => h) (yields_conv (by rfl) _ rfl rfl (fun _ s => s.2.conv)) (by assumption) ?_; (try simp only [Act.put, List.setIfInBounds_toArray, List.set_cons_zero, List.set_cons_succ])
      refine wpAnyH_take (i := 15) (v := ?_) (by simp only [List.getElem?_toArray, List.getElem?_cons_zero, List.getElem?_cons_succ]; rfl) (by kernel_rfl) (by kernel_rfl) (by kernel_rfl) (by exact fun _ _ _ h => h) (Or.inl ⟨by rfl, ?_⟩) (by assumption) ?_; rotate_left; (focus (intro w hSw; (try dsimp only at hSw); go_simp; try with_reducible rfl)); (try simp only [Act.put, List.setIfInBounds_toArray, List.set_cons_zero, List.set_cons_succ])
      refine wpAnyH_ready (rs := [16]) (by kernel_rfl) (by simp) ?_
      refine AllReadyH.cons (by simp only [List.getElem?_toArray, List.getElem?_cons_zero, List.getElem?_cons_succ]; rfl) (fun K hK => ?_) AllReadyH.nil
      obtain ⟨u16, hu16⟩ : ∃ u, w5.cell? ⟨w.heap.size, 5, none⟩ = some u ∧ w5.frozen? ⟨w.heap.size, 5, none⟩ = false := ⟨_, hm.1 5 _ (List.getElem?_eq_getElem (by simp [hlM]))⟩
      have hm16 := blk_setS hm (i := 5) (by simp [hlM]) (.string (chr (97 + j2)))
      have hr16 := blk_setO hr (by omega : w.heap.size + 1 ≠ w.heap.size) 5 (.string (chr (97 + j2)))
      have hB16 := hB.setCell (p := ⟨w.heap.size, 5, none⟩) (Nat.le_refl _) (.string (chr (97 + j2)))
      have hk4 : ChrAt (w5.setCell ⟨w.heap.size, 5, none⟩ (.string (chr (97 + j2)))) p4 (97 + j1) := hc4.keptM (heap_setCell_other _ ⟨w.heap.size, 5, none⟩ p4 _ hne4) (by simp)
      have hk11 : ChrAt (w5.setCell ⟨w.heap.size, 5, none⟩ (.string (chr (97 + j2)))) p11 (97 + j2) := hc11.keptM (heap_setCell_other _ ⟨w.heap.size, 5, none⟩ p11 _ hne11) (by simp)
      refine step_st rfl _ _ rfl ⟨w.heap.size, 5, none⟩ rfl (.string (chr (97 + j2))) rfl (strP_store _ _ _ _ ⟨_, rfl⟩ hu16.1 hu16.2) ?_
      (try simp only [Act.put, List.setIfInBounds_toArray, List.set_cons_zero, List.set_cons_succ])
      refine hK.out _ _ (⟨⟨trivial, hk4⟩, hk11⟩) ?_
      clear hHeld hK
      intro hHeld
      generalize w5.setCell ⟨w.heap.size, 5, none⟩ (.string (chr (97 + j2))) = w6 at *
      replace hm := hm16
      replace hr := hr16
      replace hB := hB16
      replace hc4 := hk4
      replace hc11 := hk11
      clear hu16 hm16 hr16 hB16 hk4 hk11
      (try simp only [Act.put, List.setIfInBounds_toArray, List.set_cons_zero, List.set_cons_succ])
      refine wpAnyH_done (by kernel_rfl) ?_ _
      clear hHeld
      go_wp2_with fail
      go_meet
      exact ⟨hm, hr, hB⟩
    refine AllReadyH.cons (by simp only [List.getElem?_toArray, List.getElem?_cons_zero, List.getElem?_cons_succ]; rfl) (fun K hK => ?_) AllReadyH.nil
    go_simp
    have hb := alloc_below w2 (.cells #[.int .u8 (97 + (j2 : Int))] 5)
    refine hK.out _ _ (trivial) ?_
    clear hHeld hK
    intro hHeld
    have hc11 : ChrAt (w2.alloc (.cells #[.int .u8 (97 + (j2 : Int))] 5)) w2.heap.size (97 + j2) := chr_made97 w2 j2 (by omega)
    have hne11 : w2.heap.size ≠ w.heap.size := by have := hm.2; omega
    replace hm := stab_blk _ _ _ _ hm hb
    replace hr := stab_blk _ _ _ _ hr hb
    replace hB := Below.then hB hb
    generalize w2.alloc (.cells #[.int .u8 (97 + (j2 : Int))] 5) = w3 at *
    generalize w2.heap.size = p11 at *
    clear hb
    refine wpAnyH_strong (S' := fun W => (True ∧ ChrAt W p11 (97 + j2))) (fun _ h => h.1) ?_
    replace hHeld : (True ∧ ChrAt w3 p11 (97 + j2)) := ⟨trivial, hc11⟩
    (try simp only [Act.put, List.setIfInBounds_toArray, List.set_cons_zero, List.set_cons_succ])
    refine wpAnyH_take (i := 12) (v := _) (by simp only [List.getElem?_toArray, List.getElem?_cons_zero, List.getElem?_cons_succ]; rfl) (by kernel_rfl) (by kernel_rfl) (by kernel_rfl) (by exact fun _ _ _ h => h) (yields_conv (by rfl) _ rfl rfl (fun _ s => s.2.conv)) (by assumption) ?_; (try simp only [Act.put, List.setIfInBounds_toArray, List.set_cons_zero, List.set_cons_succ])
    refine wpAnyH_ready (rs := [4]) (by kernel_rfl) (by simp) ?_
    refine AllReadyH.cons (by simp only [List.getElem?_toArray, List.getElem?_cons_zero, List.getElem?_cons_succ]; rfl) (fun K hK => ?_) AllReadyH.nil
    go_simp
    have hb := alloc_below w3 (.cells #[.int .u8 (97 + (j1 : Int))] 5)
    refine hK.out _ _ (⟨trivial, hc11.below hb⟩) ?_
    clear hHeld hK
    intro hHeld
    have hc4 : ChrAt (w3.alloc (.cells #[.int .u8 (97 + (j1 : Int))] 5)) w3.heap.size (97 + j1) := chr_made97 w3 j1 (by omega)
    have hne4 : w3.heap.size ≠ w.heap.size := by have := hm.2; omega
    replace hm := stab_blk _ _ _ _ hm hb
    replace hr := stab_blk _ _ _ _ hr hb
    replace hc11 := hc11.below hb
    replace hB := Below.then hB hb
    generalize w3.alloc (.cells #[.int .u8 (97 + (j1 : Int))] 5) = w4 at *
    generalize w3.heap.size = p4 at *
    clear hb
    refine wpAnyH_strong (S' := fun W => ((True ∧ ChrAt W p11 (97 + j2)) ∧ ChrAt W p4 (97 + j1))) (fun _ h => h.1) ?_
    replace hHeld : ((True ∧ ChrAt w4 p11 (97 + j2)) ∧ ChrAt w4 p4 (97 + j1)) := ⟨⟨trivial, hc11⟩, hc4⟩
    (try simp only [Act.put, List.setIfInBounds_toArray, List.set_cons_zero, List.set_cons_succ])
    refine wpAnyH_take (i := 5) (v := _) (by simp only [List.getElem?_toArray, List.getElem?_cons_zero, List.getElem?_cons_succ]; rfl) (by kernel_rfl) (by kernel_rfl) (by kernel_rfl) (by exact fun _ _ _ h => h) (yields_conv (by rfl) _ rfl rfl (fun _ s => s.2.conv)) (by assumption) ?_; (try simp only [Act.put, List.setIfInBounds_toArray, List.set_cons_zero, List.set_cons_succ])
    refine wpAnyH_take (i := 13) (v := ?_) (by simp only [List.getElem?_toArray, List.getElem?_cons_zero, List.getElem?_cons_succ]; rfl) (by kernel_rfl) (by kernel_rfl) (by kernel_rfl) (by exact fun _ _ _ h => h) (Or.inl ⟨by rfl, ?_⟩) (by assumption) ?_; rotate_left; (focus (intro w hSw; (try dsimp only at hSw); go_simp; try with_reducible rfl)); (try simp only [Act.put, List.setIfInBounds_toArray, List.set_cons_zero, List.set_cons_succ])
    refine wpAnyH_ready (rs := [14]) (by kernel_rfl) (by simp) ?_
    refine AllReadyH.cons (by simp only [List.getElem?_toArray, List.getElem?_cons_zero, List.getElem?_cons_succ]; rfl) (fun K hK => ?_) AllReadyH.nil
    obtain ⟨u14, hu14⟩ : ∃ u, w4.cell? ⟨w.heap.size, 0, none⟩ = some u ∧ w4.frozen? ⟨w.heap.size, 0, none⟩ = false := ⟨_, hm.1 0 _ (List.getElem?_eq_getElem (by simp [hlM]))⟩
    have hm14 := blk_setS hm (i := 0) (by simp [hlM]) (.string (chr (97 + j1)))
    have hr14 := blk_setO hr (by omega : w.heap.size + 1 ≠ w.heap.size) 0 (.string (chr (97 + j1)))
    have hB14 := hB.setCell (p := ⟨w.heap.size, 0, none⟩) (Nat.le_refl _) (.string (chr (97 + j1)))
    have hk11 : ChrAt (w4.setCell ⟨w.heap.size, 0, none⟩ (.string (chr (97 + j1)))) p11 (97 + j2) := hc11.keptM (heap_setCell_other _ ⟨w.heap.size, 0, none⟩ p11 _ hne11) (by simp)
    have hk4 : ChrAt (w4.setCell ⟨w.heap.size, 0, none⟩ (.string (chr (97 + j1)))) p4 (97 + j1) := hc4.keptM (heap_setCell_other _ ⟨w.heap.size, 0, none⟩ p4 _ hne4) (by simp)
    refine step_st rfl _ _ rfl ⟨w.heap.size, 0, none⟩ rfl (.string (chr (97 + j1))) rfl (strP_store _ _ _ _ ⟨_, rfl⟩ hu14.1 hu14.2) ?_
    (try simp only [Act.put, List.setIfInBounds_toArray, List.set_cons_zero, List.set_cons_succ])
    refine hK.out _ _ (⟨⟨trivial, hk11⟩, hk4⟩) ?_
    clear hHeld hK
    intro hHeld
    generalize w4.setCell ⟨w.heap.size, 0, none⟩ (.string (chr (97 + j1))) = w5 at *
    replace hm := hm14
    replace hr := hr14
    replace hB := hB14
    replace hc11 := hk11
    replace hc4 := hk4
    clear hu14 hm14 hr14 hB14 hk11 hk4
    (try simp only [Act.put, List.setIfInBounds_toArray, List.set_cons_zero, List.set_cons_succ])
    refine wpAnyH_take (i := 15) (v := ?_) (by simp only [List.getElem?_toArray, List.getElem?_cons_zero, List.getElem?_cons_succ]; rfl) (by kernel_rfl) (by kernel_rfl) (by kernel_rfl) (by exact fun _ _ _ h => h) (Or.inl ⟨by rfl, ?_⟩) (by assumption) ?_; rotate_left; (focus (intro w hSw; (try dsimp only at hSw); go_simp; try with_reducible rfl)); (try simp only [Act.put, List.setIfInBounds_toArray, List.set_cons_zero, List.set_cons_succ])
    refine wpAnyH_ready (rs := [16]) (by kernel_rfl) (by simp) ?_
    refine AllReadyH.cons (by simp only [List.getElem?_toArray, List.getElem?_cons_zero, List.getElem?_cons_succ]; rfl) (fun K hK => ?_) AllReadyH.nil
    obtain ⟨u16, hu16⟩ : ∃ u, w5.cell? ⟨w.heap.size, 5, none⟩ = some u ∧ w5.frozen? ⟨w.heap.size, 5, none⟩ = false := ⟨_, hm.1 5 _ (List.getElem?_eq_getElem (by simp [hlM]))⟩
    have hm16 := blk_setS hm (i := 5) (by simp [hlM]) (.string (chr (97 + j2)))
    have hr16 := blk_setO hr (by omega : w.heap.size + 1 ≠ w.heap.size) 5 (.string (chr (97 + j2)))
    have hB16 := hB.setCell (p := ⟨w.heap.size, 5, none⟩) (Nat.le_refl _) (.string (chr (97 + j2)))
    have hk11 : ChrAt (w5.setCell ⟨w.heap.size, 5, none⟩ (.string (chr (97 + j2)))) p11 (97 + j2) := hc11.keptM (heap_setCell_other _ ⟨w.heap.size, 5, none⟩ p11 _ hne11) (by simp)
    have hk4 : ChrAt (w5.setCell ⟨w.heap.size, 5, none⟩ (.string (chr (97 + j2)))) p4 (97 + j1) := hc4.keptM (heap_setCell_other _ ⟨w.heap.size, 5, none⟩ p4 _ hne4) (by simp)
    refine step_st rfl _ _ rfl ⟨w.heap.size, 5, none⟩ rfl (.string (chr (97 + j2))) rfl (strP_store _ _ _ _ ⟨_, rfl⟩ hu16.1 hu16.2) ?_
    (try simp only [Act.put, List.setIfInBounds_toArray, List.set_cons_zero, List.set_cons_succ])
    refine hK.out _ _ (⟨⟨trivial, hk11⟩, hk4⟩) ?_
    clear hHeld hK
    intro hHeld
    generalize w5.setCell ⟨w.heap.size, 5, none⟩ (.string (chr (97 + j2))) = w6 at *
    replace hm := hm16
    replace hr := hr16
    replace hB := hB16
    replace hc11 := hk11
    replace hc4 := hk4
    clear hu16 hm16 hr16 hB16 hk11 hk4
    (try simp only [Act.put, List.setIfInBounds_toArray, List.set_cons_zero, List.set_cons_succ])
    refine wpAnyH_done (by kernel_rfl) ?_ _
    clear hHeld
    go_wp2_with fail
    go_meet
    exact ⟨hm, hr, hB⟩
  case rest =>
  obtain ⟨hm1, hr1, hB1⟩ := hcut
  obtain ⟨U, hU⟩ : ∃ U, wc = U := ⟨_, rfl⟩
  rw [hU] at hm1 hr1 hB1 ⊢
  clear hU hm hr hB
  obtain ⟨F1, hF1⟩ : ∃ F, chr (97 + j1) = F := ⟨_, rfl⟩
  obtain ⟨F2, hF2⟩ : ∃ F, chr (97 + j2) = F := ⟨_, rfl⟩
  rw [hF1, hF2] at hm1
  have hm2 : BlkL w.heap.size (Msg.mk F1 m.lab F2 m.box m.text).cs U := by
    rw [← hM.out] at hm1
    exact hm1
  have hG2 : G = ⟨F1, goodL m.lab, F2, goodL m.box, cutT m.text⟩ := by rw [hG.out, hF1, hF2]
  replace hG2 : Aside (G = ⟨F1, goodL m.lab, F2, goodL m.box, cutT m.text⟩) := hG2
  clear hm1 hF1 hF2 hG hM hlM hw1 hw2 hwi1 hwi2 hwk
  go_upto_region 2 with fail
  have hS0 : Below U.heap.size U U.drew := (Below.refl _ _).drew
  have hm := stab_blk _ _ _ _ hm2 hS0
  have hr := stab_blk _ _ _ _ hr1 hS0
  have hB := Below.then hB1 hS0
  clear hS0 hm2 hr1 hB1
  go_cut [20] from 20 to 27 (fun s20 wd => BlkL w.heap.size (Msg.mk F1 (goodL m.lab) F2 (goodL m.box) m.text).cs wd ∧ BlkL (w.heap.size + 1) zeroM.cs wd ∧ Below w.heap.size w wd)
  · skip
    refine wp_region_held_drew (S := (fun _ => True)) (by kernel_rfl) (trivial) ?_
    intro hHeld
    generalize U.drew = w0 at *
    refine wpAnyH_take (i := 0) (v := ?_) (by simp only [List.getElem?_toArray, List.getElem?_cons_zero, List.getElem?_cons_succ]; rfl) (by kernel_rfl) (by kernel_rfl) (by kernel_rfl) (by exact fun _ _ _ h => h) (Or.inl ⟨by rfl, ?_⟩) (by assumption) ?_; rotate_left; (focus (intro w hSw; (try dsimp only at hSw); go_simp; try with_reducible rfl)); (try simp only [Act.put, List.setIfInBounds_toArray, List.set_cons_zero, List.set_cons_succ])
    refine wpAnyH_take (i := 3) (v := ?_) (by simp only [List.getElem?_toArray, List.getElem?_cons_zero, List.getElem?_cons_succ]; rfl) (by kernel_rfl) (by kernel_rfl) (by kernel_rfl) (by exact fun _ _ _ h => h) (Or.inl ⟨by rfl, ?_⟩) (by assumption) ?_; rotate_left; (focus (intro w hSw; (try dsimp only at hSw); go_simp; try with_reducible rfl)); (try simp only [Act.put, List.setIfInBounds_toArray, List.set_cons_zero, List.set_cons_succ])
    refine wpAnyH_ready (rs := [1, 4]) (by kernel_rfl) (by simp) ?_
    refine AllReadyH.cons (by simp only [List.getElem?_toArray, List.getElem?_cons_zero, List.getElem?_cons_succ]; rfl) (fun K hK => ?_) ?_
    · skip
      refine step_load_atM rfl _ rfl ⟨w.heap.size, 1, none⟩ rfl (lab4 m.lab) (cells_blk hm 1 (ms_lab ⟨F1, m.lab, F2, m.box, m.text⟩)) hundL rfl (hszL m.lab) ?_
      (try simp only [Act.put, List.setIfInBounds_toArray, List.set_cons_zero, List.set_cons_succ])
      refine hK.out _ _ (trivial) ?_
      clear hHeld hK
      intro hHeld
      obtain ⟨w1, hw⟩ : ∃ X, w0 = X := ⟨_, rfl⟩
      rw [hw] at hm hr hB ⊢
      clear hw
      (try simp only [Act.put, List.setIfInBounds_toArray, List.set_cons_zero, List.set_cons_succ])
      refine wpAnyH_ready (rs := [2, 4]) (by kernel_rfl) (by simp) ?_
      refine AllReadyH.cons (by simp only [List.getElem?_toArray, List.getElem?_cons_zero, List.getElem?_cons_succ]; rfl) (fun K hK => ?_) ?_
      · go_simp
        refine (kg1 w1).mono ?_
        rintro e w2 ⟨rfl, hb⟩
        replace hm := stab_blk _ _ _ _ hm hb
        replace hr := stab_blk _ _ _ _ hr hb
        replace hB := Below.then hB hb
        clear hb
        refine hK.out _ _ (trivial) ?_
        clear hHeld hK
        intro hHeld
        (try simp only [Act.put, List.setIfInBounds_toArray, List.set_cons_zero, List.set_cons_succ])
        refine wpAnyH_ready (rs := [4]) (by kernel_rfl) (by simp) ?_
        refine AllReadyH.cons (by simp only [List.getElem?_toArray, List.getElem?_cons_zero, List.getElem?_cons_succ]; rfl) (fun K hK => ?_) AllReadyH.nil
        refine step_load_atM rfl _ rfl ⟨w.heap.size, 6, none⟩ rfl (lab4 m.box) (cells_blk hm 6 (ms_box ⟨F1, m.lab, F2, m.box, m.text⟩)) hundL rfl (hszL m.box) ?_
        (try simp only [Act.put, List.setIfInBounds_toArray, List.set_cons_zero, List.set_cons_succ])
        refine hK.out _ _ (trivial) ?_
        clear hHeld hK
        intro hHeld
        obtain ⟨w3, hw⟩ : ∃ X, w2 = X := ⟨_, rfl⟩
        rw [hw] at hm hr hB ⊢
        clear hw
        (try simp only [Act.put, List.setIfInBounds_toArray, List.set_cons_zero, List.set_cons_succ])
        refine wpAnyH_take (i := 6) (v := ?_) (by simp only [List.getElem?_toArray, List.getElem?_cons_zero, List.getElem?_cons_succ]; rfl) (by kernel_rfl) (by kernel_rfl) (by kernel_rfl) (by exact fun _ _ _ h => h) (Or.inl ⟨by rfl, ?_⟩) (by assumption) ?_; rotate_left; (focus (intro w hSw; (try dsimp only at hSw); go_simp; try with_reducible rfl)); (try simp only [Act.put, List.setIfInBounds_toArray, List.set_cons_zero, List.set_cons_succ])
        refine wpAnyH_ready (rs := [5]) (by kernel_rfl) (by simp) ?_
        refine AllReadyH.cons (by simp only [List.getElem?_toArray, List.getElem?_cons_zero, List.getElem?_cons_succ]; rfl) (fun K hK => ?_) AllReadyH.nil
        go_simp
        refine (kg2 w3).mono ?_
        rintro e w4 ⟨rfl, hb⟩
        replace hm := stab_blk _ _ _ _ hm hb
        replace hr := stab_blk _ _ _ _ hr hb
        replace hB := Below.then hB hb
        clear hb
        refine hK.out _ _ (trivial) ?_
        clear hHeld hK
        intro hHeld
        (try simp only [Act.put, List.setIfInBounds_toArray, List.set_cons_zero, List.set_cons_succ])
        refine wpAnyH_ready (rs := [7]) (by kernel_rfl) (by simp) ?_
        refine AllReadyH.cons (by simp only [List.getElem?_toArray, List.getElem?_cons_zero, List.getElem?_cons_succ]; rfl) (fun K hK => ?_) AllReadyH.nil
        obtain ⟨w5, hV9, hth9, hm9, hB9⟩ := put_mid (Z := w) hm 1 (lab4 (goodL m.lab)) (by show 1 + 4 ≤ 11; decide) (by show 0 < 11; decide) hB (Nat.le_refl _)
        replace hm9 : BlkL w.heap.size (Msg.mk F1 (goodL m.lab) F2 m.box m.text).cs w5 := hm9
        have hs9 : w4.heap.size ≤ w5.heap.size := by rw [← hV9]; exact (Below.cells (Nat.zero_le w.heap.size) _ _ (Below.refl 0 _)).size
        have hr9 : BlkL (w.heap.size + 1) zeroM.cs w5 := ⟨hr.1.same (by rw [← hV9]; exact heap_setCells_other (by omega) _ _ _), Nat.lt_of_lt_of_le hr.2 hs9⟩
        refine step_store_part rfl _ _ rfl w.heap.size 1 rfl (lab4 (goodL m.lab)) rfl hth9 (hszL _) (lab4_one _) hV9 ?_
        (try simp only [Act.put, List.setIfInBounds_toArray, List.set_cons_zero, List.set_cons_succ])
        refine hK.out _ _ (trivial) ?_
        clear hHeld hK
        intro hHeld
        replace hm := hm9
        replace hr := hr9
        replace hB := hB9
        clear hV9 hth9 hm9 hr9 hB9 hs9
        (try simp only [Act.put, List.setIfInBounds_toArray, List.set_cons_zero, List.set_cons_succ])
        refine wpAnyH_take (i := 8) (v := ?_) (by simp only [List.getElem?_toArray, List.getElem?_cons_zero, List.getElem?_cons_succ]; rfl) (by kernel_rfl) (by kernel_rfl) (by kernel_rfl) (by exact fun _ _ _ h => h) (Or.inl ⟨by rfl, ?_⟩) (by assumption) ?_; rotate_left; (focus (intro w hSw; (try dsimp only at hSw); go_simp; try with_reducible rfl)); (try simp only [Act.put, List.setIfInBounds_toArray, List.set_cons_zero, List.set_cons_succ])
        refine wpAnyH_ready (rs := [9]) (by kernel_rfl) (by simp) ?_
        refine AllReadyH.cons (by simp only [List.getElem?_toArray, List.getElem?_cons_zero, List.getElem?_cons_succ]; rfl) (fun K hK => ?_) AllReadyH.nil
        obtain ⟨w6, hV9, hth9, hm9, hB9⟩ := put_mid (Z := w) hm 6 (lab4 (goodL m.box)) (by show 6 + 4 ≤ 11; decide) (by show 0 < 11; decide) hB (Nat.le_refl _)
        replace hm9 : BlkL w.heap.size (Msg.mk F1 (goodL m.lab) F2 (goodL m.box) m.text).cs w6 := hm9
        have hs9 : w5.heap.size ≤ w6.heap.size := by rw [← hV9]; exact (Below.cells (Nat.zero_le w.heap.size) _ _ (Below.refl 0 _)).size
        have hr9 : BlkL (w.heap.size + 1) zeroM.cs w6 := ⟨hr.1.same (by rw [← hV9]; exact heap_setCells_other (by omega) _ _ _), Nat.lt_of_lt_of_le hr.2 hs9⟩
        refine step_store_part rfl _ _ rfl w.heap.size 6 rfl (lab4 (goodL m.box)) rfl hth9 (hszL _) (lab4_one _) hV9 ?_
        (try simp only [Act.put, List.setIfInBounds_toArray, List.set_cons_zero, List.set_cons_succ])
        refine hK.out _ _ (trivial) ?_
        clear hHeld hK
        intro hHeld
        replace hm := hm9
        replace hr := hr9
        replace hB := hB9
        clear hV9 hth9 hm9 hr9 hB9 hs9
        (try simp only [Act.put, List.setIfInBounds_toArray, List.set_cons_zero, List.set_cons_succ])
        refine wpAnyH_done (by kernel_rfl) ?_ _
        clear hHeld
        go_wp2_with fail
        go_meet
        exact ⟨hm, hr, hB⟩
      refine AllReadyH.cons (by simp only [List.getElem?_toArray, List.getElem?_cons_zero, List.getElem?_cons_succ]; rfl) (fun K hK => ?_) AllReadyH.nil
      refine step_load_atM rfl _ rfl ⟨w.heap.size, 6, none⟩ rfl (lab4 m.box) (cells_blk hm 6 (ms_box ⟨F1, m.lab, F2, m.box, m.text⟩)) hundL rfl (hszL m.box) ?_
      (try simp only [Act.put, List.setIfInBounds_toArray, List.set_cons_zero, List.set_cons_succ])
      refine hK.out _ _ (trivial) ?_
      clear hHeld hK
      intro hHeld
      obtain ⟨w2, hw⟩ : ∃ X, w1 = X := ⟨_, rfl⟩
      rw [hw] at hm hr hB ⊢
      clear hw
      (try simp only [Act.put, List.setIfInBounds_toArray, List.set_cons_zero, List.set_cons_succ])
      refine wpAnyH_ready (rs := [2]) (by kernel_rfl) (by simp) ?_
      refine AllReadyH.cons (by simp only [List.getElem?_toArray, List.getElem?_cons_zero, List.getElem?_cons_succ]; rfl) (fun K hK => ?_) AllReadyH.nil
      go_simp
      refine (kg1 w2).mono ?_
      rintro e w3 ⟨rfl, hb⟩
      replace hm := stab_blk _ _ _ _ hm hb
      replace hr := stab_blk _ _ _ _ hr hb
      replace hB := Below.then hB hb
      clear hb
      refine hK.out _ _ (trivial) ?_
      clear hHeld hK
      intro hHeld
      (try simp only [Act.put, List.setIfInBounds_toArray, List.set_cons_zero, List.set_cons_succ])
      refine wpAnyH_take (i := 6) (v := ?_) (by simp only [List.getElem?_toArray, List.getElem?_cons_zero, List.getElem?_cons_succ]; rfl) (by kernel_rfl) (by kernel_rfl) (by kernel_rfl) (by exact fun _ _ _ h => h) (Or.inl ⟨by rfl, ?_⟩) (by assumption) ?_; rotate_left; (focus (intro w hSw; (try dsimp only at hSw); go_simp; try with_reducible rfl)); (try simp only [Act.put, List.setIfInBounds_toArray, List.set_cons_zero, List.set_cons_succ])
      refine wpAnyH_ready (rs := [5]) (by kernel_rfl) (by simp) ?_
      refine AllReadyH.cons (by simp only [List.getElem?_toArray, List.getElem?_cons_zero, List.getElem?_cons_succ]; rfl) (fun K hK => ?_) AllReadyH.nil
      go_simp
      refine (kg2 w3).mono ?_
      rintro e w4 ⟨rfl, hb⟩
      replace hm := stab_blk _ _ _ _ hm hb
      replace hr := stab_blk _ _ _ _ hr hb
      replace hB := Below.then hB hb
      clear hb
      refine hK.out _ _ (trivial) ?_
      clear hHeld hK
      intro hHeld
      (try simp only [Act.put, List.setIfInBounds_toArray, List.set_cons_zero, List.set_cons_succ])
      refine wpAnyH_ready (rs := [7]) (by kernel_rfl) (by simp) ?_
      refine AllReadyH.cons (by simp only [List.getElem?_toArray, List.getElem?_cons_zero, List.getElem?_cons_succ]; rfl) (fun K hK => ?_) AllReadyH.nil
      obtain ⟨w5, hV9, hth9, hm9, hB9⟩ := put_mid (Z := w) hm 1 (lab4 (goodL m.lab)) (by show 1 + 4 ≤ 11; decide) (by show 0 < 11; decide) hB (Nat.le_refl _)
      replace hm9 : BlkL w.heap.size (Msg.mk F1 (goodL m.lab) F2 m.box m.text).cs w5 := hm9
      have hs9 : w4.heap.size ≤ w5.heap.size := by rw [← hV9]; exact (Below.cells (Nat.zero_le w.heap.size) _ _ (Below.refl 0 _)).size
      have hr9 : BlkL (w.heap.size + 1) zeroM.cs w5 := ⟨hr.1.same (by rw [← hV9]; exact heap_setCells_other (by omega) _ _ _), Nat.lt_of_lt_of_le hr.2 hs9⟩
      refine step_store_part rfl _ _ rfl w.heap.size 1 rfl (lab4 (goodL m.lab)) rfl hth9 (hszL _) (lab4_one _) hV9 ?_
      (try simp only [Act.put, List.setIfInBounds_toArray, List.set_cons_zero, List.set_cons_succ])
      refine hK.out _ _ (trivial) ?_
      clear hHeld hK
      intro hHeld
      replace hm := hm9
      replace hr := hr9
      replace hB := hB9
      clear hV9 hth9 hm9 hr9 hB9 hs9
      (try simp only [Act.put, List.setIfInBounds_toArray, List.set_cons_zero, List.set_cons_succ])
      refine wpAnyH_take (i := 8) (v := ?_) (by simp only [List.getElem?_toArray, List.getElem?_cons_zero, List.getElem?_cons_succ]; rfl) (by kernel_rfl) (by kernel_rfl) (by kernel_rfl) (by exact fun _ _ _ h => h) (Or.inl ⟨by rfl, ?_⟩) (by assumption) ?_; rotate_left; (focus (intro w hSw; (try dsimp only at hSw); go_simp; try with_reducible rfl)); (try simp only [Act.put, List.setIfInBounds_toArray, List.set_cons_zero, List.set_cons_succ])
      refine wpAnyH_ready (rs := [9]) (by kernel_rfl) (by simp) ?_
      refine AllReadyH.cons (by simp only [List.getElem?_toArray, List.getElem?_cons_zero, List.getElem?_cons_succ]; rfl) (fun K hK => ?_) AllReadyH.nil
      obtain ⟨w6, hV9, hth9, hm9, hB9⟩ := put_mid (Z := w) hm 6 (lab4 (goodL m.box)) (by show 6 + 4 ≤ 11; decide) (by show 0 < 11; decide) hB (Nat.le_refl _)
      replace hm9 : BlkL w.heap.size (Msg.mk F1 (goodL m.lab) F2 (goodL m.box) m.text).cs w6 := hm9
      have hs9 : w5.heap.size ≤ w6.heap.size := by rw [← hV9]; exact (Below.cells (Nat.zero_le w.heap.size) _ _ (Below.refl 0 _)).size
      have hr9 : BlkL (w.heap.size + 1) zeroM.cs w6 := ⟨hr.1.same (by rw [← hV9]; exact heap_setCells_other (by omega) _ _ _), Nat.lt_of_lt_of_le hr.2 hs9⟩
      refine step_store_part rfl _ _ rfl w.heap.size 6 rfl (lab4 (goodL m.box)) rfl hth9 (hszL _) (lab4_one _) hV9 ?_
      (try simp only [Act.put, List.setIfInBounds_toArray, List.set_cons_zero, List.set_cons_succ])
      refine hK.out _ _ (trivial) ?_
      clear hHeld hK
      intro hHeld
      replace hm := hm9
      replace hr := hr9
      replace hB := hB9
      clear hV9 hth9 hm9 hr9 hB9 hs9
      (try simp only [Act.put, List.setIfInBounds_toArray, List.set_cons_zero, List.set_cons_succ])
      refine wpAnyH_done (by kernel_rfl) ?_ _
      clear hHeld
      go_wp2_with fail
      go_meet
      exact ⟨hm, hr, hB⟩
    refine AllReadyH.cons (by simp only [List.getElem?_toArray, List.getElem?_cons_zero, List.getElem?_cons_succ]; rfl) (fun K hK => ?_) AllReadyH.nil
    refine step_load_atM rfl _ rfl ⟨w.heap.size, 6, none⟩ rfl (lab4 m.box) (cells_blk hm 6 (ms_box ⟨F1, m.lab, F2, m.box, m.text⟩)) hundL rfl (hszL m.box) ?_
    (try simp only [Act.put, List.setIfInBounds_toArray, List.set_cons_zero, List.set_cons_succ])
    refine hK.out _ _ (trivial) ?_
    clear hHeld hK
    intro hHeld
    obtain ⟨w1, hw⟩ : ∃ X, w0 = X := ⟨_, rfl⟩
    rw [hw] at hm hr hB ⊢
    clear hw
    (try simp only [Act.put, List.setIfInBounds_toArray, List.set_cons_zero, List.set_cons_succ])
    refine wpAnyH_ready (rs := [1]) (by kernel_rfl) (by simp) ?_
    refine AllReadyH.cons (by simp only [List.getElem?_toArray, List.getElem?_cons_zero, List.getElem?_cons_succ]; rfl) (fun K hK => ?_) AllReadyH.nil
    refine step_load_atM rfl _ rfl ⟨w.heap.size, 1, none⟩ rfl (lab4 m.lab) (cells_blk hm 1 (ms_lab ⟨F1, m.lab, F2, m.box, m.text⟩)) hundL rfl (hszL m.lab) ?_
    (try simp only [Act.put, List.setIfInBounds_toArray, List.set_cons_zero, List.set_cons_succ])
    refine hK.out _ _ (trivial) ?_
    clear hHeld hK
    intro hHeld
    obtain ⟨w2, hw⟩ : ∃ X, w1 = X := ⟨_, rfl⟩
    rw [hw] at hm hr hB ⊢
    clear hw
    (try simp only [Act.put, List.setIfInBounds_toArray, List.set_cons_zero, List.set_cons_succ])
    refine wpAnyH_ready (rs := [2]) (by kernel_rfl) (by simp) ?_
    refine AllReadyH.cons (by simp only [List.getElem?_toArray, List.getElem?_cons_zero, List.getElem?_cons_succ]; rfl) (fun K hK => ?_) AllReadyH.nil
    go_simp
    refine (kg1 w2).mono ?_
    rintro e w3 ⟨rfl, hb⟩
    replace hm := stab_blk _ _ _ _ hm hb
    replace hr := stab_blk _ _ _ _ hr hb
    replace hB := Below.then hB hb
    clear hb
    refine hK.out _ _ (trivial) ?_
    clear hHeld hK
    intro hHeld
    (try simp only [Act.put, List.setIfInBounds_toArray, List.set_cons_zero, List.set_cons_succ])
    refine wpAnyH_take (i := 6) (v := ?_) (by simp only [List.getElem?_toArray, List.getElem?_cons_zero, List.getElem?_cons_succ]; rfl) (by kernel_rfl) (by kernel_rfl) (by kernel_rfl) (by exact fun _ _ _ h => h) (Or.inl ⟨by rfl, ?_⟩) (by assumption) ?_; rotate_left; (focus (intro w hSw; (try dsimp only at hSw); go_simp; try with_reducible rfl)); (try simp only [Act.put, List.setIfInBounds_toArray, List.set_cons_zero, List.set_cons_succ])
    refine wpAnyH_ready (rs := [5]) (by kernel_rfl) (by simp) ?_
    refine AllReadyH.cons (by simp only [List.getElem?_toArray, List.getElem?_cons_zero, List.getElem?_cons_succ]; rfl) (fun K hK => ?_) AllReadyH.nil
    go_simp
    refine (kg2 w3).mono ?_
    rintro e w4 ⟨rfl, hb⟩
    replace hm := stab_blk _ _ _ _ hm hb
    replace hr := stab_blk _ _ _ _ hr hb
    replace hB := Below.then hB hb
    clear hb
    refine hK.out _ _ (trivial) ?_
    clear hHeld hK
    intro hHeld
    (try simp only [Act.put, List.setIfInBounds_toArray, List.set_cons_zero, List.set_cons_succ])
    refine wpAnyH_ready (rs := [7]) (by kernel_rfl) (by simp) ?_
    refine AllReadyH.cons (by simp only [List.getElem?_toArray, List.getElem?_cons_zero, List.getElem?_cons_succ]; rfl) (fun K hK => ?_) AllReadyH.nil
    obtain ⟨w5, hV9, hth9, hm9, hB9⟩ := put_mid (Z := w) hm 1 (lab4 (goodL m.lab)) (by show 1 + 4 ≤ 11; decide) (by show 0 < 11; decide) hB (Nat.le_refl _)
    replace hm9 : BlkL w.heap.size (Msg.mk F1 (goodL m.lab) F2 m.box m.text).cs w5 := hm9
    have hs9 : w4.heap.size ≤ w5.heap.size := by rw [← hV9]; exact (Below.cells (Nat.zero_le w.heap.size) _ _ (Below.refl 0 _)).size
    have hr9 : BlkL (w.heap.size + 1) zeroM.cs w5 := ⟨hr.1.same (by rw [← hV9]; exact heap_setCells_other (by omega) _ _ _), Nat.lt_of_lt_of_le hr.2 hs9⟩
    refine step_store_part rfl _ _ rfl w.heap.size 1 rfl (lab4 (goodL m.lab)) rfl hth9 (hszL _) (lab4_one _) hV9 ?_
    (try simp only [Act.put, List.setIfInBounds_toArray, List.set_cons_zero, List.set_cons_succ])
    refine hK.out _ _ (trivial) ?_
    clear hHeld hK
    intro hHeld
    replace hm := hm9
    replace hr := hr9
    replace hB := hB9
    clear hV9 hth9 hm9 hr9 hB9 hs9
    (try simp only [Act.put, List.setIfInBounds_toArray, List.set_cons_zero, List.set_cons_succ])
    refine wpAnyH_take (i := 8) (v := ?_) (by simp only [List.getElem?_toArray, List.getElem?_cons_zero, List.getElem?_cons_succ]; rfl) (by kernel_rfl) (by kernel_rfl) (by kernel_rfl) (by exact fun _ _ _ h => h) (Or.inl ⟨by rfl, ?_⟩) (by assumption) ?_; rotate_left; (focus (intro w hSw; (try dsimp only at hSw); go_simp; try with_reducible rfl)); (try simp only [Act.put, List.setIfInBounds_toArray, List.set_cons_zero, List.set_cons_succ])
    refine wpAnyH_ready (rs := [9]) (by kernel_rfl) (by simp) ?_
    refine AllReadyH.cons (by simp only [List.getElem?_toArray, List.getElem?_cons_zero, List.getElem?_cons_succ]; rfl) (fun K hK => ?_) AllReadyH.nil
    obtain ⟨w6, hV9, hth9, hm9, hB9⟩ := put_mid (Z := w) hm 6 (lab4 (goodL m.box)) (by show 6 + 4 ≤ 11; decide) (by show 0 < 11; decide) hB (Nat.le_refl _)
    replace hm9 : BlkL w.heap.size (Msg.mk F1 (goodL m.lab) F2 (goodL m.box) m.text).cs w6 := hm9
    have hs9 : w5.heap.size ≤ w6.heap.size := by rw [← hV9]; exact (Below.cells (Nat.zero_le w.heap.size) _ _ (Below.refl 0 _)).size
    have hr9 : BlkL (w.heap.size + 1) zeroM.cs w6 := ⟨hr.1.same (by rw [← hV9]; exact heap_setCells_other (by omega) _ _ _), Nat.lt_of_lt_of_le hr.2 hs9⟩
    refine step_store_part rfl _ _ rfl w.heap.size 6 rfl (lab4 (goodL m.box)) rfl hth9 (hszL _) (lab4_one _) hV9 ?_
    (try simp only [Act.put, List.setIfInBounds_toArray, List.set_cons_zero, List.set_cons_succ])
    refine hK.out _ _ (trivial) ?_
    clear hHeld hK
    intro hHeld
    replace hm := hm9
    replace hr := hr9
    replace hB := hB9
    clear hV9 hth9 hm9 hr9 hB9 hs9
    (try simp only [Act.put, List.setIfInBounds_toArray, List.set_cons_zero, List.set_cons_succ])
    refine wpAnyH_done (by kernel_rfl) ?_ _
    clear hHeld
    go_wp2_with fail
    go_meet
    exact ⟨hm, hr, hB⟩
  case rest =>
  obtain ⟨hm3, hr3, hB3⟩ := hcut
  obtain ⟨V, hV⟩ : ∃ V, wc = V := ⟨_, rfl⟩
  rw [hV] at hm3 hr3 hB3 ⊢
  clear hV hm hr hB kg1 kg2 kw1 kw2
  have q10 := (hm3.1 10 (.string m.text) rfl).1
  have q10f := (hm3.1 10 (.string m.text) rfl).2
  obtain ⟨N1, hN1⟩ : ∃ N1, (Msg.mk F1 (goodL m.lab) F2 (goodL m.box) m.text).cs = N1 := ⟨_, rfl⟩
  by_cases hlong : 40 < m.text.size
  · have i1 : (40 : Int) < (m.text.size : Int) := by omega
    have hcut0 := fun W => cut0_run m.text 40 (by omega) W
    have hm4 : BlkL w.heap.size (Msg.mk F1 (goodL m.lab) F2 (goodL m.box) (m.text.extract 0 40)).cs (V.setCell ⟨w.heap.size, 10, none⟩ (.string (m.text.extract 0 40))) := blk_setS hm3 (by show 10 < 11; decide) _
    have hr4 := blk_setO hr3 (by omega : w.heap.size + 1 ≠ w.heap.size) 10 (.string (m.text.extract 0 40))
    have hB4 := hB3.setCell (p := ⟨w.heap.size, 10, none⟩) (Nat.le_refl _) (.string (m.text.extract 0 40))
    have hG3 : G = ⟨F1, goodL m.lab, F2, goodL m.box, m.text.extract 0 40⟩ := by rw [hG2.out]; unfold cutT; rw [if_pos hlong]
    rw [← hG3] at hm4
    obtain ⟨V4, hV4⟩ : ∃ V4, V.setCell ⟨w.heap.size, 10, none⟩ (.string (m.text.extract 0 40)) = V4 := ⟨_, rfl⟩
    rw [hV4] at hm4 hr4 hB4
    obtain ⟨gs, hgs⟩ : ∃ gs, G.cs = gs := ⟨_, rfl⟩
    have hlg : gs.length = 11 := by rw [← hgs]; rfl
    have hgo : ∀ v ∈ gs, v.oneCell' = true := by rw [← hgs]; exact ms_one G
    have hszg : (Try.prog.info? 26).map (·.size) = some gs.length := by rw [hlg]; exact hszM
    rw [hgs] at hm4
    replace hgs : Aside (G.cs = gs) := hgs
    have hmr := hm4.range
    obtain ⟨V5, hV5, hth5, hr5, hk5⟩ := mput_any hr4 (ds := gs) (by rw [hlg]; rfl) (by rw [hlg]; decide)
    have hfin := hk5 _ _ (Nat.le_succ _) hB4
    have hrr := hr5.range
    clear hG2 hG3 hm3 hr3 hB3 hm4 hr4 hB4 hr5 hk5 hN1
    go_upto_region 5 with fail
    (try rw [hV4])
    clear hV4
    go_wp2_with (first | (refine wpList_load_row rfl _ rfl w.heap.size rfl gs hmr hundM rfl hszg ?_) | (refine wpList_store_row rfl _ _ rfl (w.heap.size + 1) rfl gs rfl hth5 hszg hgo hV5 ?_) | fail)
    refine bodyPost_ret (v := .agg gs.toArray) (results_row1 rfl _ _ (w.heap.size + 1) rfl gs hrr hundM rfl hszg) rfl ?_
    exact ⟨by rw [hgs.out], hfin⟩
  · have i1 : ¬ (40 : Int) < (m.text.size : Int) := by omega
    have hG3 : G = ⟨F1, goodL m.lab, F2, goodL m.box, m.text⟩ := by rw [hG2.out]; unfold cutT; rw [if_neg hlong]
    rw [← hG3] at hm3
    obtain ⟨gs, hgs⟩ : ∃ gs, G.cs = gs := ⟨_, rfl⟩
    have hlg : gs.length = 11 := by rw [← hgs]; rfl
    have hgo : ∀ v ∈ gs, v.oneCell' = true := by rw [← hgs]; exact ms_one G
    have hszg : (Try.prog.info? 26).map (·.size) = some gs.length := by rw [hlg]; exact hszM
    rw [hgs] at hm3
    replace hgs : Aside (G.cs = gs) := hgs
    have hmr := hm3.range
    obtain ⟨V5, hV5, hth5, hr5, hk5⟩ := mput_any hr3 (ds := gs) (by rw [hlg]; rfl) (by rw [hlg]; decide)
    have hfin := hk5 _ _ (Nat.le_succ _) hB3
    have hrr := hr5.range
    clear hG2 hG3 hm3 hr3 hB3 hr5 hk5 hN1
    go_wp2_with (first | (refine wpList_load_row rfl _ rfl w.heap.size rfl gs hmr hundM rfl hszg ?_) | (refine wpList_store_row rfl _ _ rfl (w.heap.size + 1) rfl gs rfl hth5 hszg hgo hV5 ?_) | fail)
    refine bodyPost_ret (v := .agg gs.toArray) (results_row1 rfl _ _ (w.heap.size + 1) rfl gs hrr hundM rfl hszg) rfl ?_
    exact ⟨by rw [hgs.out], hfin⟩
/-- A rule such as may be; the k-th is of the message. -/
def ruleI (m : Msg) (k : Int) (i : Nat) (x : MRul) : MRul := if (i : Int) = k then ⟨m.lab, m.box, x.word⟩ else ⟨goodL x.src, goodL x.dst, x.word⟩
def rulesK (m : Msg) (k : Int) : Nat → List MRul → List MRul
  | _, [] => []
  | i, x :: t => ruleI m k i x :: rulesK m k (i + 1) t
def rulesM (r : List MRul) (m : Msg) (k : Int) : List MRul := rulesK m k 0 (r.take 8)
theorem rules_next (m : Msg) (k : Int) (x : MRul) : ∀ (l : List MRul) (i : Nat), rulesK m k i (l ++ [x]) = rulesK m k i l ++ [ruleI m k (i + l.length) x]
  | [], i => rfl
  | y :: t, i => by
    rw [List.cons_append, rulesK, rulesK, rules_next m k x t (i + 1), List.cons_append, List.length_cons]
    congr 4
    omega
theorem rules_len (m : Msg) (k : Int) : ∀ (l : List MRul) (i : Nat), (rulesK m k i l).length = l.length
  | [], _ => rfl
  | y :: t, i => by rw [rulesK, List.length_cons, List.length_cons, rules_len m k t (i + 1)]
set_option maxRecDepth 8000 in
set_option maxHeartbeats 4000000 in
theorem mrules_any (a : Option Addr) (cap : Nat) (l : List MRul) (m : Msg) (k : Int) (hl : l.length ≤ 1000000000000000) (w : World) (h : RowAt 9 MRul.cs w a l) :
    Calls Try.prog 10 #[.slice a l.length cap, .agg m.cs.toArray, .int .i64 k] w fun e w' => ∃ v, e = .returned v ∧ OwnR 29 9 MRul.cs w' w.heap.size v (rulesM l m k) ∧ Below w.heap.size w w' := by
  have hundL := Try.underlying24
  have hund := Try.underlying29
  have hszL : ∀ t : Lab, (Try.prog.info? 24).map (·.size) = some (lab4 t).length := fun t => by show _ = some 4; kernel_rfl
  have hsz9 : (Try.prog.info? 29).map (·.size) = some 9 := by kernel_rfl
  have kg : ∀ (t : Lab) W, Calls Try.prog 25 #[.agg (lab4 t).toArray] W fun e w' => e = .returned (.agg (lab4 (goodL t)).toArray) ∧ Below W.heap.size W w' := fun t W => good_any t W
  have hm0 := blkl_alloc w m.cs.toArray 26
  have hB0 := alloc_below w (.cells m.cs.toArray 26)
  have hrow := h.below mr_len hB0
  have hls := fun (b : Nat) (W : World) (q : BlkL b m.cs W) => cells_blk q 1 (ms_lab m)
  have hbs := fun (b : Nat) (W : World) (q : BlkL b m.cs W) => cells_blk q 6 (ms_box m)
  obtain ⟨M, hM⟩ : ∃ M, m.cs = M := ⟨_, rfl⟩
  replace hm0 : BlkL w.heap.size M (w.alloc (.cells M.toArray 26)) := by rw [← hM]; exact hm0
  rw [hM] at hB0 hrow ⊢
  simp only [hM] at hls hbs
  clear hM h
  obtain ⟨n, hn⟩ : ∃ n, l.length = n := ⟨_, rfl⟩
  rw [hn] at hl ⊢
  replace hn : Aside (l.length = n) := hn
  go_enter Try.func10, Try.ntmps10
  go_upto_region 1 with fail
  generalize w.alloc (.cells M.toArray 26) = W0 at *
  go_wp2_with fail
  go_loopw [7, 8] (fun t7 t8 wr => ∃ (i : Nat) (v : Value), i ≤ n ∧ i ≤ 8 ∧ t8 = .int .i64 (i : Int) ∧ v = t7 ∧ OwnR 29 9 MRul.cs wr W0.heap.size v (rulesK m k 0 (l.take i)) ∧ Below W0.heap.size W0 wr) (fun _ t8 _ => 8 - (Go.RowKit.intOf t8).toNat)
  case atStart => exact ⟨0, _, by omega, by omega, rfl, rfl, OwnR.nil _ _ _ _ _, Below.refl _ _⟩
  case round =>
  obtain ⟨i, v, hi, hi8, rfl, rfl, ho, hB⟩ := hrel
  go_upto_region 3 with fail
  go_cut [17] from 10 to 16 (fun s17 wd => s17 = .bool (decide (i < n) && decide (i < 8)) ∧ wd = wr)
  · skip
    by_cases hin : i < n
    · have i1 : (i : Int) < (n : Int) := by omega
      by_cases hi9 : i < 8
      · have i2 : (i : Int) < 8 := by omega
        go_wp2_with fail
        go_meet
        exact ⟨by simp [hin, hi9], rfl⟩
      · have i2 : ¬ (i : Int) < 8 := by omega
        go_wp2_with fail
        go_meet
        exact ⟨by simp [hin, hi9], rfl⟩
    · have i1 : ¬ (i : Int) < (n : Int) := by omega
      go_wp2_with fail
      go_meet
      exact ⟨by simp [hin], rfl⟩
  case rest =>
  obtain ⟨rfl, hwc⟩ := hcut
  subst hwc
  by_cases hgo : i < n ∧ i < 8
  case neg =>
    rw [show (decide (i < n) && decide (i < 8)) = false by
      cases q : (decide (i < n) && decide (i < 8)) with
      | false => rfl
      | true => exact absurd (by simpa using q) hgo]
    have hfull : l.take i = l.take 8 := by
      by_cases q : i < n
      · rw [show i = 8 by omega]
      · rw [List.take_of_length_le (by rw [hn.out]; omega), List.take_of_length_le (by rw [hn.out]; omega)]
    have hfin := Below.then hB0 hB
    have hle := hB0.size
    rw [hfull] at ho
    go_wp2_with fail
    go_ret
    exact ⟨_, rfl, ho.lower hle, hfin⟩
  case pos =>
  obtain ⟨hin, hi9⟩ := hgo
  rw [show (decide (i < n) && decide (i < 8)) = true by simp [hin, hi9]]
  have i1 : (i : Int) < (n : Int) := by omega
  obtain ⟨x, hx⟩ : ∃ x, l[i]? = some x := ⟨_, List.getElem?_eq_getElem (by rw [hn.out]; exact hin)⟩
  obtain ⟨y, rfl, -⟩ := hrow i x hx
  have hw := (hrow.below mr_len hB).at mr_len hx
  have hti : (l.take i).length = i := by rw [List.length_take, hn.out]; omega
  have hnx := rules_next m k x (l.take i) 0
  rw [hti, Nat.zero_add, show l.take i ++ [x] = l.take (i + 1) by rw [List.take_add_one, hx]; rfl] at hnx
  have hln := rules_len m k (l.take i) 0
  rw [hti] at hln
  go_upto_region 5 with fail
  obtain ⟨Z, hZ⟩ : ∃ Z, wc = Z := ⟨_, rfl⟩
  rw [hZ] at hw ho hB ⊢
  clear hZ
  have hmz := stab_blk _ _ _ _ hm0 hB
  have hxs := cells_src hw
  have hxd := cells_sub hw 4 (by decide) (mr_dst x)
  have q8 : Z.cell? ⟨(y.add (i * 9)).block, (y.add (i * 9)).off + 8, none⟩ = some (.string x.word) := by
    have h1 := hw 8 _ (show x.cs[8]? = some (.string x.word) from rfl)
    rwa [show (y.add (i * 9)).add 8 = ⟨(y.add (i * 9)).block, (y.add (i * 9)).off + 8, none⟩ by unfold Addr.add; rw [if_neg (by decide)]] at h1
  have hS : Below Z.heap.size Z Z.drew := (Below.refl _ _).drew
  obtain ⟨g1, hg1⟩ : ∃ g, MRul.mk (goodL x.src) (goodL x.dst) x.word = g := ⟨_, rfl⟩
  have hg1c : Aside (Value.agg #[.int .i64 (goodL x.src).s, .int .i64 (goodL x.src).c, .int .i64 (goodL x.src).i, .int .i64 (goodL x.src).k, .int .i64 (goodL x.dst).s, .int .i64 (goodL x.dst).c, .int .i64 (goodL x.dst).i, .int .i64 (goodL x.dst).k, .string x.word] = .agg g1.cs.toArray) := by show _ = _; rw [← hg1]; rfl
  replace hg1 : Aside (MRul.mk (goodL x.src) (goodL x.dst) x.word = g1) := hg1
  clear hw
  go_cut [9] from 20 to 37 (fun s9 wd => ∃ gx : Nat, s9 = .pointer (some ⟨gx, 0, none⟩) ∧ BlkL gx g1.cs wd ∧ Below Z.heap.size Z wd ∧ Z.heap.size ≤ gx)
  · skip
    refine wp_region_held_drew (S := (fun W => Below Z.heap.size Z W)) (by kernel_rfl) (by exact hS) ?_
    intro hHeld
    generalize Z.drew = w0 at *
    refine wpAnyH_take (i := 0) (v := ?_) (by simp only [List.getElem?_toArray, List.getElem?_cons_zero, List.getElem?_cons_succ]; rfl) (by kernel_rfl) (by kernel_rfl) (by kernel_rfl) (by exact fun _ _ _ h => h) (Or.inl ⟨by rfl, ?_⟩) (by assumption) ?_; rotate_left; (focus (intro w hSw; (try dsimp only at hSw); go_simp; try with_reducible rfl)); (try simp only [Act.put, List.setIfInBounds_toArray, List.set_cons_zero, List.set_cons_succ])
    refine wpAnyH_take (i := 1) (v := ?_) (by simp only [List.getElem?_toArray, List.getElem?_cons_zero, List.getElem?_cons_succ]; rfl) (by kernel_rfl) (by kernel_rfl) (by kernel_rfl) (by exact fun _ _ _ h => h) (Or.inl ⟨by rfl, ?_⟩) (by assumption) ?_; rotate_left; (focus (intro w hSw; (try dsimp only at hSw); go_simp; try with_reducible rfl)); (try simp only [Act.put, List.setIfInBounds_toArray, List.set_cons_zero, List.set_cons_succ])
    refine wpAnyH_take (i := 2) (v := ?_) (by simp only [List.getElem?_toArray, List.getElem?_cons_zero, List.getElem?_cons_succ]; rfl) (by kernel_rfl) (by kernel_rfl) (by kernel_rfl) (by exact fun _ _ _ h => h) (Or.inl ⟨by rfl, ?_⟩) (by assumption) ?_; rotate_left; (focus (intro w hSw; (try dsimp only at hSw); go_simp; try with_reducible rfl)); (try simp only [Act.put, List.setIfInBounds_toArray, List.set_cons_zero, List.set_cons_succ])
    refine wpAnyH_take (i := 3) (v := ?_) (by simp only [List.getElem?_toArray, List.getElem?_cons_zero, List.getElem?_cons_succ]; rfl) (by kernel_rfl) (by kernel_rfl) (by kernel_rfl) (by exact fun _ _ _ h => h) (Or.inl ⟨by rfl, ?_⟩) (by assumption) ?_; rotate_left; (focus (intro w hSw; (try dsimp only at hSw); go_simp; try with_reducible rfl)); (try simp only [Act.put, List.setIfInBounds_toArray, List.set_cons_zero, List.set_cons_succ])
    refine wpAnyH_take (i := 4) (v := _) (by simp only [List.getElem?_toArray, List.getElem?_cons_zero, List.getElem?_cons_succ]; rfl) (by kernel_rfl) (by kernel_rfl) (by kernel_rfl) (by exact fun _ _ _ h => h) (yields_at (by rfl) _ rfl (y.add (i * 9)) rfl (lab4 x.src) (fun _ q => CellsAt.below hxs q) hundL rfl (hszL x.src)) (by assumption) ?_; (try simp only [Act.put, List.setIfInBounds_toArray, List.set_cons_zero, List.set_cons_succ])
    refine wpAnyH_take (i := 6) (v := ?_) (by simp only [List.getElem?_toArray, List.getElem?_cons_zero, List.getElem?_cons_succ]; rfl) (by kernel_rfl) (by kernel_rfl) (by kernel_rfl) (by exact fun _ _ _ h => h) (Or.inl ⟨by rfl, ?_⟩) (by assumption) ?_; rotate_left; (focus (intro w hSw; (try dsimp only at hSw); go_simp; try with_reducible rfl)); (try simp only [Act.put, List.setIfInBounds_toArray, List.set_cons_zero, List.set_cons_succ])
    refine wpAnyH_take (i := 7) (v := ?_) (by simp only [List.getElem?_toArray, List.getElem?_cons_zero, List.getElem?_cons_succ]; rfl) (by kernel_rfl) (by kernel_rfl) (by kernel_rfl) (by exact fun _ _ _ h => h) (Or.inl ⟨by rfl, ?_⟩) (by assumption) ?_; rotate_left; (focus (intro w hSw; (try dsimp only at hSw); go_simp; try with_reducible rfl)); (try simp only [Act.put, List.setIfInBounds_toArray, List.set_cons_zero, List.set_cons_succ])
    refine wpAnyH_take (i := 8) (v := ?_) (by simp only [List.getElem?_toArray, List.getElem?_cons_zero, List.getElem?_cons_succ]; rfl) (by kernel_rfl) (by kernel_rfl) (by kernel_rfl) (by exact fun _ _ _ h => h) (Or.inl ⟨by rfl, ?_⟩) (by assumption) ?_; rotate_left; (focus (intro w hSw; (try dsimp only at hSw); go_simp; try with_reducible rfl)); (try simp only [Act.put, List.setIfInBounds_toArray, List.set_cons_zero, List.set_cons_succ])
    refine wpAnyH_take (i := 9) (v := ?_) (by simp only [List.getElem?_toArray, List.getElem?_cons_zero, List.getElem?_cons_succ]; rfl) (by kernel_rfl) (by kernel_rfl) (by kernel_rfl) (by exact fun _ _ _ h => h) (Or.inl ⟨by rfl, ?_⟩) (by assumption) ?_; rotate_left; (focus (intro w hSw; (try dsimp only at hSw); go_simp; try with_reducible rfl)); (try simp only [Act.put, List.setIfInBounds_toArray, List.set_cons_zero, List.set_cons_succ])
    refine wpAnyH_take (i := 10) (v := _) (by simp only [List.getElem?_toArray, List.getElem?_cons_zero, List.getElem?_cons_succ]; rfl) (by kernel_rfl) (by kernel_rfl) (by kernel_rfl) (by exact fun _ _ _ h => h) (yields_at (by rfl) _ rfl ⟨(y.add (i * 9)).block, (y.add (i * 9)).off + 4, none⟩ rfl (lab4 x.dst) (fun _ q => CellsAt.below hxd q) hundL rfl (hszL x.dst)) (by assumption) ?_; (try simp only [Act.put, List.setIfInBounds_toArray, List.set_cons_zero, List.set_cons_succ])
    refine wpAnyH_take (i := 12) (v := ?_) (by simp only [List.getElem?_toArray, List.getElem?_cons_zero, List.getElem?_cons_succ]; rfl) (by kernel_rfl) (by kernel_rfl) (by kernel_rfl) (by exact fun _ _ _ h => h) (Or.inl ⟨by rfl, ?_⟩) (by assumption) ?_; rotate_left; (focus (intro w hSw; (try dsimp only at hSw); go_simp; try with_reducible rfl)); (try simp only [Act.put, List.setIfInBounds_toArray, List.set_cons_zero, List.set_cons_succ])
    refine wpAnyH_take (i := 13) (v := ?_) (by simp only [List.getElem?_toArray, List.getElem?_cons_zero, List.getElem?_cons_succ]; rfl) (by kernel_rfl) (by kernel_rfl) (by kernel_rfl) (by exact fun _ _ _ h => h) (Or.inl ⟨by rfl, ?_⟩) (by assumption) ?_; rotate_left; (focus (intro w hSw; (try dsimp only at hSw); go_simp; try with_reducible rfl)); (try simp only [Act.put, List.setIfInBounds_toArray, List.set_cons_zero, List.set_cons_succ])
    refine wpAnyH_take (i := 14) (v := ?_) (by simp only [List.getElem?_toArray, List.getElem?_cons_zero, List.getElem?_cons_succ]; rfl) (by kernel_rfl) (by kernel_rfl) (by kernel_rfl) (by exact fun _ _ _ h => h) (Or.inl ⟨by rfl, ?_⟩) (by assumption) ?_; rotate_left; (focus (intro w hSw; (try dsimp only at hSw); go_simp; try with_reducible rfl)); (try simp only [Act.put, List.setIfInBounds_toArray, List.set_cons_zero, List.set_cons_succ])
    refine wpAnyH_take (i := 15) (v := ?_) (by simp only [List.getElem?_toArray, List.getElem?_cons_zero, List.getElem?_cons_succ]; rfl) (by kernel_rfl) (by kernel_rfl) (by kernel_rfl) (by exact fun _ _ _ h => h) (Or.inl ⟨by rfl, ?_⟩) (by assumption) ?_; rotate_left; (focus (intro w hSw; (try dsimp only at hSw); go_simp; try with_reducible rfl)); (try simp only [Act.put, List.setIfInBounds_toArray, List.set_cons_zero, List.set_cons_succ])
    refine wpAnyH_take (i := 16) (v := _) (by simp only [List.getElem?_toArray, List.getElem?_cons_zero, List.getElem?_cons_succ]; rfl) (by kernel_rfl) (by kernel_rfl) (by kernel_rfl) (by exact fun _ _ _ h => h) (yields_cellM (by rfl) _ rfl ⟨(y.add (i * 9)).block, (y.add (i * 9)).off + 8, none⟩ rfl (.string x.word) (fun _ q => (q.cell (World.block_lt_of_cell? _ _ q8)).trans q8) strM_load) (by assumption) ?_; (try simp only [Act.put, List.setIfInBounds_toArray, List.set_cons_zero, List.set_cons_succ])
    refine wpAnyH_ready (rs := [5, 18]) (by kernel_rfl) (by simp) ?_
    refine AllReadyH.cons (by simp only [List.getElem?_toArray, List.getElem?_cons_zero, List.getElem?_cons_succ]; rfl) (fun K hK => ?_) ?_
    · go_simp
      refine (kg x.src w0).mono ?_
      rintro e w1 ⟨rfl, hb⟩
      replace hS := Below.then hS hb
      clear hb
      refine hK.out _ _ (hS) ?_
      clear hHeld hK
      intro hHeld
      (try simp only [Act.put, List.setIfInBounds_toArray, List.set_cons_zero, List.set_cons_succ])
      refine wpAnyH_ready (rs := [11, 18]) (by kernel_rfl) (by simp) ?_
      refine AllReadyH.cons (by simp only [List.getElem?_toArray, List.getElem?_cons_zero, List.getElem?_cons_succ]; rfl) (fun K hK => ?_) ?_
      · go_simp
        refine (kg x.dst w1).mono ?_
        rintro e w2 ⟨rfl, hb⟩
        replace hS := Below.then hS hb
        clear hb
        refine hK.out _ _ (hS) ?_
        clear hHeld hK
        intro hHeld
        (try simp only [Act.put, List.setIfInBounds_toArray, List.set_cons_zero, List.set_cons_succ])
        refine wpAnyH_take (i := 17) (v := ?_) (by simp only [List.getElem?_toArray, List.getElem?_cons_zero, List.getElem?_cons_succ]; rfl) (by kernel_rfl) (by kernel_rfl) (by kernel_rfl) (by exact fun _ _ _ h => h) (Or.inl ⟨by rfl, ?_⟩) (by assumption) ?_; rotate_left; (focus (intro w hSw; (try dsimp only at hSw); go_simp; try with_reducible rfl)); (try simp only [Act.put, List.setIfInBounds_toArray, List.set_cons_zero, List.set_cons_succ])
        refine wpAnyH_ready (rs := [18]) (by kernel_rfl) (by simp) ?_
        refine AllReadyH.cons (by simp only [List.getElem?_toArray, List.getElem?_cons_zero, List.getElem?_cons_succ]; rfl) (fun K hK => ?_) AllReadyH.nil
        have hb := alloc_below w2 (.cells zR9 29)
        have hz : BlkL w2.heap.size zeroR.cs (w2.alloc (.cells zR9 29)) := blkl_alloc w2 zR9 29
        have hgx : Z.heap.size ≤ w2.heap.size := hS.size
        refine step_allocM (z := zR9) rfl rfl (fun _ => rfl) ?_
        (try simp only [Act.put, List.setIfInBounds_toArray, List.set_cons_zero, List.set_cons_succ])
        refine hK.out _ _ (Below.then hS hb) ?_
        clear hHeld hK
        intro hHeld
        replace hS := Below.then hS hb
        clear hb
        generalize w2.alloc (.cells zR9 29) = w3 at *
        generalize w2.heap.size = gx at *
        (try simp only [Act.put, List.setIfInBounds_toArray, List.set_cons_zero, List.set_cons_succ])
        refine wpAnyH_ready (rs := [19]) (by kernel_rfl) (by simp) ?_
        refine AllReadyH.cons (by simp only [List.getElem?_toArray, List.getElem?_cons_zero, List.getElem?_cons_succ]; rfl) (fun K hK => ?_) AllReadyH.nil
        obtain ⟨V9, hV9, hth9, hz9, hk9⟩ := mput_any hz (ds := g1.cs) rfl (by show 0 < 9; decide)
        have hS9 := hk9 _ _ hgx hS
        refine step_store_rowM rfl _ _ rfl gx rfl g1.cs hg1c.out hth9 hsz9 (mr_one _) hV9 ?_
        (try simp only [Act.put, List.setIfInBounds_toArray, List.set_cons_zero, List.set_cons_succ])
        refine hK.out _ _ (hS9) ?_
        clear hHeld hK
        intro hHeld
        replace hz := hz9
        replace hS := hS9
        clear hth9 hV9 hz9 hk9 hS9
        (try simp only [Act.put, List.setIfInBounds_toArray, List.set_cons_zero, List.set_cons_succ])
        refine wpAnyH_done (by kernel_rfl) ?_ _
        clear hHeld
        go_wp2_with fail
        go_meet
        exact ⟨gx, rfl, hz, hS, hgx⟩
      refine AllReadyH.cons (by simp only [List.getElem?_toArray, List.getElem?_cons_zero, List.getElem?_cons_succ]; rfl) (fun K hK => ?_) AllReadyH.nil
      have hb := alloc_below w1 (.cells zR9 29)
      have hz : BlkL w1.heap.size zeroR.cs (w1.alloc (.cells zR9 29)) := blkl_alloc w1 zR9 29
      have hgx : Z.heap.size ≤ w1.heap.size := hS.size
      refine step_allocM (z := zR9) rfl rfl (fun _ => rfl) ?_
      (try simp only [Act.put, List.setIfInBounds_toArray, List.set_cons_zero, List.set_cons_succ])
      refine hK.out _ _ (Below.then hS hb) ?_
      clear hHeld hK
      intro hHeld
      replace hS := Below.then hS hb
      clear hb
      generalize w1.alloc (.cells zR9 29) = w2 at *
      generalize w1.heap.size = gx at *
      (try simp only [Act.put, List.setIfInBounds_toArray, List.set_cons_zero, List.set_cons_succ])
      refine wpAnyH_ready (rs := [11]) (by kernel_rfl) (by simp) ?_
      refine AllReadyH.cons (by simp only [List.getElem?_toArray, List.getElem?_cons_zero, List.getElem?_cons_succ]; rfl) (fun K hK => ?_) AllReadyH.nil
      go_simp
      refine (kg x.dst w2).mono ?_
      rintro e w3 ⟨rfl, hb⟩
      replace hS := Below.then hS hb
      replace hz := stab_blk _ _ _ _ hz hb
      clear hb
      refine hK.out _ _ (hS) ?_
      clear hHeld hK
      intro hHeld
      (try simp only [Act.put, List.setIfInBounds_toArray, List.set_cons_zero, List.set_cons_succ])
      refine wpAnyH_take (i := 17) (v := ?_) (by simp only [List.getElem?_toArray, List.getElem?_cons_zero, List.getElem?_cons_succ]; rfl) (by kernel_rfl) (by kernel_rfl) (by kernel_rfl) (by exact fun _ _ _ h => h) (Or.inl ⟨by rfl, ?_⟩) (by assumption) ?_; rotate_left; (focus (intro w hSw; (try dsimp only at hSw); go_simp; try with_reducible rfl)); (try simp only [Act.put, List.setIfInBounds_toArray, List.set_cons_zero, List.set_cons_succ])
      refine wpAnyH_ready (rs := [19]) (by kernel_rfl) (by simp) ?_
      refine AllReadyH.cons (by simp only [List.getElem?_toArray, List.getElem?_cons_zero, List.getElem?_cons_succ]; rfl) (fun K hK => ?_) AllReadyH.nil
      obtain ⟨V9, hV9, hth9, hz9, hk9⟩ := mput_any hz (ds := g1.cs) rfl (by show 0 < 9; decide)
      have hS9 := hk9 _ _ hgx hS
      refine step_store_rowM rfl _ _ rfl gx rfl g1.cs hg1c.out hth9 hsz9 (mr_one _) hV9 ?_
      (try simp only [Act.put, List.setIfInBounds_toArray, List.set_cons_zero, List.set_cons_succ])
      refine hK.out _ _ (hS9) ?_
      clear hHeld hK
      intro hHeld
      replace hz := hz9
      replace hS := hS9
      clear hth9 hV9 hz9 hk9 hS9
      (try simp only [Act.put, List.setIfInBounds_toArray, List.set_cons_zero, List.set_cons_succ])
      refine wpAnyH_done (by kernel_rfl) ?_ _
      clear hHeld
      go_wp2_with fail
      go_meet
      exact ⟨gx, rfl, hz, hS, hgx⟩
    refine AllReadyH.cons (by simp only [List.getElem?_toArray, List.getElem?_cons_zero, List.getElem?_cons_succ]; rfl) (fun K hK => ?_) AllReadyH.nil
    have hb := alloc_below w0 (.cells zR9 29)
    have hz : BlkL w0.heap.size zeroR.cs (w0.alloc (.cells zR9 29)) := blkl_alloc w0 zR9 29
    have hgx : Z.heap.size ≤ w0.heap.size := hS.size
    refine step_allocM (z := zR9) rfl rfl (fun _ => rfl) ?_
    (try simp only [Act.put, List.setIfInBounds_toArray, List.set_cons_zero, List.set_cons_succ])
    refine hK.out _ _ (Below.then hS hb) ?_
    clear hHeld hK
    intro hHeld
    replace hS := Below.then hS hb
    clear hb
    generalize w0.alloc (.cells zR9 29) = w1 at *
    generalize w0.heap.size = gx at *
    (try simp only [Act.put, List.setIfInBounds_toArray, List.set_cons_zero, List.set_cons_succ])
    refine wpAnyH_ready (rs := [5]) (by kernel_rfl) (by simp) ?_
    refine AllReadyH.cons (by simp only [List.getElem?_toArray, List.getElem?_cons_zero, List.getElem?_cons_succ]; rfl) (fun K hK => ?_) AllReadyH.nil
    go_simp
    refine (kg x.src w1).mono ?_
    rintro e w2 ⟨rfl, hb⟩
    replace hS := Below.then hS hb
    replace hz := stab_blk _ _ _ _ hz hb
    clear hb
    refine hK.out _ _ (hS) ?_
    clear hHeld hK
    intro hHeld
    (try simp only [Act.put, List.setIfInBounds_toArray, List.set_cons_zero, List.set_cons_succ])
    refine wpAnyH_ready (rs := [11]) (by kernel_rfl) (by simp) ?_
    refine AllReadyH.cons (by simp only [List.getElem?_toArray, List.getElem?_cons_zero, List.getElem?_cons_succ]; rfl) (fun K hK => ?_) AllReadyH.nil
    go_simp
    refine (kg x.dst w2).mono ?_
    rintro e w3 ⟨rfl, hb⟩
    replace hS := Below.then hS hb
    replace hz := stab_blk _ _ _ _ hz hb
    clear hb
    refine hK.out _ _ (hS) ?_
    clear hHeld hK
    intro hHeld
    (try simp only [Act.put, List.setIfInBounds_toArray, List.set_cons_zero, List.set_cons_succ])
    refine wpAnyH_take (i := 17) (v := ?_) (by simp only [List.getElem?_toArray, List.getElem?_cons_zero, List.getElem?_cons_succ]; rfl) (by kernel_rfl) (by kernel_rfl) (by kernel_rfl) (by exact fun _ _ _ h => h) (Or.inl ⟨by rfl, ?_⟩) (by assumption) ?_; rotate_left; (focus (intro w hSw; (try dsimp only at hSw); go_simp; try with_reducible rfl)); (try simp only [Act.put, List.setIfInBounds_toArray, List.set_cons_zero, List.set_cons_succ])
    refine wpAnyH_ready (rs := [19]) (by kernel_rfl) (by simp) ?_
    refine AllReadyH.cons (by simp only [List.getElem?_toArray, List.getElem?_cons_zero, List.getElem?_cons_succ]; rfl) (fun K hK => ?_) AllReadyH.nil
    obtain ⟨V9, hV9, hth9, hz9, hk9⟩ := mput_any hz (ds := g1.cs) rfl (by show 0 < 9; decide)
    have hS9 := hk9 _ _ hgx hS
    refine step_store_rowM rfl _ _ rfl gx rfl g1.cs hg1c.out hth9 hsz9 (mr_one _) hV9 ?_
    (try simp only [Act.put, List.setIfInBounds_toArray, List.set_cons_zero, List.set_cons_succ])
    refine hK.out _ _ (hS9) ?_
    clear hHeld hK
    intro hHeld
    replace hz := hz9
    replace hS := hS9
    clear hth9 hV9 hz9 hk9 hS9
    (try simp only [Act.put, List.setIfInBounds_toArray, List.set_cons_zero, List.set_cons_succ])
    refine wpAnyH_done (by kernel_rfl) ?_ _
    clear hHeld
    go_wp2_with fail
    go_meet
    exact ⟨gx, rfl, hz, hS, hgx⟩
  case rest =>
  obtain ⟨gx, rfl, hbx, hBx, hgx⟩ := hcut
  obtain ⟨U, hU⟩ : ∃ U, wc = U := ⟨_, rfl⟩
  rw [hU] at hbx hBx ⊢
  clear hU hS hxs hxd q8 hg1c
  have hmu := stab_blk _ _ _ _ hmz hBx
  have hgm : w.heap.size ≠ gx := by have := hmz.2; omega
  go_upto_if 40 with fail
  go_cut [41] from 41 to 46 (fun s41 wd => BlkL gx (ruleI m k i x).cs wd ∧ Below Z.heap.size Z wd)
  · skip
    by_cases hik : (i : Int) = k
    · have hri : ruleI m k i x = ⟨m.lab, m.box, x.word⟩ := by unfold ruleI; rw [if_pos hik]
      rw [← hg1.out] at hbx
      subst hik
      go_upto_region 7 with fail
      have hS0 : Below U.heap.size U U.drew := (Below.refl _ _).drew
      have hbz := stab_blk _ _ _ _ hbx hS0
      have hS := stab_blk _ _ _ _ hmu hS0
      have hB7 := Below.then hBx hS0
      clear hbx hmu hBx hS0
      refine wp_region_held_drew (S := (fun W => BlkL w.heap.size M W)) (by kernel_rfl) (by exact hS) ?_
      intro hHeld
      generalize U.drew = w0 at *
      refine wpAnyH_take (i := 0) (v := ?_) (by simp only [List.getElem?_toArray, List.getElem?_cons_zero, List.getElem?_cons_succ]; rfl) (by kernel_rfl) (by kernel_rfl) (by kernel_rfl) (by exact fun _ _ _ h => h) (Or.inl ⟨by rfl, ?_⟩) (by assumption) ?_; rotate_left; (focus (intro w hSw; (try dsimp only at hSw); go_simp; try with_reducible rfl)); (try simp only [Act.put, List.setIfInBounds_toArray, List.set_cons_zero, List.set_cons_succ])
      refine wpAnyH_take (i := 1) (v := _) (by simp only [List.getElem?_toArray, List.getElem?_cons_zero, List.getElem?_cons_succ]; rfl) (by kernel_rfl) (by kernel_rfl) (by kernel_rfl) (by exact fun _ _ _ h => h) (yields_at (by rfl) _ rfl ⟨w.heap.size, 1, none⟩ rfl (lab4 m.lab) (fun W q => hls _ W q) hundL rfl (hszL m.lab)) (by assumption) ?_; (try simp only [Act.put, List.setIfInBounds_toArray, List.set_cons_zero, List.set_cons_succ])
      refine wpAnyH_take (i := 2) (v := ?_) (by simp only [List.getElem?_toArray, List.getElem?_cons_zero, List.getElem?_cons_succ]; rfl) (by kernel_rfl) (by kernel_rfl) (by kernel_rfl) (by exact fun _ _ _ h => h) (Or.inl ⟨by rfl, ?_⟩) (by assumption) ?_; rotate_left; (focus (intro w hSw; (try dsimp only at hSw); go_simp; try with_reducible rfl)); (try simp only [Act.put, List.setIfInBounds_toArray, List.set_cons_zero, List.set_cons_succ])
      refine wpAnyH_take (i := 3) (v := _) (by simp only [List.getElem?_toArray, List.getElem?_cons_zero, List.getElem?_cons_succ]; rfl) (by kernel_rfl) (by kernel_rfl) (by kernel_rfl) (by exact fun _ _ _ h => h) (yields_at (by rfl) _ rfl ⟨w.heap.size, 6, none⟩ rfl (lab4 m.box) (fun W q => hbs _ W q) hundL rfl (hszL m.box)) (by assumption) ?_; (try simp only [Act.put, List.setIfInBounds_toArray, List.set_cons_zero, List.set_cons_succ])
      refine wpAnyH_take (i := 4) (v := ?_) (by simp only [List.getElem?_toArray, List.getElem?_cons_zero, List.getElem?_cons_succ]; rfl) (by kernel_rfl) (by kernel_rfl) (by kernel_rfl) (by exact fun _ _ _ h => h) (Or.inl ⟨by rfl, ?_⟩) (by assumption) ?_; rotate_left; (focus (intro w hSw; (try dsimp only at hSw); go_simp; try with_reducible rfl)); (try simp only [Act.put, List.setIfInBounds_toArray, List.set_cons_zero, List.set_cons_succ])
      refine wpAnyH_ready (rs := [5]) (by kernel_rfl) (by simp) ?_
      refine AllReadyH.cons (by simp only [List.getElem?_toArray, List.getElem?_cons_zero, List.getElem?_cons_succ]; rfl) (fun K hK => ?_) AllReadyH.nil
      obtain ⟨V9, hV9, hth9, hm9, hB9⟩ := put_mid (Z := Z) hbz 0 (lab4 m.lab) (by show 0 + 4 ≤ 9; decide) (by show 0 < 9; decide) hB7 hgx
      replace hm9 : BlkL gx (MRul.mk m.lab (goodL x.dst) x.word).cs V9 := hm9
      have hs9 : BlkL w.heap.size M V9 := ⟨hS.1.same (by rw [← hV9]; exact heap_setCells_other hgm _ _ _), Nat.lt_of_lt_of_le hS.2 (by rw [← hV9]; exact (Below.cells (Nat.zero_le gx) _ _ (Below.refl 0 _)).size)⟩
      refine step_store_part rfl _ _ rfl gx 0 rfl (lab4 m.lab) rfl hth9 (hszL _) (lab4_one _) hV9 ?_
      (try simp only [Act.put, List.setIfInBounds_toArray, List.set_cons_zero, List.set_cons_succ])
      refine hK.out _ _ (hs9) ?_
      clear hHeld hK
      intro hHeld
      replace hbz := hm9
      replace hS := hs9
      replace hB7 := hB9
      clear hV9 hth9 hm9 hs9 hB9
      obtain ⟨w1, hw9⟩ : ∃ X, V9 = X := ⟨_, rfl⟩
      rw [hw9] at hbz hS hB7 ⊢
      rw [hw9] at hHeld
      clear hw9
      (try simp only [Act.put, List.setIfInBounds_toArray, List.set_cons_zero, List.set_cons_succ])
      refine wpAnyH_take (i := 6) (v := ?_) (by simp only [List.getElem?_toArray, List.getElem?_cons_zero, List.getElem?_cons_succ]; rfl) (by kernel_rfl) (by kernel_rfl) (by kernel_rfl) (by exact fun _ _ _ h => h) (Or.inl ⟨by rfl, ?_⟩) (by assumption) ?_; rotate_left; (focus (intro w hSw; (try dsimp only at hSw); go_simp; try with_reducible rfl)); (try simp only [Act.put, List.setIfInBounds_toArray, List.set_cons_zero, List.set_cons_succ])
      refine wpAnyH_ready (rs := [7]) (by kernel_rfl) (by simp) ?_
      refine AllReadyH.cons (by simp only [List.getElem?_toArray, List.getElem?_cons_zero, List.getElem?_cons_succ]; rfl) (fun K hK => ?_) AllReadyH.nil
      obtain ⟨V9, hV9, hth9, hm9, hB9⟩ := put_mid (Z := Z) hbz 4 (lab4 m.box) (by show 4 + 4 ≤ 9; decide) (by show 0 < 9; decide) hB7 hgx
      replace hm9 : BlkL gx (MRul.mk m.lab m.box x.word).cs V9 := hm9
      have hs9 : BlkL w.heap.size M V9 := ⟨hS.1.same (by rw [← hV9]; exact heap_setCells_other hgm _ _ _), Nat.lt_of_lt_of_le hS.2 (by rw [← hV9]; exact (Below.cells (Nat.zero_le gx) _ _ (Below.refl 0 _)).size)⟩
      refine step_store_part rfl _ _ rfl gx 4 rfl (lab4 m.box) rfl hth9 (hszL _) (lab4_one _) hV9 ?_
      (try simp only [Act.put, List.setIfInBounds_toArray, List.set_cons_zero, List.set_cons_succ])
      refine hK.out _ _ (hs9) ?_
      clear hHeld hK
      intro hHeld
      replace hbz := hm9
      replace hS := hs9
      replace hB7 := hB9
      clear hV9 hth9 hm9 hs9 hB9
      obtain ⟨w2, hw9⟩ : ∃ X, V9 = X := ⟨_, rfl⟩
      rw [hw9] at hbz hS hB7 ⊢
      rw [hw9] at hHeld
      clear hw9
      (try simp only [Act.put, List.setIfInBounds_toArray, List.set_cons_zero, List.set_cons_succ])
      refine wpAnyH_done (by kernel_rfl) ?_ _
      clear hHeld
      go_wp2_with fail
      go_meet
      exact ⟨by rw [hri]; exact hbz, hB7⟩
    · have hri : ruleI m k i x = g1 := by unfold ruleI; rw [if_neg hik]; exact hg1.out
      have f1 : ((i : Int) == k) = false := by simpa using hik
      go_wp2_with fail
      go_meet
      exact ⟨by rw [hri]; exact hbx, hBx⟩
  case rest =>
  obtain ⟨hbr, hBr⟩ := hcut
  obtain ⟨V, hV⟩ : ∃ V, wc = V := ⟨_, rfl⟩
  rw [hV] at hbr hBr ⊢
  clear hV hbx hBx hmu hg1
  obtain ⟨rx, hrx⟩ : ∃ rx, ruleI m k i x = rx := ⟨_, rfl⟩
  rw [hrx] at hnx hbr
  clear hrx
  have hor := ho.below hBr
  have hBV := Below.then hB hBr
  obtain ⟨v2, W2, hap, ho2, hg2⟩ := OwnR.push mr_ok hor hBV.size rx rx.cs.toArray rfl 29 (by omega)
  have hb2 := hor.grew_below hBV.size hg2
  rw [← hnx] at ho2
  obtain ⟨cs, hcs⟩ : ∃ cs, rx.cs = cs := ⟨_, rfl⟩
  have hlen : cs.length = 9 := by rw [← hcs]; rfl
  rw [hcs] at hbr hap
  have hszc : (Try.prog.info? 29).map (·.size) = some cs.length := by rw [hlen]; exact hsz9
  have hrr := hbr.range
  clear hcs hnx hbr hor ho hg2
  go_wp2_with (first | (refine wpList_load_row rfl _ rfl gx rfl cs hrr hund rfl hszc ?_) | (refine wpList_build1 mr_ok (by decide) rfl _ rfl cs rfl hlen ?_) | (refine wpList_append rfl _ _ rfl rfl rfl rfl hap ?_) | fail)
  exact ⟨⟨i + 1, v2, by omega, by omega, by simp, rfl, ho2, hBV.trans hb2⟩, by simp [Go.RowKit.intOf]; omega⟩
end Go.Proofs.Ytjpabjmicaopcaa
