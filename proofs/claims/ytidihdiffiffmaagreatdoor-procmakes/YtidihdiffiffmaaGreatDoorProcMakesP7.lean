/-
  PART 7 of what ProcMakes leans on: ProcMake PcMakes.
-/
import Derived.Deep.RegionHeld
import Derived.Test.YtidihdiffiffmaaGreatDoorProcMakesP6
namespace Go.Proofs.YtidihdiffiffmaaGreatDoor
open Go.RowKit
set_option maxRecDepth 8000
set_option linter.unusedSimpArgs false
set_option linter.unusedVariables false
abbrev ZN9 : Array Value := #[.string ⟨#[]⟩, .bool false, .int .i64 0, .int .i64 0, .int .i64 0, .int .i64 0, .slice none 0 0, .int .i64 0, .int .i64 0, .int .i64 0, .int .i64 0, .slice none 0 0, .int .i64 0, .int .i64 0, .int .i64 0, .int .i64 0]
theorem strM_load (w : World) (y : Addr) (v : Value) (h : w.cell? y = some v) : (Instr.loadAt 9 (.pointer (some y))).run Tryz.prog w = .ok v w := by
 have h1 := Tryz.underlying9
 go_simp
structure MK (b : Nat) (u : ByteArray) (t : Lab) (y : Addr) (p : ByteArray) (W : World) : Prop where
 sb : BlkL b (sbL u t) W
 px : W.cell? y = some (.string p)
theorem MK.then {b : Nat} {u : ByteArray} {t : Lab} {y : Addr} {p : ByteArray} {W W' : World} (h : MK b u t y p W) (k : Below W.heap.size W W') : MK b u t y p W' := ⟨stab_blk _ _ _ _ h.sb k, (k.cell (World.block_lt_of_cell? _ _ h.px)).trans h.px⟩
theorem appM {t : TypeId} {u v r : Value} {w w' : World} (x y : Operand) (hc : (Builtin.append_ #[t, t] t #[u, v]).run Tryz.prog w = .ok r w') {ops : Array Oper} {o : Oper} {rest : List Oper} {Q : Exit → Act → World → Prop} {a : Act} (h1 : o.guard = none) (h2 : o.op = .call { callee := .builtin .append, args := #[x, y], argTypes := #[t, t] }) (h3 : o.type = t) (h4 : a.eval x = u) (h5 : a.eval y = v) (h6 : wpList Tryz.prog ops Q rest (a.put o.dst r) w') : wpList Tryz.prog ops Q (o :: rest) a w := wpList_append h1 x y h2 h3 h4 h5 hc h6
theorem pR_build (va : Option Addr) (vn vc : Nat) (w : World) : (Instr.build 57 #[(0, .slice va vn vc), (1, .agg (stCs newC nilS).toArray)]).run Tryz.prog w = .ok (.agg (prL (.slice va vn vc) (stCs newC nilS)).toArray) w := by
 have h1 := Tryz.underlying57
 have h2 := Tryz.underlying55
 unfold stCs prL
 simp only [newC]
 go_simp
theorem pR_build0 (w : World) : (Instr.build 57 #[]).run Tryz.prog w = .ok (.agg (prL nilS (stCs zeroC nilS)).toArray) w := by
 have h1 := Tryz.underlying57
 show _ = Result.ok (Value.agg #[.slice none 0 0, .int .i64 0, .int .i64 0, .int .i64 0, .int .i64 0, .int .i64 0, .int .i64 0, .int .i64 0, .int .i64 0, .int .i64 0, .int .i64 0, .int .i64 0, .int .i64 0, .int .i64 0, .int .i64 0, .int .i64 0, .int .i64 0, .slice none 0 0, .bool false]) w
 go_simp
set_option maxRecDepth 8000 in
set_option maxHeartbeats 4000000 in
theorem rmake_any (a : Option Addr) (cap : Nat) (l : List PN) (u : ByteArray) (t : Lab) (ba : Option Addr) (bc : Nat) (bs : List ByteArray) (hl : l.length ≤ 100000) (hA : ∀ x ∈ l, chkA x.n.acl = 0) (hbs : bs.length ≤ 1000) (hps : ∀ p ∈ bs, p.size ≤ 100000) (w : World) (h : RowN w a l) (hRB : RowAt 1 scl w ba bs) (hnl : ba = none → bc = 0) :
    Calls Tryz.prog 13 #[.slice a l.length cap, .agg (sbL u t).toArray, .slice ba bs.length bc] w (MakeP bs (makeE (namesP l) u t bs) w) := by
 have hundS := Tryz.underlying60
 have hundP := Tryz.underlying57
 have hszP : (Tryz.prog.info? 57).map (·.size) = some 19 := by kernel_rfl
 have hss : (Tryz.prog.info? 60).map (·.size) = some (sbL u t).length := by kernel_rfl
 have f0 := blkl_alloc w (sbL u t).toArray 60
 have g0 := alloc_below w (.cells (sbL u t).toArray 60)
 have f1 := blkl_alloc (w.alloc (.cells (sbL u t).toArray 60)) (prL nilS (stCs zeroC nilS)).toArray 57
 have g1 := alloc_below (w.alloc (.cells (sbL u t).toArray 60)) (.cells (prL nilS (stCs zeroC nilS)).toArray 57)
 rw [World.size_alloc] at f1
 have kb := fun (W : World) p m hp r => rmay_any a cap l u t p m hl hp hA W r
 have kn := fun (W : World) => rnew_any W
 have hbd := pR_build
 have hbd0 := pR_build0
 have hb := stab_blk _ _ _ _ f0 g1
 have hB := Below.then g0 g1
 have hr : BlkL (w.heap.size + 1) (prL nilS (stCs zeroC nilS)) ((w.alloc (.cells (sbL u t).toArray 60)).alloc (.cells zPC 57)) := f1
 replace hb : BlkL w.heap.size (sbL u t) ((w.alloc (.cells (sbL u t).toArray 60)).alloc (.cells zPC 57)) := hb
 replace hB : Below w.heap.size w ((w.alloc (.cells (sbL u t).toArray 60)).alloc (.cells zPC 57)) := hB
 clear f0 f1 g0 g1
 unfold makeE
 obtain ⟨n, hn⟩ : ∃ n, l.length = n := ⟨_, rfl⟩
 obtain ⟨nb, hnb⟩ : ∃ nb, bs.length = nb := ⟨_, rfl⟩
 rw [hn] at kb ⊢
 rw [hnb] at hbs ⊢
 replace hn : Aside (l.length = n) := hn
 replace hnb : Aside (bs.length = nb) := hnb
 have hZP : ∀ W : World, BlkL (w.heap.size + 1) (prL nilS (stCs zeroC nilS)) W → ∃ W', W.setCells (w.heap.size + 1) 0 (prL nilS (stCs zeroC nilS)) = W' ∧ W.there (w.heap.size + 1) 0 (prL nilS (stCs zeroC nilS)).length ∧ W'.rangeAt (w.heap.size + 1) 0 (prL nilS (stCs zeroC nilS)) ∧ (Below w.heap.size w W → Below w.heap.size w W') := fun W q => by
  obtain ⟨W', q1, q2, q3, q4⟩ := put_any q (ds := prL nilS (stCs zeroC nilS)) rfl (by decide)
  exact ⟨W', q1, q2, q3.range, fun r => q4 _ _ (by omega) r⟩
 have hszZ : (Tryz.prog.info? 57).map (·.size) = some (prL nilS (stCs zeroC nilS)).length := hszP
 have honeZ : ∀ y ∈ prL nilS (stCs zeroC nilS), y.oneCell' = true := fun y hy => (List.mem_cons.1 hy).elim (fun q => by rw [q]; rfl) (fun q => st_one _ _ rfl y q)
 by_cases hbad : nb < 1 ∨ 4 < nb
 ·rw [if_pos hbad]
  obtain ⟨W9, hW9, hth9, hr9, hk9⟩ := hZP _ hr
  have hB9 := hk9 hB
  obtain ⟨Z, hZ⟩ : ∃ Z, prL nilS (stCs zeroC nilS) = Z := ⟨_, rfl⟩
  have hfin : ∀ W, Below w.heap.size w W → MakeP bs 1 w (.returned (.tuple #[.agg Z.toArray, .int .i64 1])) W := fun W q => ⟨q, fun _ => by rw [hZ], fun q => absurd q (by decide)⟩
  rw [hZ] at hW9 hth9 hr9 hszZ honeZ hbd0
  clear hZ hZP hk9
  go_enter Tryz.func13, Tryz.ntmps13
  go_upto_region 1 with fail
  generalize (w.alloc (.cells (sbL u t).toArray 60)).alloc (.cells zPC 57) = W0 at *
  by_cases h1 : nb < 1
  ·have i1 : (nb : Int) < 1 := by omega
   go_wp2_with (first | (refine wpList_buildv rfl _ rfl #[] (by simp [Act.eval]) (hbd0 _) ?_) | (refine wpList_store_row rfl _ _ rfl (w.heap.size + 1) rfl Z rfl hth9 hszZ honeZ hW9 ?_) | fail)
   refine bodyPost_ret (v := .tuple #[.agg Z.toArray, .int .i64 1]) (results_row2 rfl _ _ (w.heap.size + 1) rfl (.int .i64 1) rfl Z hr9 hundP rfl hszZ) rfl ?_
   exact hfin _ hB9
  ·have i1 : ¬ (nb : Int) < 1 := by omega
   have i2 : (4 : Int) < (nb : Int) := by omega
   go_wp2_with (first | (refine wpList_buildv rfl _ rfl #[] (by simp [Act.eval]) (hbd0 _) ?_) | (refine wpList_store_row rfl _ _ rfl (w.heap.size + 1) rfl Z rfl hth9 hszZ honeZ hW9 ?_) | fail)
   refine bodyPost_ret (v := .tuple #[.agg Z.toArray, .int .i64 1]) (results_row2 rfl _ _ (w.heap.size + 1) rfl (.int .i64 1) rfl Z hr9 hundP rfl hszZ) rfl ?_
   exact hfin _ hB9
 rw [if_neg hbad]
 have i1 : ¬ (nb : Int) < 1 := by omega
 have i2 : ¬ (4 : Int) < (nb : Int) := by omega
 obtain ⟨E, hE⟩ : ∃ E, goE (namesP l) u t 4 bs = E := ⟨_, rfl⟩
 rw [hE]
 have hE0 : Aside (goE (namesP l) u t (modeK 0) (bs.drop 0) = E) := hE
 clear hE
 go_enter Tryz.func13, Tryz.ntmps13
 go_upto_region 1 with fail
 generalize (w.alloc (.cells (sbL u t).toArray 60)).alloc (.cells zPC 57) = W0 at *
 go_upto_region 3 with fail
 go_wp2_with fail
 go_loopw [8] (fun t8 wr => ∃ k : Nat, k ≤ nb ∧ t8 = .int .i64 (k : Int) ∧ Aside (goE (namesP l) u t (modeK k) (bs.drop k) = E) ∧ BlkL w.heap.size (sbL u t) wr ∧ BlkL (w.heap.size + 1) (prL nilS (stCs zeroC nilS)) wr ∧ Below w.heap.size w wr) (fun t8 _ => nb - (Go.RowKit.intOf t8).toNat)
 case atStart => exact ⟨0, by omega, rfl, hE0, hb, hr, hB⟩
 case round =>
  clear hb hr hB hE0
  obtain ⟨k, hk, rfl, hE, hb, hr, hB⟩ := hrel
  by_cases hlt : k < nb
  ·obtain ⟨p, hp⟩ : ∃ p, bs[k]? = some p := ⟨_, List.getElem?_eq_getElem (by rw [hnb.out]; exact hlt)⟩
   have hpz := hps p (List.mem_of_getElem? hp)
   obtain ⟨y, rfl, hyc⟩ := (hRB.below scl_ok.len hB) k p hp
   have hy0 : wr.cell? (y.add k) = some (.string p) := by
    have := hyc 0 (by decide)
    rw [Nat.mul_one, Nat.add_zero] at this
    exact this
   have hyb : y.block < w.heap.size := by
    obtain ⟨y2, hy2, hc2⟩ := hRB k p hp
    injection hy2 with hy2
    have h3 := World.block_lt_of_cell? _ _ (by
     have := hc2 0 (by decide)
     rw [Nat.mul_one, Nat.add_zero] at this
     exact this : w.cell? (y2.add k) = some (.string p))
    rw [addC_block] at h3
    rw [hy2]
    exact h3
   have hE1 := hE.out
   rw [goE_at hp] at hE1
   have km := fun (W : World) r => kb W p (modeK k) hpz r
   obtain ⟨M, hM⟩ : ∃ M, modeK k = M := ⟨_, rfl⟩
   rw [hM] at km hE1
   obtain ⟨M1, hM1⟩ : ∃ M1, mayE (namesP l) u t p M = M1 := ⟨_, rfl⟩
   rw [hM1] at km
   obtain ⟨T, hT⟩ : ∃ T, toldP l p M1 = T := ⟨_, rfl⟩
   have hTd : M1 = 0 → T.n.dir = (gotN (namesP l) p).dir := fun q => by
    rw [← hT, told_names]
    unfold toldN gotN
    rw [if_pos q]
   rw [hT] at km
   replace hM1 : Aside _ := hM1
   have hszT : (Tryz.prog.info? 36).map (·.size) = some T.cs.length := by rw [pn_len]; kernel_rfl
   have hone : ∀ v ∈ T.cs, v.oneCell' = true := pn_one T
   have h1c : T.cs[1]? = some (.bool T.n.dir) := rfl
   have hMd : (k = 0 ∧ M = 4) ∨ (k ≠ 0 ∧ M = 1) := by
    rw [← hM]
    unfold modeK
    by_cases q : k = 0
    ·exact .inl ⟨q, if_pos q⟩
    ·exact .inr ⟨q, if_neg q⟩
   have hrow := h.below hB
   clear hyc hM hT hE
   have hi0 : ¬ (k : Int) < 0 := by omega
   have hi1 : (k : Int) < (nb : Int) := by omega
   rcases hMd with ⟨q1, q2⟩ | ⟨q1, q2⟩
   ·subst q2
    have q3 : ((k : Int) == 0) = true := by rw [q1]; rfl
    clear q1
    go_upto_region 9 with fail
    obtain ⟨W5, hW5⟩ : ∃ W5, W5 = wr := ⟨_, rfl⟩
    rw [← hW5] at hb hr hB hrow hy0 ⊢
    clear hW5
    have hdr : Below W5.heap.size W5 W5.drew := (Below.refl _ _).drew
    have hS : MK w.heap.size u t (y.add k) p W5.drew := (MK.mk hb hy0 : MK w.heap.size u t (y.add k) p W5).then hdr
    replace hr : BlkL (w.heap.size + 1) (prL nilS (stCs zeroC nilS)) W5.drew := stab_blk _ _ _ _ hr hdr
    replace hB : Below w.heap.size w W5.drew := hB.drew
    replace hrow : RowN W5.drew a l := hrow.below hdr
    have hS0 := hS
    clear hdr hb hy0 kb
    refine wp_region_held_drew (S := (fun W => MK w.heap.size u t (y.add k) p W)) (by kernel_rfl) (by exact hS) ?_
    intro hHeld
    generalize W5.drew = w0 at *
    refine tkA 0 ?_
    refine tkB 1 (y := yieldsIf_load_mid (by rfl) 60 _ rfl w.heap.size 0 rfl (sbL u t) _ (fun W s => s.sb.range) hundS rfl hss) (h := ?_)
    refine tkA 2 ?_
    refine tkA 3 ?_
    refine tkA 4 ?_
    refine tkB 5 (y := yields_cellI (by rfl) _ rfl (y.add k) rfl (.string p) (fun _ s => s.px) strM_load) (h := ?_)
    refine tkA 6 ?_
    refine tkR (rs := [7, 11]) ?_
    refine tkC (fun K hK => ?_) ?_
    ·go_simp
     go_at_call 31
     refine (km w0 hrow).mono ?_
     rintro e w1 ⟨rfl, hb⟩
     replace hS := hS.then hb
     replace hr := stab_blk _ _ _ _ hr hb
     replace hB := Below.then hB hb
     clear hb
     refine hK.out _ _ (hS) ?_
     clear hHeld hK
     intro hHeld
     (try simp only [Act.put, zsA, zsB, zsC])
     refine tkA 8 ?_
     refine tkA 9 ?_
     refine tkA 10 ?_
     refine tkR (rs := [11]) ?_
     refine tkC (fun K hK => ?_) AllReadyH.nil
     have hb := alloc_below w1 (.cells ZN9 36)
     refine step_allocC (z := ZN9) rfl rfl (fun _ => rfl) ?_
     (try simp only [Act.put, zsA, zsB, zsC])
     refine hK.out _ _ (hS.then hb) ?_
     clear hHeld hK
     intro hHeld
     have hg : BlkL w1.heap.size zeroP.cs (w1.alloc (.cells ZN9 36)) := blkl_alloc w1 ZN9 36
     have hga : w.heap.size + 1 < w1.heap.size := hr.2
     replace hS := hS.then hb
     replace hr := stab_blk _ _ _ _ hr hb
     replace hB := Below.then hB hb
     generalize w1.alloc (.cells ZN9 36) = w2 at *
     generalize w1.heap.size = gN at *
     clear hb
     (try simp only [Act.put, zsA, zsB, zsC])
     refine tkR (rs := [12]) ?_
     refine tkC (fun K hK => ?_) AllReadyH.nil
     obtain ⟨V9, hV9, hth9, hgn, hb9⟩ := put_any hg (ds := T.cs) (by rw [pn_len]; rfl) (by rw [pn_len]; decide)
     refine step_store_rowC rfl _ _ rfl gN rfl T.cs rfl hth9 hszT hone hV9 ?_
     (try simp only [Act.put, zsA, zsB, zsC])
     have hk9 : ∀ j, j ≠ gN → V9.heap[j]? = w2.heap[j]? := fun j hj => by rw [← hV9]; exact heap_setCells_other hj _ _ _
     have hs9 : w2.heap.size ≤ V9.heap.size := (hb9 0 w2 (Nat.zero_le _) (Below.refl _ _)).size
     replace hB := hb9 _ _ (by omega) hB
     replace hr : BlkL (w.heap.size + 1) (prL nilS (stCs zeroC nilS)) V9 := ⟨hr.1.same (hk9 _ (by omega)), Nat.lt_of_lt_of_le hr.2 hs9⟩
     replace hS : MK w.heap.size u t (y.add k) p V9 := ⟨⟨hS.sb.1.same (hk9 _ (by omega)), Nat.lt_of_lt_of_le hS.sb.2 hs9⟩, (World.cell?_of_block (a := y.add k) (hk9 _ (by rw [addC_block]; omega))).trans hS.px⟩
     replace hg := hgn
     clear hgn hth9 hV9 hb9 hk9 hs9
     refine hK.out _ _ (hS) ?_
     clear hHeld hK
     intro hHeld
     (try simp only [Act.put, zsA, zsB, zsC])
     refine tkA 13 ?_
     refine wpAnyH_done (by kernel_rfl) ?_ _
     clear hHeld hS0
     have hdir := (hg.1 1 (.bool T.n.dir) h1c).1
     go_upto_region 10 with fail
     by_cases h0 : M1 = 0
     ·subst h0
      have hdd := hTd rfl
      cases hd : T.n.dir
      ·have hb0 : bindE (namesP l) u t p 4 = 0 := by
         unfold bindE
         rw [hM1.out, if_neg (by decide), ← hdd, hd]
         rfl
       rw [hd] at hdir
       rw [hb0, if_neg (by decide)] at hE1
       replace hE1 : Aside _ := hE1
       clear hdd hTd hg
       go_wp2_with fail
       exact ⟨⟨k + 1, by omega, by simp, hE1, hS.sb, hr, hB⟩, by simp [Go.RowKit.intOf]; omega⟩
      ·have hb0 : bindE (namesP l) u t p 4 = 3 := by
         unfold bindE
         rw [hM1.out, if_neg (by decide), ← hdd, hd]
         rfl
       rw [hd] at hdir
       rw [hb0, if_pos (by decide)] at hE1
       subst hE1
       obtain ⟨W9, hW9, hth9, hr9, hk9⟩ := hZP _ hr
       have hB9 := hk9 hB
       obtain ⟨Z, hZ⟩ : ∃ Z, prL nilS (stCs zeroC nilS) = Z := ⟨_, rfl⟩
       have hfin : ∀ W, Below w.heap.size w W → MakeP bs 3 w (.returned (.tuple #[.agg Z.toArray, .int .i64 3])) W := fun W q => ⟨q, fun _ => by rw [hZ], fun q => absurd q (by decide)⟩
       rw [hZ] at hW9 hth9 hr9 hszZ honeZ hbd0
       clear hZ hZP hk9 hr hB hS hdd hTd hg
       go_wp2_with (first | (refine wpList_buildv rfl _ rfl #[] (by simp [Act.eval]) (hbd0 _) ?_) | (refine wpList_store_row rfl _ _ rfl (w.heap.size + 1) rfl Z rfl hth9 hszZ honeZ hW9 ?_) | fail)
       refine bodyPost_ret (v := .tuple #[.agg Z.toArray, .int .i64 3]) (results_row2 rfl _ _ (w.heap.size + 1) rfl (.int .i64 3) rfl Z hr9 hundP rfl hszZ) rfl ?_
       exact hfin _ hB9
     ·have hb0 : bindE (namesP l) u t p 4 = M1 := by
       unfold bindE
       rw [hM1.out, if_pos h0]
      rw [hb0, if_pos h0] at hE1
      subst hE1
      have hq : (M1 != 0) = true := by simpa using h0
      obtain ⟨W9, hW9, hth9, hr9, hk9⟩ := hZP _ hr
      have hB9 := hk9 hB
      obtain ⟨Z, hZ⟩ : ∃ Z, prL nilS (stCs zeroC nilS) = Z := ⟨_, rfl⟩
      have hfin : ∀ W, Below w.heap.size w W → MakeP bs M1 w (.returned (.tuple #[.agg Z.toArray, .int .i64 M1])) W := fun W q => ⟨q, fun _ => by rw [hZ], fun q => absurd q h0⟩
      rw [hZ] at hW9 hth9 hr9 hszZ honeZ hbd0
      clear hZ hZP hk9 hr hB hS hTd hg hdir
      go_wp2_with (first | (refine wpList_buildv rfl _ rfl #[] (by simp [Act.eval]) (hbd0 _) ?_) | (refine wpList_store_row rfl _ _ rfl (w.heap.size + 1) rfl Z rfl hth9 hszZ honeZ hW9 ?_) | fail)
      refine bodyPost_ret (v := .tuple #[.agg Z.toArray, .int .i64 M1]) (results_row2 rfl _ _ (w.heap.size + 1) rfl (.int .i64 M1) rfl Z hr9 hundP rfl hszZ) rfl ?_
      exact hfin _ hB9
    refine tkC (fun K hK => ?_) AllReadyH.nil
    have hb := alloc_below w0 (.cells ZN9 36)
    refine step_allocC (z := ZN9) rfl rfl (fun _ => rfl) ?_
    (try simp only [Act.put, zsA, zsB, zsC])
    refine hK.out _ _ (hS.then hb) ?_
    clear hHeld hK
    intro hHeld
    have hg : BlkL w0.heap.size zeroP.cs (w0.alloc (.cells ZN9 36)) := blkl_alloc w0 ZN9 36
    have hga : w.heap.size + 1 < w0.heap.size := hr.2
    replace hS := hS.then hb
    replace hr := stab_blk _ _ _ _ hr hb
    replace hB := Below.then hB hb
    replace hrow := hrow.below hb
    generalize w0.alloc (.cells ZN9 36) = w1 at *
    generalize w0.heap.size = gN at *
    clear hb
    (try simp only [Act.put, zsA, zsB, zsC])
    refine tkR (rs := [7]) ?_
    refine tkC (fun K hK => ?_) AllReadyH.nil
    go_simp
    go_at_call 31
    refine (km w1 hrow).mono ?_
    rintro e w2 ⟨rfl, hb⟩
    replace hS := hS.then hb
    replace hr := stab_blk _ _ _ _ hr hb
    replace hB := Below.then hB hb
    replace hg := stab_blk _ _ _ _ hg hb
    clear hb
    refine hK.out _ _ (hS) ?_
    clear hHeld hK
    intro hHeld
    (try simp only [Act.put, zsA, zsB, zsC])
    refine tkA 8 ?_
    refine tkA 9 ?_
    refine tkA 10 ?_
    refine tkR (rs := [12]) ?_
    refine tkC (fun K hK => ?_) AllReadyH.nil
    obtain ⟨V9, hV9, hth9, hgn, hb9⟩ := put_any hg (ds := T.cs) (by rw [pn_len]; rfl) (by rw [pn_len]; decide)
    refine step_store_rowC rfl _ _ rfl gN rfl T.cs rfl hth9 hszT hone hV9 ?_
    (try simp only [Act.put, zsA, zsB, zsC])
    have hk9 : ∀ j, j ≠ gN → V9.heap[j]? = w2.heap[j]? := fun j hj => by rw [← hV9]; exact heap_setCells_other hj _ _ _
    have hs9 : w2.heap.size ≤ V9.heap.size := (hb9 0 w2 (Nat.zero_le _) (Below.refl _ _)).size
    replace hB := hb9 _ _ (by omega) hB
    replace hr : BlkL (w.heap.size + 1) (prL nilS (stCs zeroC nilS)) V9 := ⟨hr.1.same (hk9 _ (by omega)), Nat.lt_of_lt_of_le hr.2 hs9⟩
    replace hS : MK w.heap.size u t (y.add k) p V9 := ⟨⟨hS.sb.1.same (hk9 _ (by omega)), Nat.lt_of_lt_of_le hS.sb.2 hs9⟩, (World.cell?_of_block (a := y.add k) (hk9 _ (by rw [addC_block]; omega))).trans hS.px⟩
    replace hg := hgn
    clear hgn hth9 hV9 hb9 hk9 hs9
    refine hK.out _ _ (hS) ?_
    clear hHeld hK
    intro hHeld
    (try simp only [Act.put, zsA, zsB, zsC])
    refine tkA 13 ?_
    refine wpAnyH_done (by kernel_rfl) ?_ _
    clear hHeld hS0
    have hdir := (hg.1 1 (.bool T.n.dir) h1c).1
    go_upto_region 10 with fail
    by_cases h0 : M1 = 0
    ·subst h0
     have hdd := hTd rfl
     cases hd : T.n.dir
     ·have hb0 : bindE (namesP l) u t p 4 = 0 := by
       unfold bindE
       rw [hM1.out, if_neg (by decide), ← hdd, hd]
       rfl
      rw [hd] at hdir
      rw [hb0, if_neg (by decide)] at hE1
      replace hE1 : Aside _ := hE1
      clear hdd hTd hg
      go_wp2_with fail
      exact ⟨⟨k + 1, by omega, by simp, hE1, hS.sb, hr, hB⟩, by simp [Go.RowKit.intOf]; omega⟩
     ·have hb0 : bindE (namesP l) u t p 4 = 3 := by
       unfold bindE
       rw [hM1.out, if_neg (by decide), ← hdd, hd]
       rfl
      rw [hd] at hdir
      rw [hb0, if_pos (by decide)] at hE1
      subst hE1
      obtain ⟨W9, hW9, hth9, hr9, hk9⟩ := hZP _ hr
      have hB9 := hk9 hB
      obtain ⟨Z, hZ⟩ : ∃ Z, prL nilS (stCs zeroC nilS) = Z := ⟨_, rfl⟩
      have hfin : ∀ W, Below w.heap.size w W → MakeP bs 3 w (.returned (.tuple #[.agg Z.toArray, .int .i64 3])) W := fun W q => ⟨q, fun _ => by rw [hZ], fun q => absurd q (by decide)⟩
      rw [hZ] at hW9 hth9 hr9 hszZ honeZ hbd0
      clear hZ hZP hk9 hr hB hS hdd hTd hg
      go_wp2_with (first | (refine wpList_buildv rfl _ rfl #[] (by simp [Act.eval]) (hbd0 _) ?_) | (refine wpList_store_row rfl _ _ rfl (w.heap.size + 1) rfl Z rfl hth9 hszZ honeZ hW9 ?_) | fail)
      refine bodyPost_ret (v := .tuple #[.agg Z.toArray, .int .i64 3]) (results_row2 rfl _ _ (w.heap.size + 1) rfl (.int .i64 3) rfl Z hr9 hundP rfl hszZ) rfl ?_
      exact hfin _ hB9
    ·have hb0 : bindE (namesP l) u t p 4 = M1 := by
      unfold bindE
      rw [hM1.out, if_pos h0]
     rw [hb0, if_pos h0] at hE1
     subst hE1
     have hq : (M1 != 0) = true := by simpa using h0
     obtain ⟨W9, hW9, hth9, hr9, hk9⟩ := hZP _ hr
     have hB9 := hk9 hB
     obtain ⟨Z, hZ⟩ : ∃ Z, prL nilS (stCs zeroC nilS) = Z := ⟨_, rfl⟩
     have hfin : ∀ W, Below w.heap.size w W → MakeP bs M1 w (.returned (.tuple #[.agg Z.toArray, .int .i64 M1])) W := fun W q => ⟨q, fun _ => by rw [hZ], fun q => absurd q h0⟩
     rw [hZ] at hW9 hth9 hr9 hszZ honeZ hbd0
     clear hZ hZP hk9 hr hB hS hTd hg hdir
     go_wp2_with (first | (refine wpList_buildv rfl _ rfl #[] (by simp [Act.eval]) (hbd0 _) ?_) | (refine wpList_store_row rfl _ _ rfl (w.heap.size + 1) rfl Z rfl hth9 hszZ honeZ hW9 ?_) | fail)
     refine bodyPost_ret (v := .tuple #[.agg Z.toArray, .int .i64 M1]) (results_row2 rfl _ _ (w.heap.size + 1) rfl (.int .i64 M1) rfl Z hr9 hundP rfl hszZ) rfl ?_
     exact hfin _ hB9
   ·subst q2
    have q3 : ((k : Int) == 0) = false := by
     have : (k : Int) ≠ 0 := by omega
     simpa using this
    clear q1
    go_upto_region 9 with fail
    obtain ⟨W5, hW5⟩ : ∃ W5, W5 = wr := ⟨_, rfl⟩
    rw [← hW5] at hb hr hB hrow hy0 ⊢
    clear hW5
    have hdr : Below W5.heap.size W5 W5.drew := (Below.refl _ _).drew
    have hS : MK w.heap.size u t (y.add k) p W5.drew := (MK.mk hb hy0 : MK w.heap.size u t (y.add k) p W5).then hdr
    replace hr : BlkL (w.heap.size + 1) (prL nilS (stCs zeroC nilS)) W5.drew := stab_blk _ _ _ _ hr hdr
    replace hB : Below w.heap.size w W5.drew := hB.drew
    replace hrow : RowN W5.drew a l := hrow.below hdr
    have hS0 := hS
    clear hdr hb hy0 kb
    refine wp_region_held_drew (S := (fun W => MK w.heap.size u t (y.add k) p W)) (by kernel_rfl) (by exact hS) ?_
    intro hHeld
    generalize W5.drew = w0 at *
    refine tkA 0 ?_
    refine tkB 1 (y := yieldsIf_load_mid (by rfl) 60 _ rfl w.heap.size 0 rfl (sbL u t) _ (fun W s => s.sb.range) hundS rfl hss) (h := ?_)
    refine tkA 2 ?_
    refine tkA 3 ?_
    refine tkA 4 ?_
    refine tkB 5 (y := yields_cellI (by rfl) _ rfl (y.add k) rfl (.string p) (fun _ s => s.px) strM_load) (h := ?_)
    refine tkA 6 ?_
    refine tkR (rs := [7, 11]) ?_
    refine tkC (fun K hK => ?_) ?_
    ·go_simp
     go_at_call 31
     refine (km w0 hrow).mono ?_
     rintro e w1 ⟨rfl, hb⟩
     replace hS := hS.then hb
     replace hr := stab_blk _ _ _ _ hr hb
     replace hB := Below.then hB hb
     clear hb
     refine hK.out _ _ (hS) ?_
     clear hHeld hK
     intro hHeld
     (try simp only [Act.put, zsA, zsB, zsC])
     refine tkA 8 ?_
     refine tkA 9 ?_
     refine tkA 10 ?_
     refine tkR (rs := [11]) ?_
     refine tkC (fun K hK => ?_) AllReadyH.nil
     have hb := alloc_below w1 (.cells ZN9 36)
     refine step_allocC (z := ZN9) rfl rfl (fun _ => rfl) ?_
     (try simp only [Act.put, zsA, zsB, zsC])
     refine hK.out _ _ (hS.then hb) ?_
     clear hHeld hK
     intro hHeld
     have hg : BlkL w1.heap.size zeroP.cs (w1.alloc (.cells ZN9 36)) := blkl_alloc w1 ZN9 36
     have hga : w.heap.size + 1 < w1.heap.size := hr.2
     replace hS := hS.then hb
     replace hr := stab_blk _ _ _ _ hr hb
     replace hB := Below.then hB hb
     generalize w1.alloc (.cells ZN9 36) = w2 at *
     generalize w1.heap.size = gN at *
     clear hb
     (try simp only [Act.put, zsA, zsB, zsC])
     refine tkR (rs := [12]) ?_
     refine tkC (fun K hK => ?_) AllReadyH.nil
     obtain ⟨V9, hV9, hth9, hgn, hb9⟩ := put_any hg (ds := T.cs) (by rw [pn_len]; rfl) (by rw [pn_len]; decide)
     refine step_store_rowC rfl _ _ rfl gN rfl T.cs rfl hth9 hszT hone hV9 ?_
     (try simp only [Act.put, zsA, zsB, zsC])
     have hk9 : ∀ j, j ≠ gN → V9.heap[j]? = w2.heap[j]? := fun j hj => by rw [← hV9]; exact heap_setCells_other hj _ _ _
     have hs9 : w2.heap.size ≤ V9.heap.size := (hb9 0 w2 (Nat.zero_le _) (Below.refl _ _)).size
     replace hB := hb9 _ _ (by omega) hB
     replace hr : BlkL (w.heap.size + 1) (prL nilS (stCs zeroC nilS)) V9 := ⟨hr.1.same (hk9 _ (by omega)), Nat.lt_of_lt_of_le hr.2 hs9⟩
     replace hS : MK w.heap.size u t (y.add k) p V9 := ⟨⟨hS.sb.1.same (hk9 _ (by omega)), Nat.lt_of_lt_of_le hS.sb.2 hs9⟩, (World.cell?_of_block (a := y.add k) (hk9 _ (by rw [addC_block]; omega))).trans hS.px⟩
     replace hg := hgn
     clear hgn hth9 hV9 hb9 hk9 hs9
     refine hK.out _ _ (hS) ?_
     clear hHeld hK
     intro hHeld
     (try simp only [Act.put, zsA, zsB, zsC])
     refine tkA 13 ?_
     refine wpAnyH_done (by kernel_rfl) ?_ _
     clear hHeld hS0
     have hdir := (hg.1 1 (.bool T.n.dir) h1c).1
     go_upto_region 10 with fail
     by_cases h0 : M1 = 0
     ·subst h0
      have hdd := hTd rfl
      cases hd : T.n.dir
      ·have hb0 : bindE (namesP l) u t p 1 = 0 := by
         unfold bindE
         rw [hM1.out, if_neg (by decide), ← hdd, hd]
         rfl
       rw [hd] at hdir
       rw [hb0, if_neg (by decide)] at hE1
       replace hE1 : Aside _ := hE1
       clear hdd hTd hg
       go_wp2_with fail
       exact ⟨⟨k + 1, by omega, by simp, hE1, hS.sb, hr, hB⟩, by simp [Go.RowKit.intOf]; omega⟩
      ·have hb0 : bindE (namesP l) u t p 1 = 3 := by
         unfold bindE
         rw [hM1.out, if_neg (by decide), ← hdd, hd]
         rfl
       rw [hd] at hdir
       rw [hb0, if_pos (by decide)] at hE1
       subst hE1
       obtain ⟨W9, hW9, hth9, hr9, hk9⟩ := hZP _ hr
       have hB9 := hk9 hB
       obtain ⟨Z, hZ⟩ : ∃ Z, prL nilS (stCs zeroC nilS) = Z := ⟨_, rfl⟩
       have hfin : ∀ W, Below w.heap.size w W → MakeP bs 3 w (.returned (.tuple #[.agg Z.toArray, .int .i64 3])) W := fun W q => ⟨q, fun _ => by rw [hZ], fun q => absurd q (by decide)⟩
       rw [hZ] at hW9 hth9 hr9 hszZ honeZ hbd0
       clear hZ hZP hk9 hr hB hS hdd hTd hg
       go_wp2_with (first | (refine wpList_buildv rfl _ rfl #[] (by simp [Act.eval]) (hbd0 _) ?_) | (refine wpList_store_row rfl _ _ rfl (w.heap.size + 1) rfl Z rfl hth9 hszZ honeZ hW9 ?_) | fail)
       refine bodyPost_ret (v := .tuple #[.agg Z.toArray, .int .i64 3]) (results_row2 rfl _ _ (w.heap.size + 1) rfl (.int .i64 3) rfl Z hr9 hundP rfl hszZ) rfl ?_
       exact hfin _ hB9
     ·have hb0 : bindE (namesP l) u t p 1 = M1 := by
       unfold bindE
       rw [hM1.out, if_pos h0]
      rw [hb0, if_pos h0] at hE1
      subst hE1
      have hq : (M1 != 0) = true := by simpa using h0
      obtain ⟨W9, hW9, hth9, hr9, hk9⟩ := hZP _ hr
      have hB9 := hk9 hB
      obtain ⟨Z, hZ⟩ : ∃ Z, prL nilS (stCs zeroC nilS) = Z := ⟨_, rfl⟩
      have hfin : ∀ W, Below w.heap.size w W → MakeP bs M1 w (.returned (.tuple #[.agg Z.toArray, .int .i64 M1])) W := fun W q => ⟨q, fun _ => by rw [hZ], fun q => absurd q h0⟩
      rw [hZ] at hW9 hth9 hr9 hszZ honeZ hbd0
      clear hZ hZP hk9 hr hB hS hTd hg hdir
      go_wp2_with (first | (refine wpList_buildv rfl _ rfl #[] (by simp [Act.eval]) (hbd0 _) ?_) | (refine wpList_store_row rfl _ _ rfl (w.heap.size + 1) rfl Z rfl hth9 hszZ honeZ hW9 ?_) | fail)
      refine bodyPost_ret (v := .tuple #[.agg Z.toArray, .int .i64 M1]) (results_row2 rfl _ _ (w.heap.size + 1) rfl (.int .i64 M1) rfl Z hr9 hundP rfl hszZ) rfl ?_
      exact hfin _ hB9
    refine tkC (fun K hK => ?_) AllReadyH.nil
    have hb := alloc_below w0 (.cells ZN9 36)
    refine step_allocC (z := ZN9) rfl rfl (fun _ => rfl) ?_
    (try simp only [Act.put, zsA, zsB, zsC])
    refine hK.out _ _ (hS.then hb) ?_
    clear hHeld hK
    intro hHeld
    have hg : BlkL w0.heap.size zeroP.cs (w0.alloc (.cells ZN9 36)) := blkl_alloc w0 ZN9 36
    have hga : w.heap.size + 1 < w0.heap.size := hr.2
    replace hS := hS.then hb
    replace hr := stab_blk _ _ _ _ hr hb
    replace hB := Below.then hB hb
    replace hrow := hrow.below hb
    generalize w0.alloc (.cells ZN9 36) = w1 at *
    generalize w0.heap.size = gN at *
    clear hb
    (try simp only [Act.put, zsA, zsB, zsC])
    refine tkR (rs := [7]) ?_
    refine tkC (fun K hK => ?_) AllReadyH.nil
    go_simp
    go_at_call 31
    refine (km w1 hrow).mono ?_
    rintro e w2 ⟨rfl, hb⟩
    replace hS := hS.then hb
    replace hr := stab_blk _ _ _ _ hr hb
    replace hB := Below.then hB hb
    replace hg := stab_blk _ _ _ _ hg hb
    clear hb
    refine hK.out _ _ (hS) ?_
    clear hHeld hK
    intro hHeld
    (try simp only [Act.put, zsA, zsB, zsC])
    refine tkA 8 ?_
    refine tkA 9 ?_
    refine tkA 10 ?_
    refine tkR (rs := [12]) ?_
    refine tkC (fun K hK => ?_) AllReadyH.nil
    obtain ⟨V9, hV9, hth9, hgn, hb9⟩ := put_any hg (ds := T.cs) (by rw [pn_len]; rfl) (by rw [pn_len]; decide)
    refine step_store_rowC rfl _ _ rfl gN rfl T.cs rfl hth9 hszT hone hV9 ?_
    (try simp only [Act.put, zsA, zsB, zsC])
    have hk9 : ∀ j, j ≠ gN → V9.heap[j]? = w2.heap[j]? := fun j hj => by rw [← hV9]; exact heap_setCells_other hj _ _ _
    have hs9 : w2.heap.size ≤ V9.heap.size := (hb9 0 w2 (Nat.zero_le _) (Below.refl _ _)).size
    replace hB := hb9 _ _ (by omega) hB
    replace hr : BlkL (w.heap.size + 1) (prL nilS (stCs zeroC nilS)) V9 := ⟨hr.1.same (hk9 _ (by omega)), Nat.lt_of_lt_of_le hr.2 hs9⟩
    replace hS : MK w.heap.size u t (y.add k) p V9 := ⟨⟨hS.sb.1.same (hk9 _ (by omega)), Nat.lt_of_lt_of_le hS.sb.2 hs9⟩, (World.cell?_of_block (a := y.add k) (hk9 _ (by rw [addC_block]; omega))).trans hS.px⟩
    replace hg := hgn
    clear hgn hth9 hV9 hb9 hk9 hs9
    refine hK.out _ _ (hS) ?_
    clear hHeld hK
    intro hHeld
    (try simp only [Act.put, zsA, zsB, zsC])
    refine tkA 13 ?_
    refine wpAnyH_done (by kernel_rfl) ?_ _
    clear hHeld hS0
    have hdir := (hg.1 1 (.bool T.n.dir) h1c).1
    go_upto_region 10 with fail
    by_cases h0 : M1 = 0
    ·subst h0
     have hdd := hTd rfl
     cases hd : T.n.dir
     ·have hb0 : bindE (namesP l) u t p 1 = 0 := by
       unfold bindE
       rw [hM1.out, if_neg (by decide), ← hdd, hd]
       rfl
      rw [hd] at hdir
      rw [hb0, if_neg (by decide)] at hE1
      replace hE1 : Aside _ := hE1
      clear hdd hTd hg
      go_wp2_with fail
      exact ⟨⟨k + 1, by omega, by simp, hE1, hS.sb, hr, hB⟩, by simp [Go.RowKit.intOf]; omega⟩
     ·have hb0 : bindE (namesP l) u t p 1 = 3 := by
       unfold bindE
       rw [hM1.out, if_neg (by decide), ← hdd, hd]
       rfl
      rw [hd] at hdir
      rw [hb0, if_pos (by decide)] at hE1
      subst hE1
      obtain ⟨W9, hW9, hth9, hr9, hk9⟩ := hZP _ hr
      have hB9 := hk9 hB
      obtain ⟨Z, hZ⟩ : ∃ Z, prL nilS (stCs zeroC nilS) = Z := ⟨_, rfl⟩
      have hfin : ∀ W, Below w.heap.size w W → MakeP bs 3 w (.returned (.tuple #[.agg Z.toArray, .int .i64 3])) W := fun W q => ⟨q, fun _ => by rw [hZ], fun q => absurd q (by decide)⟩
      rw [hZ] at hW9 hth9 hr9 hszZ honeZ hbd0
      clear hZ hZP hk9 hr hB hS hdd hTd hg
      go_wp2_with (first | (refine wpList_buildv rfl _ rfl #[] (by simp [Act.eval]) (hbd0 _) ?_) | (refine wpList_store_row rfl _ _ rfl (w.heap.size + 1) rfl Z rfl hth9 hszZ honeZ hW9 ?_) | fail)
      refine bodyPost_ret (v := .tuple #[.agg Z.toArray, .int .i64 3]) (results_row2 rfl _ _ (w.heap.size + 1) rfl (.int .i64 3) rfl Z hr9 hundP rfl hszZ) rfl ?_
      exact hfin _ hB9
    ·have hb0 : bindE (namesP l) u t p 1 = M1 := by
      unfold bindE
      rw [hM1.out, if_pos h0]
     rw [hb0, if_pos h0] at hE1
     subst hE1
     have hq : (M1 != 0) = true := by simpa using h0
     obtain ⟨W9, hW9, hth9, hr9, hk9⟩ := hZP _ hr
     have hB9 := hk9 hB
     obtain ⟨Z, hZ⟩ : ∃ Z, prL nilS (stCs zeroC nilS) = Z := ⟨_, rfl⟩
     have hfin : ∀ W, Below w.heap.size w W → MakeP bs M1 w (.returned (.tuple #[.agg Z.toArray, .int .i64 M1])) W := fun W q => ⟨q, fun _ => by rw [hZ], fun q => absurd q h0⟩
     rw [hZ] at hW9 hth9 hr9 hszZ honeZ hbd0
     clear hZ hZP hk9 hr hB hS hTd hg hdir
     go_wp2_with (first | (refine wpList_buildv rfl _ rfl #[] (by simp [Act.eval]) (hbd0 _) ?_) | (refine wpList_store_row rfl _ _ rfl (w.heap.size + 1) rfl Z rfl hth9 hszZ honeZ hW9 ?_) | fail)
     refine bodyPost_ret (v := .tuple #[.agg Z.toArray, .int .i64 M1]) (results_row2 rfl _ _ (w.heap.size + 1) rfl (.int .i64 M1) rfl Z hr9 hundP rfl hszZ) rfl ?_
     exact hfin _ hB9
  ·obtain rfl : k = nb := by omega
   have hE1 := hE.out
   rw [List.drop_eq_nil_of_le (by rw [hnb.out]; exact Nat.le_refl _), goE] at hE1
   subst hE1
   obtain ⟨vc, W1, hap, ho1, hb1⟩ := wasW_run scl_ok (hRB.below scl_ok.len hB) hnb.out (fun q => ⟨hnl q, by
    rcases Nat.eq_zero_or_pos k with r | r
    ·exact r
    ·obtain ⟨p, hp⟩ : ∃ p, bs[0]? = some p := ⟨_, List.getElem?_eq_getElem (by rw [hnb.out]; exact r)⟩
     obtain ⟨y, hy, -⟩ := hRB 0 p hp
     rw [q] at hy
     cases hy⟩) (by omega)
   obtain ⟨va, vn, rfl, -, -⟩ := ho1.slice scl_ok.len
   rw [hnb.out] at hap ho1
   have hap2 := @appM _ _ _ _ _ _ (.tmp 47) (.tmp 48) hap
   have hr1 := stab_blk _ _ _ _ hr hb1
   have hwr : w.heap.size + 1 < wr.heap.size := hr.2
   have hB1 := Below.then hB hb1
   clear hE hZP hap
   go_upto_region 14 with fail
   go_wp2_with (first | (refine wpList_build0W scl_ok rfl rfl ?_) | (refine hap2 rfl rfl rfl rfl rfl ?_) | fail)
   refine (kn W1).mono ?_
   rintro e W2 ⟨rfl, hb2⟩
   have ho2 := ho1.below hb2
   have hr2 := stab_blk _ _ _ _ hr1 hb2
   have hB2 := Below.then hB1 hb2
   obtain ⟨Y, hY⟩ : ∃ Y, prL (.slice va k vn) (stCs newC nilS) = Y := ⟨_, rfl⟩
   have hYl : Y.length = 19 := by rw [← hY]; rfl
   have hbY := hbd va k vn W2
   have hYo : ∀ y ∈ Y, y.oneCell' = true := by
    rw [← hY]
    exact fun y hy => (List.mem_cons.1 hy).elim (fun q => by rw [q]; rfl) (fun q => st_one _ _ rfl y q)
   obtain ⟨W9, hW9, hth9, hk9, hb9⟩ := put_any hr2 (ds := Y) (by rw [hYl]; rfl) (by rw [hYl]; decide)
   have hszY : (Tryz.prog.info? 57).map (·.size) = some Y.length := by rw [hYl]; exact hszP
   have hr9 := hk9.range
   have hB9 := hb9 _ _ (by omega) hB2
   have ho9 : OwnR 9 1 scl W9 w.heap.size (.slice va k vn) bs := by rw [← hW9]; exact (ho2.setAll (fun q => by have := (ho2.lt q).1; omega) _).lower (by omega)
   have hfin : MakeP bs 0 w (.returned (.tuple #[.agg Y.toArray, .int .i64 0])) W9 := ⟨hB9, fun q => absurd rfl q, fun _ => ⟨_, by rw [← hY], ho9⟩⟩
   rw [hY] at hbY
   clear hY ho1 ho2 hb1 hb2 hr hr1 hr2 hB hB1 hB2 hb hk9 hb9 hB9 ho9
   go_wp2_with (first | (refine wpList_buildv rfl _ rfl #[(0, .slice va k vn), (1, .agg (stCs newC nilS).toArray)] (by simp [Act.eval]) hbY ?_) | (refine wpList_store_row rfl _ _ rfl (w.heap.size + 1) rfl Y rfl hth9 hszY hYo hW9 ?_) | fail)
   refine bodyPost_ret (v := .tuple #[.agg Y.toArray, .int .i64 0]) (results_row2 rfl _ _ (w.heap.size + 1) rfl (.int .i64 0) rfl Y hr9 hundP rfl hszY) rfl ?_
   exact hfin
end Go.Proofs.YtidihdiffiffmaaGreatDoor
namespace Go.Proofs.YtidihdiffiffmaaGreatDoor
open Go.RowKit
set_option maxRecDepth 8000
set_option linter.unusedSimpArgs false
set_option linter.unusedVariables false
theorem lab_el {W : World} {z : Addr} {x : PN} (h : CellsAt W z x.cs) : CellsAt W ⟨z.block, z.off + 2, none⟩ (lab4 x.n.label) := fun j v hv => by
 have e : (⟨z.block, z.off + 2, none⟩ : Addr).add j = z.add (2 + j) := by
  unfold Addr.add
  by_cases hj : j = 0
  ·subst hj; simp
  ·rw [if_neg hj, if_neg (by omega)]
   simp [Nat.add_assoc]
 rw [e]
 refine h (2 + j) v ?_
 match j, hv with
 | 0, hv => exact hv
 | 1, hv => exact hv
 | 2, hv => exact hv
 | 3, hv => exact hv
def mkB (E : Int) (bs : List ByteArray) : List ByteArray := if E = 0 then bs else []
def mkC (E : Int) : Cp := if E = 0 then newC else zeroC
theorem mkC_ps (E : Int) : (mkC E).ps.length = 4 := by unfold mkC; split <;> rfl
theorem mkC_st (E : Int) : (mkC E).st = [] := by unfold mkC; split <;> rfl
theorem mkB_len (E : Int) (bs : List ByteArray) : (mkB E bs).length ≤ bs.length := by
 unfold mkB
 split
 ·exact Nat.le_refl _
 ·exact Nat.zero_le _
theorem makeU {bs : List ByteArray} {E : Int} {w w' : World} {e : Ending} (h : MakeP bs E w e w') : ∃ b d, e = .returned (.tuple #[.agg (prL (.slice b (mkB E bs).length d) (stCs (mkC E) nilS)).toArray, .int .i64 E]) ∧ RowAt 1 scl w' b (mkB E bs) ∧ Below w.heap.size w w' := by
 obtain ⟨hb, h1, h0⟩ := h
 unfold mkB mkC
 by_cases hE : E = 0
 ·obtain ⟨bv, rfl, ho⟩ := h0 hE
  obtain ⟨b, d, rfl, -, -, hr⟩ := ho.slice scl_ok.len
  rw [if_pos hE, if_pos hE, hE]
  exact ⟨b, d, rfl, hr, hb⟩
 ·rw [if_neg hE, if_neg hE]
  exact ⟨none, 0, h1 hE, fun j x hx => by simp at hx, hb⟩
def pthM (L : List Nod) (raw : ByteArray) (q : Int) : ByteArray := if q.tmod 11 = 10 then raw else (L.getD (q % (L.length : Int)).toNat zeroN).path
def pthsM (L : List Nod) (raw : ByteArray) (qs : List Int) (i : Nat) : List ByteArray := (qs.take i).map (pthM L raw)
theorem pths_next (L : List Nod) (raw : ByteArray) {qs : List Int} {i : Nat} {q : Int} (h : qs[i]? = some q) : pthsM L raw qs (i + 1) = pthsM L raw qs i ++ [pthM L raw q] := by
 unfold pthsM
 rw [List.take_add_one, h, List.map_append]
 rfl
theorem pths_len (L : List Nod) (raw : ByteArray) {qs : List Int} {i : Nat} (h : i ≤ qs.length) : (pthsM L raw qs i).length = i := by
 unfold pthsM
 rw [List.length_map, List.length_take]
 omega
theorem pths_sz {L : List Nod} (hI : InvP L) (hL : 0 < L.length) {raw : ByteArray} (hr : raw.size ≤ 300) (qs : List Int) (i : Nat) : ∀ p ∈ pthsM L raw qs i, p.size ≤ 1000 := fun p hp => by
 obtain ⟨q, _, rfl⟩ := List.mem_map.1 hp
 unfold pthM
 split
 ·omega
 ·have h1 := Int.emod_nonneg q (show (L.length : Int) ≠ 0 by omega)
  have h2 := Int.emod_lt_of_pos q (show (0 : Int) < (L.length : Int) by omega)
  have h3 : (q % (L.length : Int)).toNat < L.length := by omega
  rw [List.getD_eq_getElem?_getD, List.getElem?_eq_getElem h3]
  have h4 := (nodC_zero.1 (hI.tr.ok _ (List.getElem_mem h3))).1
  obtain ⟨_, _, _, h5⟩ := check_path h4
  simp only [Option.getD_some]
  omega
theorem own_blk {α : Type} {e : TypeId} {sz base : Nat} {f : α → List Value} {W : World} {v : Value} {l : List α} (h : OwnR e sz f W base v l) (hl : 0 < l.length) : ∃ g cap, v = .slice (some ⟨g, 0, none⟩) l.length cap ∧ base ≤ g := by
 obtain ⟨_, ⟨_, h0⟩ | ⟨g, cap, _, h1, h2, _⟩⟩ := (show W.ownsRow base e sz v l.length (l.flatMap f) from h)
 ·omega
 ·exact ⟨g, cap, h1, h2⟩
theorem inv_GL0 {l : List PN} {L : List Nod} (hn : namesP l = L) (hI : InvP L) {d : PN} (hd : d ∈ l) : GL d.n.label := (nodC_zero.1 (hI.tr.ok d.n (by rw [← hn]; exact List.mem_map.2 ⟨d, hd, rfl⟩))).2.1
set_option maxRecDepth 20000 in
set_option maxHeartbeats 16000000 in
theorem procMakes_walk (ta : Option Addr) (ct : Nat) (ts : List Lab) (ka : Option Addr) (kc : Nat) (ks : List PM) (pa : Option Addr) (pc : Nat) (ps : List PPg) (ma : Option Addr) (mc : Nat) (ms : List Int) (who pick : Int) (qa : Option Addr) (qc : Nat) (qs : List Int) (raw : ByteArray) (hfit : FitM (ks.map (·.m))) (hpc : ps.length ≤ pc) (hpl : (ps.length : Int) ≤ 9223372036854775807) (w : World) (hV : MaxV w) (hlr : RowAt 4 lrow w ta ts) (hmr : RowM w ka ks) (hps : RowAt 1 pgcl w pa ps) (hpA : ∀ x ∈ ps, x.At w) (hms : RowAt 1 icell w ma ms) (hqs : RowAt 1 icell w qa qs) :
    Calls Tryz.prog 3 #[.slice ta ts.length ct, .slice ka ks.length kc, .slice pa ps.length pc, .slice ma ms.length mc, .int .i64 who, .int .i64 pick, .slice qa qs.length qc, .string raw] w fun e w' => e = .returned (.bool true) ∧ Below w.heap.size w w' := by
 have hundP := Tryz.underlying47
 have hundR := Tryz.underlying57
 have hundL := Tryz.underlying30
 have hszP : (Tryz.prog.info? 47).map (·.size) = some 19 := by kernel_rfl
 have hszR : (Tryz.prog.info? 57).map (·.size) = some 19 := by kernel_rfl
 obtain ⟨L, hL⟩ : ∃ L, madeN ts (ks.map (·.m)) (ps.map (·.is)) ms [] = L := ⟨_, rfl⟩
 have hgood := made_good ts hfit (ps.map (·.is)) ms []
 rw [hL] at hgood
 obtain ⟨hIL, hLn⟩ := hgood
 have km := fun (W : World) (h : Below w.heap.size w W) => pmade_any ta ct ts ka kc ks pa pc ps ma mc ms none 0 [] hfit hpc hpl W (hlr.below (fun _ => rfl) h) (hmr.below h) (hps.below pg_len1 h) (fun x hx => ⟨(hpA x hx).1.below in_okW.len h, (hpA x hx).2⟩) (hms.below icell_len h) (fun j x hx => by simp at hx)
 simp only [hL] at km
 obtain ⟨nt, hnt⟩ : ∃ n, ts.length = n := ⟨_, rfl⟩
 obtain ⟨nk, hnk⟩ : ∃ n, ks.length = n := ⟨_, rfl⟩
 obtain ⟨np, hnp⟩ : ∃ n, ps.length = n := ⟨_, rfl⟩
 obtain ⟨nm, hnm⟩ : ∃ n, ms.length = n := ⟨_, rfl⟩
 obtain ⟨nq, hnq⟩ : ∃ n, qs.length = n := ⟨_, rfl⟩
 simp only [hnt, hnk, hnp, hnm] at km ⊢
 rw [hnq]
 replace km : ∀ W, Below w.heap.size w W → Calls Tryz.prog 10 #[.slice ta nt ct, .slice ka nk kc, .slice pa np pc, .slice ma nm mc, .slice none 0 0] W (PutR L W) := km
 clear hlr hmr hps hpA hms hnt hnk hnp hnm hpc hpl hL hfit
 obtain ⟨kk, hkk⟩ : ∃ kk : Nat, who % 5 = (kk : Int) := ⟨(who % 5).toNat, by have := Int.emod_nonneg who (by decide : (5 : Int) ≠ 0); omega⟩
 have hk5 : kk < 5 := by have := Int.emod_lt_of_pos who (by decide : (0 : Int) < 5); omega
 have kw := fun W => w17_any who 5 (by decide) (by decide) W
 rw [hkk] at kw
 clear hkk
 replace hnq : Aside (qs.length = nq) := hnq
 go_enter Tryz.func3, Tryz.ntmps3
 go_wp2_with fail
 refine (lknown_any w hV).mono ?_
 rintro e W0 ⟨rfl, hB0⟩
 by_cases hbig : 300 < raw.size
 ·have i1 : (300 : Int) < (raw.size : Int) := by omega
  clear km kw
  go_wp2_with fail
  go_ret
  exact ⟨rfl, hB0⟩
 have i1 : ¬ (300 : Int) < (raw.size : Int) := by omega
 by_cases hq20 : 20 < nq
 ·have i2 : (20 : Int) < (nq : Int) := by omega
  clear km kw
  go_wp2_with fail
  go_ret
  exact ⟨rfl, hB0⟩
 have i2 : ¬ (20 : Int) < (nq : Int) := by omega
 have km0 := km W0 hB0
 clear km
 go_wp2_with fail
 refine km0.mono ?_
 rintro e W1 ⟨l, a1, c1, rfl, hr1, hn1, hb1⟩
 have hB1 := Below.then hB0 hb1
 have hlL : (namesP l).length = l.length := by simp [namesP]
 rw [hn1] at hlL
 have hF : FineL l := fine_of hn1 hIL (by omega)
 have hlp : 0 < l.length := by
  obtain ⟨r, hr, -⟩ := hIL.tr.root
  rw [← hlL]
  exact List.length_pos_of_mem hr
 clear km0 hB0 hb1 i1 i2
 obtain ⟨N, hN⟩ : ∃ N, l.length = N := ⟨_, rfl⟩
 rw [hN] at hlL hlp ⊢
 have hN29 : N ≤ 29 := by omega
 have kwN := fun (q : Int) (W : World) => w17_any q (N : Int) (by omega) (by omega) W
 obtain ⟨j, hj⟩ : ∃ j : Nat, pick % (N : Int) = (j : Int) := ⟨(pick % (N : Int)).toNat, by have := Int.emod_nonneg pick (by omega : (N : Int) ≠ 0); omega⟩
 have hjN : j < N := by have := Int.emod_lt_of_pos pick (by omega : (0 : Int) < (N : Int)); omega
 have kw1 := kwN pick
 rw [hj] at kw1
 obtain ⟨d, hd⟩ : ∃ d, l[j]? = some d := ⟨_, List.getElem?_eq_getElem (by rw [hN]; exact hjN)⟩
 obtain ⟨y, rfl⟩ := hr1.some_ hd
 have hcl := lab_el (hr1.r.at pn_len hd)
 have hG := inv_GL0 hn1 hIL (List.mem_of_getElem? hd)
 obtain ⟨t, ht⟩ : ∃ t, d.n.label = t := ⟨_, rfl⟩
 rw [ht] at hcl hG
 clear ht hd hj
 have hszL : (Tryz.prog.info? 30).map (·.size) = some (lab4 t).length := by show _ = some 4; kernel_rfl
 obtain ⟨W2, hW2, hth2, hbl, hb2⟩ := put_new W1 #[.int .i64 0, .int .i64 0, .int .i64 0, .int .i64 0] 30 (lab4 t) rfl (by show 0 < 4; decide)
 have hB2 := Below.then hB1 hb2
 have hon2 : ∀ x ∈ lab4 t, x.oneCell' = true := fun x hx => by
  simp only [lab4, List.mem_cons, List.not_mem_nil, or_false] at hx
  rcases hx with rfl | rfl | rfl | rfl <;> rfl
 replace hN : Aside (l.length = N) := hN
 go_upto_region 6 with fail
 go_wp2_with fail
 refine (kw1 W1).mono ?_
 rintro e W1' ⟨rfl, rfl⟩
 have ij : (j : Int) < (N : Int) := by omega
 go_upto_region 7 with (first | (refine wpList_load_at rfl _ rfl ⟨(y.add (j * 16)).block, (y.add (j * 16)).off + 2, none⟩ rfl (lab4 t) hcl hundL rfl hszL ?_) | (refine wpList_store_row rfl _ _ rfl W1'.heap.size rfl (lab4 t) rfl hth2 hszL hon2 hW2 ?_) | fail)
 clear hth2 hW2 hon2 hcl kw1 ij
 have hr2 := hr1.below hb2
 clear hr1 hb2
 generalize W1'.heap.size = gl at *
 have hcv := conv_chr W2 (97 + kk) (by omega)
 have hwr : IntKind.u8.wrap (97 + (kk : Int)) = 97 + (kk : Int) := Go.IntWalk.u8_in _ (by omega)
 rw [show ((97 + kk : Nat) : Int) = 97 + (kk : Int) by omega] at hcv
 have hb3 := alloc_below W2 (.cells #[.int .u8 (97 + (kk : Int))] 5)
 obtain ⟨u, hu⟩ : ∃ u, chr (97 + kk) = u := ⟨_, rfl⟩
 rw [hu] at hcv
 clear hu
 go_wp2_with fail
 refine (kw W2).mono ?_
 rintro e W2' ⟨rfl, rfl⟩
 go_upto_region 8 with fail
 obtain ⟨W3, hW3⟩ : ∃ W3, W2'.alloc (.cells #[.int .u8 (97 + (kk : Int))] 5) = W3 := ⟨_, rfl⟩
 (try rw [hW3])
 rw [hW3] at hb3
 have hB3 := Below.then hB2 hb3
 have hr3 := hr2.below hb3
 have hbl3 := stab_blk _ _ _ _ hbl hb3
 have hq3 := hqs.below icell_len hB3
 clear hcv hW3 hb3 hbl hr2 hB1 hB2
 rw [← hn1] at hlL
 obtain ⟨b0, hb0⟩ : ∃ b0, W3.heap.size = b0 := ⟨_, rfl⟩
 replace hb0 : Aside (W3.heap.size = b0) := hb0
 go_upto_region 9 with fail
 go_wp2_with fail
 go_loopw [20, 21] (fun t20 t21 wr => ∃ (i : Nat) (v : Value), i ≤ nq ∧ t21 = .int .i64 (i : Int) ∧ v = t20 ∧ OwnR 9 1 scl wr W3.heap.size v (pthsM L raw qs i) ∧ Below W3.heap.size W3 wr) (fun _ t21 _ => nq - (Go.RowKit.intOf t21).toNat)
 case atStart => exact ⟨0, _, by omega, rfl, rfl, OwnR.nil _ _ _ _ _, Below.refl _ _⟩
 case round =>
 obtain ⟨i, v, hi, rfl, rfl, ho, hB⟩ := hrel
 have hrw := hr3.below hB
 have hqw := hq3.below icell_len hB
 by_cases hin : i < nq
 ·obtain ⟨q, hq⟩ : ∃ q, qs[i]? = some q := ⟨_, List.getElem?_eq_getElem (by rw [hnq.out]; exact hin)⟩
  obtain ⟨yq, rfl, -⟩ := hqw i q hq
  have e1 : wr.cell? (yq.add i) = some (.int .i64 q) := by
   have h1 := hqw.at icell_len hq
   rw [Nat.mul_one] at h1
   exact h1 0 _ rfl
  obtain ⟨jq, hjq⟩ : ∃ jq : Nat, q % (N : Int) = (jq : Int) := ⟨(q % (N : Int)).toNat, by have := Int.emod_nonneg q (by omega : (N : Int) ≠ 0); omega⟩
  have hjN2 : jq < N := by have := Int.emod_lt_of_pos q (by omega : (0 : Int) < (N : Int)); omega
  have kq := kwN q
  rw [hjq] at kq
  obtain ⟨x, hx⟩ : ∃ x, l[jq]? = some x := ⟨_, List.getElem?_eq_getElem (by rw [hN.out]; exact hjN2)⟩
  have hxp : wr.cell? (y.add (jq * 16)) = some (.string x.n.path) := hrw.path hx
  have hpx : pthM L raw q = if q.tmod 11 = 10 then raw else x.n.path := by
   unfold pthM
   have hl2 : L.length = N := by rw [← hn1]; simp [namesP, hN.out]
   rw [hl2, hjq, ← hn1]
   have := names_get hx
   rw [List.getD_eq_getElem?_getD]
   simp only [Int.toNat_natCast, this, Option.getD_some]
  have hnx := pths_next L raw hq
  have hpl := pths_len L raw (qs := qs) (i := i) (by rw [hnq.out]; omega)
  obtain ⟨P, hP⟩ : ∃ P, pthsM L raw qs i = P := ⟨_, rfl⟩
  rw [hP] at ho hnx hpl
  obtain ⟨v2, W5, hap, ho2, hg2⟩ := OwnR.push scl_ok ho hB.size x.n.path (scl x.n.path).toArray rfl 9 (by omega)
  have hb5 := ho.grew_below hB.size hg2
  have hB5 := hB.trans hb5
  have e5 : W5.cell? (yq.add i) = some (.int .i64 q) := by
   have h1 := (hq3.below icell_len hB5).at icell_len hq
   rw [Nat.mul_one] at h1
   exact h1 0 _ rfl
  obtain ⟨g, cg, rfl, hg⟩ := own_blk ho2 (by rw [List.length_append]; simp)
  have hpl2 : (P ++ [x.n.path]).length = i + 1 := by rw [List.length_append, hpl]; rfl
  rw [hpl2] at hap ho2
  have hap2 := @appM _ _ _ _ _ _ (.tmp 61) (.tmp 73) (show (Builtin.append_ #[39, 39] 39 #[v, .slice (some ⟨wr.heap.size, 0, none⟩) 1 1]).run Tryz.prog (wr.alloc (.cells #[.string x.n.path] 9)) = .ok (.slice (some ⟨g, 0, none⟩) (i + 1) cg) W5 from hap)
  have i1 : (i : Int) < (nq : Int) := by omega
  have i3 : (jq : Int) < (N : Int) := by omega
  have hm11 : -9223372036854775808 ≤ q.tmod 11 ∧ q.tmod 11 ≤ 9223372036854775807 := ⟨by have := Int.lt_tmod_of_pos q (by decide : (0 : Int) < 11); omega, by have := Int.tmod_lt_of_pos q (by decide : (0 : Int) < 11); omega⟩
  clear hap hb5 hrw hqw ho hg2 hx hq
  go_upto_region 12 with fail
  go_wp2_with fail
  refine (kq wr).mono ?_
  rintro e W1 ⟨rfl, rfl⟩
  go_upto_region 13 with (first | (refine hap2 rfl rfl rfl rfl rfl ?_) | fail)
  clear hap2 hxp e1
  by_cases h11 : q.tmod 11 = 10
  ·rw [if_pos h11] at hpx
   have hst := OwnR.storedR (x := x.n.path) (y := raw) (u := .string raw) scl_ok.len ho2 hpl2.symm (j := i) (o := 0) (by rw [List.getElem?_append_right (by omega), hpl]; simp) (by decide) rfl
   rw [show i * 1 + 0 = i by omega] at hst
   obtain ⟨ho3, hfz, z, hz⟩ := hst
   have hset : (P ++ [x.n.path]).set i raw = pthsM L raw qs (i + 1) := by
    rw [hnx, hpx, List.set_append_right _ _ (by omega), hpl]
    simp
   rw [hset] at ho3
   have hB6 := hB5.setCell (p := ⟨g, i, none⟩) (by show W3.heap.size ≤ g; exact hg) (.string raw)
   clear ho2 hnx hpx
   go_wp2_with fail
   exact ⟨⟨i + 1, _, by omega, by simp, rfl, ho3, hB6⟩, by simp [Go.RowKit.intOf]; omega⟩
  ·rw [if_neg h11] at hpx
   rw [hpx] at hnx
   go_wp2_with fail
   exact ⟨⟨i + 1, _, by omega, by simp, rfl, by rw [hnx]; exact ho2, hB5⟩, by simp [Go.RowKit.intOf]; omega⟩
 ·have i1 : ¬ (i : Int) < (nq : Int) := by omega
  obtain rfl : i = nq := by omega
  have hpl := pths_len L raw (qs := qs) (i := i) (by rw [hnq.out]; omega)
  have hsz := pths_sz hIL (by rw [← hn1]; simp [namesP, hN.out]; omega) (raw := raw) (by omega) qs i
  obtain ⟨P, hP⟩ : ∃ P, pthsM L raw qs i = P := ⟨_, rfl⟩
  rw [hP] at ho hpl hsz
  obtain ⟨va, vc, rfl, -, hvn, hvr⟩ := ho.slice scl_ok.len
  have hBw := Below.then hB3 hB
  have hlw := stab_blk _ _ _ _ hbl3 hB
  have hrl := hlw.range
  have hA : ∀ x ∈ l, chkA x.n.acl = 0 := fun x hx => (nodC_zero.1 (hIL.tr.ok x.n (by rw [← hn1]; exact List.mem_map.2 ⟨x, hx, rfl⟩))).2.2.2.1
  have km := pmake_any (some y) c1 l u t va vc P hF hG (by omega) hsz wr hrw hvr (hV.below hBw)
  have km2 := fun (W : World) (h : Below wr.heap.size wr W) => rmake_any (some y) c1 l u t va vc P (by rw [hN.out]; omega) hA (by omega) (fun p hp => by have := hsz p hp; omega) W (hrw.below h) (hvr.below scl_ok.len h) hvn
  obtain ⟨E, hE⟩ : ∃ E, makeE (namesP l) u t P = E := ⟨_, rfl⟩
  rw [hE, hN.out] at km
  simp only [hE, hN.out] at km2
  have hBl := mkB_len E P
  rw [hpl] at km hBl ⊢
  simp only [hpl] at km2
  have hu1 := fun (W W' : World) (e : Ending) (h : MakeP P E W e W') => makeU h
  have hc4 := mkC_ps E
  have hcs := mkC_st E
  obtain ⟨B, hBe⟩ : ∃ B, mkB E P = B := ⟨_, rfl⟩
  obtain ⟨c, hce⟩ : ∃ c, mkC E = c := ⟨_, rfl⟩
  rw [hBe] at hBl
  rw [hce] at hc4 hcs
  simp only [hBe, hce] at hu1
  replace km : Calls Tryz.prog 12 #[.slice (some y) N c1, .agg #[.string u, .int .i64 t.s, .int .i64 t.c, .int .i64 t.i, .int .i64 t.k], .slice va i vc] wr (MakeP P E wr) := km
  replace km2 : ∀ W, Below wr.heap.size wr W → Calls Tryz.prog 13 #[.slice (some y) N c1, .agg #[.string u, .int .i64 t.s, .int .i64 t.c, .int .i64 t.i, .int .i64 t.k], .slice va i vc] W (MakeP P E W) := km2
  clear hE hBe hce hsz hA ho hP hqw hr3 hbl3 hq3 hB kwN kw hF hIL hvn hvr hrw
  go_upto_region 15 with fail
  go_wp2_with (first | (refine wpList_load_row rfl _ rfl gl rfl (lab4 t) hrl hundL rfl hszL ?_) | fail)
  refine km.mono ?_
  rintro e W6 hM
  obtain ⟨b1, d1, rfl, hrb1, hb6⟩ := hu1 _ _ _ hM
  obtain ⟨nb, hnb⟩ : ∃ nb, B.length = nb := ⟨_, rfl⟩
  simp only [hnb] at hu1 hBl ⊢
  obtain ⟨W7, hW7, hth7, hp7, hb7⟩ := put_new W6 zPC 47 (prL (.slice b1 nb d1) (stCs c nilS)) (by rw [pr_lenL hc4]; rfl) (by simp)
  have hsz7 : (Tryz.prog.info? 47).map (·.size) = some (prL (.slice b1 nb d1) (stCs c nilS)).length := by rw [pr_lenL hc4]; exact hszP
  have hon7 := pr_oneL (.slice b1 nb d1) c nilS rfl rfl
  have hb67 := Below.then hb6 hb7
  have hB7 := Below.then hBw hb67
  have km3 := km2 W7 hb67
  have hl7 := stab_blk _ _ _ _ hlw hb67
  have hrb7 := hrb1.below scl_ok.len hb7
  obtain ⟨X, hX⟩ : ∃ X, prL (.slice b1 nb d1) (stCs c nilS) = X := ⟨_, rfl⟩
  have hXe : Aside (Value.agg (prL (.slice b1 nb d1) (stCs c nilS)).toArray = .agg X.toArray) := by show _ = _; rw [hX]
  rw [hX] at hW7 hth7 hp7 hsz7 hon7
  replace hX : Aside (prL (.slice b1 nb d1) (stCs c nilS) = X) := hX
  clear km km2 hM hrl hlw hb6 hb67 hrb1 hBw
  go_upto_region 16 with (first | (refine wpList_store_row rfl _ _ rfl W6.heap.size rfl X rfl hth7 hsz7 hon7 hW7 ?_) | (refine wpList_store_row rfl _ _ rfl W6.heap.size rfl X hXe.out hth7 hsz7 hon7 hW7 ?_) | fail)
  have hrl := hl7.range
  clear hth7 hW7 hon7 hb7
  generalize W6.heap.size = gp at *
  go_wp2_with (first | (refine wpList_load_row rfl _ rfl gl rfl (lab4 t) hrl hundL rfl hszL ?_) | fail)
  refine km3.mono ?_
  rintro e W8 hM
  obtain ⟨b2, d2, rfl, hrb2, hb8⟩ := hu1 _ _ _ hM
  obtain ⟨W9, hW9, hth9, hp9, hb9⟩ := put_new W8 zPC 57 (prL (.slice b2 nb d2) (stCs c nilS)) (by rw [pr_lenL hc4]; rfl) (by simp)
  have hsz9 : (Tryz.prog.info? 57).map (·.size) = some (prL (.slice b2 nb d2) (stCs c nilS)).length := by rw [pr_lenL hc4]; exact hszR
  have hon9 := pr_oneL (.slice b2 nb d2) c nilS rfl rfl
  have hb89 := Below.then hb8 hb9
  have hB9 := Below.then hB7 hb89
  have hq9 := stab_blk _ _ _ _ hp7 hb89
  have hrb9 := hrb7.below scl_ok.len hb89
  have hrb29 := hrb2.below scl_ok.len hb9
  obtain ⟨Y, hY⟩ : ∃ Y, prL (.slice b2 nb d2) (stCs c nilS) = Y := ⟨_, rfl⟩
  have hYe : Aside (Value.agg (prL (.slice b2 nb d2) (stCs c nilS)).toArray = .agg Y.toArray) := by show _ = _; rw [hY]
  rw [hY] at hW9 hth9 hp9 hsz9 hon9
  replace hY : Aside (prL (.slice b2 nb d2) (stCs c nilS) = Y) := hY
  clear km3 hM hrl hl7 hb8 hb89 hrb2 hrb7 hB7 hp7 hu1
  go_upto_region 17 with (first | (refine wpList_store_row rfl _ _ rfl W8.heap.size rfl Y rfl hth9 hsz9 hon9 hW9 ?_) | (refine wpList_store_row rfl _ _ rfl W8.heap.size rfl Y hYe.out hth9 hsz9 hon9 hW9 ?_) | fail)
  clear hth9 hW9 hon9 hb9
  generalize W8.heap.size = gq at *
  obtain ⟨Z, hZ⟩ : ∃ Z, W9 = Z := ⟨_, rfl⟩
  rw [hZ] at hp9 hq9 hrb9 hrb29 hB9 ⊢
  clear hZ
  have kst : ∀ W, Below Z.heap.size Z W → Calls Tryz.prog 15 #[.agg X.toArray] W fun e w' => ∃ v, e = .returned (.agg (prL (.slice b1 nb d1) (stCs c v)).toArray) ∧ OwnR 101 3 frc w' W.heap.size v [] ∧ Below W.heap.size W w' := fun W hW => by
   have k := plstate_any b1 nb d1 c hc4 none 0 W (by rw [hcs]; decide) (fun j x h => by rw [hcs] at h; simp at h)
   rw [hcs] at k
   rw [← hX.out]
   exact k
  have ksm : ∀ W, Below Z.heap.size Z W → ∀ (x1 : Option Addr) (y1 : Nat), RowAt 3 frc W x1 [] → Calls Tryz.prog 14 #[.agg (prL (.slice b1 nb d1) (stCs c (.slice x1 0 y1))).toArray, .agg Y.toArray] W fun e w' => e = .returned (.bool true) ∧ Below W.heap.size W w' := fun W hW x1 y1 r1 => by
   have k := plsame_any c hc4 B b1 b2 d1 d2 x1 none y1 0 W (by rw [hcs]; decide) (by omega) (hrb9.below scl_ok.len hW) (hrb29.below scl_ok.len hW) (by rw [hcs]; exact r1) (fun j x h => by rw [hcs] at h; simp at h)
   rw [hcs, hnb] at k
   rw [← hY.out]
   exact k
  have hS0 : Below Z.heap.size Z Z.drew := (Below.refl _ _).drew
  clear hrb9 hrb29
  refine wp_region_held_drew (S := (fun W => Below Z.heap.size Z W)) (by kernel_rfl) (by exact hS0) ?_
  intro hHeld
  generalize Z.drew = w0 at *
  refine tkA 0 ?_
  refine tkA 1 ?_
  refine tkA 2 ?_
  refine tkA 3 ?_
  refine tkB 4 (y := yields_row (by rfl) _ rfl gp rfl X (fun _ q => BlkL.range (stab_blk _ _ _ _ hq9 q)) hundP rfl hsz7) (h := ?_)
  refine tkB 6 (y := yields_row (by rfl) _ rfl gq rfl Y (fun _ q => BlkL.range (stab_blk _ _ _ _ hp9 q)) hundR rfl hsz9) (h := ?_)
  refine tkR (rs := [5]) ?_
  refine tkC (fun K hK => ?_) AllReadyH.nil
  go_simp
  go_at_call 15
  refine (kst w0 hS0).mono ?_
  rintro e w1 ⟨v1, rfl, ho1, hb⟩
  have hS1 := Below.then hS0 hb
  obtain ⟨x1, y1, rfl, -, -, hx1⟩ := ho1.slice frc_len
  clear ho1
  clear hb
  refine hK.out _ _ (by exact hS1) ?_
  clear hHeld hK
  intro hHeld
  (try simp only [Act.put, zsA, zsB, zsC])
  refine tkR (rs := [7]) ?_
  refine tkC (fun K hK => ?_) AllReadyH.nil
  go_simp
  go_at_call 14
  refine (ksm w1 hS1 x1 y1 hx1).mono ?_
  rintro e w2 ⟨rfl, hb⟩
  have hS2 := Below.then hS1 hb
  clear hx1
  clear hb
  refine hK.out _ _ (by exact hS2) ?_
  clear hHeld hK
  intro hHeld
  (try simp only [Act.put, zsA, zsB, zsC])
  refine tkA 8 ?_
  refine tkA 9 ?_
  refine wpAnyH_done (by kernel_rfl) ?_ _
  have hfin := Below.then hB9 hS2
  go_wp2_with fail
  go_ret
  exact ⟨rfl, hfin⟩
end Go.Proofs.YtidihdiffiffmaaGreatDoor
