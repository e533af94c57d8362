/-
  PART 2 of what ProcMakes leans on: PcSeg PcX CpuSv PcWords HashBase HashOf NodeEnc NodeMsg NodeEntry Grs NodeRefEnc Texts LAclPure NodeChkP TreePure TreeRows TreeGrow Chr TreeAcl TreeGrown TreeFacts MonPure MonMore LAclBase LAclFind LAclModes MonRef MonRef2 Two NodeSameL MonAsk TreePut TreeFirstRef LabOpen NodeOpenD TreeOpen TreeUnder TreePlace Copied.
-/
import Derived.Laws.OwnMore
import Derived.MapKept
import Derived.ChangeMaps
import Derived.Laws.Bits64
import Derived.Lib.ConvBytes
import Derived.Laws.AppendOwnNone
import Derived.Deep.Cut
import Derived.WalkKit
import Derived.Lib.Strings
import Derived.Lib.Bytealg
import Derived.KernelRfl
import Derived.ProofKit
import Derived.WalkLawsBesides
import Derived.Below
import Derived.Deep.RegionHeld
import Derived.Deep.LoopGhost
import Derived.Deep.CutBlock
import Derived.Laws.MakeOwn
import Derived.Laws.IdiomCopy
import Derived.Test.YtidihdiffiffmaaGreatDoorProcMakesP1
namespace Go.Proofs.YtidihdiffiffmaaGreatDoor
open Go.RowKit Go.MapKept
set_option maxRecDepth 8000
set_option linter.unusedSimpArgs false
set_option linter.unusedVariables false
structure IEs (es : Array MapEntry) (val : Int → Value) (live : Int → Bool) : Prop where
 ent : ∀ e ∈ es.toList, ∃ k : Int, e.key = .int .i64 k ∧ e.val = val k ∧ live k = true
 has : ∀ k, live k = true → ∃ e ∈ es.toList, e.key = .int .i64 k
def MapI (W : World) (b : Nat) (val : Int → Value) (live : Int → Bool) : Prop := ∃ es clock, W.heap[b]? = some (.map es clock) ∧ IEs es val live
section
variable {W W' : World} {b : Nat} {val : Int → Value} {live : Int → Bool}
theorem MapI.same (h : MapI W b val live) (hb : W'.heap[b]? = W.heap[b]?) : MapI W' b val live := by
 obtain ⟨es, clock, h1, h2⟩ := h
 exact ⟨es, clock, hb.trans h1, h2⟩
theorem MapI.lt (h : MapI W b val live) : b < W.heap.size := by
 obtain ⟨es, clock, h1, h2⟩ := h
 exact (Array.getElem?_eq_some_iff.1 h1).1
theorem MapI.turn (h : MapI W b val live) {val' : Int → Value} {live' : Int → Bool} (hv : ∀ k, live k = true → val' k = val k) (hl : ∀ k, live' k = live k) : MapI W b val' live' := by
 obtain ⟨es, clock, h1, h2⟩ := h
 refine ⟨es, clock, h1, fun e he => ?_, fun k hk => h2.has k (by rw [← hl]; exact hk)⟩
 obtain ⟨k, hk, hv1, hl1⟩ := h2.ent e he
 exact ⟨k, hk, by rw [hv k hl1]; exact hv1, by rw [hl]; exact hl1⟩
theorem mapI_made (W : World) (val : Int → Value) : MapI (W.alloc (.map #[] 0)) W.heap.size val (fun _ => false) :=
 ⟨#[], 0, (MapKept.heap_alloc W _).1, fun e he => (by simp at he), fun x hx => (by cases hx)⟩
theorem iKey (k : Int) : IsKey (.int .i64) (.int .i64 k) := rfl
theorem find_i (W : World) (k : Int) (es : List MapEntry) (hes : ∀ e ∈ es, ∃ j : Int, e.key = .int .i64 j) :
    ((Instr.findKey 3 (.int .i64 k) es).run Tryz.prog W = .ok none W ∧ ∀ e ∈ es, e.key ≠ .int .i64 k) ∨ ∃ j e, (Instr.findKey 3 (.int .i64 k) es).run Tryz.prog W = .ok (some (j, e.val)) W ∧ es[j]? = some e ∧ e.key = .int .i64 k := by
 have hk : Tryz.prog.underlying 3 = some (.int .i64) := Tryz.underlying3
 rcases findNow_spec (iKey k) es 0 (fun y hy => by obtain ⟨j, hj⟩ := hes y hy; rw [hj]; exact iKey j) with ⟨h1, h2⟩ | ⟨j, e0, h1, h2, h3⟩
 ·exact .inl ⟨run_findKey hk h1, h2⟩
 ·exact .inr ⟨j, e0, by simpa using run_findKey hk h1, h2, h3⟩
theorem check_i (W : World) (em : Bool) (k : Int) : (Instr.checkKey em 10000 3 (.int .i64 k)).run Tryz.prog W = .ok () W := run_checkKey (n := 9999) Tryz.underlying3 (iKey k) em
theorem IEs.keys {es : Array MapEntry} (h : IEs es val live) : ∀ e ∈ es.toList, ∃ j : Int, e.key = .int .i64 j := fun e he => by
 obtain ⟨k, hk, _⟩ := h.ent e he
 exact ⟨k, hk⟩
theorem lookI_ok {T ET : TypeId} {z : Value} (hu : Tryz.prog.underlying T = some (.map 3 ET)) (hz : ∀ w, (zeroValue ET).run Tryz.prog w = .ok z w) (h : MapI W b val live) (k : Int) : (Instr.lookup T (.map (some b)) (.int .i64 k) true).run Tryz.prog W = .ok (.tuple #[if live k = true then val k else z, .bool (live k)]) W := by
 obtain ⟨es, clock, hb, hC⟩ := h
 rcases find_i W k es.toList hC.keys with ⟨h1, h2⟩ | ⟨j, e0, h1, h2, h3⟩
 ·have hd : live k = false := by
    cases hq : live k
    ·rfl
    ·obtain ⟨e, he, hk⟩ := hC.has k hq
     exact absurd hk (h2 e he)
  rw [hd]
  simp [Instr.lookup, run_underlying hu, MapKept.run_getObj_map hb, check_i, h1, hz, Result.andThen]
 ·obtain ⟨k', hk', hv, hl⟩ := hC.ent e0 (List.mem_of_getElem? h2)
  have : k' = k := by
   have := hk'.symm.trans h3
   simpa using this
  subst this
  rw [hl]
  simp [Instr.lookup, run_underlying hu, MapKept.run_getObj_map hb, check_i, h1, hv, Result.andThen]
theorem lookI {T ET : TypeId} (hu : Tryz.prog.underlying T = some (.map 3 ET)) (h : MapI W b val live) (k : Int) (hl : live k = true) : (Instr.lookup T (.map (some b)) (.int .i64 k) false).run Tryz.prog W = .ok (val k) W := by
 obtain ⟨es, clock, hb, hC⟩ := h
 rcases find_i W k es.toList hC.keys with ⟨h1, h2⟩ | ⟨j, e0, h1, h2, h3⟩
 ·obtain ⟨e, he, hk⟩ := hC.has k hl
  exact absurd hk (h2 e he)
 ·obtain ⟨k', hk', hv, hl'⟩ := hC.ent e0 (List.mem_of_getElem? h2)
  have : k' = k := by
   have := hk'.symm.trans h3
   simpa using this
  subst this
  simp [Instr.lookup, run_underlying hu, MapKept.run_getObj_map hb, check_i, h1, hv, Result.andThen]
theorem updI {T ET : TypeId} (hu : Tryz.prog.underlying T = some (.map 3 ET)) (h : MapI W b val live) (k : Int) (v : Value) (hn : live k = false) :
    ∃ W1, (Instr.mapUpdate T (.map (some b)) (.int .i64 k) v).run Tryz.prog W = .ok () W1 ∧ MapI W1 b (fun j => if j = k then v else val j) (fun j => decide (j = k) || live j) ∧ W1.os = W.os ∧ W1.tape = W.tape ∧ W1.output = W.output ∧ W1.heap.size = W.heap.size ∧ ∀ j, j ≠ b → W1.heap[j]? = W.heap[j]? := by
 have hlt := h.lt
 obtain ⟨es, clock, hb, hC⟩ := h
 rcases find_i W k es.toList hC.keys with ⟨h1, h2⟩ | ⟨j, e0, h1, h2, h3⟩
 ·refine ⟨{ W with heap := W.heap.setIfInBounds b (.map (es.push ⟨.int .i64 k, v, clock⟩) (clock + 1)) }, ?_, ⟨_, _, (heap_set hb).1, fun e he => ?_, fun j hj => ?_⟩, rfl, rfl, rfl, by simp, (heap_set hb).2⟩
  ·simp [Instr.mapUpdate, run_underlying hu, MapKept.run_getObj_map hb, check_i, h1, MapKept.run_setObj_map _ hb, Result.andThen]
  ·simp at he
   rcases he with he | rfl
   ·obtain ⟨j, hj, hv, hl⟩ := hC.ent e (by simpa using he)
    refine ⟨j, hj, ?_, by simp [hl]⟩
    rw [hv, if_neg]
    rintro rfl
    rw [hn] at hl
    cases hl
   ·exact ⟨k, rfl, by simp, by simp⟩
  ·simp only [Bool.or_eq_true, decide_eq_true_eq] at hj
   rcases hj with rfl | hj
   ·exact ⟨⟨.int .i64 j, v, clock⟩, by simp, rfl⟩
   ·obtain ⟨e, he, hk⟩ := hC.has j hj
    exact ⟨e, by simp at he ⊢; exact .inl he, hk⟩
 ·obtain ⟨k', hk', hv, hl⟩ := hC.ent e0 (List.mem_of_getElem? h2)
  have : k' = k := by
   have := hk'.symm.trans h3
   simpa using this
  subst this
  rw [hn] at hl
  cases hl
end
def sg6 (g : Sg) (v : Value) : List Value := [v, .int .i64 g.md, .int .i64 g.rg.a, .int .i64 g.rg.b, .int .i64 g.rg.c, .int .i64 g.rg.g]
theorem addC_block (x : Addr) (k : Nat) : (x.add k).block = x.block := by
 unfold Addr.add
 split <;> rfl
theorem wd_okC : ElemOk 2 34 1 wcl :=
 ⟨Tryz.underlying34, by
  obtain ⟨i, h1, h2, h3, h4⟩ := info_of (e := 2) (z := .int .i64 0) (sz := 1) (b := 8) (by kernel_rfl)
  exact ⟨i, _, _, h1, h2, h3, h4, rfl, by omega⟩, by omega, fun _ => rfl, fun x u hu => by simp [wcl] at hu; subst hu; rfl⟩
section
variable {ops : Array Oper} {o : Oper} {a : Act} {w : World} {Q : Exit → Act → World → Prop}
theorem step_store_rowC {T : TypeId} {K : Act → World → Prop} {E : Prop} {W : World} (hg : o.guard = none) (x y : Operand) (ho : o.op = .store T x y) (b : Nat) (hx : a.eval x = .pointer (some ⟨b, 0, none⟩)) (cs : List Value) (hy : a.eval y = .agg cs.toArray)
    (ht : w.there b 0 cs.length) (hi : (Tryz.prog.info? T).map (·.size) = some cs.length) (h1 : ∀ v ∈ cs, v.oneCell' = true) (hW : w.setCells b 0 cs = W) (hK : K (a.put o.dst undef) W) :
    if Region.wanted o (yielded ops a.tmps) = true then Oper.wp Tryz.prog o a w K Q else E := by
 have hw : Region.wanted o (yielded ops a.tmps) = true := by simp [Region.wanted, hg]
 rw [if_pos hw]
 exact wp_store_mid T x y ho b 0 cs.toArray hx hy ht hi (all_oneCell_toArray h1) (hW ▸ hK)
end
def segV (m : List PG) (k : Int) : Value := .agg (sg6 (knP m k).g (knP m k).v).toArray
structure MAt (bm : Nat) (a : Option Addr) (cap : Nat) (m : List PG) (W : World) : Prop where
 map : MapI W bm (segV m) (fun k => (kn (m.map (·.g)) k).is)
 own : ∀ x ∈ m, x.g.is = true → OwnR 2 1 wcl W cap x.v x.g.ws
theorem MAt.below {bm : Nat} {a : Option Addr} {cap : Nat} {m : List PG} {W W' : World} (h : MAt bm a cap m W) (hb : Below W.heap.size W W') : MAt bm a cap m W' := ⟨h.map.same (hb.block _ h.map.lt), fun x hx hi => (h.own x hx hi).below hb⟩
theorem MAt.lt {bm : Nat} {a : Option Addr} {cap : Nat} {m : List PG} {W : World} (h : MAt bm a cap m W) : bm < W.heap.size := h.map.lt
def LowM (m : List PG) (L : Nat) : Prop := ∀ x ∈ m, x.g.is = true → ∀ g, x.v.ownBlock = some g → g < L
theorem MAt.low {bm : Nat} {a : Option Addr} {cap : Nat} {m : List PG} {W : World} (h : MAt bm a cap m W) : LowM m W.heap.size := fun x hx hi g hg => ((h.own x hx hi).lt hg).2
theorem LowM.mono {m : List PG} {L L' : Nat} (h : LowM m L) (hl : L ≤ L') : LowM m L' := fun x hx hi g hg => Nat.lt_of_lt_of_le (h x hx hi g hg) hl
theorem knP_mem {m : List PG} {k : Int} (h : (kn (m.map (·.g)) k).is = true) : knP m k ∈ m ∧ m[k.toNat]? = some (knP m k) ∧ 0 ≤ k := by
 have hg := knP_g m k
 rw [← hg] at h
 unfold knP at h ⊢
 by_cases h0 : k < 0
 ·rw [if_pos h0] at h; cases h
 rw [if_neg h0] at h ⊢
 rw [List.getD_eq_getElem?_getD] at h ⊢
 cases e : m[k.toNat]? with
 | none => rw [e] at h; cases h
 | some x => exact ⟨List.mem_of_getElem? e, rfl, by omega⟩
structure Sole (bx : Nat) (w w' : World) : Prop where
 os : w'.os = w.os
 tape : w'.tape = w.tape
 output : w'.output = w.output
 size : w.heap.size ≤ w'.heap.size
 block : ∀ j, j < w.heap.size → j ≠ bx → w'.heap[j]? = w.heap[j]?
theorem Sole.of {bx : Nat} {w w' : World} (h : Below w.heap.size w w') : Sole bx w w' := ⟨h.os, h.tape, h.output, h.size, fun j hj _ => h.block j hj⟩
theorem Sole.trans {bx : Nat} {w w1 w2 : World} (h : Sole bx w w1) (k : Sole bx w1 w2) : Sole bx w w2 := ⟨k.os.trans h.os, k.tape.trans h.tape, k.output.trans h.output, Nat.le_trans h.size k.size, fun j hj hn => (k.block j (Nat.lt_of_lt_of_le hj h.size) hn).trans (h.block j hj hn)⟩
def WrtM (m : List PG) (k o y : Int) (w w' : World) : Prop := ∃ g, (knP m k).v.ownBlock = some g ∧ g < w.heap.size ∧ Sole g w w' ∧ w'.heap[g]? = (w.setCell ⟨g, o.toNat, none⟩ (.int .i64 y)).heap[g]?
theorem WrtM.size {m : List PG} {k o y : Int} {w w' : World} (h : WrtM m k o y w w') : w.heap.size ≤ w'.heap.size := by
 obtain ⟨g, -, -, hs, -⟩ := h
 exact hs.size
end Go.Proofs.YtidihdiffiffmaaGreatDoor
namespace Go.Proofs.YtidihdiffiffmaaGreatDoor
open Go.RowKit
set_option maxRecDepth 8000
set_option linter.unusedSimpArgs false
set_option linter.unusedVariables false
theorem max_ofI {a b c : Int} (h : (if a < b then b else a) = c) : max a b = c := by
 rw [← h]
 split <;> omega
structure XAt (b : Nat) (c : Cp) (v : Value) (r : List Value) (W : World) : Prop where
 ps : c.ps.length = 4
 blk : BlkL b (stCs c v ++ r) W
section
variable {b : Nat} {c c' : Cp} {v v' u : Value} {r : List Value} {W W' : World}
theorem XAt.cells (h : XAt b c v r W) {i : Nat} (hu : (stCs c v)[i]? = some u) : W.cell? ⟨b, i, none⟩ = some u ∧ W.frozen? ⟨b, i, none⟩ = false := by
 have hi := (List.getElem?_eq_some_iff.1 hu).1
 exact h.blk.1 i u (by rw [List.getElem?_append_left hi]; exact hu)
theorem XAt.tails (h : XAt b c v r W) {i : Nat} (hu : r[i]? = some u) : W.cell? ⟨b, 18 + i, none⟩ = some u ∧ W.frozen? ⟨b, 18 + i, none⟩ = false := by
 refine h.blk.1 (18 + i) u ?_
 rw [List.getElem?_append_right (by rw [st_len h.ps]; omega), st_len h.ps, show 18 + i - 18 = i by omega]
 exact hu
theorem XAt.seg (h : XAt b c v r W) : W.cell? ⟨b, 0, none⟩ = some (.int .i64 c.seg) := (h.cells (i := 0) rfl).1
theorem XAt.off (h : XAt b c v r W) : W.cell? ⟨b, 1, none⟩ = some (.int .i64 c.off) := (h.cells (i := 1) rfl).1
theorem XAt.ring (h : XAt b c v r W) : W.cell? ⟨b, 2, none⟩ = some (.int .i64 c.ring) := (h.cells (i := 2) rfl).1
theorem XAt.a (h : XAt b c v r W) : W.cell? ⟨b, 3, none⟩ = some (.int .i64 c.a) := (h.cells (i := 3) rfl).1
theorem XAt.stk (h : XAt b c v r W) : W.cell? ⟨b, 16, none⟩ = some v := (h.cells (i := 16) (st_stk h.ps)).1
theorem XAt.hl (h : XAt b c v r W) : W.cell? ⟨b, 17, none⟩ = some (.bool c.hl) := (h.cells (i := 17) (st_hl h.ps)).1
theorem XAt.free (h : XAt b c v r W) {i : Nat} (hi : i < 18) : W.frozen? ⟨b, i, none⟩ = false := (h.cells (i := i) (List.getElem?_eq_getElem (by rw [st_len h.ps]; exact hi))).2
theorem XAt.ptr (h : XAt b c v r W) {k : Nat} (hk : k < 4) : W.rangeAt b (4 + k * 3) (ptr3 (c.ps.getD k ⟨0, 0, 0⟩)) := fun j u hu => by
 have hj : j < 3 := (List.getElem?_eq_some_iff.1 hu).1
 exact (h.cells ((st_ptr h.ps hk hj).trans hu)).1
theorem XAt.st (h : XAt b c v r W) : W.rangeAt b 0 (stCs c v) := fun j u hu => by
 rw [Nat.zero_add]
 exact (h.cells hu).1
theorem XAt.lt (h : XAt b c v r W) : b < W.heap.size := h.blk.2
theorem XAt.same (h : XAt b c v r W) (hb : W'.heap[b]? = W.heap[b]?) (hs : W.heap.size ≤ W'.heap.size) : XAt b c v r W' := ⟨h.ps, h.blk.1.same hb, Nat.lt_of_lt_of_le h.blk.2 hs⟩
theorem XAt.keep (h : XAt b c v r W) (hb : Below W.heap.size W W') : XAt b c v r W' := ⟨h.ps, stab_blk _ _ _ _ h.blk hb⟩
theorem XAt.put (h : XAt b c v r W) {i : Nat} (hi : i < 18) (u : Value) (h4 : c'.ps.length = 4) (he : (stCs c v).set i u = stCs c' v') : XAt b c' v' r (W.setCell ⟨b, i, none⟩ u) := by
 have h1 := h.blk.1.set i u (by rw [List.length_append, st_len h.ps]; omega)
 rw [List.set_append_left _ _ (by rw [st_len h.ps]; exact hi), he] at h1
 exact ⟨h4, h1, h1.lt (List.getElem?_eq_getElem (by rw [List.length_append, st_len h4]; omega : 0 < (stCs c' v' ++ r).length))⟩
theorem XAt.putT (h : XAt b c v r W) {i : Nat} (hi : i < r.length) (u : Value) : XAt b c v (r.set i u) (W.setCell ⟨b, 18 + i, none⟩ u) := by
 have h1 := h.blk.1.set (18 + i) u (by rw [List.length_append, st_len h.ps]; omega)
 rw [List.set_append_right _ _ (by rw [st_len h.ps]; omega), st_len h.ps, show 18 + i - 18 = i by omega] at h1
 exact ⟨h.ps, h1, h1.lt (List.getElem?_eq_getElem (by rw [List.length_append, st_len h.ps]; omega : 0 < (stCs c v ++ r.set i u).length))⟩
theorem XAt.setSeg (h : XAt b c v r W) (x : Int) : XAt b { c with seg := x } v r (W.setCell ⟨b, 0, none⟩ (.int .i64 x)) := h.put (by omega) _ h.ps rfl
theorem XAt.setOff (h : XAt b c v r W) (x : Int) : XAt b { c with off := x } v r (W.setCell ⟨b, 1, none⟩ (.int .i64 x)) := h.put (by omega) _ h.ps rfl
theorem XAt.setRing (h : XAt b c v r W) (x : Int) : XAt b { c with ring := x } v r (W.setCell ⟨b, 2, none⟩ (.int .i64 x)) := h.put (by omega) _ h.ps rfl
theorem XAt.setA (h : XAt b c v r W) (x : Int) : XAt b { c with a := x } v r (W.setCell ⟨b, 3, none⟩ (.int .i64 x)) := h.put (by omega) _ h.ps rfl
theorem XAt.setStk (h : XAt b c v r W) (u : Value) : XAt b c u r (W.setCell ⟨b, 16, none⟩ u) := h.put (by omega) _ h.ps (st_setStk h.ps v u)
theorem st_setHl (h : c.ps.length = 4) (v : Value) (x : Bool) : (stCs c v).set 17 (.bool x) = stCs { c with hl := x } v := by
 obtain ⟨p0, p1, p2, p3, hl⟩ := four h
 obtain ⟨s, o, rg, a, ps, st, hl'⟩ := c
 simp only at hl
 subst hl
 rfl
theorem XAt.setHl (h : XAt b c v r W) (x : Bool) : XAt b { c with hl := x } v r (W.setCell ⟨b, 17, none⟩ (.bool x)) := h.put (by omega) _ h.ps (st_setHl h.ps v x)
theorem st_setPtr (h : c.ps.length = 4) (v : Value) {k : Nat} (hk : k < 4) (q : Ptr) : setM (stCs c v) (4 + k * 3) (ptr3 q) = stCs { c with ps := c.ps.set k q } v := by
 obtain ⟨p0, p1, p2, p3, hl⟩ := four h
 obtain ⟨s, o, rg, a, ps, st, hl'⟩ := c
 simp only at hl
 subst hl
 match k, hk with
 | 0, _ => rfl
 | 1, _ => rfl
 | 2, _ => rfl
 | 3, _ => rfl
theorem setM_append : ∀ (vs : List Value) (xs ys : List Value) (k : Nat), k + vs.length ≤ xs.length → setM (xs ++ ys) k vs = setM xs k vs ++ ys
 | [], _, _, _, _ => rfl
 | v :: t, xs, ys, k, h => by
  simp at h
  rw [setM, setM, List.set_append_left _ _ (by omega)]
  exact setM_append t _ ys (k + 1) (by simp; omega)
theorem XAt.setPtr (h : XAt b c v r W) {k : Nat} (hk : k < 4) (q : Ptr) : ∃ W', W.setCells b (4 + k * 3) (ptr3 q) = W' ∧ W.there b (4 + k * 3) (ptr3 q).length ∧ XAt b { c with ps := c.ps.set k q } v r W' ∧ (∀ B W0, B ≤ b → Below B W0 W → Below B W0 W') ∧ ∀ j, j ≠ b → W'.heap[j]? = W.heap[j]? := by
 have hl : 4 + k * 3 + (ptr3 q).length ≤ (stCs c v ++ r).length := by rw [List.length_append, st_len h.ps, ptr3_len]; omega
 have h1 := Blk.putM (ptr3 q) (4 + k * 3) h.blk.1 hl
 rw [setM_append _ _ _ _ (by rw [st_len h.ps, ptr3_len]; omega), st_setPtr h.ps v hk q] at h1
 have h4 : ({ c with ps := c.ps.set k q } : Cp).ps.length = 4 := by show (c.ps.set k q).length = 4; rw [List.length_set]; exact h.ps
 refine ⟨_, rfl, h.blk.1.thereM _ _ hl, ⟨h4, h1, h1.lt (List.getElem?_eq_getElem (by rw [List.length_append, st_len h4]; omega : 0 < (stCs { c with ps := c.ps.set k q } v ++ r).length))⟩, fun B W0 hB hb => Below.cells hB _ _ hb, fun j hj => heap_setCells_other hj _ _ _⟩
end
theorem Sole.set {bx : Nat} {w w' : World} (h : Sole bx w w') (o : Nat) (u : Value) : Sole bx w (w'.setCell ⟨bx, o, none⟩ u) := ⟨h.os, h.tape, h.output, by simpa using h.size, fun j hj hn => (heap_setCell_other _ ⟨bx, o, none⟩ j _ hn).trans (h.block j hj hn)⟩
theorem Sole.cells {bx b : Nat} {w w' : World} (h : Sole bx w w') (hb : b = bx ∨ w.heap.size ≤ b) (o : Nat) (us : List Value) : Sole bx w (w'.setCells b o us) := by
 have k := Below.cells (B := 0) (b := b) (Nat.zero_le _) us o (Below.refl 0 w')
 exact ⟨k.os.trans h.os, k.tape.trans h.tape, k.output.trans h.output, Nat.le_trans h.size k.size, fun j hj hn => (heap_setCells_other (by omega) us o w').trans (h.block j hj hn)⟩
theorem Sole.blk {bx b : Nat} {cs : List Value} {w w' : World} (h : Sole bx w w') (hb : BlkL b cs w) (hn : b ≠ bx) : BlkL b cs w' := ⟨hb.1.same (h.block b hb.2 hn), Nat.lt_of_lt_of_le hb.2 h.size⟩
theorem Sole.below {bx L : Nat} {w0 w w' : World} (h : Sole bx w w') (hb : Below L w0 w) (hL : L ≤ bx) (hs : L ≤ w.heap.size) : Below L w0 w' := hb.trans ⟨h.os, h.tape, h.output, h.size, fun j hj => h.block j (Nat.lt_of_lt_of_le hj hs) (by omega)⟩
theorem Sole.own {α : Type} {e : TypeId} {sz : Nat} {f : α → List Value} {bx base : Nat} {w w' : World} {v : Value} {l : List α} (h : Sole bx w w') (ho : OwnR e sz f w base v l) (hn : v.ownBlock ≠ some bx) : OwnR e sz f w' base v l := ho.keep fun k hk => h.block k (ho.lt hk).2 (fun q => hn (by rw [hk, q]))
def thr (e : Int) : List PanicEntry := [{ v := .iface 192 (.int .i64 e), recovered := false }]
theorem diedC {P : Program} {fn : Func} {R : Ending → World → Prop} {a : Act} {w : World} {ch : List PanicEntry} (h : R (.panicked ch) w) (ha : a.defers = [] := by rfl) : bodyPost P fn R (.panic ch) a w := ⟨ha, h⟩
end Go.Proofs.YtidihdiffiffmaaGreatDoor
namespace Go.Proofs.YtidihdiffiffmaaGreatDoor
open Go.RowKit
set_option maxRecDepth 8000
set_option linter.unusedSimpArgs false
set_option linter.unusedVariables false
theorem BlkL.mid {b k : Nat} {cs ds : List Value} {W : World} (h : BlkL b cs W) (hd : ∀ j u, ds[j]? = some u → cs[k + j]? = some u) : W.rangeAt b k ds := fun j u hu => (h.1 _ u (hd j u hu)).1
theorem StAt.putPtr {b : Nat} {c c' : Cp} {v : Value} {W : World} (h : StAt b c v W) {k : Nat} (hk : k < 4) (q : Ptr) (h4 : c'.ps.length = 4) (he : setM (stCs c v) (4 + k * 3) (ptr3 q) = stCs c' v) : ∃ W', W.setCells b (4 + k * 3) (ptr3 q) = W' ∧ W.there b (4 + k * 3) (ptr3 q).length ∧ StAt b c' v W' ∧ (∀ B W0, B ≤ b → Below B W0 W → Below B W0 W') ∧ ∀ j, j ≠ b → W'.heap[j]? = W.heap[j]? := by
 have hl : 4 + k * 3 + (ptr3 q).length ≤ (stCs c v).length := by rw [st_len h.ps, ptr3_len]; omega
 have h1 := Blk.putM (ptr3 q) (4 + k * 3) h.blk.1 hl
 rw [he] at h1
 exact ⟨_, rfl, h.blk.1.thereM _ _ hl, ⟨h4, h1, h1.lt (List.getElem?_eq_getElem (by rw [st_len h4]; decide : 0 < (stCs c' v).length))⟩, fun B W0 hB hb => Below.cells hB _ _ hb, fun j hj => heap_setCells_other hj _ _ _⟩
def SV (v : Value) (st : List Fr) (W : World) : Prop := ∃ a cap, v = .slice a st.length cap ∧ (a = none → cap = 0) ∧ RowAt 3 frc W a st
theorem SV.nil (W : World) : SV nilS [] W := ⟨none, 0, rfl, fun _ => rfl, fun j x h => by simp at h⟩
theorem SV.own {v : Value} {st : List Fr} {W : World} {L : Nat} (h : OwnR 102 3 frc W L v st) : SV v st W := by
 obtain ⟨a, cap, hv, -, hn, hr⟩ := h.slice frc_len
 exact ⟨a, cap, hv, hn, hr⟩
theorem SV.below {v : Value} {st : List Fr} {W W' : World} (h : SV v st W) (hb : Below W.heap.size W W') : SV v st W' := by
 obtain ⟨a, cap, hv, hn, hr⟩ := h
 exact ⟨a, cap, hv, hn, hr.below frc_len hb⟩
theorem SV.one {v : Value} {st : List Fr} {W : World} (h : SV v st W) : v.oneCell' = true := by
 obtain ⟨a, cap, hv, hn, hr⟩ := h
 rw [hv]
 rfl
theorem i64C_load (w : World) (y : Addr) (v : Value) (h : w.cell? y = some v) : (Instr.loadAt 2 (.pointer (some y))).run Tryz.prog w = .ok v w := by
 have h1 := Tryz.underlying2
 go_simp
section
variable {ops : Array Oper} {o : Oper} {a : Act} {w : World} {Q : Exit → Act → World → Prop} {T : TypeId}
end
def scl (p : ByteArray) : List Value := [.string p]
structure MG (m : List PG) : Prop where
 len : m.length < 1000000
 ok : ∀ x ∈ m, x.g.Ok
 cap : ∀ x ∈ m, x.wa = none → x.wc = 0
def HV (v : Value) : Prop := ∀ a2 n2 c2, v = .slice a2 n2 c2 → n2 ≤ c2
theorem HV.nil : HV nilS := fun a n c h => by
 injection h with h1 h2 h3
 omega
end Go.Proofs.YtidihdiffiffmaaGreatDoor
namespace Go.Proofs.YtidihdiffiffmaaGreatDoor
open Go.RowKit
set_option maxRecDepth 8000
set_option linter.unusedSimpArgs false
set_option linter.unusedVariables false
set_option maxHeartbeats 400000 in
theorem w17_any (k m : Int) (h0 : 0 < m) (h1 : m < 1000000000000) (w : World) :
    Calls Tryz.prog 11 #[.int .i64 k, .int .i64 m] w fun e w' => e = .returned (.int .i64 (k % m)) ∧ w' = w := by
 have b1 := Int.lt_tmod_of_pos k h0
 have b2 := Int.tmod_lt_of_pos k h0
 have hm0 : ¬ m = 0 := by omega
 have hm1 : ¬ m = -1 := by omega
 by_cases hn : k.tmod m < 0
 ·have e1 : k % m = k.tmod m + m := by
    rw [Int.tmod_eq_emod] at hn ⊢
    split at hn
    ·have := Int.emod_nonneg k (by omega : m ≠ 0); omega
    ·rename_i hc; rw [if_neg hc]; rw [Int.natAbs_of_nonneg (by omega)]; omega
  rw [e1]
  clear e1
  go_enter Tryz.func11, Tryz.ntmps11
  go_wp2
  go_ret
  exact ⟨rfl, rfl⟩
 ·have e1 : k % m = k.tmod m := by
    rw [Int.tmod_eq_emod] at hn ⊢
    split
    ·simp
    ·rename_i hc
     rw [if_neg hc] at hn
     have := Int.emod_lt_of_pos k h0
     rw [Int.natAbs_of_nonneg (by omega)] at *
     omega
  rw [e1]
  clear e1
  go_enter Tryz.func11, Tryz.ntmps11
  go_wp2
  go_ret
  exact ⟨rfl, rfl⟩
theorem in_okW : ElemOk 80 81 3 ins3 :=
 ⟨Tryz.underlying81, by
  obtain ⟨i, h1, h2, h3, h4⟩ := info_of (e := 80) (z := .agg #[.int .i64 0, .int .i64 0, .int .i64 0]) (sz := 3) (b := 24) (by kernel_rfl)
  exact ⟨i, _, _, h1, h2, h3, h4, rfl, by omega⟩, by omega, fun _ => rfl, fun x u hu => by simp [ins3] at hu; rcases hu with rfl | rfl | rfl <;> rfl⟩
def wordI (i : Ins) : Int := insW { goodI i with n := i.n % 10 - 2 }
def wordsN (l : List Ins) : List Int := (l.take 16).map wordI
theorem wordsN_len (l : List Ins) : (wordsN l).length ≤ 16 := by
 unfold wordsN
 rw [List.length_map, List.length_take]
 omega
theorem wordsN_fit (l : List Ins) : ∀ x ∈ wordsN l, -9223372036854775808 ≤ x ∧ x ≤ 9223372036854775807 := fun x hx => by
 obtain ⟨i, _, rfl⟩ := List.mem_map.1 hx
 exact insW_fit _
theorem appW {t : TypeId} {u v r : Value} {w w' : World} (x y : Operand) (hc : (Builtin.append_ #[t, t] t #[u, v]).run Tryz.prog w = .ok r w') {ops : Array Oper} {o : Oper} {rest : List Oper} {Q : Exit → Act → World → Prop} {a : Act} (h1 : o.guard = none) (h2 : o.op = .call { callee := .builtin .append, args := #[x, y], argTypes := #[t, t] }) (h3 : o.type = t) (h4 : a.eval x = u) (h5 : a.eval y = v) (h6 : wpList Tryz.prog ops Q rest (a.put o.dst r) w') : wpList Tryz.prog ops Q (o :: rest) a w := wpList_append h1 x y h2 h3 h4 h5 hc h6
set_option maxRecDepth 8000 in
set_option maxHeartbeats 4000000 in
theorem pwords_any (ia : Option Addr) (ic : Nat) (is : List Ins) (hl : is.length ≤ 9223372036854775807) (w : World) (h : RowAt 3 ins3 w ia is) :
    Calls Tryz.prog 42 #[.agg #[.slice ia is.length ic]] w fun e w' => ∃ v, e = .returned v ∧ OwnR 2 1 wcl w' w.heap.size v (wordsN is) ∧ Below w.heap.size w w' := by
 have hundI := Tryz.underlying80
 have hszI : (Tryz.prog.info? 80).map (·.size) = some 3 := by kernel_rfl
 obtain ⟨n, hn⟩ : ∃ n, is.length = n := ⟨_, rfl⟩
 rw [hn] at hl ⊢
 replace hn : Aside (is.length = n) := hn
 have hb0 := blkl_alloc w #[.slice ia n ic] 92
 have hB0 := alloc_below w (.cells #[.slice ia n ic] 92)
 have x0 := (hb0.1 0 _ rfl).1
 have hW0 : w.heap.size < (w.alloc (.cells #[.slice ia n ic] 92)).heap.size := hb0.2
 clear hb0
 go_enter Tryz.func42, Tryz.ntmps42
 go_upto_region 2 with fail
 generalize w.alloc (.cells #[.slice ia n ic] 92) = W0 at *
 go_wp2_with fail
 go_loopw [3, 4] (fun t3 t4 wr => ∃ (k : Nat) (v : Value), k ≤ n ∧ k ≤ 16 ∧ t4 = .int .i64 (k : Int) ∧ v = t3 ∧ OwnR 2 1 wcl wr (w.heap.size + 1) v ((is.take k).map wordI) ∧ wr.cell? ⟨w.heap.size, 0, none⟩ = some (.slice ia n ic) ∧ Below w.heap.size w wr ∧ w.heap.size + 1 ≤ wr.heap.size) (fun _ t4 _ => 16 - (Go.RowKit.intOf t4).toNat)
 case atStart => exact ⟨0, _, by omega, by omega, rfl, rfl, OwnR.nil _ _ _ _ _, x0, hB0, by omega⟩
 case round =>
  clear x0 hB0 hW0
  obtain ⟨k, v, hk, hk16, rfl, rfl, ho, x0, hB, hz⟩ := hrel
  by_cases hlt : k < n ∧ k < 16
  ·obtain ⟨i, hi⟩ : ∃ i, is[k]? = some i := ⟨_, List.getElem?_eq_getElem (by rw [hn.out]; exact hlt.1)⟩
   have hrow := h.below in_okW.len hB
   have hrow2 := hrow
   obtain ⟨y, rfl, hyc⟩ := hrow2 k i hi
   have hci := hrow.at in_okW.len hi
   have i1 : (k : Int) < (n : Int) := by omega
   have i2 : (k : Int) < 16 := by omega
   have i3 : ¬ (k : Int) < 0 := by omega
   have kg := igood_any i wr
   have hszX : (Tryz.prog.info? 80).map (·.size) = some (ins3 i).length := hszI
   clear hrow
   go_upto_region 5 with fail
   go_wp2_with (first | (refine wpList_load_at rfl _ rfl (y.add (k * 3)) rfl (ins3 i) hci hundI rfl hszX ?_) | fail)
   refine kg.mono ?_
   rintro e W1 ⟨rfl, hb1⟩
   obtain ⟨W2, hW2, hth2, hbx, hB2⟩ := put_new W1 #[.int .i64 0, .int .i64 0, .int .i64 0] 80 (ins3 (goodI i)) rfl (by rw [show (ins3 (goodI i)).length = 3 from rfl]; decide)
   have hog : ∀ u ∈ ins3 (goodI i), u.oneCell' = true := fun u hu => in_okW.one _ u hu
   have hb12 := Below.then hb1 hB2
   have x2 := (hb12.cell (World.block_lt_of_cell? _ _ x0)).trans x0
   have hyc2 := hyc 2 (by decide)
   have hy2 := (hb12.cell (World.block_lt_of_cell? _ _ hyc2)).trans hyc2
   have ho2 := ho.below hb12
   have hBB2 := Below.then hB hb12
   have hz2 := hb12.size
   have hwz : w.heap.size + 1 ≤ W1.heap.size := Nat.le_trans hz hb1.size
   have hsg : (Tryz.prog.info? 80).map (·.size) = some (ins3 (goodI i)).length := hszI
   have hoL : ∀ q, v.ownBlock = some q → q < wr.heap.size := fun q hq => (ho.lt hq).2
   have hz1 : wr.heap.size ≤ W1.heap.size := hb1.size
   clear hci hyc kg hb1 hB2 hb12 x0 hB
   go_upto_region 6 with (first | (refine wpList_store_row rfl _ _ rfl W1.heap.size rfl (ins3 (goodI i)) rfl hth2 hsg hog hW2 ?_) | fail)
   clear hth2 hW2
   have kw := fun W => w17_any i.n 10 (by decide) (by decide) W
   rw [add_off _ _ 2 (by decide)] at hy2
   replace hy2 : W2.cell? ⟨(y.add (k * 3)).block, (y.add (k * 3)).off + 2, none⟩ = some (.int .i64 i.n) := hy2
   obtain ⟨qc, qf⟩ := hbx.1 2 (.int .i64 (goodI i).n) rfl
   go_wp2_with fail
   refine (kw W2).mono ?_
   rintro e W3 ⟨rfl, rfl⟩
   have hx3 : BlkL W1.heap.size (ins3 { goodI i with n := i.n % 10 - 2 }) (W3.setCell ⟨W1.heap.size, 2, none⟩ (.int .i64 (i.n % 10 - 2))) := by
    have h1 := hbx.1.set 2 (.int .i64 (i.n % 10 - 2)) (show 2 < 3 by decide)
    exact ⟨h1, by simpa using hbx.2⟩
   have hm1 := Int.emod_nonneg i.n (by decide : (10 : Int) ≠ 0)
   have hm2 := Int.emod_lt_of_pos i.n (by decide : (0 : Int) < 10)
   have hwr : IntKind.i64.wrap (i.n % 10 - 2) = i.n % 10 - 2 := by rw [IntKind.wrap_i64]; omega
   have ho3 : OwnR 2 1 wcl (W3.setCell ⟨W1.heap.size, 2, none⟩ (.int .i64 (i.n % 10 - 2))) (w.heap.size + 1) v ((is.take k).map wordI) := by
    refine ho2.keep fun j hj => heap_setCell_other W3 ⟨W1.heap.size, 2, none⟩ j _ ?_
    intro q
    have h1 := hoL j hj
    have q2 : j = W1.heap.size := q
    omega
   have x3 : (W3.setCell ⟨W1.heap.size, 2, none⟩ (.int .i64 (i.n % 10 - 2))).cell? ⟨w.heap.size, 0, none⟩ = some (.slice (some y) n ic) := (World.cell?_of_block (a := ⟨w.heap.size, 0, none⟩) (heap_setCell_other W3 ⟨W1.heap.size, 2, none⟩ w.heap.size _ (show w.heap.size ≠ W1.heap.size by omega))).trans x2
   have hB3 : Below w.heap.size w (W3.setCell ⟨W1.heap.size, 2, none⟩ (.int .i64 (i.n % 10 - 2))) := hBB2.setCell (by show w.heap.size ≤ W1.heap.size; omega) _
   have hz3 : wr.heap.size ≤ (W3.setCell ⟨W1.heap.size, 2, none⟩ (.int .i64 (i.n % 10 - 2))).heap.size := by simpa using hz2
   clear x2 hy2 ho2 hBB2 hz2 hbx kw
   go_upto_region 7 with fail
   clear qc qf hwr hm1 hm2
   generalize W3.setCell ⟨W1.heap.size, 2, none⟩ (.int .i64 (i.n % 10 - 2)) = W4 at *
   have ke := riEnc_any { goodI i with n := i.n % 10 - 2 } W4
   have hxr := hx3.range
   have hwI : Aside (insW { goodI i with n := i.n % 10 - 2 } = wordI i) := rfl
   have hsg2 : (Tryz.prog.info? 80).map (·.size) = some (ins3 { goodI i with n := i.n % 10 - 2 }).length := hszI
   obtain ⟨j, hj⟩ : ∃ j : Ins, { goodI i with n := i.n % 10 - 2 } = j := ⟨_, rfl⟩
   rw [hj] at ke hx3 hxr hwI hsg2
   clear hj hx3
   go_wp2_with (first | (refine wpList_load_row rfl _ rfl W1.heap.size rfl (ins3 j) hxr hundI rfl hsg2 ?_) | fail)
   refine ke.mono ?_
   rintro e W5 ⟨rfl, hb5⟩
   rw [hwI.out]
   have ho5 := ho3.below hb5
   have x5 := (hb5.cell (World.block_lt_of_cell? _ _ x3)).trans x3
   have hB5 := Below.then hB3 hb5
   have hz5 := hb5.size
   obtain ⟨v6, W6, hap, ho6, hgr⟩ := OwnR.push wd_okC ho5 (show w.heap.size + 1 ≤ W5.heap.size by omega) (wordI i) (wcl (wordI i)).toArray rfl 2 (by rw [List.length_map, List.length_take]; omega)
   have hap2 := @appW _ _ _ _ _ _ (.tmp 39) (.tmp 41) (show (Builtin.append_ #[34, 34] 34 #[v, .slice (some ⟨W5.heap.size, 0, none⟩) 1 1]).run Tryz.prog (W5.alloc (.cells #[.int .i64 (wordI i)] 2)) = .ok v6 W6 from hap)
   have htk : (is.take k).map wordI ++ [wordI i] = (is.take (k + 1)).map wordI := by
    rw [List.take_add_one, hi, List.map_append]
    rfl
   rw [htk] at ho6
   have hb6 := ho5.grew_below (show w.heap.size + 1 ≤ W5.heap.size by omega) hgr
   have x6 := (hb6.cell (p := ⟨w.heap.size, 0, none⟩) (by show w.heap.size < w.heap.size + 1; omega)).trans x5
   have hB6 : Below w.heap.size w W6 := hB5.trans ⟨hb6.os, hb6.tape, hb6.output, hb6.size, fun q hq => hb6.block q (by omega)⟩
   have hz6 := hb6.size
   clear ke hxr ho3 x3 hB3 ho5 x5 hB5 hap hgr hb6 htk hwI
   go_wp2_with (first | (refine hap2 rfl rfl rfl rfl rfl ?_) | fail)
   exact ⟨⟨k + 1, v6, by omega, by omega, by simp, rfl, ho6, x6, hB6, by omega⟩, by simp [Go.RowKit.intOf]; omega⟩
  ·have hfin : (is.take k).map wordI = wordsN is := by
     unfold wordsN
     congr 1
     by_cases q : k = 16
     ·rw [q]
     ·have : k = n := by omega
      rw [List.take_of_length_le (by rw [hn.out]; omega), List.take_of_length_le (by rw [hn.out]; omega)]
   rw [hfin] at ho
   by_cases q : k < n
   ·have i1 : (k : Int) < (n : Int) := by omega
    have i2 : ¬ (k : Int) < 16 := by omega
    go_wp2_with fail
    go_ret
    exact ⟨_, rfl, ho.lower (by omega), hB⟩
   ·have i1 : ¬ (k : Int) < (n : Int) := by omega
    go_wp2_with fail
    go_ret
    exact ⟨_, rfl, ho.lower (by omega), hB⟩
end Go.Proofs.YtidihdiffiffmaaGreatDoor
namespace Go.Proofs.YtidihdiffiffmaaGreatDoor
open Go.RowKit
set_option maxRecDepth 8000
set_option linter.unusedSimpArgs false
set_option linter.unusedVariables false
def st (h c : Nat) : Nat := (1099511628211 * (h ^^^ c)) % 18446744073709551616
def chain (h : Nat) (l : List UInt8) : Nat := l.foldl (fun h c => st h c.toNat) h
def BytesAt (w : World) (a : Option Addr) (n : Nat) (l : List UInt8) : Prop :=
 l.length = n ∧ ∀ j, j < n → ∃ y, a = some y ∧ w.cell? (y.add j) = some (.int .u8 ((l.getD j 0).toNat : Int))
theorem BytesAt.below {w w' : World} {a : Option Addr} {n : Nat} {l : List UInt8} (h : BytesAt w a n l) (b : Below w.heap.size w w') : BytesAt w' a n l := by
 refine ⟨h.1, fun j hj => ?_⟩
 obtain ⟨y, hy, hc⟩ := h.2 j hj
 exact ⟨y, hy, (b.cell (World.block_lt_of_cell? _ _ hc)).trans hc⟩
end Go.Proofs.YtidihdiffiffmaaGreatDoor
namespace Go.Proofs.YtidihdiffiffmaaGreatDoor
open Go.RowKit
set_option maxRecDepth 8000
set_option linter.unusedSimpArgs false
set_option linter.unusedVariables false
def valsB (l : List UInt8) : List Value := l.map fun c => .int .u8 (c.toNat : Int)
def OwnB (w : World) (base : Nat) (v : Value) (l : List UInt8) : Prop := w.ownsRow base 5 1 v l.length (valsB l)
theorem OwnB.slice {w : World} {base : Nat} {v : Value} {l : List UInt8} (h : OwnB w base v l) : ∃ a cap, v = .slice a l.length cap ∧ BytesAt w a l.length l := by
 have hrow : w.ownsRow base 5 1 v l.length (valsB l) := h
 rcases h.2 with ⟨rfl, h2⟩ | ⟨g, cap, cur, rfl, _⟩
 ·exact ⟨none, 0, by rw [h2], rfl, fun j hj => by omega⟩
 ·refine ⟨_, cap, rfl, rfl, fun j hj => ⟨_, rfl, ?_⟩⟩
  rw [add_at g j, hrow.cellAt j (by omega)]
  simp [valsB, List.getElem?_eq_getElem hj, List.getD_eq_getElem?_getD]
theorem OwnB.below {w w' : World} {base : Nat} {v : Value} {l : List UInt8} (h : OwnB w base v l) (b : Below w.heap.size w w') : OwnB w' base v l := by
 refine ⟨h.1, ?_⟩
 rcases h.2 with h1 | ⟨g, cap, cur, hv, hb, hg, rest⟩
 ·exact .inl h1
 ·exact .inr ⟨g, cap, cur, hv, hb, (b.block g (Array.getElem?_eq_some_iff.1 hg).1).trans hg, rest⟩
section
variable {ops : Array Oper} {rest : List Oper} {o : Oper} {a : Act} {w : World} {Q : Exit → Act → World → Prop}
end
end Go.Proofs.YtidihdiffiffmaaGreatDoor
namespace Go.Proofs.YtidihdiffiffmaaGreatDoor
open Go.RowKit
set_option maxRecDepth 8000
set_option linter.unusedSimpArgs false
set_option linter.unusedVariables false
def lowB (x : Int) : UInt8 := UInt8.ofNat (x % 256).toNat
theorem lowB_nat (x : Int) : ((lowB x).toNat : Int) = x % 256 := by
 unfold lowB
 simp [UInt8.toNat_ofNat']
 omega
theorem wrap_u8 (x : Int) : IntKind.u8.wrap x = ((lowB x).toNat : Int) := by rw [lowB_nat, IntKind.wrap_u8]
theorem OwnB.apart {W : World} {base : Nat} {v : Value} {l : List UInt8} (h : OwnB W base v l) : some W.heap.size ≠ v.ownBlock := fun e => by
 have := (World.ownsRow.lt (show W.ownsRow base 5 1 v l.length (valsB l) from h) _ e.symm).2
 omega
section
variable {ops : Array Oper} {rest : List Oper} {o : Oper} {a : Act} {w : World} {Q : Exit → Act → World → Prop}
end
end Go.Proofs.YtidihdiffiffmaaGreatDoor
namespace Go.Proofs.YtidihdiffiffmaaGreatDoor
open Go.RowKit
set_option maxRecDepth 8000
set_option linter.unusedSimpArgs false
set_option linter.unusedVariables false
theorem OwnB.lower {w : World} {base b : Nat} {v : Value} {l : List UInt8} (h : OwnB w base v l) (hb : b ≤ base) : OwnB w b v l := by
 refine ⟨h.1, ?_⟩
 rcases h.2 with h1 | ⟨g, cap, cur, hv, hg, rest⟩
 ·exact .inl h1
 ·exact .inr ⟨g, cap, cur, hv, Nat.le_trans hb hg, rest⟩
structure Msg where
 from_ : ByteArray
 label : Lab
 to_ : ByteArray
 box : Lab
 text : ByteArray
abbrev Msg.v (m : Msg) : Value := .agg #[.string m.from_, .int .i64 m.label.s, .int .i64 m.label.c, .int .i64 m.label.i, .int .i64 m.label.k, .string m.to_, .int .i64 m.box.s, .int .i64 m.box.c, .int .i64 m.box.i, .int .i64 m.box.k, .string m.text]
abbrev MBox (W : World) (g : Nat) (m : Msg) : Prop := W.cell? ⟨g, 0, none⟩ = some (.string m.from_) ∧ W.cell? ⟨g, 1, none⟩ = some (.int .i64 m.label.s) ∧ W.cell? ⟨g, 2, none⟩ = some (.int .i64 m.label.c) ∧ W.cell? ⟨g, 3, none⟩ = some (.int .i64 m.label.i) ∧ W.cell? ⟨g, 4, none⟩ = some (.int .i64 m.label.k) ∧ W.cell? ⟨g, 5, none⟩ = some (.string m.to_) ∧ W.cell? ⟨g, 6, none⟩ = some (.int .i64 m.box.s) ∧ W.cell? ⟨g, 7, none⟩ = some (.int .i64 m.box.c) ∧ W.cell? ⟨g, 8, none⟩ = some (.int .i64 m.box.i) ∧ W.cell? ⟨g, 9, none⟩ = some (.int .i64 m.box.k) ∧ W.cell? ⟨g, 10, none⟩ = some (.string m.text)
theorem MBox.keep {W W' : World} {g : Nat} {m : Msg} (h : MBox W g m) (b : Below (g + 1) W W') : MBox W' g m := by
 obtain ⟨h0, h1, h2, h3, h4, h5, h6, h7, h8, h9, h10⟩ := h
 have c : ∀ k, W'.cell? ⟨g, k, none⟩ = W.cell? ⟨g, k, none⟩ := fun k => b.cell (p := ⟨g, k, none⟩) (Nat.lt_succ_self g)
 exact ⟨(c _).trans h0, (c _).trans h1, (c _).trans h2, (c _).trans h3, (c _).trans h4, (c _).trans h5, (c _).trans h6, (c _).trans h7, (c _).trans h8, (c _).trans h9, (c _).trans h10⟩
end Go.Proofs.YtidihdiffiffmaaGreatDoor
namespace Go.Proofs.YtidihdiffiffmaaGreatDoor
open Go.RowKit
set_option maxRecDepth 8000
set_option linter.unusedSimpArgs false
set_option linter.unusedVariables false
structure Ent where
 seq : Int
 label : Lab
 user : ByteArray
 verb : Int
 object : ByteArray
 verdict : Int
abbrev Ent.v (e : Ent) : Value := .agg #[.int .i64 e.seq, .int .i64 e.label.s, .int .i64 e.label.c, .int .i64 e.label.i, .int .i64 e.label.k, .string e.user, .int .i64 e.verb, .string e.object, .int .i64 e.verdict]
abbrev EBox (W : World) (g : Nat) (e : Ent) : Prop := W.cell? ⟨g, 0, none⟩ = some (.int .i64 e.seq) ∧ W.cell? ⟨g, 1, none⟩ = some (.int .i64 e.label.s) ∧ W.cell? ⟨g, 2, none⟩ = some (.int .i64 e.label.c) ∧ W.cell? ⟨g, 3, none⟩ = some (.int .i64 e.label.i) ∧ W.cell? ⟨g, 4, none⟩ = some (.int .i64 e.label.k) ∧ W.cell? ⟨g, 5, none⟩ = some (.string e.user) ∧ W.cell? ⟨g, 6, none⟩ = some (.int .i64 e.verb) ∧ W.cell? ⟨g, 7, none⟩ = some (.string e.object) ∧ W.cell? ⟨g, 8, none⟩ = some (.int .i64 e.verdict)
theorem EBox.keep {W W' : World} {g : Nat} {e : Ent} (h : EBox W g e) (b : Below (g + 1) W W') : EBox W' g e := by
 obtain ⟨h0, h1, h2, h3, h4, h5, h6, h7, h8⟩ := h
 have c : ∀ k, W'.cell? ⟨g, k, none⟩ = W.cell? ⟨g, k, none⟩ := fun k => b.cell (p := ⟨g, k, none⟩) (Nat.lt_succ_self g)
 exact ⟨(c _).trans h0, (c _).trans h1, (c _).trans h2, (c _).trans h3, (c _).trans h4, (c _).trans h5, (c _).trans h6, (c _).trans h7, (c _).trans h8⟩
end Go.Proofs.YtidihdiffiffmaaGreatDoor
namespace Go.Proofs.YtidihdiffiffmaaGreatDoor
open Go.RowKit
set_option maxRecDepth 8000
set_option linter.unusedSimpArgs false
set_option linter.unusedVariables false
structure Gr where
 u : ByteArray
 m : Int
abbrev Gr.v (g : Gr) : Value := .agg #[.string g.u, .int .i64 g.m]
abbrev zGr : Gr := ⟨⟨#[]⟩, 0⟩
def GrsAt (W : World) (a : Option Addr) (l : List Gr) : Prop := ∀ j q, l[j]? = some q → ∃ y, a = some y ∧ W.cell? (y.add (j * 2)) = some (.string q.u) ∧ W.cell? ⟨(y.add (j * 2)).block, (y.add (j * 2)).off + 1, none⟩ = some (.int .i64 q.m)
theorem GrsAt.below {W W' : World} {a : Option Addr} {l : List Gr} (h : GrsAt W a l) (b : Below W.heap.size W W') : GrsAt W' a l := fun j q hq => by
 obtain ⟨y, hy, h1, h2⟩ := h j q hq
 exact ⟨y, hy, (b.cell (World.block_lt_of_cell? _ _ h1)).trans h1, (b.cell (p := ⟨(y.add (j * 2)).block, _, none⟩) (World.block_lt_of_cell? _ _ h2)).trans h2⟩
end Go.Proofs.YtidihdiffiffmaaGreatDoor
namespace Go.Proofs.YtidihdiffiffmaaGreatDoor
open Go.RowKit
set_option maxRecDepth 8000
set_option linter.unusedSimpArgs false
set_option linter.unusedVariables false
structure Nod where
 path : ByteArray
 dir : Bool
 label : Lab
 acl : List Gr
 r1 : Int
 r2 : Int
 r3 : Int
 gates : Int
 words : List Int
 by_ : Lab
abbrev Nod.v (n : Nod) (aa : Option Addr) (ca : Nat) (wa : Option Addr) (cw : Nat) : Value := .agg #[.string n.path, .bool n.dir, .int .i64 n.label.s, .int .i64 n.label.c, .int .i64 n.label.i, .int .i64 n.label.k, .slice aa n.acl.length ca, .int .i64 n.r1, .int .i64 n.r2, .int .i64 n.r3, .int .i64 n.gates, .slice wa n.words.length cw, .int .i64 n.by_.s, .int .i64 n.by_.c, .int .i64 n.by_.i, .int .i64 n.by_.k]
def WrdsAt (W : World) (a : Option Addr) (l : List Int) : Prop := ∀ j x, l[j]? = some x → ∃ y, a = some y ∧ W.cell? (y.add j) = some (.int .i64 x)
theorem WrdsAt.below {W W' : World} {a : Option Addr} {l : List Int} (h : WrdsAt W a l) (b : Below W.heap.size W W') : WrdsAt W' a l := fun j q hq => by
 obtain ⟨y, hy, h1⟩ := h j q hq
 exact ⟨y, hy, (b.cell (World.block_lt_of_cell? _ _ h1)).trans h1⟩
abbrev NBox (W : World) (g : Nat) (n : Nod) (aa : Option Addr) (ca : Nat) (wa : Option Addr) (cw : Nat) : Prop := W.cell? ⟨g, 0, none⟩ = some (.string n.path) ∧ W.cell? ⟨g, 1, none⟩ = some (.bool n.dir) ∧ W.cell? ⟨g, 2, none⟩ = some (.int .i64 n.label.s) ∧ W.cell? ⟨g, 3, none⟩ = some (.int .i64 n.label.c) ∧ W.cell? ⟨g, 4, none⟩ = some (.int .i64 n.label.i) ∧ W.cell? ⟨g, 5, none⟩ = some (.int .i64 n.label.k) ∧ W.cell? ⟨g, 6, none⟩ = some (.slice aa n.acl.length ca) ∧ W.cell? ⟨g, 7, none⟩ = some (.int .i64 n.r1) ∧ W.cell? ⟨g, 8, none⟩ = some (.int .i64 n.r2) ∧ W.cell? ⟨g, 9, none⟩ = some (.int .i64 n.r3) ∧ W.cell? ⟨g, 10, none⟩ = some (.int .i64 n.gates) ∧ W.cell? ⟨g, 11, none⟩ = some (.slice wa n.words.length cw) ∧ W.cell? ⟨g, 12, none⟩ = some (.int .i64 n.by_.s) ∧ W.cell? ⟨g, 13, none⟩ = some (.int .i64 n.by_.c) ∧ W.cell? ⟨g, 14, none⟩ = some (.int .i64 n.by_.i) ∧ W.cell? ⟨g, 15, none⟩ = some (.int .i64 n.by_.k)
theorem NBox.keep {W W' : World} {g : Nat} {n : Nod} {aa : Option Addr} {ca : Nat} {wa : Option Addr} {cw : Nat} (h : NBox W g n aa ca wa cw) (b : Below (g + 1) W W') : NBox W' g n aa ca wa cw := by
 obtain ⟨h0, h1, h2, h3, h4, h5, h6, h7, h8, h9, h10, h11, h12, h13, h14, h15⟩ := h
 have c : ∀ k, W'.cell? ⟨g, k, none⟩ = W.cell? ⟨g, k, none⟩ := fun k => b.cell (p := ⟨g, k, none⟩) (Nat.lt_succ_self g)
 exact ⟨(c _).trans h0, (c _).trans h1, (c _).trans h2, (c _).trans h3, (c _).trans h4, (c _).trans h5, (c _).trans h6, (c _).trans h7, (c _).trans h8, (c _).trans h9, (c _).trans h10, (c _).trans h11, (c _).trans h12, (c _).trans h13, (c _).trans h14, (c _).trans h15⟩
theorem keepG {W W' : World} {g : Nat} {n : Nod} {aa : Option Addr} {ca : Nat} {wa : Option Addr} {cw : Nat} {y : Addr} {q : Gr} (hy : y.block < g + 1) (h : NBox W g n aa ca wa cw ∧ W.cell? y = some (.string q.u) ∧ W.cell? ⟨y.block, y.off + 1, none⟩ = some (.int .i64 q.m)) (b : Below (g + 1) W W') : NBox W' g n aa ca wa cw ∧ W'.cell? y = some (.string q.u) ∧ W'.cell? ⟨y.block, y.off + 1, none⟩ = some (.int .i64 q.m) :=
 ⟨h.1.keep b, (b.cell hy).trans h.2.1, (b.cell (p := ⟨y.block, _, none⟩) hy).trans h.2.2⟩
end Go.Proofs.YtidihdiffiffmaaGreatDoor
namespace Go.Proofs.YtidihdiffiffmaaGreatDoor
set_option linter.unusedSimpArgs false
set_option linter.unusedVariables false
def lt (a b : ByteArray) : Bool := Op.bytesLess a.toList b.toList
def cmpB (a b : ByteArray) : Int := Lib.compareBytes a.data.toList b.data.toList
theorem cmp_facts : ∀ a b : List UInt8, (Lib.compareBytes a b < 0 ↔ Op.bytesLess a b = true) ∧ (Lib.compareBytes a b = 0 ↔ a = b)
 | [], [] => by simp [Lib.compareBytes, Op.bytesLess]
 | [], _ :: _ => by simp [Lib.compareBytes, Op.bytesLess]
 | _ :: _, [] => by simp [Lib.compareBytes, Op.bytesLess]
 | a :: xs, b :: ys => by
  have ih := cmp_facts xs ys
  unfold Lib.compareBytes Op.bytesLess
  by_cases h1 : a < b
  ·have : a ≠ b := fun e => by subst e; exact UInt8.lt_irrefl _ h1
   simp [h1, this]
  ·by_cases h2 : b < a
   ·have : a ≠ b := fun e => by subst e; exact UInt8.lt_irrefl _ h2
    simp [h1, h2, this]
   ·have h3 : a = b := UInt8.le_antisymm (UInt8.not_lt.1 h2) (UInt8.not_lt.1 h1)
    subst h3
    simp [h1, ih]
theorem cmp_lt (a b : ByteArray) : cmpB a b < 0 ↔ lt a b = true := by
 unfold cmpB lt
 rw [toL, toL]
 exact (cmp_facts _ _).1
theorem cmp_eq0 (a b : ByteArray) : cmpB a b = 0 ↔ a = b := by
 unfold cmpB
 rw [(cmp_facts _ _).2, ← eqs_iff]
 unfold eqs
 rw [toL, toL]
 simp
theorem less_irrefl : ∀ a : List UInt8, Op.bytesLess a a = false
 | [] => rfl
 | a :: xs => by simp [Op.bytesLess, less_irrefl xs, UInt8.lt_irrefl]
theorem less_trans : ∀ a b c : List UInt8, Op.bytesLess a b = true → Op.bytesLess b c = true → Op.bytesLess a c = true
 | _, [], [], _, h => by simp [Op.bytesLess] at h
 | [], [], _ :: _, h, _ => by simp [Op.bytesLess] at h
 | [], _ :: _, [], _, h => by simp [Op.bytesLess] at h
 | [], _ :: _, _ :: _, _, _ => rfl
 | _ :: _, [], _, h, _ => by simp [Op.bytesLess] at h
 | _ :: _, _ :: _, [], _, h => by simp [Op.bytesLess] at h
 | a :: xs, b :: ys, c :: zs, h1, h2 => by
  have ih := less_trans xs ys zs
  simp only [Op.bytesLess] at h1 h2 ⊢
  have hab : a < b ∨ (a = b ∧ Op.bytesLess xs ys = true) := by
   by_cases h : a < b
   ·exact .inl h
   ·right
    by_cases h' : a = b
    ·subst h'; simp [h] at h1; exact ⟨rfl, h1⟩
    ·simp [h, h'] at h1
  have hbc : b < c ∨ (b = c ∧ Op.bytesLess ys zs = true) := by
   by_cases h : b < c
   ·exact .inl h
   ·right
    by_cases h' : b = c
    ·subst h'; simp [h] at h2; exact ⟨rfl, h2⟩
    ·simp [h, h'] at h2
  rcases hab with h | ⟨rfl, h⟩
  ·have : a < c := by
     rcases hbc with k | ⟨rfl, _⟩
     ·exact UInt8.lt_trans h k
     ·exact h
   simp [this]
  ·rcases hbc with k | ⟨rfl, k⟩
   ·simp [k]
   ·simp [ih h k, UInt8.lt_irrefl]
theorem lt_irrefl (a : ByteArray) : lt a a = false := less_irrefl _
theorem lt_trans {a b c : ByteArray} (h : lt a b = true) (k : lt b c = true) : lt a c = true := less_trans _ _ _ h k
theorem lt_ne {a b : ByteArray} (h : lt a b = true) : a ≠ b := fun e => by subst e; rw [lt_irrefl] at h; cases h
theorem lt_asymm {a b : ByteArray} (h : lt a b = true) : lt b a = false := by
 cases hb : lt b a
 ·rfl
 ·have := lt_trans h hb; rw [lt_irrefl] at this; cases this
theorem cmp_anti : ∀ a b : List UInt8, 0 < Lib.compareBytes a b → Op.bytesLess b a = true
 | [], [], h => by simp [Lib.compareBytes] at h
 | [], _ :: _, h => by simp [Lib.compareBytes] at h
 | _ :: _, [], _ => rfl
 | a :: xs, b :: ys, h => by
  have ih := cmp_anti xs ys
  unfold Lib.compareBytes at h
  unfold Op.bytesLess
  by_cases h1 : a < b
  ·simp [h1] at h
  ·by_cases h2 : b < a
   ·simp [h2]
   ·have h3 : a = b := UInt8.le_antisymm (UInt8.not_lt.1 h2) (UInt8.not_lt.1 h1)
    subst h3
    simp [h1] at h ⊢
    exact ih h
theorem lt_total (a b : ByteArray) : lt a b = true ∨ a = b ∨ lt b a = true := by
 rcases Int.lt_trichotomy (cmpB a b) 0 with h | h | h
 ·exact .inl ((cmp_lt a b).1 h)
 ·exact .inr (.inl ((cmp_eq0 a b).1 h))
 ·refine .inr (.inr ?_)
  unfold lt
  rw [toL, toL]
  exact cmp_anti _ _ h
end Go.Proofs.YtidihdiffiffmaaGreatDoor
namespace Go.Proofs.YtidihdiffiffmaaGreatDoor
def star : ByteArray := ⟨#[42]⟩
def may (u : ByteArray) : Bool := eqs u star || name u
def okAcl (a : ByteArray) : List Gr → Bool
 | [] => true
 | g :: r => (may g.u && (lt a g.u && (decide (1 ≤ g.m) && decide (g.m ≤ 7)))) && okAcl g.u r
def chkA (l : List Gr) : Int := if 4 < l.length then 4 else if okAcl ⟨#[]⟩ l = true then 0 else 1
def Sorted (l : List Gr) : Prop := l.Pairwise fun a b => lt a.u b.u = true
theorem okL_sorted : ∀ (l : List Gr) (a : ByteArray), okAcl a l = true → Sorted l ∧ ∀ g ∈ l, lt a g.u = true
 | [], a, _ => ⟨List.Pairwise.nil, by simp⟩
 | g :: r, a, h => by
  simp only [okAcl, Bool.and_eq_true] at h
  obtain ⟨⟨_, h2, _⟩, h3⟩ := h
  obtain ⟨s, hs⟩ := okL_sorted r g.u h3
  refine ⟨List.Pairwise.cons hs s, fun x hx => ?_⟩
  rcases List.mem_cons.1 hx with rfl | hx
  ·exact h2
  ·exact lt_trans h2 (hs x hx)
structure Parts (l : List Gr) (u : ByteArray) (A M B : List Gr) : Prop where
 eq : l = A ++ (M ++ B)
 ahead : ∀ g ∈ A, lt g.u u = true
 behind : ∀ g ∈ B, lt u g.u = true
 mid : M = [] ∨ ∃ m, M = [⟨u, m⟩]
theorem parts_of : ∀ (l : List Gr) (u : ByteArray), Sorted l → ∃ A M B, Parts l u A M B
 | [], u, _ => ⟨[], [], [], rfl, by simp, by simp, .inl rfl⟩
 | g :: r, u, hs => by
  have hp := List.pairwise_cons.1 hs
  rcases lt_total g.u u with h | h | h
  ·obtain ⟨A, M, B, p⟩ := parts_of r u hp.2
   refine ⟨g :: A, M, B, by rw [p.eq]; rfl, fun x hx => ?_, p.behind, p.mid⟩
   rcases List.mem_cons.1 hx with rfl | hx
   ·exact h
   ·exact p.ahead x hx
  ·refine ⟨[], [g], r, rfl, by simp, fun x hx => by rw [← h]; exact hp.1 x hx, .inr ⟨g.m, by rw [← h]⟩⟩
  ·refine ⟨[], [], g :: r, rfl, by simp, fun x hx => ?_, .inl rfl⟩
   rcases List.mem_cons.1 hx with rfl | hx
   ·exact h
   ·exact lt_trans h (hp.1 x hx)
def look (l : List Gr) (u : ByteArray) : Option Int := (l.find? fun g => eqs g.u u).map (·.m)
def modesL (l : List Gr) (u : ByteArray) : Int := (look l u).getD ((look l star).getD 0)
theorem look_none {l : List Gr} {u : ByteArray} (h : ∀ g ∈ l, g.u ≠ u) : look l u = none := by
 unfold look
 rw [List.find?_eq_none.2 (fun g hg => by simp [eqs_ne (h g hg)])]
 rfl
theorem look_append (a b : List Gr) (u : ByteArray) : look (a ++ b) u = (look a u).or (look b u) := by
 unfold look
 rw [List.find?_append]
 cases List.find? (fun g => eqs g.u u) a <;> simp
theorem look_one (u : ByteArray) (m : Int) : look [⟨u, m⟩] u = some m := by simp [look, eqs_self]
theorem look_cons (g : Gr) (r : List Gr) (u : ByteArray) : look (g :: r) u = if eqs g.u u = true then some g.m else look r u := by
 unfold look
 rw [List.find?_cons]
 cases eqs g.u u <;> simp
section
variable {l A M B : List Gr} {u : ByteArray}
theorem Parts.noA (p : Parts l u A M B) : look A u = none := look_none fun g hg => lt_ne (p.ahead g hg)
theorem Parts.noB (p : Parts l u A M B) : look B u = none := look_none fun g hg => (lt_ne (p.behind g hg)).symm
theorem Parts.look (p : Parts l u A M B) : look l u = look M u := by
 rw [p.eq, look_append, look_append, p.noA, p.noB]
 simp
end
end Go.Proofs.YtidihdiffiffmaaGreatDoor
namespace Go.Proofs.YtidihdiffiffmaaGreatDoor
open Go.RowKit
set_option maxRecDepth 8000
set_option linter.unusedSimpArgs false
set_option linter.unusedVariables false
abbrev Nod.rg (n : Nod) : Rg := ⟨n.r1, n.r2, n.r3, n.gates⟩
def rz (n : Nod) : Bool := n.r1 == 0 && (n.r2 == 0 && (n.r3 == 0 && n.gates == 0))
def dirC (n : Nod) : Int := if rz n = true ∧ n.words.length = 0 then 0 else 11
def segC (n : Nod) : Int := if eqs n.path slashS = true then 3 else if chkR n.rg ≠ 0 then chkR n.rg else if 16 < n.words.length then 4 else 0
def nodC (n : Nod) : Int := if checkOf n.path ≠ 0 then checkOf n.path else if chkL n.label ≠ 0 then chkL n.label else if chkL n.by_ ≠ 0 then chkL n.by_ else if chkA n.acl ≠ 0 then chkA n.acl else if n.dir = true then dirC n else segC n
end Go.Proofs.YtidihdiffiffmaaGreatDoor
namespace Go.Proofs.YtidihdiffiffmaaGreatDoor
open Go.RowKit
set_option maxRecDepth 8000
set_option linter.unusedSimpArgs false
set_option linter.unusedVariables false
def findN (l : List Nod) (p : ByteArray) : Option Nod := l.find? fun x => eqs x.path p
def dropN (l : List Nod) (p : ByteArray) : List Nod := l.filter fun x => !eqs x.path p
def putN (l : List Nod) (n : Nod) : List Nod := (dropN l n.path).takeWhile (fun x => lt x.path n.path) ++ n :: (dropN l n.path).dropWhile (fun x => lt x.path n.path)
def isUnder (p : ByteArray) (x : Nod) : Bool := !eqs x.path slashS && eqs (parentOf x.path) p
def underN (l : List Nod) (p : ByteArray) : List ByteArray := (l.filter (isUnder p)).map fun x => lastOf x.path
def behind : Option ByteArray → ByteArray → Bool
 | none, _ => true
 | some q, u => lt q u
/-! Lists that stand by their paths. -/
def Ordered (l : List Nod) : Prop := l.Pairwise fun a b => lt a.path b.path = true
theorem Ordered.uniq {l : List Nod} (h : Ordered l) {x y : Nod} (hx : x ∈ l) (hy : y ∈ l) (e : x.path = y.path) : x = y := by
 induction l with
 | nil => cases hx
 | cons a r ih =>
  obtain ⟨h1, h2⟩ := List.pairwise_cons.1 h
  rcases List.mem_cons.1 hx with hx1 | hx1
  ·rcases List.mem_cons.1 hy with hy1 | hy1
   ·rw [hx1, hy1]
   ·have := lt_ne (h1 y hy1)
    exact absurd (by rw [← hx1]; exact e) this
  ·rcases List.mem_cons.1 hy with hy1 | hy1
   ·have := lt_ne (h1 x hx1)
    exact absurd (by rw [← hy1]; exact e.symm) this
   ·exact ih h2 hx1 hy1
theorem find_some {l : List Nod} {p : ByteArray} {x : Nod} (h : findN l p = some x) : x ∈ l ∧ x.path = p := by
 unfold findN at h
 exact ⟨List.mem_of_find?_eq_some h, eqs_iff.1 (by simpa using List.find?_some h)⟩
theorem find_none {l : List Nod} {p : ByteArray} (h : findN l p = none) : ∀ x ∈ l, x.path ≠ p := fun x hx e => by
 unfold findN at h
 have := List.find?_eq_none.1 h x hx
 rw [e, eqs_self] at this
 exact this rfl
theorem find_mem {l : List Nod} (h : Ordered l) {x : Nod} (hx : x ∈ l) : findN l x.path = some x := by
 cases hf : findN l x.path with
 | none => exact absurd rfl (find_none hf x hx)
 | some y =>
  obtain ⟨hy, e⟩ := find_some hf
  rw [h.uniq hy hx e]
theorem drop_mem {l : List Nod} {p : ByteArray} {x : Nod} : x ∈ dropN l p ↔ x ∈ l ∧ x.path ≠ p := by
 unfold dropN
 rw [List.mem_filter]
 constructor
 ·rintro ⟨h1, h2⟩
  refine ⟨h1, fun e => ?_⟩
  rw [e, eqs_self] at h2
  cases h2
 ·rintro ⟨h1, h2⟩
  exact ⟨h1, by rw [eqs_ne h2]; rfl⟩
theorem drop_ordered {l : List Nod} (h : Ordered l) (p : ByteArray) : Ordered (dropN l p) := List.Pairwise.filter _ h
theorem take_while {α : Type} {f : α → Bool} : ∀ (l : List α), ∀ x ∈ l.takeWhile f, f x = true
 | [], x, h => by simp at h
 | a :: r, x, h => by
  rw [List.takeWhile_cons] at h
  split at h
  ·rcases List.mem_cons.1 h with rfl | h
   ·assumption
   ·exact take_while r x h
  ·cases h
theorem drop_while_gt {n : Nod} : ∀ (l : List Nod), Ordered l → (∀ x ∈ l, x.path ≠ n.path) → ∀ x ∈ l.dropWhile (fun x => lt x.path n.path), lt n.path x.path = true
 | [], _, _, x, h => by simp at h
 | a :: r, ho, hn, x, h => by
  obtain ⟨h1, h2⟩ := List.pairwise_cons.1 ho
  rw [List.dropWhile_cons] at h
  split at h
  ·exact drop_while_gt r h2 (fun y hy => hn y (List.mem_cons_of_mem _ hy)) x h
  ·rename_i hlt
   have ha : lt n.path a.path = true := by
    rcases lt_total a.path n.path with h | h | h
    ·exact absurd h hlt
    ·exact absurd h (hn a List.mem_cons_self)
    ·exact h
   rcases List.mem_cons.1 h with rfl | h
   ·exact ha
   ·exact lt_trans ha (h1 x h)
theorem put_mem {l : List Nod} {n x : Nod} : x ∈ putN l n ↔ x = n ∨ (x ∈ l ∧ x.path ≠ n.path) := by
 unfold putN
 rw [← drop_mem]
 generalize dropN l n.path = m
 rw [List.mem_append, List.mem_cons]
 have e : ∀ y, y ∈ m ↔ y ∈ m.takeWhile (fun x => lt x.path n.path) ∨ y ∈ m.dropWhile (fun x => lt x.path n.path) := fun y => by
  rw [← List.mem_append, List.takeWhile_append_dropWhile]
 rw [e x]
 constructor
 ·rintro (h | rfl | h)
  ·exact .inr (.inl h)
  ·exact .inl rfl
  ·exact .inr (.inr h)
 ·rintro (rfl | h | h)
  ·exact .inr (.inl rfl)
  ·exact .inl h
  ·exact .inr (.inr h)
theorem put_ordered {l : List Nod} (h : Ordered l) (n : Nod) : Ordered (putN l n) := by
 unfold putN
 have hm : ∀ x ∈ dropN l n.path, x.path ≠ n.path := fun x hx => (drop_mem.1 hx).2
 have ho := drop_ordered h n.path
 generalize dropN l n.path = m at *
 have h1 := take_while (f := fun x : Nod => lt x.path n.path) m
 have h2 := drop_while_gt m ho hm
 refine List.pairwise_append.2 ⟨?_, List.pairwise_cons.2 ⟨h2, ?_⟩, ?_⟩
 ·exact List.Pairwise.sublist (List.takeWhile_sublist _) ho
 ·exact List.Pairwise.sublist (List.dropWhile_sublist _) ho
 ·intro a ha b hb
  have ha' := h1 a ha
  rcases List.mem_cons.1 hb with rfl | hb
  ·exact ha'
  ·exact lt_trans ha' (h2 b hb)
/-! A tree. -/
structure Tree (l : List Nod) : Prop where
 ok : ∀ x ∈ l, nodC x = 0
 ord : Ordered l
 root : ∃ r ∈ l, r.path = slashS ∧ r.label = bottomL
 up : ∀ x ∈ l, x.path ≠ slashS → ∃ p ∈ l, p.path = parentOf x.path ∧ p.dir = true ∧ rov x.label p.label = true ∧ (x.dir = false → x.label = p.label)
theorem Tree.put {l : List Nod} (h : Tree l) {n d : Nod} (hn : nodC n = 0) (hs : n.path ≠ slashS) (hnew : ∀ x ∈ l, x.path ≠ n.path) (hd : d ∈ l) (hp : d.path = parentOf n.path) (hdd : d.dir = true) (hov : rov n.label d.label = true) (hseg : n.dir = false → n.label = d.label) : Tree (putN l n) := by
 refine ⟨fun x hx => ?_, put_ordered h.ord n, ?_, fun x hx hxs => ?_⟩
 ·rcases put_mem.1 hx with rfl | ⟨hx, _⟩
  ·exact hn
  ·exact h.ok x hx
 ·obtain ⟨r, hr, e, hl⟩ := h.root
  exact ⟨r, put_mem.2 (.inr ⟨hr, fun q => hs (by rw [← q, e])⟩), e, hl⟩
 ·rcases put_mem.1 hx with rfl | ⟨hx, _⟩
  ·exact ⟨d, put_mem.2 (.inr ⟨hd, hnew d hd⟩), hp, hdd, hov, hseg⟩
  ·obtain ⟨p, hp', e, a, b, c⟩ := h.up x hx hxs
   exact ⟨p, put_mem.2 (.inr ⟨hp', hnew p hp'⟩), e, a, b, c⟩
end Go.Proofs.YtidihdiffiffmaaGreatDoor
namespace Go.Proofs.YtidihdiffiffmaaGreatDoor
open Go.RowKit
set_option maxRecDepth 8000
set_option linter.unusedSimpArgs false
set_option linter.unusedVariables false
def nclT (n : Nod) (aa : Option Addr) (ca : Nat) (wa : Option Addr) (cw : Nat) : List Value := [.string n.path, .bool n.dir, .int .i64 n.label.s, .int .i64 n.label.c, .int .i64 n.label.i, .int .i64 n.label.k, .slice aa n.acl.length ca, .int .i64 n.r1, .int .i64 n.r2, .int .i64 n.r3, .int .i64 n.gates, .slice wa n.words.length cw, .int .i64 n.by_.s, .int .i64 n.by_.c, .int .i64 n.by_.i, .int .i64 n.by_.k]
structure PN where
 n : Nod
 aa : Option Addr
 ca : Nat
 wa : Option Addr
 cw : Nat
def PN.cs (x : PN) : List Value := nclT x.n x.aa x.ca x.wa x.cw
theorem pn_len (x : PN) : x.cs.length = 16 := rfl
theorem pn_one (x : PN) : ∀ v ∈ x.cs, v.oneCell' = true := by
 intro v hv
 unfold PN.cs nclT at hv
 simp only [List.mem_cons, List.not_mem_nil, or_false] at hv
 rcases hv with rfl | rfl | rfl | rfl | rfl | rfl | rfl | rfl | rfl | rfl | rfl | rfl | rfl | rfl | rfl | rfl <;> rfl
theorem pn_ok : ElemOk 36 27 16 PN.cs :=
 ⟨Tryz.underlying27, by
  obtain ⟨i, h1, h2, h3, h4⟩ := info_of (e := 36) (z := .agg #[.string ⟨#[]⟩, .bool false, .int .i64 0, .int .i64 0, .int .i64 0, .int .i64 0, .slice none 0 0, .int .i64 0, .int .i64 0, .int .i64 0, .int .i64 0, .slice none 0 0, .int .i64 0, .int .i64 0, .int .i64 0, .int .i64 0]) (sz := 16) (b := 168) (by kernel_rfl)
  exact ⟨i, _, _, h1, h2, h3, h4, rfl, by omega⟩, by omega, pn_len, pn_one⟩
structure PN.At (W : World) (x : PN) : Prop where
 g : GrsAt W x.aa x.n.acl
 w : WrdsAt W x.wa x.n.words
theorem PN.At.below {W W' : World} {x : PN} (h : x.At W) (b : Below W.heap.size W W') : x.At W' := ⟨h.g.below b, h.w.below b⟩
structure RowN (W : World) (a : Option Addr) (l : List PN) : Prop where
 r : RowAt 16 PN.cs W a l
 p : ∀ x ∈ l, x.At W
theorem RowN.below {W W' : World} {a : Option Addr} {l : List PN} (h : RowN W a l) (b : Below W.heap.size W W') : RowN W' a l := ⟨h.r.below pn_len b, fun x hx => (h.p x hx).below b⟩
abbrev OwnN (W : World) (base : Nat) (v : Value) (l : List PN) : Prop := OwnR 36 16 PN.cs W base v l
def namesP (l : List PN) : List Nod := l.map (·.n)
def findP (l : List PN) (p : ByteArray) : Option PN := l.find? fun x => eqs x.n.path p
def dropP (l : List PN) (p : ByteArray) : List PN := l.filter fun x => !eqs x.n.path p
def putP (l : List PN) (x : PN) : List PN := (dropP l x.n.path).takeWhile (fun y => lt y.n.path x.n.path) ++ x :: (dropP l x.n.path).dropWhile (fun y => lt y.n.path x.n.path)
theorem find_names (l : List PN) (p : ByteArray) : findN (namesP l) p = (findP l p).map (·.n) := by
 unfold findN findP namesP
 rw [List.find?_map]
 rfl
theorem drop_names (l : List PN) (p : ByteArray) : namesP (dropP l p) = dropN (namesP l) p := by
 unfold dropN dropP namesP
 rw [List.filter_map]
 rfl
theorem put_names (l : List PN) (x : PN) : namesP (putP l x) = putN (namesP l) x.n := by
 unfold putN putP
 rw [← drop_names]
 unfold namesP
 rw [List.map_append, List.map_cons, List.takeWhile_map, List.dropWhile_map]
 rfl
theorem put_sub {l : List PN} {x y : PN} (h : y ∈ putP l x) : y = x ∨ y ∈ l := by
 unfold putP at h
 rw [List.mem_append, List.mem_cons] at h
 rcases h with h | h | h
 ·exact .inr (List.mem_filter.1 (List.Sublist.subset (List.takeWhile_sublist _) h)).1
 ·exact .inl h
 ·exact .inr (List.mem_filter.1 (List.Sublist.subset (List.dropWhile_sublist _) h)).1
def zeroP : PN := ⟨⟨⟨#[]⟩, false, ⟨0, 0, 0, 0⟩, [], 0, 0, 0, 0, [], ⟨0, 0, 0, 0⟩⟩, none, 0, none, 0⟩
def foundCs (o : Option PN) : List Value := (o.getD zeroP).cs
theorem RowN.path {W : World} {y : Addr} {l : List PN} (h : RowN W (some y) l) {i : Nat} {x : PN} (hx : l[i]? = some x) : W.cell? (y.add (i * 16)) = some (.string x.n.path) := by
 have := h.r.at pn_len hx 0 _ rfl
 exact this
theorem RowN.some_ {W : World} {a : Option Addr} {l : List PN} (h : RowN W a l) {i : Nat} {x : PN} (hx : l[i]? = some x) : ∃ y, a = some y := by
 obtain ⟨y, hy, -⟩ := h.r i x hx
 exact ⟨y, hy⟩
theorem find_drop {l : List PN} {p : ByteArray} {i : Nat} {x : PN} (hx : l[i]? = some x) : (l.drop i).find? (fun x => eqs x.n.path p) = if eqs x.n.path p = true then some x else (l.drop (i + 1)).find? (fun x => eqs x.n.path p) := by
 have h1 := List.getElem?_eq_some_iff.1 hx
 rw [List.drop_eq_getElem_cons h1.1, h1.2, List.find?_cons]
 cases eqs x.n.path p <;> rfl
set_option maxHeartbeats 2000000 in
theorem rfindT_any (a : Option Addr) (cap : Nat) (l : List PN) (p : ByteArray) (hl : l.length ≤ 1000000) (w : World) (h : RowN w a l) :
    Calls Tryz.prog 16 #[.slice a l.length cap, .string p] w fun e w' => e = .returned (.tuple #[.agg (foundCs (findP l p)).toArray, .bool (findP l p).isSome]) ∧ Below w.heap.size w w' := by
 obtain ⟨fr, hfr⟩ : ∃ fr, findP l p = fr := ⟨_, rfl⟩
 rw [hfr]
 replace hfr : Aside (findP l p = fr) := hfr
 have hund := Tryz.underlying36
 have hsz : (Tryz.prog.info? 36).map (·.size) = some 16 := by kernel_rfl
 obtain ⟨n, hn⟩ : ∃ n, l.length = n := ⟨_, rfl⟩
 rw [hn] at hl ⊢
 replace hn : Aside (l.length = n) := hn
 have hb0 := blk_alloc w zeroP.cs.toArray 36
 have hB0 := alloc_below w (.cells zeroP.cs.toArray 36)
 have hz0 : zeroP.cs = [.string ⟨#[]⟩, .bool false, .int .i64 0, .int .i64 0, .int .i64 0, .int .i64 0, .slice none 0 0, .int .i64 0, .int .i64 0, .int .i64 0, .int .i64 0, .slice none 0 0, .int .i64 0, .int .i64 0, .int .i64 0, .int .i64 0] := rfl
 rw [hz0] at hb0 hB0
 go_enter Tryz.func16, Tryz.ntmps16
 go_wp2_with fail
 have hrow := h.below hB0
 generalize w.alloc (.cells #[.string ⟨#[]⟩, .bool false, .int .i64 0, .int .i64 0, .int .i64 0, .int .i64 0, .slice none 0 0, .int .i64 0, .int .i64 0, .int .i64 0, .int .i64 0, .slice none 0 0, .int .i64 0, .int .i64 0, .int .i64 0, .int .i64 0] 36) = W at *
 go_loopw [6] (fun t6 wr => ∃ i : Nat, i ≤ n ∧ t6 = .int .i64 (i : Int) ∧ Aside ((l.drop i).find? (fun x => eqs x.n.path p) = fr) ∧ wr = W) (fun t6 _ => n - (Go.RowKit.intOf t6).toNat)
 case atStart => exact ⟨0, by omega, rfl, hfr.out, rfl⟩
 case round =>
  obtain ⟨i, hi, rfl, hf, rfl⟩ := hrel
  by_cases hlt : i < n
  ·obtain ⟨x, hx⟩ : ∃ x, l[i]? = some x := ⟨_, List.getElem?_eq_getElem (by rw [hn.out]; exact hlt)⟩
   obtain ⟨y, rfl⟩ := hrow.some_ hx
   have hc := hrow.path hx
   have hw := hrow.r.at pn_len hx
   rw [find_drop hx] at hf
   cases he : eqs x.n.path p
   ·rw [if_neg (by rw [he]; decide)] at hf
    have f0 : (x.n.path.toList == p.toList) = false := by exact he
    clear hw hx
    go_wp2_with fail
    exact ⟨⟨i + 1, by omega, by simp, hf, trivial⟩, by simp [Go.RowKit.intOf]; omega⟩
   ·rw [if_pos he] at hf
    have f0 : (x.n.path.toList == p.toList) = true := by exact he
    obtain rfl := hf.out
    obtain ⟨cs, hcs⟩ : ∃ cs, x.cs = cs := ⟨_, rfl⟩
    have hlen : cs.length = 16 := by rw [← hcs]; rfl
    have hone : ∀ v ∈ cs, v.oneCell' = true := by rw [← hcs]; exact pn_one x
    rw [hcs] at hw
    replace hcs : Aside (x.cs = cs) := hcs
    have ht : wr.there w.heap.size 0 cs.length := by rw [hlen]; exact hb0.there
    have hk := hb0.setAll (cs := cs) (by rw [hlen]; rfl)
    have hBz : Below w.heap.size w (wr.setCells w.heap.size 0 cs) := Below.cells (Nat.le_refl _) cs 0 hB0
    obtain ⟨W2, hW2⟩ : ∃ W', wr.setCells w.heap.size 0 cs = W' := ⟨_, rfl⟩
    rw [hW2] at hk hBz
    rw [← hlen] at hsz
    clear hx hlen hb0
    go_wp2_with (first | (refine wpList_load_at rfl _ rfl (y.add (i * 16)) rfl cs hw hund rfl hsz ?_) | (refine wpList_store_row rfl _ _ rfl w.heap.size rfl cs rfl ht hsz hone hW2 ?_) | fail)
    refine bodyPost_ret (v := .tuple #[.agg cs.toArray, .bool true]) (results_row2 rfl _ _ w.heap.size rfl (.bool true) rfl cs hk.range hund rfl hsz) rfl ?_
    refine ⟨?_, hBz⟩
    unfold foundCs
    rw [← hcs.out]
    rfl
  ·obtain rfl : i = n := by omega
   have hf' : fr = none := by
    have := hf.out
    rw [List.drop_eq_nil_of_le (by rw [hn.out]; exact Nat.le_refl _)] at this
    exact this.symm
   subst hf'
   have hk := hb0.setAll (cs := zeroP.cs) rfl
   have hBz : Below w.heap.size w (wr.setCells w.heap.size 0 zeroP.cs) := Below.cells (Nat.le_refl _) zeroP.cs 0 hB0
   have ht : wr.there w.heap.size 0 zeroP.cs.length := hb0.there
   obtain ⟨W2, hW2⟩ : ∃ W', wr.setCells w.heap.size 0 zeroP.cs = W' := ⟨_, rfl⟩
   rw [hW2] at hk hBz
   clear hb0
   go_wp2_with (first | (refine wpList_store_row rfl _ _ rfl w.heap.size rfl zeroP.cs rfl ht hsz (pn_one zeroP) hW2 ?_) | fail)
   refine bodyPost_ret (v := .tuple #[.agg zeroP.cs.toArray, .bool false]) (results_row2 rfl _ _ w.heap.size rfl (.bool false) rfl zeroP.cs hk.range hund rfl hsz) rfl ?_
   exact ⟨rfl, hBz⟩
theorem filter_take {α : Type} (f : α → Bool) (l : List α) {i : Nat} {x : α} (h : l[i]? = some x) : (l.take (i + 1)).filter f = (l.take i).filter f ++ (if f x = true then [x] else []) := by
 rw [List.take_add_one, h, List.filter_append]
 congr 1
 simp only [Option.toList]
 rw [List.filter_cons]
 rfl
set_option maxHeartbeats 2000000 in
theorem rdropT_any (a : Option Addr) (cap : Nat) (l : List PN) (p : ByteArray) (hl : l.length ≤ 100000) (w : World) (h : RowN w a l) :
    Calls Tryz.prog 44 #[.slice a l.length cap, .string p] w fun e w' => ∃ v, e = .returned v ∧ OwnN w' w.heap.size v (dropP l p) ∧ Below w.heap.size w w' := by
 have hund := Tryz.underlying36
 have hsz : (Tryz.prog.info? 36).map (·.size) = some 16 := by kernel_rfl
 obtain ⟨n, hn⟩ : ∃ n, l.length = n := ⟨_, rfl⟩
 rw [hn] at hl ⊢
 replace hn : Aside (l.length = n) := hn
 have hfl : ∀ i, ((l.take i).filter fun x => !eqs x.n.path p).length ≤ n := fun i => Nat.le_trans (List.length_filter_le _ _) (by rw [List.length_take, hn.out]; omega)
 go_enter Tryz.func44, Tryz.ntmps44
 go_wp2_with fail
 go_loopw [5, 6] (fun t5 t6 wr => ∃ i : Nat, i ≤ n ∧ t6 = .int .i64 (i : Int) ∧ OwnN wr w.heap.size t5 ((l.take i).filter fun x => !eqs x.n.path p) ∧ Below w.heap.size w wr) (fun _ t6 _ => n - (Go.RowKit.intOf t6).toNat)
 case atStart => exact ⟨0, by omega, rfl, by simpa using OwnR.nil _ _ _ _ _, Below.refl _ _⟩
 case round =>
  obtain ⟨i, hi, rfl, ho, hB⟩ := hrel
  by_cases hlt : i < n
  ·obtain ⟨x, hx⟩ : ∃ x, l[i]? = some x := ⟨_, List.getElem?_eq_getElem (by rw [hn.out]; exact hlt)⟩
   have hrow := h.below hB
   obtain ⟨y, rfl⟩ := h.some_ hx
   have hc := hrow.path hx
   have hw := hrow.r.at pn_len hx
   have hft := filter_take (fun x : PN => !eqs x.n.path p) l hx
   cases he : eqs x.n.path p
   ·rw [if_pos (by rw [he]; rfl)] at hft
    have f0 : (x.n.path.toList == p.toList) = false := by exact he
    obtain ⟨v2, W2, hap, ho2, hg2⟩ := OwnR.push pn_ok ho hB.size x x.cs.toArray rfl 36 (by have := hfl i; omega)
    have hb2 := ho.grew_below hB.size hg2
    rw [← hft] at ho2
    obtain ⟨cs, hcs⟩ : ∃ cs, x.cs = cs := ⟨_, rfl⟩
    have hlen : cs.length = 16 := by rw [← hcs]; rfl
    rw [hcs] at hw hap
    rw [← hlen] at hsz
    clear hcs hft hx
    go_wp2_with (first | (refine wpList_load_at rfl _ rfl (y.add (i * 16)) rfl cs hw hund rfl hsz ?_) | (refine wpList_build1 pn_ok (by decide) rfl _ rfl cs rfl hlen ?_) | (refine wpList_append rfl _ _ rfl rfl rfl rfl hap ?_) | fail)
    exact ⟨⟨i + 1, by omega, by simp, ho2, hB.trans hb2⟩, by simp [Go.RowKit.intOf]; omega⟩
   ·rw [if_neg (by rw [he]; decide), List.append_nil] at hft
    have f0 : (x.n.path.toList == p.toList) = true := by exact he
    rw [← hft] at ho
    clear hw hx
    go_wp2_with fail
    exact ⟨⟨i + 1, by omega, by simp, ho, hB⟩, by simp [Go.RowKit.intOf]; omega⟩
  ·obtain rfl : i = n := by omega
   rw [List.take_of_length_le (by rw [hn.out]; exact Nat.le_refl _)] at ho
   go_wp2_with fail
   go_ret
   exact ⟨_, rfl, ho, hB⟩
end Go.Proofs.YtidihdiffiffmaaGreatDoor
namespace Go.Proofs.YtidihdiffiffmaaGreatDoor
open Go.RowKit
set_option maxRecDepth 8000
set_option linter.unusedSimpArgs false
set_option linter.unusedVariables false
/-! What may be. -/
theorem chkL_zero {l : Lab} : chkL l = 0 ↔ GL l := by
 unfold chkL okL
 constructor
 ·intro h
  split at h
  ·rename_i h1
   simp only [inB, Bool.and_eq_true, decide_eq_true_eq] at h1
   constructor <;> omega
  ·cases h
 ·intro h
  obtain ⟨a, b, c, d, e, f, g, i⟩ := h
  rw [if_pos]
  simp only [inB, Bool.and_eq_true, decide_eq_true_eq]
  omega
theorem nodC_zero {x : Nod} : nodC x = 0 ↔ checkOf x.path = 0 ∧ GL x.label ∧ GL x.by_ ∧ chkA x.acl = 0 ∧ (x.dir = true → rz x = true ∧ x.words.length = 0) ∧ (x.dir = false → x.path ≠ slashS ∧ OkR x.rg ∧ x.words.length ≤ 16) := by
 rw [← chkL_zero, ← chkL_zero]
 have hr : chkR x.rg = 0 ↔ OkR x.rg := by
  unfold chkR OkR
  split
  ·rename_i q; exact ⟨fun _ => q, fun _ => rfl⟩
  ·rename_i q; exact ⟨fun e => absurd e (by decide), fun e => absurd e q⟩
 unfold nodC
 by_cases h1 : checkOf x.path = 0
 ·by_cases h2 : chkL x.label = 0
  ·by_cases h3 : chkL x.by_ = 0
   ·by_cases h4 : chkA x.acl = 0
    ·rw [if_neg (by simp [h1]), if_neg (by simp [h2]), if_neg (by simp [h3]), if_neg (by simp [h4])]
     simp only [h1, h2, h3, h4, true_and]
     cases hd : x.dir
     ·simp only [Bool.false_eq_true, if_false, false_implies, true_and, true_implies]
      unfold segC
      rw [← hr]
      by_cases h5 : eqs x.path slashS = true
      ·rw [if_pos h5]
       exact ⟨fun h => (by cases h), fun h => absurd (eqs_iff.1 h5) h.1⟩
      ·rw [if_neg h5]
       have h5' : x.path ≠ slashS := fun e => h5 (eqs_iff.2 e)
       by_cases h6 : chkR x.rg = 0
       ·rw [if_neg (by simp [h6])]
        by_cases h7 : 16 < x.words.length
        ·rw [if_pos h7]
         exact ⟨fun h => (by cases h), fun h => by omega⟩
        ·rw [if_neg h7]
         exact ⟨fun _ => ⟨h5', h6, by omega⟩, fun _ => rfl⟩
       ·rw [if_pos h6]
        exact ⟨fun h => absurd h h6, fun h => h.2.1⟩
     ·simp only [if_true, true_implies, Bool.true_eq_false, false_implies, and_true]
      unfold dirC
      by_cases h5 : rz x = true ∧ x.words.length = 0
      ·rw [if_pos h5]
       exact ⟨fun _ => h5, fun _ => rfl⟩
      ·rw [if_neg h5]
       exact ⟨fun h => (by cases h), fun h => absurd h h5⟩
    ·rw [if_neg (by simp [h1]), if_neg (by simp [h2]), if_neg (by simp [h3]), if_pos h4]
     exact ⟨fun h => absurd h h4, fun h => h.2.2.2.1⟩
   ·rw [if_neg (by simp [h1]), if_neg (by simp [h2]), if_pos h3]
    exact ⟨fun h => absurd h h3, fun h => h.2.2.1⟩
  ·rw [if_neg (by simp [h1]), if_pos h2]
   exact ⟨fun h => absurd h h2, fun h => h.2.1⟩
 ·rw [if_pos h1]
  exact ⟨fun h => absurd h h1, fun h => h.1⟩
/-! The first nodes. -/
def starS : ByteArray := ⟨#[42]⟩
def allG : List Gr := [⟨starS, 7⟩]
def nmK (k : Nat) : ByteArray := ⟨#[108, UInt8.ofNat (48 + k)]⟩
def rootN : Nod := ⟨slashS, true, bottomL, allG, 0, 0, 0, 0, [], bottomL⟩
def dirN (k : Nat) (t : Lab) : Nod := ⟨⟨#[47, 108, UInt8.ofNat (48 + k)]⟩, true, t, allG, 0, 0, 0, 0, [], bottomL⟩
def distTo (ts : List Lab) : Nat → List Lab
 | 0 => []
 | i + 1 => if (ts.take i).any (fun t => labEq t (ts.getD i bottomL)) = true then distTo ts i else distTo ts i ++ [ts.getD i bottomL]
def firstTo (ts : List Lab) (i : Nat) : List Nod := rootN :: (distTo ts i).mapIdx dirN
def firstN (ts : List Lab) : List Nod := firstTo ts ts.length
theorem dist_len (ts : List Lab) : ∀ i, (distTo ts i).length ≤ i
 | 0 => Nat.le_refl _
 | i + 1 => by
  have := dist_len ts i
  rw [distTo]
  split
  ·omega
  ·simp; omega
theorem first_succ (ts : List Lab) (i : Nat) : firstTo ts (i + 1) = if (ts.take i).any (fun t => labEq t (ts.getD i bottomL)) = true then firstTo ts i else firstTo ts i ++ [dirN (distTo ts i).length (ts.getD i bottomL)] := by
 unfold firstTo
 rw [distTo]
 split
 ·rfl
 ·rw [List.mapIdx_concat]
  rfl
theorem dist_mem (ts : List Lab) : ∀ i, i ≤ ts.length → ∀ t, t ∈ distTo ts i ↔ t ∈ ts.take i
 | 0, _, t => by simp [distTo]
 | i + 1, hi, t => by
  have ih := dist_mem ts i (by omega) t
  have hg : ts.getD i bottomL = ts[i] := by rw [List.getD_eq_getElem?_getD, List.getElem?_eq_getElem (by omega)]; rfl
  rw [distTo, hg, List.take_add_one, List.getElem?_eq_getElem (by omega)]
  simp only [Option.toList, List.mem_append, List.mem_singleton]
  split
  ·rename_i h
   rw [ih]
   constructor
   ·exact fun q => .inl q
   ·rintro (q | rfl)
    ·exact q
    ·obtain ⟨u, hu, he⟩ := List.any_eq_true.1 h
     rw [← (labEq_iff _ _).1 he]
     exact hu
  ·rw [List.mem_append, ih, List.mem_singleton]
theorem dir_path (k : Nat) (t : Lab) : (dirN k t).path = pathB [nmK k] := by
 apply bytes_inj
 rw [pathB_bytes (by simp), body_one]
 rfl
theorem nmK_name {k : Nat} (h : k < 10) : name (nmK k) = true := by
 have : ∀ k : Fin 10, name (nmK k) = true := by decide +kernel
 exact this ⟨k, h⟩
theorem nmK_names {k : Nat} (h : k < 10) : Names [nmK k] := ⟨by simp, fun n hn => by rw [List.mem_singleton] at hn; subst hn; exact nmK_name h⟩
theorem dir_lt {j k : Nat} (h : j < k) (hk : k < 10) (t u : Lab) : lt (dirN j t).path (dirN k u).path = true := by
 have : ∀ k : Fin 10, ∀ j : Fin 10, j.val < k.val → lt ⟨#[47, 108, UInt8.ofNat (48 + j.val)]⟩ ⟨#[47, 108, UInt8.ofNat (48 + k.val)]⟩ = true := by decide +kernel
 exact this ⟨k, hk⟩ ⟨j, by omega⟩ h
theorem root_lt {k : Nat} (hk : k < 10) (t : Lab) : lt rootN.path (dirN k t).path = true := by
 have : ∀ k : Fin 10, lt slashS ⟨#[47, 108, UInt8.ofNat (48 + k.val)]⟩ = true := by decide +kernel
 exact this ⟨k, hk⟩
theorem allN_ok : chkA allG = 0 := by decide +kernel
theorem rov_bot {l : Lab} (h : GL l) : rov l bottomL = true := by
 obtain ⟨n, rfl, hn⟩ := h.nl
 rw [← bot_lab, rov_ov hn bot_ok, ov_iff hn bot_ok]
 exact over_bot hn
theorem slash_chk : checkOf slashS = 0 := by rw [← pathB_nil]; exact check_names ⟨by simp, fun n hn => by cases hn⟩
theorem root_ok : nodC rootN = 0 := nodC_zero.2 ⟨slash_chk, bottom_GL, bottom_GL, allN_ok, fun _ => ⟨by decide, rfl⟩, fun h => by cases h⟩
theorem dir_ok {k : Nat} (hk : k < 10) {t : Lab} (ht : GL t) : nodC (dirN k t) = 0 := nodC_zero.2 ⟨by rw [dir_path]; exact check_names (nmK_names hk), ht, bottom_GL, allN_ok, fun _ => ⟨rfl, rfl⟩, fun h => by cases h⟩
theorem first_mem {ts : List Lab} {i : Nat} {x : Nod} (h : x ∈ firstTo ts i) : x = rootN ∨ ∃ k t, k < (distTo ts i).length ∧ (distTo ts i)[k]? = some t ∧ x = dirN k t := by
 unfold firstTo at h
 rcases List.mem_cons.1 h with h | h
 ·exact .inl h
 ·obtain ⟨k, hk⟩ := List.mem_iff_getElem?.1 h
  rw [List.getElem?_mapIdx] at hk
  cases hd : (distTo ts i)[k]? with
  | none => rw [hd] at hk; cases hk
  | some t =>
   rw [hd] at hk
   exact .inr ⟨k, t, (List.getElem?_eq_some_iff.1 hd).1, hd, (Option.some.inj hk).symm⟩
theorem first_tree {ts : List Lab} (hg : ∀ t ∈ ts, GL t) (hn : ts.length < 10) : Tree (firstN ts) := by
 have hl := dist_len ts ts.length
 have hgl : ∀ k t, (distTo ts ts.length)[k]? = some t → GL t := fun k t h => hg t (by
  have := (dist_mem ts ts.length (Nat.le_refl _) t).1 (List.mem_of_getElem? h)
  rwa [List.take_length] at this)
 refine ⟨fun x hx => ?_, ?_, ⟨rootN, List.mem_cons_self, rfl, rfl⟩, fun x hx hs => ?_⟩
 ·rcases first_mem hx with rfl | ⟨k, t, hk, ht, rfl⟩
  ·exact root_ok
  ·exact dir_ok (by omega) (hgl k t ht)
 ·refine List.pairwise_cons.2 ⟨fun y hy => ?_, ?_⟩
  ·rcases first_mem (ts := ts) (i := ts.length) (List.mem_cons_of_mem _ hy) with rfl | ⟨k, t, hk, ht, rfl⟩
   ·exfalso
    obtain ⟨k, hk⟩ := List.mem_iff_getElem?.1 hy
    rw [List.getElem?_mapIdx] at hk
    cases hd : (distTo ts ts.length)[k]? with
    | none => rw [hd] at hk; cases hk
    | some t =>
     rw [hd] at hk
     have he := Option.some.inj hk
     have h2 := root_lt (k := k) (by have := (List.getElem?_eq_some_iff.1 hd).1; omega) t
     rw [he, lt_irrefl] at h2
     cases h2
   ·exact root_lt (by omega) t
  ·rw [List.pairwise_iff_getElem]
   intro i j hi hj hij
   rw [List.length_mapIdx] at hi hj
   rw [List.getElem_mapIdx, List.getElem_mapIdx]
   exact dir_lt hij (by omega) _ _
 ·rcases first_mem hx with rfl | ⟨k, t, hk, ht, rfl⟩
  ·exact absurd rfl hs
  ·refine ⟨rootN, List.mem_cons_self, ?_, rfl, rov_bot (hgl k t ht), fun h => by cases h⟩
   have := nmK_names (k := k) (by omega)
   rw [dir_path, show [nmK k] = [] ++ [nmK k] from rfl, parent_path (this.flat _ List.mem_cons_self).1 (this.flat _ List.mem_cons_self).2, pathB_nil]
   rfl
end Go.Proofs.YtidihdiffiffmaaGreatDoor
namespace Go.Proofs.YtidihdiffiffmaaGreatDoor
open Go.RowKit
set_option maxRecDepth 8000
set_option linter.unusedSimpArgs false
set_option linter.unusedVariables false
structure ChrAt (W : World) (pb k : Nat) : Prop where
 lt : pb < W.heap.size
 cell : W.cell? ⟨pb, 0, none⟩ = some (.int .u8 (k : Int))
 hk : k < 256
theorem ChrAt.below {W W' : World} {pb k : Nat} (h : ChrAt W pb k) (b : Below W.heap.size W W') : ChrAt W' pb k := ⟨Nat.lt_of_lt_of_le h.lt b.size, (b.cell (p := ⟨pb, 0, none⟩) h.lt).trans h.cell, h.hk⟩
theorem chr_made (w : World) (k : Nat) (hk : k < 256) : ChrAt (w.alloc (.cells #[.int .u8 (k : Int)] 5)) w.heap.size k := ⟨by simp, by rw [World.cell?_alloc_at _ _ _ _ rfl]; rfl, hk⟩
theorem chr_made2 (w : World) (q : Nat) (hq : 48 + q < 256) : ChrAt (w.alloc (.cells #[.int .u8 (48 + (q : Int))] 5)) w.heap.size (48 + q) := by
 have := chr_made w (48 + q) hq
 rw [Int.natCast_add] at this
 exact this
theorem ChrAt.conv {W : World} {pb k : Nat} (h : ChrAt W pb k) : (convert 38 9 (.slice (some ⟨pb, 0, none⟩) 1 1)).run Tryz.prog W = .ok (.string (chr k)) W := by
 refine run_convert_bytes_back _ _ _ 5 ⟨pb, 0, none⟩ 1 [UInt8.ofNat k] Tryz.underlying38 Tryz.underlying5 Tryz.underlying9 fun j hj => ?_
 obtain rfl : j = 0 := by simp at hj; omega
 rw [show (⟨pb, 0, none⟩ : Addr).add 0 = ⟨pb, 0, none⟩ by simp [Addr.add], h.cell]
 have := h.hk
 simp
 omega
end Go.Proofs.YtidihdiffiffmaaGreatDoor
namespace Go.Proofs.YtidihdiffiffmaaGreatDoor
open Go.RowKit
set_option maxRecDepth 8000
set_option linter.unusedSimpArgs false
set_option linter.unusedVariables false
def hasTo (gs : List Gr) : Nat → List Int
 | 0 => [0, 0, 0, 0, 0]
 | i + 1 => (hasTo gs i).set ((gs.getD i zGr).m % 5).toNat (1 + wrap64 ((gs.getD i zGr).m.tdiv 5) % 7)
def hasAll (gs : List Gr) : List Int := hasTo gs (min gs.length 8)
def usr (k : Nat) : ByteArray := if k = 0 then starS else chr (96 + k)
def aclTo (h : List Int) : Nat → List Gr
 | 0 => []
 | k + 1 => if 0 < h.getD k 0 ∧ (aclTo h k).length < 4 then aclTo h k ++ [⟨usr k, h.getD k 0⟩] else aclTo h k
def aclOf (gs : List Gr) : List Gr := aclTo (hasAll gs) 5
theorem has_len (gs : List Gr) : ∀ i, (hasTo gs i).length = 5
 | 0 => rfl
 | i + 1 => by rw [hasTo, List.length_set, has_len gs i]
theorem has_val (gs : List Gr) : ∀ i, ∀ x ∈ hasTo gs i, 0 ≤ x ∧ x ≤ 7
 | 0, x, h => by simp [hasTo] at h; omega
 | i + 1, x, h => by
  rw [hasTo] at h
  rcases List.mem_or_eq_of_mem_set h with h | h
  ·exact has_val gs i x h
  ·omega
theorem acl_len (h : List Int) : ∀ k, (aclTo h k).length ≤ 4 ∧ (aclTo h k).length ≤ k
 | 0 => by simp [aclTo]
 | k + 1 => by
  have := acl_len h k
  rw [aclTo]
  split
  ·simp; omega
  ·omega
theorem acl_full (h : List Int) {k : Nat} (hk : (aclTo h k).length = 4) : ∀ j, aclTo h (k + j) = aclTo h k
 | 0 => rfl
 | j + 1 => by
  rw [← Nat.add_assoc, aclTo, acl_full h hk j, if_neg (by omega)]
theorem usr_lt : ∀ k : Fin 5, ∀ j : Fin 5, j.val < k.val → lt (usr j.val) (usr k.val) = true := by decide +kernel
theorem usr_may : ∀ k : Fin 5, may (usr k.val) = true ∧ lt ⟨#[]⟩ (usr k.val) = true := by decide +kernel
theorem okAcl_app (a : ByteArray) : ∀ (l : List Gr) (g : Gr), okAcl a l = true → may g.u = true → (∀ x ∈ l, lt x.u g.u = true) → lt a g.u = true → 1 ≤ g.m → g.m ≤ 7 → okAcl a (l ++ [g]) = true
 | [], g, _, h2, _, h4, h5, h6 => by simp [okAcl, h2, h4, h5, h6]
 | x :: r, g, h1, h2, h3, h4, h5, h6 => by
  rw [List.cons_append, okAcl]
  rw [okAcl, Bool.and_eq_true] at h1
  rw [Bool.and_eq_true]
  refine ⟨h1.1, okAcl_app x.u r g h1.2 h2 (fun y hy => h3 y (List.mem_cons_of_mem _ hy)) (h3 x List.mem_cons_self) h5 h6⟩
theorem acl_good (h : List Int) (hv : ∀ x ∈ h, 0 ≤ x ∧ x ≤ 7) (hl : h.length = 5) : ∀ k, k ≤ 5 → okAcl ⟨#[]⟩ (aclTo h k) = true ∧ ∀ x ∈ aclTo h k, ∃ j, j < k ∧ x.u = usr j
 | 0, _ => ⟨rfl, fun x hx => by simp [aclTo] at hx⟩
 | k + 1, hk => by
  obtain ⟨h1, h2⟩ := acl_good h hv hl k (by omega)
  rw [aclTo]
  split
  ·rename_i hp
   have hm : h.getD k 0 ∈ h := by
    rw [List.getD_eq_getElem?_getD, List.getElem?_eq_getElem (by omega)]
    exact List.getElem_mem _
   have := hv _ hm
   obtain ⟨u1, u2⟩ := usr_may ⟨k, by omega⟩
   refine ⟨okAcl_app _ _ _ h1 u1 (fun x hx => ?_) u2 (by show 1 ≤ h.getD k 0; omega) (by show h.getD k 0 ≤ 7; omega), fun x hx => ?_⟩
   ·obtain ⟨j, hj, e⟩ := h2 x hx
    rw [e]
    exact usr_lt ⟨k, by omega⟩ ⟨j, by omega⟩ hj
   ·rcases List.mem_append.1 hx with hx | hx
    ·obtain ⟨j, hj, e⟩ := h2 x hx
     exact ⟨j, by omega, e⟩
    ·rw [List.mem_singleton] at hx
     subst hx
     exact ⟨k, by omega, rfl⟩
  ·exact ⟨h1, fun x hx => by obtain ⟨j, hj, e⟩ := h2 x hx; exact ⟨j, by omega, e⟩⟩
theorem aclOf_ok (gs : List Gr) : chkA (aclOf gs) = 0 := by
 have h := acl_good (hasAll gs) (has_val gs _) (has_len gs _) 5 (Nat.le_refl _)
 have h2 := (acl_len (hasAll gs) 5).1
 unfold chkA aclOf
 rw [if_neg (by omega), if_pos h.1]
theorem has_get (gs : List Gr) (i k : Nat) : 0 ≤ (hasTo gs i).getD k 0 ∧ (hasTo gs i).getD k 0 ≤ 7 := by
 rw [List.getD_eq_getElem?_getD]
 cases h : (hasTo gs i)[k]? with
 | none => simp
 | some x => exact has_val gs i x (List.mem_of_getElem? h)
def gcl (g : Gr) : List Value := [.string g.u, .int .i64 g.m]
theorem gr_okT : ElemOk 119 31 2 gcl :=
 ⟨Tryz.underlying31, by
  obtain ⟨i, h1, h2, h3, h4⟩ := info_of (e := 119) (z := .agg #[.string ⟨#[]⟩, .int .i64 0]) (sz := 2) (b := 24) (by kernel_rfl)
  exact ⟨i, _, _, h1, h2, h3, h4, rfl, by omega⟩, by omega, fun _ => rfl, fun x u hu => by simp [gcl] at hu; rcases hu with rfl | rfl <;> rfl⟩
abbrev OwnGr (w : World) (base : Nat) (v : Value) (l : List Gr) : Prop := OwnR 119 2 gcl w base v l
def ivals (h : List Int) : List Value := h.map fun x => .int .i64 x
set_option maxHeartbeats 400000 in
theorem w11_any (k m : Int) (h0 : 0 < m) (h1 : m < 1000000) (w : World) :
    Calls Tryz.prog 85 #[.int .i64 k, .int .i64 m] w fun e w' => e = .returned (.int .i64 (k % m)) ∧ w' = w := by
 have b1 := Int.lt_tmod_of_pos k h0
 have b2 := Int.tmod_lt_of_pos k h0
 have hm0 : ¬ m = 0 := by omega
 have hm1 : ¬ m = -1 := by omega
 by_cases hn : k.tmod m < 0
 ·have e1 : k % m = k.tmod m + m := by
    rw [Int.tmod_eq_emod] at hn ⊢
    split at hn
    ·have := Int.emod_nonneg k (by omega : m ≠ 0); omega
    ·rename_i hc; rw [if_neg hc]; rw [Int.natAbs_of_nonneg (by omega)]; omega
  rw [e1]
  clear e1
  go_enter Tryz.func85, Tryz.ntmps85
  go_wp2
  go_ret
  exact ⟨rfl, rfl⟩
 ·have e1 : k % m = k.tmod m := by
    rw [Int.tmod_eq_emod] at hn ⊢
    split
    ·simp
    ·rename_i hc
     rw [if_neg hc] at hn
     have := Int.emod_lt_of_pos k h0
     rw [Int.natAbs_of_nonneg (by omega)] at *
     omega
  rw [e1]
  clear e1
  go_enter Tryz.func85, Tryz.ntmps85
  go_wp2
  go_ret
  exact ⟨rfl, rfl⟩
set_option maxHeartbeats 1000000 in
theorem aclT_any (a : Option Addr) (cap : Nat) (gs : List Gr) (w : World) (h : GrsAt w a gs) :
    Calls Tryz.prog 48 #[.slice a gs.length cap] w fun e w' => ∃ v, e = .returned v ∧ OwnGr w' w.heap.size v (aclOf gs) ∧ Below w.heap.size w w' := by
 have hb0 := blk_alloc w #[.int .i64 0, .int .i64 0, .int .i64 0, .int .i64 0, .int .i64 0] 170
 have hB0 := alloc_below w (.cells #[.int .i64 0, .int .i64 0, .int .i64 0, .int .i64 0, .int .i64 0] 170)
 have hs0 := World.size_alloc w (.cells #[.int .i64 0, .int .i64 0, .int .i64 0, .int .i64 0, .int .i64 0] 170)
 obtain ⟨n, hn⟩ : ∃ n, gs.length = n := ⟨_, rfl⟩
 rw [hn]
 replace hn : Aside (gs.length = n) := hn
 obtain ⟨R, hR⟩ : ∃ R, aclOf gs = R := ⟨_, rfl⟩
 rw [hR]
 replace hR : Aside (aclOf gs = R) := hR
 go_enter Tryz.func48, Tryz.ntmps48
 go_wp2_with fail
 generalize w.alloc (.cells #[.int .i64 0, .int .i64 0, .int .i64 0, .int .i64 0, .int .i64 0] 170) = W0 at *
 go_loopw [4] (fun t4 wr => ∃ i : Nat, i ≤ n ∧ i ≤ 8 ∧ t4 = .int .i64 (i : Int) ∧ Blk wr w.heap.size (ivals (hasTo gs i)) ∧ Below w.heap.size w wr ∧ w.heap.size + 1 ≤ wr.heap.size) (fun t4 _ => n - (Go.RowKit.intOf t4).toNat)
 case atStart => exact ⟨0, by omega, by omega, rfl, hb0, hB0, by omega⟩
 case round =>
  clear hb0 hB0 hs0
  obtain ⟨i, hi, hi8, rfl, hb, hB, hz⟩ := hrel
  by_cases hlt : i < n ∧ i < 8
  ·obtain ⟨g, hg⟩ : ∃ g, gs[i]? = some g := ⟨_, List.getElem?_eq_getElem (by rw [hn.out]; exact hlt.1)⟩
   obtain ⟨y, rfl, -, hc2⟩ := h.below hB i g hg
   have hgd : gs.getD i zGr = g := by rw [List.getD_eq_getElem?_getD, hg]; rfl
   have hst : hasTo gs (i + 1) = (hasTo gs i).set (g.m % 5).toNat (1 + wrap64 (g.m.tdiv 5) % 7) := by rw [hasTo, hgd]
   have i1 : (i : Int) < (n : Int) := by omega
   have i2 : (i : Int) < 8 := by omega
   have k1 := w11_any g.m 5 (by omega) (by omega)
   have k2 := w11_any (wrap64 (g.m.tdiv 5)) 7 (by omega) (by omega)
   obtain ⟨k, hk⟩ : ∃ k : Nat, g.m % 5 = (k : Int) := ⟨(g.m % 5).toNat, by omega⟩
   have hk5 : k < 5 := by omega
   have hkn : (g.m % 5).toNat = k := by omega
   obtain ⟨v, hv⟩ : ∃ v : Int, wrap64 (g.m.tdiv 5) % 7 = v := ⟨_, rfl⟩
   have hv7 : 0 ≤ v ∧ v < 7 := by omega
   rw [hk] at k1
   rw [hv] at k2
   rw [hkn, hv] at hst
   clear hk hkn hgd
   replace hv : Aside (wrap64 (g.m.tdiv 5) % 7 = v) := hv
   have hcell : ∃ u, wr.cell? ⟨w.heap.size, k, none⟩ = some u ∧ wr.frozen? ⟨w.heap.size, k, none⟩ = false := by
    obtain ⟨u, hu⟩ : ∃ u, (ivals (hasTo gs i))[k]? = some u := ⟨_, List.getElem?_eq_getElem (by simp [ivals, has_len]; omega)⟩
    exact ⟨u, hb k u hu⟩
   obtain ⟨u, hu, hfz⟩ := hcell
   have hb2 := hb.set k (.int .i64 (1 + v)) (by simp [ivals, has_len]; omega)
   have hB2 : Below w.heap.size w (wr.setCell ⟨w.heap.size, k, none⟩ (.int .i64 (1 + v))) := hB.setCell (p := ⟨w.heap.size, k, none⟩) (Nat.le_refl _) _
   have hz2 : w.heap.size + 1 ≤ (wr.setCell ⟨w.heap.size, k, none⟩ (.int .i64 (1 + v))).heap.size := by simpa using hz
   rw [show (ivals (hasTo gs i)).set k (.int .i64 (1 + v)) = ivals (hasTo gs (i + 1)) by rw [hst]; unfold ivals; rw [List.map_set]] at hb2
   clear hst hb
   go_wp2_with fail
   refine (k1 wr).mono ?_
   rintro e w' ⟨rfl, hw⟩
   replace hw := hw.symm
   subst hw
   go_wp2_with fail
   refine (k2 wr).mono ?_
   rintro e w' ⟨rfl, hw⟩
   replace hw := hw.symm
   subst hw
   go_wp2_with fail
   exact ⟨⟨i + 1, by omega, by omega, by simp, hb2, hB2, hz2⟩, by simp [Go.RowKit.intOf]; omega⟩
  ·have hmin : min gs.length 8 = i := by rw [hn.out]; omega
   have hR5 : Aside (aclTo (hasTo gs i) 5 = R) := by rw [← hR.out, aclOf, hasAll, hmin]; exact rfl
   have hHv := has_get gs i
   have hHl := has_len gs i
   obtain ⟨H, hH⟩ : ∃ H, hasTo gs i = H := ⟨_, rfl⟩
   rw [hH] at hb hHv hHl hR5
   clear hH hmin
   have hcase : i = n ∨ (i < n ∧ i = 8) := by omega
   rcases hcase with rfl | ⟨hin, rfl⟩
   all_goals (
    go_wp2_with fail
    go_loopw [6, 7] (fun t6 t7 wq => ∃ k : Nat, k ≤ 5 ∧ t7 = .int .i64 (k : Int) ∧ OwnGr wq (w.heap.size + 1) t6 (aclTo H k) ∧ Below w.heap.size w wq ∧ w.heap.size + 1 ≤ wq.heap.size ∧ Blk wq w.heap.size (ivals H)) (fun _ t7 _ => 5 - (Go.RowKit.intOf t7).toNat)
    case atStart => exact ⟨0, by omega, rfl, OwnR.nil _ _ _ _ _, hB, hz, hb⟩
    case round =>
     clear hb hB hz
     obtain ⟨k, hk, rfl, ho, hB, hz, hb⟩ := hrel
     have hal := acl_len H k
     obtain ⟨ra, rc, hrv, hrle, -, -⟩ := OwnR.slice gr_okT.len ho
     subst hrv
     by_cases hk5 : k < 5
     ·by_cases hl4 : (aclTo H k).length < 4
      ·obtain ⟨x, hx⟩ : ∃ x, H.getD k 0 = x := ⟨_, rfl⟩
       have hxv := hHv k
       rw [hx] at hxv
       have hcell : wr.cell? ⟨w.heap.size, k, none⟩ = some (.int .i64 x) := by
        refine (hb k (.int .i64 x) ?_).1
        unfold ivals
        rw [List.getElem?_map, ← hx, List.getD_eq_getElem?_getD, List.getElem?_eq_getElem (by omega)]
        rfl
       have hst : aclTo H (k + 1) = if 0 < x ∧ (aclTo H k).length < 4 then aclTo H k ++ [⟨usr k, x⟩] else aclTo H k := by rw [aclTo, hx]
       generalize (aclTo H k).length = m at *
       have i1 : (k : Int) < 5 := by omega
       have i2 : (m : Int) < 4 := by omega
       by_cases hx0 : 0 < x
       ·rw [if_pos ⟨hx0, hl4⟩] at hst
        clear hx
        by_cases hk0 : k = 0
        ·subst hk0
         obtain ⟨v2, W2, hap, ho2, hg2⟩ := OwnR.push gr_okT ho hz ⟨usr 0, x⟩ #[.string ⟨#[42]⟩, .int .i64 x] rfl 119 (by have := (acl_len H 0).1; omega)
         have hb2 := ho.grew_below hz hg2
         rw [← hst] at ho2
         have hB2 := hB.trans (hb2.mono (by omega))
         have hbk := hb.same (hb2.block _ (by omega))
         have hz2 := Nat.le_trans hz hb2.size
         clear hst hb
         go_wp2_with (first | (refine wpList_append rfl _ _ rfl rfl rfl rfl hap ?_) | fail)
         exact ⟨⟨1, by omega, by simp, ho2, hB2, hz2, hbk⟩, by simp [Go.RowKit.intOf]⟩
        ·have hbt := chr_made wr (96 + k) (by omega)
         have i3 : (0 : Int) < (k : Int) := by omega
         have hu2 : usr k = chr (96 + k) := if_neg hk0
         have e1 : IntKind.u8.wrap (97 + (k : Int) - 1) = 96 + (k : Int) := by rw [IntKind.wrap_u8]; omega
         rw [show ((96 + k : Nat) : Int) = 96 + (k : Int) by omega] at hbt
         have hcv := hbt.conv
         have hza := alloc_below wr (.cells #[.int .u8 (96 + (k : Int))] 5)
         have ho1 := ho.below hza
         have hz1 := Nat.le_trans hz hza.size
         obtain ⟨v2, W2, hap, ho2, hg2⟩ := OwnR.push gr_okT ho1 hz1 ⟨usr k, x⟩ #[.string (chr (96 + k)), .int .i64 x] (by rw [hu2]; rfl) 119 (by have := (acl_len H k).1; omega)
         have hb2 := ho1.grew_below hz1 hg2
         rw [← hst] at ho2
         have hb3 : Below (w.heap.size + 1) wr W2 := (hza.mono hz).trans hb2
         have hB2 := hB.trans (hb3.mono (by omega))
         have hbk := hb.same (hb3.block _ (by omega))
         have hz2 := Nat.le_trans hz hb3.size
         have hcell2 := (hza.cell (World.block_lt_of_cell? _ _ hcell)).trans hcell
         rw [World.size_alloc] at hap
         clear hst hb hbt hza ho1 hz1 hg2 hb2 hb3
         go_wp2_with (first | (refine wpList_append rfl _ _ rfl rfl rfl rfl hap ?_) | fail)
         exact ⟨⟨k + 1, by omega, by simp, ho2, hB2, hz2, hbk⟩, by simp [Go.RowKit.intOf]; omega⟩
       ·rw [if_neg (fun q => hx0 q.1)] at hst
        rw [← hst] at ho
        clear hst hx
        go_wp2_with fail
        exact ⟨⟨k + 1, by omega, by simp, ho, hB, hz, hb⟩, by simp [Go.RowKit.intOf]; omega⟩
      ·have h4 : (aclTo H k).length = 4 := by omega
       have hfin := acl_full H h4 (5 - k)
       rw [show k + (5 - k) = 5 by omega] at hfin
       replace hfin : Aside (aclTo H 5 = aclTo H k) := hfin
       have i1 : (k : Int) < 5 := by omega
       generalize (aclTo H k).length = m at *
       have i2 : ¬ (m : Int) < 4 := by omega
       clear h4
       go_wp2_with fail
       go_ret
       exact ⟨_, rfl, by rw [← hR5.out, hfin.out]; exact ho.lower (Nat.le_succ _), hB⟩
     ·obtain rfl : k = 5 := by omega
      go_wp2_with fail
      go_ret
      exact ⟨_, rfl, by rw [← hR5.out]; exact ho.lower (Nat.le_succ _), hB⟩)
end Go.Proofs.YtidihdiffiffmaaGreatDoor
namespace Go.Proofs.YtidihdiffiffmaaGreatDoor
open Go.RowKit
set_option maxRecDepth 8000
set_option linter.unusedSimpArgs false
set_option linter.unusedVariables false
structure Mk where
 path : List Int
 dir : Bool
 up : Lab
 acl : List Gr
 rings : Rg
 words : List Int
 by_ : Lab
def mkPath (m : Mk) : ByteArray := pathB (namesOf m.path)
def mkN (d : Nod) (m : Mk) : Nod :=
 if m.dir = true then ⟨mkPath m, true, joinL d.label (goodL m.up), aclOf m.acl, 0, 0, 0, 0, [], goodL m.by_⟩
 else ⟨mkPath m, false, d.label, aclOf m.acl, (goodR m.rings).a, (goodR m.rings).b, (goodR m.rings).c, (goodR m.rings).g, m.words.take 16, goodL m.by_⟩
def growStep (l : List Nod) (m : Mk) : List Nod :=
 if eqs (mkPath m) slashS = true then l else match findN l (parentOf (mkPath m)) with
 | none => l
 | some d => if d.dir = true ∧ findN l (mkPath m) = none then putN l (mkN d m) else l
def growN (ts : List Lab) (ms : List Mk) : List Nod := (ms.take 14).foldl growStep (firstN ((ts.take 4).map goodL))
theorem mkN_path (d : Nod) (m : Mk) : (mkN d m).path = mkPath m := by unfold mkN; split <;> rfl
theorem mkPath_names (m : Mk) : Names (namesOf m.path) := namesOf_names m.path
theorem rov_join {a b : Lab} (ha : GL a) (hb : GL b) : rov (joinL a b) a = true ∧ GL (joinL a b) := by
 obtain ⟨x, rfl, hx⟩ := ha.nl
 obtain ⟨y, rfl, hy⟩ := hb.nl
 rw [join_lab hx hy]
 refine ⟨?_, lab_GL (join_ok hx hy)⟩
 rw [rov_ov (join_ok hx hy) hx, ov_iff (join_ok hx hy) hx]
 show (x.join y).join x = x.join y
 rw [join_comm (x.join y) x, ← join_assoc, join_self]
theorem rov_self {a : Lab} (ha : GL a) : rov a a = true := by
 obtain ⟨x, rfl, hx⟩ := ha.nl
 rw [rov_ov hx hx, ov_iff hx hx]
 exact over_refl x
theorem mkN_ok {d : Nod} (hd : nodC d = 0) (m : Mk) (hs : mkPath m ≠ slashS) : nodC (mkN d m) = 0 ∧ rov (mkN d m).label d.label = true ∧ ((mkN d m).dir = false → (mkN d m).label = d.label) := by
 obtain ⟨_, hg, _⟩ := nodC_zero.1 hd
 have hp : checkOf (mkPath m) = 0 := check_names (mkPath_names m)
 unfold mkN
 cases m.dir
 ·simp only [Bool.false_eq_true, if_false]
  refine ⟨nodC_zero.2 ⟨hp, hg, good_GL _, aclOf_ok _, fun h => (by cases h), fun _ => ⟨hs, goodR_ok m.rings, ?_⟩⟩, rov_self hg, fun _ => by first | rfl | trivial⟩
  show (m.words.take 16).length ≤ 16
  rw [List.length_take]
  omega
 ·simp only [if_true]
  obtain ⟨h1, h2⟩ := rov_join hg (good_GL m.up)
  exact ⟨nodC_zero.2 ⟨hp, h2, good_GL _, aclOf_ok _, fun _ => ⟨rfl, rfl⟩, fun h => (by cases h)⟩, h1, fun h => (by cases h)⟩
theorem step_tree {l : List Nod} (h : Tree l) (m : Mk) : Tree (growStep l m) := by
 unfold growStep
 by_cases hs : eqs (mkPath m) slashS = true
 ·rw [if_pos hs]
  exact h
 ·rw [if_neg hs]
  have hs' : mkPath m ≠ slashS := fun e => hs (eqs_iff.2 e)
  cases hf : findN l (parentOf (mkPath m)) with
  | none => exact h
  | some d =>
   show Tree (if d.dir = true ∧ findN l (mkPath m) = none then putN l (mkN d m) else l)
   by_cases hc : d.dir = true ∧ findN l (mkPath m) = none
   ·rw [if_pos hc]
    obtain ⟨hd, hp⟩ := find_some hf
    obtain ⟨k1, k2, k3⟩ := mkN_ok (h.ok d hd) m hs'
    refine h.put (d := d) k1 (by rw [mkN_path]; exact hs') (fun x hx => ?_) hd (by rw [mkN_path]; exact hp) hc.1 k2 k3
    rw [mkN_path]
    exact find_none hc.2 x hx
   ·rw [if_neg hc]
    exact h
theorem fold_tree : ∀ (ms : List Mk) {l : List Nod}, Tree l → Tree (ms.foldl growStep l)
 | [], _, h => h
 | m :: r, _, h => fold_tree r (step_tree h m)
theorem grow_tree (ts : List Lab) (ms : List Mk) : Tree (growN ts ms) := by
 refine fold_tree _ (first_tree (fun t ht => ?_) ?_)
 ·obtain ⟨u, _, rfl⟩ := List.mem_map.1 ht
  exact good_GL u
 ·rw [List.length_map, List.length_take]
  omega
/-! The names that grown nodes have. -/
def OkName (n : ByteArray) : Prop := (∃ x, n = nameOf x) ∨ ∃ k, k < 10 ∧ n = nmK k
def OkPath (p : ByteArray) : Prop := ∃ ns, p = pathB ns ∧ Names ns ∧ ∀ n ∈ ns, OkName n
theorem ok_slash : OkPath slashS := ⟨[], pathB_nil.symm, ⟨by simp, fun n hn => by cases hn⟩, fun n hn => by cases hn⟩
theorem ok_mk (m : Mk) : OkPath (mkPath m) := ⟨_, rfl, mkPath_names m, fun n hn => by
 unfold namesOf at hn
 obtain ⟨x, _, rfl⟩ := List.mem_map.1 hn
 exact .inl ⟨x, rfl⟩⟩
theorem ok_dir {k : Nat} (hk : k < 10) (t : Lab) : OkPath (dirN k t).path := ⟨[nmK k], dir_path k t, nmK_names hk, fun n hn => by
 rw [List.mem_singleton] at hn
 exact .inr ⟨k, hk, hn⟩⟩
theorem first_paths {ts : List Lab} (hn : ts.length < 10) : ∀ x ∈ firstN ts, OkPath x.path := fun x hx => by
 have hl := dist_len ts ts.length
 rcases first_mem hx with rfl | ⟨k, t, hk, ht, rfl⟩
 ·exact ok_slash
 ·exact ok_dir (by omega) t
theorem step_paths {l : List Nod} (h : ∀ x ∈ l, OkPath x.path) (m : Mk) : ∀ x ∈ growStep l m, OkPath x.path := fun x hx => by
 unfold growStep at hx
 split at hx
 ·exact h x hx
 ·split at hx
  ·exact h x hx
  ·split at hx
   ·rcases put_mem.1 hx with rfl | ⟨hx, _⟩
    ·rw [mkN_path]
     exact ok_mk m
    ·exact h x hx
   ·exact h x hx
theorem fold_paths : ∀ (ms : List Mk) {l : List Nod}, (∀ x ∈ l, OkPath x.path) → ∀ x ∈ ms.foldl growStep l, OkPath x.path
 | [], _, h => h
 | m :: r, _, h => fold_paths r (step_paths h m)
theorem grow_paths (ts : List Lab) (ms : List Mk) : ∀ x ∈ growN ts ms, OkPath x.path := fold_paths _ (first_paths (by rw [List.length_map, List.length_take]; omega))
theorem okName_head {n : ByteArray} (h : OkName n) : ∃ c r, bytes n = c :: r ∧ (97 ≤ c.toNat ∧ c.toNat ≤ 101 ∨ c.toNat = 108) := by
 rcases h with ⟨x, rfl⟩ | ⟨k, hk, rfl⟩
 ·have := letter_lo x
  refine ⟨UInt8.ofNat (letterOf x), List.replicate (x % 3).toNat (UInt8.ofNat (letterOf x)), by simp [bytes, nameOf, List.replicate_succ], .inl ?_⟩
  rw [UInt8.toNat_ofNat']
  omega
 ·exact ⟨108, [UInt8.ofNat (48 + k)], rfl, .inr rfl⟩
theorem path_not {ns : List ByteArray} (hf : ∀ n ∈ ns, Flat n ∧ 1 ≤ n.size) {b : ByteArray} (hb : b ∈ ns) (hn : ¬ OkName b) : ¬ OkPath (pathB ns) := fun h => by
 obtain ⟨ms, e, hm, hk⟩ := h
 have h1 := parts_path hf
 have h2 := parts_path hm.flat
 rw [e, h2] at h1
 subst h1
 exact hn (hk b hb)
end Go.Proofs.YtidihdiffiffmaaGreatDoor
namespace Go.Proofs.YtidihdiffiffmaaGreatDoor
open Go.RowKit
set_option maxRecDepth 8000
set_option linter.unusedSimpArgs false
set_option linter.unusedVariables false
/-! Paths of a tree's nodes. -/
theorem Tree.names {l : List Nod} (h : Tree l) {x : Nod} (hx : x ∈ l) : ∃ ns, Names ns ∧ x.path = pathB ns := by
 obtain ⟨hp, _⟩ := nodC_zero.1 (h.ok x hx)
 obtain ⟨ns, h1, h2, _⟩ := check_path hp
 exact ⟨ns, h1, h2⟩
theorem names_split {ns : List ByteArray} (hn : Names ns) (hs : pathB ns ≠ slashS) : ∃ ms n, ns = ms ++ [n] ∧ parentOf (pathB ns) = pathB ms ∧ lastOf (pathB ns) = n ∧ Names ms ∧ name n = true := by
 rcases List.eq_nil_or_concat ns with rfl | ⟨ms, n, rfl⟩
 ·exact absurd pathB_nil hs
 ·rw [List.concat_eq_append] at *
  have hf := hn.flat n (by simp)
  exact ⟨ms, n, rfl, parent_path hf.1 hf.2, last_path hf.1 hf.2, ⟨by have := hn.1; simp at this; omega, fun q hq => hn.2 q (by simp [hq])⟩, hn.2 n (by simp)⟩
theorem under_mem {l : List Nod} {p u : ByteArray} : u ∈ underN l p ↔ ∃ y ∈ l, y.path ≠ slashS ∧ parentOf y.path = p ∧ lastOf y.path = u := by
 unfold underN isUnder
 rw [List.mem_map]
 constructor
 ·rintro ⟨y, hy, rfl⟩
  rw [List.mem_filter, Bool.and_eq_true] at hy
  refine ⟨y, hy.1, fun e => ?_, eqs_iff.1 hy.2.2, rfl⟩
  have := hy.2.1
  rw [e, eqs_self] at this
  cases this
 ·rintro ⟨y, hy, h1, h2, h3⟩
  refine ⟨y, List.mem_filter.2 ⟨hy, ?_⟩, h3⟩
  rw [eqs_ne h1, eqs_iff.2 h2]
  rfl
theorem Tree.told {l : List Nod} (h : Tree l) {p u : ByteArray} (hu : u ∈ underN l p) : ∃ y ∈ l, findN l (joinOf p u) = some y ∧ parentOf y.path = p := by
 obtain ⟨y, hy, h1, h2, h3⟩ := under_mem.1 hu
 obtain ⟨ns, hn, hp⟩ := h.names hy
 rw [hp] at h1 h2 h3
 obtain ⟨ms, n, rfl, e1, e2, hm, hnn⟩ := names_split hn h1
 refine ⟨y, hy, ?_, by rw [hp]; exact h2⟩
 rw [← h2, ← h3, e1, e2, join_path n (fun q hq => (hm.flat q hq).2), ← hp]
 exact find_mem h.ord hy
theorem Tree.seg {l : List Nod} (h : Tree l) {x : Nod} (hx : x ∈ l) (hd : x.dir = false) : underN l x.path = [] := by
 cases hu : underN l x.path with
 | nil => rfl
 | cons u r =>
  exfalso
  have : u ∈ underN l x.path := by rw [hu]; exact List.mem_cons_self
  obtain ⟨y, hy, h1, h2, h3⟩ := under_mem.1 this
  obtain ⟨p, hp, e, hpd, _⟩ := h.up y hy h1
  rw [h2] at e
  have := h.ord.uniq hp hx e
  subst this
  rw [hd] at hpd
  cases hpd
/-! Names rise. -/
/-! Each but the root is told once. -/
/-! Labels rise. -/
/-! A node that may not be there. -/
end Go.Proofs.YtidihdiffiffmaaGreatDoor
namespace Go.Proofs.YtidihdiffiffmaaGreatDoor
open Go.RowKit
set_option maxRecDepth 8000
set_option linter.unusedSimpArgs false
set_option linter.unusedVariables false
def zeroN : Nod := ⟨⟨#[]⟩, false, ⟨0, 0, 0, 0⟩, [], 0, 0, 0, 0, [], ⟨0, 0, 0, 0⟩⟩
def stepE (t : Lab) : Option Nod → Int
 | none => 2
 | some d => if d.dir = false then 3 else if rov t d.label = false then 15 else 0
def wayE (L : List Nod) (t : Lab) : List ByteArray → List ByteArray → Int
 | _, [] => 0
 | ms, n :: r => if stepE t (findN L (pathB ms)) ≠ 0 then stepE t (findN L (pathB ms)) else wayE L t (ms ++ [n]) r
def seeE (L : List Nod) (t : Lab) (p : ByteArray) : Int :=
 if checkOf p ≠ 0 then checkOf p else if wayE L t [] (partsOf p) ≠ 0 then wayE L t [] (partsOf p) else if (findN L p).isNone = true then 2 else 0
def toldN (L : List Nod) (p : ByteArray) (e : Int) : Nod := if e = 0 then (findN L p).getD zeroN else zeroN
def modE (n : Nod) (u : ByteArray) (t : Lab) (m : Int) : Int :=
 if (bits .and .i64 m 5 != 0) = true ∧ rov t n.label = false then 15
 else if (bits .and .i64 m 2 != 0) = true ∧ labEq t n.label = false then 15
 else if (bits .and .i64 (modesL n.acl u) m != m) = true then 16 else 0
def mayE (L : List Nod) (u : ByteArray) (t : Lab) (p : ByteArray) (m : Int) : Int :=
 if m < 1 ∨ 7 < m then 1 else if seeE L t p ≠ 0 then seeE L t p else modE ((findN L p).getD zeroN) u t m
/-! The way. -/
theorem way_zero {L : List Nod} {t : Lab} : ∀ (r ms : List ByteArray), wayE L t ms r = 0 ↔ ∀ a n b, r = a ++ n :: b → stepE t (findN L (pathB (ms ++ a))) = 0
 | [], ms => ⟨fun _ a n b h => by simp at h, fun _ => rfl⟩
 | x :: r, ms => by
  rw [wayE]
  by_cases h0 : stepE t (findN L (pathB ms)) = 0
  ·rw [if_neg (by simp [h0]), way_zero r (ms ++ [x])]
   constructor
   ·intro h a n b e
    cases a with
    | nil => rw [List.append_nil]; exact h0
    | cons y a =>
     simp only [List.cons_append, List.cons.injEq] at e
     obtain ⟨rfl, e⟩ := e
     have := h a n b e
     rwa [List.append_assoc, List.singleton_append] at this
   ·intro h a n b e
    have := h (x :: a) n b (by rw [e]; rfl)
    rwa [List.append_assoc, List.singleton_append]
  ·rw [if_pos h0]
   constructor
   ·intro h
    exact absurd h h0
   ·intro h
    exact absurd (by simpa using h [] x r rfl) h0
theorem see_zero {L : List Nod} {t : Lab} {p : ByteArray} : seeE L t p = 0 ↔ checkOf p = 0 ∧ (∀ a n b, partsOf p = a ++ n :: b → stepE t (findN L (pathB a)) = 0) ∧ ∃ x, findN L p = some x := by
 unfold seeE
 by_cases h1 : checkOf p = 0
 ·rw [if_neg (by simp [h1])]
  by_cases h2 : wayE L t [] (partsOf p) = 0
  ·rw [if_neg (by simp [h2])]
   have h3 := (way_zero (partsOf p) []).1 h2
   cases hf : findN L p with
   | none => simp
   | some x =>
    simp only [Option.isNone_some, Bool.false_eq_true, if_false, true_iff]
    exact ⟨h1, fun a n b e => by simpa using h3 a n b e, x, rfl⟩
  ·rw [if_pos h2]
   constructor
   ·intro h
    exact absurd h h2
   ·rintro ⟨_, h, _⟩
    exact absurd ((way_zero (partsOf p) []).2 fun a n b e => by simpa using h a n b e) h2
 ·rw [if_pos h1]
  constructor
  ·intro h
   exact absurd h h1
  ·rintro ⟨h, _⟩
   exact absurd h h1
/-! In a tree, at a node's own label, all directories on the way may be seen. -/
/-! Higher. -/
/-! What lies in directories that the label is not over. -/
/-! More modes. -/
end Go.Proofs.YtidihdiffiffmaaGreatDoor
namespace Go.Proofs.YtidihdiffiffmaaGreatDoor
open Go.RowKit
set_option maxRecDepth 8000
set_option linter.unusedSimpArgs false
set_option linter.unusedVariables false
/-! Bits of modes. -/
theorem fin8 {m : Int} (h0 : 0 ≤ m) (h7 : m ≤ 7) : ∃ k : Fin 8, m = ((k.val : Nat) : Int) := ⟨⟨m.toNat, by omega⟩, by simp; omega⟩
theorem okAcl_modes : ∀ (l : List Gr) (a : ByteArray), okAcl a l = true → ∀ g ∈ l, 1 ≤ g.m ∧ g.m ≤ 7
 | [], _, _, g, hg => by cases hg
 | x :: r, a, h, g, hg => by
  simp only [okAcl, Bool.and_eq_true, decide_eq_true_eq] at h
  rcases List.mem_cons.1 hg with rfl | hg
  ·omega
  ·exact okAcl_modes r x.u h.2 g hg
theorem look_modes {l : List Gr} (h : ∀ g ∈ l, 1 ≤ g.m ∧ g.m ≤ 7) {u : ByteArray} {m : Int} (hm : look l u = some m) : 1 ≤ m ∧ m ≤ 7 := by
 unfold look at hm
 cases hf : l.find? (fun g => eqs g.u u) with
 | none => rw [hf] at hm; cases hm
 | some g =>
  rw [hf] at hm
  obtain rfl : g.m = m := Option.some.inj hm
  exact h g (List.mem_of_find?_eq_some hf)
theorem modes_range {l : List Gr} (h : chkA l = 0) (u : ByteArray) : 0 ≤ modesL l u ∧ modesL l u ≤ 7 := by
 unfold chkA at h
 by_cases h1 : 4 < l.length
 ·rw [if_pos h1] at h; cases h
 ·rw [if_neg h1] at h
  by_cases h2 : okAcl ⟨#[]⟩ l = true
  ·have hg := okAcl_modes l _ h2
   unfold modesL
   cases hu : look l u with
   | some m => have := look_modes hg hu; simp; omega
   | none =>
    cases hs : look l star with
    | some m => have := look_modes hg hs; simp; omega
    | none => simp
  ·rw [if_neg h2] at h; cases h
/-! At a node's own label. -/
/-! Users of whom a list says the same. -/
/-! Changes. -/
end Go.Proofs.YtidihdiffiffmaaGreatDoor
namespace Go.Proofs.YtidihdiffiffmaaGreatDoor
open Go.RowKit
set_option maxRecDepth 8000
def GAt (w : World) (a : Option Addr) (l : List Gr) : Prop :=
 ∀ j g, l[j]? = some g → ∃ x, a = some x ∧ w.cell? (x.add (j * 2)) = some (.string g.u) ∧ w.cell? ⟨(x.add (j * 2)).block, (x.add (j * 2)).off + 1, none⟩ = some (.int .i64 g.m)
theorem GAt.below {w w' : World} {a : Option Addr} {l : List Gr} (h : GAt w a l) (b : Below w.heap.size w w') : GAt w' a l := by
 intro j g hg
 obtain ⟨x, hx, h1, h2⟩ := h j g hg
 exact ⟨x, hx, (b.cell (World.block_lt_of_cell? _ _ h1)).trans h1, (b.cell (World.block_lt_of_cell? _ _ h2)).trans h2⟩
theorem GAt.drew {w : World} {a : Option Addr} {l : List Gr} (h : GAt w a l) : GAt w.drew a l := h
set_option maxHeartbeats 1000000 in
theorem compareString_any (a b : ByteArray) (w : World) :
    Calls Tryz.prog 171 #[.string a, .string b] w fun e w' => e = .returned (.int .i64 (cmpB a b)) ∧ w' = w := by
 go_enter Tryz.func171, Tryz.ntmps171
 go_wp2
 rw [run_callFunc_extern Tryz.func179 (by kernel_rfl) (by kernel_rfl) (by kernel_rfl) (e := Extern.BytealgCompare.compare) (by kernel_rfl), Lib.run_compareString]
 simp only [Result.andThen]
 rw [Oper.upon_value]
 go_wp2
 go_ret
 exact ⟨rfl, rfl⟩
set_option maxHeartbeats 1000000 in
theorem compare_any (a b : ByteArray) (w : World) :
    Calls Tryz.prog 140 #[.string a, .string b] w fun e w' => e = .returned (.int .i64 (cmpB a b)) ∧ w' = w := by
 go_enter Tryz.func140, Tryz.ntmps140
 go_wp2_with (go_at_call 171; refine (compareString_any _ _ _).mono ?_; rintro e w' ⟨rfl, rfl⟩)
 go_ret
 exact ⟨rfl, rfl⟩
set_option maxHeartbeats 1000000 in
theorem cmp_any (g : Gr) (u : ByteArray) (w : World) :
    Calls Tryz.prog 144 #[g.v, .string u] w fun e w' => e = .returned (.int .i64 (cmpB g.u u)) ∧ Below w.heap.size w w' := by
 have hb := alloc_below w (.cells #[.string g.u, .int .i64 g.m] 119)
 go_enter Tryz.func144, Tryz.ntmps144
 go_wp2_with (go_at_call 140; refine (compare_any _ _ _).mono ?_; rintro e w' ⟨rfl, rfl⟩)
 go_ret
 exact ⟨rfl, hb⟩
end Go.Proofs.YtidihdiffiffmaaGreatDoor
namespace Go.Proofs.YtidihdiffiffmaaGreatDoor
open Go.RowKit
set_option maxRecDepth 8000
theorem Parts.len {l A M B : List Gr} {u : ByteArray} (p : Parts l u A M B) : l.length = A.length + (M.length + B.length) := by rw [p.eq]; simp
theorem Parts.cmp {l A M B : List Gr} {u : ByteArray} (p : Parts l u A M B) {h : Nat} {g : Gr} (hg : l[h]? = some g) : (cmpB g.u u < 0 ↔ h < A.length) ∧ (cmpB g.u u = 0 ↔ (h = A.length ∧ M ≠ [])) := by
 rw [p.eq] at hg
 by_cases h1 : h < A.length
 ·rw [List.getElem?_append_left h1] at hg
  have := p.ahead g (List.mem_of_getElem? hg)
  refine ⟨⟨fun _ => h1, fun _ => (cmp_lt _ _).2 this⟩, ⟨fun e => absurd ((cmp_eq0 _ _).1 e) (lt_ne this), fun e => by omega⟩⟩
 ·rw [List.getElem?_append_right (by omega)] at hg
  rcases p.mid with hM | ⟨m, hM⟩
  ·rw [hM] at hg
   have hb := p.behind g (List.mem_of_getElem? (by simpa using hg))
   refine ⟨⟨fun e => ?_, fun e => absurd e h1⟩, ⟨fun e => absurd ((cmp_eq0 _ _).1 e).symm (lt_ne hb), fun e => absurd hM e.2⟩⟩
   have := (cmp_lt _ _).1 e
   rw [lt_asymm hb] at this
   cases this
  ·rw [hM] at hg ⊢
   by_cases h2 : h = A.length
   ·subst h2
    simp at hg
    subst hg
    have e0 : cmpB u u = 0 := (cmp_eq0 _ _).2 rfl
    simp [e0]
   ·obtain ⟨k, hk⟩ : ∃ k, h - A.length = k + 1 := ⟨h - A.length - 1, by omega⟩
    rw [hk] at hg
    have hb := p.behind g (List.mem_of_getElem? (by simpa using hg))
    refine ⟨⟨fun e => ?_, fun e => absurd e h1⟩, ⟨fun e => absurd ((cmp_eq0 _ _).1 e).symm (lt_ne hb), fun e => absurd e.1 h2⟩⟩
    have := (cmp_lt _ _).1 e
    rw [lt_asymm hb] at this
    cases this
set_option maxHeartbeats 4000000 in
theorem search_any (w : World) (a : Option Addr) (cap : Nat) (l A M B : List Gr) (u : ByteArray) (p : Parts l u A M B) (hG : GAt w a l) (hl : l.length ≤ 1000) :
    Calls Tryz.prog 143 #[.slice a l.length cap, .string u, .func (.func 144) #[] #[]] w fun e w' => e = .returned (.tuple #[.int .i64 (A.length : Nat), .bool (!M.isEmpty)]) ∧ Below w.heap.size w w' := by
 have hlen := p.len
 obtain ⟨n, hn⟩ : ∃ n, l.length = n := ⟨_, rfl⟩
 obtain ⟨c, hc⟩ : ∃ c, A.length = c := ⟨_, rfl⟩
 obtain ⟨b, hb⟩ : ∃ b, (!M.isEmpty) = b := ⟨_, rfl⟩
 have hcmp : ∀ (h : Nat) (g : Gr), l[h]? = some g → (cmpB g.u u < 0 ↔ h < c) ∧ (cmpB g.u u = 0 ↔ (h = c ∧ b = true)) := by
  intro h g hg
  have := p.cmp hg
  rw [hc] at this
  refine ⟨this.1, this.2.trans ?_⟩
  rw [← hb]
  cases M <;> simp
 have hcn : c ≤ n := by omega
 have hbn : b = true → c < n := by
  intro h
  rw [← hb] at h
  cases M with
  | nil => simp at h
  | cons x y => simp at hlen; omega
 rw [hn, hc, hb]
 rw [hn] at hl
 clear p hb hc hlen
 go_enter Tryz.func143, Tryz.ntmps143
 go_wp2
 go_loopg [9, 10] n (fun kx s9 s10 wr => ∃ lo hi : Nat, s9 = .int .i64 lo ∧ s10 = .int .i64 hi ∧ lo ≤ c ∧ c ≤ hi ∧ hi ≤ n ∧ hi - lo ≤ kx ∧ Below w.heap.size w wr)
 case atStart => exact ⟨0, n, rfl, rfl, Nat.zero_le _, hcn, Nat.le_refl _, by omega, Below.refl _ _⟩
 case round =>
  obtain ⟨lo, hi, rfl, rfl, hlo, hhi, hin, hg, hB⟩ := hrel
  by_cases hlt : lo < hi
  ·obtain ⟨y, hy⟩ : ∃ y, l[(lo + hi) / 2]? = some y := ⟨_, List.getElem?_eq_getElem (by omega)⟩
   obtain ⟨x, rfl, c0, c1⟩ := (hG.below hB) _ _ hy
   have hcy := hcmp _ _ hy
   by_cases hyx : cmpB y.u u < 0
   ·have hlt2 := hcy.1.1 hyx
    go_wp2_with (go_at_call 144; refine (cmp_any y u _).mono ?_; rintro e w' ⟨rfl, hBw⟩)
    go_roundg (hi - ((lo + hi) / 2 + 1))
    case measure => omega
    case rel => exact ⟨(lo + hi) / 2 + 1, hi, by rw [show ((lo : Int) + (hi : Int)) / 2 + 1 = (((lo + hi) / 2 + 1 : Nat) : Int) by omega], rfl, by omega, hhi, hin, Nat.le_refl _, Below.then hB hBw⟩
   ·have hge : c ≤ (lo + hi) / 2 := Nat.le_of_not_lt fun h => hyx (hcy.1.2 h)
    go_wp2_with (go_at_call 144; refine (cmp_any y u _).mono ?_; rintro e w' ⟨rfl, hBw⟩)
    go_roundg ((lo + hi) / 2 - lo)
    case measure => omega
    case rel => exact ⟨lo, (lo + hi) / 2, rfl, by rw [show ((lo : Int) + (hi : Int)) / 2 = (((lo + hi) / 2 : Nat) : Int) by omega], hlo, hge, by omega, Nat.le_refl _, Below.then hB hBw⟩
  ·obtain rfl : lo = c := by omega
   by_cases hln : lo < n
   ·obtain ⟨y, hy⟩ : ∃ y, l[lo]? = some y := ⟨_, List.getElem?_eq_getElem (by omega)⟩
    obtain ⟨x, rfl, c0, c1⟩ := (hG.below hB) _ _ hy
    have hcy := (hcmp _ _ hy).2
    by_cases hyx : cmpB y.u u = 0
    ·obtain rfl : b = true := (hcy.1 hyx).2
     go_wp2_with (go_at_call 144; refine (cmp_any y u _).mono ?_; rintro e w' ⟨rfl, hBw⟩)
     go_ret2
     exact ⟨by simp, Below.then hB hBw⟩
    ·obtain rfl : b = false := by
       cases b
       ·rfl
       ·exact absurd (hcy.2 ⟨rfl, rfl⟩) hyx
     go_wp2_with (go_at_call 144; refine (cmp_any y u _).mono ?_; rintro e w' ⟨rfl, hBw⟩)
     go_ret2
     exact ⟨by simp [hyx], Below.then hB hBw⟩
   ·obtain rfl : b = false := by
      cases b
      ·rfl
      ·exact absurd (hbn rfl) hln
    go_wp2
    go_ret2
    exact ⟨rfl, hB⟩
set_option maxHeartbeats 1000000 in
theorem find_any (w : World) (a : Option Addr) (cap : Nat) (l A M B : List Gr) (u : ByteArray) (p : Parts l u A M B) (hG : GAt w a l) (hl : l.length ≤ 1000) :
    Calls Tryz.prog 112 #[.slice a l.length cap, .string u] w fun e w' => e = .returned (.tuple #[.int .i64 (A.length : Nat), .bool (!M.isEmpty)]) ∧ Below w.heap.size w w' := by
 have h := search_any w a cap l A M B u p hG hl
 go_enter Tryz.func112, Tryz.ntmps112
 go_wp2_with (go_at_call 143; refine h.mono ?_; rintro e w' ⟨rfl, hB⟩)
 go_ret2
 exact ⟨rfl, hB⟩
end Go.Proofs.YtidihdiffiffmaaGreatDoor
namespace Go.Proofs.YtidihdiffiffmaaGreatDoor
open Go.RowKit
set_option maxRecDepth 8000
theorem GAt.mid {w : World} {a : Option Addr} {l A M B : List Gr} {u : ByteArray} (h : GAt w a l) (p : Parts l u A M B) {m : Int} (hM : M = [⟨u, m⟩]) : ∃ x, a = some x ∧ w.cell? ⟨(x.add (A.length * 2)).block, (x.add (A.length * 2)).off + 1, none⟩ = some (.int .i64 m) ∧ A.length < l.length := by
 have hg : l[A.length]? = some ⟨u, m⟩ := by
  rw [p.eq, hM, List.getElem?_append_right (Nat.le_refl _)]
  simp
 obtain ⟨x, hx, _, h1⟩ := h _ _ hg
 exact ⟨x, hx, h1, (List.getElem?_eq_some_iff.1 hg).1⟩
set_option maxHeartbeats 2000000 in
theorem modes_any (w : World) (a : Option Addr) (cap : Nat) (l : List Gr) (u : ByteArray) (hs : Sorted l) (hG : GAt w a l) (hl : l.length ≤ 1000) :
    Calls Tryz.prog 79 #[.slice a l.length cap, .string u] w fun e w' => e = .returned (.int .i64 (modesL l u)) ∧ Below w.heap.size w w' := by
 obtain ⟨A, M, B, p⟩ := parts_of l u hs
 have hf := find_any w a cap l A M B u p hG hl
 rcases p.mid with hM | ⟨m, hM⟩
 ·have e1 : (!M.isEmpty) = false := by rw [hM]; rfl
  rw [e1] at hf
  obtain ⟨A', M', B', p'⟩ := parts_of l star hs
  have hm : modesL l u = (look M' star).getD 0 := by
   unfold modesL
   rw [p.look, hM, p'.look]
   rfl
  rw [hm]
  clear hm
  have hf2 := fun w1 (hB : Below w.heap.size w w1) => find_any w1 a cap l A' M' B' star p' (hG.below hB) hl
  generalize A.length = c at hf
  rcases p'.mid with hM' | ⟨m', hM'⟩
  ·have e2 : (!M'.isEmpty) = false := by rw [hM']; rfl
   have e3 : (look M' star).getD 0 = 0 := by rw [hM']; rfl
   rw [e3]
   simp only [e2] at hf2
   generalize A'.length = c' at hf2
   obtain ⟨n, hn⟩ : ∃ n, l.length = n := ⟨_, rfl⟩
   rw [hn] at hf hf2 hl ⊢
   go_enter Tryz.func79, Tryz.ntmps79
   go_wp2_with fail
   refine hf.mono ?_
   rintro e w1 ⟨rfl, hB1⟩
   go_wp2_with fail
   refine (hf2 _ hB1).mono ?_
   rintro e w2 ⟨rfl, hB2⟩
   go_wp2_with fail
   go_ret
   exact ⟨rfl, Below.then hB1 hB2⟩
  ·have e2 : (!M'.isEmpty) = true := by rw [hM']; rfl
   have e3 : (look M' star).getD 0 = m' := by rw [hM', look_one]; rfl
   rw [e3]
   simp only [e2] at hf2
   have hmid := fun w1 (hB : Below w.heap.size w w1) => (hG.below hB).mid p' hM'
   generalize A'.length = c' at hf2 hmid
   obtain ⟨n, hn⟩ : ∃ n, l.length = n := ⟨_, rfl⟩
   rw [hn] at hf hf2 hmid hl ⊢
   go_enter Tryz.func79, Tryz.ntmps79
   go_wp2_with fail
   refine hf.mono ?_
   rintro e w1 ⟨rfl, hB1⟩
   go_wp2_with fail
   refine (hf2 _ hB1).mono ?_
   rintro e w2 ⟨rfl, hB2⟩
   obtain ⟨x, rfl, c1, hlt⟩ := hmid _ (Below.then hB1 hB2)
   go_wp2_with fail
   go_ret
   exact ⟨rfl, Below.then hB1 hB2⟩
 ·have e1 : (!M.isEmpty) = true := by rw [hM]; rfl
  rw [e1] at hf
  have hm : modesL l u = m := by
   unfold modesL
   rw [p.look, hM, look_one]
   rfl
  rw [hm]
  clear hm
  have hmid := fun w1 (hB : Below w.heap.size w w1) => (hG.below hB).mid p hM
  generalize A.length = c at hf hmid
  obtain ⟨n, hn⟩ : ∃ n, l.length = n := ⟨_, rfl⟩
  rw [hn] at hf hmid hl ⊢
  go_enter Tryz.func79, Tryz.ntmps79
  go_wp2_with fail
  refine hf.mono ?_
  rintro e w1 ⟨rfl, hB1⟩
  obtain ⟨x, rfl, c1, hlt⟩ := hmid _ hB1
  go_wp2_with fail
  go_ret
  exact ⟨rfl, hB1⟩
def rmod (u : ByteArray) (a : Int) : List Gr → Int
 | [] => a
 | g :: r => if eqs g.u star = true then rmod u g.m r else if eqs g.u u = true then g.m else rmod u a r
theorem rmod_eq (u : ByteArray) : ∀ (l : List Gr) (a : Int), Sorted l → rmod u a l = if eqs u star = true then (look l star).getD a else (look l u).getD ((look l star).getD a)
 | [], a, _ => by simp [rmod, look]
 | g :: r, a, hs => by
  have hp := List.pairwise_cons.1 hs
  have hno : look r g.u = none := look_none fun x hx => (lt_ne (hp.1 x hx)).symm
  rw [rmod, look_cons, look_cons]
  cases h1 : eqs g.u star
  ·simp only [Bool.false_eq_true, if_false]
   cases h2 : eqs g.u u
   ·simp only [Bool.false_eq_true, if_false]
    exact rmod_eq u r a hp.2
   ·have hus : eqs u star = false := by rw [← eqs_iff.1 h2]; exact h1
    simp [hus]
  ·simp only [if_true]
   have e := eqs_iff.1 h1
   rw [e] at hno
   rw [rmod_eq u r g.m hp.2, hno]
   cases h2 : eqs u star
   ·have hne : eqs g.u u = false := by
      rw [e]
      refine eqs_ne fun k => ?_
      rw [← k, eqs_self] at h2
      cases h2
    simp [hne]
   ·simp
theorem rmod_modes {l : List Gr} (hs : Sorted l) (u : ByteArray) : rmod u 0 l = modesL l u := by
 rw [rmod_eq u l 0 hs]
 unfold modesL
 cases h : eqs u star
 ·simp
 ·rw [eqs_iff.1 h]
  simp
  cases look l star <;> rfl
theorem star_b {u : ByteArray} {b : Bool} (h : eqs u star = b) : (u.toList == [42]) = b := by
 have : star.toList = [42] := by rw [toL]; rfl
 unfold eqs at h
 rw [this] at h
 exact h
theorem str_b {a b : ByteArray} {x : Bool} (h : eqs a b = x) : (a.toList == b.toList) = x := h
set_option maxHeartbeats 2000000 in
theorem rmodes_any (w : World) (a : Option Addr) (cap : Nat) (l : List Gr) (u : ByteArray) (hs : Sorted l) (hG : GAt w a l) (hl : l.length ≤ 1000) :
    Calls Tryz.prog 52 #[.slice a l.length cap, .string u] w fun e w' => e = .returned (.int .i64 (modesL l u)) ∧ w' = w := by
 obtain ⟨n, hn⟩ : ∃ n, l.length = n := ⟨_, rfl⟩
 obtain ⟨r, hr⟩ : ∃ r, modesL l u = r := ⟨_, rfl⟩
 have hr0 : Aside (r = rmod u 0 (l.drop 0)) := by rw [Aside, ← hr]; exact (rmod_modes hs u).symm
 rw [hr, hn]
 rw [hn] at hl
 clear hr hs
 go_enter Tryz.func52, Tryz.ntmps52
 go_wp2_with fail
 go_loopw [5, 6] (fun s t wr => ∃ (i : Nat) (al : Int), i ≤ n ∧ t = .int .i64 (i : Int) ∧ s = .int .i64 al ∧ wr = w ∧ Aside (r = rmod u al (l.drop i))) (fun _ t _ => n - (Go.RowKit.intOf t).toNat)
 case atStart => exact ⟨0, 0, by omega, rfl, rfl, rfl, hr0⟩
 case round =>
  obtain ⟨i, al, hi, rfl, rfl, rfl, hall⟩ := hrel
  by_cases hlt : i < n
  ·obtain ⟨g, hg⟩ : ∃ g, l[i]? = some g := ⟨_, List.getElem?_eq_getElem (by omega)⟩
   obtain ⟨x, rfl, c0, c1⟩ := hG _ _ hg
   have hd : l.drop i = g :: l.drop (i + 1) := by
    have h := List.getElem?_eq_some_iff.1 hg
    rw [List.drop_eq_getElem_cons h.1, h.2]
   rw [hd, rmod] at hall
   clear hd hr0
   cases h1 : eqs g.u star
   ·cases h2 : eqs g.u u
    ·have hn2 : Aside (r = rmod u al (l.drop (i + 1))) := by rw [h1, h2] at hall; simpa using hall
     have k1 := star_b h1
     have k2 := str_b h2
     clear hall
     go_wp2_with fail
     exact ⟨⟨i + 1, al, by omega, by simp, rfl, trivial, hn2⟩, by simp [Go.RowKit.intOf]; omega⟩
    ·obtain rfl : r = g.m := by rw [hall.out, h1, h2]; simp
     have k1 := star_b h1
     have k2 := str_b h2
     clear hall
     go_wp2_with fail
     go_ret
     exact ⟨rfl, rfl⟩
   ·have hn2 : Aside (r = rmod u g.m (l.drop (i + 1))) := by rw [h1] at hall; simpa using hall
    have k1 := star_b h1
    clear hall
    go_wp2_with fail
    exact ⟨⟨i + 1, g.m, by omega, by simp, rfl, trivial, hn2⟩, by simp [Go.RowKit.intOf]; omega⟩
  ·obtain rfl : r = al := by rw [hall.out, List.drop_eq_nil_of_le (by omega)]; rfl
   clear hall hr0
   go_wp2_with fail
   go_ret
   exact ⟨rfl, rfl⟩
end Go.Proofs.YtidihdiffiffmaaGreatDoor
namespace Go.Proofs.YtidihdiffiffmaaGreatDoor
open Go.RowKit
set_option maxRecDepth 8000
set_option linter.unusedSimpArgs false
set_option linter.unusedVariables false
abbrev sbL (u : ByteArray) (t : Lab) : List Value := [.string u, .int .i64 t.s, .int .i64 t.c, .int .i64 t.i, .int .i64 t.k]
abbrev labM (t : Lab) : List Value := [.int .i64 t.s, .int .i64 t.c, .int .i64 t.i, .int .i64 t.k]
def toldP (l : List PN) (p : ByteArray) (e : Int) : PN := if e = 0 then (findP l p).getD zeroP else zeroP
theorem told_names (l : List PN) (p : ByteArray) (e : Int) : (toldP l p e).n = toldN (namesP l) p e := by
 unfold toldP toldN
 split
 ·rw [find_names]
  cases findP l p <;> rfl
 ·rfl
theorem set_res (x : PN) : setM zeroP.cs 0 x.cs = x.cs := rfl
theorem put_res {w W : World} {g : Nat} (h : BlkL g zeroP.cs W) (x : PN) (hb : Below w.heap.size w W) (hg : w.heap.size ≤ g) : ∃ W', W.setCells g 0 x.cs = W' ∧ W.there g 0 x.cs.length ∧ BlkL g x.cs W' ∧ Below w.heap.size w W' := by
 obtain ⟨W', h1, h2, h3, h4⟩ := put_mid h 0 x.cs (by rw [pn_len, pn_len]; omega) (by rw [pn_len]; decide) hb hg
 rw [set_res] at h3
 exact ⟨W', h1, h2, h3, h4⟩
theorem cells_mid {W : World} {g : Nat} {cs : List Value} (h : BlkL g cs W) (k : Nat) (ds : List Value) (hd : ∀ j v, ds[j]? = some v → cs[k + j]? = some v) : CellsAt W ⟨g, k, none⟩ ds := fun j v hv => by
 have := (h.1 (k + j) v (hd j v hv)).1
 have e : (⟨g, k, none⟩ : Addr).add j = ⟨g, k + j, none⟩ := by
  unfold Addr.add
  split <;> simp_all
 rw [e]
 exact this
theorem sb_lab {W : World} {g : Nat} {u : ByteArray} {t : Lab} (h : BlkL g (sbL u t) W) : CellsAt W ⟨g, 1, none⟩ (labM t) := cells_mid h 1 _ fun j v hv => by
 match j, hv with
 | 0, hv => exact hv
 | 1, hv => exact hv
 | 2, hv => exact hv
 | 3, hv => exact hv
theorem nd_lab {W : World} {g : Nat} {x : PN} (h : BlkL g x.cs W) : CellsAt W ⟨g, 2, none⟩ (labM x.n.label) := cells_mid h 2 _ fun j v hv => by
 match j, hv with
 | 0, hv => exact hv
 | 1, hv => exact hv
 | 2, hv => exact hv
 | 3, hv => exact hv
structure MS (w W : World) (u : ByteArray) (t : Lab) : Prop where
 bl : Below w.heap.size w W
 bx : BlkL w.heap.size (sbL u t) W
 rs : BlkL (w.heap.size + 1) zeroP.cs W
theorem MS.then {w W W' : World} {u : ByteArray} {t : Lab} (h : MS w W u t) (b : Below W.heap.size W W') : MS w W' u t := ⟨Below.then h.bl b, stab_blk _ _ _ _ h.bx b, stab_blk _ _ _ _ h.rs b⟩
abbrev zN : Array Value := #[.string ⟨#[]⟩, .bool false, .int .i64 0, .int .i64 0, .int .i64 0, .int .i64 0, .slice none 0 0, .int .i64 0, .int .i64 0, .int .i64 0, .int .i64 0, .slice none 0 0, .int .i64 0, .int .i64 0, .int .i64 0, .int .i64 0]
theorem way_succ {L : List Nod} {t : Lab} {ns : List ByteArray} {i : Nat} {n : ByteArray} (hx : ns[i]? = some n) : wayE L t (ns.take i) (ns.drop i) = if stepE t (findN L (pathB (ns.take i))) ≠ 0 then stepE t (findN L (pathB (ns.take i))) else wayE L t (ns.take (i + 1)) (ns.drop (i + 1)) := by
 have h1 := List.getElem?_eq_some_iff.1 hx
 rw [List.drop_eq_getElem_cons h1.1, h1.2, wayE, List.take_add_one, hx]
 rfl
theorem ms_start (w : World) (u : ByteArray) (t : Lab) : MS w ((w.alloc (.cells (sbL u t).toArray 60)).alloc (.cells zN 36)) u t := by
 have hb := alloc_below w (.cells (sbL u t).toArray 60)
 have hb2 := alloc_below (w.alloc (.cells (sbL u t).toArray 60)) (.cells zN 36)
 have h2 := blkl_alloc (w.alloc (.cells (sbL u t).toArray 60)) zN 36
 rw [World.size_alloc] at h2
 exact ⟨Below.then hb hb2, stab_blk _ _ _ _ (blkl_alloc w (sbL u t).toArray 60) hb2, h2⟩
set_option maxRecDepth 20000 in
set_option maxHeartbeats 8000000 in
theorem rsee_any (a : Option Addr) (cap : Nat) (l : List PN) (u : ByteArray) (t : Lab) (p : ByteArray) (hl : l.length ≤ 100000) (hp : p.size ≤ 100000) (w : World) (h : RowN w a l) :
    Calls Tryz.prog 50 #[.slice a l.length cap, .agg (sbL u t).toArray, .string p] w fun e w' => e = .returned (.tuple #[.agg (toldP l p (seeE (namesP l) t p)).cs.toArray, .int .i64 (seeE (namesP l) t p)]) ∧ Below w.heap.size w w' := by
 have hund := Tryz.underlying36
 have hundL := Tryz.underlying30
 have hsz : (Tryz.prog.info? 36).map (·.size) = some zeroP.cs.length := by kernel_rfl
 have hszN : (Tryz.prog.info? 36).map (·.size) = some 16 := by kernel_rfl
 have hsl : (Tryz.prog.info? 30).map (·.size) = some 4 := by kernel_rfl
 have kf := fun W q (r : RowN W a l) => rfindT_any a cap l q (by omega) W r
 have kc := rpcheck_any p hp
 obtain ⟨E, hE⟩ : ∃ E, seeE (namesP l) t p = E := ⟨_, rfl⟩
 rw [hE]
 have hE0 := hE
 replace hE0 : Aside (seeE (namesP l) t p = E) := hE0
 unfold seeE at hE
 obtain ⟨n, hn⟩ : ∃ n, l.length = n := ⟨_, rfl⟩
 rw [hn] at kf ⊢
 replace hn : Aside (l.length = n) := hn
 have h0 := ms_start w u t
 have hbad : ∀ {W : World} {E : Int}, E ≠ 0 → MS w W u t → ∃ W', W.setCells (w.heap.size + 1) 0 zeroP.cs = W' ∧ W.there (w.heap.size + 1) 0 zeroP.cs.length ∧ BlkL (w.heap.size + 1) zeroP.cs W' ∧ Below w.heap.size w W' ∧ toldP l p E = zeroP := fun {W E} hE hM => by
  obtain ⟨W', q1, q2, q3, q4⟩ := put_res hM.rs zeroP hM.bl (by omega)
  exact ⟨W', q1, q2, q3, q4, by unfold toldP; rw [if_neg hE]⟩
 obtain ⟨T, hT⟩ : ∃ T, toldP l p E = T := ⟨_, rfl⟩
 rw [hT]
 replace hT : Aside (toldP l p E = T) := hT
 generalize hce : checkOf p = ce at *
 go_enter Tryz.func50, Tryz.ntmps50
 go_wp2_with fail
 generalize (w.alloc (.cells (sbL u t).toArray 60)).alloc (.cells zN 36) = W0 at *
 refine (kc W0).mono ?_
 rintro e W1 ⟨rfl, hB1⟩
 have h1 := h0.then hB1
 clear kc h0 hB1
 by_cases hc0 : ce = 0
 rotate_left
 ·rw [if_pos hc0] at hE
  subst hE
  obtain ⟨W2, hW2, hth, hk, hb, hz⟩ := hbad hc0 h1
  obtain rfl : T = zeroP := hT.out.symm.trans hz
  clear kf hbad hE0 hT
  as_aux_lemma =>
   go_wp2_with (first | (refine wpList_store_part rfl _ _ rfl (w.heap.size + 1) 0 rfl zeroP.cs rfl hth hsz (pn_one zeroP) hW2 ?_) | fail)
   refine bodyPost_ret (v := .tuple #[.agg zeroP.cs.toArray, .int .i64 ce]) (results_row2 rfl _ _ (w.heap.size + 1) rfl (.int .i64 ce) rfl zeroP.cs hk.range hund rfl hsz) rfl ?_
   exact ⟨rfl, hb⟩
 subst hc0
 rw [if_neg (by simp)] at hE
 obtain ⟨ns, hns, rfl, h78⟩ := check_path hce
 have hpp : partsOf (pathB ns) = ns := parts_path hns.flat
 rw [hpp] at hE
 have kp := rparts_any (pathB ns) hp W1
 rw [hpp] at kp
 obtain ⟨ln, hln⟩ : ∃ ln, ns.length = ln := ⟨_, rfl⟩
 go_wp2_with fail
 refine kp.mono ?_
 rintro e W2 ⟨pv, rfl, ho2, hB2⟩
 have h2 := h1.then hB2
 obtain ⟨pa, pcap, rfl⟩ := ho2.slice hln
 obtain ⟨B2, hB2e⟩ : ∃ B2, W1.heap.size = B2 := ⟨_, rfl⟩
 rw [hB2e] at ho2
 clear kp h1 hB2 hB2e hpp
 replace hce : Aside _ := hce
 have hln6 : ln ≤ 6 := by rw [← hln]; exact hns.1
 replace hE : Aside _ := hE
 replace hln : Aside (ns.length = ln) := hln
 go_wp2_with fail
 go_loopw [10, 11] (fun t10 t11 wr => ∃ i : Nat, i ≤ ln ∧ t11 = .int .i64 (i : Int) ∧ t10 = .string (pathB (ns.take i)) ∧ Aside (wayE (namesP l) t [] ns = wayE (namesP l) t (ns.take i) (ns.drop i)) ∧ MS w wr u t ∧ OwnS wr B2 (.slice pa ln pcap) ns) (fun _ t11 _ => ln - (Go.RowKit.intOf t11).toNat)
 case atStart => exact ⟨0, by omega, rfl, by rw [List.take_zero, pathB_nil]; rfl, rfl, h2, ho2⟩
 case round =>
  clear h2 ho2
  obtain ⟨i, hi, rfl, rfl, hway, hM, ho⟩ := hrel
  by_cases hlt : i < ln
  ·obtain ⟨nm, hnm⟩ : ∃ nm, ns[i]? = some nm := ⟨_, List.getElem?_eq_getElem (by rw [hln.out]; exact hlt)⟩
   have hnn := hns.flat nm (List.mem_of_getElem? hnm)
   have hnsz := (name_size (hns.2 nm (List.mem_of_getElem? hnm))).2
   have hw2 := hway.out
   rw [way_succ hnm, find_names] at hw2
   have hjoin : joinOf (pathB (ns.take i)) nm = pathB (ns.take (i + 1)) := by
    rw [join_path nm (fun q hq => (hns.flat q (List.mem_of_mem_take hq)).2), List.take_add_one, hnm]
    rfl
   have hats : (pathB (ns.take i)).size ≤ 1000000 := by
    have : Names (ns.take i) := ⟨by rw [List.length_take]; have := hns.1; omega, fun q hq => hns.2 q (List.mem_of_mem_take hq)⟩
    have := names_size this
    omega
   have kj := rjoin_any (pathB (ns.take i)) nm hats (by omega)
   rw [hjoin] at kj
   have kb := kf wr (pathB (ns.take i)) (h.below hM.bl)
   obtain ⟨fr, hfr⟩ : ∃ fr, findP l (pathB (ns.take i)) = fr := ⟨_, rfl⟩
   rw [hfr] at kb hw2
   obtain ⟨cs, hcs⟩ : ∃ cs, foundCs fr = cs := ⟨_, rfl⟩
   have hlen : cs.length = 16 := by rw [← hcs]; rfl
   have hone : ∀ v ∈ cs, v.oneCell' = true := by rw [← hcs]; exact pn_one _
   have hszc : (Tryz.prog.info? 36).map (·.size) = some cs.length := by rw [hlen]; exact hszN
   rw [hcs] at kb
   obtain ⟨at_, hat⟩ : ∃ at_, pathB (ns.take i) = at_ := ⟨_, rfl⟩
   rw [hat] at kb kj ⊢
   have i1 : (i : Int) < (ln : Int) := by omega
   clear hway hat hjoin hats hfr
   replace hw2 : Aside _ := hw2
   go_wp2_with fail
   refine kb.mono ?_
   rintro e W3 ⟨rfl, hB3⟩
   have hM3 := hM.then hB3
   obtain ⟨W4, hW4, hth4, hbn, hB4⟩ := put_new W3 zN 36 cs (by rw [hlen]; rfl) (by omega)
   have hM4 := hM3.then hB4
   have hB34 := Below.then hB3 hB4
   have ho4 := ho.below hB34
   clear kb hM hM3 hB3 hB4 ho
   cases fr with
   | none =>
    obtain rfl : E = 2 := by
     have q := hw2.out
     rw [show stepE t (Option.map (fun x => x.n) (none : Option PN)) = 2 from rfl, if_pos (by decide)] at q
     rw [← hE.out, q]
     rfl
    clear hcs hw2
    obtain ⟨W9, hW9, hth9, hk9, hb9, hz9⟩ := hbad (W := W4) (E := 2) (by decide) hM4
    obtain rfl : T = zeroP := hT.out.symm.trans hz9
    clear kf hbad hE0 hT hE
    as_aux_lemma =>
     go_wp2_with (first | (refine wpList_store_row rfl _ _ rfl W3.heap.size rfl cs rfl hth4 hszc hone hW4 ?_) | (refine wpList_store_part rfl _ _ rfl (w.heap.size + 1) 0 rfl zeroP.cs rfl hth9 hsz (pn_one zeroP) hW9 ?_) | fail)
     refine bodyPost_ret (v := .tuple #[.agg zeroP.cs.toArray, .int .i64 2]) (results_row2 rfl _ _ (w.heap.size + 1) rfl (.int .i64 2) rfl zeroP.cs hk9.range hund rfl hsz) rfl ?_
     exact ⟨rfl, hb9⟩
   | some d =>
    have hbd : BlkL W3.heap.size d.cs W4 := by rw [show d.cs = cs from hcs]; exact hbn
    have hz1 := (hbd.1 1 _ rfl).1
    have hcb := sb_lab hM4.bx
    have hcn := nd_lab hbd
    replace hw2 : Aside (wayE (namesP l) t [] ns = if stepE t (some d.n) ≠ 0 then stepE t (some d.n) else wayE (namesP l) t (ns.take (i + 1)) (ns.drop (i + 1))) := hw2
    clear hbd hbn hcs
    cases hd : d.n.dir
    ·rw [hd] at hz1
     obtain rfl : E = 3 := by
      have q := hw2.out
      rw [show stepE t (some d.n) = 3 from by unfold stepE; simp [hd], if_pos (by decide)] at q
      rw [← hE.out, q]
      rfl
     clear hw2 hcb hcn
     obtain ⟨W9, hW9, hth9, hk9, hb9, hz9⟩ := hbad (W := W4) (E := 3) (by decide) hM4
     obtain rfl : T = zeroP := hT.out.symm.trans hz9
     clear kf hbad hE0 hT hE
     as_aux_lemma =>
      go_wp2_with (first | (refine wpList_store_row rfl _ _ rfl W3.heap.size rfl cs rfl hth4 hszc hone hW4 ?_) | (refine wpList_store_part rfl _ _ rfl (w.heap.size + 1) 0 rfl zeroP.cs rfl hth9 hsz (pn_one zeroP) hW9 ?_) | fail)
      refine bodyPost_ret (v := .tuple #[.agg zeroP.cs.toArray, .int .i64 3]) (results_row2 rfl _ _ (w.heap.size + 1) rfl (.int .i64 3) rfl zeroP.cs hk9.range hund rfl hsz) rfl ?_
      exact ⟨rfl, hb9⟩
    ·rw [hd] at hz1
     have kv := rlover_any t d.n.label W4
     cases hr : rov t d.n.label
     ·rw [hr] at kv
      obtain rfl : E = 15 := by
       have q := hw2.out
       rw [show stepE t (some d.n) = 15 from by unfold stepE; simp [hd, hr], if_pos (by decide)] at q
       rw [← hE.out, q]
       rfl
      clear hw2
      go_wp2_with (first | (refine wpList_store_row rfl _ _ rfl W3.heap.size rfl cs rfl hth4 hszc hone hW4 ?_) | (refine wpList_load_at rfl _ rfl ⟨w.heap.size, 1, none⟩ rfl (labM t) hcb hundL rfl hsl ?_) | (refine wpList_load_at rfl _ rfl ⟨W3.heap.size, 2, none⟩ rfl (labM d.n.label) hcn hundL rfl hsl ?_) | fail)
      refine kv.mono ?_
      rintro e W5 ⟨rfl, hB5⟩
      have hM5 := hM4.then hB5
      clear kv hcb hcn hth4 hW4
      obtain ⟨W9, hW9, hth9, hk9, hb9, hz9⟩ := hbad (W := W5) (E := 15) (by decide) hM5
      obtain rfl : T = zeroP := hT.out.symm.trans hz9
      clear kf hbad hE0 hT hE
      as_aux_lemma =>
       go_wp2_with (first | (refine wpList_store_part rfl _ _ rfl (w.heap.size + 1) 0 rfl zeroP.cs rfl hth9 hsz (pn_one zeroP) hW9 ?_) | fail)
       refine bodyPost_ret (v := .tuple #[.agg zeroP.cs.toArray, .int .i64 15]) (results_row2 rfl _ _ (w.heap.size + 1) rfl (.int .i64 15) rfl zeroP.cs hk9.range hund rfl hsz) rfl ?_
       exact ⟨rfl, hb9⟩
     ·rw [hr] at kv
      have hw3 : Aside (wayE (namesP l) t [] ns = wayE (namesP l) t (ns.take (i + 1)) (ns.drop (i + 1))) := by
       have q := hw2.out
       rw [show stepE t (some d.n) = 0 from by unfold stepE; simp [hd, hr], if_neg (by simp)] at q
       exact q
      clear hw2
      go_wp2_with (first | (refine wpList_store_row rfl _ _ rfl W3.heap.size rfl cs rfl hth4 hszc hone hW4 ?_) | (refine wpList_load_at rfl _ rfl ⟨w.heap.size, 1, none⟩ rfl (labM t) hcb hundL rfl hsl ?_) | (refine wpList_load_at rfl _ rfl ⟨W3.heap.size, 2, none⟩ rfl (labM d.n.label) hcn hundL rfl hsl ?_) | fail)
      refine kv.mono ?_
      rintro e W5 ⟨rfl, hB5⟩
      have hM5 := hM4.then hB5
      have ho5 := ho4.below hB5
      obtain ⟨g5, c5, hv5, hc5, _, _⟩ := ho5.at hln.out hnm
      injection hv5 with q1 q2 q3
      subst q1 q3
      clear kv hcb hcn hth4 hW4 hM4 ho4
      go_wp2_with fail
      refine (kj W5).mono ?_
      rintro e w6 ⟨rfl, hw6⟩
      replace hw6 := hw6.symm
      subst hw6
      go_wp2_with fail
      exact ⟨⟨i + 1, by omega, by simp, rfl, hw3, hM5, ho5⟩, by simp [Go.RowKit.intOf]; omega⟩
  ·obtain rfl : i = ln := by omega
   have hw0 : wayE (namesP l) t [] ns = 0 := by
    have q := hway.out
    rw [List.drop_eq_nil_of_le (by rw [hln.out]; exact Nat.le_refl _)] at q
    rw [q]
    rfl
   have hE2 := hE.out
   rw [hw0, if_neg (by simp), find_names] at hE2
   have kb := kf wr (pathB ns) (h.below hM.bl)
   obtain ⟨fr, hfr⟩ : ∃ fr, findP l (pathB ns) = fr := ⟨_, rfl⟩
   rw [hfr] at kb hE2
   have hTT := hT.out
   unfold toldP at hTT
   rw [hfr] at hTT
   replace hTT : Aside _ := hTT
   obtain ⟨cs, hcs⟩ : ∃ cs, foundCs fr = cs := ⟨_, rfl⟩
   have hlen : cs.length = 16 := by rw [← hcs]; rfl
   have hone : ∀ v ∈ cs, v.oneCell' = true := by rw [← hcs]; exact pn_one _
   have hszc : (Tryz.prog.info? 36).map (·.size) = some cs.length := by rw [hlen]; exact hszN
   rw [hcs] at kb
   obtain ⟨pp, hppe⟩ : ∃ pp, pathB ns = pp := ⟨_, rfl⟩
   rw [hppe] at kb ⊢
   replace hppe : Aside (pathB ns = pp) := hppe
   have i1 : ¬ (i : Int) < (i : Int) := by omega
   clear hway hw0 hfr
   go_wp2_with fail
   refine kb.mono ?_
   rintro e W3 ⟨rfl, hB3⟩
   have hM3 := hM.then hB3
   obtain ⟨W4, hW4, hth4, hbn, hB4⟩ := put_new W3 zN 36 cs (by rw [hlen]; rfl) (by omega)
   have hM4 := hM3.then hB4
   clear kb hM hM3 hB3 hB4 ho
   cases fr with
   | none =>
    obtain rfl : E = 2 := hE2.symm
    clear hcs hE2 hTT
    obtain ⟨W9, hW9, hth9, hk9, hb9, hz9⟩ := hbad (W := W4) (E := 2) (by decide) hM4
    obtain rfl : T = zeroP := hT.out.symm.trans hz9
    clear kf hbad hE0 hT hE
    as_aux_lemma =>
     go_wp2_with (first | (refine wpList_store_row rfl _ _ rfl W3.heap.size rfl cs rfl hth4 hszc hone hW4 ?_) | (refine wpList_store_part rfl _ _ rfl (w.heap.size + 1) 0 rfl zeroP.cs rfl hth9 hsz (pn_one zeroP) hW9 ?_) | fail)
     refine bodyPost_ret (v := .tuple #[.agg zeroP.cs.toArray, .int .i64 2]) (results_row2 rfl _ _ (w.heap.size + 1) rfl (.int .i64 2) rfl zeroP.cs hk9.range hund rfl hsz) rfl ?_
     exact ⟨rfl, hb9⟩
   | some d =>
    obtain rfl : E = 0 := hE2.symm
    obtain rfl : T = d := by
     have q := hTT.out
     rw [if_pos rfl] at q
     exact q.symm
    obtain rfl : T.cs = cs := hcs
    obtain ⟨W9, hW9, hth9, hk9, hb9⟩ := put_res hM4.rs T hM4.bl (by omega)
    have hrn := hbn.range
    clear kf hbad hE0 hT hE hE2 hTT
    as_aux_lemma =>
     go_wp2_with (first | (refine wpList_store_row rfl _ _ rfl W3.heap.size rfl T.cs rfl hth4 hszc hone hW4 ?_) | (refine wpList_load_row rfl _ rfl W3.heap.size rfl T.cs hrn hund rfl hszc ?_) | (refine wpList_store_part rfl _ _ rfl (w.heap.size + 1) 0 rfl T.cs rfl hth9 hszc hone hW9 ?_) | fail)
     refine bodyPost_ret (v := .tuple #[.agg T.cs.toArray, .int .i64 0]) (results_row2 rfl _ _ (w.heap.size + 1) rfl (.int .i64 0) rfl T.cs hk9.range hund rfl hszc) rfl ?_
     exact ⟨rfl, hb9⟩
end Go.Proofs.YtidihdiffiffmaaGreatDoor
namespace Go.Proofs.YtidihdiffiffmaaGreatDoor
open Go.RowKit
set_option maxRecDepth 8000
set_option linter.unusedSimpArgs false
set_option linter.unusedVariables false
theorem acl_sorted {l : List Gr} (h : chkA l = 0) : Sorted l ∧ l.length ≤ 1000 := by
 unfold chkA at h
 by_cases h1 : 4 < l.length
 ·rw [if_pos h1] at h; cases h
 ·rw [if_neg h1] at h
  by_cases h2 : okAcl ⟨#[]⟩ l = true
  ·exact ⟨(okL_sorted l _ h2).1, by omega⟩
  ·rw [if_neg h2] at h; cases h
theorem see_find {l : List PN} {t : Lab} {p : ByteArray} (h : seeE (namesP l) t p = 0) : ∃ d, findP l p = some d := by
 obtain ⟨x, hx⟩ := (see_zero.1 h).2.2
 rw [find_names] at hx
 cases hf : findP l p with
 | none => rw [hf] at hx; cases hx
 | some d => exact ⟨d, rfl⟩
set_option maxRecDepth 20000 in
set_option maxHeartbeats 8000000 in
theorem rmay_any (a : Option Addr) (cap : Nat) (l : List PN) (u : ByteArray) (t : Lab) (p : ByteArray) (m : Int) (hl : l.length ≤ 100000) (hp : p.size ≤ 100000) (hA : ∀ x ∈ l, chkA x.n.acl = 0) (w : World) (h : RowN w a l) :
    Calls Tryz.prog 31 #[.slice a l.length cap, .agg (sbL u t).toArray, .string p, .int .i64 m] w fun e w' => e = .returned (.tuple #[.agg (toldP l p (mayE (namesP l) u t p m)).cs.toArray, .int .i64 (mayE (namesP l) u t p m)]) ∧ Below w.heap.size w w' := by
 have hund := Tryz.underlying36
 have hundL := Tryz.underlying30
 have hundS := Tryz.underlying60
 have hsz : (Tryz.prog.info? 36).map (·.size) = some zeroP.cs.length := by kernel_rfl
 have hszN : (Tryz.prog.info? 36).map (·.size) = some 16 := by kernel_rfl
 have hsl : (Tryz.prog.info? 30).map (·.size) = some 4 := by kernel_rfl
 have hss : (Tryz.prog.info? 60).map (·.size) = some 5 := by kernel_rfl
 have ks := fun W (r : RowN W a l) => rsee_any a cap l u t p hl hp W r
 obtain ⟨E, hE⟩ : ∃ E, mayE (namesP l) u t p m = E := ⟨_, rfl⟩
 rw [hE]
 unfold mayE at hE
 obtain ⟨n, hn⟩ : ∃ n, l.length = n := ⟨_, rfl⟩
 rw [hn] at ks ⊢
 replace hn : Aside (l.length = n) := hn
 have h0 := ms_start w u t
 have hbad : ∀ {W : World} {E : Int}, E ≠ 0 → MS w W u t → ∃ W', W.setCells (w.heap.size + 1) 0 zeroP.cs = W' ∧ W.there (w.heap.size + 1) 0 zeroP.cs.length ∧ BlkL (w.heap.size + 1) zeroP.cs W' ∧ Below w.heap.size w W' ∧ toldP l p E = zeroP := fun {W E} hE hM => by
  obtain ⟨W', q1, q2, q3, q4⟩ := put_res hM.rs zeroP hM.bl (by omega)
  exact ⟨W', q1, q2, q3, q4, by unfold toldP; rw [if_neg hE]⟩
 obtain ⟨T, hT⟩ : ∃ T, toldP l p E = T := ⟨_, rfl⟩
 rw [hT]
 replace hT : Aside (toldP l p E = T) := hT
 by_cases hm : m < 1 ∨ 7 < m
 ·rw [if_pos hm] at hE
  subst hE
  clear ks
  by_cases hm1 : m < 1
  ·go_enter Tryz.func31, Tryz.ntmps31
   go_upto_region 2 with fail
   generalize (w.alloc (.cells (sbL u t).toArray 60)).alloc (.cells zN 36) = W0 at *
   obtain ⟨W9, hW9, hth9, hk9, hb9, hz9⟩ := hbad (W := W0) (E := 1) (by decide) h0
   obtain rfl : T = zeroP := hT.out.symm.trans hz9
   clear hbad hT
   as_aux_lemma =>
    go_wp2_with (first | (refine wpList_store_part rfl _ _ rfl (w.heap.size + 1) 0 rfl zeroP.cs rfl hth9 hsz (pn_one zeroP) hW9 ?_) | fail)
    refine bodyPost_ret (v := .tuple #[.agg zeroP.cs.toArray, .int .i64 1]) (results_row2 rfl _ _ (w.heap.size + 1) rfl (.int .i64 1) rfl zeroP.cs hk9.range hund rfl hsz) rfl ?_
    exact ⟨rfl, hb9⟩
  ·have hm7 : 7 < m := by omega
   go_enter Tryz.func31, Tryz.ntmps31
   go_upto_region 2 with fail
   generalize (w.alloc (.cells (sbL u t).toArray 60)).alloc (.cells zN 36) = W0 at *
   obtain ⟨W9, hW9, hth9, hk9, hb9, hz9⟩ := hbad (W := W0) (E := 1) (by decide) h0
   obtain rfl : T = zeroP := hT.out.symm.trans hz9
   clear hbad hT
   as_aux_lemma =>
    go_wp2_with (first | (refine wpList_store_part rfl _ _ rfl (w.heap.size + 1) 0 rfl zeroP.cs rfl hth9 hsz (pn_one zeroP) hW9 ?_) | fail)
    refine bodyPost_ret (v := .tuple #[.agg zeroP.cs.toArray, .int .i64 1]) (results_row2 rfl _ _ (w.heap.size + 1) rfl (.int .i64 1) rfl zeroP.cs hk9.range hund rfl hsz) rfl ?_
    exact ⟨rfl, hb9⟩
 rw [if_neg hm] at hE
 have hm1 : ¬ m < 1 := by omega
 have hm7 : ¬ 7 < m := by omega
 clear hm
 obtain ⟨SE, hSE⟩ : ∃ SE, seeE (namesP l) t p = SE := ⟨_, rfl⟩
 rw [hSE] at hE ks
 obtain ⟨cs, hcs⟩ : ∃ cs, (toldP l p SE).cs = cs := ⟨_, rfl⟩
 have hlen : cs.length = 16 := by rw [← hcs]; rfl
 have hone : ∀ v ∈ cs, v.oneCell' = true := by rw [← hcs]; exact pn_one _
 have hszc : (Tryz.prog.info? 36).map (·.size) = some cs.length := by rw [hlen]; exact hszN
 rw [hcs] at ks
 replace hcs : Aside ((toldP l p SE).cs = cs) := hcs
 have hrs := h0.bx.range
 go_enter Tryz.func31, Tryz.ntmps31
 go_upto_region 3 with fail
 generalize (w.alloc (.cells (sbL u t).toArray 60)).alloc (.cells zN 36) = W0 at *
 go_wp2_with (first | (refine wpList_load_row rfl _ rfl w.heap.size rfl (sbL u t) hrs hundS rfl hss ?_) | fail)
 refine (ks W0 (h.below h0.bl)).mono ?_
 rintro e W2 ⟨rfl, hB2⟩
 have hM2 := h0.then hB2
 obtain ⟨W4, hW4, hth4, hbn, hB4⟩ := put_new W2 zN 36 cs (by rw [hlen]; rfl) (by omega)
 have hM4 := hM2.then hB4
 clear ks h0 hrs hB2 hM2 hB4
 by_cases hs0 : SE = 0
 rotate_left
 ·rw [if_pos hs0] at hE
  subst hE
  obtain ⟨W9, hW9, hth9, hk9, hb9, hz9⟩ := hbad (W := W4) (E := SE) hs0 hM4
  obtain rfl : T = zeroP := hT.out.symm.trans hz9
  clear hbad hT
  as_aux_lemma =>
   go_wp2_with (first | (refine wpList_store_row rfl _ _ rfl W2.heap.size rfl cs rfl hth4 hszc hone hW4 ?_) | (refine wpList_store_part rfl _ _ rfl (w.heap.size + 1) 0 rfl zeroP.cs rfl hth9 hsz (pn_one zeroP) hW9 ?_) | fail)
   refine bodyPost_ret (v := .tuple #[.agg zeroP.cs.toArray, .int .i64 SE]) (results_row2 rfl _ _ (w.heap.size + 1) rfl (.int .i64 SE) rfl zeroP.cs hk9.range hund rfl hsz) rfl ?_
   exact ⟨rfl, hb9⟩
 subst hs0
 obtain ⟨d, hfd⟩ := see_find hSE
 rw [if_neg (by simp), find_names, hfd] at hE
 have hTd : Aside (toldP l p 0 = T → T = d) := fun q => by
  unfold toldP at q
  rw [if_pos rfl, hfd] at q
  exact q.symm
 obtain rfl : d.cs = cs := by
  have q := hcs.out
  unfold toldP at q
  rw [if_pos rfl, hfd] at q
  exact q
 have hdm : d ∈ l := by
  unfold findP at hfd
  exact List.mem_of_find?_eq_some hfd
 obtain ⟨hso, hac⟩ := acl_sorted (hA d hdm)
 have hda := (h.p d hdm).below hM4.bl
 simp only [Option.map_some, Option.getD_some] at hE
 unfold modE at hE
 obtain ⟨A5, hA5⟩ : ∃ A5, bits .and .i64 m 5 = A5 := ⟨_, rfl⟩
 obtain ⟨A2, hA2⟩ : ∃ A2, bits .and .i64 m 2 = A2 := ⟨_, rfl⟩
 rw [hA5, hA2] at hE
 go_upto_region 6 with (first | (refine wpList_store_row rfl _ _ rfl W2.heap.size rfl d.cs rfl hth4 hszc hone hW4 ?_) | fail)
 generalize W2.heap.size = bn at *
 clear hth4 hW4 hSE hfd hcs hA h hdm
 have hcb := sb_lab hM4.bx
 have hcn := nd_lab hbn
 cases hq5 : (A5 != 0)
 ·rw [hq5, if_neg (fun q => by cases q.1)] at hE
  go_upto_region 8 with fail
  have hcb2 := sb_lab hM4.bx
  have hcn2 := nd_lab hbn
  have hnq : ∀ X, (binOp .neq 30 (.agg (labM t).toArray) (.agg (labM d.n.label).toArray)).run Tryz.prog X = .ok (.bool (!labEq t d.n.label)) X := run_neq_lab t d.n.label
  cases hq2 : (A2 != 0)
  ·rw [hq2, if_neg (fun q => by cases q.1)] at hE
   have hz6 := (hbn.1 6 _ rfl).1
   have hz0 := (hM4.bx.1 0 _ rfl).1
   have km := rmodes_any W4 d.aa d.ca d.n.acl u hso hda.g hac
   go_wp2_with fail
   refine km.mono ?_
   rintro e w7 ⟨rfl, hw7⟩
   replace hw7 := hw7.symm
   subst hw7
   clear km
   obtain ⟨MM, hMM⟩ : ∃ MM, modesL d.n.acl u = MM := ⟨_, rfl⟩
   rw [hMM] at hE ⊢
   clear hMM
   obtain ⟨AM, hAM⟩ : ∃ AM, bits .and .i64 MM m = AM := ⟨_, rfl⟩
   rw [hAM] at hE
   cases hq : (AM != m)
   ·rw [hq, if_neg (by decide)] at hE
    subst hE
    obtain rfl : T = d := hTd.out hT.out
    obtain ⟨W9, hW9, hth9, hk9, hb9⟩ := put_res hM4.rs T hM4.bl (by omega)
    have hrn := hbn.range
    have hszd : (Tryz.prog.info? 36).map (·.size) = some T.cs.length := by rw [pn_len]; exact hszN
    clear hbad hT hTd
    as_aux_lemma =>
     go_wp2_with (first | (refine wpList_load_row rfl _ rfl bn rfl T.cs hrn hund rfl hszd ?_) | (refine wpList_store_part rfl _ _ rfl (w.heap.size + 1) 0 rfl T.cs rfl hth9 hszd (pn_one T) hW9 ?_) | fail)
     refine bodyPost_ret (v := .tuple #[.agg T.cs.toArray, .int .i64 0]) (results_row2 rfl _ _ (w.heap.size + 1) rfl (.int .i64 0) rfl T.cs hk9.range hund rfl hszd) rfl ?_
     exact ⟨rfl, hb9⟩
   ·rw [hq, if_pos rfl] at hE
    subst hE
    obtain ⟨W9, hW9, hth9, hk9, hb9, hz9⟩ := hbad (W := W4) (E := 16) (by decide) hM4
    obtain rfl : T = zeroP := hT.out.symm.trans hz9
    clear hbad hT
    as_aux_lemma =>
     go_wp2_with (first | (refine wpList_store_part rfl _ _ rfl (w.heap.size + 1) 0 rfl zeroP.cs rfl hth9 hsz (pn_one zeroP) hW9 ?_) | fail)
     refine bodyPost_ret (v := .tuple #[.agg zeroP.cs.toArray, .int .i64 16]) (results_row2 rfl _ _ (w.heap.size + 1) rfl (.int .i64 16) rfl zeroP.cs hk9.range hund rfl hsz) rfl ?_
     exact ⟨rfl, hb9⟩
  ·cases hle : labEq t d.n.label
   ·rw [hle] at hnq
    rw [hq2, hle, if_pos ⟨rfl, rfl⟩] at hE
    subst hE
    obtain ⟨W9, hW9, hth9, hk9, hb9, hz9⟩ := hbad (W := W4) (E := 15) (by decide) hM4
    obtain rfl : T = zeroP := hT.out.symm.trans hz9
    clear hbad hT
    as_aux_lemma =>
     go_wp2_with (first | (refine wpList_load_atg (by rfl) _ rfl ⟨w.heap.size, 1, none⟩ rfl (labM t) hcb2 hundL rfl hsl ?_) | (refine wpList_load_atg (by rfl) _ rfl ⟨bn, 2, none⟩ rfl (labM d.n.label) hcn2 hundL rfl hsl ?_) | (refine wpList_store_part rfl _ _ rfl (w.heap.size + 1) 0 rfl zeroP.cs rfl hth9 hsz (pn_one zeroP) hW9 ?_) | fail)
     refine bodyPost_ret (v := .tuple #[.agg zeroP.cs.toArray, .int .i64 15]) (results_row2 rfl _ _ (w.heap.size + 1) rfl (.int .i64 15) rfl zeroP.cs hk9.range hund rfl hsz) rfl ?_
     exact ⟨rfl, hb9⟩
   ·rw [hle] at hnq
    rw [hle, if_neg (fun q => by cases q.2)] at hE
    go_upto_region 10 with (first | (refine wpList_load_atg (by rfl) _ rfl ⟨w.heap.size, 1, none⟩ rfl (labM t) hcb2 hundL rfl hsl ?_) | (refine wpList_load_atg (by rfl) _ rfl ⟨bn, 2, none⟩ rfl (labM d.n.label) hcn2 hundL rfl hsl ?_) |  fail)
    have hz6 := (hbn.1 6 _ rfl).1
    have hz0 := (hM4.bx.1 0 _ rfl).1
    have km := rmodes_any W4 d.aa d.ca d.n.acl u hso hda.g hac
    go_wp2_with fail
    refine km.mono ?_
    rintro e w7 ⟨rfl, hw7⟩
    replace hw7 := hw7.symm
    subst hw7
    clear km
    obtain ⟨MM, hMM⟩ : ∃ MM, modesL d.n.acl u = MM := ⟨_, rfl⟩
    rw [hMM] at hE ⊢
    clear hMM
    obtain ⟨AM, hAM⟩ : ∃ AM, bits .and .i64 MM m = AM := ⟨_, rfl⟩
    rw [hAM] at hE
    cases hq : (AM != m)
    ·rw [hq, if_neg (by decide)] at hE
     subst hE
     obtain rfl : T = d := hTd.out hT.out
     obtain ⟨W9, hW9, hth9, hk9, hb9⟩ := put_res hM4.rs T hM4.bl (by omega)
     have hrn := hbn.range
     have hszd : (Tryz.prog.info? 36).map (·.size) = some T.cs.length := by rw [pn_len]; exact hszN
     clear hbad hT hTd
     as_aux_lemma =>
      go_wp2_with (first | (refine wpList_load_row rfl _ rfl bn rfl T.cs hrn hund rfl hszd ?_) | (refine wpList_store_part rfl _ _ rfl (w.heap.size + 1) 0 rfl T.cs rfl hth9 hszd (pn_one T) hW9 ?_) | fail)
      refine bodyPost_ret (v := .tuple #[.agg T.cs.toArray, .int .i64 0]) (results_row2 rfl _ _ (w.heap.size + 1) rfl (.int .i64 0) rfl T.cs hk9.range hund rfl hszd) rfl ?_
      exact ⟨rfl, hb9⟩
    ·rw [hq, if_pos rfl] at hE
     subst hE
     obtain ⟨W9, hW9, hth9, hk9, hb9, hz9⟩ := hbad (W := W4) (E := 16) (by decide) hM4
     obtain rfl : T = zeroP := hT.out.symm.trans hz9
     clear hbad hT
     as_aux_lemma =>
      go_wp2_with (first | (refine wpList_store_part rfl _ _ rfl (w.heap.size + 1) 0 rfl zeroP.cs rfl hth9 hsz (pn_one zeroP) hW9 ?_) | fail)
      refine bodyPost_ret (v := .tuple #[.agg zeroP.cs.toArray, .int .i64 16]) (results_row2 rfl _ _ (w.heap.size + 1) rfl (.int .i64 16) rfl zeroP.cs hk9.range hund rfl hsz) rfl ?_
      exact ⟨rfl, hb9⟩
 ·have kv := rlover_any t d.n.label W4
  cases hr : rov t d.n.label
  ·rw [hr] at kv
   rw [hq5, hr, if_pos ⟨rfl, rfl⟩] at hE
   subst hE
   go_wp2_with (first | (refine wpList_load_atg (by rfl) _ rfl ⟨w.heap.size, 1, none⟩ rfl (labM t) hcb hundL rfl hsl ?_) | (refine wpList_load_atg (by rfl) _ rfl ⟨bn, 2, none⟩ rfl (labM d.n.label) hcn hundL rfl hsl ?_) | fail)
   refine kv.mono ?_
   rintro e W5 ⟨rfl, hB5⟩
   have hM5 := hM4.then hB5
   clear kv hcb hcn
   obtain ⟨W9, hW9, hth9, hk9, hb9, hz9⟩ := hbad (W := W5) (E := 15) (by decide) hM5
   obtain rfl : T = zeroP := hT.out.symm.trans hz9
   clear hbad hT
   as_aux_lemma =>
    go_wp2_with (first | (refine wpList_store_part rfl _ _ rfl (w.heap.size + 1) 0 rfl zeroP.cs rfl hth9 hsz (pn_one zeroP) hW9 ?_) | fail)
    refine bodyPost_ret (v := .tuple #[.agg zeroP.cs.toArray, .int .i64 15]) (results_row2 rfl _ _ (w.heap.size + 1) rfl (.int .i64 15) rfl zeroP.cs hk9.range hund rfl hsz) rfl ?_
    exact ⟨rfl, hb9⟩
  ·rw [hr] at kv
   rw [hr, if_neg (fun q => by cases q.2)] at hE
   go_wp2_with (first | (refine wpList_load_atg (by rfl) _ rfl ⟨w.heap.size, 1, none⟩ rfl (labM t) hcb hundL rfl hsl ?_) | (refine wpList_load_atg (by rfl) _ rfl ⟨bn, 2, none⟩ rfl (labM d.n.label) hcn hundL rfl hsl ?_) | fail)
   refine kv.mono ?_
   rintro e W5 ⟨rfl, hB5⟩
   have hM5 := hM4.then hB5
   have hbn5 := stab_blk _ _ _ _ hbn hB5
   have hda5 := hda.below hB5
   clear kv hcb hcn hM4 hbn hda
   go_upto_region 8 with fail
   have hcb2 := sb_lab hM5.bx
   have hcn2 := nd_lab hbn5
   have hnq : ∀ X, (binOp .neq 30 (.agg (labM t).toArray) (.agg (labM d.n.label).toArray)).run Tryz.prog X = .ok (.bool (!labEq t d.n.label)) X := run_neq_lab t d.n.label
   cases hq2 : (A2 != 0)
   ·rw [hq2, if_neg (fun q => by cases q.1)] at hE
    have hz6 := (hbn5.1 6 _ rfl).1
    have hz0 := (hM5.bx.1 0 _ rfl).1
    have km := rmodes_any W5 d.aa d.ca d.n.acl u hso hda5.g hac
    go_wp2_with fail
    refine km.mono ?_
    rintro e w7 ⟨rfl, hw7⟩
    replace hw7 := hw7.symm
    subst hw7
    clear km
    obtain ⟨MM, hMM⟩ : ∃ MM, modesL d.n.acl u = MM := ⟨_, rfl⟩
    rw [hMM] at hE ⊢
    clear hMM
    obtain ⟨AM, hAM⟩ : ∃ AM, bits .and .i64 MM m = AM := ⟨_, rfl⟩
    rw [hAM] at hE
    cases hq : (AM != m)
    ·rw [hq, if_neg (by decide)] at hE
     subst hE
     obtain rfl : T = d := hTd.out hT.out
     obtain ⟨W9, hW9, hth9, hk9, hb9⟩ := put_res hM5.rs T hM5.bl (by omega)
     have hrn := hbn5.range
     have hszd : (Tryz.prog.info? 36).map (·.size) = some T.cs.length := by rw [pn_len]; exact hszN
     clear hbad hT hTd
     as_aux_lemma =>
      go_wp2_with (first | (refine wpList_load_row rfl _ rfl bn rfl T.cs hrn hund rfl hszd ?_) | (refine wpList_store_part rfl _ _ rfl (w.heap.size + 1) 0 rfl T.cs rfl hth9 hszd (pn_one T) hW9 ?_) | fail)
      refine bodyPost_ret (v := .tuple #[.agg T.cs.toArray, .int .i64 0]) (results_row2 rfl _ _ (w.heap.size + 1) rfl (.int .i64 0) rfl T.cs hk9.range hund rfl hszd) rfl ?_
      exact ⟨rfl, hb9⟩
    ·rw [hq, if_pos rfl] at hE
     subst hE
     obtain ⟨W9, hW9, hth9, hk9, hb9, hz9⟩ := hbad (W := W5) (E := 16) (by decide) hM5
     obtain rfl : T = zeroP := hT.out.symm.trans hz9
     clear hbad hT
     as_aux_lemma =>
      go_wp2_with (first | (refine wpList_store_part rfl _ _ rfl (w.heap.size + 1) 0 rfl zeroP.cs rfl hth9 hsz (pn_one zeroP) hW9 ?_) | fail)
      refine bodyPost_ret (v := .tuple #[.agg zeroP.cs.toArray, .int .i64 16]) (results_row2 rfl _ _ (w.heap.size + 1) rfl (.int .i64 16) rfl zeroP.cs hk9.range hund rfl hsz) rfl ?_
      exact ⟨rfl, hb9⟩
   ·cases hle : labEq t d.n.label
    ·rw [hle] at hnq
     rw [hq2, hle, if_pos ⟨rfl, rfl⟩] at hE
     subst hE
     obtain ⟨W9, hW9, hth9, hk9, hb9, hz9⟩ := hbad (W := W5) (E := 15) (by decide) hM5
     obtain rfl : T = zeroP := hT.out.symm.trans hz9
     clear hbad hT
     as_aux_lemma =>
      go_wp2_with (first | (refine wpList_load_atg (by rfl) _ rfl ⟨w.heap.size, 1, none⟩ rfl (labM t) hcb2 hundL rfl hsl ?_) | (refine wpList_load_atg (by rfl) _ rfl ⟨bn, 2, none⟩ rfl (labM d.n.label) hcn2 hundL rfl hsl ?_) | (refine wpList_store_part rfl _ _ rfl (w.heap.size + 1) 0 rfl zeroP.cs rfl hth9 hsz (pn_one zeroP) hW9 ?_) | fail)
      refine bodyPost_ret (v := .tuple #[.agg zeroP.cs.toArray, .int .i64 15]) (results_row2 rfl _ _ (w.heap.size + 1) rfl (.int .i64 15) rfl zeroP.cs hk9.range hund rfl hsz) rfl ?_
      exact ⟨rfl, hb9⟩
    ·rw [hle] at hnq
     rw [hle, if_neg (fun q => by cases q.2)] at hE
     go_upto_region 10 with (first | (refine wpList_load_atg (by rfl) _ rfl ⟨w.heap.size, 1, none⟩ rfl (labM t) hcb2 hundL rfl hsl ?_) | (refine wpList_load_atg (by rfl) _ rfl ⟨bn, 2, none⟩ rfl (labM d.n.label) hcn2 hundL rfl hsl ?_) |  fail)
     have hz6 := (hbn5.1 6 _ rfl).1
     have hz0 := (hM5.bx.1 0 _ rfl).1
     have km := rmodes_any W5 d.aa d.ca d.n.acl u hso hda5.g hac
     go_wp2_with fail
     refine km.mono ?_
     rintro e w7 ⟨rfl, hw7⟩
     replace hw7 := hw7.symm
     subst hw7
     clear km
     obtain ⟨MM, hMM⟩ : ∃ MM, modesL d.n.acl u = MM := ⟨_, rfl⟩
     rw [hMM] at hE ⊢
     clear hMM
     obtain ⟨AM, hAM⟩ : ∃ AM, bits .and .i64 MM m = AM := ⟨_, rfl⟩
     rw [hAM] at hE
     cases hq : (AM != m)
     ·rw [hq, if_neg (by decide)] at hE
      subst hE
      obtain rfl : T = d := hTd.out hT.out
      obtain ⟨W9, hW9, hth9, hk9, hb9⟩ := put_res hM5.rs T hM5.bl (by omega)
      have hrn := hbn5.range
      have hszd : (Tryz.prog.info? 36).map (·.size) = some T.cs.length := by rw [pn_len]; exact hszN
      clear hbad hT hTd
      as_aux_lemma =>
       go_wp2_with (first | (refine wpList_load_row rfl _ rfl bn rfl T.cs hrn hund rfl hszd ?_) | (refine wpList_store_part rfl _ _ rfl (w.heap.size + 1) 0 rfl T.cs rfl hth9 hszd (pn_one T) hW9 ?_) | fail)
       refine bodyPost_ret (v := .tuple #[.agg T.cs.toArray, .int .i64 0]) (results_row2 rfl _ _ (w.heap.size + 1) rfl (.int .i64 0) rfl T.cs hk9.range hund rfl hszd) rfl ?_
       exact ⟨rfl, hb9⟩
     ·rw [hq, if_pos rfl] at hE
      subst hE
      obtain ⟨W9, hW9, hth9, hk9, hb9, hz9⟩ := hbad (W := W5) (E := 16) (by decide) hM5
      obtain rfl : T = zeroP := hT.out.symm.trans hz9
      clear hbad hT
      as_aux_lemma =>
       go_wp2_with (first | (refine wpList_store_part rfl _ _ rfl (w.heap.size + 1) 0 rfl zeroP.cs rfl hth9 hsz (pn_one zeroP) hW9 ?_) | fail)
       refine bodyPost_ret (v := .tuple #[.agg zeroP.cs.toArray, .int .i64 16]) (results_row2 rfl _ _ (w.heap.size + 1) rfl (.int .i64 16) rfl zeroP.cs hk9.range hund rfl hsz) rfl ?_
       exact ⟨rfl, hb9⟩
end Go.Proofs.YtidihdiffiffmaaGreatDoor
namespace Go.Proofs.YtidihdiffiffmaaGreatDoor
open Go.RowKit
set_option maxRecDepth 8000
set_option linter.unusedSimpArgs false
set_option linter.unusedVariables false
abbrev lab4 (t : Lab) : List Value := [.int .i64 t.s, .int .i64 t.c, .int .i64 t.i, .int .i64 t.k]
section
variable {ops : Array Oper} {o : Oper} {a : Act} {w : World} {Q : Exit → Act → World → Prop} {T : TypeId} {d : TypeDesc}
end
end Go.Proofs.YtidihdiffiffmaaGreatDoor
namespace Go.Proofs.YtidihdiffiffmaaGreatDoor
open Go.RowKit
set_option maxRecDepth 8000
set_option linter.unusedSimpArgs false
set_option linter.unusedVariables false
structure TwoN (w W : World) (x y : Nod) (aa : Option Addr) (ca : Nat) (wa : Option Addr) (cw : Nat) (ab : Option Addr) (cb : Nat) (wb : Option Addr) (cd : Nat) : Prop where
 bx : NBox W w.heap.size x aa ca wa cw
 bz : NBox W (w.heap.size + 1) y ab cb wb cd
 gx : GrsAt W aa x.acl
 gz : GrsAt W ab y.acl
 wx : WrdsAt W wa x.words
 wz : WrdsAt W wb y.words
 bl : Below w.heap.size w W
section
variable {w W : World} {x y : Nod} {aa : Option Addr} {ca : Nat} {wa : Option Addr} {cw : Nat} {ab : Option Addr} {cb : Nat} {wb : Option Addr} {cd : Nat}
theorem TwoN.drew (h : TwoN w W x y aa ca wa cw ab cb wb cd) : TwoN w W.drew x y aa ca wa cw ab cb wb cd := ⟨h.bx, h.bz, h.gx, h.gz, h.wx, h.wz, h.bl.drew⟩
end
end Go.Proofs.YtidihdiffiffmaaGreatDoor
namespace Go.Proofs.YtidihdiffiffmaaGreatDoor
open Go.RowKit
set_option maxRecDepth 8000
set_option linter.unusedSimpArgs false
set_option linter.unusedVariables false
structure FineL (l : List PN) : Prop where
 len : l.length ≤ 1000
 ord : Ordered (namesP l)
 ok : ∀ x ∈ l, nodC x.n = 0
theorem FineL.acl {l : List PN} (h : FineL l) : ∀ x ∈ l, chkA x.n.acl = 0 := fun x hx => (nodC_zero.1 (h.ok x hx)).2.2.2.1
theorem sbL_one (u : ByteArray) (t : Lab) : ∀ v ∈ sbL u t, v.oneCell' = true := by
 intro v hv
 simp only [List.mem_cons, List.not_mem_nil, or_false] at hv
 rcases hv with rfl | rfl | rfl | rfl | rfl <;> rfl
theorem zero_atM (W : World) : zeroP.At W := ⟨fun j q hq => by simp [zeroP] at hq, fun j q hq => by simp [zeroP] at hq⟩
end Go.Proofs.YtidihdiffiffmaaGreatDoor
namespace Go.Proofs.YtidihdiffiffmaaGreatDoor
open Go.RowKit
set_option maxRecDepth 8000
set_option linter.unusedSimpArgs false
set_option linter.unusedVariables false
section
variable {α : Type} {e t : TypeId} {sz : Nat} {f : α → List Value}
theorem OwnR.append_any {w : World} {base : Nat} {v : Value} {l : List α} (hE : ElemOk e t sz f) (h : OwnR e sz f w base v l) (hb : base ≤ w.heap.size) (a : Option Addr) (m c : Nat) (l2 : List α) (hm : l2.length = m) (h2 : RowAt sz f w a l2) (hn : a = none → c = 0 ∧ m = 0) (hl : l.length < 900000) (hl2 : m < 900000) :
    ∃ v' w', (Builtin.append_ #[t, t] t #[v, .slice a m c]).run Tryz.prog w = .ok v' w' ∧ OwnR e sz f w' base v' (l ++ l2) ∧ Grew w v w' v' := by
 cases a with
 | some y => exact h.append hE hb y m c l2 hm h2 hl hl2
 | none =>
  obtain ⟨rfl, hm0⟩ := hn rfl
  subst hm0
  obtain rfl : l2 = [] := List.eq_nil_of_length_eq_zero hm
  obtain ⟨i, z, b, hi, _⟩ := hE.info
  have ho : w.ownsRow base e sz v l.length (l.flatMap f) := h
  refine ⟨v, w, run_append_owned_none (P := Tryz.prog) (w := w) base t t e i sz hE.und hi v l.length _ ho, by rw [List.append_nil]; exact h, Grew.refl _ _⟩
theorem rows_take (hE : ElemOk e t sz f) (ht : Tryz.prog.elem t = e) (a : Option Addr) (n cap k : Nat) (hk : k ≤ n) (hnc : n ≤ cap) :
    ∃ A : Option Addr, (∀ W, (Instr.slice t (.slice a n cap) none (some (.int .i64 (k : Int))) none).run Tryz.prog W = .ok (.slice A k cap) W) ∧ (A = none → a = none) ∧ ∀ W l, RowAt sz f W a l → RowAt sz f W A (l.take k) := by
 obtain ⟨i, z, b, hi, hz, hs, _⟩ := hE.info
 refine ⟨if cap = 0 then a else a.map (·.add 0), fun W => ?_, fun h => ?_, fun W l h j x hx => ?_⟩
 ·rw [run_slice_h (P := Tryz.prog) W t a n cap (by rw [ht]; exact hE.und) .i64 (k : Int) (by omega) (by omega), ht]
  simp [sizeOf, typeInfo, hi, hs, sliced]
 ·split at h
  ·exact h
  ·simpa using h
 ·have hj : l[j]? = some x := by
    rw [List.getElem?_take] at hx
    split at hx
    ·exact hx
    ·cases hx
  obtain ⟨y, rfl, hc⟩ := h j x hj
  refine ⟨y, ?_, hc⟩
  split
  ·rfl
  ·rfl
theorem rows_drop (hE : ElemOk e t sz f) (ht : Tryz.prog.elem t = e) (a : Option Addr) (n cap k : Nat) (hk : k ≤ n) (hnc : n ≤ cap) :
    ∃ A : Option Addr, (∀ W, (Instr.slice t (.slice a n cap) (some (.int .i64 (k : Int))) none none).run Tryz.prog W = .ok (.slice A (n - k) (cap - k)) W) ∧ (A = none → a = none) ∧ ∀ W l, l.length = n → RowAt sz f W a l → RowAt sz f W A (l.drop k) := by
 obtain ⟨i, z, b, hi, hz, hs, _⟩ := hE.info
 refine ⟨if cap = k then a else a.map (·.add (k * sz)), fun W => ?_, fun h => ?_, fun W l hl h j x hx => ?_⟩
 ·rw [run_slice_l (P := Tryz.prog) W t a n cap (by rw [ht]; exact hE.und) .i64 (k : Int) (by omega) (by omega), ht]
  simp [sizeOf, typeInfo, hi, hs, sliced]
 ·split at h
  ·exact h
  ·simpa using h
 ·rw [List.getElem?_drop] at hx
  have hkj := (List.getElem?_eq_some_iff.1 hx).1
  obtain ⟨y, rfl, hc⟩ := h (k + j) x hx
  rw [if_neg (by omega)]
  refine ⟨_, rfl, fun q hq => ?_⟩
  rw [Addr.add_add, ← Nat.add_assoc, ← Nat.add_mul]
  exact hc q hq
end
theorem tw_take {α : Type} {f : α → Bool} : ∀ (l : List α) (k : Nat), (∀ x ∈ l.take k, f x = true) → (∀ x, l[k]? = some x → f x = false) → l.takeWhile f = l.take k ∧ l.dropWhile f = l.drop k
 | [], k, _, _ => by simp
 | a :: r, 0, _, h => by
  have := h a rfl
  simp [List.takeWhile_cons, List.dropWhile_cons, this]
 | a :: r, k + 1, h1, h2 => by
  have ha := h1 a (by simp)
  obtain ⟨h3, h4⟩ := tw_take r k (fun x hx => h1 x (by simp [hx])) (fun x hx => h2 x (by simpa using hx))
  rw [List.takeWhile_cons, List.dropWhile_cons, ha]
  simp only [if_true, List.take_succ_cons, List.drop_succ_cons]
  rw [h3, h4]
  exact ⟨rfl, rfl⟩
theorem put_tail (W : World) (a1 : Option Addr) (n c1 k : Nat) (m : List PN) (x : PN) (hn : m.length = n) (hk : k ≤ n) (hle : n ≤ c1) (hno : a1 = none → c1 = 0) (hn1 : n ≤ 100000) (hr : RowAt 16 PN.cs W a1 m) :
    ∃ A1 A2 v2 W2 v3 W3 v4 W4, (∀ X, (Instr.slice 27 (.slice a1 n c1) none (some (.int .i64 (k : Int))) none).run Tryz.prog X = .ok (.slice A1 k c1) X) ∧ (∀ X, (Instr.slice 27 (.slice a1 n c1) (some (.int .i64 (k : Int))) none none).run Tryz.prog X = .ok (.slice A2 (n - k) (c1 - k)) X) ∧
     (Builtin.append_ #[27, 27] 27 #[.slice none 0 0, .slice A1 k c1]).run Tryz.prog W = .ok v2 W2 ∧ (Builtin.append_ #[27, 27] 27 #[v2, .slice (some ⟨W2.heap.size, 0, none⟩) 1 1]).run Tryz.prog (W2.alloc (.cells x.cs.toArray 36)) = .ok v3 W3 ∧
     (Builtin.append_ #[27, 27] 27 #[v3, .slice A2 (n - k) (c1 - k)]).run Tryz.prog W3 = .ok v4 W4 ∧ Below W.heap.size W W2 ∧ OwnN W4 W.heap.size v4 (m.take k ++ x :: m.drop k) ∧ Below W.heap.size W W4 := by
 obtain ⟨A1, hs1, hn1', hr1'⟩ := rows_take pn_ok (by kernel_rfl) a1 n c1 k hk hle
 obtain ⟨A2, hs2, hn2', hr2'⟩ := rows_drop pn_ok (by kernel_rfl) a1 n c1 k hk hle
 have hlt3 : (m.take k).length = k := by rw [List.length_take, hn]; omega
 have hlt4 : (m.drop k).length = n - k := by rw [List.length_drop, hn]
 have ho0 : OwnN W W.heap.size (.slice none 0 0) [] := OwnR.nil _ _ _ _ _
 obtain ⟨v2, W2, hap2, ho2, hg2⟩ := OwnR.append_any pn_ok ho0 (Nat.le_refl _) A1 k c1 (m.take k) hlt3 (hr1' _ _ hr) (fun q => by have := hno (hn1' q); omega) (by simp) (by omega)
 rw [List.nil_append] at ho2
 have hb2 := ho0.grew_below (Nat.le_refl _) hg2
 obtain ⟨v3, W3, hap3, ho3, hg3⟩ := OwnR.push pn_ok ho2 hb2.size x x.cs.toArray rfl 36 (by rw [hlt3]; omega)
 have hb3 := ho2.grew_below hb2.size hg3
 have hB3 := hb2.trans hb3
 obtain ⟨v4, W4, hap4, ho4, hg4⟩ := OwnR.append_any pn_ok ho3 hB3.size A2 (n - k) (c1 - k) (m.drop k) hlt4 (hr2' _ _ hn (hr.below pn_len hB3)) (fun q => by have := hno (hn2' q); omega) (by simp [hlt3]; omega) (by omega)
 have hb4 := ho3.grew_below hB3.size hg4
 refine ⟨A1, A2, v2, W2, v3, W3, v4, W4, hs1, hs2, hap2, hap3, hap4, hb2, ?_, hB3.trans hb4⟩
 simpa using ho4
set_option maxRecDepth 8000 in
set_option maxHeartbeats 4000000 in
theorem rputT_any (a : Option Addr) (cap : Nat) (l : List PN) (x : PN) (hl : l.length ≤ 100000) (w : World) (h : RowN w a l) :
    Calls Tryz.prog 26 #[.slice a l.length cap, .agg x.cs.toArray] w fun e w' => ∃ v, e = .returned v ∧ OwnN w' w.heap.size v (putP l x) ∧ Below w.heap.size w w' := by
 have hund := Tryz.underlying36
 have hsz : (Tryz.prog.info? 36).map (·.size) = some 16 := by kernel_rfl
 have hb0 := blk_alloc w x.cs.toArray 36
 have hB0 := alloc_below w (.cells x.cs.toArray 36)
 have hs0 := World.size_alloc w (.cells x.cs.toArray 36)
 have kd := fun W (q : RowN W a l) => rdropT_any a cap l x.n.path hl W q
 unfold putP
 have hdl : (dropP l x.n.path).length ≤ 100000 := Nat.le_trans (List.length_filter_le _ _) hl
 generalize dropP l x.n.path = m at *
 have hcs : x.cs = [.string x.n.path, .bool x.n.dir, .int .i64 x.n.label.s, .int .i64 x.n.label.c, .int .i64 x.n.label.i, .int .i64 x.n.label.k, .slice x.aa x.n.acl.length x.ca, .int .i64 x.n.r1, .int .i64 x.n.r2, .int .i64 x.n.r3, .int .i64 x.n.gates, .slice x.wa x.n.words.length x.cw, .int .i64 x.n.by_.s, .int .i64 x.n.by_.c, .int .i64 x.n.by_.i, .int .i64 x.n.by_.k] := rfl
 rw [hcs] at hb0 hB0 hs0 ⊢
 go_enter Tryz.func26, Tryz.ntmps26
 go_wp2_with fail
 have hrow := h.below hB0
 generalize w.alloc (.cells #[.string x.n.path, .bool x.n.dir, .int .i64 x.n.label.s, .int .i64 x.n.label.c, .int .i64 x.n.label.i, .int .i64 x.n.label.k, .slice x.aa x.n.acl.length x.ca, .int .i64 x.n.r1, .int .i64 x.n.r2, .int .i64 x.n.r3, .int .i64 x.n.gates, .slice x.wa x.n.words.length x.cw, .int .i64 x.n.by_.s, .int .i64 x.n.by_.c, .int .i64 x.n.by_.i, .int .i64 x.n.by_.k] 36) = W at *
 refine (kd W hrow).mono ?_
 rintro e W1 ⟨v1, rfl, ho1, hB1⟩
 obtain ⟨a1, c1, rfl, hle1, hno1, hr1⟩ := OwnR.slice pn_len ho1
 have hb1 := hb0.same (hB1.block _ (by omega))
 rw [← hcs] at hb1
 have hlt1 : w.heap.size < W1.heap.size := by have := hB1.size; omega
 have hB2 := Below.then hB0 hB1
 clear hb0 kd hrow h hB0 hB1
 obtain ⟨n, hn⟩ : ∃ n, m.length = n := ⟨_, rfl⟩
 rw [hn] at hle1 ⊢
 replace hn : Aside (m.length = n) := hn
 have hn1 : n ≤ 100000 := by rw [← hn.out]; exact hdl
 go_wp2_with fail
 go_loopw [5] (fun t5 wr => ∃ k : Nat, k ≤ n ∧ t5 = .int .i64 (k : Int) ∧ (∀ y ∈ m.take k, lt y.n.path x.n.path = true) ∧ Below W1.heap.size W1 wr) (fun t5 _ => n - (Go.RowKit.intOf t5).toNat)
 case atStart => exact ⟨0, by omega, rfl, fun y hy => by simp at hy, Below.refl _ _⟩
 case round =>
  obtain ⟨k, hk, rfl, hall, hB⟩ := hrel
  have hbk := hb1.same (hB.block _ hlt1)
  have q0 : wr.cell? ⟨w.heap.size, 0, none⟩ = some (.string x.n.path) := (hbk 0 _ rfl).1
  have hrk := hr1.below pn_len hB
  by_cases hlt : k < n
  ·obtain ⟨z, hz⟩ : ∃ z, m[k]? = some z := ⟨_, List.getElem?_eq_getElem (by rw [hn.out]; exact hlt)⟩
   obtain ⟨y, rfl, -⟩ := hrk k z hz
   have hc := (hrk.at pn_len hz) 0 _ rfl
   have hc' : wr.cell? (y.add (k * 16)) = some (.string z.n.path) := hc
   have hi1 : (k : Int) < (n : Int) := by omega
   have hS0 : (fun W : World => W.cell? (y.add (k * 16)) = some (.string z.n.path) ∧ W.cell? ⟨w.heap.size, 0, none⟩ = some (.string x.n.path)) wr.drew := ⟨hc', q0⟩
   have hBd := hB.drew
   cases hlt2 : lt z.n.path x.n.path
   ·have f0 : Op.bytesLess z.n.path.toList x.n.path.toList = false := by exact hlt2
    have hbkd : Blk wr.drew w.heap.size x.cs := hbk
    have hrkd : RowAt 16 PN.cs wr.drew (some y) m := hrk
    go_wp2_with fail
    refine wp_region_held_drew (S := (fun W : World => W.cell? (y.add (k * 16)) = some (.string z.n.path) ∧ W.cell? ⟨w.heap.size, 0, none⟩ = some (.string x.n.path))) (by kernel_rfl) (by exact hS0) ?_
    intro hHeld
    (first | (refine tkA 0 ?_) | (refine tkB (v := undef) 0 (y := Or.inr ⟨by rfl, rfl⟩) (h := ?_)) | fail); (try simp only [Act.put, zsA, zsB, zsC, f0])
    (first | (refine tkA 1 ?_) | (refine tkB (v := undef) 1 (y := Or.inr ⟨by rfl, rfl⟩) (h := ?_)) | fail); (try simp only [Act.put, zsA, zsB, zsC, f0])
    (first | (refine tkA 2 ?_) | (refine tkB (v := undef) 2 (y := Or.inr ⟨by rfl, rfl⟩) (h := ?_)) | fail); (try simp only [Act.put, zsA, zsB, zsC, f0])
    (first | (refine tkA 3 ?_) | (refine tkB (v := undef) 3 (y := Or.inr ⟨by rfl, rfl⟩) (h := ?_)) | fail); (try simp only [Act.put, zsA, zsB, zsC, f0])
    (first | (refine tkA 4 ?_) | (refine tkB (v := undef) 4 (y := Or.inr ⟨by rfl, rfl⟩) (h := ?_)) | fail); (try simp only [Act.put, zsA, zsB, zsC, f0])
    (first | (refine tkA 5 ?_) | (refine tkB (v := undef) 5 (y := Or.inr ⟨by rfl, rfl⟩) (h := ?_)) | fail); (try simp only [Act.put, zsA, zsB, zsC, f0])
    (first | (refine tkA 6 ?_) | (refine tkB (v := undef) 6 (y := Or.inr ⟨by rfl, rfl⟩) (h := ?_)) | fail); (try simp only [Act.put, zsA, zsB, zsC, f0])
    (first | (refine tkA 7 ?_) | (refine tkB (v := undef) 7 (y := Or.inr ⟨by rfl, rfl⟩) (h := ?_)) | fail); (try simp only [Act.put, zsA, zsB, zsC, f0])
    (first | (refine tkA 8 ?_) | (refine tkB (v := undef) 8 (y := Or.inr ⟨by rfl, rfl⟩) (h := ?_)) | fail); (try simp only [Act.put, zsA, zsB, zsC, f0])
    (first | (refine tkA 9 ?_) | (refine tkB (v := undef) 9 (y := Or.inr ⟨by rfl, rfl⟩) (h := ?_)) | fail); (try simp only [Act.put, zsA, zsB, zsC, f0])
    (first | (refine tkA 10 ?_) | (refine tkB (v := undef) 10 (y := Or.inr ⟨by rfl, rfl⟩) (h := ?_)) | fail); (try simp only [Act.put, zsA, zsB, zsC, f0])
    (first | (refine tkA 11 ?_) | (refine tkB (v := undef) 11 (y := Or.inr ⟨by rfl, rfl⟩) (h := ?_)) | fail); (try simp only [Act.put, zsA, zsB, zsC, f0])
    (first | (refine tkA 12 ?_) | (refine tkB (v := undef) 12 (y := Or.inr ⟨by rfl, rfl⟩) (h := ?_)) | fail); (try simp only [Act.put, zsA, zsB, zsC, f0])
    (first | (refine tkA 13 ?_) | (refine tkB (v := undef) 13 (y := Or.inr ⟨by rfl, rfl⟩) (h := ?_)) | fail); (try simp only [Act.put, zsA, zsB, zsC, f0])
    refine wpAnyH_done (by kernel_rfl) ?_ _
    clear hc hc' q0 hrk hbk
    obtain ⟨A1, A2, v2, W2, v3, W3, v4, W4, hs1, hs2, hap2, hap3, hap4, hb2, ho4, hb4⟩ := put_tail wr.drew (some y) n c1 k m x hn.out hk hle1 hno1 hn1 hrkd
    have hbz : Blk W2 w.heap.size x.cs := hbkd.same (hb2.block _ (Nat.lt_of_lt_of_le hlt1 hBd.size))
    have hrg := hbz.range
    obtain ⟨ht1, ht2⟩ := tw_take m k hall (fun q hq => by rw [hz] at hq; obtain rfl := Option.some.inj hq; exact hlt2)
    rw [← ht1, ← ht2] at ho4
    replace ho4 := ho4.lower (Nat.le_trans (Nat.le_of_lt hlt1) hBd.size)
    have hBz := (hB2.trans (hBd.mono (Nat.le_of_lt hlt1))).trans (hb4.mono (Nat.le_trans (Nat.le_of_lt hlt1) hBd.size))
    obtain ⟨cs, hcx⟩ : ∃ cs, x.cs = cs := ⟨_, rfl⟩
    have hlen : cs.length = 16 := by rw [← hcx]; rfl
    rw [hcx] at hrg hap3
    rw [← hlen] at hsz
    clear hcx hcs hbz hb1 ht1 ht2 hb4 hb2
    go_wp2_with (first | (refine wpList_load_row rfl _ rfl w.heap.size rfl cs hrg hund rfl hsz ?_) | (refine wpList_build1 pn_ok (by decide) rfl _ rfl cs rfl hlen ?_) | (refine wpList_append rfl _ _ rfl rfl rfl rfl hap2 ?_) | (refine wpList_append rfl _ _ rfl rfl rfl rfl hap3 ?_) | (refine wpList_append rfl _ _ rfl rfl rfl rfl hap4 ?_) | fail)
    go_ret
    exact ⟨_, rfl, ho4, hBz⟩
   ·have f0 : Op.bytesLess z.n.path.toList x.n.path.toList = true := by exact hlt2
    clear hc hc' q0 hrk hbk
    go_wp2_with fail
    refine wp_region_held_drew (S := (fun W : World => W.cell? (y.add (k * 16)) = some (.string z.n.path) ∧ W.cell? ⟨w.heap.size, 0, none⟩ = some (.string x.n.path))) (by kernel_rfl) (by exact hS0) ?_
    intro hHeld
    (first | (refine tkA 0 ?_) | (refine tkB (v := undef) 0 (y := Or.inr ⟨by rfl, rfl⟩) (h := ?_)) | fail); (try simp only [Act.put, zsA, zsB, zsC, f0])
    (first | (refine tkA 1 ?_) | (refine tkB (v := undef) 1 (y := Or.inr ⟨by rfl, rfl⟩) (h := ?_)) | fail); (try simp only [Act.put, zsA, zsB, zsC, f0])
    (first | (refine tkA 2 ?_) | (refine tkB (v := undef) 2 (y := Or.inr ⟨by rfl, rfl⟩) (h := ?_)) | fail); (try simp only [Act.put, zsA, zsB, zsC, f0])
    (first | (refine tkA 3 ?_) | (refine tkB (v := undef) 3 (y := Or.inr ⟨by rfl, rfl⟩) (h := ?_)) | fail); (try simp only [Act.put, zsA, zsB, zsC, f0])
    (first | (refine tkA 4 ?_) | (refine tkB (v := undef) 4 (y := Or.inr ⟨by rfl, rfl⟩) (h := ?_)) | fail); (try simp only [Act.put, zsA, zsB, zsC, f0])
    (first | (refine tkA 5 ?_) | (refine tkB (v := undef) 5 (y := Or.inr ⟨by rfl, rfl⟩) (h := ?_)) | fail); (try simp only [Act.put, zsA, zsB, zsC, f0])
    (first | (refine tkA 6 ?_) | (refine tkB (v := undef) 6 (y := Or.inr ⟨by rfl, rfl⟩) (h := ?_)) | fail); (try simp only [Act.put, zsA, zsB, zsC, f0])
    (first | (refine tkA 7 ?_) | (refine tkB (v := undef) 7 (y := Or.inr ⟨by rfl, rfl⟩) (h := ?_)) | fail); (try simp only [Act.put, zsA, zsB, zsC, f0])
    (first | (refine tkA 8 ?_) | (refine tkB (v := undef) 8 (y := Or.inr ⟨by rfl, rfl⟩) (h := ?_)) | fail); (try simp only [Act.put, zsA, zsB, zsC, f0])
    (first | (refine tkA 9 ?_) | (refine tkB (v := undef) 9 (y := Or.inr ⟨by rfl, rfl⟩) (h := ?_)) | fail); (try simp only [Act.put, zsA, zsB, zsC, f0])
    (first | (refine tkA 10 ?_) | (refine tkB (v := undef) 10 (y := Or.inr ⟨by rfl, rfl⟩) (h := ?_)) | fail); (try simp only [Act.put, zsA, zsB, zsC, f0])
    (first | (refine tkA 11 ?_) | (refine tkB (v := undef) 11 (y := Or.inr ⟨by rfl, rfl⟩) (h := ?_)) | fail); (try simp only [Act.put, zsA, zsB, zsC, f0])
    (first | (refine tkA 12 ?_) | (refine tkB (v := undef) 12 (y := Or.inr ⟨by rfl, rfl⟩) (h := ?_)) | fail); (try simp only [Act.put, zsA, zsB, zsC, f0])
    (first | (refine tkA 13 ?_) | (refine tkB (v := undef) 13 (y := Or.inr ⟨by rfl, rfl⟩) (h := ?_)) | fail); (try simp only [Act.put, zsA, zsB, zsC, f0])
    refine wpAnyH_done (by kernel_rfl) ?_ _
    go_wp2_with fail
    refine ⟨⟨k + 1, by omega, by simp, fun q hq => ?_, hBd⟩, by simp [Go.RowKit.intOf]; omega⟩
    rw [List.take_add_one, hz, List.mem_append] at hq
    rcases hq with hq | hq
    ·exact hall q hq
    ·simp at hq
     rw [hq]
     exact hlt2
  ·have hi1 : ¬ (k : Int) < (n : Int) := by omega
   have hbkd : Blk wr.drew w.heap.size x.cs := hbk
   have hrkd : RowAt 16 PN.cs wr.drew a1 m := hrk
   have hBd := hB.drew
   have hS0 : (fun W : World => W.cell? ⟨w.heap.size, 0, none⟩ = some (.string x.n.path)) wr.drew := q0
   go_wp2_with fail
   refine wp_region_held_drew (S := (fun W : World => W.cell? ⟨w.heap.size, 0, none⟩ = some (.string x.n.path))) (by kernel_rfl) (by exact hS0) ?_
   intro hHeld
   (first | (refine tkA 0 ?_) | (refine tkB (v := undef) 0 (y := Or.inr ⟨by rfl, rfl⟩) (h := ?_)) | fail)
   (first | (refine tkA 1 ?_) | (refine tkB (v := undef) 1 (y := Or.inr ⟨by rfl, rfl⟩) (h := ?_)) | fail)
   (first | (refine tkA 2 ?_) | (refine tkB (v := undef) 2 (y := Or.inr ⟨by rfl, rfl⟩) (h := ?_)) | fail)
   (first | (refine tkA 3 ?_) | (refine tkB (v := undef) 3 (y := Or.inr ⟨by rfl, rfl⟩) (h := ?_)) | fail)
   (first | (refine tkA 4 ?_) | (refine tkB (v := undef) 4 (y := Or.inr ⟨by rfl, rfl⟩) (h := ?_)) | fail)
   (first | (refine tkA 5 ?_) | (refine tkB (v := undef) 5 (y := Or.inr ⟨by rfl, rfl⟩) (h := ?_)) | fail)
   (first | (refine tkA 6 ?_) | (refine tkB (v := undef) 6 (y := Or.inr ⟨by rfl, rfl⟩) (h := ?_)) | fail)
   (first | (refine tkA 7 ?_) | (refine tkB (v := undef) 7 (y := Or.inr ⟨by rfl, rfl⟩) (h := ?_)) | fail)
   (first | (refine tkA 8 ?_) | (refine tkB (v := undef) 8 (y := Or.inr ⟨by rfl, rfl⟩) (h := ?_)) | fail)
   (first | (refine tkA 9 ?_) | (refine tkB (v := undef) 9 (y := Or.inr ⟨by rfl, rfl⟩) (h := ?_)) | fail)
   (first | (refine tkA 10 ?_) | (refine tkB (v := undef) 10 (y := Or.inr ⟨by rfl, rfl⟩) (h := ?_)) | fail)
   (first | (refine tkA 11 ?_) | (refine tkB (v := undef) 11 (y := Or.inr ⟨by rfl, rfl⟩) (h := ?_)) | fail)
   (first | (refine tkA 12 ?_) | (refine tkB (v := undef) 12 (y := Or.inr ⟨by rfl, rfl⟩) (h := ?_)) | fail)
   (first | (refine tkA 13 ?_) | (refine tkB (v := undef) 13 (y := Or.inr ⟨by rfl, rfl⟩) (h := ?_)) | fail)
   refine wpAnyH_done (by kernel_rfl) ?_ _
   clear q0 hrk hbk
   obtain ⟨A1, A2, v2, W2, v3, W3, v4, W4, hs1, hs2, hap2, hap3, hap4, hb2, ho4, hb4⟩ := put_tail wr.drew a1 n c1 k m x hn.out hk hle1 hno1 hn1 hrkd
   have hbz : Blk W2 w.heap.size x.cs := hbkd.same (hb2.block _ (Nat.lt_of_lt_of_le hlt1 hBd.size))
   have hrg := hbz.range
   obtain ⟨ht1, ht2⟩ := tw_take m k hall (fun q hq => by have := (List.getElem?_eq_some_iff.1 hq).1; rw [hn.out] at this; omega)
   rw [← ht1, ← ht2] at ho4
   replace ho4 := ho4.lower (Nat.le_trans (Nat.le_of_lt hlt1) hBd.size)
   have hBz := (hB2.trans (hBd.mono (Nat.le_of_lt hlt1))).trans (hb4.mono (Nat.le_trans (Nat.le_of_lt hlt1) hBd.size))
   obtain ⟨cs, hcx⟩ : ∃ cs, x.cs = cs := ⟨_, rfl⟩
   have hlen : cs.length = 16 := by rw [← hcx]; rfl
   rw [hcx] at hrg hap3
   rw [← hlen] at hsz
   clear hcx hcs hbz hb1 ht1 ht2 hb4 hb2
   go_wp2_with (first | (refine wpList_load_row rfl _ rfl w.heap.size rfl cs hrg hund rfl hsz ?_) | (refine wpList_build1 pn_ok (by decide) rfl _ rfl cs rfl hlen ?_) | (refine wpList_append rfl _ _ rfl rfl rfl rfl hap2 ?_) | (refine wpList_append rfl _ _ rfl rfl rfl rfl hap3 ?_) | (refine wpList_append rfl _ _ rfl rfl rfl rfl hap4 ?_) | fail)
   go_ret
   exact ⟨_, rfl, ho4, hBz⟩
end Go.Proofs.YtidihdiffiffmaaGreatDoor
namespace Go.Proofs.YtidihdiffiffmaaGreatDoor
open Go.RowKit
set_option maxRecDepth 8000
set_option linter.unusedSimpArgs false
set_option linter.unusedVariables false
def lrow (l : Lab) : List Value := [.int .i64 l.s, .int .i64 l.c, .int .i64 l.i, .int .i64 l.k]
theorem lab_ok : ElemOk 30 22 4 lrow :=
 ⟨Tryz.underlying22, by
  obtain ⟨i, h1, h2, h3, h4⟩ := info_of (e := 30) (z := .agg #[.int .i64 0, .int .i64 0, .int .i64 0, .int .i64 0]) (sz := 4) (b := 32) (by kernel_rfl)
  exact ⟨i, _, _, h1, h2, h3, h4, rfl, by omega⟩, by omega, fun _ => rfl, fun x u hu => by simp [lrow] at hu; rcases hu with rfl | rfl | rfl | rfl <;> rfl⟩
theorem rlbottom_any (w : World) :
    Calls Tryz.prog 23 #[] w fun e w' => e = .returned bottomL.v ∧ Below w.heap.size w w' := by
 go_enter Tryz.func23, Tryz.ntmps23
 go_wp2
 refine bodyPost_ret (v := bottomL.v) (by simp [results, Tryz.results23, go_sem, bottomL]) rfl ⟨rfl, (Below.refl _ _).alloc (Nat.le_refl _) _⟩
section
variable {ops : Array Oper} {o : Oper} {a : Act} {w : World} {Q : Exit → Act → World → Prop} {S : World → Prop}
theorem yields_cell {T : TypeId} (hw : Region.wanted o (yielded ops a.tmps) = true) (x : Operand) (ho : o.op = .load T x) (y : Addr) (hx : a.eval x = .pointer (some y)) (v : Value) (hS : ∀ w, S w → w.cell? y = some v) (hl : ∀ w y v, w.cell? y = some v → (Instr.loadAt T (.pointer (some y))).run Tryz.prog w = .ok v w) : YieldsIf Tryz.prog ops S o v a :=
 .inl ⟨hw, fun w hw' => by
  unfold execOp
  simp only [ho, hx, Sem.run_bind, hl w y v (hS w hw'), Result.andThen_ok]
  rfl⟩
theorem step_conv {t u : TypeId} {K : Act → World → Prop} {E : Prop} {v r : Value} (hg : o.guard = none) (x : Operand) (ho : o.op = .convert t u x) (hx : a.eval x = v) (hr : (convert t u v).run Tryz.prog w = .ok r w) (hK : K (a.put o.dst r) w) :
    if Region.wanted o (yielded ops a.tmps) = true then Oper.wp Tryz.prog o a w K Q else E := by
 have hw : Region.wanted o (yielded ops a.tmps) = true := by simp [Region.wanted, hg]
 rw [if_pos hw]
 unfold Oper.wp execOp
 simp only [ho, hx, Sem.run_bind, hr, Result.andThen_ok]
 exact hK
end
theorem slab_load (w : World) (y : Addr) (v : Value) (h : w.cell? y = some v) : (Instr.loadAt 22 (.pointer (some y))).run Tryz.prog w = .ok v w := by
 simp [go_sem, h]
def firstP (ts : List Lab) (i : Nat) (ag : Option Addr) : List PN := (firstTo ts i).map fun n => ⟨n, ag, 1, none, 0⟩
theorem firstP_len (ts : List Lab) (i : Nat) (ag : Option Addr) : (firstP ts i ag).length = (distTo ts i).length + 1 := by simp [firstP, firstTo]
theorem firstP_names (ts : List Lab) (i : Nat) (ag : Option Addr) : namesP (firstP ts i ag) = firstTo ts i := by
 unfold namesP firstP
 rw [List.map_map]
 exact List.map_id' _
theorem firstP_succ (ts : List Lab) (i : Nat) (ag : Option Addr) : firstP ts (i + 1) ag = if (ts.take i).any (fun t => labEq t (ts.getD i bottomL)) = true then firstP ts i ag else firstP ts i ag ++ [⟨dirN (distTo ts i).length (ts.getD i bottomL), ag, 1, none, 0⟩] := by
 unfold firstP
 rw [first_succ]
 split
 ·rfl
 ·simp
theorem dist_succ (ts : List Lab) (i : Nat) : (distTo ts (i + 1)).length = if (ts.take i).any (fun t => labEq t (ts.getD i bottomL)) = true then (distTo ts i).length else (distTo ts i).length + 1 := by
 rw [distTo]
 split <;> simp
theorem l_path (q : Nat) : (⟨#[47, 108]⟩ : ByteArray) ++ chr (48 + q) = ⟨#[47, 108, UInt8.ofNat (48 + q)]⟩ := by
 apply bytes_inj
 rw [bytes_append]
 rfl
theorem dir_cs (w : World) (q : Nat) (tt : Lab) : (PN.cs ⟨dirN q tt, some ⟨w.heap.size + 1, 0, none⟩, 1, none, 0⟩) = [.string (⟨#[47, 108]⟩ ++ chr (48 + q)), .bool true, .int .i64 tt.s, .int .i64 tt.c, .int .i64 tt.i, .int .i64 tt.k, .slice (some ⟨w.heap.size + 1, 0, none⟩) 1 1, .int .i64 0, .int .i64 0, .int .i64 0, .int .i64 0, .slice none 0 0, .int .i64 bottomL.s, .int .i64 bottomL.c, .int .i64 bottomL.i, .int .i64 bottomL.k] := by
 rw [l_path]
 rfl
theorem any_take {ts : List Lab} {j : Nat} {t : Lab} (h : ts[j]? = some t) (f : Lab → Bool) : (ts.take (j + 1)).any f = ((ts.take j).any f || f t) := by
 rw [List.take_add_one, h]
 simp
theorem own_one (x : PN) (W : World) {base : Nat} (hb : base ≤ W.heap.size) : OwnN (W.alloc (.cells x.cs.toArray 36)) base (.slice (some ⟨W.heap.size, 0, none⟩) 1 1) [x] := by
 refine ⟨by simp [pn_len], .inr ⟨W.heap.size, 1, x.cs.toArray, rfl, hb, heap_alloc_new W _, Nat.le_refl _, by simp only [maxLen]; omega, by simp [pn_len], ?_⟩⟩
 simp
 exact List.take_of_length_le (by rw [pn_len]; omega)
structure FsZ (w W : World) (ta : Option Addr) (n ct : Nat) : Prop where
 box : W.cell? ⟨w.heap.size, 0, none⟩ = some (.slice ta n ct)
 all : GrsAt W (some ⟨w.heap.size + 1, 0, none⟩) allG
 bl : Below w.heap.size w W
 sz : w.heap.size + 2 ≤ W.heap.size
section
variable {w W W' : World} {ta : Option Addr} {n ct : Nat}
theorem FsZ.grown (h : FsZ w W ta n ct) (b : Below (w.heap.size + 2) W W') : FsZ w W' ta n ct := by
 refine ⟨(b.cell (p := ⟨w.heap.size, 0, none⟩) (by show w.heap.size < w.heap.size + 2; omega)).trans h.box, fun j q hq => ?_, h.bl.trans (b.mono (by omega)), Nat.le_trans h.sz b.size⟩
 obtain ⟨y, hy, h1, h2⟩ := h.all j q hq
 obtain rfl := Option.some.inj hy
 have hb : ((⟨w.heap.size + 1, 0, none⟩ : Addr).add (j * 2)).block < w.heap.size + 2 := by rw [add_at]; show w.heap.size + 1 < _; omega
 exact ⟨_, rfl, (b.cell hb).trans h1, (b.cell (p := ⟨_, _, none⟩) hb).trans h2⟩
theorem FsZ.then (h : FsZ w W ta n ct) (b : Below W.heap.size W W') : FsZ w W' ta n ct := h.grown (b.mono h.sz)
theorem FsZ.lab {y : Addr} {ts : List Lab} (h : FsZ w W (some y) n ct) (hl : RowAt 4 lrow w (some y) ts) {j : Nat} {t : Lab} (ht : ts[j]? = some t) : CellsAt W (y.add (j * 4)) [.int .i64 t.s, .int .i64 t.c, .int .i64 t.i, .int .i64 t.k] := (hl.below lab_ok.len h.bl).at lab_ok.len ht
end
set_option maxRecDepth 20000 in
set_option maxHeartbeats 8000000 in
theorem rfirstT_any (ta : Option Addr) (ct : Nat) (ts : List Lab) (ua ra : Option Addr) (nu cu nr cr : Nat) (hn9 : ts.length ≤ 9) (w : World) (hl : RowAt 4 lrow w ta ts) :
    Calls Tryz.prog 25 #[.agg #[.slice ta ts.length ct, .slice ua nu cu, .slice ra nr cr]] w fun e w' => ∃ v, e = .returned v ∧ OwnN w' w.heap.size v (firstP ts ts.length (some ⟨w.heap.size + 1, 0, none⟩)) ∧ GrsAt w' (some ⟨w.heap.size + 1, 0, none⟩) allG ∧ Below w.heap.size w w' := by
 have hsl : (Tryz.prog.info? 30).map (·.size) = some 4 := by kernel_rfl
 have heq := run_eql_lab
 obtain ⟨n, hn⟩ : ∃ n, ts.length = n := ⟨_, rfl⟩
 rw [hn] at hn9 ⊢
 replace hn : Aside (ts.length = n) := hn
 have hdl := dist_len ts
 have h0 : FsZ w ((w.alloc (.cells #[.slice ta n ct, .slice ua nu cu, .slice ra nr cr] 90)).alloc (.cells #[.string ⟨#[42]⟩, .int .i64 7] 119)) ta n ct := by
  have b1 := alloc_below w (.cells #[.slice ta n ct, .slice ua nu cu, .slice ra nr cr] 90)
  have m1 := blk_alloc w #[.slice ta n ct, .slice ua nu cu, .slice ra nr cr] 90
  have s1 := World.size_alloc w (.cells #[.slice ta n ct, .slice ua nu cu, .slice ra nr cr] 90)
  generalize w.alloc (.cells #[.slice ta n ct, .slice ua nu cu, .slice ra nr cr] 90) = W1 at *
  have b2 := alloc_below W1 (.cells #[.string ⟨#[42]⟩, .int .i64 7] 119)
  have m2 := blk_alloc W1 #[.string ⟨#[42]⟩, .int .i64 7] 119
  have s2 := World.size_alloc W1 (.cells #[.string ⟨#[42]⟩, .int .i64 7] 119)
  rw [s1] at m2
  refine ⟨((m1.same (b2.block _ (by omega))) 0 _ rfl).1, fun j q hq => ?_, Below.then b1 b2, by omega⟩
  have hj : j = 0 := by have := (List.getElem?_eq_some_iff.1 hq).1; simp [allG] at this; omega
  subst hj
  obtain rfl : (⟨starS, 7⟩ : Gr) = q := by simpa [allG] using hq
  exact ⟨_, rfl, (m2 0 _ rfl).1, (m2 1 _ rfl).1⟩
 go_enter Tryz.func25, Tryz.ntmps25
 go_wp2_with fail
 generalize (w.alloc (.cells #[.slice ta n ct, .slice ua nu cu, .slice ra nr cr] 90)).alloc (.cells #[.string ⟨#[42]⟩, .int .i64 7] 119) = W0 at *
 refine (rlbottom_any W0).mono ?_
 rintro e W1 ⟨rfl, hB1⟩
 have h1 := h0.then hB1
 go_wp2_with fail
 refine (rlbottom_any W1).mono ?_
 rintro e W2 ⟨rfl, hB2⟩
 have h2 := h1.then hB2
 have hrt : OwnN (W2.alloc (.cells [.string ⟨#[47]⟩, .bool true, .int .i64 bottomL.s, .int .i64 bottomL.c, .int .i64 bottomL.i, .int .i64 bottomL.k, .slice (some ⟨w.heap.size + 1, 0, none⟩) 1 1, .int .i64 0, .int .i64 0, .int .i64 0, .int .i64 0, .slice none 0 0, .int .i64 bottomL.s, .int .i64 bottomL.c, .int .i64 bottomL.i, .int .i64 bottomL.k].toArray 36)) (w.heap.size + 2) (.slice (some ⟨W2.heap.size, 0, none⟩) 1 1) (firstP ts 0 (some ⟨w.heap.size + 1, 0, none⟩)) := own_one (⟨rootN, some ⟨w.heap.size + 1, 0, none⟩, 1, none, 0⟩ : PN) W2 h2.sz
 have h3 := h2.then (alloc_below W2 (.cells [.string ⟨#[47]⟩, .bool true, .int .i64 bottomL.s, .int .i64 bottomL.c, .int .i64 bottomL.i, .int .i64 bottomL.k, .slice (some ⟨w.heap.size + 1, 0, none⟩) 1 1, .int .i64 0, .int .i64 0, .int .i64 0, .int .i64 0, .slice none 0 0, .int .i64 bottomL.s, .int .i64 bottomL.c, .int .i64 bottomL.i, .int .i64 bottomL.k].toArray 36))
 clear h0 h1 h2 hB1 hB2
 go_wp2_with (first | (refine wpList_build1 pn_ok (by decide) rfl _ rfl [.string ⟨#[47]⟩, .bool true, .int .i64 bottomL.s, .int .i64 bottomL.c, .int .i64 bottomL.i, .int .i64 bottomL.k, .slice (some ⟨w.heap.size + 1, 0, none⟩) 1 1, .int .i64 0, .int .i64 0, .int .i64 0, .int .i64 0, .slice none 0 0, .int .i64 bottomL.s, .int .i64 bottomL.c, .int .i64 bottomL.i, .int .i64 bottomL.k] rfl rfl ?_) | fail)
 generalize W2.alloc (.cells [.string ⟨#[47]⟩, .bool true, .int .i64 bottomL.s, .int .i64 bottomL.c, .int .i64 bottomL.i, .int .i64 bottomL.k, .slice (some ⟨w.heap.size + 1, 0, none⟩) 1 1, .int .i64 0, .int .i64 0, .int .i64 0, .int .i64 0, .slice none 0 0, .int .i64 bottomL.s, .int .i64 bottomL.c, .int .i64 bottomL.i, .int .i64 bottomL.k].toArray 36) = W3 at *
 generalize W2.heap.size = rb at *
 go_loopw [4, 5, 6] (fun t4 t5 t6 wr => ∃ i : Nat, i ≤ n ∧ t6 = .int .i64 (i : Int) ∧ ∃ q : Nat, t5 = .int .i64 (q : Int) ∧ Aside (q = (distTo ts i).length) ∧ FsZ w wr ta n ct ∧ OwnN wr (w.heap.size + 2) t4 (firstP ts i (some ⟨w.heap.size + 1, 0, none⟩))) (fun _ _ t6 _ => n - (Go.RowKit.intOf t6).toNat)
 case atStart => exact ⟨0, by omega, rfl, 0, rfl, rfl, h3, hrt⟩
 case round =>
  clear h3 hrt
  obtain ⟨i, hi, rfl, q, rfl, hq, hS, ho⟩ := hrel
  have hbx := hS.box
  have hq9 : q ≤ 9 := by rw [hq.out]; have := hdl i; omega
  by_cases hlt : i < n
  ·obtain ⟨tt, hti⟩ : ∃ tt, ts[i]? = some tt := ⟨_, List.getElem?_eq_getElem (by rw [hn.out]; exact hlt)⟩
   have hgd : ts.getD i bottomL = tt := by rw [List.getD_eq_getElem?_getD, hti]; rfl
   obtain ⟨y, rfl, -⟩ := hl i tt hti
   have hfs := firstP_succ ts i (some ⟨w.heap.size + 1, 0, none⟩)
   have hds := dist_succ ts i
   rw [hgd] at hfs hds
   replace hfs : Aside _ := hfs
   replace hds : Aside _ := hds
   clear hgd
   go_wp2_with fail
   clear hbx
   go_loopw [7, 8] (fun t7 t8 wq => ∃ j : Nat, j ≤ i ∧ t8 = .int .i64 (j : Int) ∧ t7 = .bool ((ts.take j).any (fun t => labEq t tt)) ∧ FsZ w wq (some y) n ct ∧ Below wr.heap.size wr wq) (fun _ t8 _ => i - (Go.RowKit.intOf t8).toNat)
   case atStart => exact ⟨0, by omega, rfl, rfl, hS, Below.refl _ _⟩
   case round =>
    obtain ⟨j, hj, rfl, rfl, hS2, hB⟩ := hrel
    have ho2 := ho.below hB
    by_cases hlt2 : j < i
    ·obtain ⟨tj, htj⟩ : ∃ tj, ts[j]? = some tj := ⟨_, List.getElem?_eq_getElem (by rw [hn.out]; omega)⟩
     have hat := any_take htj (fun t => labEq t tt)
     have hS0 : FsZ w wr.drew (some y) n ct := hS2.then (Below.refl _ _).drew
     have hBd := hB.drew
     have i1 : (j : Int) < (i : Int) := by omega
     have i2 : (j : Int) < (n : Int) := by omega
     have i3 : (i : Int) < (n : Int) := by omega
     cases hb : (ts.take j).any (fun t => labEq t tt)
     ·rw [hb, Bool.false_or] at hat
      clear hS ho ho2
      go_wp2_with fail
      refine wp_region_held_drew (S := (fun W => FsZ w W (some y) n ct)) (by kernel_rfl) (by exact hS0) ?_
      intro hHeld
      (first | (refine tkA 0 ?_) | (refine tkB (v := undef) 0 (y := Or.inr ⟨by rfl, rfl⟩) (h := ?_)) | fail); (try simp only [Act.put, zsA, zsB, zsC, Bool.not_true, Bool.not_false])
      (first | (refine tkA 1 ?_) | (refine tkB (v := undef) 1 (y := Or.inr ⟨by rfl, rfl⟩) (h := ?_)) | fail); (try simp only [Act.put, zsA, zsB, zsC, Bool.not_true, Bool.not_false])
      (first | (refine tkA 2 ?_) | (refine tkB (v := undef) 2 (y := Or.inr ⟨by rfl, rfl⟩) (h := ?_)) | fail); (try simp only [Act.put, zsA, zsB, zsC, Bool.not_true, Bool.not_false])
      (first | (refine tkB 3 (y := yields_cell (by rfl) _ rfl ⟨w.heap.size, 0, none⟩ rfl (.slice (some y) n ct) (fun _ q => q.box) slab_load) (h := ?_)) | (refine tkB (v := undef) 3 (y := Or.inr ⟨by rfl, rfl⟩) (h := ?_)) | fail); (try simp only [Act.put, zsA, zsB, zsC, Bool.not_true, Bool.not_false])
      (first | (refine tkA 4 ?_) | (refine tkB (v := undef) 4 (y := Or.inr ⟨by rfl, rfl⟩) (h := ?_)) | fail); (try simp only [Act.put, zsA, zsB, zsC, Bool.not_true, Bool.not_false])
      (first | (refine tkA 5 ?_) | (refine tkB (v := undef) 5 (y := Or.inr ⟨by rfl, rfl⟩) (h := ?_)) | fail); (try simp only [Act.put, zsA, zsB, zsC, Bool.not_true, Bool.not_false])
      (first | (refine tkB 6 (y := yields_at (by rfl) _ rfl _ rfl [.int .i64 tj.s, .int .i64 tj.c, .int .i64 tj.i, .int .i64 tj.k] (fun _ q => q.lab hl htj) Tryz.underlying30 rfl hsl) (h := ?_)) | (refine tkB (v := undef) 6 (y := Or.inr ⟨by rfl, rfl⟩) (h := ?_)) | fail); (try simp only [Act.put, zsA, zsB, zsC, Bool.not_true, Bool.not_false])
      (first | (refine tkA 7 ?_) | (refine tkB (v := undef) 7 (y := Or.inr ⟨by rfl, rfl⟩) (h := ?_)) | fail); (try simp only [Act.put, zsA, zsB, zsC, Bool.not_true, Bool.not_false])
      (first | (refine tkB 8 (y := yields_cell (by rfl) _ rfl ⟨w.heap.size, 0, none⟩ rfl (.slice (some y) n ct) (fun _ q => q.box) slab_load) (h := ?_)) | (refine tkB (v := undef) 8 (y := Or.inr ⟨by rfl, rfl⟩) (h := ?_)) | fail); (try simp only [Act.put, zsA, zsB, zsC, Bool.not_true, Bool.not_false])
      (first | (refine tkA 9 ?_) | (refine tkB (v := undef) 9 (y := Or.inr ⟨by rfl, rfl⟩) (h := ?_)) | fail); (try simp only [Act.put, zsA, zsB, zsC, Bool.not_true, Bool.not_false])
      (first | (refine tkA 10 ?_) | (refine tkB (v := undef) 10 (y := Or.inr ⟨by rfl, rfl⟩) (h := ?_)) | fail); (try simp only [Act.put, zsA, zsB, zsC, Bool.not_true, Bool.not_false])
      (first | (refine tkB 11 (y := yields_at (by rfl) _ rfl _ rfl [.int .i64 tt.s, .int .i64 tt.c, .int .i64 tt.i, .int .i64 tt.k] (fun _ q => q.lab hl hti) Tryz.underlying30 rfl hsl) (h := ?_)) | (refine tkB (v := undef) 11 (y := Or.inr ⟨by rfl, rfl⟩) (h := ?_)) | fail); (try simp only [Act.put, zsA, zsB, zsC, Bool.not_true, Bool.not_false])
      (first | (refine tkA 12 ?_) | (refine tkB (v := undef) 12 (y := Or.inr ⟨by rfl, rfl⟩) (h := ?_)) | fail); (try simp only [Act.put, zsA, zsB, zsC, Bool.not_true, Bool.not_false])
      (first | (refine tkA 13 ?_) | (refine tkB (v := undef) 13 (y := Or.inr ⟨by rfl, rfl⟩) (h := ?_)) | fail); (try simp only [Act.put, zsA, zsB, zsC, Bool.not_true, Bool.not_false])
      (first | (refine tkA 14 ?_) | (refine tkB (v := undef) 14 (y := Or.inr ⟨by rfl, rfl⟩) (h := ?_)) | fail); (try simp only [Act.put, zsA, zsB, zsC, Bool.not_true, Bool.not_false])
      refine wpAnyH_done (by kernel_rfl) ?_ _
      go_wp2_with fail
      exact ⟨⟨j + 1, by omega, by simp, by rw [hat], hS0, hBd⟩, by simp [Go.RowKit.intOf]; omega⟩
     ·rw [hb, Bool.true_or] at hat
      clear hS ho ho2
      go_wp2_with fail
      refine wp_region_held_drew (S := (fun W => FsZ w W (some y) n ct)) (by kernel_rfl) (by exact hS0) ?_
      intro hHeld
      (first | (refine tkA 0 ?_) | (refine tkB (v := undef) 0 (y := Or.inr ⟨by rfl, rfl⟩) (h := ?_)) | fail); (try simp only [Act.put, zsA, zsB, zsC, Bool.not_true, Bool.not_false])
      (first | (refine tkA 1 ?_) | (refine tkB (v := undef) 1 (y := Or.inr ⟨by rfl, rfl⟩) (h := ?_)) | fail); (try simp only [Act.put, zsA, zsB, zsC, Bool.not_true, Bool.not_false])
      (first | (refine tkA 2 ?_) | (refine tkB (v := undef) 2 (y := Or.inr ⟨by rfl, rfl⟩) (h := ?_)) | fail); (try simp only [Act.put, zsA, zsB, zsC, Bool.not_true, Bool.not_false])
      (first | (refine tkB 3 (y := yields_cell (by rfl) _ rfl ⟨w.heap.size, 0, none⟩ rfl (.slice (some y) n ct) (fun _ q => q.box) slab_load) (h := ?_)) | (refine tkB (v := undef) 3 (y := Or.inr ⟨by rfl, rfl⟩) (h := ?_)) | fail); (try simp only [Act.put, zsA, zsB, zsC, Bool.not_true, Bool.not_false])
      (first | (refine tkA 4 ?_) | (refine tkB (v := undef) 4 (y := Or.inr ⟨by rfl, rfl⟩) (h := ?_)) | fail); (try simp only [Act.put, zsA, zsB, zsC, Bool.not_true, Bool.not_false])
      (first | (refine tkA 5 ?_) | (refine tkB (v := undef) 5 (y := Or.inr ⟨by rfl, rfl⟩) (h := ?_)) | fail); (try simp only [Act.put, zsA, zsB, zsC, Bool.not_true, Bool.not_false])
      (first | (refine tkB 6 (y := yields_at (by rfl) _ rfl _ rfl [.int .i64 tj.s, .int .i64 tj.c, .int .i64 tj.i, .int .i64 tj.k] (fun _ q => q.lab hl htj) Tryz.underlying30 rfl hsl) (h := ?_)) | (refine tkB (v := undef) 6 (y := Or.inr ⟨by rfl, rfl⟩) (h := ?_)) | fail); (try simp only [Act.put, zsA, zsB, zsC, Bool.not_true, Bool.not_false])
      (first | (refine tkA 7 ?_) | (refine tkB (v := undef) 7 (y := Or.inr ⟨by rfl, rfl⟩) (h := ?_)) | fail); (try simp only [Act.put, zsA, zsB, zsC, Bool.not_true, Bool.not_false])
      (first | (refine tkB 8 (y := yields_cell (by rfl) _ rfl ⟨w.heap.size, 0, none⟩ rfl (.slice (some y) n ct) (fun _ q => q.box) slab_load) (h := ?_)) | (refine tkB (v := undef) 8 (y := Or.inr ⟨by rfl, rfl⟩) (h := ?_)) | fail); (try simp only [Act.put, zsA, zsB, zsC, Bool.not_true, Bool.not_false])
      (first | (refine tkA 9 ?_) | (refine tkB (v := undef) 9 (y := Or.inr ⟨by rfl, rfl⟩) (h := ?_)) | fail); (try simp only [Act.put, zsA, zsB, zsC, Bool.not_true, Bool.not_false])
      (first | (refine tkA 10 ?_) | (refine tkB (v := undef) 10 (y := Or.inr ⟨by rfl, rfl⟩) (h := ?_)) | fail); (try simp only [Act.put, zsA, zsB, zsC, Bool.not_true, Bool.not_false])
      (first | (refine tkB 11 (y := yields_at (by rfl) _ rfl _ rfl [.int .i64 tt.s, .int .i64 tt.c, .int .i64 tt.i, .int .i64 tt.k] (fun _ q => q.lab hl hti) Tryz.underlying30 rfl hsl) (h := ?_)) | (refine tkB (v := undef) 11 (y := Or.inr ⟨by rfl, rfl⟩) (h := ?_)) | fail); (try simp only [Act.put, zsA, zsB, zsC, Bool.not_true, Bool.not_false])
      (first | (refine tkA 12 ?_) | (refine tkB (v := undef) 12 (y := Or.inr ⟨by rfl, rfl⟩) (h := ?_)) | fail); (try simp only [Act.put, zsA, zsB, zsC, Bool.not_true, Bool.not_false])
      (first | (refine tkA 13 ?_) | (refine tkB (v := undef) 13 (y := Or.inr ⟨by rfl, rfl⟩) (h := ?_)) | fail); (try simp only [Act.put, zsA, zsB, zsC, Bool.not_true, Bool.not_false])
      (first | (refine tkA 14 ?_) | (refine tkB (v := undef) 14 (y := Or.inr ⟨by rfl, rfl⟩) (h := ?_)) | fail); (try simp only [Act.put, zsA, zsB, zsC, Bool.not_true, Bool.not_false])
      refine wpAnyH_done (by kernel_rfl) ?_ _
      go_wp2_with fail
      exact ⟨⟨j + 1, by omega, by simp, by rw [hat], hS0, hBd⟩, by simp [Go.RowKit.intOf]; omega⟩
    ·obtain rfl : j = i := by omega
     cases hb : (ts.take j).any (fun t => labEq t tt)
     ·replace hfs := hfs.out
      replace hds := hds.out
      rw [hb, if_neg (by decide)] at hfs hds
      rw [← hq.out] at hfs hds
      have hqn : Aside (q + 1 = (distTo ts (j + 1)).length) := hds.symm
      replace hfs : Aside _ := hfs
      clear hds hS ho hB
      have hS0 : FsZ w wr.drew (some y) n ct := hS2.then (Below.refl _ _).drew
      have ho0 : OwnN wr.drew (w.heap.size + 2) u4 (firstP ts j (some ⟨w.heap.size + 1, 0, none⟩)) := ho2
      have hwq : IntKind.i64.wrap (48 + (q : Int)) = ((48 + q : Nat) : Int) := by rw [IntKind.wrap_i64]; omega
      have hc2 : ¬ 9223372036854775807 < 2 + (chr (48 + q)).size := by show ¬ 9223372036854775807 < 2 + 1; decide
      have hwu2 : IntKind.u8.wrap (48 + (q : Int)) = ((48 + q : Nat) : Int) := by rw [IntKind.wrap_u8]; omega
      have hwu : IntKind.u8.wrap ((48 + q : Nat) : Int) = ((48 + q : Nat) : Int) := by rw [IntKind.wrap_u8]; omega
      clear hS2 ho2
      go_wp2_with fail
      refine wp_region_held_drew (S := (fun W => FsZ w W (some y) n ct)) (by kernel_rfl) (by exact hS0) ?_
      intro hHeld
      generalize wr.drew = w0 at *
      refine tkA 0 ?_
      refine tkA 1 ?_
      refine tkA 2 ?_
      refine tkA 3 ?_
      refine tkA 7 ?_
      refine tkB 8 (y := yields_cell (by rfl) _ rfl ⟨w.heap.size, 0, none⟩ rfl (.slice (some y) n ct) (fun _ q => q.box) slab_load) (h := ?_)
      refine tkA 9 ?_
      refine tkA 10 ?_
      refine tkB 11 (y := yields_at (by rfl) _ rfl _ rfl [.int .i64 tt.s, .int .i64 tt.c, .int .i64 tt.i, .int .i64 tt.k] (fun _ q => q.lab hl hti) Tryz.underlying30 rfl hsl) (h := ?_)
      refine tkA 12 ?_
      refine tkR (rs := [4, 13]) ?_
      refine tkC (fun K hK => ?_) ?_
      ·go_simp
       (try simp only [hwu2])
       refine hK.out _ _ (hS0.then (alloc_below _ _)) ?_
       clear hHeld hK
       intro hHeld
       have hbt := chr_made2 w0 q (by omega)
       have hS1 := hS0.then (alloc_below w0 (.cells #[.int .u8 (48 + (q : Int))] 5))
       have ho1 := ho0.below (alloc_below w0 (.cells #[.int .u8 (48 + (q : Int))] 5))
       generalize hwx : w0.alloc (.cells #[.int .u8 (48 + (q : Int))] 5) = w1 at *
       clear hwx
       generalize w0.heap.size = pb at *
       (try simp only [Act.put, zsA, zsB, zsC])
       refine tkR (rs := [5, 13]) ?_
       refine tkC (fun K hK => ?_) ?_
       ·skip
        refine step_conv rfl _ rfl rfl hbt.conv ?_
        (try simp only [Act.put, zsA, zsB, zsC])
        refine hK.out _ _ (hS1) ?_
        clear hHeld hK
        intro hHeld
        have hS2 := hS1
        have ho2 := ho1
        obtain ⟨w2, hww⟩ : ∃ w', w1 = w' := ⟨_, rfl⟩
        rw [hww] at hS2 ho2 hHeld ⊢
        clear hww
        (try simp only [Act.put, zsA, zsB, zsC])
        refine tkA 6 ?_
        refine tkR (rs := [13]) ?_
        refine tkC (fun K hK => ?_) AllReadyH.nil
        go_simp
        go_at_call 23
        refine (rlbottom_any _).mono ?_
        rintro e w3 ⟨rfl, hB⟩
        have hS3 := hS2.then hB
        have ho3 := ho2.below hB
        refine hK.out _ _ (hS3) ?_
        clear hHeld hK
        intro hHeld
        (try simp only [Act.put, zsA, zsB, zsC])
        refine tkA 14 ?_
        refine tkR (rs := [15]) ?_
        refine tkC (fun K hK => ?_) AllReadyH.nil
        refine step_build1 pn_ok (by decide) rfl _ rfl [.string (⟨#[47, 108]⟩ ++ chr (48 + q)), .bool true, .int .i64 tt.s, .int .i64 tt.c, .int .i64 tt.i, .int .i64 tt.k, .slice (some ⟨w.heap.size + 1, 0, none⟩) 1 1, .int .i64 0, .int .i64 0, .int .i64 0, .int .i64 0, .slice none 0 0, .int .i64 bottomL.s, .int .i64 bottomL.c, .int .i64 bottomL.i, .int .i64 bottomL.k] rfl rfl ?_
        (try simp only [Act.put, zsA, zsB, zsC])
        refine hK.out _ _ (hS3.then (alloc_below _ _)) ?_
        clear hHeld hK
        intro hHeld
        obtain ⟨vz, wz, hap, hoz, hgz⟩ := OwnR.push pn_ok ho3 hS3.sz ⟨dirN q tt, some ⟨w.heap.size + 1, 0, none⟩, 1, none, 0⟩ [.string (⟨#[47, 108]⟩ ++ chr (48 + q)), .bool true, .int .i64 tt.s, .int .i64 tt.c, .int .i64 tt.i, .int .i64 tt.k, .slice (some ⟨w.heap.size + 1, 0, none⟩) 1 1, .int .i64 0, .int .i64 0, .int .i64 0, .int .i64 0, .slice none 0 0, .int .i64 bottomL.s, .int .i64 bottomL.c, .int .i64 bottomL.i, .int .i64 bottomL.k].toArray (by rw [dir_cs]) 36 (by rw [firstP_len]; have := hdl j; omega)
        have hbz := ho3.grew_below hS3.sz hgz
        have hSz := hS3.grown hbz
        rw [← hfs.out] at hoz
        (try simp only [Act.put, zsA, zsB, zsC])
        refine tkR (rs := [16]) ?_
        refine tkC (fun K hK => ?_) AllReadyH.nil
        refine step_append rfl _ _ rfl rfl rfl rfl hap ?_
        (try simp only [Act.put, zsA, zsB, zsC])
        refine hK.out _ _ (hSz) ?_
        clear hHeld hK
        intro hHeld
        (try simp only [Act.put, zsA, zsB, zsC])
        refine tkA 17 ?_
        refine wpAnyH_done (by kernel_rfl) ?_ _
        go_wp2_with fail
        exact ⟨⟨j + 1, by omega, by simp, q + 1, by simp, hqn, hSz, hoz⟩, by simp [Go.RowKit.intOf]; omega⟩
       refine tkC (fun K hK => ?_) AllReadyH.nil
       go_simp
       go_at_call 23
       refine (rlbottom_any _).mono ?_
       rintro e w2 ⟨rfl, hB⟩
       have hS2 := hS1.then hB
       have ho2 := ho1.below hB
       have hbt := hbt.below hB
       refine hK.out _ _ (hS2) ?_
       clear hHeld hK
       intro hHeld
       (try simp only [Act.put, zsA, zsB, zsC])
       refine tkR (rs := [5]) ?_
       refine tkC (fun K hK => ?_) AllReadyH.nil
       refine step_conv rfl _ rfl rfl hbt.conv ?_
       (try simp only [Act.put, zsA, zsB, zsC])
       refine hK.out _ _ (hS2) ?_
       clear hHeld hK
       intro hHeld
       have hS3 := hS2
       have ho3 := ho2
       obtain ⟨w3, hww⟩ : ∃ w', w2 = w' := ⟨_, rfl⟩
       rw [hww] at hS3 ho3 hHeld ⊢
       clear hww
       (try simp only [Act.put, zsA, zsB, zsC])
       refine tkA 6 ?_
       refine tkA 14 ?_
       refine tkR (rs := [15]) ?_
       refine tkC (fun K hK => ?_) AllReadyH.nil
       refine step_build1 pn_ok (by decide) rfl _ rfl [.string (⟨#[47, 108]⟩ ++ chr (48 + q)), .bool true, .int .i64 tt.s, .int .i64 tt.c, .int .i64 tt.i, .int .i64 tt.k, .slice (some ⟨w.heap.size + 1, 0, none⟩) 1 1, .int .i64 0, .int .i64 0, .int .i64 0, .int .i64 0, .slice none 0 0, .int .i64 bottomL.s, .int .i64 bottomL.c, .int .i64 bottomL.i, .int .i64 bottomL.k] rfl rfl ?_
       (try simp only [Act.put, zsA, zsB, zsC])
       refine hK.out _ _ (hS3.then (alloc_below _ _)) ?_
       clear hHeld hK
       intro hHeld
       obtain ⟨vz, wz, hap, hoz, hgz⟩ := OwnR.push pn_ok ho3 hS3.sz ⟨dirN q tt, some ⟨w.heap.size + 1, 0, none⟩, 1, none, 0⟩ [.string (⟨#[47, 108]⟩ ++ chr (48 + q)), .bool true, .int .i64 tt.s, .int .i64 tt.c, .int .i64 tt.i, .int .i64 tt.k, .slice (some ⟨w.heap.size + 1, 0, none⟩) 1 1, .int .i64 0, .int .i64 0, .int .i64 0, .int .i64 0, .slice none 0 0, .int .i64 bottomL.s, .int .i64 bottomL.c, .int .i64 bottomL.i, .int .i64 bottomL.k].toArray (by rw [dir_cs]) 36 (by rw [firstP_len]; have := hdl j; omega)
       have hbz := ho3.grew_below hS3.sz hgz
       have hSz := hS3.grown hbz
       rw [← hfs.out] at hoz
       (try simp only [Act.put, zsA, zsB, zsC])
       refine tkR (rs := [16]) ?_
       refine tkC (fun K hK => ?_) AllReadyH.nil
       refine step_append rfl _ _ rfl rfl rfl rfl hap ?_
       (try simp only [Act.put, zsA, zsB, zsC])
       refine hK.out _ _ (hSz) ?_
       clear hHeld hK
       intro hHeld
       (try simp only [Act.put, zsA, zsB, zsC])
       refine tkA 17 ?_
       refine wpAnyH_done (by kernel_rfl) ?_ _
       go_wp2_with fail
       exact ⟨⟨j + 1, by omega, by simp, q + 1, by simp, hqn, hSz, hoz⟩, by simp [Go.RowKit.intOf]; omega⟩
      refine tkC (fun K hK => ?_) AllReadyH.nil
      go_simp
      go_at_call 23
      refine (rlbottom_any _).mono ?_
      rintro e w1 ⟨rfl, hB⟩
      have hS1 := hS0.then hB
      have ho1 := ho0.below hB
      refine hK.out _ _ (hS1) ?_
      clear hHeld hK
      intro hHeld
      (try simp only [Act.put, zsA, zsB, zsC])
      refine tkR (rs := [4]) ?_
      refine tkC (fun K hK => ?_) AllReadyH.nil
      go_simp
      (try simp only [hwu2])
      refine hK.out _ _ (hS1.then (alloc_below _ _)) ?_
      clear hHeld hK
      intro hHeld
      have hbt := chr_made2 w1 q (by omega)
      have hS2 := hS1.then (alloc_below w1 (.cells #[.int .u8 (48 + (q : Int))] 5))
      have ho2 := ho1.below (alloc_below w1 (.cells #[.int .u8 (48 + (q : Int))] 5))
      generalize hwx : w1.alloc (.cells #[.int .u8 (48 + (q : Int))] 5) = w2 at *
      clear hwx
      generalize w1.heap.size = pb at *
      (try simp only [Act.put, zsA, zsB, zsC])
      refine tkR (rs := [5]) ?_
      refine tkC (fun K hK => ?_) AllReadyH.nil
      refine step_conv rfl _ rfl rfl hbt.conv ?_
      (try simp only [Act.put, zsA, zsB, zsC])
      refine hK.out _ _ (hS2) ?_
      clear hHeld hK
      intro hHeld
      have hS3 := hS2
      have ho3 := ho2
      obtain ⟨w3, hww⟩ : ∃ w', w2 = w' := ⟨_, rfl⟩
      rw [hww] at hS3 ho3 hHeld ⊢
      clear hww
      (try simp only [Act.put, zsA, zsB, zsC])
      refine tkA 6 ?_
      refine tkA 14 ?_
      refine tkR (rs := [15]) ?_
      refine tkC (fun K hK => ?_) AllReadyH.nil
      refine step_build1 pn_ok (by decide) rfl _ rfl [.string (⟨#[47, 108]⟩ ++ chr (48 + q)), .bool true, .int .i64 tt.s, .int .i64 tt.c, .int .i64 tt.i, .int .i64 tt.k, .slice (some ⟨w.heap.size + 1, 0, none⟩) 1 1, .int .i64 0, .int .i64 0, .int .i64 0, .int .i64 0, .slice none 0 0, .int .i64 bottomL.s, .int .i64 bottomL.c, .int .i64 bottomL.i, .int .i64 bottomL.k] rfl rfl ?_
      (try simp only [Act.put, zsA, zsB, zsC])
      refine hK.out _ _ (hS3.then (alloc_below _ _)) ?_
      clear hHeld hK
      intro hHeld
      obtain ⟨vz, wz, hap, hoz, hgz⟩ := OwnR.push pn_ok ho3 hS3.sz ⟨dirN q tt, some ⟨w.heap.size + 1, 0, none⟩, 1, none, 0⟩ [.string (⟨#[47, 108]⟩ ++ chr (48 + q)), .bool true, .int .i64 tt.s, .int .i64 tt.c, .int .i64 tt.i, .int .i64 tt.k, .slice (some ⟨w.heap.size + 1, 0, none⟩) 1 1, .int .i64 0, .int .i64 0, .int .i64 0, .int .i64 0, .slice none 0 0, .int .i64 bottomL.s, .int .i64 bottomL.c, .int .i64 bottomL.i, .int .i64 bottomL.k].toArray (by rw [dir_cs]) 36 (by rw [firstP_len]; have := hdl j; omega)
      have hbz := ho3.grew_below hS3.sz hgz
      have hSz := hS3.grown hbz
      rw [← hfs.out] at hoz
      (try simp only [Act.put, zsA, zsB, zsC])
      refine tkR (rs := [16]) ?_
      refine tkC (fun K hK => ?_) AllReadyH.nil
      refine step_append rfl _ _ rfl rfl rfl rfl hap ?_
      (try simp only [Act.put, zsA, zsB, zsC])
      refine hK.out _ _ (hSz) ?_
      clear hHeld hK
      intro hHeld
      (try simp only [Act.put, zsA, zsB, zsC])
      refine tkA 17 ?_
      refine wpAnyH_done (by kernel_rfl) ?_ _
      go_wp2_with fail
      exact ⟨⟨j + 1, by omega, by simp, q + 1, by simp, hqn, hSz, hoz⟩, by simp [Go.RowKit.intOf]; omega⟩
     ·replace hfs := hfs.out
      replace hds := hds.out
      rw [hb, if_pos rfl] at hfs hds
      have hqn : Aside (q = (distTo ts (j + 1)).length) := by rw [hq.out]; exact hds.symm
      rw [← hfs] at ho2
      clear hfs hds
      go_wp2_with fail
      exact ⟨⟨j + 1, by omega, by simp, q, rfl, hqn, hS2, ho2⟩, by simp [Go.RowKit.intOf]; omega⟩
  ·obtain rfl : i = n := by omega
   go_wp2_with fail
   go_ret
   exact ⟨_, rfl, ho.lower (by omega), hS.all, hS.bl⟩
end Go.Proofs.YtidihdiffiffmaaGreatDoor
namespace Go.Proofs.YtidihdiffiffmaaGreatDoor
open Go.ChangeShapes Go.WideShapes Go.ChangeAt Go.RowKit
set_option maxRecDepth 8000
set_option linter.unusedVariables false
set_option linter.unusedSimpArgs false
def lcells (l : Lab) : List Value := [.int .i64 l.s, .int .i64 l.c, .int .i64 l.i, .int .i64 l.k]
def fitsI (n : Int) : Prop := -9223372036854775808 ≤ n ∧ n ≤ 9223372036854775807
def Lab.fits (l : Lab) : Prop := fitsI l.s ∧ fitsI l.c ∧ fitsI l.i ∧ fitsI l.k
theorem cInt : Tryz.prog.cellsOf 3 = 1 := by kernel_rfl
theorem cStr : Tryz.prog.cellsOf 9 = 1 := by kernel_rfl
theorem cBool : Tryz.prog.cellsOf 4 = 1 := by kernel_rfl
theorem cLab : Tryz.prog.cellsOf 30 = 4 := by kernel_rfl
section
variable {H : Type} {enc : TypeId × Value → H} {W : World} {base : Nat} {sp : Nat → Bool} {held : Bool}
theorem reads_lab : Reads enc W base sp held 30 fun cs => ∃ l, cs = lcells l ∧ l.fits := fun n cs x h => by
 have hl := struct_len und cLab h
 obtain ⟨s, e0, w0⟩ := read_field (i := 0) (ty := 3) (off := 0) und (by kernel_rfl) cInt (reads_int Tryz.underlying3) h
 obtain ⟨c, e1, w1⟩ := read_field (i := 1) (ty := 3) (off := 1) und (by kernel_rfl) cInt (reads_int Tryz.underlying3) h
 obtain ⟨i, e2, w2⟩ := read_field (i := 2) (ty := 3) (off := 2) und (by kernel_rfl) cInt (reads_int Tryz.underlying3) h
 obtain ⟨k, e3, w3⟩ := read_field (i := 3) (ty := 3) (off := 3) und (by kernel_rfl) cInt (reads_int Tryz.underlying3) h
 match cs, hl with
 | [v0, v1, v2, v3], _ =>
  simp at e0 e1 e2 e3
  subst e0 e1 e2 e3
  exact ⟨⟨s, c, i, k⟩, rfl, int_fits w0, int_fits w1, int_fits w2, int_fits w3⟩
end
theorem reads_rows {α : Type} {H : Type} {enc : TypeId × Value → H} {W : World} {t e : TypeId} {sz : Nat} {f : α → List Value} {q : α → Prop} (ht : Tryz.prog.underlying t = some (.slice e)) (hc : Tryz.prog.cellsOf e = sz) (hp : Reads enc W 0 (fun _ => true) true e fun cs => ∃ g, cs = f g ∧ q g) (hone : Tryz.prog.cellsOf t = 1) :
    Reads enc W 0 (fun _ => true) true t fun cs => ∃ (l : List α) (a : Option Addr) (cap : Nat), cs = [.slice a l.length cap] ∧ (∀ j g, l[j]? = some g → ∃ y, a = some y ∧ (∀ i, i < sz → W.cell? (y.add (j * sz + i)) = (f g)[i]?)) ∧ (∀ g ∈ l, q g) ∧ (a = none → cap = 0) ∧ l.length ≤ cap := fun n cs x h => by
 have h' := h
 rcases Go.Deep.open_slice ht h with ⟨hcs, _⟩ | ⟨ad, l, c', m, n', Dd, Pl, hcs, _⟩
 ·subst hcs
  obtain ⟨L, hL, h1, h2, h3, h4, _⟩ := open_rows (f := f) (q := q) ht hc hp h'
  exact ⟨L, _, _, by rw [hL], h1, h2, h3, by omega⟩
 ·subst hcs
  obtain ⟨L, hL, h1, h2, h3, h4, _⟩ := open_rows (f := f) (q := q) ht hc hp h'
  exact ⟨L, _, _, by rw [hL], h1, h2, h3, by omega⟩
end Go.Proofs.YtidihdiffiffmaaGreatDoor
namespace Go.Proofs.YtidihdiffiffmaaGreatDoor
open Go.ChangeShapes Go.WideShapes Go.ChangeAt Go.RowKit
set_option maxRecDepth 8000
set_option linter.unusedVariables false
set_option linter.unusedSimpArgs false
def gcells (g : Gr) : List Value := [.string g.u, .int .i64 g.m]
def wcell (x : Int) : List Value := [.int .i64 x]
theorem RowAt.grs {W : World} {a : Option Addr} {l : List Gr} (h : RowAt 2 gcells W a l) : GrsAt W a l := fun j q hq => by
 obtain ⟨y, hy, hc⟩ := h j q hq
 refine ⟨y, hy, hc 0 (by omega), ?_⟩
 have := hc 1 (by omega)
 rw [add_off _ _ _ (by omega)] at this
 exact this
theorem RowAt.wrds {W : World} {a : Option Addr} {l : List Int} (h : RowAt 1 wcell W a l) : WrdsAt W a l := fun j q hq => by
 obtain ⟨y, hy, hc⟩ := h j q hq
 have := hc 0 (by omega)
 rw [Nat.mul_one, Nat.add_zero] at this
 exact ⟨y, hy, this⟩
theorem undGr : Tryz.prog.underlying 119 = some (.struct (Tryz.prog.fieldsOf 119)) := by kernel_rfl
theorem undRi : Tryz.prog.underlying 33 = some (.struct (Tryz.prog.fieldsOf 33)) := by kernel_rfl
theorem cGr : Tryz.prog.cellsOf 119 = 2 := by kernel_rfl
theorem cRi : Tryz.prog.cellsOf 33 = 4 := by kernel_rfl
theorem cI64 : Tryz.prog.cellsOf 2 = 1 := by kernel_rfl
theorem cGrs : Tryz.prog.cellsOf 31 = 1 := by kernel_rfl
theorem cWds : Tryz.prog.cellsOf 34 = 1 := by kernel_rfl
section
variable {H : Type} {enc : TypeId × Value → H} {W : World}
theorem reads_gr {base : Nat} {sp : Nat → Bool} {held : Bool} : Reads enc W base sp held 119 fun cs => ∃ g, cs = gcells g ∧ g.u.size ≤ 9223372036854775807 := fun n cs x h => by
 have hl := struct_len undGr cGr h
 obtain ⟨u, e0, w0⟩ := read_field (i := 0) (ty := 9) (off := 0) undGr (by kernel_rfl) cStr (reads_string Tryz.underlying9) h
 obtain ⟨m, e1, w1⟩ := read_field (i := 1) (ty := 3) (off := 1) undGr (by kernel_rfl) cInt (reads_int Tryz.underlying3) h
 match cs, hl with
 | [v0, v1], _ =>
  simp at e0 e1
  subst e0 e1
  exact ⟨⟨u, m⟩, rfl, w0⟩
theorem reads_ri {base : Nat} {sp : Nat → Bool} {held : Bool} : Reads enc W base sp held 33 fun cs => ∃ a b c d : Int, cs = [.int .i64 a, .int .i64 b, .int .i64 c, .int .i64 d] := fun n cs x h => by
 have hl := struct_len undRi cRi h
 obtain ⟨s, e0, w0⟩ := read_field (i := 0) (ty := 3) (off := 0) undRi (by kernel_rfl) cInt (reads_int Tryz.underlying3) h
 obtain ⟨c, e1, w1⟩ := read_field (i := 1) (ty := 3) (off := 1) undRi (by kernel_rfl) cInt (reads_int Tryz.underlying3) h
 obtain ⟨i, e2, w2⟩ := read_field (i := 2) (ty := 3) (off := 2) undRi (by kernel_rfl) cInt (reads_int Tryz.underlying3) h
 obtain ⟨k, e3, w3⟩ := read_field (i := 3) (ty := 3) (off := 3) undRi (by kernel_rfl) cInt (reads_int Tryz.underlying3) h
 match cs, hl with
 | [v0, v1, v2, v3], _ =>
  simp at e0 e1 e2 e3
  subst e0 e1 e2 e3
  exact ⟨s, c, i, k, rfl⟩
theorem reads_wd {base : Nat} {sp : Nat → Bool} {held : Bool} : Reads enc W base sp held 2 fun cs => ∃ x : Int, cs = wcell x ∧ (-9223372036854775808 ≤ x ∧ x ≤ 9223372036854775807) := fun n cs x h => by
 obtain ⟨m, e, hw⟩ := reads_int Tryz.underlying2 n cs x h
 exact ⟨m, e, int_fits hw⟩
end
end Go.Proofs.YtidihdiffiffmaaGreatDoor
namespace Go.Proofs.YtidihdiffiffmaaGreatDoor
open Go.ChangeShapes Go.WideShapes Go.ChangeAt Go.RowKit
set_option maxRecDepth 8000
set_option linter.unusedVariables false
set_option linter.unusedSimpArgs false
def icell (x : Int) : List Value := [.int .i64 x]
structure PM where
 m : Mk
 pa : Option Addr
 pc : Nat
 aa : Option Addr
 ca : Nat
 wa : Option Addr
 cw : Nat
def PM.cs (x : PM) : List Value := [.slice x.pa x.m.path.length x.pc, .bool x.m.dir, .int .i64 x.m.up.s, .int .i64 x.m.up.c, .int .i64 x.m.up.i, .int .i64 x.m.up.k, .slice x.aa x.m.acl.length x.ca, .int .i64 x.m.rings.a, .int .i64 x.m.rings.b, .int .i64 x.m.rings.c, .int .i64 x.m.rings.g, .slice x.wa x.m.words.length x.cw, .int .i64 x.m.by_.s, .int .i64 x.m.by_.c, .int .i64 x.m.by_.i, .int .i64 x.m.by_.k]
structure PM.At (W : World) (x : PM) : Prop where
 p : RowAt 1 icell W x.pa x.m.path
 g : GrsAt W x.aa x.m.acl
 w : WrdsAt W x.wa x.m.words
 f : ∀ q ∈ x.m.path, -9223372036854775808 ≤ q ∧ q ≤ 9223372036854775807
theorem PM.At.below {W W' : World} {x : PM} (h : x.At W) (b : Below W.heap.size W W') : x.At W' := ⟨h.p.below (fun _ => rfl) b, h.g.below b, h.w.below b, h.f⟩
structure RowM (W : World) (a : Option Addr) (l : List PM) : Prop where
 r : RowAt 16 PM.cs W a l
 p : ∀ x ∈ l, x.At W
theorem RowM.below {W W' : World} {a : Option Addr} {l : List PM} (h : RowM W a l) (b : Below W.heap.size W W') : RowM W' a l := ⟨h.r.below (fun _ => rfl) b, fun x hx => (h.p x hx).below b⟩
section
variable {H : Type} {enc : TypeId × Value → H} {W : World}
theorem undMk : Tryz.prog.underlying 129 = some (.struct (Tryz.prog.fieldsOf 129)) := by kernel_rfl
theorem cMk : Tryz.prog.cellsOf 129 = 16 := by kernel_rfl
theorem cInts : Tryz.prog.cellsOf 25 = 1 := by kernel_rfl
theorem reads_ic {base : Nat} {sp : Nat → Bool} {held : Bool} : Reads enc W base sp held 3 fun cs => ∃ x : Int, cs = icell x ∧ (-9223372036854775808 ≤ x ∧ x ≤ 9223372036854775807) := fun n cs x h => by
 obtain ⟨m, e, hw⟩ := reads_int Tryz.underlying3 n cs x h
 exact ⟨m, e, int_fits hw⟩
theorem open_lbs {n : Nat} {a : Option Addr} {len cap : Nat} {x : DataW H × List MemPlace} (h : DataW.trod enc Tryz.prog W 0 (fun _ => true) true n 22 [.slice a len cap] = some x) : ∃ l : List Lab, l.length = len ∧ RowAt 4 lcells W a l := by
 obtain ⟨l, hl, hc, hf, _⟩ := open_rows (f := lcells) (q := Lab.fits) Tryz.underlying22 cLab reads_lab h
 exact ⟨l, hl, hc⟩
theorem open_is {n : Nat} {a : Option Addr} {len cap : Nat} {x : DataW H × List MemPlace} (h : DataW.trod enc Tryz.prog W 0 (fun _ => true) true n 25 [.slice a len cap] = some x) : ∃ l : List Int, l.length = len ∧ RowAt 1 icell W a l ∧ ∀ q ∈ l, -9223372036854775808 ≤ q ∧ q ≤ 9223372036854775807 := by
 obtain ⟨l, hl, hc, hf, _⟩ := open_rows (f := icell) (q := fun q => -9223372036854775808 ≤ q ∧ q ≤ 9223372036854775807) Tryz.underlying25 cInt reads_ic h
 exact ⟨l, hl, hc, hf⟩
end
end Go.Proofs.YtidihdiffiffmaaGreatDoor
namespace Go.Proofs.YtidihdiffiffmaaGreatDoor
open Go.RowKit
set_option maxRecDepth 8000
set_option linter.unusedSimpArgs false
set_option linter.unusedVariables false
theorem slash_lit (u : ByteArray) : eqs u slashS = (u.toList == [47]) := by
 unfold eqs
 rw [show slashS.toList = [47] from by simp [slashS]]
theorem names_get {l : List PN} {i : Nat} {x : PN} (h : l[i]? = some x) : (namesP l)[i]? = some x.n := by
 unfold namesP
 rw [List.getElem?_map, h]
 rfl
end Go.Proofs.YtidihdiffiffmaaGreatDoor
namespace Go.Proofs.YtidihdiffiffmaaGreatDoor
open Go.RowKit
set_option maxRecDepth 8000
set_option linter.unusedSimpArgs false
set_option linter.unusedVariables false
structure PartsN (l : List PN) (u : ByteArray) (A M B : List PN) : Prop where
 eq : l = A ++ (M ++ B)
 ahead : ∀ x ∈ A, lt x.n.path u = true
 mid : M = [] ∨ ∃ x, M = [x] ∧ x.n.path = u
 behind : ∀ x ∈ B, lt u x.n.path = true
def OrdP (l : List PN) : Prop := l.Pairwise fun a b => lt a.n.path b.n.path = true
theorem ordP {l : List PN} : Ordered (namesP l) ↔ OrdP l := by
 unfold Ordered namesP OrdP
 rw [List.pairwise_map]
theorem partsN_of (u : ByteArray) : ∀ (l : List PN), OrdP l → ∃ A M B, PartsN l u A M B
 | [], _ => ⟨[], [], [], rfl, fun x h => (by cases h), .inl rfl, fun x h => (by cases h)⟩
 | a :: r, h => by
  obtain ⟨h1, h2⟩ := List.pairwise_cons.1 h
  rcases lt_total a.n.path u with hl | he | hg
  ·obtain ⟨A, M, B, p⟩ := partsN_of u r h2
   refine ⟨a :: A, M, B, by rw [p.eq]; rfl, fun x hx => ?_, p.mid, p.behind⟩
   rcases List.mem_cons.1 hx with rfl | hx
   ·exact hl
   ·exact p.ahead x hx
  ·exact ⟨[], [a], r, rfl, fun x hx => (by cases hx), .inr ⟨a, rfl, he⟩, fun x hx => by rw [← he]; exact h1 x hx⟩
  ·refine ⟨[], [], a :: r, rfl, fun x hx => (by cases hx), .inl rfl, fun x hx => ?_⟩
   rcases List.mem_cons.1 hx with rfl | hx
   ·exact hg
   ·exact lt_trans hg (h1 x hx)
theorem PartsN.len {l A M B : List PN} {u : ByteArray} (p : PartsN l u A M B) : l.length = A.length + (M.length + B.length) := by rw [p.eq]; simp
theorem PartsN.cmp {l A M B : List PN} {u : ByteArray} (p : PartsN l u A M B) {h : Nat} {g : PN} (hg : l[h]? = some g) : (cmpB g.n.path u < 0 ↔ h < A.length) ∧ (cmpB g.n.path u = 0 ↔ (h = A.length ∧ M ≠ [])) := by
 rw [p.eq] at hg
 by_cases h1 : h < A.length
 ·rw [List.getElem?_append_left h1] at hg
  have := p.ahead g (List.mem_of_getElem? hg)
  refine ⟨⟨fun _ => h1, fun _ => (cmp_lt _ _).2 this⟩, ⟨fun e => absurd ((cmp_eq0 _ _).1 e) (lt_ne this), fun e => by omega⟩⟩
 ·rw [List.getElem?_append_right (by omega)] at hg
  rcases p.mid with hM | ⟨m, hM, hu⟩
  ·rw [hM] at hg
   have hb := p.behind g (List.mem_of_getElem? (by simpa using hg))
   refine ⟨⟨fun e => ?_, fun e => absurd e h1⟩, ⟨fun e => absurd ((cmp_eq0 _ _).1 e).symm (lt_ne hb), fun e => absurd hM e.2⟩⟩
   have := (cmp_lt _ _).1 e
   rw [lt_asymm hb] at this
   cases this
  ·rw [hM] at hg ⊢
   by_cases h2 : h = A.length
   ·subst h2
    simp at hg
    subst hg
    have e0 : cmpB u u = 0 := (cmp_eq0 _ _).2 rfl
    simp [e0, hu]
   ·obtain ⟨k, hk⟩ : ∃ k, h - A.length = k + 1 := ⟨h - A.length - 1, by omega⟩
    rw [hk] at hg
    have hb := p.behind g (List.mem_of_getElem? (by simpa using hg))
    refine ⟨⟨fun e => ?_, fun e => absurd e h1⟩, ⟨fun e => absurd ((cmp_eq0 _ _).1 e).symm (lt_ne hb), fun e => absurd e.1 h2⟩⟩
    have := (cmp_lt _ _).1 e
    rw [lt_asymm hb] at this
    cases this
/-! What is found, dropped and put, by its parts. -/
theorem PartsN.find {l A M B : List PN} {u : ByteArray} (p : PartsN l u A M B) : findP l u = M.head? := by
 have hA : A.find? (fun x => eqs x.n.path u) = none := List.find?_eq_none.2 fun x hx => by
  rw [eqs_ne (lt_ne (p.ahead x hx))]; decide
 have hB : B.find? (fun x => eqs x.n.path u) = none := List.find?_eq_none.2 fun x hx => by
  rw [eqs_ne (fun e => lt_ne (p.behind x hx) e.symm)]; decide
 unfold findP
 rw [p.eq, List.find?_append, hA, List.find?_append, hB]
 rcases p.mid with hM | ⟨m, hM, hu⟩
 ·rw [hM]; rfl
 ·rw [hM]
  have : [m].find? (fun x => eqs x.n.path u) = some m := by rw [List.find?_cons, hu, eqs_self]
  rw [this]
  rfl
theorem PartsN.drop {l A M B : List PN} {u : ByteArray} (p : PartsN l u A M B) : dropP l u = A ++ B := by
 have hA : A.filter (fun x => !eqs x.n.path u) = A := List.filter_eq_self.2 fun x hx => by
  rw [eqs_ne (lt_ne (p.ahead x hx))]; rfl
 have hB : B.filter (fun x => !eqs x.n.path u) = B := List.filter_eq_self.2 fun x hx => by
  rw [eqs_ne (fun e => lt_ne (p.behind x hx) e.symm)]; rfl
 unfold dropP
 rw [p.eq, List.filter_append, hA, List.filter_append, hB]
 rcases p.mid with hM | ⟨m, hM, hu⟩
 ·rw [hM]; rfl
 ·rw [hM, List.filter_cons, hu, eqs_self]
  rfl
theorem while_parts {α : Type} {f : α → Bool} : ∀ (A B : List α), (∀ x ∈ A, f x = true) → (∀ x ∈ B, f x = false) → (A ++ B).takeWhile f = A ∧ (A ++ B).dropWhile f = B
 | [], [], _, _ => ⟨rfl, rfl⟩
 | [], b :: r, _, h => by
  have := h b List.mem_cons_self
  simp [List.takeWhile_cons, List.dropWhile_cons, this]
 | a :: r, B, h1, h2 => by
  have ih := while_parts r B (fun x hx => h1 x (List.mem_cons_of_mem _ hx)) h2
  have := h1 a List.mem_cons_self
  simp [List.takeWhile_cons, List.dropWhile_cons, this, ih]
theorem PartsN.put {l A M B : List PN} {x : PN} (p : PartsN l x.n.path A M B) : putP l x = A ++ ([x] ++ B) := by
 unfold putP
 rw [p.drop]
 obtain ⟨h1, h2⟩ := while_parts (f := fun y : PN => lt y.n.path x.n.path) A B p.ahead fun y hy => lt_asymm (p.behind y hy)
 rw [h1, h2]
 rfl
set_option maxRecDepth 8000 in
set_option maxHeartbeats 1000000 in
theorem pcmp_any (x : PN) (u : ByteArray) (w : World) :
    Calls Tryz.prog 139 #[.agg x.cs.toArray, .string u] w fun e w' => e = .returned (.int .i64 (cmpB x.n.path u)) ∧ Below w.heap.size w w' := by
 have hb := alloc_below w (.cells x.cs.toArray 36)
 unfold PN.cs nclT at *
 go_enter Tryz.func139, Tryz.ntmps139
 go_wp2_with (go_at_call 140; refine (compare_any _ _ _).mono ?_; rintro e w' ⟨rfl, rfl⟩)
 go_ret
 exact ⟨rfl, hb⟩
set_option maxRecDepth 8000 in
set_option maxHeartbeats 4000000 in
theorem tsearch_any (w : World) (a : Option Addr) (cap : Nat) (l A M B : List PN) (u : ByteArray) (p : PartsN l u A M B) (hG : RowN w a l) (hl : l.length ≤ 100000) :
    Calls Tryz.prog 138 #[.slice a l.length cap, .string u, .func (.func 139) #[] #[]] w fun e w' => e = .returned (.tuple #[.int .i64 (A.length : Nat), .bool (!M.isEmpty)]) ∧ Below w.heap.size w w' := by
 have hund := Tryz.underlying36
 have hsz : (Tryz.prog.info? 36).map (·.size) = some 16 := by kernel_rfl
 have hlen := p.len
 obtain ⟨n, hn⟩ : ∃ n, l.length = n := ⟨_, rfl⟩
 obtain ⟨c, hc⟩ : ∃ c, A.length = c := ⟨_, rfl⟩
 obtain ⟨b, hb⟩ : ∃ b, (!M.isEmpty) = b := ⟨_, rfl⟩
 have hcmp : ∀ (h : Nat) (g : PN), l[h]? = some g → (cmpB g.n.path u < 0 ↔ h < c) ∧ (cmpB g.n.path u = 0 ↔ (h = c ∧ b = true)) := by
  intro h g hg
  have := p.cmp hg
  rw [hc] at this
  refine ⟨this.1, this.2.trans ?_⟩
  rw [← hb]
  cases M <;> simp
 have hcn : c ≤ n := by omega
 have hbn : b = true → c < n := by
  intro h
  rw [← hb] at h
  cases M with
  | nil => simp at h
  | cons x y => simp at hlen; omega
 rw [hn, hc, hb]
 rw [hn] at hl
 clear p hb hc hlen
 replace hn : Aside (l.length = n) := hn
 go_enter Tryz.func138, Tryz.ntmps138
 go_wp2
 go_loopg [9, 10] n (fun kx s9 s10 wr => ∃ lo hi : Nat, s9 = .int .i64 lo ∧ s10 = .int .i64 hi ∧ lo ≤ c ∧ c ≤ hi ∧ hi ≤ n ∧ hi - lo ≤ kx ∧ Below w.heap.size w wr)
 case atStart => exact ⟨0, n, rfl, rfl, Nat.zero_le _, hcn, Nat.le_refl _, by omega, Below.refl _ _⟩
 case round =>
  obtain ⟨lo, hi, rfl, rfl, hlo, hhi, hin, hg, hB⟩ := hrel
  by_cases hlt : lo < hi
  ·obtain ⟨y, hy⟩ : ∃ y, l[(lo + hi) / 2]? = some y := ⟨_, List.getElem?_eq_getElem (by rw [hn.out]; omega)⟩
   have hrow := hG.below hB
   obtain ⟨x, rfl⟩ := hG.some_ hy
   have hw := hrow.r.at pn_len hy
   have hcy := hcmp _ _ hy
   have kc := pcmp_any y u wr
   obtain ⟨cs, hcs⟩ : ∃ cs, y.cs = cs := ⟨_, rfl⟩
   have hlen : cs.length = 16 := by rw [← hcs]; rfl
   rw [hcs] at hw kc
   rw [← hlen] at hsz
   clear hcs hy hrow hG
   obtain ⟨cv, hcv⟩ : ∃ cv, cmpB y.n.path u = cv := ⟨_, rfl⟩
   rw [hcv] at hcy kc
   by_cases hyx : cv < 0
   ·have hlt2 := hcy.1.1 hyx
    go_wp2_with (first | (refine wpList_load_at rfl _ rfl (x.add ((lo + hi) / 2 * 16)) rfl cs hw hund rfl hsz ?_) | (go_at_call 139; refine kc.mono ?_; rintro e w' ⟨rfl, hBw⟩) | fail)
    go_roundg (hi - ((lo + hi) / 2 + 1))
    case measure => omega
    case rel => exact ⟨(lo + hi) / 2 + 1, hi, by rw [show ((lo : Int) + (hi : Int)) / 2 + 1 = (((lo + hi) / 2 + 1 : Nat) : Int) by omega], rfl, by omega, hhi, hin, Nat.le_refl _, Below.then hB hBw⟩
   ·have hge : c ≤ (lo + hi) / 2 := Nat.le_of_not_lt fun h => hyx (hcy.1.2 h)
    go_wp2_with (first | (refine wpList_load_at rfl _ rfl (x.add ((lo + hi) / 2 * 16)) rfl cs hw hund rfl hsz ?_) | (go_at_call 139; refine kc.mono ?_; rintro e w' ⟨rfl, hBw⟩) | fail)
    go_roundg ((lo + hi) / 2 - lo)
    case measure => omega
    case rel => exact ⟨lo, (lo + hi) / 2, rfl, by rw [show ((lo : Int) + (hi : Int)) / 2 = (((lo + hi) / 2 : Nat) : Int) by omega], hlo, hge, by omega, Nat.le_refl _, Below.then hB hBw⟩
  ·obtain rfl : lo = c := by omega
   by_cases hln : lo < n
   ·obtain ⟨y, hy⟩ : ∃ y, l[lo]? = some y := ⟨_, List.getElem?_eq_getElem (by rw [hn.out]; omega)⟩
    have hrow := hG.below hB
    obtain ⟨x, rfl⟩ := hG.some_ hy
    have hw := hrow.r.at pn_len hy
    have hcy := (hcmp _ _ hy).2
    have kc := pcmp_any y u wr
    obtain ⟨cs, hcs⟩ : ∃ cs, y.cs = cs := ⟨_, rfl⟩
    have hlen : cs.length = 16 := by rw [← hcs]; rfl
    rw [hcs] at hw kc
    rw [← hlen] at hsz
    clear hcs hy hrow hG
    obtain ⟨cv, hcv⟩ : ∃ cv, cmpB y.n.path u = cv := ⟨_, rfl⟩
    rw [hcv] at hcy kc
    by_cases hyx : cv = 0
    ·obtain rfl : b = true := (hcy.1 hyx).2
     go_wp2_with (first | (refine wpList_load_atg rfl _ rfl (x.add (lo * 16)) rfl cs hw hund rfl hsz ?_) | (go_at_call 139; refine kc.mono ?_; rintro e w' ⟨rfl, hBw⟩) | fail)
     go_ret2
     exact ⟨by simp, Below.then hB hBw⟩
    ·obtain rfl : b = false := by
       cases b
       ·rfl
       ·exact absurd (hcy.2 ⟨rfl, rfl⟩) hyx
     go_wp2_with (first | (refine wpList_load_atg rfl _ rfl (x.add (lo * 16)) rfl cs hw hund rfl hsz ?_) | (go_at_call 139; refine kc.mono ?_; rintro e w' ⟨rfl, hBw⟩) | fail)
     go_ret2
     exact ⟨by simp [hyx], Below.then hB hBw⟩
   ·obtain rfl : b = false := by
      cases b
      ·rfl
      ·exact absurd (hbn rfl) hln
    go_wp2
    go_ret2
    exact ⟨rfl, hB⟩
set_option maxHeartbeats 1000000 in
theorem place_any (w : World) (a : Option Addr) (cap : Nat) (l A M B : List PN) (u : ByteArray) (p : PartsN l u A M B) (hG : RowN w a l) (hl : l.length ≤ 100000) :
    Calls Tryz.prog 109 #[.slice a l.length cap, .string u] w fun e w' => e = .returned (.tuple #[.int .i64 (A.length : Nat), .bool (!M.isEmpty)]) ∧ Below w.heap.size w w' := by
 have h := tsearch_any w a cap l A M B u p hG hl
 go_enter Tryz.func109, Tryz.ntmps109
 go_wp2_with (go_at_call 138; refine h.mono ?_; rintro e w' ⟨rfl, hB⟩)
 go_ret2
 exact ⟨rfl, hB⟩
end Go.Proofs.YtidihdiffiffmaaGreatDoor
namespace Go.Proofs.YtidihdiffiffmaaGreatDoor
open Go.RowKit
set_option maxRecDepth 8000
set_option linter.unusedSimpArgs false
set_option linter.unusedVariables false
theorem run_copy_cells_many {P : Program} (w : World) (dT sT ty elem : TypeId) (z b o dLen dCap : Nat) (a : Addr) (sLen sCap : Nat) (cs : List Value)
    (hu : P.underlying dT = some (.slice elem)) (hs : (P.info? elem).map (·.size) = some z) (hn : cs.length = Nat.min sLen dLen * z)
    (hsrc : ∀ j v, cs[j]? = some v → w.cell? (a.add j) = some v) (hc : ∀ j, j < cs.length → (w.cell? ⟨b, o + j, none⟩).isSome = true) (hf : ∀ j, j < cs.length → w.frozen? ⟨b, o + j, none⟩ = false) (h1 : ∀ v ∈ cs, v.oneCell' = true) :
    (Builtin.copy_ #[dT, sT] ty #[.slice (some ⟨b, o, none⟩) dLen dCap, .slice (some a) sLen sCap]).run P w = .ok (goInt (Nat.min sLen dLen)) (w.setCells b o cs) := by
 have hl := run_loadCells_list (P := P) w a cs hsrc
 have hst := run_storeCells_cells (P := P) b o cs 0 w (by simpa using hc) (by simpa using hf) h1
 cases hq : P.info? elem with
 | none => simp [hq] at hs
 | some i =>
  have hi : i.size = z := by simpa [hq] using hs
  simp [Builtin.copy_, run_underlying hu, Builtin.lenOf, Builtin.firstCells, sizeOf, typeInfo, hq, hi, ← hn, hl, hst]
theorem run_copy_none {P : Program} (w : World) (dT sT ty elem : TypeId) (z : Nat) (d a : Option Addr) (dLen dCap sLen sCap : Nat) (hu : P.underlying dT = some (.slice elem)) (hs : (P.info? elem).map (·.size) = some z) (hn : Nat.min sLen dLen = 0) :
    (Builtin.copy_ #[dT, sT] ty #[.slice d dLen dCap, .slice a sLen sCap]).run P w = .ok (goInt 0) w := by
 cases hq : P.info? elem with
 | none => simp [hq] at hs
 | some i =>
  have hl : ∀ (x : Addr), (loadCells x 0).run P w = .ok #[] w := fun x => by simpa using run_loadCells_list (P := P) w x [] (by simp)
  cases d <;> cases a <;> simp [Builtin.copy_, run_underlying hu, Builtin.lenOf, Builtin.firstCells, sizeOf, typeInfo, hq, hn, storeCells, hl]
theorem make_some {α : Type} {e t : TypeId} {sz : Nat} {f : α → List Value} (hE : ElemOk e t sz f) (w : World) (n : Nat) (hn : n ≤ 1000) : ∃ cur : Array Value, cur.size = n * sz ∧ (Instr.makeSlice t (.int .i64 (n : Int)) (.int .i64 (n : Int))).run Tryz.prog w = .ok (.slice (some ⟨w.heap.size, 0, none⟩) n n) (w.alloc (.cells cur e)) := by
 obtain ⟨i, z, b, hi, hz, hs, hb, hzs, hbb⟩ := hE.info
 have hq : b * n ≤ 10000 * 1000 := Nat.mul_le_mul hbb hn
 have h := run_make (P := Tryz.prog) w t e i _ hE.und hi hz .i64 .i64 n n (by omega) (by omega) (by
  rw [hb]
  have : ((b * n : Nat) : Int) ≤ ((10000 * 1000 : Nat) : Int) := by exact_mod_cast hq
  rw [Int.natCast_mul] at this
  omega) (by omega)
 refine ⟨_, ?_, h⟩
 rw [hs]
 simp [madeCells]
theorem copied_run {α : Type} {e t : TypeId} {sz : Nat} {f : α → List Value} (hE : ElemOk e t sz f) (l : List α) (n : Nat) (hl : l.length = n) (a : Option Addr) (cap : Nat) (w : World) (hn : n ≤ 1000) (h : RowAt sz f w a l) (ty : TypeId) :
    ∃ W1 W2, (Instr.makeSlice t (.int .i64 (n : Int)) (.int .i64 (n : Int))).run Tryz.prog w = .ok (.slice (some ⟨w.heap.size, 0, none⟩) n n) W1 ∧
     (Builtin.copy_ #[t, t] ty #[.slice (some ⟨w.heap.size, 0, none⟩) n n, .slice a n cap]).run Tryz.prog W1 = .ok (goInt n) W2 ∧ RowAt sz f W2 (some ⟨w.heap.size, 0, none⟩) l ∧ w.heap.size < W2.heap.size ∧ Below w.heap.size w W2 := by
 obtain ⟨cur, hcs, hmk⟩ := make_some hE w n hn
 obtain ⟨i, z, b, hi, hz, hs, hb, hzs, hbb⟩ := hE.info
 have hp := hE.pos
 have hszm : (Tryz.prog.info? e).map (·.size) = some sz := by rw [hi]; simpa using hs
 have hB := alloc_below w (.cells cur e)
 have hbk := blk_alloc w cur e
 cases a with
 | none =>
  have hl0 : l = [] := by
   cases l with
   | nil => rfl
   | cons x r =>
    obtain ⟨y, hy, _⟩ := h 0 x rfl
    cases hy
  subst hl0
  obtain rfl : n = 0 := hl.symm
  exact ⟨_, _, hmk, run_copy_none _ t t ty e sz _ _ _ _ _ _ hE.und hszm (by rfl), fun j x hx => by simp at hx, by simp, hB⟩
 | some y =>
  have hfl : (l.flatMap f).length = n * sz := by rw [flat_length hE.len, hl]
  have hr := (h.below hE.len hB).flat hE.len hp
  have hbl : cur.toList.length = (l.flatMap f).length := by rw [hfl]; simpa using hcs
  have hth := hbk.there
  rw [hbl] at hth
  have hc := run_copy_cells_many (P := Tryz.prog) (w.alloc (.cells cur e)) t t ty e sz w.heap.size 0 n n y n cap (l.flatMap f) hE.und hszm (by rw [show Nat.min n n = n from Nat.min_self n]; exact hfl) hr (fun j hj => (hth j hj).1) (fun j hj => (hth j hj).2) (fun u hu => by
   obtain ⟨x, _, hx⟩ := List.mem_flatMap.1 hu
   exact hE.one x u hx)
  rw [show Nat.min n n = n from Nat.min_self n] at hc
  refine ⟨_, _, hmk, hc, fun j x hx => ⟨_, rfl, fun q hq => ?_⟩, Nat.lt_of_lt_of_le (by simp) (Below.cells (Nat.le_refl w.heap.size) (l.flatMap f) 0 (Below.refl w.heap.size (w.alloc (.cells cur e)))).size, Below.cells (Nat.le_refl _) _ 0 hB⟩
  have hj := (List.getElem?_eq_some_iff.1 hx).1
  have hlt : j * sz + q < (l.flatMap f).length := by
   rw [hfl, ← hl]
   have : (j + 1) * sz ≤ l.length * sz := Nat.mul_le_mul_right _ hj
   rw [Nat.succ_mul] at this
   omega
  have hg := (hbk.setAll hbl).range (j * sz + q) _ (List.getElem?_eq_getElem hlt)
  rw [Nat.zero_add] at hg
  rw [add_at, hg, ← List.getElem?_eq_getElem, flat_at hE.len l j q x hx hq]
end Go.Proofs.YtidihdiffiffmaaGreatDoor
