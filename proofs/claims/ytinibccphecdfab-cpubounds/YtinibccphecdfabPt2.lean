/-
  PART 2 of what the claims of this seat lean on: CpuX CpuFnA CpuFnB CpuFnC CpuFnD CpuFnE IsaParts IsaFns CpuFnF CpuFnG CpuFnH CpuFnI CpuFnJ.
-/
import Derived.Test.YtinibccphecdfabPt1
/-! A STEP THAT IS UNDER WAY (package cpu's own struct): a processor's cells, and three more. -/
namespace Go.Proofs.Ytinibccphecdfab
open Go.RowKit
set_option maxRecDepth 8000
set_option linter.unusedSimpArgs false
set_option linter.unusedVariables false

/-- A processor in a block of one's own, and more cells behind it. -/
structure XAt (b : Nat) (c : Cp) (v : Value) (r : List Value) (W : World) : Prop where
  ps : c.ps.length = 4
  blk : BlkL b (stCs c v ++ r) W
section
variable {b : Nat} {c c' : Cp} {v v' u : Value} {r : List Value} {W W' : World}
theorem XAt.cells (h : XAt b c v r W) {i : Nat} (hu : (stCs c v)[i]? = some u) : W.cell? ⟨b, i, none⟩ = some u ∧ W.frozen? ⟨b, i, none⟩ = false := by
  have hi := (List.getElem?_eq_some_iff.1 hu).1
  exact h.blk.1 i u (by rw [List.getElem?_append_left hi]; exact hu)
theorem XAt.tails (h : XAt b c v r W) {i : Nat} (hu : r[i]? = some u) : W.cell? ⟨b, 18 + i, none⟩ = some u ∧ W.frozen? ⟨b, 18 + i, none⟩ = false := by
  refine h.blk.1 (18 + i) u ?_
  rw [List.getElem?_append_right (by rw [st_len h.ps]; omega), st_len h.ps, show 18 + i - 18 = i by omega]
  exact hu
theorem XAt.seg (h : XAt b c v r W) : W.cell? ⟨b, 0, none⟩ = some (.int .i64 c.seg) := (h.cells (i := 0) rfl).1
theorem XAt.off (h : XAt b c v r W) : W.cell? ⟨b, 1, none⟩ = some (.int .i64 c.off) := (h.cells (i := 1) rfl).1
theorem XAt.ring (h : XAt b c v r W) : W.cell? ⟨b, 2, none⟩ = some (.int .i64 c.ring) := (h.cells (i := 2) rfl).1
theorem XAt.a (h : XAt b c v r W) : W.cell? ⟨b, 3, none⟩ = some (.int .i64 c.a) := (h.cells (i := 3) rfl).1
theorem XAt.stk (h : XAt b c v r W) : W.cell? ⟨b, 16, none⟩ = some v := (h.cells (i := 16) (st_stk h.ps)).1
theorem XAt.hl (h : XAt b c v r W) : W.cell? ⟨b, 17, none⟩ = some (.bool c.hl) := (h.cells (i := 17) (st_hl h.ps)).1
theorem XAt.free (h : XAt b c v r W) {i : Nat} (hi : i < 18) : W.frozen? ⟨b, i, none⟩ = false := (h.cells (i := i) (List.getElem?_eq_getElem (by rw [st_len h.ps]; exact hi))).2
theorem XAt.ptr (h : XAt b c v r W) {k : Nat} (hk : k < 4) : W.rangeAt b (4 + k * 3) (ptr3 (c.ps.getD k ⟨0, 0, 0⟩)) := fun j u hu => by
  have hj : j < 3 := (List.getElem?_eq_some_iff.1 hu).1
  exact (h.cells ((st_ptr h.ps hk hj).trans hu)).1
theorem XAt.st (h : XAt b c v r W) : W.rangeAt b 0 (stCs c v) := fun j u hu => by
  rw [Nat.zero_add]
  exact (h.cells hu).1
theorem XAt.lt (h : XAt b c v r W) : b < W.heap.size := h.blk.2
theorem XAt.same (h : XAt b c v r W) (hb : W'.heap[b]? = W.heap[b]?) (hs : W.heap.size ≤ W'.heap.size) : XAt b c v r W' := ⟨h.ps, h.blk.1.same hb, Nat.lt_of_lt_of_le h.blk.2 hs⟩
theorem XAt.keep (h : XAt b c v r W) (hb : Below W.heap.size W W') : XAt b c v r W' := ⟨h.ps, stab_blk _ _ _ _ h.blk hb⟩
theorem XAt.put (h : XAt b c v r W) {i : Nat} (hi : i < 18) (u : Value) (h4 : c'.ps.length = 4) (he : (stCs c v).set i u = stCs c' v') : XAt b c' v' r (W.setCell ⟨b, i, none⟩ u) := by
  have h1 := h.blk.1.set i u (by rw [List.length_append, st_len h.ps]; omega)
  rw [List.set_append_left _ _ (by rw [st_len h.ps]; exact hi), he] at h1
  exact ⟨h4, h1, h1.lt (List.getElem?_eq_getElem (by rw [List.length_append, st_len h4]; omega : 0 < (stCs c' v' ++ r).length))⟩
theorem XAt.putT (h : XAt b c v r W) {i : Nat} (hi : i < r.length) (u : Value) : XAt b c v (r.set i u) (W.setCell ⟨b, 18 + i, none⟩ u) := by
  have h1 := h.blk.1.set (18 + i) u (by rw [List.length_append, st_len h.ps]; omega)
  rw [List.set_append_right _ _ (by rw [st_len h.ps]; omega), st_len h.ps, show 18 + i - 18 = i by omega] at h1
  exact ⟨h.ps, h1, h1.lt (List.getElem?_eq_getElem (by rw [List.length_append, st_len h.ps]; omega : 0 < (stCs c v ++ r.set i u).length))⟩
theorem XAt.setSeg (h : XAt b c v r W) (x : Int) : XAt b { c with seg := x } v r (W.setCell ⟨b, 0, none⟩ (.int .i64 x)) := h.put (by omega) _ h.ps rfl
theorem XAt.setOff (h : XAt b c v r W) (x : Int) : XAt b { c with off := x } v r (W.setCell ⟨b, 1, none⟩ (.int .i64 x)) := h.put (by omega) _ h.ps rfl
theorem XAt.setRing (h : XAt b c v r W) (x : Int) : XAt b { c with ring := x } v r (W.setCell ⟨b, 2, none⟩ (.int .i64 x)) := h.put (by omega) _ h.ps rfl
theorem XAt.setA (h : XAt b c v r W) (x : Int) : XAt b { c with a := x } v r (W.setCell ⟨b, 3, none⟩ (.int .i64 x)) := h.put (by omega) _ h.ps rfl
theorem XAt.setStk (h : XAt b c v r W) (u : Value) : XAt b c u r (W.setCell ⟨b, 16, none⟩ u) := h.put (by omega) _ h.ps (st_setStk h.ps v u)
theorem st_setHl (h : c.ps.length = 4) (v : Value) (x : Bool) : (stCs c v).set 17 (.bool x) = stCs { c with hl := x } v := by
  obtain ⟨p0, p1, p2, p3, hl⟩ := four h
  obtain ⟨s, o, rg, a, ps, st, hl'⟩ := c
  simp only at hl
  subst hl
  rfl
theorem XAt.setHl (h : XAt b c v r W) (x : Bool) : XAt b { c with hl := x } v r (W.setCell ⟨b, 17, none⟩ (.bool x)) := h.put (by omega) _ h.ps (st_setHl h.ps v x)
theorem st_setPtr (h : c.ps.length = 4) (v : Value) {k : Nat} (hk : k < 4) (q : Ptr) : setM (stCs c v) (4 + k * 3) (ptr3 q) = stCs { c with ps := c.ps.set k q } v := by
  obtain ⟨p0, p1, p2, p3, hl⟩ := four h
  obtain ⟨s, o, rg, a, ps, st, hl'⟩ := c
  simp only at hl
  subst hl
  match k, hk with
  | 0, _ => rfl
  | 1, _ => rfl
  | 2, _ => rfl
  | 3, _ => rfl
theorem setM_append : ∀ (vs : List Value) (xs ys : List Value) (k : Nat), k + vs.length ≤ xs.length → setM (xs ++ ys) k vs = setM xs k vs ++ ys
  | [], _, _, _, _ => rfl
  | v :: t, xs, ys, k, h => by
    simp at h
    rw [setM, setM, List.set_append_left _ _ (by omega)]
    exact setM_append t _ ys (k + 1) (by simp; omega)
theorem XAt.setPtr (h : XAt b c v r W) {k : Nat} (hk : k < 4) (q : Ptr) : ∃ W', W.setCells b (4 + k * 3) (ptr3 q) = W' ∧ W.there b (4 + k * 3) (ptr3 q).length ∧ XAt b { c with ps := c.ps.set k q } v r W' ∧ (∀ B W0, B ≤ b → Below B W0 W → Below B W0 W') ∧ ∀ j, j ≠ b → W'.heap[j]? = W.heap[j]? := by
  have hl : 4 + k * 3 + (ptr3 q).length ≤ (stCs c v ++ r).length := by rw [List.length_append, st_len h.ps, ptr3_len]; omega
  have h1 := Blk.putM (ptr3 q) (4 + k * 3) h.blk.1 hl
  rw [setM_append _ _ _ _ (by rw [st_len h.ps, ptr3_len]; omega), st_setPtr h.ps v hk q] at h1
  have h4 : ({ c with ps := c.ps.set k q } : Cp).ps.length = 4 := by show (c.ps.set k q).length = 4; rw [List.length_set]; exact h.ps
  refine ⟨_, rfl, h.blk.1.thereM _ _ hl, ⟨h4, h1, h1.lt (List.getElem?_eq_getElem (by rw [List.length_append, st_len h4]; omega : 0 < (stCs { c with ps := c.ps.set k q } v ++ r).length))⟩, fun B W0 hB hb => Below.cells hB _ _ hb, fun j hj => heap_setCells_other hj _ _ _⟩
end
/-- Of what was there the block bx alone may be turned. -/
structure Sole (bx : Nat) (w w' : World) : Prop where
  os : w'.os = w.os
  tape : w'.tape = w.tape
  output : w'.output = w.output
  size : w.heap.size ≤ w'.heap.size
  block : ∀ j, j < w.heap.size → j ≠ bx → w'.heap[j]? = w.heap[j]?
theorem Sole.of {bx : Nat} {w w' : World} (h : Below w.heap.size w w') : Sole bx w w' := ⟨h.os, h.tape, h.output, h.size, fun j hj _ => h.block j hj⟩
theorem Sole.trans {bx : Nat} {w w1 w2 : World} (h : Sole bx w w1) (k : Sole bx w1 w2) : Sole bx w w2 := ⟨k.os.trans h.os, k.tape.trans h.tape, k.output.trans h.output, Nat.le_trans h.size k.size, fun j hj hn => (k.block j (Nat.lt_of_lt_of_le hj h.size) hn).trans (h.block j hj hn)⟩
theorem Sole.set {bx : Nat} {w w' : World} (h : Sole bx w w') (o : Nat) (u : Value) : Sole bx w (w'.setCell ⟨bx, o, none⟩ u) := ⟨h.os, h.tape, h.output, by simpa using h.size, fun j hj hn => (heap_setCell_other _ ⟨bx, o, none⟩ j _ hn).trans (h.block j hj hn)⟩
theorem Sole.cells {bx b : Nat} {w w' : World} (h : Sole bx w w') (hb : b = bx ∨ w.heap.size ≤ b) (o : Nat) (us : List Value) : Sole bx w (w'.setCells b o us) := by
  have k := Below.cells (B := 0) (b := b) (Nat.zero_le _) us o (Below.refl 0 w')
  exact ⟨k.os.trans h.os, k.tape.trans h.tape, k.output.trans h.output, Nat.le_trans h.size k.size, fun j hj hn => (heap_setCells_other (by omega) us o w').trans (h.block j hj hn)⟩
theorem Sole.blk {bx b : Nat} {cs : List Value} {w w' : World} (h : Sole bx w w') (hb : BlkL b cs w) (hn : b ≠ bx) : BlkL b cs w' := ⟨hb.1.same (h.block b hb.2 hn), Nat.lt_of_lt_of_le hb.2 h.size⟩
theorem Sole.below {bx L : Nat} {w0 w w' : World} (h : Sole bx w w') (hb : Below L w0 w) (hL : L ≤ bx) (hs : L ≤ w.heap.size) : Below L w0 w' := hb.trans ⟨h.os, h.tape, h.output, h.size, fun j hj => h.block j (Nat.lt_of_lt_of_le hj hs) (by omega)⟩
theorem Sole.own {α : Type} {e : TypeId} {sz : Nat} {f : α → List Value} {bx base : Nat} {w w' : World} {v : Value} {l : List α} (h : Sole bx w w') (ho : OwnR e sz f w base v l) (hn : v.ownBlock ≠ some bx) : OwnR e sz f w' base v l := ho.keep fun k hk => h.block k (ho.lt hk).2 (fun q => hn (by rw [hk, q]))
/-- What is panicked: a fault's number. -/
def thr (e : Int) : List PanicEntry := [{ v := .iface 70 (.int .i64 e), recovered := false }]
theorem diedC {P : Program} {fn : Func} {R : Ending → World → Prop} {a : Act} {w : World} {ch : List PanicEntry} (h : R (.panicked ch) w) (ha : a.defers = [] := by rfl) : bodyPost P fn R (.panic ch) a w := ⟨ha, h⟩
end Go.Proofs.Ytinibccphecdfab

/-! PACKAGE cpu AS IT LANDED: faults, segments told, words read. -/
namespace Go.Proofs.Ytinibccphecdfab
open Go.RowKit
set_option maxRecDepth 8000
set_option linter.unusedSimpArgs false
set_option linter.unusedVariables false

theorem need_ok (e : Int) (w : World) : Calls Try.prog 34 #[.bool true, .int .i64 e] w fun r w' => r = .returned (.tuple #[]) ∧ w' = w := by
  go_enter Try.func34, Try.ntmps34
  go_wp2_with fail
  refine bodyPost_end (v := .tuple #[]) (by simp [results, Try.results34, go_sem]) rfl ?_
  exact ⟨rfl, rfl⟩
theorem need_no (e : Int) (w : World) : Calls Try.prog 34 #[.bool false, .int .i64 e] w fun r w' => r = .panicked (thr e) ∧ w' = w := by
  go_enter Try.func34, Try.ntmps34
  go_wp2_with fail
  exact diedC ⟨rfl, rfl⟩
theorem allows_any (g : Sg) (v : Value) (b : Int) (w : World) : Calls Try.prog 35 #[.agg (sg6 g v).toArray, .int .i64 b] w fun e w' => e = .returned (.bool (hasM g.md b)) ∧ Below w.heap.size w w' := by
  have hB := alloc_below w (.cells (sg6 g v).toArray 81)
  have h0 := blkl_alloc w (sg6 g v).toArray 81
  have x1 := (h0.1 1 _ rfl).1
  obtain ⟨X, hX⟩ : ∃ X, (sg6 g v).toArray = X := ⟨_, rfl⟩
  rw [hX] at hB x1 ⊢
  unfold hasM
  go_enter Try.func35, Try.ntmps35
  go_wp2_with fail
  go_ret
  exact ⟨rfl, hB⟩
end Go.Proofs.Ytinibccphecdfab

/-! PACKAGE cpu AS IT LANDED: segments told, words read. -/
namespace Go.Proofs.Ytinibccphecdfab
open Go.RowKit
set_option maxRecDepth 8000
set_option linter.unusedSimpArgs false
set_option linter.unusedVariables false

set_option maxHeartbeats 1000000 in
theorem has_any (g : Sg) (a : Option Addr) (cap : Nat) (o : Int) (w : World) : Calls Try.prog 41 #[.agg (sg6 g (.slice a g.ws.length cap)).toArray, .int .i64 o] w fun e w' => e = .returned (.bool (decide (inG g o))) ∧ Below w.heap.size w w' := by
  have hB := alloc_below w (.cells (sg6 g (.slice a g.ws.length cap)).toArray 81)
  have h0 := blkl_alloc w (sg6 g (.slice a g.ws.length cap)).toArray 81
  have x0 := (h0.1 0 _ rfl).1
  obtain ⟨X, hX⟩ : ∃ X, (sg6 g (.slice a g.ws.length cap)).toArray = X := ⟨_, rfl⟩
  rw [hX] at hB x0 ⊢
  unfold inG
  generalize g.ws.length = ln at *
  by_cases c0 : 0 ≤ o
  · by_cases c1 : o < (ln : Int)
    · rw [show decide (0 ≤ o ∧ o < (ln : Int)) = true by simp [c0, c1]]
      go_enter Try.func41, Try.ntmps41
      go_wp2_with fail
      go_ret
      exact ⟨rfl, hB⟩
    · rw [show decide (0 ≤ o ∧ o < (ln : Int)) = false by simp [c1]]
      have c2 : (ln : Int) ≤ o := by omega
      go_enter Try.func41, Try.ntmps41
      go_wp2_with fail
      go_ret
      exact ⟨rfl, hB⟩
  · rw [show decide (0 ≤ o ∧ o < (ln : Int)) = false by simp [c0]]
    go_enter Try.func41, Try.ntmps41
    go_wp2_with fail
    go_ret
    exact ⟨rfl, hB⟩
set_option maxHeartbeats 1000000 in
theorem cword_no (g : Sg) (a : Option Addr) (cap : Nat) (o : Int) (w : World) (hn : ¬ inG g o) : Calls Try.prog 38 #[.agg (sg6 g (.slice a g.ws.length cap)).toArray, .int .i64 o] w fun e w' => e = .panicked (thr 35) ∧ Below w.heap.size w w' := by
  have hund := Try.underlying81
  have hsz : (Try.prog.info? 81).map (·.size) = some 6 := by kernel_rfl
  have hB := alloc_below w (.cells (sg6 g (.slice a g.ws.length cap)).toArray 81)
  have h0 := blkl_alloc w (sg6 g (.slice a g.ws.length cap)).toArray 81
  have k1 := fun W => has_any g a cap o W
  rw [decide_eq_false hn] at k1
  have hr := h0.range
  obtain ⟨X, hX⟩ : ∃ X, sg6 g (.slice a g.ws.length cap) = X := ⟨_, rfl⟩
  have hl : X.length = 6 := by rw [← hX]; rfl
  simp only [hX] at hB hr k1 ⊢
  have hszX : (Try.prog.info? 81).map (·.size) = some X.length := by rw [hl]; exact hsz
  clear hX h0 hl hn
  go_enter Try.func38, Try.ntmps38
  go_wp2_with (first | (refine wpList_load_row rfl _ rfl w.heap.size rfl X hr hund rfl hszX ?_) | fail)
  refine (k1 _).mono ?_
  rintro e W1 ⟨rfl, hb⟩
  have hB1 := Below.then hB hb
  go_wp2_with fail
  refine (need_no 35 W1).mono ?_
  rintro e W2 ⟨rfl, rfl⟩
  go_wp2_with fail
  exact diedC ⟨rfl, hB1⟩
set_option maxHeartbeats 1000000 in
theorem cword_ok (g : Sg) (a : Option Addr) (cap : Nat) (o : Int) (w : World) (hi : inG g o) (hrow : RowAt 1 wcl w a g.ws) : Calls Try.prog 38 #[.agg (sg6 g (.slice a g.ws.length cap)).toArray, .int .i64 o] w fun e w' => e = .returned (.int .i64 (wAt g o)) ∧ Below w.heap.size w w' := by
  have hund := Try.underlying81
  have hsz : (Try.prog.info? 81).map (·.size) = some 6 := by kernel_rfl
  have hB := alloc_below w (.cells (sg6 g (.slice a g.ws.length cap)).toArray 81)
  have h0 := blkl_alloc w (sg6 g (.slice a g.ws.length cap)).toArray 81
  have k1 := fun W => has_any g a cap o W
  rw [decide_eq_true hi] at k1
  obtain ⟨j, rfl, hj⟩ : ∃ j : Nat, o = (j : Int) ∧ j < g.ws.length := ⟨o.toNat, by have := hi.1; omega, by have := hi.1; have := hi.2; omega⟩
  obtain ⟨y, rfl, hc⟩ := hrow j (g.ws[j]) (List.getElem?_eq_getElem hj)
  have hc0 : w.cell? (y.add j) = some (.int .i64 (wAt g (j : Int))) := by
    have := hc 0 (by decide)
    rw [Nat.mul_one, Nat.add_zero] at this
    rw [this]
    unfold wAt
    rw [Int.toNat_natCast, List.getD_eq_getElem?_getD, List.getElem?_eq_getElem hj]
    rfl
  have hr := h0.range
  have x0 := (h0.1 0 _ rfl).1
  obtain ⟨X, hX⟩ : ∃ X, sg6 g (.slice (some y) g.ws.length cap) = X := ⟨_, rfl⟩
  have hl : X.length = 6 := by rw [← hX]; rfl
  have h6 := h0
  simp only [hX] at hB hr k1 h6 ⊢
  have hszX : (Try.prog.info? 81).map (·.size) = some X.length := by rw [hl]; exact hsz
  have i1 : (j : Int) < (g.ws.length : Int) := by omega
  have i2 : ¬ (j : Int) < 0 := by omega
  have i3 : ¬ (g.ws.length : Int) ≤ (j : Int) := by omega
  have hX0 : X[0]? = some (.slice (some y) g.ws.length cap) := by rw [← hX]; rfl
  clear hX h0 hl hi hrow hc x0
  generalize wAt g (j : Int) = wd at *
  generalize g.ws.length = ln at *
  go_enter Try.func38, Try.ntmps38
  go_wp2_with (first | (refine wpList_load_row rfl _ rfl w.heap.size rfl X hr hund rfl hszX ?_) | fail)
  refine (k1 _).mono ?_
  rintro e W1 ⟨rfl, hb⟩
  have hB1 := Below.then hB hb
  have h61 := stab_blk _ _ _ _ h6 hb
  have x0 := (h61.1 0 _ hX0).1
  have hc1 : W1.cell? (y.add j) = some (.int .i64 wd) := (hB1.cell (World.block_lt_of_cell? _ _ hc0)).trans hc0
  clear hc0 h6 h61 hr hb hX0
  go_wp2_with fail
  refine (need_ok 35 W1).mono ?_
  rintro e W2 ⟨rfl, rfl⟩
  go_wp2_with fail
  go_ret
  exact ⟨rfl, hB1⟩
/-- What is asked of a memory's segments. -/
structure MG (m : List PG) : Prop where
  len : m.length < 1000000
  ok : ∀ x ∈ m, x.g.Ok
  cap : ∀ x ∈ m, x.wa = none → x.wc = 0
/-- A memory, as an interface's value. -/
abbrev memI (bm : Nat) : Value := .iface 34 (.pointer (some ⟨bm, 0, none⟩))
theorem finds_seg (p : Addr) (w : World) : Sem.run Try.prog (method 224 34 (.pointer (some p)) "Segment") w = .ok (82, .pointer (some p)) w := by rfl
theorem enters_seg (args : Array Value) (w : World) : Sem.run Try.prog (callFunc 82 args) w = .ok (.enter 82 args) w := by rfl
theorem sg6_one (g : Sg) (a : Option Addr) (n cap : Nat) : ∀ u ∈ sg6 g (.slice a n cap), u.oneCell' = true := fun u hu => by
  simp [sg6] at hu
  rcases hu with rfl | rfl | rfl | rfl | rfl | rfl <;> rfl
/-- A segment that was told, in a new block. -/
theorem new_sg (W : World) (g : Sg) (v : Value) : ∃ W', (W.alloc (.cells #[.slice none 0 0, .int .i64 0, .int .i64 0, .int .i64 0, .int .i64 0, .int .i64 0] 81)).setCells W.heap.size 0 (sg6 g v) = W' ∧ (W.alloc (.cells #[.slice none 0 0, .int .i64 0, .int .i64 0, .int .i64 0, .int .i64 0, .int .i64 0] 81)).there W.heap.size 0 (sg6 g v).length ∧ BlkL W.heap.size (sg6 g v) W' ∧ Below W.heap.size W W' :=
  put_new W (sg6 zeroG nilS).toArray 81 (sg6 g v) rfl (by show 0 < 6; decide)
set_option maxHeartbeats 2000000 in
theorem cseg_none (bm bx : Nat) (a : Option Addr) (cap : Nat) (m : List PG) (hm : MG m) (c : Cp) (v : Value) (r : List Value) (k : Int) (w : World) (hM : MAt bm a cap m w) (hX : XAt bx c v (memI bm :: r) w) (hno : (kn (m.map (·.g)) k).is = false) :
    Calls Try.prog 33 #[.pointer (some ⟨bx, 0, none⟩), .int .i64 k] w fun e w' => e = .panicked (thr 35) ∧ Below w.heap.size w w' := by
  have hszC : (Try.prog.info? 81).map (·.size) = some 6 := by kernel_rfl
  have hB0 := alloc_below w (.cells (sg6 zeroG nilS).toArray 81)
  have hM1 := hM.below hB0
  have hX1 := hX.keep hB0
  have x0 := (hX1.tails (i := 0) rfl).1
  have hf := finds_seg ⟨bm, 0, none⟩
  have he := enters_seg
  have hlen := hm.len
  clear hM hX hX1 hm
  go_enter Try.func33, Try.ntmps33
  go_upto_region 1 with fail
  replace x0 : (w.alloc (.cells #[.slice none 0 0, .int .i64 0, .int .i64 0, .int .i64 0, .int .i64 0, .int .i64 0] 81)).cell? ⟨bx, 18, none⟩ = some (memI bm) := x0
  replace hM1 : MAt bm a cap m (w.alloc (.cells #[.slice none 0 0, .int .i64 0, .int .i64 0, .int .i64 0, .int .i64 0, .int .i64 0] 81)) := hM1
  replace hB0 : Below w.heap.size w (w.alloc (.cells #[.slice none 0 0, .int .i64 0, .int .i64 0, .int .i64 0, .int .i64 0, .int .i64 0] 81)) := hB0
  generalize w.alloc (.cells #[.slice none 0 0, .int .i64 0, .int .i64 0, .int .i64 0, .int .i64 0, .int .i64 0] 81) = W0 at *
  go_wp2_with fail
  refine (mseg_none bm a cap m k hlen W0 hM1 hno).mono ?_
  rintro e W1 ⟨rfl, hb⟩
  obtain ⟨W2, hW2, hth2, hb2, hB2⟩ := new_sg W1 zeroG nilS
  have hB := Below.then (Below.then hB0 hb) hB2
  clear hM1 hno x0 hf he hb hB0 hB2 hb2
  go_wp2_with (first | (refine wpList_store_row rfl _ _ rfl W1.heap.size rfl (sg6 zeroG nilS) rfl hth2 hszC (sg6_one _ _ _ _) hW2 ?_) | fail)
  refine (need_no 35 W2).mono ?_
  rintro e W3 ⟨rfl, rfl⟩
  go_wp2_with fail
  exact diedC ⟨rfl, hB⟩
set_option maxHeartbeats 2000000 in
theorem cseg_some (bm bx : Nat) (a : Option Addr) (cap : Nat) (m : List PG) (hm : MG m) (c : Cp) (v : Value) (r : List Value) (k : Int) (w : World) (hM : MAt bm a cap m w) (hX : XAt bx c v (memI bm :: r) w) (hyes : (kn (m.map (·.g)) k).is = true) :
    Calls Try.prog 33 #[.pointer (some ⟨bx, 0, none⟩), .int .i64 k] w fun e w' => ∃ u, e = .returned (.agg (sg6 (kn (m.map (·.g)) k) u).toArray) ∧ OwnR 2 1 wcl w' w.heap.size u (kn (m.map (·.g)) k).ws ∧ Below w.heap.size w w' := by
  have hundC := Try.underlying81
  have hszC : (Try.prog.info? 81).map (·.size) = some 6 := by kernel_rfl
  have hB0 := alloc_below w (.cells (sg6 zeroG nilS).toArray 81)
  have h0 := blkl_alloc w (sg6 zeroG nilS).toArray 81
  have hM1 := hM.below hB0
  have hX1 := hX.keep hB0
  have x0 := (hX1.tails (i := 0) rfl).1
  have hf := finds_seg ⟨bm, 0, none⟩
  have he := enters_seg
  have hs0 : w.heap.size ≤ (w.alloc (.cells #[.slice none 0 0, .int .i64 0, .int .i64 0, .int .i64 0, .int .i64 0, .int .i64 0] 81)).heap.size := hB0.size
  have k1 := fun (W : World) (h : MAt bm a cap m W) => mseg_some bm a cap m k hm.len hm.ok hm.cap W h hyes
  clear hM hX hX1 hyes hm
  generalize kn (m.map (·.g)) k = g at *
  go_enter Try.func33, Try.ntmps33
  go_upto_region 1 with fail
  replace x0 : (w.alloc (.cells #[.slice none 0 0, .int .i64 0, .int .i64 0, .int .i64 0, .int .i64 0, .int .i64 0] 81)).cell? ⟨bx, 18, none⟩ = some (memI bm) := x0
  replace hM1 : MAt bm a cap m (w.alloc (.cells #[.slice none 0 0, .int .i64 0, .int .i64 0, .int .i64 0, .int .i64 0, .int .i64 0] 81)) := hM1
  replace hB0 : Below w.heap.size w (w.alloc (.cells #[.slice none 0 0, .int .i64 0, .int .i64 0, .int .i64 0, .int .i64 0, .int .i64 0] 81)) := hB0
  replace h0 : BlkL w.heap.size (sg6 zeroG nilS) (w.alloc (.cells #[.slice none 0 0, .int .i64 0, .int .i64 0, .int .i64 0, .int .i64 0, .int .i64 0] 81)) := h0
  generalize w.alloc (.cells #[.slice none 0 0, .int .i64 0, .int .i64 0, .int .i64 0, .int .i64 0, .int .i64 0] 81) = W0 at *
  go_wp2_with fail
  refine (k1 W0 hM1).mono ?_
  rintro e W1 ⟨u, rfl, ho, hb⟩
  obtain ⟨ua, uc, hu, -, -, -⟩ := ho.slice wd_okC.len
  obtain ⟨W2, hW2, hth2, hb2, hB2⟩ := new_sg W1 g u
  have h1 := stab_blk _ _ _ _ (stab_blk _ _ _ _ h0 hb) hB2
  have hr2 := hb2.range
  obtain ⟨W3, hW3, hth3, hb3, hk3⟩ := put_any h1 (ds := sg6 g u) rfl (by show 0 < 6; decide)
  have hB3 := hk3 _ _ (Nat.le_refl _) (Below.then (Below.then hB0 hb) hB2)
  have ho3 : OwnR 2 1 wcl W3 w.heap.size u g.ws := by
    rw [← hW3]
    have := h0.2
    exact (((ho.below hB2).setAll (g := w.heap.size) (fun q => by have := (ho.lt q).1; omega) _)).lower hs0
  have hr3 := hb3.range
  have hone : ∀ z ∈ sg6 g u, z.oneCell' = true := by rw [hu]; exact sg6_one _ _ _ _
  obtain ⟨X, hX⟩ : ∃ X, sg6 g u = X := ⟨_, rfl⟩
  have hl : X.length = 6 := by rw [← hX]; rfl
  have hszX : (Try.prog.info? 81).map (·.size) = some X.length := by rw [hl]; exact hszC
  rw [hX] at hW2 hth2 hW3 hth3 hr2 hr3 hone
  have hXv : Aside (.agg (sg6 g u).toArray = Value.agg X.toArray) := by rw [hX]; exact rfl
  replace hX : Aside (sg6 g u = X) := hX
  clear hM1 k1 x0 hf he hb hB0 hB2 hb2 h0 h1 hb3 hk3 hl ho hu
  go_wp2_with (first | (refine wpList_store_row rfl _ _ rfl W1.heap.size rfl X hXv.out hth2 hszX hone hW2 ?_) | fail)
  refine (need_ok 35 W2).mono ?_
  rintro e W4 ⟨rfl, rfl⟩
  go_wp2_with (first | (refine wpList_load_row rfl _ rfl W1.heap.size rfl X hr2 hundC rfl hszX ?_) | (refine wpList_store_row rfl _ _ rfl w.heap.size rfl X rfl hth3 hszX hone hW3 ?_) | fail)
  refine bodyPost_ret (v := .agg X.toArray) (results_row1 rfl _ _ w.heap.size rfl X hr3 hundC rfl hszX) rfl ?_
  exact ⟨u, by rw [hX.out], ho3, hB3⟩
end Go.Proofs.Ytinibccphecdfab

/-! PACKAGE cpu AS IT LANDED: where mem is; read. Written by mk_cpufnc.py. -/
namespace Go.Proofs.Ytinibccphecdfab
open Go.RowKit
set_option maxRecDepth 8000
set_option linter.unusedSimpArgs false
set_option linter.unusedVariables false

section
variable {ops : Array Oper} {o : Oper} {a : Act} {w : World} {Q : Exit → Act → World → Prop}
theorem step_allocC {T : TypeId} {K : Act → World → Prop} {E : Prop} {z : Array Value} (hg : o.guard = none) (ho : o.op = .alloc T) (hz : ∀ w : World, (Instr.alloc T true (.tuple #[])).run Try.prog w = .ok (.pointer (some ⟨w.heap.size, 0, none⟩)) (w.alloc (.cells z T))) (hK : K (a.put o.dst (.pointer (some ⟨w.heap.size, 0, none⟩))) (w.alloc (.cells z T))) :
    if Region.wanted o (yielded ops a.tmps) = true then Oper.wp Try.prog o a w K Q else E := by
  have hw : Region.wanted o (yielded ops a.tmps) = true := by simp [Region.wanted, hg]
  rw [if_pos hw]
  unfold Oper.wp
  simp [execOp, ho, hz, Result.andThen]
  exact hK
end
def memP (c : Cp) (i : Ins) : Ptr := ⟨(pAt c i.p).s, mOff c i, mRing c i⟩
/-- What mem's second region keeps. -/
structure SM (bx bi bp : Nat) (c : Cp) (v : Value) (r : List Value) (i : Ins) (p : Ptr) (W : World) : Prop where
  x : XAt bx c v r W
  i : BlkL bi (ins3 i) W
  p : BlkL bp (ptr3 p) W
set_option maxRecDepth 8000 in
set_option maxHeartbeats 4000000 in
theorem cmem_any (bx : Nat) (c : Cp) (v : Value) (r : List Value) (hc : c.Ok) (i : Ins) (hi : insE i = 0) (w : World) (hX : XAt bx c v r w) :
    Calls Try.prog 22 #[.pointer (some ⟨bx, 0, none⟩), i.v] w fun e w' => e = .returned (.agg (ptr3 (memP c i)).toArray) ∧ Below w.heap.size w w' := by
  have hundP := Try.underlying25
  have hszP : (Try.prog.info? 25).map (·.size) = some 3 := by kernel_rfl
  obtain ⟨⟨o0, o1⟩, p0, p1, n0, n1⟩ := insE_zero.1 hi
  obtain ⟨k, hk, hk4⟩ : ∃ k : Nat, i.p = (k : Int) ∧ k < 4 := ⟨i.p.toNat, by omega, by omega⟩
  have hpo := pAt_ok hc i.p
  have hp : pAt c i.p = c.ps.getD k ⟨0, 0, 0⟩ := by unfold pAt; rw [hk, Int.toNat_natCast]
  obtain ⟨p, hpp⟩ : ∃ p, c.ps.getD k ⟨0, 0, 0⟩ = p := ⟨_, rfl⟩
  rw [hpp] at hp
  rw [hp] at hpo
  have how : IntKind.i64.wrap (p.f + i.n) = mOff c i := by rw [IntKind.wrap_i64]; unfold mOff; rw [hp]; omega
  have hgm : (if c.ring < p.r then p.r else c.ring) = mRing c i := by unfold mRing; rw [hp]; rfl
  have hmp : memP c i = ⟨p.s, mOff c i, mRing c i⟩ := by unfold memP; rw [hp]
  rw [hmp]
  have hv : i.v = .agg #[.int .i64 i.o, .int .i64 (k : Int), .int .i64 i.n] := by rw [← hk]
  rw [hv]
  generalize mOff c i = o at *
  generalize mRing c i = R at *
  have hi0 := blkl_alloc w (ins3 ⟨i.o, (k : Int), i.n⟩).toArray 42
  have hB0 := alloc_below w (.cells (ins3 ⟨i.o, (k : Int), i.n⟩).toArray 42)
  have hsw : (w.alloc (.cells (ins3 ⟨i.o, (k : Int), i.n⟩).toArray 42)).heap.size = w.heap.size + 1 := by simp
  have hr0 := blkl_alloc (w.alloc (.cells (ins3 ⟨i.o, (k : Int), i.n⟩).toArray 42)) (ptr3 ⟨0, 0, 0⟩).toArray 25
  have hb := alloc_below (w.alloc (.cells (ins3 ⟨i.o, (k : Int), i.n⟩).toArray 42)) (.cells (ptr3 ⟨0, 0, 0⟩).toArray 25)
  rw [hsw] at hr0
  have hX1 := (hX.keep hB0).keep hb
  have hi1 := stab_blk _ _ _ _ hi0 hb
  have hB1 := Below.then hB0 hb
  have hbx : bx < w.heap.size := hX.lt
  replace hi1 : BlkL w.heap.size (ins3 ⟨i.o, (k : Int), i.n⟩) ((w.alloc (.cells #[.int .i64 i.o, .int .i64 (k : Int), .int .i64 i.n] 42)).alloc (.cells #[.int .i64 0, .int .i64 0, .int .i64 0] 25)) := hi1
  replace hr0 : BlkL (w.heap.size + 1) (ptr3 ⟨0, 0, 0⟩) ((w.alloc (.cells #[.int .i64 i.o, .int .i64 (k : Int), .int .i64 i.n] 42)).alloc (.cells #[.int .i64 0, .int .i64 0, .int .i64 0] 25)) := hr0
  replace hX1 : XAt bx c v r ((w.alloc (.cells #[.int .i64 i.o, .int .i64 (k : Int), .int .i64 i.n] 42)).alloc (.cells #[.int .i64 0, .int .i64 0, .int .i64 0] 25)) := hX1
  replace hB1 : Below w.heap.size w ((w.alloc (.cells #[.int .i64 i.o, .int .i64 (k : Int), .int .i64 i.n] 42)).alloc (.cells #[.int .i64 0, .int .i64 0, .int .i64 0] 25)) := hB1
  clear hi0 hB0 hsw hb hX hmp hv hi hpo o0 o1 p0 p1 n0 n1 hc hk hp
  have j1 : (k : Int) < 4 := by omega
  have j2 : ¬ (k : Int) < 0 := by omega
  go_enter Try.func22, Try.ntmps22
  go_upto_region 1 with fail
  generalize (w.alloc (.cells #[.int .i64 i.o, .int .i64 (k : Int), .int .i64 i.n] 42)).alloc (.cells #[.int .i64 0, .int .i64 0, .int .i64 0] 25) = Z at *
  have q1 := (hi1.1 1 _ rfl).1
  have hpt := hX1.ptr hk4
  rw [hpp] at hpt
  have hb1 := hi1.2
  have hb2 := hX1.lt
  have hS0 := (Below.refl Z.heap.size Z).drew
  refine wp_region_held_drew (S := (fun W => Below Z.heap.size Z W)) (by kernel_rfl) (by exact hS0) ?_
  intro hHeld
  generalize Z.drew = w0 at *
  obtain ⟨W2, hW2, hth2, hp2, hb22⟩ := put_new w0 (ptr3 ⟨0, 0, 0⟩).toArray 25 (ptr3 p) rfl (by show 0 < 3; decide)
  have hS1 := Below.then hS0 (alloc_below w0 (.cells (ptr3 ⟨0, 0, 0⟩).toArray 25))
  have hS2 := Below.then hS0 hb22
  refine wpAnyH_take (i := 0) (v := ?_) (by simp only [gA, gB, gC]; rfl) (by kernel_rfl) (by kernel_rfl) (by kernel_rfl) (by exact fun _ _ _ h => h) (Or.inl ⟨by rfl, ?_⟩) (by assumption) ?_; rotate_left; (focus (intro w hSw; (try dsimp only at hSw); go_simp; try with_reducible rfl)); (try simp only [Act.put, sA, sB, sC])
  refine wpAnyH_take (i := 1) (v := ?_) (by simp only [gA, gB, gC]; rfl) (by kernel_rfl) (by kernel_rfl) (by kernel_rfl) (by exact fun _ _ _ h => h) (Or.inl ⟨by rfl, ?_⟩) (by assumption) ?_; rotate_left; (focus (intro w hSw; (try dsimp only at hSw); go_simp; try with_reducible rfl)); (try simp only [Act.put, sA, sB, sC])
  refine wpAnyH_take (i := 2) (v := _) (by simp only [gA, gB, gC]; rfl) (by kernel_rfl) (by kernel_rfl) (by kernel_rfl) (by exact fun _ _ _ h => h) (yields_cellI (by rfl) _ rfl ⟨w.heap.size, 1, none⟩ rfl (.int .i64 (k : Int)) (fun _ q => (q.cell (p := ⟨w.heap.size, 1, none⟩) hb1).trans q1) intI_load) (by assumption) ?_; (try simp only [Act.put, sA, sB, sC])
  refine wpAnyH_take (i := 3) (v := ?_) (by simp only [gA, gB, gC]; rfl) (by kernel_rfl) (by kernel_rfl) (by kernel_rfl) (by exact fun _ _ _ h => h) (Or.inl ⟨by rfl, ?_⟩) (by assumption) ?_; rotate_left; (focus (intro w hSw; (try dsimp only at hSw); go_simp; try with_reducible rfl)); (try simp only [Act.put, sA, sB, sC])
  refine wpAnyH_take (i := 4) (v := ?_) (by simp only [gA, gB, gC]; rfl) (by kernel_rfl) (by kernel_rfl) (by kernel_rfl) (by exact fun _ _ _ h => h) (Or.inl ⟨by rfl, ?_⟩) (by assumption) ?_; rotate_left; (focus (intro w hSw; (try dsimp only at hSw); go_simp; try with_reducible rfl)); (try simp only [Act.put, sA, sB, sC])
  refine wpAnyH_take (i := 5) (v := ?_) (by simp only [gA, gB, gC]; rfl) (by kernel_rfl) (by kernel_rfl) (by kernel_rfl) (by exact fun _ _ _ h => h) (Or.inl ⟨by rfl, ?_⟩) (by assumption) ?_; rotate_left; (focus (intro w hSw; (try dsimp only at hSw); go_simp; try with_reducible rfl)); (try simp only [Act.put, sA, sB, sC])
  refine wpAnyH_take (i := 6) (v := ?_) (by simp only [gA, gB, gC]; rfl) (by kernel_rfl) (by kernel_rfl) (by kernel_rfl) (by exact fun _ _ _ h => h) (Or.inl ⟨by rfl, ?_⟩) (by assumption) ?_; rotate_left; (focus (intro w hSw; (try dsimp only at hSw); go_simp; try with_reducible rfl)); (try simp only [Act.put, sA, sB, sC])
  refine wpAnyH_take (i := 7) (v := _) (by simp only [gA, gB, gC]; rfl) (by kernel_rfl) (by kernel_rfl) (by kernel_rfl) (by exact fun _ _ _ h => h) (yieldsIf_load_mid (by rfl) 25 _ rfl bx (4 + k * 3) rfl (ptr3 p) _ (fun _ q j u hu => (q.cell (p := ⟨bx, 4 + k * 3 + j, none⟩) hb2).trans (hpt j u hu)) hundP rfl hszP) (by assumption) ?_; (try simp only [Act.put, sA, sB, sC])
  refine wpAnyH_ready (rs := [8]) (by kernel_rfl) (by simp) ?_
  refine AllReadyH.cons (by simp only [gA, gB, gC]; rfl) (fun K hK => ?_) AllReadyH.nil
  refine step_allocC (z := #[.int .i64 0, .int .i64 0, .int .i64 0]) rfl rfl (fun _ => rfl) ?_
  (try simp only [Act.put, sA, sB, sC])
  refine hK.out _ _ (hS1) ?_
  clear hHeld hK
  intro hHeld
  (try simp only [Act.put, sA, sB, sC])
  refine wpAnyH_ready (rs := [9]) (by kernel_rfl) (by simp) ?_
  refine AllReadyH.cons (by simp only [gA, gB, gC]; rfl) (fun K hK => ?_) AllReadyH.nil
  refine step_store_rowC rfl _ _ rfl w0.heap.size rfl (ptr3 p) rfl hth2 hszP (ptr3J_one _) hW2 ?_
  (try simp only [Act.put, sA, sB, sC])
  refine hK.out _ _ (hS2) ?_
  clear hHeld hK
  intro hHeld
  (try simp only [Act.put, sA, sB, sC])
  refine wpAnyH_done (by kernel_rfl) ?_ _
  have hX2 := hX1.keep hS2
  have hi2 := stab_blk _ _ _ _ hi1 hS2
  have hr2 := stab_blk _ _ _ _ hr0 hS2
  have hB2 := Below.then hB1 hS2
  have hz0 := hS0.size
  have hr02 := hr0.2
  have hdr := (Below.refl W2.heap.size W2).drew
  have hX3 := hX2.keep hdr
  have hi3 := stab_blk _ _ _ _ hi2 hdr
  have hp3 := stab_blk _ _ _ _ hp2 hdr
  have hr3 := stab_blk _ _ _ _ hr2 hdr
  have hB3 := Below.then hB2 hdr
  obtain ⟨W7, hW7, hth7, hb7, hk7⟩ := put_any hr3 (ds := ptr3 ⟨p.s, o, R⟩) rfl (by show 0 < 3; decide)
  have hB7 := hk7 _ _ (Nat.le_succ _) hB3
  have hfar : ∀ q, q ≠ w.heap.size + 1 → W7.heap[q]? = W2.drew.heap[q]? := fun q hq => by rw [← hW7]; exact heap_setCells_other hq _ _ _
  have hM7 : SM bx w.heap.size w0.heap.size c v r ⟨i.o, (k : Int), i.n⟩ p W7 := by
    have hs7 : W2.drew.heap.size ≤ W7.heap.size := (hk7 0 W2.drew (Nat.zero_le _) (Below.refl _ _)).size
    exact ⟨hX3.same (hfar _ (by omega)) hs7, ⟨hi3.1.same (hfar _ (by omega)), Nat.lt_of_lt_of_le hi3.2 hs7⟩, ⟨hp3.1.same (hfar _ (by omega)), Nat.lt_of_lt_of_le hp3.2 hs7⟩⟩
  have hM0 : SM bx w.heap.size w0.heap.size c v r ⟨i.o, (k : Int), i.n⟩ p W2.drew := ⟨hX3, hi3, hp3⟩
  clear hX3 hi3 hp3 hr3 hdr hX2 hi2 hp2 hr2 hB2 hB3 hS2 hS1 hb22 hS0 hpt q1 hX1 hi1 hr0 hfar hk7
  go_upto_region 2 with fail
  refine wp_region_held_drew (S := (SM bx w.heap.size w0.heap.size c v r ⟨i.o, (k : Int), i.n⟩ p)) (by kernel_rfl) (by exact hM0) ?_
  intro hHeld
  generalize W2.drew = w3 at *
  refine wpAnyH_take (i := 0) (v := ?_) (by simp only [gA, gB, gC]; rfl) (by kernel_rfl) (by kernel_rfl) (by kernel_rfl) (by exact fun _ _ _ h => h) (Or.inl ⟨by rfl, ?_⟩) (by assumption) ?_; rotate_left; (focus (intro w hSw; (try dsimp only at hSw); go_simp; try with_reducible rfl)); (try simp only [Act.put, sA, sB, sC])
  refine wpAnyH_take (i := 1) (v := _) (by simp only [gA, gB, gC]; rfl) (by kernel_rfl) (by kernel_rfl) (by kernel_rfl) (by exact fun _ _ _ h => h) (yields_cellI (by rfl) _ rfl ⟨w0.heap.size, 0, none⟩ rfl (.int .i64 p.s) (fun _ q => (q.p.1 0 _ rfl).1) intI_load) (by assumption) ?_; (try simp only [Act.put, sA, sB, sC])
  refine wpAnyH_take (i := 2) (v := ?_) (by simp only [gA, gB, gC]; rfl) (by kernel_rfl) (by kernel_rfl) (by kernel_rfl) (by exact fun _ _ _ h => h) (Or.inl ⟨by rfl, ?_⟩) (by assumption) ?_; rotate_left; (focus (intro w hSw; (try dsimp only at hSw); go_simp; try with_reducible rfl)); (try simp only [Act.put, sA, sB, sC])
  refine wpAnyH_take (i := 3) (v := _) (by simp only [gA, gB, gC]; rfl) (by kernel_rfl) (by kernel_rfl) (by kernel_rfl) (by exact fun _ _ _ h => h) (yields_cellI (by rfl) _ rfl ⟨w0.heap.size, 1, none⟩ rfl (.int .i64 p.f) (fun _ q => (q.p.1 1 _ rfl).1) intI_load) (by assumption) ?_; (try simp only [Act.put, sA, sB, sC])
  refine wpAnyH_take (i := 4) (v := ?_) (by simp only [gA, gB, gC]; rfl) (by kernel_rfl) (by kernel_rfl) (by kernel_rfl) (by exact fun _ _ _ h => h) (Or.inl ⟨by rfl, ?_⟩) (by assumption) ?_; rotate_left; (focus (intro w hSw; (try dsimp only at hSw); go_simp; try with_reducible rfl)); (try simp only [Act.put, sA, sB, sC])
  refine wpAnyH_take (i := 5) (v := _) (by simp only [gA, gB, gC]; rfl) (by kernel_rfl) (by kernel_rfl) (by kernel_rfl) (by exact fun _ _ _ h => h) (yields_cellI (by rfl) _ rfl ⟨w.heap.size, 2, none⟩ rfl (.int .i64 i.n) (fun _ q => (q.i.1 2 _ rfl).1) intI_load) (by assumption) ?_; (try simp only [Act.put, sA, sB, sC])
  refine wpAnyH_take (i := 6) (v := ?_) (by simp only [gA, gB, gC]; rfl) (by kernel_rfl) (by kernel_rfl) (by kernel_rfl) (by exact fun _ _ _ h => h) (Or.inl ⟨by rfl, ?_⟩) (by assumption) ?_; rotate_left; (focus (intro w hSw; (try dsimp only at hSw); go_simp; try with_reducible rfl)); (try simp only [Act.put, sA, sB, sC])
  refine wpAnyH_take (i := 7) (v := ?_) (by simp only [gA, gB, gC]; rfl) (by kernel_rfl) (by kernel_rfl) (by kernel_rfl) (by exact fun _ _ _ h => h) (Or.inl ⟨by rfl, ?_⟩) (by assumption) ?_; rotate_left; (focus (intro w hSw; (try dsimp only at hSw); go_simp; try with_reducible rfl)); (try simp only [Act.put, sA, sB, sC])
  refine wpAnyH_take (i := 8) (v := ?_) (by simp only [gA, gB, gC]; rfl) (by kernel_rfl) (by kernel_rfl) (by kernel_rfl) (by exact fun _ _ _ h => h) (Or.inl ⟨by rfl, ?_⟩) (by assumption) ?_; rotate_left; (focus (intro w hSw; (try dsimp only at hSw); go_simp; try with_reducible rfl)); (try simp only [Act.put, sA, sB, sC])
  refine wpAnyH_take (i := 9) (v := ?_) (by simp only [gA, gB, gC]; rfl) (by kernel_rfl) (by kernel_rfl) (by kernel_rfl) (by exact fun _ _ _ h => h) (Or.inl ⟨by rfl, ?_⟩) (by assumption) ?_; rotate_left; (focus (intro w hSw; (try dsimp only at hSw); go_simp; try with_reducible rfl)); (try simp only [Act.put, sA, sB, sC])
  refine wpAnyH_take (i := 10) (v := ?_) (by simp only [gA, gB, gC]; rfl) (by kernel_rfl) (by kernel_rfl) (by kernel_rfl) (by exact fun _ _ _ h => h) (Or.inl ⟨by rfl, ?_⟩) (by assumption) ?_; rotate_left; (focus (intro w hSw; (try dsimp only at hSw); go_simp; try with_reducible rfl)); (try simp only [Act.put, sA, sB, sC])
  refine wpAnyH_take (i := 11) (v := _) (by simp only [gA, gB, gC]; rfl) (by kernel_rfl) (by kernel_rfl) (by kernel_rfl) (by exact fun _ _ _ h => h) (yields_cellI (by rfl) _ rfl ⟨bx, 2, none⟩ rfl (.int .i64 c.ring) (fun _ q => q.x.ring) intI_load) (by assumption) ?_; (try simp only [Act.put, sA, sB, sC])
  refine wpAnyH_take (i := 12) (v := ?_) (by simp only [gA, gB, gC]; rfl) (by kernel_rfl) (by kernel_rfl) (by kernel_rfl) (by exact fun _ _ _ h => h) (Or.inl ⟨by rfl, ?_⟩) (by assumption) ?_; rotate_left; (focus (intro w hSw; (try dsimp only at hSw); go_simp; try with_reducible rfl)); (try simp only [Act.put, sA, sB, sC])
  refine wpAnyH_take (i := 13) (v := _) (by simp only [gA, gB, gC]; rfl) (by kernel_rfl) (by kernel_rfl) (by kernel_rfl) (by exact fun _ _ _ h => h) (yields_cellI (by rfl) _ rfl ⟨w0.heap.size, 2, none⟩ rfl (.int .i64 p.r) (fun _ q => (q.p.1 2 _ rfl).1) intI_load) (by assumption) ?_; (try simp only [Act.put, sA, sB, sC])
  refine wpAnyH_take (i := 14) (v := ?_) (by simp only [gA, gB, gC]; rfl) (by kernel_rfl) (by kernel_rfl) (by kernel_rfl) (by exact fun _ _ _ h => h) (Or.inl ⟨by rfl, ?_⟩) (by assumption) ?_; rotate_left; (focus (intro w hSw; (try dsimp only at hSw); go_simp; try with_reducible rfl)); (try simp only [Act.put, sA, sB, sC])
  refine wpAnyH_take (i := 15) (v := ?_) (by simp only [gA, gB, gC]; rfl) (by kernel_rfl) (by kernel_rfl) (by kernel_rfl) (by exact fun _ _ _ h => h) (Or.inl ⟨by rfl, ?_⟩) (by assumption) ?_; rotate_left; (focus (intro w hSw; (try dsimp only at hSw); go_simp; try with_reducible rfl)); (try simp only [Act.put, sA, sB, sC])
  refine wpAnyH_ready (rs := [16]) (by kernel_rfl) (by simp) ?_
  refine AllReadyH.cons (by simp only [gA, gB, gC]; rfl) (fun K hK => ?_) AllReadyH.nil
  refine step_store_rowC rfl _ _ rfl (w.heap.size + 1) rfl (ptr3 ⟨p.s, o, R⟩) (by simp [Act.eval, how, hgm]) hth7 hszP (ptr3J_one _) hW7 ?_
  (try simp only [Act.put, sA, sB, sC])
  refine hK.out _ _ (hM7) ?_
  clear hHeld hK
  intro hHeld
  (try simp only [Act.put, sA, sB, sC])
  refine wpAnyH_done (by kernel_rfl) ?_ _
  go_wp2_with fail
  refine bodyPost_ret (v := .agg (ptr3 ⟨p.s, o, R⟩).toArray) (results_row1 rfl _ _ (w.heap.size + 1) rfl (ptr3 ⟨p.s, o, R⟩) hb7.range hundP rfl hszP) rfl ?_
  exact ⟨rfl, hB7⟩
end Go.Proofs.Ytinibccphecdfab

/-! PACKAGE cpu AS IT LANDED: read. Written by mk_cpufnd.py. -/
namespace Go.Proofs.Ytinibccphecdfab
open Go.RowKit
set_option maxRecDepth 8000
set_option linter.unusedSimpArgs false
set_option linter.unusedVariables false

def rdG (g : Sg) (q : Ptr) : Int := if g.is = false then 35 else if hasM g.md 1 = false ∨ mayR g.rg q.r = false then 31 else if ¬ inG g q.f then 35 else 0
theorem rdE_eq (c : Cp) (m : List Sg) (i : Ins) : rdE c m i = rdG (kn m (memP c i).s) (memP c i) := rfl
theorem rdW_eq (c : Cp) (m : List Sg) (i : Ins) : rdW c m i = wAt (kn m (memP c i).s) (memP c i).f := rfl
theorem fld_rg {b : Nat} {g : Sg} {u : Value} {W : World} (h : BlkL b (sg6 g u) W) : W.rangeAt b 2 (rg4 g.rg) := fun j z hz => by
  match j, hz with
  | 0, hz => exact (h.1 2 z hz).1
  | 1, hz => exact (h.1 3 z hz).1
  | 2, hz => exact (h.1 4 z hz).1
  | 3, hz => exact (h.1 5 z hz).1
  | j + 4, hz => simp at hz
/-- What read's last region keeps. -/
structure SR (bq bg : Nat) (q : Ptr) (G : List Value) (W : World) : Prop where
  q : BlkL bq (ptr3 q) W
  g : BlkL bg G W
theorem SR.keep {bq bg : Nat} {q : Ptr} {G : List Value} {W W' : World} (h : SR bq bg q G W) (hb : Below W.heap.size W W') : SR bq bg q G W' := ⟨stab_blk _ _ _ _ h.q hb, stab_blk _ _ _ _ h.g hb⟩
theorem rg4_one (x : Rg) : ∀ u ∈ rg4 x, u.oneCell' = true := fun u hu => by
  simp [rg4] at hu
  rcases hu with rfl | rfl | rfl | rfl <;> rfl
theorem results_cell_row {fn : Func} {p q : Tmp} {T : TypeId} {d : TypeDesc} (h : fn.results = #[.tmp p, .cell q T]) (tmps : Array Value) (w : World) (v : Value) (hv : tmps.getD p undef = v) (g : Nat) (hq : tmps.getD q undef = .pointer (some ⟨g, 0, none⟩)) (cs : List Value) (hr : w.rangeAt g 0 cs)
    (hu : Try.prog.underlying T = some d) (hd : d.isRow = true) (hi : (Try.prog.info? T).map (·.size) = some cs.length) :
    (results fn tmps).run Try.prog w = .ok (.tuple #[v, .agg cs.toArray]) w := by
  have hp' : tmps[q]?.getD undef = .pointer (some ⟨g, 0, none⟩) := by simpa using hq
  have hv' : tmps[p]?.getD undef = v := by simpa using hv
  have e := run_loadVar_mid (P := Try.prog) w g 0 T cs d hr hu hd hi
  simp [results, h, hp', hv', asAddr, e]
set_option maxRecDepth 8000 in
set_option maxHeartbeats 4000000 in
theorem cread_any (bm bx : Nat) (a : Option Addr) (cap : Nat) (m : List PG) (hm : MG m) (c : Cp) (v : Value) (r : List Value) (q : Ptr) (g : Sg) (hg : kn (m.map (·.g)) q.s = g) (E : Int) (hE : rdG g q = E) (w : World) (hM : MAt bm a cap m w) (hX : XAt bx c v (memI bm :: r) w) :
    Calls Try.prog 21 #[.pointer (some ⟨bx, 0, none⟩), .agg (ptr3 q).toArray] w fun e w' => e = (if E = 0 then .returned (.tuple #[.int .i64 (wAt g q.f), .agg (rg4 g.rg).toArray]) else .panicked (thr E)) ∧ Below w.heap.size w w' := by
  have hundC := Try.underlying81
  have hszC : (Try.prog.info? 81).map (·.size) = some 6 := by kernel_rfl
  have hundR := Try.underlying37
  have hszR : (Try.prog.info? 37).map (·.size) = some 4 := by kernel_rfl
  have hq0 := blkl_alloc w (ptr3 q).toArray 25
  have hB0 := alloc_below w (.cells (ptr3 q).toArray 25)
  have hsw : (w.alloc (.cells (ptr3 q).toArray 25)).heap.size = w.heap.size + 1 := by simp
  have hr0 := blkl_alloc (w.alloc (.cells (ptr3 q).toArray 25)) (rg4 ⟨0, 0, 0, 0⟩).toArray 37
  have hb := alloc_below (w.alloc (.cells (ptr3 q).toArray 25)) (.cells (rg4 ⟨0, 0, 0, 0⟩).toArray 37)
  rw [hsw] at hr0
  have hX1 := (hX.keep hB0).keep hb
  have hM1 := (hM.below hB0).below hb
  have hq1 := stab_blk _ _ _ _ hq0 hb
  have hB1 := Below.then hB0 hb
  replace hq1 : BlkL w.heap.size (ptr3 q) ((w.alloc (.cells #[.int .i64 q.s, .int .i64 q.f, .int .i64 q.r] 25)).alloc (.cells #[.int .i64 0, .int .i64 0, .int .i64 0, .int .i64 0] 37)) := hq1
  replace hr0 : BlkL (w.heap.size + 1) (rg4 ⟨0, 0, 0, 0⟩) ((w.alloc (.cells #[.int .i64 q.s, .int .i64 q.f, .int .i64 q.r] 25)).alloc (.cells #[.int .i64 0, .int .i64 0, .int .i64 0, .int .i64 0] 37)) := hr0
  replace hX1 : XAt bx c v (memI bm :: r) ((w.alloc (.cells #[.int .i64 q.s, .int .i64 q.f, .int .i64 q.r] 25)).alloc (.cells #[.int .i64 0, .int .i64 0, .int .i64 0, .int .i64 0] 37)) := hX1
  replace hM1 : MAt bm a cap m ((w.alloc (.cells #[.int .i64 q.s, .int .i64 q.f, .int .i64 q.r] 25)).alloc (.cells #[.int .i64 0, .int .i64 0, .int .i64 0, .int .i64 0] 37)) := hM1
  replace hB1 : Below w.heap.size w ((w.alloc (.cells #[.int .i64 q.s, .int .i64 q.f, .int .i64 q.r] 25)).alloc (.cells #[.int .i64 0, .int .i64 0, .int .i64 0, .int .i64 0] 37)) := hB1
  clear hq0 hB0 hsw hb hX hM
  have kn0 := fun (W : World) h1 h2 => cseg_none bm bx a cap m hm c v r q.s W h1 h2
  have kn1 := fun (W : World) h1 h2 => cseg_some bm bx a cap m hm c v r q.s W h1 h2
  rw [hg] at kn0 kn1
  by_cases c1 : g.is = false
  · have hEE : (if E = 0 then Ending.returned (.tuple #[.int .i64 (wAt g q.f), .agg (rg4 g.rg).toArray]) else .panicked (thr E)) = .panicked (thr 35) := by
      have e : E = 35 := by rw [← hE, rdG, if_pos c1]
      rw [e]; rfl
    rw [hEE]
    clear hE hEE kn1 hg
    go_enter Try.func21, Try.ntmps21
    go_upto_region 1 with fail
    generalize (w.alloc (.cells #[.int .i64 q.s, .int .i64 q.f, .int .i64 q.r] 25)).alloc (.cells #[.int .i64 0, .int .i64 0, .int .i64 0, .int .i64 0] 37) = W0 at *
    have z0 := (hq1.1 0 _ rfl).1
    go_wp2_with fail
    refine (kn0 W0 hM1 hX1 c1).mono ?_
    rintro e W1 ⟨rfl, hb⟩
    go_wp2_with fail
    exact diedC ⟨rfl, Below.then hB1 hb⟩
  have c1' : g.is = true := by simpa using c1
  obtain ⟨e2, he2⟩ : ∃ e2, (if E = 0 then Ending.returned (.tuple #[.int .i64 (wAt g q.f), .agg (rg4 g.rg).toArray]) else .panicked (thr E)) = e2 := ⟨_, rfl⟩
  rw [he2]
  replace he2 : Aside ((if E = 0 then Ending.returned (.tuple #[.int .i64 (wAt g q.f), .agg (rg4 g.rg).toArray]) else .panicked (thr E)) = e2) := he2
  replace hE : Aside (rdG g q = E) := hE
  clear kn0 hg
  go_enter Try.func21, Try.ntmps21
  go_upto_region 1 with fail
  generalize (w.alloc (.cells #[.int .i64 q.s, .int .i64 q.f, .int .i64 q.r] 25)).alloc (.cells #[.int .i64 0, .int .i64 0, .int .i64 0, .int .i64 0] 37) = W0 at *
  have z0 := (hq1.1 0 _ rfl).1
  go_wp2_with fail
  refine (kn1 W0 hM1 hX1 c1').mono ?_
  rintro e W1 ⟨u, rfl, ho, hb⟩
  obtain ⟨W2, hW2, hth2, hg2, hB2⟩ := new_sg W1 g u
  obtain ⟨ua, uc, hu, -, -, hrow⟩ := ho.slice wd_okC.len
  have hq2 := stab_blk _ _ _ _ (stab_blk _ _ _ _ hq1 hb) hB2
  have hr2 := stab_blk _ _ _ _ (stab_blk _ _ _ _ hr0 hb) hB2
  have hBB := Below.then (Below.then hB1 hb) hB2
  have hrow2 := hrow.below wd_okC.len hB2
  have hl1 := hr0.2
  have hl2 := hb.size
  subst hu
  have hone := sg6_one g ua g.ws.length uc
  have hrx := hg2.range
  have hrgx := fld_rg hg2
  have ka := fun (W : World) => allows_any g (.slice ua g.ws.length uc) 1 W
  have kw0 := fun (W : World) h => cword_no g ua uc q.f W h
  have kw1 := fun (W : World) h1 h2 => cword_ok g ua uc q.f W h1 h2
  obtain ⟨X, hXe⟩ : ∃ X, sg6 g (.slice ua g.ws.length uc) = X := ⟨_, rfl⟩
  have hl : X.length = 6 := by rw [← hXe]; rfl
  have hszX : (Try.prog.info? 81).map (·.size) = some X.length := by rw [hl]; exact hszC
  have hfr : ∀ W b, BlkL b X W → W.rangeAt b 2 (rg4 g.rg) := fun W b h => by rw [← hXe] at h; exact fld_rg h
  simp only [hXe] at hW2 hth2 hg2 hone hrx ka kw0 kw1
  have hXv : Aside (.agg (sg6 g (.slice ua g.ws.length uc)).toArray = Value.agg X.toArray) := by rw [hXe]; exact rfl
  clear hXe hl ho hrow hb hB2 hq1 hr0 hB1 z0 kn1 hM1 hX1 hm
  go_upto_region 2 with (first | (refine wpList_store_row rfl _ _ rfl W1.heap.size rfl X hXv.out hth2 hszX hone hW2 ?_) | fail)
  clear hW2 hth2 hXv
  have hl3 := hg2.2
  generalize W1.heap.size = bg at *
  have z2 := (hq2.1 2 _ rfl).1
  cases c2 : hasM g.md 1 with
  | false =>
    have hEE : Aside (e2 = .panicked (thr 31)) := by
      have e : E = 31 := by rw [← hE.out, rdG, if_neg c1, if_pos (.inl c2)]
      show e2 = _
      rw [← he2.out, e]; rfl
    rw [c2] at ka
    clear hE he2 c2 kw0 kw1 hrgx z2
    go_wp2_with (first | (refine wpList_load_row rfl _ rfl bg rfl X hrx hundC rfl hszX ?_) | fail)
    refine (ka W2).mono ?_
    rintro e W3 ⟨rfl, hb⟩
    go_wp2_with fail
    refine (need_no 31 W3).mono ?_
    rintro e W4 ⟨rfl, rfl⟩
    go_wp2_with fail
    exact diedC ⟨hEE.out.symm, Below.then hBB hb⟩
  | true =>
  rw [c2] at ka
  go_wp2_with (first | (refine wpList_load_row rfl _ rfl bg rfl X hrx hundC rfl hszX ?_) | fail)
  refine (ka W2).mono ?_
  rintro e W3 ⟨rfl, hb⟩
  replace hq2 := stab_blk _ _ _ _ hq2 hb
  replace hr2 := stab_blk _ _ _ _ hr2 hb
  replace hg2 := stab_blk _ _ _ _ hg2 hb
  replace hBB := Below.then hBB hb
  replace hrow2 := hrow2.below wd_okC.len hb
  replace z2 := (hq2.1 2 _ rfl).1
  replace hrgx := hfr _ _ hg2
  replace hrx := hg2.range
  have hb8 : g.rg.v = .agg (rg4 g.rg).toArray := rfl
  have kx := fun (W : World) => mayRead_any g.rg q.r W
  rw [hb8] at kx
  clear hb ka hb8
  go_wp2_with (first | (refine wpList_load_midg (by rfl) _ rfl bg 2 rfl (rg4 g.rg) hrgx hundR rfl hszR ?_) | fail)
  refine (kx W3).mono ?_
  rintro e W4 ⟨rfl, hb⟩
  replace hq2 := stab_blk _ _ _ _ hq2 hb
  replace hr2 := stab_blk _ _ _ _ hr2 hb
  replace hg2 := stab_blk _ _ _ _ hg2 hb
  replace hBB := Below.then hBB hb
  replace hrow2 := hrow2.below wd_okC.len hb
  clear hb kx z2 hrgx hrx
  cases c3 : mayR g.rg q.r with
  | false =>
    have hEE : Aside (e2 = .panicked (thr 31)) := by
      have e : E = 31 := by rw [← hE.out, rdG, if_neg c1, if_pos (.inr c3)]
      show e2 = _
      rw [← he2.out, e]; rfl
    clear hE he2 c2 kw0 kw1 c3
    go_wp2_with fail
    refine (need_no 31 W4).mono ?_
    rintro e W5 ⟨rfl, rfl⟩
    go_wp2_with fail
    exact diedC ⟨hEE.out.symm, hBB⟩
  | true =>
  have hE2 : Aside (E = if ¬ inG g q.f then 35 else 0) := by
    show _ = _
    rw [← hE.out, rdG, if_neg c1, if_neg (by rw [c3, c2]; simp)]
  clear hE c1 c2 c1' c3
  go_wp2_with fail
  refine (need_ok 31 W4).mono ?_
  rintro e W5 ⟨rfl, rfl⟩
  go_upto_region 3 with fail
  have hdr := (Below.refl W5.heap.size W5).drew
  have hS0 : SR w.heap.size bg q X W5.drew := ⟨stab_blk _ _ _ _ hq2 hdr, stab_blk _ _ _ _ hg2 hdr⟩
  have hB0 := Below.then hBB hdr
  have hrow0 := hrow2.below wd_okC.len hdr
  have hr0 := stab_blk _ _ _ _ hr2 hdr
  clear hq2 hr2 hg2 hBB hrow2 hdr
  by_cases c5 : inG g q.f
  rotate_left
  · have hEE : Aside (e2 = .panicked (thr 35)) := by
      have e : E = 35 := by rw [hE2.out, if_pos c5]
      show e2 = _
      rw [← he2.out, e]; rfl
    clear hE2 he2 kw1
    refine wp_region_held_drew (S := (SR w.heap.size bg q X)) (by kernel_rfl) (by exact hS0) ?_
    intro hHeld
    generalize W5.drew = w0 at *
    refine wpAnyH_take (i := 0) (v := _) (by simp only [gA, gB, gC]; rfl) (by kernel_rfl) (by kernel_rfl) (by kernel_rfl) (by exact fun _ _ _ h => h) (yields_row (by rfl) _ rfl bg rfl X (fun _ s => s.g.range) hundC rfl hszX) (by assumption) ?_; (try simp only [Act.put, sA, sB, sC])
    refine wpAnyH_take (i := 1) (v := ?_) (by simp only [gA, gB, gC]; rfl) (by kernel_rfl) (by kernel_rfl) (by kernel_rfl) (by exact fun _ _ _ h => h) (Or.inl ⟨by rfl, ?_⟩) (by assumption) ?_; rotate_left; (focus (intro w hSw; (try dsimp only at hSw); go_simp; try with_reducible rfl)); (try simp only [Act.put, sA, sB, sC])
    refine wpAnyH_take (i := 2) (v := _) (by simp only [gA, gB, gC]; rfl) (by kernel_rfl) (by kernel_rfl) (by kernel_rfl) (by exact fun _ _ _ h => h) (yields_cellI (by rfl) _ rfl ⟨w.heap.size, 1, none⟩ rfl (.int .i64 q.f) (fun _ s => (s.q.1 1 _ rfl).1) intI_load) (by assumption) ?_; (try simp only [Act.put, sA, sB, sC])
    refine wpAnyH_take (i := 4) (v := ?_) (by simp only [gA, gB, gC]; rfl) (by kernel_rfl) (by kernel_rfl) (by kernel_rfl) (by exact fun _ _ _ h => h) (Or.inl ⟨by rfl, ?_⟩) (by assumption) ?_; rotate_left; (focus (intro w hSw; (try dsimp only at hSw); go_simp; try with_reducible rfl)); (try simp only [Act.put, sA, sB, sC])
    refine wpAnyH_take (i := 5) (v := _) (by simp only [gA, gB, gC]; rfl) (by kernel_rfl) (by kernel_rfl) (by kernel_rfl) (by exact fun _ _ _ h => h) (yieldsIf_load_mid (by rfl) 37 _ rfl bg 2 rfl (rg4 g.rg) _ (fun W s => hfr W bg s.g) hundR rfl hszR) (by assumption) ?_; (try simp only [Act.put, sA, sB, sC])
    refine wpAnyH_ready (rs := [3]) (by kernel_rfl) (by simp) ?_
    refine AllReadyH.cons (by simp only [gA, gB, gC]; rfl) (fun K hK => ?_) AllReadyH.nil
    go_simp
    go_at_call 38
    refine (kw0 w0 c5).mono ?_
    rintro e w1 ⟨rfl, hb⟩
    exact (show _ ∧ _ from ⟨rfl, hEE.out.symm, Below.then hB0 hb⟩)
  have hEE : Aside (e2 = .returned (.tuple #[.int .i64 (wAt g q.f), .agg (rg4 g.rg).toArray])) := by
    have e : E = 0 := by rw [hE2.out, if_neg (by simpa using c5)]
    show e2 = _
    rw [← he2.out, e]; rfl
  clear hE2 he2 kw0
  refine wp_region_held_drew (S := (SR w.heap.size bg q X)) (by kernel_rfl) (by exact hS0) ?_
  intro hHeld
  generalize W5.drew = w0 at *
  refine wpAnyH_take (i := 0) (v := _) (by simp only [gA, gB, gC]; rfl) (by kernel_rfl) (by kernel_rfl) (by kernel_rfl) (by exact fun _ _ _ h => h) (yields_row (by rfl) _ rfl bg rfl X (fun _ s => s.g.range) hundC rfl hszX) (by assumption) ?_; (try simp only [Act.put, sA, sB, sC])
  refine wpAnyH_take (i := 1) (v := ?_) (by simp only [gA, gB, gC]; rfl) (by kernel_rfl) (by kernel_rfl) (by kernel_rfl) (by exact fun _ _ _ h => h) (Or.inl ⟨by rfl, ?_⟩) (by assumption) ?_; rotate_left; (focus (intro w hSw; (try dsimp only at hSw); go_simp; try with_reducible rfl)); (try simp only [Act.put, sA, sB, sC])
  refine wpAnyH_take (i := 2) (v := _) (by simp only [gA, gB, gC]; rfl) (by kernel_rfl) (by kernel_rfl) (by kernel_rfl) (by exact fun _ _ _ h => h) (yields_cellI (by rfl) _ rfl ⟨w.heap.size, 1, none⟩ rfl (.int .i64 q.f) (fun _ s => (s.q.1 1 _ rfl).1) intI_load) (by assumption) ?_; (try simp only [Act.put, sA, sB, sC])
  refine wpAnyH_take (i := 4) (v := ?_) (by simp only [gA, gB, gC]; rfl) (by kernel_rfl) (by kernel_rfl) (by kernel_rfl) (by exact fun _ _ _ h => h) (Or.inl ⟨by rfl, ?_⟩) (by assumption) ?_; rotate_left; (focus (intro w hSw; (try dsimp only at hSw); go_simp; try with_reducible rfl)); (try simp only [Act.put, sA, sB, sC])
  refine wpAnyH_take (i := 5) (v := _) (by simp only [gA, gB, gC]; rfl) (by kernel_rfl) (by kernel_rfl) (by kernel_rfl) (by exact fun _ _ _ h => h) (yieldsIf_load_mid (by rfl) 37 _ rfl bg 2 rfl (rg4 g.rg) _ (fun W s => hfr W bg s.g) hundR rfl hszR) (by assumption) ?_; (try simp only [Act.put, sA, sB, sC])
  refine wpAnyH_ready (rs := [3]) (by kernel_rfl) (by simp) ?_
  refine AllReadyH.cons (by simp only [gA, gB, gC]; rfl) (fun K hK => ?_) AllReadyH.nil
  go_simp
  go_at_call 38
  refine (kw1 w0 c5 hrow0).mono ?_
  rintro e w1 ⟨rfl, hb⟩
  have hS1 := hS0.keep hb
  have hr1 := stab_blk _ _ _ _ hr0 hb
  have hB1 := Below.then hB0 hb
  clear hS0 hr0 hB0 hrow0 hb kw1
  refine hK.out _ _ (hS1) ?_
  clear hHeld hK
  intro hHeld
  generalize wAt g q.f = wd at *
  (try simp only [Act.put, sA, sB, sC])
  refine wpAnyH_take (i := 6) (v := ?_) (by simp only [gA, gB, gC]; rfl) (by kernel_rfl) (by kernel_rfl) (by kernel_rfl) (by exact fun _ _ _ h => h) (Or.inl ⟨by rfl, ?_⟩) (by assumption) ?_; rotate_left; (focus (intro w hSw; (try dsimp only at hSw); go_simp; try with_reducible rfl)); (try simp only [Act.put, sA, sB, sC])
  refine wpAnyH_ready (rs := [7]) (by kernel_rfl) (by simp) ?_
  refine AllReadyH.cons (by simp only [gA, gB, gC]; rfl) (fun K hK => ?_) AllReadyH.nil
  obtain ⟨W7, hW7, hth7, hb7, hk7⟩ := put_any hr1 (ds := rg4 g.rg) rfl (by show 0 < 4; decide)
  have hB7 := hk7 _ _ (Nat.le_succ _) hB1
  have hfar : ∀ j, j ≠ w.heap.size + 1 → W7.heap[j]? = w1.heap[j]? := fun j hj => by rw [← hW7]; exact heap_setCells_other hj _ _ _
  have hs7 : w1.heap.size ≤ W7.heap.size := (hk7 0 w1 (Nat.zero_le _) (Below.refl _ _)).size
  have hS7 : SR w.heap.size bg q X W7 := ⟨⟨hS1.q.1.same (hfar _ (by omega)), Nat.lt_of_lt_of_le hS1.q.2 hs7⟩, ⟨hS1.g.1.same (hfar _ (by omega)), Nat.lt_of_lt_of_le hS1.g.2 hs7⟩⟩
  refine step_store_rowC rfl _ _ rfl (w.heap.size + 1) rfl (rg4 g.rg) rfl hth7 hszR (rg4_one _) hW7 ?_
  (try simp only [Act.put, sA, sB, sC])
  refine hK.out _ _ (hS7) ?_
  clear hHeld hK
  intro hHeld
  (try simp only [Act.put, sA, sB, sC])
  refine wpAnyH_done (by kernel_rfl) ?_ _
  go_wp2_with fail
  refine bodyPost_ret (v := .tuple #[.int .i64 wd, .agg (rg4 g.rg).toArray]) (results_cell_row rfl _ _ (.int .i64 wd) rfl (w.heap.size + 1) rfl (rg4 g.rg) hb7.range hundR rfl hszR) rfl ?_
  exact ⟨hEE.out.symm, hB7⟩
end Go.Proofs.Ytinibccphecdfab

/-! PACKAGE cpu AS IT LANDED: write. Written by mk_cpufne.py. -/
namespace Go.Proofs.Ytinibccphecdfab
open Go.RowKit
set_option maxRecDepth 8000
set_option linter.unusedSimpArgs false
set_option linter.unusedVariables false

def wrG (g : Sg) (q : Ptr) : Int := if g.is = false then 35 else if hasM g.md 2 = false ∨ mayW g.rg q.r = false then 32 else if ¬ inG g q.f then 35 else 0
theorem wrE_eq (c : Cp) (m : List Sg) (i : Ins) : wrE c m i = wrG (kn m (memP c i).s) (memP c i) := rfl
/-- What a write comes to: a fault, or a word that is noted. -/
def WrP (bm : Nat) (sl : Value) (n : Int) (q : Ptr) (A E : Int) (w : World) (e : Ending) (w' : World) : Prop :=
  (E ≠ 0 ∧ e = .panicked (thr E) ∧ Below w.heap.size w w') ∨ (E = 0 ∧ (∃ r, e = .returned r) ∧ BlkL bm (memCs sl true q.s q.f A (n + 1)) w' ∧ Sole bm w w')
/-- What write's last region keeps. -/
structure SW (bq bx : Nat) (q : Ptr) (A : Int) (M : Value) (W : World) : Prop where
  q : BlkL bq (ptr3 q) W
  a : W.cell? ⟨bx, 3, none⟩ = some (.int .i64 A)
  m : W.cell? ⟨bx, 18, none⟩ = some M
theorem int64_load (w : World) (y : Addr) (v : Value) (h : w.cell? y = some v) : (Instr.loadAt 2 (.pointer (some y))).run Try.prog w = .ok v w := by
  have h1 := Try.underlying2
  go_simp
theorem memI_load (w : World) (y : Addr) (v : Value) (h : w.cell? y = some v) : (Instr.loadAt 60 (.pointer (some y))).run Try.prog w = .ok v w := by
  have h1 := Try.underlying60
  go_simp
theorem finds_wr (p : Addr) (w : World) : Sem.run Try.prog (method 224 34 (.pointer (some p)) "Write") w = .ok (83, .pointer (some p)) w := by rfl
theorem enters_wr (args : Array Value) (w : World) : Sem.run Try.prog (callFunc 83 args) w = .ok (.enter 83 args) w := by rfl
set_option maxRecDepth 8000 in
set_option maxHeartbeats 4000000 in
theorem cwrite_any (bm bx : Nat) (a : Option Addr) (cap : Nat) (m : List PG) (hm : MG m) (c : Cp) (v : Value) (r : List Value) (q : Ptr) (g : Sg) (hg : kn (m.map (·.g)) q.s = g) (E : Int) (hE : wrG g q = E) (is : Bool) (s o x n : Int) (hn : 0 ≤ n ∧ n < 1000000) (w : World) (hN : BlkL bm (memCs (.slice a m.length cap) is s o x n) w) (hR : RowG w a m) (hX : XAt bx c v (memI bm :: r) w) (hne : bx ≠ bm) :
    Calls Try.prog 23 #[.pointer (some ⟨bx, 0, none⟩), .agg (ptr3 q).toArray] w (WrP bm (.slice a m.length cap) n q c.a E w) := by
  have hundC := Try.underlying81
  have hszC : (Try.prog.info? 81).map (·.size) = some 6 := by kernel_rfl
  have hundR := Try.underlying37
  have hszR : (Try.prog.info? 37).map (·.size) = some 4 := by kernel_rfl
  have hq0 := blkl_alloc w (ptr3 q).toArray 25
  have hB0 := alloc_below w (.cells (ptr3 q).toArray 25)
  have hM : MAt bm a cap m w := ⟨(hN.1 0 _ rfl).1, hR⟩
  have hX1 := hX.keep hB0
  have hM1 := hM.below hB0
  have hq1 := hq0
  have hB1 := hB0
  replace hq1 : BlkL w.heap.size (ptr3 q) (w.alloc (.cells #[.int .i64 q.s, .int .i64 q.f, .int .i64 q.r] 25)) := hq1
  have hN1 : BlkL bm (memCs (.slice a m.length cap) is s o x n) (w.alloc (.cells #[.int .i64 q.s, .int .i64 q.f, .int .i64 q.r] 25)) := stab_blk _ _ _ _ hN hB0
  replace hX1 : XAt bx c v (memI bm :: r) (w.alloc (.cells #[.int .i64 q.s, .int .i64 q.f, .int .i64 q.r] 25)) := hX1
  replace hM1 : MAt bm a cap m (w.alloc (.cells #[.int .i64 q.s, .int .i64 q.f, .int .i64 q.r] 25)) := hM1
  replace hB1 : Below w.heap.size w (w.alloc (.cells #[.int .i64 q.s, .int .i64 q.f, .int .i64 q.r] 25)) := hB1
  have hbm := hN.2
  have hbx := hX.lt
  clear hq0 hB0 hX hM hN hR
  have kn0 := fun (W : World) h1 h2 => cseg_none bm bx a cap m hm c v r q.s W h1 h2
  have kn1 := fun (W : World) h1 h2 => cseg_some bm bx a cap m hm c v r q.s W h1 h2
  rw [hg] at kn0 kn1
  by_cases c1 : g.is = false
  · have e35 : E = 35 := by rw [← hE, wrG, if_pos c1]
    subst e35
    replace hE : Aside (wrG g q = 35) := hE
    clear kn1 hg
    go_enter Try.func23, Try.ntmps23
    go_upto_region 1 with fail
    generalize w.alloc (.cells #[.int .i64 q.s, .int .i64 q.f, .int .i64 q.r] 25) = W0 at *
    have z0 := (hq1.1 0 _ rfl).1
    go_wp2_with fail
    refine (kn0 W0 hM1 hX1 c1).mono ?_
    rintro e W1 ⟨rfl, hb⟩
    go_wp2_with fail
    exact diedC (.inl ⟨by decide, rfl, Below.then hB1 hb⟩)
  have c1' : g.is = true := by simpa using c1
  replace hE : Aside (wrG g q = E) := hE
  clear kn0 hg
  go_enter Try.func23, Try.ntmps23
  go_upto_region 1 with fail
  generalize w.alloc (.cells #[.int .i64 q.s, .int .i64 q.f, .int .i64 q.r] 25) = W0 at *
  have z0 := (hq1.1 0 _ rfl).1
  go_wp2_with fail
  refine (kn1 W0 hM1 hX1 c1').mono ?_
  rintro e W1 ⟨u, rfl, ho, hb⟩
  obtain ⟨W2, hW2, hth2, hg2, hB2⟩ := new_sg W1 g u
  obtain ⟨ua, uc, hu, -, -, hrow⟩ := ho.slice wd_okC.len
  have hq2 := stab_blk _ _ _ _ (stab_blk _ _ _ _ hq1 hb) hB2
  have hN2 := stab_blk _ _ _ _ (stab_blk _ _ _ _ hN1 hb) hB2
  have hX2 := (hX1.keep hb).keep hB2
  have hBB := Below.then (Below.then hB1 hb) hB2
  have hrow2 := hrow.below wd_okC.len hB2
  have hl2 := hb.size
  subst hu
  have hone := sg6_one g ua g.ws.length uc
  have hrx := hg2.range
  have hrgx := fld_rg hg2
  have ka := fun (W : World) => allows_any g (.slice ua g.ws.length uc) 2 W
  have kh := fun (W : World) => has_any g ua uc q.f W
  obtain ⟨X, hXe⟩ : ∃ X, sg6 g (.slice ua g.ws.length uc) = X := ⟨_, rfl⟩
  have hl : X.length = 6 := by rw [← hXe]; rfl
  have hszX : (Try.prog.info? 81).map (·.size) = some X.length := by rw [hl]; exact hszC
  have hfr : ∀ W b, BlkL b X W → W.rangeAt b 2 (rg4 g.rg) := fun W b h => by rw [← hXe] at h; exact fld_rg h
  simp only [hXe] at hW2 hth2 hg2 hone hrx ka kh
  have hXv : Aside (.agg (sg6 g (.slice ua g.ws.length uc)).toArray = Value.agg X.toArray) := by rw [hXe]; exact rfl
  clear hXe hl ho hrow hb hB2 hq1 hN1 hB1 z0 kn1 hM1 hX1 hm
  go_upto_region 2 with (first | (refine wpList_store_row rfl _ _ rfl W1.heap.size rfl X hXv.out hth2 hszX hone hW2 ?_) | fail)
  clear hW2 hth2 hXv
  have hl3 := hg2.2
  generalize W1.heap.size = bg at *
  have z2 := (hq2.1 2 _ rfl).1
  cases c2 : hasM g.md 2 with
  | false =>
    have hEE : Aside (E = 32) := by
      show _ = _
      rw [← hE.out, wrG, if_neg c1, if_pos (.inl c2)]
    rw [c2] at ka
    clear hE c2 kh hrgx z2
    go_wp2_with (first | (refine wpList_load_row rfl _ rfl bg rfl X hrx hundC rfl hszX ?_) | fail)
    refine (ka W2).mono ?_
    rintro e W3 ⟨rfl, hb⟩
    go_wp2_with fail
    refine (need_no 32 W3).mono ?_
    rintro e W4 ⟨rfl, rfl⟩
    go_wp2_with fail
    exact diedC (.inl ⟨by rw [hEE.out]; decide, by rw [hEE.out], Below.then hBB hb⟩)
  | true =>
  rw [c2] at ka
  go_wp2_with (first | (refine wpList_load_row rfl _ rfl bg rfl X hrx hundC rfl hszX ?_) | fail)
  refine (ka W2).mono ?_
  rintro e W3 ⟨rfl, hb⟩
  replace hq2 := stab_blk _ _ _ _ hq2 hb
  replace hN2 := stab_blk _ _ _ _ hN2 hb
  replace hX2 := hX2.keep hb
  replace hg2 := stab_blk _ _ _ _ hg2 hb
  replace hBB := Below.then hBB hb
  replace hrow2 := hrow2.below wd_okC.len hb
  replace z2 := (hq2.1 2 _ rfl).1
  replace hrgx := hfr _ _ hg2
  replace hrx := hg2.range
  have hb8 : g.rg.v = .agg (rg4 g.rg).toArray := rfl
  have kx := fun (W : World) => mayWrite_any g.rg q.r W
  rw [hb8] at kx
  clear hb ka hb8
  go_wp2_with (first | (refine wpList_load_midg (by rfl) _ rfl bg 2 rfl (rg4 g.rg) hrgx hundR rfl hszR ?_) | fail)
  refine (kx W3).mono ?_
  rintro e W4 ⟨rfl, hb⟩
  replace hq2 := stab_blk _ _ _ _ hq2 hb
  replace hN2 := stab_blk _ _ _ _ hN2 hb
  replace hX2 := hX2.keep hb
  replace hg2 := stab_blk _ _ _ _ hg2 hb
  replace hBB := Below.then hBB hb
  replace hrow2 := hrow2.below wd_okC.len hb
  clear hb kx z2 hrgx hrx
  cases c3 : mayW g.rg q.r with
  | false =>
    have hEE : Aside (E = 32) := by
      show _ = _
      rw [← hE.out, wrG, if_neg c1, if_pos (.inr c3)]
    clear hE c2 kh c3
    go_wp2_with fail
    refine (need_no 32 W4).mono ?_
    rintro e W5 ⟨rfl, rfl⟩
    go_wp2_with fail
    exact diedC (.inl ⟨by rw [hEE.out]; decide, by rw [hEE.out], hBB⟩)
  | true =>
  have hE2 : Aside (E = if ¬ inG g q.f then 35 else 0) := by
    show _ = _
    rw [← hE.out, wrG, if_neg c1, if_neg (by rw [c3, c2]; simp)]
  clear hE c1 c2 c1' c3
  go_wp2_with fail
  refine (need_ok 32 W4).mono ?_
  rintro e W5 ⟨rfl, rfl⟩
  have hrx := hg2.range
  cases c5 : decide (inG g q.f) with
  | false =>
    rw [c5] at kh
    have hEE : Aside (E = 35) := by
      show _ = _
      rw [hE2.out, if_pos (by simpa using c5)]
    clear hE2 c5
    have z1 := (hq2.1 1 _ rfl).1
    go_wp2_with (first | (refine wpList_load_row rfl _ rfl bg rfl X hrx hundC rfl hszX ?_) | fail)
    refine (kh W5).mono ?_
    rintro e W6 ⟨rfl, hb⟩
    go_wp2_with fail
    refine (need_no 35 W6).mono ?_
    rintro e W7 ⟨rfl, rfl⟩
    go_wp2_with fail
    exact diedC (.inl ⟨by rw [hEE.out]; decide, by rw [hEE.out], Below.then hBB hb⟩)
  | true =>
  rw [c5] at kh
  have hEE : Aside (E = 0) := by
    show _ = _
    rw [hE2.out, if_neg (by simpa using c5)]
  clear hE2 c5
  have z1 := (hq2.1 1 _ rfl).1
  go_wp2_with (first | (refine wpList_load_row rfl _ rfl bg rfl X hrx hundC rfl hszX ?_) | fail)
  refine (kh W5).mono ?_
  rintro e W6 ⟨rfl, hb⟩
  have hq3 := stab_blk _ _ _ _ hq2 hb
  have hN3 := stab_blk _ _ _ _ hN2 hb
  have hX3 := hX2.keep hb
  have hB3 := Below.then hBB hb
  clear hq2 hN2 hX2 hBB hb z1 kh hrx hg2 hrow2
  go_wp2_with fail
  refine (need_ok 35 W6).mono ?_
  rintro e W7 ⟨rfl, rfl⟩
  go_upto_region 4 with fail
  have hf := finds_wr ⟨bm, 0, none⟩
  have he := enters_wr
  have hdr := (Below.refl W7.heap.size W7).drew
  have hq4 := stab_blk _ _ _ _ hq3 hdr
  have hN4 := stab_blk _ _ _ _ hN3 hdr
  have hX4 := hX3.keep hdr
  have hB4 := Below.then hB3 hdr
  have hS0 : SW w.heap.size bx q c.a (memI bm) W7.drew := ⟨hq4, hX4.a, (hX4.tails (i := 0) rfl).1⟩
  clear hq3 hN3 hX3 hB3 hdr hX4
  refine wp_region_held_drew (S := (SW w.heap.size bx q c.a (memI bm))) (by kernel_rfl) (by exact hS0) ?_
  intro hHeld
  generalize W7.drew = w0 at *
  refine wpAnyH_take (i := 0) (v := ?_) (by simp only [gA, gB, gC]; rfl) (by kernel_rfl) (by kernel_rfl) (by kernel_rfl) (by exact fun _ _ _ h => h) (Or.inl ⟨by rfl, ?_⟩) (by assumption) ?_; rotate_left; (focus (intro w hSw; (try dsimp only at hSw); go_simp; try with_reducible rfl)); (try simp only [Act.put, sA, sB, sC])
  refine wpAnyH_take (i := 1) (v := ?_) (by simp only [gA, gB, gC]; rfl) (by kernel_rfl) (by kernel_rfl) (by kernel_rfl) (by exact fun _ _ _ h => h) (Or.inl ⟨by rfl, ?_⟩) (by assumption) ?_; rotate_left; (focus (intro w hSw; (try dsimp only at hSw); go_simp; try with_reducible rfl)); (try simp only [Act.put, sA, sB, sC])
  refine wpAnyH_take (i := 2) (v := ?_) (by simp only [gA, gB, gC]; rfl) (by kernel_rfl) (by kernel_rfl) (by kernel_rfl) (by exact fun _ _ _ h => h) (Or.inl ⟨by rfl, ?_⟩) (by assumption) ?_; rotate_left; (focus (intro w hSw; (try dsimp only at hSw); go_simp; try with_reducible rfl)); (try simp only [Act.put, sA, sB, sC])
  refine wpAnyH_take (i := 3) (v := _) (by simp only [gA, gB, gC]; rfl) (by kernel_rfl) (by kernel_rfl) (by kernel_rfl) (by exact fun _ _ _ h => h) (yields_cellI (by rfl) _ rfl ⟨bx, 18, none⟩ rfl (memI bm) (fun _ s => s.m) memI_load) (by assumption) ?_; (try simp only [Act.put, sA, sB, sC])
  refine wpAnyH_take (i := 4) (v := ?_) (by simp only [gA, gB, gC]; rfl) (by kernel_rfl) (by kernel_rfl) (by kernel_rfl) (by exact fun _ _ _ h => h) (Or.inl ⟨by rfl, ?_⟩) (by assumption) ?_; rotate_left; (focus (intro w hSw; (try dsimp only at hSw); go_simp; try with_reducible rfl)); (try simp only [Act.put, sA, sB, sC])
  refine wpAnyH_take (i := 5) (v := _) (by simp only [gA, gB, gC]; rfl) (by kernel_rfl) (by kernel_rfl) (by kernel_rfl) (by exact fun _ _ _ h => h) (yields_cellI (by rfl) _ rfl ⟨w.heap.size, 0, none⟩ rfl (.int .i64 q.s) (fun _ s => (s.q.1 0 _ rfl).1) intI_load) (by assumption) ?_; (try simp only [Act.put, sA, sB, sC])
  refine wpAnyH_take (i := 6) (v := ?_) (by simp only [gA, gB, gC]; rfl) (by kernel_rfl) (by kernel_rfl) (by kernel_rfl) (by exact fun _ _ _ h => h) (Or.inl ⟨by rfl, ?_⟩) (by assumption) ?_; rotate_left; (focus (intro w hSw; (try dsimp only at hSw); go_simp; try with_reducible rfl)); (try simp only [Act.put, sA, sB, sC])
  refine wpAnyH_take (i := 7) (v := _) (by simp only [gA, gB, gC]; rfl) (by kernel_rfl) (by kernel_rfl) (by kernel_rfl) (by exact fun _ _ _ h => h) (yields_cellI (by rfl) _ rfl ⟨w.heap.size, 1, none⟩ rfl (.int .i64 q.f) (fun _ s => (s.q.1 1 _ rfl).1) intI_load) (by assumption) ?_; (try simp only [Act.put, sA, sB, sC])
  refine wpAnyH_take (i := 8) (v := ?_) (by simp only [gA, gB, gC]; rfl) (by kernel_rfl) (by kernel_rfl) (by kernel_rfl) (by exact fun _ _ _ h => h) (Or.inl ⟨by rfl, ?_⟩) (by assumption) ?_; rotate_left; (focus (intro w hSw; (try dsimp only at hSw); go_simp; try with_reducible rfl)); (try simp only [Act.put, sA, sB, sC])
  refine wpAnyH_take (i := 9) (v := ?_) (by simp only [gA, gB, gC]; rfl) (by kernel_rfl) (by kernel_rfl) (by kernel_rfl) (by exact fun _ _ _ h => h) (Or.inl ⟨by rfl, ?_⟩) (by assumption) ?_; rotate_left; (focus (intro w hSw; (try dsimp only at hSw); go_simp; try with_reducible rfl)); (try simp only [Act.put, sA, sB, sC])
  refine wpAnyH_take (i := 10) (v := ?_) (by simp only [gA, gB, gC]; rfl) (by kernel_rfl) (by kernel_rfl) (by kernel_rfl) (by exact fun _ _ _ h => h) (Or.inl ⟨by rfl, ?_⟩) (by assumption) ?_; rotate_left; (focus (intro w hSw; (try dsimp only at hSw); go_simp; try with_reducible rfl)); (try simp only [Act.put, sA, sB, sC])
  refine wpAnyH_take (i := 11) (v := ?_) (by simp only [gA, gB, gC]; rfl) (by kernel_rfl) (by kernel_rfl) (by kernel_rfl) (by exact fun _ _ _ h => h) (Or.inl ⟨by rfl, ?_⟩) (by assumption) ?_; rotate_left; (focus (intro w hSw; (try dsimp only at hSw); go_simp; try with_reducible rfl)); (try simp only [Act.put, sA, sB, sC])
  refine wpAnyH_take (i := 12) (v := _) (by simp only [gA, gB, gC]; rfl) (by kernel_rfl) (by kernel_rfl) (by kernel_rfl) (by exact fun _ _ _ h => h) (yields_cellI (by rfl) _ rfl ⟨bx, 3, none⟩ rfl (.int .i64 c.a) (fun _ s => s.a) int64_load) (by assumption) ?_; (try simp only [Act.put, sA, sB, sC])
  refine wpAnyH_take (i := 13) (v := ?_) (by simp only [gA, gB, gC]; rfl) (by kernel_rfl) (by kernel_rfl) (by kernel_rfl) (by exact fun _ _ _ h => h) (Or.inl ⟨by rfl, ?_⟩) (by assumption) ?_; rotate_left; (focus (intro w hSw; (try dsimp only at hSw); go_simp; try with_reducible rfl)); (try simp only [Act.put, sA, sB, sC])
  refine wpAnyH_take (i := 14) (v := ?_) (by simp only [gA, gB, gC]; rfl) (by kernel_rfl) (by kernel_rfl) (by kernel_rfl) (by exact fun _ _ _ h => h) (Or.inl ⟨by rfl, ?_⟩) (by assumption) ?_; rotate_left; (focus (intro w hSw; (try dsimp only at hSw); go_simp; try with_reducible rfl)); (try simp only [Act.put, sA, sB, sC])
  refine wpAnyH_ready (rs := [15]) (by kernel_rfl) (by simp) ?_
  refine AllReadyH.cons (by simp only [gA, gB, gC]; rfl) (fun K hK => ?_) AllReadyH.nil
  go_simp
  refine (mwr_any bm (.slice a m.length cap) is s o x n q.s q.f c.a hn w0 hN4).mono ?_
  rintro e w1 ⟨⟨rr, rfl⟩, hn1, hot, hbl⟩
  have hk0 := hbl 0 w0 (Nat.zero_le _) (Below.refl _ _)
  have hO1 : Sole bm w w1 := ⟨hk0.os.trans hB4.os, hk0.tape.trans hB4.tape, hk0.output.trans hB4.output, Nat.le_trans hB4.size hk0.size, fun j hj hjn => (hot j hjn).trans (hB4.block j hj)⟩
  have hS1 : SW w.heap.size bx q c.a (memI bm) w1 := ⟨⟨hq4.1.same (hot _ (by omega)), Nat.lt_of_lt_of_le hq4.2 (hbl 0 w0 (Nat.zero_le _) (Below.refl _ _)).size⟩, (World.cell?_of_block (a := ⟨bx, 3, none⟩) (hot bx hne)).trans hS0.a, (World.cell?_of_block (a := ⟨bx, 18, none⟩) (hot bx hne)).trans hS0.m⟩
  refine hK.out _ _ (hS1) ?_
  clear hHeld hK
  intro hHeld
  (try simp only [Act.put, sA, sB, sC])
  refine wpAnyH_done (by kernel_rfl) ?_ _
  go_wp2_with fail
  refine bodyPost_end (v := .tuple #[]) (by simp [results, Try.results23, go_sem]) rfl ?_
  exact .inr ⟨hEE.out, ⟨_, rfl⟩, hn1, hO1⟩
end Go.Proofs.Ytinibccphecdfab

/-! PACKAGE isa AS IT LANDED: words' parts (put, get, mask), check, Encode, Decode, pointers. -/
namespace Go.Proofs.Ytinibccphecdfab
open Go.RowKit
set_option maxRecDepth 8000
set_option linter.unusedSimpArgs false
set_option linter.unusedVariables false

theorem mask3_any (w : World) : Calls Try.prog 64 #[.int .u64 3] w fun e w' => e = .returned (.int .u64 7) ∧ w' = w := by
  go_enter Try.func64, Try.ntmps64
  go_wp2
  go_ret
  exact ⟨rfl, rfl⟩
theorem mask8_any (w : World) : Calls Try.prog 64 #[.int .u64 8] w fun e w' => e = .returned (.int .u64 255) ∧ w' = w := by
  go_enter Try.func64, Try.ntmps64
  go_wp2
  go_ret
  exact ⟨rfl, rfl⟩
theorem mask16_any (w : World) : Calls Try.prog 64 #[.int .u64 16] w fun e w' => e = .returned (.int .u64 65535) ∧ w' = w := by
  go_enter Try.func64, Try.ntmps64
  go_wp2
  go_ret
  exact ⟨rfl, rfl⟩
theorem mask32_any (w : World) : Calls Try.prog 64 #[.int .u64 32] w fun e w' => e = .returned (.int .u64 4294967295) ∧ w' = w := by
  go_enter Try.func64, Try.ntmps64
  go_wp2
  go_ret
  exact ⟨rfl, rfl⟩
set_option maxHeartbeats 1000000 in
theorem put56_8 (n : Int) (h0 : 0 ≤ n) (h1 : n ≤ 22) (w : World) : Calls Try.prog 54 #[.int .i64 n, .int .u64 56, .int .u64 8] w fun e w' => e = .returned (.int .i64 (n * 72057594037927936)) ∧ Below w.heap.size w w' := by
  obtain ⟨u, hu⟩ : ∃ u, IntKind.u64.wrap n = u := ⟨_, rfl⟩
  obtain ⟨m, hm⟩ : ∃ m, u % 256 = m := ⟨_, rfl⟩
  have hA : bits .and .u64 u 255 = m := by rw [and_u64 8 (by decide) 256 255 (by decide) (by decide), hm]
  have hn : n % 256 = m := by rw [← hm, ← hu, IntKind.wrap_u64]; omega
  have hb : IntKind.u64.wrap (m * 72057594037927936) = m * 72057594037927936 := by rw [IntKind.wrap_u64]; omega
  have hc : IntKind.i64.wrap (m * 72057594037927936) = m * 72057594037927936 := by rw [IntKind.wrap_i64]; omega
  have hr : Aside ((n * 72057594037927936) = m * 72057594037927936) := by show _ = _; omega
  clear hm hn
  go_enter Try.func54, Try.ntmps54
  go_wp2_with (first | (go_at_call 64; refine (mask8_any _).mono ?_; rintro e w' ⟨rfl, rfl⟩) | fail)
  go_ret
  exact ⟨by rw [hr.out]; rfl, Below.refl _ _⟩
set_option maxHeartbeats 1000000 in
theorem put48_8 (n : Int) (w : World) : Calls Try.prog 54 #[.int .i64 n, .int .u64 48, .int .u64 8] w fun e w' => e = .returned (.int .i64 (n % 256 * 281474976710656)) ∧ Below w.heap.size w w' := by
  obtain ⟨u, hu⟩ : ∃ u, IntKind.u64.wrap n = u := ⟨_, rfl⟩
  obtain ⟨m, hm⟩ : ∃ m, u % 256 = m := ⟨_, rfl⟩
  have hA : bits .and .u64 u 255 = m := by rw [and_u64 8 (by decide) 256 255 (by decide) (by decide), hm]
  have hn : n % 256 = m := by rw [← hm, ← hu, IntKind.wrap_u64]; omega
  have hb : IntKind.u64.wrap (m * 281474976710656) = m * 281474976710656 := by rw [IntKind.wrap_u64]; omega
  have hc : IntKind.i64.wrap (m * 281474976710656) = m * 281474976710656 := by rw [IntKind.wrap_i64]; omega
  have hr : Aside ((n % 256 * 281474976710656) = m * 281474976710656) := by show _ = _; omega
  clear hm hn
  go_enter Try.func54, Try.ntmps54
  go_wp2_with (first | (go_at_call 64; refine (mask8_any _).mono ?_; rintro e w' ⟨rfl, rfl⟩) | fail)
  go_ret
  exact ⟨by rw [hr.out]; rfl, Below.refl _ _⟩
set_option maxHeartbeats 1000000 in
theorem put0_32 (n : Int) (w : World) : Calls Try.prog 54 #[.int .i64 n, .int .u64 0, .int .u64 32] w fun e w' => e = .returned (.int .i64 (n % 4294967296)) ∧ Below w.heap.size w w' := by
  obtain ⟨u, hu⟩ : ∃ u, IntKind.u64.wrap n = u := ⟨_, rfl⟩
  obtain ⟨m, hm⟩ : ∃ m, u % 4294967296 = m := ⟨_, rfl⟩
  have hA : bits .and .u64 u 4294967295 = m := by rw [and_u64 32 (by decide) 4294967296 4294967295 (by decide) (by decide), hm]
  have hn : n % 4294967296 = m := by rw [← hm, ← hu, IntKind.wrap_u64]; omega
  have hb : IntKind.u64.wrap (m) = m := by rw [IntKind.wrap_u64]; omega
  have hc : IntKind.i64.wrap (m) = m := by rw [IntKind.wrap_i64]; omega
  have hr : Aside ((n % 4294967296) = m) := by show _ = _; omega
  clear hm hn
  go_enter Try.func54, Try.ntmps54
  go_wp2_with (first | (go_at_call 64; refine (mask32_any _).mono ?_; rintro e w' ⟨rfl, rfl⟩) | fail)
  go_ret
  exact ⟨by rw [hr.out]; rfl, Below.refl _ _⟩
set_option maxHeartbeats 1000000 in
theorem put48_3 (n : Int) (w : World) : Calls Try.prog 54 #[.int .i64 n, .int .u64 48, .int .u64 3] w fun e w' => e = .returned (.int .i64 (n % 8 * 281474976710656)) ∧ Below w.heap.size w w' := by
  obtain ⟨u, hu⟩ : ∃ u, IntKind.u64.wrap n = u := ⟨_, rfl⟩
  obtain ⟨m, hm⟩ : ∃ m, u % 8 = m := ⟨_, rfl⟩
  have hA : bits .and .u64 u 7 = m := by rw [and_u64 3 (by decide) 8 7 (by decide) (by decide), hm]
  have hn : n % 8 = m := by rw [← hm, ← hu, IntKind.wrap_u64]; omega
  have hb : IntKind.u64.wrap (m * 281474976710656) = m * 281474976710656 := by rw [IntKind.wrap_u64]; omega
  have hc : IntKind.i64.wrap (m * 281474976710656) = m * 281474976710656 := by rw [IntKind.wrap_i64]; omega
  have hr : Aside ((n % 8 * 281474976710656) = m * 281474976710656) := by show _ = _; omega
  clear hm hn
  go_enter Try.func54, Try.ntmps54
  go_wp2_with (first | (go_at_call 64; refine (mask3_any _).mono ?_; rintro e w' ⟨rfl, rfl⟩) | fail)
  go_ret
  exact ⟨by rw [hr.out]; rfl, Below.refl _ _⟩
set_option maxHeartbeats 1000000 in
theorem put32_16 (n : Int) (w : World) : Calls Try.prog 54 #[.int .i64 n, .int .u64 32, .int .u64 16] w fun e w' => e = .returned (.int .i64 (n % 65536 * 4294967296)) ∧ Below w.heap.size w w' := by
  obtain ⟨u, hu⟩ : ∃ u, IntKind.u64.wrap n = u := ⟨_, rfl⟩
  obtain ⟨m, hm⟩ : ∃ m, u % 65536 = m := ⟨_, rfl⟩
  have hA : bits .and .u64 u 65535 = m := by rw [and_u64 16 (by decide) 65536 65535 (by decide) (by decide), hm]
  have hn : n % 65536 = m := by rw [← hm, ← hu, IntKind.wrap_u64]; omega
  have hb : IntKind.u64.wrap (m * 4294967296) = m * 4294967296 := by rw [IntKind.wrap_u64]; omega
  have hc : IntKind.i64.wrap (m * 4294967296) = m * 4294967296 := by rw [IntKind.wrap_i64]; omega
  have hr : Aside ((n % 65536 * 4294967296) = m * 4294967296) := by show _ = _; omega
  clear hm hn
  go_enter Try.func54, Try.ntmps54
  go_wp2_with (first | (go_at_call 64; refine (mask16_any _).mono ?_; rintro e w' ⟨rfl, rfl⟩) | fail)
  go_ret
  exact ⟨by rw [hr.out]; rfl, Below.refl _ _⟩
set_option maxHeartbeats 1000000 in
theorem get56_8 (x : Int) (w : World) : Calls Try.prog 59 #[.int .i64 x, .int .u64 56, .int .u64 8] w fun e w' => e = .returned (.int .i64 (wOp x)) ∧ w' = w := by
  obtain ⟨u, hu⟩ : ∃ u, IntKind.u64.wrap x = u := ⟨_, rfl⟩
  have hu' : u64 x = u := by rw [← hu, IntKind.wrap_u64]; rfl
  have u0 : 0 ≤ u ∧ u < 18446744073709551616 := by rw [← hu']; unfold u64; omega
  obtain ⟨m, hm⟩ : ∃ m, (u / 72057594037927936) % 256 = m := ⟨_, rfl⟩
  have hA : bits .and .u64 (u / 72057594037927936) 255 = m := by rw [and_u64 8 (by decide) 256 255 (by decide) (by decide), hm]
  have hc : IntKind.i64.wrap m = m := by rw [IntKind.wrap_i64]; omega
  have hr : Aside (wOp x = m) := by show _ = _; rw [← hm]; (try unfold wOp); (try unfold wP); (try unfold wLow); (try unfold wMid); rw [hu']; (try omega)
  clear hm hu' u0
  go_enter Try.func59, Try.ntmps59
  go_wp2_with (first | (go_at_call 64; refine (mask8_any _).mono ?_; rintro e w' ⟨rfl, rfl⟩) | fail)
  go_ret
  exact ⟨by rw [hr.out]; rfl, rfl⟩
set_option maxHeartbeats 1000000 in
theorem get48_8 (x : Int) (w : World) : Calls Try.prog 59 #[.int .i64 x, .int .u64 48, .int .u64 8] w fun e w' => e = .returned (.int .i64 (wP x)) ∧ w' = w := by
  obtain ⟨u, hu⟩ : ∃ u, IntKind.u64.wrap x = u := ⟨_, rfl⟩
  have hu' : u64 x = u := by rw [← hu, IntKind.wrap_u64]; rfl
  have u0 : 0 ≤ u ∧ u < 18446744073709551616 := by rw [← hu']; unfold u64; omega
  obtain ⟨m, hm⟩ : ∃ m, (u / 281474976710656) % 256 = m := ⟨_, rfl⟩
  have hA : bits .and .u64 (u / 281474976710656) 255 = m := by rw [and_u64 8 (by decide) 256 255 (by decide) (by decide), hm]
  have hc : IntKind.i64.wrap m = m := by rw [IntKind.wrap_i64]; omega
  have hr : Aside (wP x = m) := by show _ = _; rw [← hm]; (try unfold wOp); (try unfold wP); (try unfold wLow); (try unfold wMid); rw [hu']; (try omega)
  clear hm hu' u0
  go_enter Try.func59, Try.ntmps59
  go_wp2_with (first | (go_at_call 64; refine (mask8_any _).mono ?_; rintro e w' ⟨rfl, rfl⟩) | fail)
  go_ret
  exact ⟨by rw [hr.out]; rfl, rfl⟩
set_option maxHeartbeats 1000000 in
theorem get0_32 (x : Int) (w : World) : Calls Try.prog 59 #[.int .i64 x, .int .u64 0, .int .u64 32] w fun e w' => e = .returned (.int .i64 (wLow x)) ∧ w' = w := by
  obtain ⟨u, hu⟩ : ∃ u, IntKind.u64.wrap x = u := ⟨_, rfl⟩
  have hu' : u64 x = u := by rw [← hu, IntKind.wrap_u64]; rfl
  have u0 : 0 ≤ u ∧ u < 18446744073709551616 := by rw [← hu']; unfold u64; omega
  obtain ⟨m, hm⟩ : ∃ m, u % 4294967296 = m := ⟨_, rfl⟩
  have hA : bits .and .u64 u 4294967295 = m := by rw [and_u64 32 (by decide) 4294967296 4294967295 (by decide) (by decide), hm]
  have hc : IntKind.i64.wrap m = m := by rw [IntKind.wrap_i64]; omega
  have hr : Aside (wLow x = m) := by show _ = _; rw [← hm]; (try unfold wOp); (try unfold wP); (try unfold wLow); (try unfold wMid); rw [hu']; (try omega)
  clear hm hu' u0
  go_enter Try.func59, Try.ntmps59
  go_wp2_with (first | (go_at_call 64; refine (mask32_any _).mono ?_; rintro e w' ⟨rfl, rfl⟩) | fail)
  go_ret
  exact ⟨by rw [hr.out]; rfl, rfl⟩
set_option maxHeartbeats 1000000 in
theorem get48_3 (x : Int) (w : World) : Calls Try.prog 59 #[.int .i64 x, .int .u64 48, .int .u64 3] w fun e w' => e = .returned (.int .i64 ((u64 x / 281474976710656 % 8))) ∧ w' = w := by
  obtain ⟨u, hu⟩ : ∃ u, IntKind.u64.wrap x = u := ⟨_, rfl⟩
  have hu' : u64 x = u := by rw [← hu, IntKind.wrap_u64]; rfl
  have u0 : 0 ≤ u ∧ u < 18446744073709551616 := by rw [← hu']; unfold u64; omega
  obtain ⟨m, hm⟩ : ∃ m, (u / 281474976710656) % 8 = m := ⟨_, rfl⟩
  have hA : bits .and .u64 (u / 281474976710656) 7 = m := by rw [and_u64 3 (by decide) 8 7 (by decide) (by decide), hm]
  have hc : IntKind.i64.wrap m = m := by rw [IntKind.wrap_i64]; omega
  have hr : Aside ((u64 x / 281474976710656 % 8) = m) := by show _ = _; rw [← hm]; (try unfold wOp); (try unfold wP); (try unfold wLow); (try unfold wMid); rw [hu']; (try omega)
  clear hm hu' u0
  go_enter Try.func59, Try.ntmps59
  go_wp2_with (first | (go_at_call 64; refine (mask3_any _).mono ?_; rintro e w' ⟨rfl, rfl⟩) | fail)
  go_ret
  exact ⟨by rw [hr.out]; rfl, rfl⟩
set_option maxHeartbeats 1000000 in
theorem get32_16 (x : Int) (w : World) : Calls Try.prog 59 #[.int .i64 x, .int .u64 32, .int .u64 16] w fun e w' => e = .returned (.int .i64 (wMid x)) ∧ w' = w := by
  obtain ⟨u, hu⟩ : ∃ u, IntKind.u64.wrap x = u := ⟨_, rfl⟩
  have hu' : u64 x = u := by rw [← hu, IntKind.wrap_u64]; rfl
  have u0 : 0 ≤ u ∧ u < 18446744073709551616 := by rw [← hu']; unfold u64; omega
  obtain ⟨m, hm⟩ : ∃ m, (u / 4294967296) % 65536 = m := ⟨_, rfl⟩
  have hA : bits .and .u64 (u / 4294967296) 65535 = m := by rw [and_u64 16 (by decide) 65536 65535 (by decide) (by decide), hm]
  have hc : IntKind.i64.wrap m = m := by rw [IntKind.wrap_i64]; omega
  have hr : Aside (wMid x = m) := by show _ = _; rw [← hm]; (try unfold wOp); (try unfold wP); (try unfold wLow); (try unfold wMid); rw [hu']; (try omega)
  clear hm hu' u0
  go_enter Try.func59, Try.ntmps59
  go_wp2_with (first | (go_at_call 64; refine (mask16_any _).mono ?_; rintro e w' ⟨rfl, rfl⟩) | fail)
  go_ret
  exact ⟨by rw [hr.out]; rfl, rfl⟩
set_option maxRecDepth 8000 in
set_option maxHeartbeats 4000000 in
theorem icheck_any (i : Ins) (w : World) : Calls Try.prog 60 #[i.v] w fun e w' => e = .returned (.int .i64 (insE i)) ∧ Below w.heap.size w w' := by
  have hb0 := blkl_alloc w (ins3 i).toArray 42
  have hB0 := alloc_below w (.cells (ins3 i).toArray 42)
  replace hb0 : BlkL w.heap.size (ins3 i) (w.alloc (.cells (ins3 i).toArray 42)) := hb0
  have z0 := (hb0.1 0 _ rfl).1
  have z1 := (hb0.1 1 _ rfl).1
  have z2 := (hb0.1 2 _ rfl).1
  clear hb0
  by_cases h0 : 0 ≤ i.o
  rotate_left
  · have hE : insE i = 3 := by
      unfold insE
      rw [if_pos (by omega)]
    have b0 : i.o < 0 := by omega
    clear h0
    replace hE : Aside (insE i = 3) := hE
    go_enter Try.func60, Try.ntmps60
    go_upto_region 1 with fail
    generalize w.alloc (.cells #[.int .i64 i.o, .int .i64 i.p, .int .i64 i.n] 42) = W0 at *
    go_wp2_with fail
    go_ret
    exact ⟨by rw [hE.out]; rfl, hB0⟩
  have g0 : ¬ i.o < 0 := by omega
  by_cases h1 : i.o ≤ 22
  rotate_left
  · have hE : insE i = 3 := by
      unfold insE
      rw [if_pos (by omega)]
    have b1 : 23 ≤ i.o := by omega
    clear h1
    replace hE : Aside (insE i = 3) := hE
    go_enter Try.func60, Try.ntmps60
    go_upto_region 1 with fail
    generalize w.alloc (.cells #[.int .i64 i.o, .int .i64 i.p, .int .i64 i.n] 42) = W0 at *
    go_wp2_with fail
    go_ret
    exact ⟨by rw [hE.out]; rfl, hB0⟩
  have g1 : ¬ 23 ≤ i.o := by omega
  by_cases h2 : 0 ≤ i.p
  rotate_left
  · have hE : insE i = 1 := by
      unfold insE
      rw [if_neg (by omega), if_pos (by omega)]
    have b2 : i.p < 0 := by omega
    clear h2
    replace hE : Aside (insE i = 1) := hE
    go_enter Try.func60, Try.ntmps60
    go_upto_region 1 with fail
    generalize w.alloc (.cells #[.int .i64 i.o, .int .i64 i.p, .int .i64 i.n] 42) = W0 at *
    go_wp2_with fail
    go_ret
    exact ⟨by rw [hE.out]; rfl, hB0⟩
  have g2 : ¬ i.p < 0 := by omega
  by_cases h3 : i.p ≤ 3
  rotate_left
  · have hE : insE i = 1 := by
      unfold insE
      rw [if_neg (by omega), if_pos (by omega)]
    have b3 : 3 < i.p := by omega
    clear h3
    replace hE : Aside (insE i = 1) := hE
    go_enter Try.func60, Try.ntmps60
    go_upto_region 1 with fail
    generalize w.alloc (.cells #[.int .i64 i.o, .int .i64 i.p, .int .i64 i.n] 42) = W0 at *
    go_wp2_with fail
    go_ret
    exact ⟨by rw [hE.out]; rfl, hB0⟩
  have g3 : ¬ 3 < i.p := by omega
  by_cases h4 : -2147483648 ≤ i.n
  rotate_left
  · have hE : insE i = 1 := by
      unfold insE
      rw [if_neg (by omega), if_pos (by omega)]
    have b4 : i.n < -2147483648 := by omega
    clear h4
    replace hE : Aside (insE i = 1) := hE
    go_enter Try.func60, Try.ntmps60
    go_upto_region 1 with fail
    generalize w.alloc (.cells #[.int .i64 i.o, .int .i64 i.p, .int .i64 i.n] 42) = W0 at *
    go_wp2_with fail
    go_ret
    exact ⟨by rw [hE.out]; rfl, hB0⟩
  have g4 : ¬ i.n < -2147483648 := by omega
  by_cases h5 : i.n ≤ 2147483647
  rotate_left
  · have hE : insE i = 1 := by
      unfold insE
      rw [if_neg (by omega), if_pos (by omega)]
    have b5 : 2147483647 < i.n := by omega
    clear h5
    replace hE : Aside (insE i = 1) := hE
    go_enter Try.func60, Try.ntmps60
    go_upto_region 1 with fail
    generalize w.alloc (.cells #[.int .i64 i.o, .int .i64 i.p, .int .i64 i.n] 42) = W0 at *
    go_wp2_with fail
    go_ret
    exact ⟨by rw [hE.out]; rfl, hB0⟩
  have g5 : ¬ 2147483647 < i.n := by omega
  have hE : insE i = 0 := insE_zero.2 ⟨⟨h0, h1⟩, h2, h3, h4, h5⟩
  replace hE : Aside (insE i = 0) := hE
  go_enter Try.func60, Try.ntmps60
  go_upto_region 1 with fail
  generalize w.alloc (.cells #[.int .i64 i.o, .int .i64 i.p, .int .i64 i.n] 42) = W0 at *
  go_wp2_with fail
  go_ret
  exact ⟨by rw [hE.out]; rfl, hB0⟩
end Go.Proofs.Ytinibccphecdfab

/-! PACKAGE isa AS IT LANDED: words' parts (put, get, mask), check, Encode, Decode, pointers. -/
namespace Go.Proofs.Ytinibccphecdfab
open Go.RowKit
set_option maxRecDepth 8000
set_option linter.unusedSimpArgs false
set_option linter.unusedVariables false

set_option maxRecDepth 8000 in
set_option maxHeartbeats 4000000 in
theorem iencp_any (p : Ptr) (w : World) : Calls Try.prog 30 #[p.v] w fun e w' => e = .returned (.int .i64 (ptrW p)) ∧ Below w.heap.size w w' := by
  have hb1 := blkl_alloc w (ptr3 p).toArray 25
  have hB0 := alloc_below w (.cells (ptr3 p).toArray 25)
  replace hb1 : BlkL w.heap.size (ptr3 p) (w.alloc (.cells (ptr3 p).toArray 25)) := hb1
  have hW : Aside (ptrW p = bits .or .i64 (bits .or .i64 (p.r % 8 * 281474976710656) (p.s % 65536 * 4294967296)) (p.f % 4294967296)) := by
    show ptrW p = _
    rw [or_ptr (by omega) (by omega) (by omega) (by omega)]
    rfl
  go_enter Try.func30, Try.ntmps30
  go_upto_region 1 with fail
  generalize w.alloc (.cells #[.int .i64 p.s, .int .i64 p.f, .int .i64 p.r] 25) = Z at *
  have hS0 : Below Z.heap.size Z Z.drew := (Below.refl _ _).drew
  refine wp_region_held_drew (S := (fun W => Below Z.heap.size Z W)) (by kernel_rfl) (by exact hS0) ?_
  intro hHeld
  generalize Z.drew = w0 at *
  refine wpAnyH_take (i := 0) (v := ?_) (by simp only [gA, gB, gC]; rfl) (by kernel_rfl) (by kernel_rfl) (by kernel_rfl) (by exact fun _ _ _ h => h) (Or.inl ⟨by rfl, ?_⟩) (by assumption) ?_; rotate_left; (focus (intro w hSw; (try dsimp only at hSw); go_simp; try with_reducible rfl)); (try simp only [Act.put, sA, sB, sC])
  refine wpAnyH_take (i := 1) (v := _) (by simp only [gA, gB, gC]; rfl) (by kernel_rfl) (by kernel_rfl) (by kernel_rfl) (by exact fun _ _ _ h => h) (yields_cellI (by rfl) _ rfl ⟨w.heap.size, 2, none⟩ rfl (.int .i64 p.r) (fun _ q => ((stab_blk _ _ _ _ hb1 q).1 2 _ rfl).1) intI_load) (by assumption) ?_; (try simp only [Act.put, sA, sB, sC])
  refine wpAnyH_take (i := 3) (v := ?_) (by simp only [gA, gB, gC]; rfl) (by kernel_rfl) (by kernel_rfl) (by kernel_rfl) (by exact fun _ _ _ h => h) (Or.inl ⟨by rfl, ?_⟩) (by assumption) ?_; rotate_left; (focus (intro w hSw; (try dsimp only at hSw); go_simp; try with_reducible rfl)); (try simp only [Act.put, sA, sB, sC])
  refine wpAnyH_take (i := 4) (v := _) (by simp only [gA, gB, gC]; rfl) (by kernel_rfl) (by kernel_rfl) (by kernel_rfl) (by exact fun _ _ _ h => h) (yields_cellI (by rfl) _ rfl ⟨w.heap.size, 0, none⟩ rfl (.int .i64 p.s) (fun _ q => ((stab_blk _ _ _ _ hb1 q).1 0 _ rfl).1) intI_load) (by assumption) ?_; (try simp only [Act.put, sA, sB, sC])
  refine wpAnyH_take (i := 7) (v := ?_) (by simp only [gA, gB, gC]; rfl) (by kernel_rfl) (by kernel_rfl) (by kernel_rfl) (by exact fun _ _ _ h => h) (Or.inl ⟨by rfl, ?_⟩) (by assumption) ?_; rotate_left; (focus (intro w hSw; (try dsimp only at hSw); go_simp; try with_reducible rfl)); (try simp only [Act.put, sA, sB, sC])
  refine wpAnyH_take (i := 8) (v := _) (by simp only [gA, gB, gC]; rfl) (by kernel_rfl) (by kernel_rfl) (by kernel_rfl) (by exact fun _ _ _ h => h) (yields_cellI (by rfl) _ rfl ⟨w.heap.size, 1, none⟩ rfl (.int .i64 p.f) (fun _ q => ((stab_blk _ _ _ _ hb1 q).1 1 _ rfl).1) intI_load) (by assumption) ?_; (try simp only [Act.put, sA, sB, sC])
  refine wpAnyH_ready (rs := [2]) (by kernel_rfl) (by simp) ?_
  refine AllReadyH.cons (by simp only [gA, gB, gC]; rfl) (fun K hK => ?_) AllReadyH.nil
  go_simp
  go_at_call 54
  refine (put48_3 p.r w0).mono ?_
  rintro e w1 ⟨rfl, hb⟩
  have hS1 := Below.then hS0 hb
  clear hb
  refine hK.out _ _ (by exact hS1) ?_
  clear hHeld hK
  intro hHeld
  (try simp only [Act.put, sA, sB, sC])
  refine wpAnyH_ready (rs := [5]) (by kernel_rfl) (by simp) ?_
  refine AllReadyH.cons (by simp only [gA, gB, gC]; rfl) (fun K hK => ?_) AllReadyH.nil
  go_simp
  go_at_call 54
  refine (put32_16 p.s w1).mono ?_
  rintro e w2 ⟨rfl, hb⟩
  have hS2 := Below.then hS1 hb
  clear hb
  refine hK.out _ _ (by exact hS2) ?_
  clear hHeld hK
  intro hHeld
  (try simp only [Act.put, sA, sB, sC])
  refine wpAnyH_take (i := 6) (v := ?_) (by simp only [gA, gB, gC]; rfl) (by kernel_rfl) (by kernel_rfl) (by kernel_rfl) (by exact fun _ _ _ h => h) (Or.inl ⟨by rfl, ?_⟩) (by assumption) ?_; rotate_left; (focus (intro w hSw; (try dsimp only at hSw); go_simp; try with_reducible rfl)); (try simp only [Act.put, sA, sB, sC])
  refine wpAnyH_ready (rs := [9]) (by kernel_rfl) (by simp) ?_
  refine AllReadyH.cons (by simp only [gA, gB, gC]; rfl) (fun K hK => ?_) AllReadyH.nil
  go_simp
  go_at_call 54
  refine (put0_32 p.f w2).mono ?_
  rintro e w3 ⟨rfl, hb⟩
  have hS3 := Below.then hS2 hb
  clear hb
  refine hK.out _ _ (by exact hS3) ?_
  clear hHeld hK
  intro hHeld
  (try simp only [Act.put, sA, sB, sC])
  refine wpAnyH_take (i := 10) (v := ?_) (by simp only [gA, gB, gC]; rfl) (by kernel_rfl) (by kernel_rfl) (by kernel_rfl) (by exact fun _ _ _ h => h) (Or.inl ⟨by rfl, ?_⟩) (by assumption) ?_; rotate_left; (focus (intro w hSw; (try dsimp only at hSw); go_simp; try with_reducible rfl)); (try simp only [Act.put, sA, sB, sC])
  refine wpAnyH_take (i := 11) (v := ?_) (by simp only [gA, gB, gC]; rfl) (by kernel_rfl) (by kernel_rfl) (by kernel_rfl) (by exact fun _ _ _ h => h) (Or.inl ⟨by rfl, ?_⟩) (by assumption) ?_; rotate_left; (focus (intro w hSw; (try dsimp only at hSw); go_simp; try with_reducible rfl)); (try simp only [Act.put, sA, sB, sC])
  refine wpAnyH_done (by kernel_rfl) ?_ _
  have hfin := Below.then hB0 hS3
  go_wp2_with fail
  go_ret
  exact ⟨by rw [hW.out]; rfl, hfin⟩
set_option maxRecDepth 8000 in
set_option maxHeartbeats 4000000 in
theorem idecode_any (x : Int) (hx : fit64 x) (w : World) : Calls Try.prog 37 #[.int .i64 x] w fun e w' => e = .returned (.tuple #[(decI x).v, .int .i64 (decE x)]) ∧ Below w.heap.size w w' := by
  have hund := Try.underlying42
  have hsz : (Try.prog.info? 42).map (·.size) = some 3 := by kernel_rfl
  have g1 := get56_8 x
  have g2 := get48_8 x
  have g3 := get0_32 x
  have g4 := get32_16 x
  have hA5 : IntKind.i32.wrap (wLow x) = wN x := by
    rw [IntKind.wrap_i32]
    have : 0 ≤ wLow x ∧ wLow x < 4294967296 := by unfold wLow; omega
    unfold wN
    split <;> omega
  have hN : -2147483648 ≤ wN x ∧ wN x ≤ 2147483647 := by
    have : 0 ≤ wLow x ∧ wLow x < 4294967296 := by unfold wLow; omega
    unfold wN
    split <;> omega
  have hP0 : 0 ≤ wP x := by unfold wP; omega
  have hO0 : 0 ≤ wOp x := by unfold wOp u64; omega
  have hA6 : IntKind.i64.wrap (wN x) = wN x := by rw [IntKind.wrap_i64]; omega
  have hDE : decE x = if 22 < wOp x then 3 else if 3 < wP x then 1 else if wMid x ≠ 0 then 11 else 0 := rfl
  have hDI : decI x = if decE x = 0 then ⟨wOp x, wP x, wN x⟩ else ⟨0, 0, 0⟩ := rfl
  obtain ⟨J, hJ⟩ : ∃ J, decI x = J := ⟨_, rfl⟩
  obtain ⟨G, hG⟩ : ∃ G, decE x = G := ⟨_, rfl⟩
  rw [hJ, hG]
  rw [hG] at hDE
  rw [hJ, hG] at hDI
  generalize wOp x = op at *
  generalize wP x = pp at *
  generalize wN x = nn at *
  generalize wLow x = low at *
  generalize wMid x = mid at *
  have hE : insE ⟨op, pp, nn⟩ = if 22 < op then 3 else if 3 < pp then 1 else 0 := by
    unfold insE
    simp only
    repeat' split
    all_goals omega
  have kc := icheck_any ⟨op, pp, nn⟩
  obtain ⟨E, hEE⟩ : ∃ E, insE ⟨op, pp, nn⟩ = E := ⟨_, rfl⟩
  rw [hEE] at kc hE
  replace hE : Aside (E = if 22 < op then 3 else if 3 < pp then 1 else 0) := hE
  replace hDE : Aside (G = if 22 < op then 3 else if 3 < pp then 1 else if mid ≠ 0 then 11 else 0) := hDE
  replace hDI : Aside (J = if G = 0 then ⟨op, pp, nn⟩ else ⟨0, 0, 0⟩) := hDI
  clear hJ hG hEE hN hP0 hO0
  have hb0 := blkl_alloc w (ins3 ⟨0, 0, 0⟩).toArray 42
  have hB0 := alloc_below w (.cells (ins3 ⟨0, 0, 0⟩).toArray 42)
  replace hb0 : BlkL w.heap.size (ins3 ⟨0, 0, 0⟩) (w.alloc (.cells (ins3 ⟨0, 0, 0⟩).toArray 42)) := hb0
  go_enter Try.func37, Try.ntmps37
  go_upto_region 1 with fail
  generalize w.alloc (.cells #[.int .i64 0, .int .i64 0, .int .i64 0] 42) = W0 at *
  go_wp2_with fail
  refine (g1 _).mono ?_
  rintro e W' ⟨rfl, hq⟩
  replace hq := hq.symm
  subst hq
  go_wp2_with fail
  refine (g2 _).mono ?_
  rintro e W' ⟨rfl, hq⟩
  replace hq := hq.symm
  subst hq
  go_wp2_with fail
  refine (g3 _).mono ?_
  rintro e W' ⟨rfl, hq⟩
  replace hq := hq.symm
  subst hq
  have hb1 := blkl_alloc W0 (ins3 ⟨op, pp, nn⟩).toArray 42
  have hB1 := alloc_below W0 (.cells (ins3 ⟨op, pp, nn⟩).toArray 42)
  replace hb1 : BlkL W0.heap.size (ins3 ⟨op, pp, nn⟩) (W0.alloc (.cells (ins3 ⟨op, pp, nn⟩).toArray 42)) := hb1
  have hb01 := stab_blk _ _ _ _ hb0 hB1
  replace hB1 := Below.then hB0 hB1
  go_upto_region 2 with fail
  generalize W0.alloc (.cells #[.int .i64 op, .int .i64 pp, .int .i64 nn] 42) = W1 at *
  generalize W0.heap.size = g at *
  have hr1 := hb1.range
  go_wp2_with (first | (refine wpList_load_row rfl _ rfl g rfl (ins3 ⟨op, pp, nn⟩) hr1 hund rfl hsz ?_) | fail)
  refine (kc W1).mono ?_
  rintro e W2 ⟨rfl, hB2⟩
  have hb2 := stab_blk _ _ _ _ hb1 hB2
  have hb02 := stab_blk _ _ _ _ hb01 hB2
  replace hB2 := Below.then hB1 hB2
  clear hr1 hb0 hb1 hb01 hB1 hB0 kc g1 g2 g3
  by_cases hE0 : E = 0
  rotate_left
  · have hn : (E != 0) = true := by simpa using hE0
    have hGE : Aside (G = E ∧ J = ⟨0, 0, 0⟩) := by
      have e1 := hE.out
      have e2 := hDE.out
      have e3 := hDI.out
      have : G = E := by
        rw [e1] at hE0 ⊢
        rw [e2]
        split
        · rfl
        · split
          · rfl
          · rename_i c1 c2
            rw [if_neg c1, if_neg c2] at hE0
            exact absurd rfl hE0
      refine ⟨this, ?_⟩
      rw [e3, if_neg (by rw [this]; exact hE0)]
    obtain ⟨W3, hW3, hth3, hb3, hk3⟩ := put_box hb02 ⟨0, 0, 0⟩
    have hB3 := hk3 _ _ (Nat.le_refl _) hB2
    have hr3 := hb3.range
    clear hE0 hk3
    go_wp2_with (first | (refine wpList_store_row rfl _ _ rfl w.heap.size rfl (ins3 ⟨0, 0, 0⟩) rfl hth3 hsz (ins3_one _) hW3 ?_) | fail)
    refine bodyPost_ret (v := .tuple #[.agg (ins3 ⟨0, 0, 0⟩).toArray, .int .i64 E]) (results_row2 rfl _ _ w.heap.size rfl (.int .i64 E) rfl (ins3 ⟨0, 0, 0⟩) hr3 hund rfl hsz) rfl ?_
    exact ⟨by rw [hGE.out.1, hGE.out.2], hB3⟩
  subst hE0
  have hcc : ¬ 22 < op ∧ ¬ 3 < pp := by
    have e1 := hE.out
    constructor
    · intro c
      rw [if_pos c] at e1
      exact absurd e1 (by decide)
    · intro c
      by_cases c1 : 22 < op
      · rw [if_pos c1] at e1
        exact absurd e1 (by decide)
      · rw [if_neg c1, if_pos c] at e1
        exact absurd e1 (by decide)
  have hG : Aside (G = if mid ≠ 0 then 11 else 0) := by
    show _ = _
    rw [hDE.out, if_neg hcc.1, if_neg hcc.2]
  clear hcc hDE hE
  go_wp2_with fail
  refine (g4 W2).mono ?_
  rintro e W' ⟨rfl, hq⟩
  replace hq := hq.symm
  subst hq
  clear g4
  by_cases hm : mid = 0
  rotate_left
  · have hGE : Aside (G = 11 ∧ J = ⟨0, 0, 0⟩) := by
      have e1 := hG.out
      rw [if_pos hm] at e1
      refine ⟨e1, ?_⟩
      rw [hDI.out, if_neg (by rw [e1]; decide)]
    have hn : (mid != 0) = true := by simpa using hm
    clear hm
    obtain ⟨W3, hW3, hth3, hb3, hk3⟩ := put_box hb02 ⟨0, 0, 0⟩
    have hB3 := hk3 _ _ (Nat.le_refl _) hB2
    have hr3 := hb3.range
    clear hk3
    go_wp2_with (first | (refine wpList_store_row rfl _ _ rfl w.heap.size rfl (ins3 ⟨0, 0, 0⟩) rfl hth3 hsz (ins3_one _) hW3 ?_) | fail)
    refine bodyPost_ret (v := .tuple #[.agg (ins3 ⟨0, 0, 0⟩).toArray, .int .i64 11]) (results_row2 rfl _ _ w.heap.size rfl (.int .i64 11) rfl (ins3 ⟨0, 0, 0⟩) hr3 hund rfl hsz) rfl ?_
    exact ⟨by rw [hGE.out.1, hGE.out.2], hB3⟩
  subst hm
  have hGE : Aside (G = 0 ∧ J = ⟨op, pp, nn⟩) := by
    have e1 : G = 0 := by rw [hG.out, if_neg (by simp)]
    exact ⟨e1, by rw [hDI.out, if_pos e1]⟩
  have hr2 := hb2.range
  obtain ⟨W3, hW3, hth3, hb3, hk3⟩ := put_box hb02 ⟨op, pp, nn⟩
  have hB3 := hk3 _ _ (Nat.le_refl _) hB2
  have hr3 := hb3.range
  clear hk3
  go_wp2_with (first | (refine wpList_load_row rfl _ rfl g rfl (ins3 ⟨op, pp, nn⟩) hr2 hund rfl hsz ?_) | (refine wpList_store_row rfl _ _ rfl w.heap.size rfl (ins3 ⟨op, pp, nn⟩) rfl hth3 hsz (ins3_one _) hW3 ?_) | fail)
  refine bodyPost_ret (v := .tuple #[.agg (ins3 ⟨op, pp, nn⟩).toArray, .int .i64 0]) (results_row2 rfl _ _ w.heap.size rfl (.int .i64 0) rfl (ins3 ⟨op, pp, nn⟩) hr3 hund rfl hsz) rfl ?_
  exact ⟨by rw [hGE.out.1, hGE.out.2], hB3⟩
set_option maxRecDepth 8000 in
set_option maxHeartbeats 4000000 in
theorem idecp_any (x : Int) (hx : fit64 x) (w : World) : Calls Try.prog 52 #[.int .i64 x] w fun e w' => e = .returned (wPtr x).v ∧ Below w.heap.size w w' := by
  have hund := Try.underlying25
  have hsz : (Try.prog.info? 25).map (·.size) = some 3 := by kernel_rfl
  have g1 := get32_16 x
  have g2 := get0_32 x
  have g3 := get48_3 x
  have hP : wPtr x = ⟨wMid x, wLow x, u64 x / 281474976710656 % 8⟩ := rfl
  generalize wMid x = mid at *
  generalize wLow x = low at *
  generalize u64 x / 281474976710656 % 8 = rr at *
  rw [hP]
  clear hP
  go_enter Try.func52, Try.ntmps52
  go_wp2_with fail
  refine (g1 _).mono ?_
  rintro e W' ⟨rfl, hq⟩
  replace hq := hq.symm
  subst hq
  go_wp2_with fail
  refine (g2 _).mono ?_
  rintro e W' ⟨rfl, hq⟩
  replace hq := hq.symm
  subst hq
  go_wp2_with fail
  refine (g3 _).mono ?_
  rintro e W' ⟨rfl, hq⟩
  replace hq := hq.symm
  subst hq
  go_wp2_with fail
  refine bodyPost_ret (v := .agg #[.int .i64 mid, .int .i64 low, .int .i64 rr]) (by simp [results, Try.results52, go_sem]) rfl ?_
  exact ⟨rfl, alloc_below _ _⟩
end Go.Proofs.Ytinibccphecdfab

/-! PACKAGE cpu AS IT LANDED: fetch. Written by mk_cpufnf.py. -/
namespace Go.Proofs.Ytinibccphecdfab
open Go.RowKit
set_option maxRecDepth 8000
set_option linter.unusedSimpArgs false
set_option linter.unusedVariables false

def ftG (g : Sg) (c : Cp) : Int := if g.is = false then 35 else if hasM g.md 4 = false ∨ mayX g.rg c.ring = false then 33 else if ¬ inG g c.off then 35 else if decE (wAt g c.off) ≠ 0 then 36 else 0
theorem fetE_eq (c : Cp) (m : List Sg) : fetE c m = ftG (kn m c.seg) c := rfl
/-- What a fetch comes to: a fault, or an instruction, and one word further. -/
def FtP (bx : Nat) (c : Cp) (v : Value) (r : List Value) (g : Sg) (E : Int) (w : World) (e : Ending) (w' : World) : Prop :=
  (E ≠ 0 ∧ e = .panicked (thr E) ∧ Below w.heap.size w w') ∨ (E = 0 ∧ e = .returned (.agg (ins3 (decI (wAt g c.off))).toArray) ∧ XAt bx { c with off := c.off + 1 } v r w' ∧ Sole bx w w')
theorem needB_ok (e : Int) (w : World) : Calls Try.prog 34 #[.bool true, .int .i64 e] w fun r w' => r = .returned (.tuple #[]) ∧ Below w.heap.size w w' := (need_ok e w).mono fun r w' h => ⟨h.1, by rw [h.2]; exact Below.refl _ _⟩
theorem needB_no (e : Int) (w : World) : Calls Try.prog 34 #[.bool false, .int .i64 e] w fun r w' => r = .panicked (thr e) ∧ Below w.heap.size w w' := (need_no e w).mono fun r w' h => ⟨h.1, by rw [h.2]; exact Below.refl _ _⟩
/-- What fetch's third region keeps. -/
structure SF (bx bg br : Nat) (c : Cp) (v : Value) (r G : List Value) (W : World) : Prop where
  x : XAt bx c v r W
  g : BlkL bg G W
  r : BlkL br (ins3 ⟨0, 0, 0⟩) W
theorem SF.keep {bx bg br : Nat} {c : Cp} {v : Value} {r G : List Value} {W W' : World} (h : SF bx bg br c v r G W) (hb : Below W.heap.size W W') : SF bx bg br c v r G W' := ⟨h.x.keep hb, stab_blk _ _ _ _ h.g hb, stab_blk _ _ _ _ h.r hb⟩
set_option maxRecDepth 8000 in
set_option maxHeartbeats 4000000 in
theorem cfetch_any (bm bx : Nat) (a : Option Addr) (cap : Nat) (m : List PG) (hm : MG m) (c : Cp) (v : Value) (r : List Value) (g : Sg) (hg : kn (m.map (·.g)) c.seg = g) (E : Int) (hE : ftG g c = E) (w : World) (hM : MAt bm a cap m w) (hX : XAt bx c v (memI bm :: r) w) :
    Calls Try.prog 20 #[.pointer (some ⟨bx, 0, none⟩)] w (FtP bx c v (memI bm :: r) g E w) := by
  have hundC := Try.underlying81
  have hszC : (Try.prog.info? 81).map (·.size) = some 6 := by kernel_rfl
  have hundR := Try.underlying37
  have hszR : (Try.prog.info? 37).map (·.size) = some 4 := by kernel_rfl
  have hundI := Try.underlying42
  have hszI : (Try.prog.info? 42).map (·.size) = some 3 := by kernel_rfl
  have hr0 := blkl_alloc w (ins3 ⟨0, 0, 0⟩).toArray 42
  have hB0 := alloc_below w (.cells (ins3 ⟨0, 0, 0⟩).toArray 42)
  have hX1 := hX.keep hB0
  have hM1 := hM.below hB0
  have hbx := hX.lt
  have hgok : g.Ok := by rw [← hg]; exact kn_ok (fun g hg => by obtain ⟨x, hx, rfl⟩ := List.mem_map.1 hg; exact hm.ok x hx) _
  replace hr0 : BlkL w.heap.size (ins3 ⟨0, 0, 0⟩) (w.alloc (.cells #[.int .i64 0, .int .i64 0, .int .i64 0] 42)) := hr0
  replace hX1 : XAt bx c v (memI bm :: r) (w.alloc (.cells #[.int .i64 0, .int .i64 0, .int .i64 0] 42)) := hX1
  replace hM1 : MAt bm a cap m (w.alloc (.cells #[.int .i64 0, .int .i64 0, .int .i64 0] 42)) := hM1
  replace hB0 : Below w.heap.size w (w.alloc (.cells #[.int .i64 0, .int .i64 0, .int .i64 0] 42)) := hB0
  clear hX hM
  have kn0 := fun (W : World) h1 h2 => cseg_none bm bx a cap m hm c v r c.seg W h1 h2
  have kn1 := fun (W : World) h1 h2 => cseg_some bm bx a cap m hm c v r c.seg W h1 h2
  rw [hg] at kn0 kn1
  by_cases c1 : g.is = false
  · have e35 : E = 35 := by rw [← hE, ftG, if_pos c1]
    subst e35
    replace hE : Aside (ftG g c = 35) := hE
    clear kn1 hg hr0
    go_enter Try.func20, Try.ntmps20
    go_upto_region 1 with fail
    generalize w.alloc (.cells #[.int .i64 0, .int .i64 0, .int .i64 0] 42) = W0 at *
    have z0 := hX1.seg
    go_wp2_with fail
    refine (kn0 W0 hM1 hX1 c1).mono ?_
    rintro e W1 ⟨rfl, hb⟩
    go_wp2_with fail
    exact diedC (.inl ⟨by decide, rfl, Below.then hB0 hb⟩)
  have c1' : g.is = true := by simpa using c1
  replace hE : Aside (ftG g c = E) := hE
  clear kn0 hg
  go_enter Try.func20, Try.ntmps20
  go_upto_region 1 with fail
  generalize w.alloc (.cells #[.int .i64 0, .int .i64 0, .int .i64 0] 42) = W0 at *
  have z0 := hX1.seg
  go_wp2_with fail
  refine (kn1 W0 hM1 hX1 c1').mono ?_
  rintro e W1 ⟨u, rfl, ho, hb⟩
  obtain ⟨W2, hW2, hth2, hg2, hB2⟩ := new_sg W1 g u
  obtain ⟨ua, uc, hu, -, -, hrow⟩ := ho.slice wd_okC.len
  have hX2 := (hX1.keep hb).keep hB2
  have hr2 := stab_blk _ _ _ _ (stab_blk _ _ _ _ hr0 hb) hB2
  have hBB := Below.then (Below.then hB0 hb) hB2
  have hrow2 := hrow.below wd_okC.len hB2
  have hl1 := hr0.2
  have hl2 := hb.size
  subst hu
  have hone := sg6_one g ua g.ws.length uc
  have ka := fun (W : World) => allows_any g (.slice ua g.ws.length uc) 4 W
  have kw0 := fun (W : World) h => cword_no g ua uc c.off W h
  have kw1 := fun (W : World) h1 h2 => cword_ok g ua uc c.off W h1 h2
  obtain ⟨X, hXe⟩ : ∃ X, sg6 g (.slice ua g.ws.length uc) = X := ⟨_, rfl⟩
  have hl : X.length = 6 := by rw [← hXe]; rfl
  have hszX : (Try.prog.info? 81).map (·.size) = some X.length := by rw [hl]; exact hszC
  have hfr : ∀ W b, BlkL b X W → W.rangeAt b 2 (rg4 g.rg) := fun W b h => by rw [← hXe] at h; exact fld_rg h
  simp only [hXe] at hW2 hth2 hg2 hone ka kw0 kw1
  have hXv : Aside (.agg (sg6 g (.slice ua g.ws.length uc)).toArray = Value.agg X.toArray) := by rw [hXe]; exact rfl
  clear hXe hl ho hrow hb hB2 hr0 hB0 z0 kn1 hM1 hX1 hm
  go_upto_region 2 with (first | (refine wpList_store_row rfl _ _ rfl W1.heap.size rfl X hXv.out hth2 hszX hone hW2 ?_) | fail)
  clear hW2 hth2 hXv
  have hl3 := hg2.2
  have hl4 := hX2.lt
  generalize W1.heap.size = bg at *
  have z2 := hX2.ring
  have hS0 := (Below.refl W2.heap.size W2).drew
  have hb8 : g.rg.v = .agg (rg4 g.rg).toArray := rfl
  have kx := fun (W : World) => mayExec_any g.rg c.ring W
  rw [hb8] at kx
  clear hb8
  cases c2 : hasM g.md 4 with
  | false =>
    have hEE : Aside (E = 33) := by
      show _ = _
      rw [← hE.out, ftG, if_neg c1, if_pos (.inl c2)]
    rw [c2] at ka
    clear hE c2 kw0 kw1
    refine wp_region_held_drew (S := (fun W => Below W2.heap.size W2 W)) (by kernel_rfl) (by exact hS0) ?_
    intro hHeld
    generalize W2.drew = w0 at *
    refine wpAnyH_take (i := 0) (v := _) (by simp only [gA, gB, gC]; rfl) (by kernel_rfl) (by kernel_rfl) (by kernel_rfl) (by exact fun _ _ _ h => h) (yields_row (by rfl) _ rfl bg rfl X (fun _ q => (stab_blk _ _ _ _ hg2 q).range) hundC rfl hszX) (by assumption) ?_; (try simp only [Act.put, sA, sB, sC])
    refine wpAnyH_ready (rs := [1]) (by kernel_rfl) (by simp) ?_
    refine AllReadyH.cons (by simp only [gA, gB, gC]; rfl) (fun K hK => ?_) AllReadyH.nil
    go_simp
    go_at_call 35
    refine (ka w0).mono ?_
    rintro e w1 ⟨rfl, hb⟩
    have hS1 := Below.then hS0 hb
    clear hb
    refine hK.out _ _ (by exact hS1) ?_
    clear hHeld hK
    intro hHeld
    (try simp only [Act.put, sA, sB, sC])
    refine wpAnyH_take (i := 2) (v := ?_) (by simp only [gA, gB, gC]; rfl) (by kernel_rfl) (by kernel_rfl) (by kernel_rfl) (by exact fun _ _ _ h => h) (Or.inl ⟨by rfl, ?_⟩) (by assumption) ?_; rotate_left; (focus (intro w hSw; (try dsimp only at hSw); go_simp; try with_reducible rfl)); (try simp only [Act.put, sA, sB, sC])
    refine wpAnyH_take (i := 3) (v := undef) (by simp only [gA, gB, gC]; rfl) (by kernel_rfl) (by kernel_rfl) (by kernel_rfl) (by exact fun _ _ _ h => h) (Or.inr ⟨by rfl, rfl⟩) (by assumption) ?_; (try simp only [Act.put, sA, sB, sC])
    refine wpAnyH_take (i := 4) (v := undef) (by simp only [gA, gB, gC]; rfl) (by kernel_rfl) (by kernel_rfl) (by kernel_rfl) (by exact fun _ _ _ h => h) (Or.inr ⟨by rfl, rfl⟩) (by assumption) ?_; (try simp only [Act.put, sA, sB, sC])
    refine wpAnyH_take (i := 5) (v := undef) (by simp only [gA, gB, gC]; rfl) (by kernel_rfl) (by kernel_rfl) (by kernel_rfl) (by exact fun _ _ _ h => h) (Or.inr ⟨by rfl, rfl⟩) (by assumption) ?_; (try simp only [Act.put, sA, sB, sC])
    refine wpAnyH_take (i := 6) (v := undef) (by simp only [gA, gB, gC]; rfl) (by kernel_rfl) (by kernel_rfl) (by kernel_rfl) (by exact fun _ _ _ h => h) (Or.inr ⟨by rfl, rfl⟩) (by assumption) ?_; (try simp only [Act.put, sA, sB, sC])
    refine wpAnyH_take (i := 7) (v := undef) (by simp only [gA, gB, gC]; rfl) (by kernel_rfl) (by kernel_rfl) (by kernel_rfl) (by exact fun _ _ _ h => h) (Or.inr ⟨by rfl, rfl⟩) (by assumption) ?_; (try simp only [Act.put, sA, sB, sC])
    refine wpAnyH_take (i := 8) (v := undef) (by simp only [gA, gB, gC]; rfl) (by kernel_rfl) (by kernel_rfl) (by kernel_rfl) (by exact fun _ _ _ h => h) (Or.inr ⟨by rfl, rfl⟩) (by assumption) ?_; (try simp only [Act.put, sA, sB, sC])
    refine wpAnyH_take (i := 9) (v := undef) (by simp only [gA, gB, gC]; rfl) (by kernel_rfl) (by kernel_rfl) (by kernel_rfl) (by exact fun _ _ _ h => h) (Or.inr ⟨by rfl, rfl⟩) (by assumption) ?_; (try simp only [Act.put, sA, sB, sC])
    refine wpAnyH_take (i := 10) (v := undef) (by simp only [gA, gB, gC]; rfl) (by kernel_rfl) (by kernel_rfl) (by kernel_rfl) (by exact fun _ _ _ h => h) (Or.inr ⟨by rfl, rfl⟩) (by assumption) ?_; (try simp only [Act.put, sA, sB, sC])
    refine wpAnyH_take (i := 11) (v := ?_) (by simp only [gA, gB, gC]; rfl) (by kernel_rfl) (by kernel_rfl) (by kernel_rfl) (by exact fun _ _ _ h => h) (Or.inl ⟨by rfl, ?_⟩) (by assumption) ?_; rotate_left; (focus (intro w hSw; (try dsimp only at hSw); go_simp; try with_reducible rfl)); (try simp only [Act.put, sA, sB, sC])
    refine wpAnyH_ready (rs := [12]) (by kernel_rfl) (by simp) ?_
    refine AllReadyH.cons (by simp only [gA, gB, gC]; rfl) (fun K hK => ?_) AllReadyH.nil
    go_simp
    go_at_call 34
    refine (needB_no 33 w1).mono ?_
    rintro e w2 ⟨rfl, hb⟩
    exact (show _ ∧ _ from ⟨rfl, .inl ⟨by rw [hEE.out]; decide, by rw [hEE.out], Below.then hBB (Below.then hS1 hb)⟩⟩)
  | true =>
  rw [c2] at ka
  cases c3 : mayX g.rg c.ring with
  | false =>
    have hEE : Aside (E = 33) := by
      show _ = _
      rw [← hE.out, ftG, if_neg c1, if_pos (.inr c3)]
    rw [c3] at kx
    clear hE c2 kw0 kw1 c3
    refine wp_region_held_drew (S := (fun W => Below W2.heap.size W2 W)) (by kernel_rfl) (by exact hS0) ?_
    intro hHeld
    generalize W2.drew = w0 at *
    refine wpAnyH_take (i := 0) (v := _) (by simp only [gA, gB, gC]; rfl) (by kernel_rfl) (by kernel_rfl) (by kernel_rfl) (by exact fun _ _ _ h => h) (yields_row (by rfl) _ rfl bg rfl X (fun _ q => (stab_blk _ _ _ _ hg2 q).range) hundC rfl hszX) (by assumption) ?_; (try simp only [Act.put, sA, sB, sC])
    refine wpAnyH_ready (rs := [1]) (by kernel_rfl) (by simp) ?_
    refine AllReadyH.cons (by simp only [gA, gB, gC]; rfl) (fun K hK => ?_) AllReadyH.nil
    go_simp
    go_at_call 35
    refine (ka w0).mono ?_
    rintro e w1 ⟨rfl, hb⟩
    have hS1 := Below.then hS0 hb
    clear hb
    refine hK.out _ _ (by exact hS1) ?_
    clear hHeld hK
    intro hHeld
    (try simp only [Act.put, sA, sB, sC])
    refine wpAnyH_take (i := 2) (v := ?_) (by simp only [gA, gB, gC]; rfl) (by kernel_rfl) (by kernel_rfl) (by kernel_rfl) (by exact fun _ _ _ h => h) (Or.inl ⟨by rfl, ?_⟩) (by assumption) ?_; rotate_left; (focus (intro w hSw; (try dsimp only at hSw); go_simp; try with_reducible rfl)); (try simp only [Act.put, sA, sB, sC])
    refine wpAnyH_take (i := 3) (v := ?_) (by simp only [gA, gB, gC]; rfl) (by kernel_rfl) (by kernel_rfl) (by kernel_rfl) (by exact fun _ _ _ h => h) (Or.inl ⟨by rfl, ?_⟩) (by assumption) ?_; rotate_left; (focus (intro w hSw; (try dsimp only at hSw); go_simp; try with_reducible rfl)); (try simp only [Act.put, sA, sB, sC])
    refine wpAnyH_take (i := 4) (v := _) (by simp only [gA, gB, gC]; rfl) (by kernel_rfl) (by kernel_rfl) (by kernel_rfl) (by exact fun _ _ _ h => h) (yieldsIf_load_mid (by rfl) 37 _ rfl bg 2 rfl (rg4 g.rg) _ (fun W q => hfr W bg (stab_blk _ _ _ _ hg2 q)) hundR rfl hszR) (by assumption) ?_; (try simp only [Act.put, sA, sB, sC])
    refine wpAnyH_take (i := 5) (v := ?_) (by simp only [gA, gB, gC]; rfl) (by kernel_rfl) (by kernel_rfl) (by kernel_rfl) (by exact fun _ _ _ h => h) (Or.inl ⟨by rfl, ?_⟩) (by assumption) ?_; rotate_left; (focus (intro w hSw; (try dsimp only at hSw); go_simp; try with_reducible rfl)); (try simp only [Act.put, sA, sB, sC])
    refine wpAnyH_take (i := 6) (v := ?_) (by simp only [gA, gB, gC]; rfl) (by kernel_rfl) (by kernel_rfl) (by kernel_rfl) (by exact fun _ _ _ h => h) (Or.inl ⟨by rfl, ?_⟩) (by assumption) ?_; rotate_left; (focus (intro w hSw; (try dsimp only at hSw); go_simp; try with_reducible rfl)); (try simp only [Act.put, sA, sB, sC])
    refine wpAnyH_take (i := 7) (v := ?_) (by simp only [gA, gB, gC]; rfl) (by kernel_rfl) (by kernel_rfl) (by kernel_rfl) (by exact fun _ _ _ h => h) (Or.inl ⟨by rfl, ?_⟩) (by assumption) ?_; rotate_left; (focus (intro w hSw; (try dsimp only at hSw); go_simp; try with_reducible rfl)); (try simp only [Act.put, sA, sB, sC])
    refine wpAnyH_take (i := 8) (v := ?_) (by simp only [gA, gB, gC]; rfl) (by kernel_rfl) (by kernel_rfl) (by kernel_rfl) (by exact fun _ _ _ h => h) (Or.inl ⟨by rfl, ?_⟩) (by assumption) ?_; rotate_left; (focus (intro w hSw; (try dsimp only at hSw); go_simp; try with_reducible rfl)); (try simp only [Act.put, sA, sB, sC])
    refine wpAnyH_take (i := 9) (v := _) (by simp only [gA, gB, gC]; rfl) (by kernel_rfl) (by kernel_rfl) (by kernel_rfl) (by exact fun _ _ _ h => h) (yields_cellI (by rfl) _ rfl ⟨bx, 2, none⟩ rfl (.int .i64 c.ring) (fun _ q => (hX2.keep q).ring) intI_load) (by assumption) ?_; (try simp only [Act.put, sA, sB, sC])
    refine wpAnyH_ready (rs := [10]) (by kernel_rfl) (by simp) ?_
    refine AllReadyH.cons (by simp only [gA, gB, gC]; rfl) (fun K hK => ?_) AllReadyH.nil
    go_simp
    go_at_call 36
    refine (kx w1).mono ?_
    rintro e w2 ⟨rfl, hb⟩
    have hS2 := Below.then hS1 hb
    clear hb
    refine hK.out _ _ (by exact hS2) ?_
    clear hHeld hK
    intro hHeld
    (try simp only [Act.put, sA, sB, sC])
    refine wpAnyH_take (i := 11) (v := ?_) (by simp only [gA, gB, gC]; rfl) (by kernel_rfl) (by kernel_rfl) (by kernel_rfl) (by exact fun _ _ _ h => h) (Or.inl ⟨by rfl, ?_⟩) (by assumption) ?_; rotate_left; (focus (intro w hSw; (try dsimp only at hSw); go_simp; try with_reducible rfl)); (try simp only [Act.put, sA, sB, sC])
    refine wpAnyH_ready (rs := [12]) (by kernel_rfl) (by simp) ?_
    refine AllReadyH.cons (by simp only [gA, gB, gC]; rfl) (fun K hK => ?_) AllReadyH.nil
    go_simp
    go_at_call 34
    refine (needB_no 33 w2).mono ?_
    rintro e w3 ⟨rfl, hb⟩
    exact (show _ ∧ _ from ⟨rfl, .inl ⟨by rw [hEE.out]; decide, by rw [hEE.out], Below.then hBB (Below.then hS2 hb)⟩⟩)
  | true =>
  rw [c3] at kx
  have hE2 : Aside (E = if ¬ inG g c.off then 35 else if decE (wAt g c.off) ≠ 0 then 36 else 0) := by
    show _ = _
    rw [← hE.out, ftG, if_neg c1, if_neg (by rw [c3, c2]; simp)]
  clear hE c1 c2 c1' c3
  refine wp_region_held_drew (S := (fun W => Below W2.heap.size W2 W)) (by kernel_rfl) (by exact hS0) ?_
  intro hHeld
  generalize W2.drew = w0 at *
  refine wpAnyH_take (i := 0) (v := _) (by simp only [gA, gB, gC]; rfl) (by kernel_rfl) (by kernel_rfl) (by kernel_rfl) (by exact fun _ _ _ h => h) (yields_row (by rfl) _ rfl bg rfl X (fun _ q => (stab_blk _ _ _ _ hg2 q).range) hundC rfl hszX) (by assumption) ?_; (try simp only [Act.put, sA, sB, sC])
  refine wpAnyH_ready (rs := [1]) (by kernel_rfl) (by simp) ?_
  refine AllReadyH.cons (by simp only [gA, gB, gC]; rfl) (fun K hK => ?_) AllReadyH.nil
  go_simp
  go_at_call 35
  refine (ka w0).mono ?_
  rintro e w1 ⟨rfl, hb⟩
  have hS1 := Below.then hS0 hb
  clear hb
  refine hK.out _ _ (by exact hS1) ?_
  clear hHeld hK
  intro hHeld
  (try simp only [Act.put, sA, sB, sC])
  refine wpAnyH_take (i := 2) (v := ?_) (by simp only [gA, gB, gC]; rfl) (by kernel_rfl) (by kernel_rfl) (by kernel_rfl) (by exact fun _ _ _ h => h) (Or.inl ⟨by rfl, ?_⟩) (by assumption) ?_; rotate_left; (focus (intro w hSw; (try dsimp only at hSw); go_simp; try with_reducible rfl)); (try simp only [Act.put, sA, sB, sC])
  refine wpAnyH_take (i := 3) (v := ?_) (by simp only [gA, gB, gC]; rfl) (by kernel_rfl) (by kernel_rfl) (by kernel_rfl) (by exact fun _ _ _ h => h) (Or.inl ⟨by rfl, ?_⟩) (by assumption) ?_; rotate_left; (focus (intro w hSw; (try dsimp only at hSw); go_simp; try with_reducible rfl)); (try simp only [Act.put, sA, sB, sC])
  refine wpAnyH_take (i := 4) (v := _) (by simp only [gA, gB, gC]; rfl) (by kernel_rfl) (by kernel_rfl) (by kernel_rfl) (by exact fun _ _ _ h => h) (yieldsIf_load_mid (by rfl) 37 _ rfl bg 2 rfl (rg4 g.rg) _ (fun W q => hfr W bg (stab_blk _ _ _ _ hg2 q)) hundR rfl hszR) (by assumption) ?_; (try simp only [Act.put, sA, sB, sC])
  refine wpAnyH_take (i := 5) (v := ?_) (by simp only [gA, gB, gC]; rfl) (by kernel_rfl) (by kernel_rfl) (by kernel_rfl) (by exact fun _ _ _ h => h) (Or.inl ⟨by rfl, ?_⟩) (by assumption) ?_; rotate_left; (focus (intro w hSw; (try dsimp only at hSw); go_simp; try with_reducible rfl)); (try simp only [Act.put, sA, sB, sC])
  refine wpAnyH_take (i := 6) (v := ?_) (by simp only [gA, gB, gC]; rfl) (by kernel_rfl) (by kernel_rfl) (by kernel_rfl) (by exact fun _ _ _ h => h) (Or.inl ⟨by rfl, ?_⟩) (by assumption) ?_; rotate_left; (focus (intro w hSw; (try dsimp only at hSw); go_simp; try with_reducible rfl)); (try simp only [Act.put, sA, sB, sC])
  refine wpAnyH_take (i := 7) (v := ?_) (by simp only [gA, gB, gC]; rfl) (by kernel_rfl) (by kernel_rfl) (by kernel_rfl) (by exact fun _ _ _ h => h) (Or.inl ⟨by rfl, ?_⟩) (by assumption) ?_; rotate_left; (focus (intro w hSw; (try dsimp only at hSw); go_simp; try with_reducible rfl)); (try simp only [Act.put, sA, sB, sC])
  refine wpAnyH_take (i := 8) (v := ?_) (by simp only [gA, gB, gC]; rfl) (by kernel_rfl) (by kernel_rfl) (by kernel_rfl) (by exact fun _ _ _ h => h) (Or.inl ⟨by rfl, ?_⟩) (by assumption) ?_; rotate_left; (focus (intro w hSw; (try dsimp only at hSw); go_simp; try with_reducible rfl)); (try simp only [Act.put, sA, sB, sC])
  refine wpAnyH_take (i := 9) (v := _) (by simp only [gA, gB, gC]; rfl) (by kernel_rfl) (by kernel_rfl) (by kernel_rfl) (by exact fun _ _ _ h => h) (yields_cellI (by rfl) _ rfl ⟨bx, 2, none⟩ rfl (.int .i64 c.ring) (fun _ q => (hX2.keep q).ring) intI_load) (by assumption) ?_; (try simp only [Act.put, sA, sB, sC])
  refine wpAnyH_ready (rs := [10]) (by kernel_rfl) (by simp) ?_
  refine AllReadyH.cons (by simp only [gA, gB, gC]; rfl) (fun K hK => ?_) AllReadyH.nil
  go_simp
  go_at_call 36
  refine (kx w1).mono ?_
  rintro e w2 ⟨rfl, hb⟩
  have hS2 := Below.then hS1 hb
  clear hb
  refine hK.out _ _ (by exact hS2) ?_
  clear hHeld hK
  intro hHeld
  (try simp only [Act.put, sA, sB, sC])
  refine wpAnyH_take (i := 11) (v := ?_) (by simp only [gA, gB, gC]; rfl) (by kernel_rfl) (by kernel_rfl) (by kernel_rfl) (by exact fun _ _ _ h => h) (Or.inl ⟨by rfl, ?_⟩) (by assumption) ?_; rotate_left; (focus (intro w hSw; (try dsimp only at hSw); go_simp; try with_reducible rfl)); (try simp only [Act.put, sA, sB, sC])
  refine wpAnyH_ready (rs := [12]) (by kernel_rfl) (by simp) ?_
  refine AllReadyH.cons (by simp only [gA, gB, gC]; rfl) (fun K hK => ?_) AllReadyH.nil
  go_simp
  go_at_call 34
  refine (needB_ok 33 w2).mono ?_
  rintro e w3 ⟨rfl, hb⟩
  have hS3 := Below.then hS2 hb
  clear hb
  refine hK.out _ _ (by exact hS3) ?_
  clear hHeld hK
  intro hHeld
  (try simp only [Act.put, sA, sB, sC])
  refine wpAnyH_done (by kernel_rfl) ?_ _
  have hX3 := hX2.keep hS3
  have hr3 := stab_blk _ _ _ _ hr2 hS3
  have hg3 := stab_blk _ _ _ _ hg2 hS3
  have hB3 := Below.then hBB hS3
  have hrow3 := hrow2.below wd_okC.len hS3
  have hl5 := hS3.size
  clear hX2 hr2 hg2 hBB hrow2 hS0 hS1 hS2 hS3 ka kx z2
  go_upto_region 3 with fail
  have hdr := (Below.refl w3.heap.size w3).drew
  have hS : SF bx bg w.heap.size c v (memI bm :: r) X w3.drew := ⟨hX3.keep hdr, stab_blk _ _ _ _ hg3 hdr, stab_blk _ _ _ _ hr3 hdr⟩
  have hB := Below.then hB3 hdr
  have hrow := hrow3.below wd_okC.len hdr
  clear hX3 hr3 hg3 hB3 hrow3 hdr
  by_cases c5 : inG g c.off
  rotate_left
  · have hEE : Aside (E = 35) := by
      show _ = _
      rw [hE2.out, if_pos c5]
    clear hE2 kw1
    refine wp_region_held_drew (S := (SF bx bg w.heap.size c v (memI bm :: r) X)) (by kernel_rfl) (by exact hS) ?_
    intro hHeld
    generalize w3.drew = w0 at *
    refine wpAnyH_take (i := 0) (v := _) (by simp only [gA, gB, gC]; rfl) (by kernel_rfl) (by kernel_rfl) (by kernel_rfl) (by exact fun _ _ _ h => h) (yields_row (by rfl) _ rfl bg rfl X (fun _ s => s.g.range) hundC rfl hszX) (by assumption) ?_; (try simp only [Act.put, sA, sB, sC])
    refine wpAnyH_take (i := 1) (v := ?_) (by simp only [gA, gB, gC]; rfl) (by kernel_rfl) (by kernel_rfl) (by kernel_rfl) (by exact fun _ _ _ h => h) (Or.inl ⟨by rfl, ?_⟩) (by assumption) ?_; rotate_left; (focus (intro w hSw; (try dsimp only at hSw); go_simp; try with_reducible rfl)); (try simp only [Act.put, sA, sB, sC])
    refine wpAnyH_take (i := 2) (v := ?_) (by simp only [gA, gB, gC]; rfl) (by kernel_rfl) (by kernel_rfl) (by kernel_rfl) (by exact fun _ _ _ h => h) (Or.inl ⟨by rfl, ?_⟩) (by assumption) ?_; rotate_left; (focus (intro w hSw; (try dsimp only at hSw); go_simp; try with_reducible rfl)); (try simp only [Act.put, sA, sB, sC])
    refine wpAnyH_take (i := 3) (v := ?_) (by simp only [gA, gB, gC]; rfl) (by kernel_rfl) (by kernel_rfl) (by kernel_rfl) (by exact fun _ _ _ h => h) (Or.inl ⟨by rfl, ?_⟩) (by assumption) ?_; rotate_left; (focus (intro w hSw; (try dsimp only at hSw); go_simp; try with_reducible rfl)); (try simp only [Act.put, sA, sB, sC])
    refine wpAnyH_take (i := 4) (v := ?_) (by simp only [gA, gB, gC]; rfl) (by kernel_rfl) (by kernel_rfl) (by kernel_rfl) (by exact fun _ _ _ h => h) (Or.inl ⟨by rfl, ?_⟩) (by assumption) ?_; rotate_left; (focus (intro w hSw; (try dsimp only at hSw); go_simp; try with_reducible rfl)); (try simp only [Act.put, sA, sB, sC])
    refine wpAnyH_take (i := 5) (v := _) (by simp only [gA, gB, gC]; rfl) (by kernel_rfl) (by kernel_rfl) (by kernel_rfl) (by exact fun _ _ _ h => h) (yields_cellI (by rfl) _ rfl ⟨bx, 1, none⟩ rfl (.int .i64 c.off) (fun _ s => s.x.off) intI_load) (by assumption) ?_; (try simp only [Act.put, sA, sB, sC])
    refine wpAnyH_ready (rs := [6, 11]) (by kernel_rfl) (by simp) ?_
    refine AllReadyH.cons (by simp only [gA, gB, gC]; rfl) (fun K hK => ?_) ?_
    · go_simp
      go_at_call 38
      refine (kw0 w0 c5).mono ?_
      rintro e w1 ⟨rfl, hb⟩
      exact (show _ ∧ _ from ⟨rfl, .inl ⟨by rw [hEE.out]; decide, by rw [hEE.out], Below.then hB hb⟩⟩)
    refine AllReadyH.cons (by simp only [gA, gB, gC]; rfl) (fun K hK => ?_) AllReadyH.nil
    have hbA := alloc_below w0 (.cells (ins3 ⟨0, 0, 0⟩).toArray 42)
    refine step_allocC (z := #[.int .i64 0, .int .i64 0, .int .i64 0]) rfl rfl (fun _ => rfl) ?_
    (try simp only [Act.put, sA, sB, sC])
    refine hK.out _ _ (hS.keep hbA) ?_
    clear hHeld hK
    intro hHeld
    have hi := blkl_alloc w0 (ins3 ⟨0, 0, 0⟩).toArray 42
    replace hi : BlkL w0.heap.size (ins3 ⟨0, 0, 0⟩) (w0.alloc (.cells #[.int .i64 0, .int .i64 0, .int .i64 0] 42)) := hi
    replace hbA : Below w0.heap.size w0 (w0.alloc (.cells #[.int .i64 0, .int .i64 0, .int .i64 0] 42)) := hbA
    have hgi : w.heap.size ≤ w0.heap.size ∧ bg < w0.heap.size ∧ bx < w0.heap.size ∧ w.heap.size < w0.heap.size := ⟨hB.size, hS.g.2, hS.x.lt, hS.r.2⟩
    replace hS := hS.keep hbA
    replace hB := Below.then hB hbA
    replace hrow := hrow.below wd_okC.len hbA
    clear hbA
    generalize w0.alloc (.cells #[.int .i64 0, .int .i64 0, .int .i64 0] 42) = w1 at *
    generalize w0.heap.size = gi at *
    (try simp only [Act.put, sA, sB, sC])
    refine wpAnyH_ready (rs := [6]) (by kernel_rfl) (by simp) ?_
    refine AllReadyH.cons (by simp only [gA, gB, gC]; rfl) (fun K hK => ?_) AllReadyH.nil
    go_simp
    go_at_call 38
    refine (kw0 w1 c5).mono ?_
    rintro e w2 ⟨rfl, hb⟩
    exact (show _ ∧ _ from ⟨rfl, .inl ⟨by rw [hEE.out]; decide, by rw [hEE.out], Below.then hB hb⟩⟩)
  have hE3 : Aside (E = if decE (wAt g c.off) ≠ 0 then 36 else 0) := by
    show _ = _
    rw [hE2.out, if_neg (by simpa using c5)]
  have hfit := wAt_fit hgok c.off
  have ho1 : IntKind.i64.wrap (c.off + 1) = c.off + 1 := by
    have h1 := c5.1
    have h2 := c5.2
    have h3 := hgok.len
    rw [IntKind.wrap_i64]; omega
  have kd := fun (W : World) => idecode_any (wAt g c.off) hfit W
  clear hE2 kw0 hgok hfit
  obtain ⟨wd, hwd⟩ : ∃ wd, wAt g c.off = wd := ⟨_, rfl⟩
  rw [hwd] at kw1 kd hE3
  replace hwd : Aside (wAt g c.off = wd) := hwd
  refine wp_region_held_drew (S := (SF bx bg w.heap.size c v (memI bm :: r) X)) (by kernel_rfl) (by exact hS) ?_
  intro hHeld
  generalize w3.drew = w0 at *
  refine wpAnyH_take (i := 0) (v := _) (by simp only [gA, gB, gC]; rfl) (by kernel_rfl) (by kernel_rfl) (by kernel_rfl) (by exact fun _ _ _ h => h) (yields_row (by rfl) _ rfl bg rfl X (fun _ s => s.g.range) hundC rfl hszX) (by assumption) ?_; (try simp only [Act.put, sA, sB, sC])
  refine wpAnyH_take (i := 1) (v := ?_) (by simp only [gA, gB, gC]; rfl) (by kernel_rfl) (by kernel_rfl) (by kernel_rfl) (by exact fun _ _ _ h => h) (Or.inl ⟨by rfl, ?_⟩) (by assumption) ?_; rotate_left; (focus (intro w hSw; (try dsimp only at hSw); go_simp; try with_reducible rfl)); (try simp only [Act.put, sA, sB, sC])
  refine wpAnyH_take (i := 2) (v := ?_) (by simp only [gA, gB, gC]; rfl) (by kernel_rfl) (by kernel_rfl) (by kernel_rfl) (by exact fun _ _ _ h => h) (Or.inl ⟨by rfl, ?_⟩) (by assumption) ?_; rotate_left; (focus (intro w hSw; (try dsimp only at hSw); go_simp; try with_reducible rfl)); (try simp only [Act.put, sA, sB, sC])
  refine wpAnyH_take (i := 3) (v := ?_) (by simp only [gA, gB, gC]; rfl) (by kernel_rfl) (by kernel_rfl) (by kernel_rfl) (by exact fun _ _ _ h => h) (Or.inl ⟨by rfl, ?_⟩) (by assumption) ?_; rotate_left; (focus (intro w hSw; (try dsimp only at hSw); go_simp; try with_reducible rfl)); (try simp only [Act.put, sA, sB, sC])
  refine wpAnyH_take (i := 4) (v := ?_) (by simp only [gA, gB, gC]; rfl) (by kernel_rfl) (by kernel_rfl) (by kernel_rfl) (by exact fun _ _ _ h => h) (Or.inl ⟨by rfl, ?_⟩) (by assumption) ?_; rotate_left; (focus (intro w hSw; (try dsimp only at hSw); go_simp; try with_reducible rfl)); (try simp only [Act.put, sA, sB, sC])
  refine wpAnyH_take (i := 5) (v := _) (by simp only [gA, gB, gC]; rfl) (by kernel_rfl) (by kernel_rfl) (by kernel_rfl) (by exact fun _ _ _ h => h) (yields_cellI (by rfl) _ rfl ⟨bx, 1, none⟩ rfl (.int .i64 c.off) (fun _ s => s.x.off) intI_load) (by assumption) ?_; (try simp only [Act.put, sA, sB, sC])
  refine wpAnyH_ready (rs := [6, 11]) (by kernel_rfl) (by simp) ?_
  refine AllReadyH.cons (by simp only [gA, gB, gC]; rfl) (fun K hK => ?_) ?_
  · go_simp
    go_at_call 38
    refine (kw1 w0 c5 hrow).mono ?_
    rintro e w1 ⟨rfl, hb⟩
    replace hS := hS.keep hb
    replace hB := Below.then hB hb
    replace hrow := hrow.below wd_okC.len hb
    clear hb
    refine hK.out _ _ (hS) ?_
    clear hHeld hK
    intro hHeld
    (try simp only [Act.put, sA, sB, sC])
    refine wpAnyH_ready (rs := [7, 11]) (by kernel_rfl) (by simp) ?_
    refine AllReadyH.cons (by simp only [gA, gB, gC]; rfl) (fun K hK => ?_) ?_
    · go_simp
      go_at_call 37
      refine (kd w1).mono ?_
      rintro e w2 ⟨rfl, hb⟩
      replace hS := hS.keep hb
      replace hB := Below.then hB hb
      replace hrow := hrow.below wd_okC.len hb
      clear hb
      refine hK.out _ _ (hS) ?_
      clear hHeld hK
      intro hHeld
      (try simp only [Act.put, sA, sB, sC])
      refine wpAnyH_take (i := 8) (v := ?_) (by simp only [gA, gB, gC]; rfl) (by kernel_rfl) (by kernel_rfl) (by kernel_rfl) (by exact fun _ _ _ h => h) (Or.inl ⟨by rfl, ?_⟩) (by assumption) ?_; rotate_left; (focus (intro w hSw; (try dsimp only at hSw); go_simp; try with_reducible rfl)); (try simp only [Act.put, sA, sB, sC])
      refine wpAnyH_take (i := 9) (v := ?_) (by simp only [gA, gB, gC]; rfl) (by kernel_rfl) (by kernel_rfl) (by kernel_rfl) (by exact fun _ _ _ h => h) (Or.inl ⟨by rfl, ?_⟩) (by assumption) ?_; rotate_left; (focus (intro w hSw; (try dsimp only at hSw); go_simp; try with_reducible rfl)); (try simp only [Act.put, sA, sB, sC])
      refine wpAnyH_take (i := 10) (v := ?_) (by simp only [gA, gB, gC]; rfl) (by kernel_rfl) (by kernel_rfl) (by kernel_rfl) (by exact fun _ _ _ h => h) (Or.inl ⟨by rfl, ?_⟩) (by assumption) ?_; rotate_left; (focus (intro w hSw; (try dsimp only at hSw); go_simp; try with_reducible rfl)); (try simp only [Act.put, sA, sB, sC])
      refine wpAnyH_ready (rs := [11]) (by kernel_rfl) (by simp) ?_
      refine AllReadyH.cons (by simp only [gA, gB, gC]; rfl) (fun K hK => ?_) AllReadyH.nil
      have hbA := alloc_below w2 (.cells (ins3 ⟨0, 0, 0⟩).toArray 42)
      refine step_allocC (z := #[.int .i64 0, .int .i64 0, .int .i64 0]) rfl rfl (fun _ => rfl) ?_
      (try simp only [Act.put, sA, sB, sC])
      refine hK.out _ _ (hS.keep hbA) ?_
      clear hHeld hK
      intro hHeld
      have hi := blkl_alloc w2 (ins3 ⟨0, 0, 0⟩).toArray 42
      replace hi : BlkL w2.heap.size (ins3 ⟨0, 0, 0⟩) (w2.alloc (.cells #[.int .i64 0, .int .i64 0, .int .i64 0] 42)) := hi
      replace hbA : Below w2.heap.size w2 (w2.alloc (.cells #[.int .i64 0, .int .i64 0, .int .i64 0] 42)) := hbA
      have hgi : w.heap.size ≤ w2.heap.size ∧ bg < w2.heap.size ∧ bx < w2.heap.size ∧ w.heap.size < w2.heap.size := ⟨hB.size, hS.g.2, hS.x.lt, hS.r.2⟩
      replace hS := hS.keep hbA
      replace hB := Below.then hB hbA
      replace hrow := hrow.below wd_okC.len hbA
      clear hbA
      generalize w2.alloc (.cells #[.int .i64 0, .int .i64 0, .int .i64 0] 42) = w3 at *
      generalize w2.heap.size = gi at *
      (try simp only [Act.put, sA, sB, sC])
      refine wpAnyH_ready (rs := [12]) (by kernel_rfl) (by simp) ?_
      refine AllReadyH.cons (by simp only [gA, gB, gC]; rfl) (fun K hK => ?_) AllReadyH.nil
      obtain ⟨W7, hW7, hth7, hb7, hk7⟩ := put_box hi (decI wd)
      have hB7 := hk7 _ _ hgi.1 hB
      have hfar : ∀ j, j ≠ gi → W7.heap[j]? = w3.heap[j]? := fun j hj => by rw [← hW7]; exact heap_setCells_other hj _ _ _
      have hs7 : w3.heap.size ≤ W7.heap.size := (hk7 0 w3 (Nat.zero_le _) (Below.refl _ _)).size
      have hS7 : SF bx bg w.heap.size c v (memI bm :: r) X W7 := ⟨hS.x.same (hfar _ (by omega)) hs7, ⟨hS.g.1.same (hfar _ (by omega)), Nat.lt_of_lt_of_le hS.g.2 hs7⟩, ⟨hS.r.1.same (hfar _ (by omega)), Nat.lt_of_lt_of_le hS.r.2 hs7⟩⟩
      refine step_store_rowC rfl _ _ rfl gi rfl (ins3 (decI wd)) rfl hth7 hszI (ins3_one _) hW7 ?_
      (try simp only [Act.put, sA, sB, sC])
      refine hK.out _ _ (hS7) ?_
      clear hHeld hK
      intro hHeld
      clear hS hB hrow hi hk7 hfar hs7 kw1 kd hW7 hth7
      have hD : Aside (wAt g c.off = wd) := hwd
      (try simp only [Act.put, sA, sB, sC])
      refine wpAnyH_take (i := 13) (v := ?_) (by simp only [gA, gB, gC]; rfl) (by kernel_rfl) (by kernel_rfl) (by kernel_rfl) (by exact fun _ _ _ h => h) (Or.inl ⟨by rfl, ?_⟩) (by assumption) ?_; rotate_left; (focus (intro w hSw; (try dsimp only at hSw); go_simp; try with_reducible rfl)); (try simp only [Act.put, sA, sB, sC])
      refine wpAnyH_done (by kernel_rfl) ?_ _
      go_upto_region 4 with fail
      by_cases c6 : decE wd = 0
      rotate_left
      · have hEE : Aside (E = 36) := by
          show _ = _
          rw [hE3.out, if_pos c6]
        have q : (decE wd == 0) = false := by simpa using c6
        generalize decE wd = ee at *
        clear hE3 c6
        go_wp2_with fail
        refine (need_no 36 W7).mono ?_
        rintro e W8 ⟨rfl, rfl⟩
        go_wp2_with fail
        exact diedC (.inl ⟨by rw [hEE.out]; decide, by rw [hEE.out], hB7⟩)
      have hEE : Aside (E = 0) := by
        show _ = _
        rw [hE3.out, if_neg (by simpa using c6)]
      have q : (decE wd == 0) = true := by simpa using c6
      generalize decE wd = ee at *
      clear hE3 c6
      go_wp2_with fail
      refine (need_ok 36 W7).mono ?_
      rintro e W8 ⟨rfl, rfl⟩
      go_upto_region 5 with fail
      have y1 := hS7.x.off
      have yf := hS7.x.free (i := 1) (by decide)
      have hX8 := hS7.x.setOff (c.off + 1)
      have hi8 := far_blk hb7 (show bx ≠ gi by omega) 1 (.int .i64 (c.off + 1))
      have hr8 := far_blk hS7.r (show bx ≠ w.heap.size by omega) 1 (.int .i64 (c.off + 1))
      have hO8 := (Sole.of (bx := bx) hB7).set 1 (.int .i64 (c.off + 1))
      clear hS7 hb7
      go_upto_region 6 with fail
      generalize W8.setCell ⟨bx, 1, none⟩ (.int .i64 (c.off + 1)) = W9 at *
      obtain ⟨D, hDD⟩ : ∃ D, decI wd = D := ⟨_, rfl⟩
      rw [hDD] at hi8 ⊢
      replace hDD : Aside (decI wd = D) := hDD
      obtain ⟨WA, hWA, hthA, hbA, hkA⟩ := put_box hr8 D
      have hrA := hbA.range
      have hri := hi8.range
      have hXA : XAt bx { c with off := c.off + 1 } v (memI bm :: r) WA := hX8.same (by rw [← hWA]; exact heap_setCells_other (by omega) _ _ _) (hkA 0 W9 (Nat.zero_le _) (Below.refl _ _)).size
      have hOA : Sole bx w WA := by rw [← hWA]; exact hO8.cells (.inr (Nat.le_refl _)) _ _
      clear hX8 hr8 hbA hkA hO8 y1 yf
      go_wp2_with (first | (refine wpList_load_row rfl _ rfl gi rfl (ins3 D) hri hundI rfl hszI ?_) | (refine wpList_store_row rfl _ _ rfl w.heap.size rfl (ins3 D) rfl hthA hszI (ins3_one _) hWA ?_) | fail)
      refine bodyPost_ret (v := .agg (ins3 D).toArray) (results_row1 rfl _ _ w.heap.size rfl (ins3 D) hrA hundI rfl hszI) rfl ?_
      exact .inr ⟨hEE.out, by rw [hD.out, hDD.out], hXA, hOA⟩
    refine AllReadyH.cons (by simp only [gA, gB, gC]; rfl) (fun K hK => ?_) AllReadyH.nil
    have hbA := alloc_below w1 (.cells (ins3 ⟨0, 0, 0⟩).toArray 42)
    refine step_allocC (z := #[.int .i64 0, .int .i64 0, .int .i64 0]) rfl rfl (fun _ => rfl) ?_
    (try simp only [Act.put, sA, sB, sC])
    refine hK.out _ _ (hS.keep hbA) ?_
    clear hHeld hK
    intro hHeld
    have hi := blkl_alloc w1 (ins3 ⟨0, 0, 0⟩).toArray 42
    replace hi : BlkL w1.heap.size (ins3 ⟨0, 0, 0⟩) (w1.alloc (.cells #[.int .i64 0, .int .i64 0, .int .i64 0] 42)) := hi
    replace hbA : Below w1.heap.size w1 (w1.alloc (.cells #[.int .i64 0, .int .i64 0, .int .i64 0] 42)) := hbA
    have hgi : w.heap.size ≤ w1.heap.size ∧ bg < w1.heap.size ∧ bx < w1.heap.size ∧ w.heap.size < w1.heap.size := ⟨hB.size, hS.g.2, hS.x.lt, hS.r.2⟩
    replace hS := hS.keep hbA
    replace hB := Below.then hB hbA
    replace hrow := hrow.below wd_okC.len hbA
    clear hbA
    generalize w1.alloc (.cells #[.int .i64 0, .int .i64 0, .int .i64 0] 42) = w2 at *
    generalize w1.heap.size = gi at *
    (try simp only [Act.put, sA, sB, sC])
    refine wpAnyH_ready (rs := [7]) (by kernel_rfl) (by simp) ?_
    refine AllReadyH.cons (by simp only [gA, gB, gC]; rfl) (fun K hK => ?_) AllReadyH.nil
    go_simp
    go_at_call 37
    refine (kd w2).mono ?_
    rintro e w3 ⟨rfl, hb⟩
    replace hS := hS.keep hb
    replace hB := Below.then hB hb
    replace hrow := hrow.below wd_okC.len hb
    replace hi := stab_blk _ _ _ _ hi hb
    clear hb
    refine hK.out _ _ (hS) ?_
    clear hHeld hK
    intro hHeld
    (try simp only [Act.put, sA, sB, sC])
    refine wpAnyH_take (i := 8) (v := ?_) (by simp only [gA, gB, gC]; rfl) (by kernel_rfl) (by kernel_rfl) (by kernel_rfl) (by exact fun _ _ _ h => h) (Or.inl ⟨by rfl, ?_⟩) (by assumption) ?_; rotate_left; (focus (intro w hSw; (try dsimp only at hSw); go_simp; try with_reducible rfl)); (try simp only [Act.put, sA, sB, sC])
    refine wpAnyH_take (i := 9) (v := ?_) (by simp only [gA, gB, gC]; rfl) (by kernel_rfl) (by kernel_rfl) (by kernel_rfl) (by exact fun _ _ _ h => h) (Or.inl ⟨by rfl, ?_⟩) (by assumption) ?_; rotate_left; (focus (intro w hSw; (try dsimp only at hSw); go_simp; try with_reducible rfl)); (try simp only [Act.put, sA, sB, sC])
    refine wpAnyH_take (i := 10) (v := ?_) (by simp only [gA, gB, gC]; rfl) (by kernel_rfl) (by kernel_rfl) (by kernel_rfl) (by exact fun _ _ _ h => h) (Or.inl ⟨by rfl, ?_⟩) (by assumption) ?_; rotate_left; (focus (intro w hSw; (try dsimp only at hSw); go_simp; try with_reducible rfl)); (try simp only [Act.put, sA, sB, sC])
    refine wpAnyH_ready (rs := [12]) (by kernel_rfl) (by simp) ?_
    refine AllReadyH.cons (by simp only [gA, gB, gC]; rfl) (fun K hK => ?_) AllReadyH.nil
    obtain ⟨W7, hW7, hth7, hb7, hk7⟩ := put_box hi (decI wd)
    have hB7 := hk7 _ _ hgi.1 hB
    have hfar : ∀ j, j ≠ gi → W7.heap[j]? = w3.heap[j]? := fun j hj => by rw [← hW7]; exact heap_setCells_other hj _ _ _
    have hs7 : w3.heap.size ≤ W7.heap.size := (hk7 0 w3 (Nat.zero_le _) (Below.refl _ _)).size
    have hS7 : SF bx bg w.heap.size c v (memI bm :: r) X W7 := ⟨hS.x.same (hfar _ (by omega)) hs7, ⟨hS.g.1.same (hfar _ (by omega)), Nat.lt_of_lt_of_le hS.g.2 hs7⟩, ⟨hS.r.1.same (hfar _ (by omega)), Nat.lt_of_lt_of_le hS.r.2 hs7⟩⟩
    refine step_store_rowC rfl _ _ rfl gi rfl (ins3 (decI wd)) rfl hth7 hszI (ins3_one _) hW7 ?_
    (try simp only [Act.put, sA, sB, sC])
    refine hK.out _ _ (hS7) ?_
    clear hHeld hK
    intro hHeld
    clear hS hB hrow hi hk7 hfar hs7 kw1 kd hW7 hth7
    have hD : Aside (wAt g c.off = wd) := hwd
    (try simp only [Act.put, sA, sB, sC])
    refine wpAnyH_take (i := 13) (v := ?_) (by simp only [gA, gB, gC]; rfl) (by kernel_rfl) (by kernel_rfl) (by kernel_rfl) (by exact fun _ _ _ h => h) (Or.inl ⟨by rfl, ?_⟩) (by assumption) ?_; rotate_left; (focus (intro w hSw; (try dsimp only at hSw); go_simp; try with_reducible rfl)); (try simp only [Act.put, sA, sB, sC])
    refine wpAnyH_done (by kernel_rfl) ?_ _
    go_upto_region 4 with fail
    by_cases c6 : decE wd = 0
    rotate_left
    · have hEE : Aside (E = 36) := by
        show _ = _
        rw [hE3.out, if_pos c6]
      have q : (decE wd == 0) = false := by simpa using c6
      generalize decE wd = ee at *
      clear hE3 c6
      go_wp2_with fail
      refine (need_no 36 W7).mono ?_
      rintro e W8 ⟨rfl, rfl⟩
      go_wp2_with fail
      exact diedC (.inl ⟨by rw [hEE.out]; decide, by rw [hEE.out], hB7⟩)
    have hEE : Aside (E = 0) := by
      show _ = _
      rw [hE3.out, if_neg (by simpa using c6)]
    have q : (decE wd == 0) = true := by simpa using c6
    generalize decE wd = ee at *
    clear hE3 c6
    go_wp2_with fail
    refine (need_ok 36 W7).mono ?_
    rintro e W8 ⟨rfl, rfl⟩
    go_upto_region 5 with fail
    have y1 := hS7.x.off
    have yf := hS7.x.free (i := 1) (by decide)
    have hX8 := hS7.x.setOff (c.off + 1)
    have hi8 := far_blk hb7 (show bx ≠ gi by omega) 1 (.int .i64 (c.off + 1))
    have hr8 := far_blk hS7.r (show bx ≠ w.heap.size by omega) 1 (.int .i64 (c.off + 1))
    have hO8 := (Sole.of (bx := bx) hB7).set 1 (.int .i64 (c.off + 1))
    clear hS7 hb7
    go_upto_region 6 with fail
    generalize W8.setCell ⟨bx, 1, none⟩ (.int .i64 (c.off + 1)) = W9 at *
    obtain ⟨D, hDD⟩ : ∃ D, decI wd = D := ⟨_, rfl⟩
    rw [hDD] at hi8 ⊢
    replace hDD : Aside (decI wd = D) := hDD
    obtain ⟨WA, hWA, hthA, hbA, hkA⟩ := put_box hr8 D
    have hrA := hbA.range
    have hri := hi8.range
    have hXA : XAt bx { c with off := c.off + 1 } v (memI bm :: r) WA := hX8.same (by rw [← hWA]; exact heap_setCells_other (by omega) _ _ _) (hkA 0 W9 (Nat.zero_le _) (Below.refl _ _)).size
    have hOA : Sole bx w WA := by rw [← hWA]; exact hO8.cells (.inr (Nat.le_refl _)) _ _
    clear hX8 hr8 hbA hkA hO8 y1 yf
    go_wp2_with (first | (refine wpList_load_row rfl _ rfl gi rfl (ins3 D) hri hundI rfl hszI ?_) | (refine wpList_store_row rfl _ _ rfl w.heap.size rfl (ins3 D) rfl hthA hszI (ins3_one _) hWA ?_) | fail)
    refine bodyPost_ret (v := .agg (ins3 D).toArray) (results_row1 rfl _ _ w.heap.size rfl (ins3 D) hrA hundI rfl hszI) rfl ?_
    exact .inr ⟨hEE.out, by rw [hD.out, hDD.out], hXA, hOA⟩
  refine AllReadyH.cons (by simp only [gA, gB, gC]; rfl) (fun K hK => ?_) AllReadyH.nil
  have hbA := alloc_below w0 (.cells (ins3 ⟨0, 0, 0⟩).toArray 42)
  refine step_allocC (z := #[.int .i64 0, .int .i64 0, .int .i64 0]) rfl rfl (fun _ => rfl) ?_
  (try simp only [Act.put, sA, sB, sC])
  refine hK.out _ _ (hS.keep hbA) ?_
  clear hHeld hK
  intro hHeld
  have hi := blkl_alloc w0 (ins3 ⟨0, 0, 0⟩).toArray 42
  replace hi : BlkL w0.heap.size (ins3 ⟨0, 0, 0⟩) (w0.alloc (.cells #[.int .i64 0, .int .i64 0, .int .i64 0] 42)) := hi
  replace hbA : Below w0.heap.size w0 (w0.alloc (.cells #[.int .i64 0, .int .i64 0, .int .i64 0] 42)) := hbA
  have hgi : w.heap.size ≤ w0.heap.size ∧ bg < w0.heap.size ∧ bx < w0.heap.size ∧ w.heap.size < w0.heap.size := ⟨hB.size, hS.g.2, hS.x.lt, hS.r.2⟩
  replace hS := hS.keep hbA
  replace hB := Below.then hB hbA
  replace hrow := hrow.below wd_okC.len hbA
  clear hbA
  generalize w0.alloc (.cells #[.int .i64 0, .int .i64 0, .int .i64 0] 42) = w1 at *
  generalize w0.heap.size = gi at *
  (try simp only [Act.put, sA, sB, sC])
  refine wpAnyH_ready (rs := [6]) (by kernel_rfl) (by simp) ?_
  refine AllReadyH.cons (by simp only [gA, gB, gC]; rfl) (fun K hK => ?_) AllReadyH.nil
  go_simp
  go_at_call 38
  refine (kw1 w1 c5 hrow).mono ?_
  rintro e w2 ⟨rfl, hb⟩
  replace hS := hS.keep hb
  replace hB := Below.then hB hb
  replace hrow := hrow.below wd_okC.len hb
  replace hi := stab_blk _ _ _ _ hi hb
  clear hb
  refine hK.out _ _ (hS) ?_
  clear hHeld hK
  intro hHeld
  (try simp only [Act.put, sA, sB, sC])
  refine wpAnyH_ready (rs := [7]) (by kernel_rfl) (by simp) ?_
  refine AllReadyH.cons (by simp only [gA, gB, gC]; rfl) (fun K hK => ?_) AllReadyH.nil
  go_simp
  go_at_call 37
  refine (kd w2).mono ?_
  rintro e w3 ⟨rfl, hb⟩
  replace hS := hS.keep hb
  replace hB := Below.then hB hb
  replace hrow := hrow.below wd_okC.len hb
  replace hi := stab_blk _ _ _ _ hi hb
  clear hb
  refine hK.out _ _ (hS) ?_
  clear hHeld hK
  intro hHeld
  (try simp only [Act.put, sA, sB, sC])
  refine wpAnyH_take (i := 8) (v := ?_) (by simp only [gA, gB, gC]; rfl) (by kernel_rfl) (by kernel_rfl) (by kernel_rfl) (by exact fun _ _ _ h => h) (Or.inl ⟨by rfl, ?_⟩) (by assumption) ?_; rotate_left; (focus (intro w hSw; (try dsimp only at hSw); go_simp; try with_reducible rfl)); (try simp only [Act.put, sA, sB, sC])
  refine wpAnyH_take (i := 9) (v := ?_) (by simp only [gA, gB, gC]; rfl) (by kernel_rfl) (by kernel_rfl) (by kernel_rfl) (by exact fun _ _ _ h => h) (Or.inl ⟨by rfl, ?_⟩) (by assumption) ?_; rotate_left; (focus (intro w hSw; (try dsimp only at hSw); go_simp; try with_reducible rfl)); (try simp only [Act.put, sA, sB, sC])
  refine wpAnyH_take (i := 10) (v := ?_) (by simp only [gA, gB, gC]; rfl) (by kernel_rfl) (by kernel_rfl) (by kernel_rfl) (by exact fun _ _ _ h => h) (Or.inl ⟨by rfl, ?_⟩) (by assumption) ?_; rotate_left; (focus (intro w hSw; (try dsimp only at hSw); go_simp; try with_reducible rfl)); (try simp only [Act.put, sA, sB, sC])
  refine wpAnyH_ready (rs := [12]) (by kernel_rfl) (by simp) ?_
  refine AllReadyH.cons (by simp only [gA, gB, gC]; rfl) (fun K hK => ?_) AllReadyH.nil
  obtain ⟨W7, hW7, hth7, hb7, hk7⟩ := put_box hi (decI wd)
  have hB7 := hk7 _ _ hgi.1 hB
  have hfar : ∀ j, j ≠ gi → W7.heap[j]? = w3.heap[j]? := fun j hj => by rw [← hW7]; exact heap_setCells_other hj _ _ _
  have hs7 : w3.heap.size ≤ W7.heap.size := (hk7 0 w3 (Nat.zero_le _) (Below.refl _ _)).size
  have hS7 : SF bx bg w.heap.size c v (memI bm :: r) X W7 := ⟨hS.x.same (hfar _ (by omega)) hs7, ⟨hS.g.1.same (hfar _ (by omega)), Nat.lt_of_lt_of_le hS.g.2 hs7⟩, ⟨hS.r.1.same (hfar _ (by omega)), Nat.lt_of_lt_of_le hS.r.2 hs7⟩⟩
  refine step_store_rowC rfl _ _ rfl gi rfl (ins3 (decI wd)) rfl hth7 hszI (ins3_one _) hW7 ?_
  (try simp only [Act.put, sA, sB, sC])
  refine hK.out _ _ (hS7) ?_
  clear hHeld hK
  intro hHeld
  clear hS hB hrow hi hk7 hfar hs7 kw1 kd hW7 hth7
  have hD : Aside (wAt g c.off = wd) := hwd
  (try simp only [Act.put, sA, sB, sC])
  refine wpAnyH_take (i := 13) (v := ?_) (by simp only [gA, gB, gC]; rfl) (by kernel_rfl) (by kernel_rfl) (by kernel_rfl) (by exact fun _ _ _ h => h) (Or.inl ⟨by rfl, ?_⟩) (by assumption) ?_; rotate_left; (focus (intro w hSw; (try dsimp only at hSw); go_simp; try with_reducible rfl)); (try simp only [Act.put, sA, sB, sC])
  refine wpAnyH_done (by kernel_rfl) ?_ _
  go_upto_region 4 with fail
  by_cases c6 : decE wd = 0
  rotate_left
  · have hEE : Aside (E = 36) := by
      show _ = _
      rw [hE3.out, if_pos c6]
    have q : (decE wd == 0) = false := by simpa using c6
    generalize decE wd = ee at *
    clear hE3 c6
    go_wp2_with fail
    refine (need_no 36 W7).mono ?_
    rintro e W8 ⟨rfl, rfl⟩
    go_wp2_with fail
    exact diedC (.inl ⟨by rw [hEE.out]; decide, by rw [hEE.out], hB7⟩)
  have hEE : Aside (E = 0) := by
    show _ = _
    rw [hE3.out, if_neg (by simpa using c6)]
  have q : (decE wd == 0) = true := by simpa using c6
  generalize decE wd = ee at *
  clear hE3 c6
  go_wp2_with fail
  refine (need_ok 36 W7).mono ?_
  rintro e W8 ⟨rfl, rfl⟩
  go_upto_region 5 with fail
  have y1 := hS7.x.off
  have yf := hS7.x.free (i := 1) (by decide)
  have hX8 := hS7.x.setOff (c.off + 1)
  have hi8 := far_blk hb7 (show bx ≠ gi by omega) 1 (.int .i64 (c.off + 1))
  have hr8 := far_blk hS7.r (show bx ≠ w.heap.size by omega) 1 (.int .i64 (c.off + 1))
  have hO8 := (Sole.of (bx := bx) hB7).set 1 (.int .i64 (c.off + 1))
  clear hS7 hb7
  go_upto_region 6 with fail
  generalize W8.setCell ⟨bx, 1, none⟩ (.int .i64 (c.off + 1)) = W9 at *
  obtain ⟨D, hDD⟩ : ∃ D, decI wd = D := ⟨_, rfl⟩
  rw [hDD] at hi8 ⊢
  replace hDD : Aside (decI wd = D) := hDD
  obtain ⟨WA, hWA, hthA, hbA, hkA⟩ := put_box hr8 D
  have hrA := hbA.range
  have hri := hi8.range
  have hXA : XAt bx { c with off := c.off + 1 } v (memI bm :: r) WA := hX8.same (by rw [← hWA]; exact heap_setCells_other (by omega) _ _ _) (hkA 0 W9 (Nat.zero_le _) (Below.refl _ _)).size
  have hOA : Sole bx w WA := by rw [← hWA]; exact hO8.cells (.inr (Nat.le_refl _)) _ _
  clear hX8 hr8 hbA hkA hO8 y1 yf
  go_wp2_with (first | (refine wpList_load_row rfl _ rfl gi rfl (ins3 D) hri hundI rfl hszI ?_) | (refine wpList_store_row rfl _ _ rfl w.heap.size rfl (ins3 D) rfl hthA hszI (ins3_one _) hWA ?_) | fail)
  refine bodyPost_ret (v := .agg (ins3 D).toArray) (results_row1 rfl _ _ w.heap.size rfl (ins3 D) hrA hundI rfl hszI) rfl ?_
  exact .inr ⟨hEE.out, by rw [hD.out, hDD.out], hXA, hOA⟩
end Go.Proofs.Ytinibccphecdfab

/-! PACKAGE cpu AS IT LANDED: what turns the processor alone: reckoning, jumps, pointers, rings. Written by mk_cpufng.py. -/
namespace Go.Proofs.Ytinibccphecdfab
open Go.RowKit
set_option maxRecDepth 8000
set_option linter.unusedSimpArgs false
set_option linter.unusedVariables false

section
variable {ops : Array Oper} {o : Oper} {a : Act} {w : World} {Q : Exit → Act → World → Prop}
theorem step_st {T : TypeId} {K : Act → World → Prop} {E : Prop} (hg : o.guard = none) (x z : Operand) (ho : o.op = .store T x z) (y : Addr) (hx : a.eval x = .pointer (some y)) (v : Value) (hz : a.eval z = v) (hst : (Instr.storeAt T (.pointer (some y)) v).run Try.prog w = .ok () (w.setCell y v)) (hK : K (a.put o.dst undef) (w.setCell y v)) :
    if Region.wanted o (yielded ops a.tmps) = true then Oper.wp Try.prog o a w K Q else E := by
  have hw : Region.wanted o (yielded ops a.tmps) = true := by simp [Region.wanted, hg]
  rw [if_pos hw]
  unfold Oper.wp
  simp [execOp, ho, hx, hz, hst, Result.andThen]
  exact hK
end
theorem int_store (w : World) (y : Addr) (u : Value) (x : Int) (hc : w.cell? y = some u) (hf : w.frozen? y = false) : (Instr.storeAt 3 (.pointer (some y)) (.int .i64 x)).run Try.prog w = .ok () (w.setCell y (.int .i64 x)) := by
  have h1 := Try.underlying3
  go_simp
theorem int64_store (w : World) (y : Addr) (u : Value) (x : Int) (hc : w.cell? y = some u) (hf : w.frozen? y = false) : (Instr.storeAt 2 (.pointer (some y)) (.int .i64 x)).run Try.prog w = .ok () (w.setCell y (.int .i64 x)) := by
  have h1 := Try.underlying2
  go_simp
set_option maxHeartbeats 2000000 in
theorem creck_any (o a b : Int) (ho : o ≠ 1) (w : World) : Calls Try.prog 24 #[.int .i64 o, .int .i64 a, .int .i64 b] w fun e w' => e = .returned (.int .i64 (arC o a b)) ∧ Below w.heap.size w w' := by
  by_cases c4 : o = 4
  · subst c4
    have k := word_Add_any a b w
    rw [show arC 4 a b = wrap64 (a + b) from rfl]
    generalize wrap64 (a + b) = x at *
    go_enter Try.func24, Try.ntmps24
    go_wp2_with fail
    refine k.mono ?_
    rintro e W' ⟨rfl, rfl⟩
    go_wp2_with fail
    go_ret
    exact ⟨rfl, Below.refl _ _⟩
  have n4 : (o == 4) = false := by simpa using c4
  by_cases c5 : o = 5
  · subst c5
    have k := word_Sub_any a b w
    rw [show arC 5 a b = wrap64 (a - b) from rfl]
    generalize wrap64 (a - b) = x at *
    go_enter Try.func24, Try.ntmps24
    go_wp2_with fail
    refine k.mono ?_
    rintro e W' ⟨rfl, rfl⟩
    go_wp2_with fail
    go_ret
    exact ⟨rfl, Below.refl _ _⟩
  have n5 : (o == 5) = false := by simpa using c5
  by_cases c6 : o = 6
  · subst c6
    have k := word_Mul_any a b w
    rw [show arC 6 a b = wrap64 (a * b) from rfl]
    generalize wrap64 (a * b) = x at *
    go_enter Try.func24, Try.ntmps24
    go_wp2_with fail
    refine k.mono ?_
    rintro e W' ⟨rfl, rfl⟩
    go_wp2_with fail
    go_ret
    exact ⟨rfl, Below.refl _ _⟩
  have n6 : (o == 6) = false := by simpa using c6
  by_cases c7 : o = 7
  · subst c7
    have k := word_FAdd_any a b w
    rw [show arC 7 a b = fop .add a b from rfl]
    generalize fop .add a b = x at *
    go_enter Try.func24, Try.ntmps24
    go_wp2_with fail
    refine k.mono ?_
    rintro e W' ⟨rfl, n, rfl⟩
    go_wp2_with fail
    go_ret
    exact ⟨rfl, below_drewN w n⟩
  have n7 : (o == 7) = false := by simpa using c7
  by_cases c8 : o = 8
  · subst c8
    have k := word_FSub_any a b w
    rw [show arC 8 a b = fop .sub a b from rfl]
    generalize fop .sub a b = x at *
    go_enter Try.func24, Try.ntmps24
    go_wp2_with fail
    refine k.mono ?_
    rintro e W' ⟨rfl, n, rfl⟩
    go_wp2_with fail
    go_ret
    exact ⟨rfl, below_drewN w n⟩
  have n8 : (o == 8) = false := by simpa using c8
  by_cases c9 : o = 9
  · subst c9
    have k := word_FMul_any a b w
    rw [show arC 9 a b = fop .mul a b from rfl]
    generalize fop .mul a b = x at *
    go_enter Try.func24, Try.ntmps24
    go_wp2_with fail
    refine k.mono ?_
    rintro e W' ⟨rfl, n, rfl⟩
    go_wp2_with fail
    go_ret
    exact ⟨rfl, below_drewN w n⟩
  have n9 : (o == 9) = false := by simpa using c9
  by_cases c10 : o = 10
  · subst c10
    have k := word_FDiv_any a b w
    rw [show arC 10 a b = fop .quo a b from rfl]
    generalize fop .quo a b = x at *
    go_enter Try.func24, Try.ntmps24
    go_wp2_with fail
    refine k.mono ?_
    rintro e W' ⟨rfl, n, rfl⟩
    go_wp2_with fail
    go_ret
    exact ⟨rfl, below_drewN w n⟩
  have n10 : (o == 10) = false := by simpa using c10
  have k := word_FLess_any a b w
  have hx : arC o a b = less a b := by unfold arC; rw [if_neg ho, if_neg c4, if_neg c5, if_neg c6, if_neg c7, if_neg c8, if_neg c9, if_neg c10]
  rw [hx]
  generalize less a b = x at *
  clear hx ho c4 c5 c6 c7 c8 c9 c10
  go_enter Try.func24, Try.ntmps24
  go_wp2_with fail
  refine k.mono ?_
  rintro e W' ⟨rfl, rfl⟩
  go_wp2_with fail
  go_ret
  exact ⟨rfl, Below.refl _ _⟩
set_option maxHeartbeats 2000000 in
theorem cfix_any (bx : Nat) (c : Cp) (v : Value) (r : List Value) (w : World) (hX : XAt bx c v r w) :
    Calls Try.prog 26 #[.pointer (some ⟨bx, 0, none⟩)] w fun e w' => (toE c.a ≠ 0 ∧ e = .panicked (thr 36) ∧ w' = w) ∨ (toE c.a = 0 ∧ (∃ q, e = .returned q) ∧ XAt bx { c with a := toV c.a } v r w' ∧ Sole bx w w') := by
  have k := word_ToInt_any c.a w
  have y3 := hX.a
  have yf := hX.free (i := 3) (by decide)
  obtain ⟨P, hP⟩ : ∃ P : Ending → World → Prop, (fun e w' => (toE c.a ≠ 0 ∧ e = .panicked (thr 36) ∧ w' = w) ∨ (toE c.a = 0 ∧ (∃ q, e = .returned q) ∧ XAt bx { c with a := toV c.a } v r w' ∧ Sole bx w w')) = P := ⟨_, rfl⟩
  rw [hP]
  replace hP : Aside ((fun e w' => (toE c.a ≠ 0 ∧ e = .panicked (thr 36) ∧ w' = w) ∨ (toE c.a = 0 ∧ (∃ q, e = .returned q) ∧ XAt bx { c with a := toV c.a } v r w' ∧ Sole bx w w')) = P) := hP
  by_cases h : toE c.a = 0
  · have hX2 := hX.setA (toV c.a)
    have hS := (Sole.of (bx := bx) (Below.refl w.heap.size w)).set 3 (.int .i64 (toV c.a))
    have hp : ∀ q, P (.returned q) (w.setCell ⟨bx, 3, none⟩ (.int .i64 (toV c.a))) := fun q => by rw [← hP.out]; exact .inr ⟨h, ⟨q, rfl⟩, hX2, hS⟩
    rw [h] at k
    clear hP hX2 hS h hX
    generalize toV c.a = x at *
    go_enter Try.func26, Try.ntmps26
    go_wp2_with fail
    refine k.mono ?_
    rintro e W1 ⟨rfl, rfl⟩
    go_wp2_with fail
    refine (need_ok 36 W1).mono ?_
    rintro e W2 ⟨rfl, rfl⟩
    go_wp2_with fail
    refine bodyPost_end (v := .tuple #[]) (by simp [results, Try.results26, go_sem]) rfl ?_
    exact hp _
  · have hp : P (.panicked (thr 36)) w := by rw [← hP.out]; exact .inl ⟨h, rfl, rfl⟩
    have q : (toE c.a == 0) = false := by simpa using h
    clear hP h hX
    generalize toE c.a = ee at *
    go_enter Try.func26, Try.ntmps26
    go_wp2_with fail
    refine k.mono ?_
    rintro e W1 ⟨rfl, rfl⟩
    go_wp2_with fail
    refine (need_no 36 W1).mono ?_
    rintro e W2 ⟨rfl, rfl⟩
    go_wp2_with fail
    exact diedC hp
set_option maxHeartbeats 2000000 in
theorem center_any (bx : Nat) (c : Cp) (v : Value) (r : List Value) (f : Fr) (w : World) (hX : XAt bx c v r w) :
    Calls Try.prog 56 #[.pointer (some ⟨bx, 0, none⟩), .agg (frc f).toArray] w fun e w' => (∃ q, e = .returned q) ∧ XAt bx { c with seg := f.s, off := f.f, ring := f.r } v r w' ∧ Sole bx w w' := by
  have hf0 := blkl_alloc w (frc f).toArray 52
  have hB0 := alloc_below w (.cells (frc f).toArray 52)
  have hX0 := hX.keep hB0
  have hbx := hX.lt
  replace hf0 : BlkL w.heap.size (frc f) (w.alloc (.cells #[.int .i64 f.s, .int .i64 f.f, .int .i64 f.r] 52)) := hf0
  replace hB0 : Below w.heap.size w (w.alloc (.cells #[.int .i64 f.s, .int .i64 f.f, .int .i64 f.r] 52)) := hB0
  replace hX0 : XAt bx c v r (w.alloc (.cells #[.int .i64 f.s, .int .i64 f.f, .int .i64 f.r] 52)) := hX0
  clear hX
  have hfe : (frc f).toArray = #[.int .i64 f.s, .int .i64 f.f, .int .i64 f.r] := rfl
  rw [hfe]
  go_enter Try.func56, Try.ntmps56
  go_upto_region 1 with fail
  generalize w.alloc (.cells #[.int .i64 f.s, .int .i64 f.f, .int .i64 f.r] 52) = Z at *
  have hdr := (Below.refl Z.heap.size Z).drew
  have hX1 := hX0.keep hdr
  have hf1 := stab_blk _ _ _ _ hf0 hdr
  have hO1 := Sole.of (bx := bx) (Below.then hB0 hdr)
  clear hdr hX0 hf0 hB0
  refine wp_region_held_drew (S := (BlkL w.heap.size (frc f))) (by kernel_rfl) (by exact hf1) ?_
  intro hHeld
  generalize Z.drew = w0 at *
  refine wpAnyH_take (i := 0) (v := ?_) (by simp only [gA, gB, gC]; rfl) (by kernel_rfl) (by kernel_rfl) (by kernel_rfl) (by exact fun _ _ _ h => h) (Or.inl ⟨by rfl, ?_⟩) (by assumption) ?_; rotate_left; (focus (intro w hSw; (try dsimp only at hSw); go_simp; try with_reducible rfl)); (try simp only [Act.put, sA, sB, sC])
  refine wpAnyH_take (i := 1) (v := ?_) (by simp only [gA, gB, gC]; rfl) (by kernel_rfl) (by kernel_rfl) (by kernel_rfl) (by exact fun _ _ _ h => h) (Or.inl ⟨by rfl, ?_⟩) (by assumption) ?_; rotate_left; (focus (intro w hSw; (try dsimp only at hSw); go_simp; try with_reducible rfl)); (try simp only [Act.put, sA, sB, sC])
  refine wpAnyH_take (i := 2) (v := ?_) (by simp only [gA, gB, gC]; rfl) (by kernel_rfl) (by kernel_rfl) (by kernel_rfl) (by exact fun _ _ _ h => h) (Or.inl ⟨by rfl, ?_⟩) (by assumption) ?_; rotate_left; (focus (intro w hSw; (try dsimp only at hSw); go_simp; try with_reducible rfl)); (try simp only [Act.put, sA, sB, sC])
  refine wpAnyH_take (i := 3) (v := ?_) (by simp only [gA, gB, gC]; rfl) (by kernel_rfl) (by kernel_rfl) (by kernel_rfl) (by exact fun _ _ _ h => h) (Or.inl ⟨by rfl, ?_⟩) (by assumption) ?_; rotate_left; (focus (intro w hSw; (try dsimp only at hSw); go_simp; try with_reducible rfl)); (try simp only [Act.put, sA, sB, sC])
  refine wpAnyH_take (i := 4) (v := _) (by simp only [gA, gB, gC]; rfl) (by kernel_rfl) (by kernel_rfl) (by kernel_rfl) (by exact fun _ _ _ h => h) (yields_cellI (by rfl) _ rfl ⟨w.heap.size, 0, none⟩ rfl (.int .i64 f.s) (fun _ s => (s.1 0 _ rfl).1) intI_load) (by assumption) ?_; (try simp only [Act.put, sA, sB, sC])
  refine wpAnyH_take (i := 5) (v := ?_) (by simp only [gA, gB, gC]; rfl) (by kernel_rfl) (by kernel_rfl) (by kernel_rfl) (by exact fun _ _ _ h => h) (Or.inl ⟨by rfl, ?_⟩) (by assumption) ?_; rotate_left; (focus (intro w hSw; (try dsimp only at hSw); go_simp; try with_reducible rfl)); (try simp only [Act.put, sA, sB, sC])
  refine wpAnyH_take (i := 6) (v := _) (by simp only [gA, gB, gC]; rfl) (by kernel_rfl) (by kernel_rfl) (by kernel_rfl) (by exact fun _ _ _ h => h) (yields_cellI (by rfl) _ rfl ⟨w.heap.size, 1, none⟩ rfl (.int .i64 f.f) (fun _ s => (s.1 1 _ rfl).1) intI_load) (by assumption) ?_; (try simp only [Act.put, sA, sB, sC])
  refine wpAnyH_take (i := 7) (v := ?_) (by simp only [gA, gB, gC]; rfl) (by kernel_rfl) (by kernel_rfl) (by kernel_rfl) (by exact fun _ _ _ h => h) (Or.inl ⟨by rfl, ?_⟩) (by assumption) ?_; rotate_left; (focus (intro w hSw; (try dsimp only at hSw); go_simp; try with_reducible rfl)); (try simp only [Act.put, sA, sB, sC])
  refine wpAnyH_take (i := 8) (v := _) (by simp only [gA, gB, gC]; rfl) (by kernel_rfl) (by kernel_rfl) (by kernel_rfl) (by exact fun _ _ _ h => h) (yields_cellI (by rfl) _ rfl ⟨w.heap.size, 2, none⟩ rfl (.int .i64 f.r) (fun _ s => (s.1 2 _ rfl).1) intI_load) (by assumption) ?_; (try simp only [Act.put, sA, sB, sC])
  refine wpAnyH_take (i := 9) (v := ?_) (by simp only [gA, gB, gC]; rfl) (by kernel_rfl) (by kernel_rfl) (by kernel_rfl) (by exact fun _ _ _ h => h) (Or.inl ⟨by rfl, ?_⟩) (by assumption) ?_; rotate_left; (focus (intro w hSw; (try dsimp only at hSw); go_simp; try with_reducible rfl)); (try simp only [Act.put, sA, sB, sC])
  refine wpAnyH_take (i := 10) (v := ?_) (by simp only [gA, gB, gC]; rfl) (by kernel_rfl) (by kernel_rfl) (by kernel_rfl) (by exact fun _ _ _ h => h) (Or.inl ⟨by rfl, ?_⟩) (by assumption) ?_; rotate_left; (focus (intro w hSw; (try dsimp only at hSw); go_simp; try with_reducible rfl)); (try simp only [Act.put, sA, sB, sC])
  refine wpAnyH_take (i := 11) (v := ?_) (by simp only [gA, gB, gC]; rfl) (by kernel_rfl) (by kernel_rfl) (by kernel_rfl) (by exact fun _ _ _ h => h) (Or.inl ⟨by rfl, ?_⟩) (by assumption) ?_; rotate_left; (focus (intro w hSw; (try dsimp only at hSw); go_simp; try with_reducible rfl)); (try simp only [Act.put, sA, sB, sC])
  refine wpAnyH_ready (rs := [12]) (by kernel_rfl) (by simp) ?_
  refine AllReadyH.cons (by simp only [gA, gB, gC]; rfl) (fun K hK => ?_) AllReadyH.nil
  have hX2 := hX1.setSeg f.s
  have hO2 := hO1.set 0 (.int .i64 f.s)
  have hf2 := far_blk hf1 (show bx ≠ w.heap.size by omega) 0 (.int .i64 f.s)
  refine step_st rfl _ _ rfl ⟨bx, 0, none⟩ rfl (.int .i64 f.s) rfl (int_store _ _ _ _ hX1.seg (hX1.free (by decide))) ?_
  (try simp only [Act.put, sA, sB, sC])
  refine hK.out _ _ (hf2) ?_
  clear hHeld hK
  intro hHeld
  (try simp only [Act.put, sA, sB, sC])
  refine wpAnyH_take (i := 13) (v := ?_) (by simp only [gA, gB, gC]; rfl) (by kernel_rfl) (by kernel_rfl) (by kernel_rfl) (by exact fun _ _ _ h => h) (Or.inl ⟨by rfl, ?_⟩) (by assumption) ?_; rotate_left; (focus (intro w hSw; (try dsimp only at hSw); go_simp; try with_reducible rfl)); (try simp only [Act.put, sA, sB, sC])
  refine wpAnyH_take (i := 14) (v := ?_) (by simp only [gA, gB, gC]; rfl) (by kernel_rfl) (by kernel_rfl) (by kernel_rfl) (by exact fun _ _ _ h => h) (Or.inl ⟨by rfl, ?_⟩) (by assumption) ?_; rotate_left; (focus (intro w hSw; (try dsimp only at hSw); go_simp; try with_reducible rfl)); (try simp only [Act.put, sA, sB, sC])
  refine wpAnyH_take (i := 15) (v := ?_) (by simp only [gA, gB, gC]; rfl) (by kernel_rfl) (by kernel_rfl) (by kernel_rfl) (by exact fun _ _ _ h => h) (Or.inl ⟨by rfl, ?_⟩) (by assumption) ?_; rotate_left; (focus (intro w hSw; (try dsimp only at hSw); go_simp; try with_reducible rfl)); (try simp only [Act.put, sA, sB, sC])
  refine wpAnyH_ready (rs := [16]) (by kernel_rfl) (by simp) ?_
  refine AllReadyH.cons (by simp only [gA, gB, gC]; rfl) (fun K hK => ?_) AllReadyH.nil
  have hX3 := hX2.setOff f.f
  have hO3 := hO2.set 1 (.int .i64 f.f)
  have hf3 := far_blk hf2 (show bx ≠ w.heap.size by omega) 1 (.int .i64 f.f)
  refine step_st rfl _ _ rfl ⟨bx, 1, none⟩ rfl (.int .i64 f.f) rfl (int_store _ _ _ _ hX2.off (hX2.free (by decide))) ?_
  (try simp only [Act.put, sA, sB, sC])
  refine hK.out _ _ (hf3) ?_
  clear hHeld hK
  intro hHeld
  (try simp only [Act.put, sA, sB, sC])
  refine wpAnyH_take (i := 17) (v := ?_) (by simp only [gA, gB, gC]; rfl) (by kernel_rfl) (by kernel_rfl) (by kernel_rfl) (by exact fun _ _ _ h => h) (Or.inl ⟨by rfl, ?_⟩) (by assumption) ?_; rotate_left; (focus (intro w hSw; (try dsimp only at hSw); go_simp; try with_reducible rfl)); (try simp only [Act.put, sA, sB, sC])
  refine wpAnyH_take (i := 18) (v := ?_) (by simp only [gA, gB, gC]; rfl) (by kernel_rfl) (by kernel_rfl) (by kernel_rfl) (by exact fun _ _ _ h => h) (Or.inl ⟨by rfl, ?_⟩) (by assumption) ?_; rotate_left; (focus (intro w hSw; (try dsimp only at hSw); go_simp; try with_reducible rfl)); (try simp only [Act.put, sA, sB, sC])
  refine wpAnyH_take (i := 19) (v := ?_) (by simp only [gA, gB, gC]; rfl) (by kernel_rfl) (by kernel_rfl) (by kernel_rfl) (by exact fun _ _ _ h => h) (Or.inl ⟨by rfl, ?_⟩) (by assumption) ?_; rotate_left; (focus (intro w hSw; (try dsimp only at hSw); go_simp; try with_reducible rfl)); (try simp only [Act.put, sA, sB, sC])
  refine wpAnyH_ready (rs := [20]) (by kernel_rfl) (by simp) ?_
  refine AllReadyH.cons (by simp only [gA, gB, gC]; rfl) (fun K hK => ?_) AllReadyH.nil
  have hX4 := hX3.setRing f.r
  have hO4 := hO3.set 2 (.int .i64 f.r)
  have hf4 := far_blk hf3 (show bx ≠ w.heap.size by omega) 2 (.int .i64 f.r)
  refine step_st rfl _ _ rfl ⟨bx, 2, none⟩ rfl (.int .i64 f.r) rfl (int_store _ _ _ _ hX3.ring (hX3.free (by decide))) ?_
  (try simp only [Act.put, sA, sB, sC])
  refine hK.out _ _ (hf4) ?_
  clear hHeld hK
  intro hHeld
  (try simp only [Act.put, sA, sB, sC])
  refine wpAnyH_done (by kernel_rfl) ?_ _
  go_wp2_with fail
  refine bodyPost_end (v := .tuple #[]) (by simp [results, Try.results56, go_sem]) rfl ?_
  exact ⟨⟨_, rfl⟩, hX4, hO4⟩
theorem xraise_step {b : Nat} {c : Cp} {v : Value} {r : List Value} {W : World} (h4 : c.ps.length = 4) (R : Int) {k : Nat} (hk : k < 4) (h : XAt b (raiseK c R k) v r W) :
    W.cell? ⟨b, 4 + k * 3 + 2, none⟩ = some (.int .i64 (c.ps.getD k ⟨0, 0, 0⟩).r) ∧ W.frozen? ⟨b, 4 + k * 3 + 2, none⟩ = false ∧ XAt b (raiseK c R (k + 1)) v r (W.setCell ⟨b, 4 + k * 3 + 2, none⟩ (.int .i64 (gmax (c.ps.getD k ⟨0, 0, 0⟩).r R))) := by
  have hidx := st_ptr (c := raiseK c R k) (v := v) (raise_len h4 R k) hk (j := 2) (by decide)
  rw [raise_ptr h4 R hk] at hidx
  have hc := h.cells (i := 4 + k * 3 + 2) (hidx.trans rfl)
  exact ⟨hc.1, hc.2, h.put (by omega) _ (raise_len h4 R (k + 1)) (raise_step h4 v R hk)⟩
set_option maxRecDepth 8000 in
set_option maxHeartbeats 2000000 in
theorem cweaken_any (bx : Nat) (c : Cp) (v : Value) (r : List Value) (R : Int) (w : World) (hX : XAt bx c v r w) :
    Calls Try.prog 57 #[.pointer (some ⟨bx, 0, none⟩), .int .i64 R] w fun e w' => (∃ q, e = .returned q) ∧ XAt bx (raiseC c R) v r w' ∧ Sole bx w w' := by
  have h4 := hX.ps
  have hE : Aside (∀ W, XAt bx (raiseK c R 4) v r W → XAt bx (raiseC c R) v r W) := by intro W h; rw [raise_four h4] at h; exact h
  rw [← raise_zero c R] at hX
  have hS := Sole.of (bx := bx) (Below.refl w.heap.size w)
  go_enter Try.func57, Try.ntmps57
  go_wp2_with fail
  go_loopw [5] (fun t5 wr => ∃ k : Nat, k ≤ 4 ∧ t5 = .int .i64 (k : Int) ∧ XAt bx (raiseK c R k) v r wr ∧ Sole bx w wr) (fun t5 _ => 4 - (Go.RowKit.intOf t5).toNat)
  case atStart => exact ⟨0, by omega, rfl, hX, hS⟩
  case round =>
  clear hX hS
  obtain ⟨k, hk, rfl, hX, hS⟩ := hrel
  by_cases hk4 : k < 4
  · have i1 : (k : Int) < 4 := by omega
    have i2 : ¬ (k : Int) < 0 := by omega
    go_upto_region 3 with fail
    have hdr := (Below.refl wr.heap.size wr).drew
    obtain ⟨hc1, hf1, hX2⟩ := xraise_step h4 R hk4 (hX.keep hdr)
    have hS2 := (hS.trans (Sole.of hdr)).set (4 + k * 3 + 2) (.int .i64 (gmax (c.ps.getD k ⟨0, 0, 0⟩).r R))
    generalize c.ps.getD k ⟨0, 0, 0⟩ = p at *
    obtain ⟨G, hG⟩ : ∃ G, gmax p.r R = G := ⟨_, rfl⟩
    rw [hG] at hX2 hS2
    have hgm : (if p.r < R then R else p.r) = G := hG
    clear hX hS hdr hG
    refine wp_region_held_drew (S := (fun _ => True)) (by kernel_rfl) (by trivial) ?_
    intro hHeld
    generalize wr.drew = w0 at *
    refine wpAnyH_take (i := 0) (v := ?_) (by simp only [gA, gB, gC]; rfl) (by kernel_rfl) (by kernel_rfl) (by kernel_rfl) (by exact fun _ _ _ h => h) (Or.inl ⟨by rfl, ?_⟩) (by assumption) ?_; rotate_left; (focus (intro w hSw; (try dsimp only at hSw); go_simp; try with_reducible rfl)); (try simp only [Act.put, sA, sB, sC])
    refine wpAnyH_take (i := 1) (v := ?_) (by simp only [gA, gB, gC]; rfl) (by kernel_rfl) (by kernel_rfl) (by kernel_rfl) (by exact fun _ _ _ h => h) (Or.inl ⟨by rfl, ?_⟩) (by assumption) ?_; rotate_left; (focus (intro w hSw; (try dsimp only at hSw); go_simp; try with_reducible rfl)); (try simp only [Act.put, sA, sB, sC])
    refine wpAnyH_take (i := 2) (v := ?_) (by simp only [gA, gB, gC]; rfl) (by kernel_rfl) (by kernel_rfl) (by kernel_rfl) (by exact fun _ _ _ h => h) (Or.inl ⟨by rfl, ?_⟩) (by assumption) ?_; rotate_left; (focus (intro w hSw; (try dsimp only at hSw); go_simp; try with_reducible rfl)); (try simp only [Act.put, sA, sB, sC])
    refine wpAnyH_take (i := 3) (v := ?_) (by simp only [gA, gB, gC]; rfl) (by kernel_rfl) (by kernel_rfl) (by kernel_rfl) (by exact fun _ _ _ h => h) (Or.inl ⟨by rfl, ?_⟩) (by assumption) ?_; rotate_left; (focus (intro w hSw; (try dsimp only at hSw); go_simp; try with_reducible rfl)); (try simp only [Act.put, sA, sB, sC])
    refine wpAnyH_take (i := 4) (v := ?_) (by simp only [gA, gB, gC]; rfl) (by kernel_rfl) (by kernel_rfl) (by kernel_rfl) (by exact fun _ _ _ h => h) (Or.inl ⟨by rfl, ?_⟩) (by assumption) ?_; rotate_left; (focus (intro w hSw; (try dsimp only at hSw); go_simp; try with_reducible rfl)); (try simp only [Act.put, sA, sB, sC])
    refine wpAnyH_take (i := 5) (v := ?_) (by simp only [gA, gB, gC]; rfl) (by kernel_rfl) (by kernel_rfl) (by kernel_rfl) (by exact fun _ _ _ h => h) (Or.inl ⟨by rfl, ?_⟩) (by assumption) ?_; rotate_left; (focus (intro w hSw; (try dsimp only at hSw); go_simp; try with_reducible rfl)); (try simp only [Act.put, sA, sB, sC])
    refine wpAnyH_take (i := 6) (v := ?_) (by simp only [gA, gB, gC]; rfl) (by kernel_rfl) (by kernel_rfl) (by kernel_rfl) (by exact fun _ _ _ h => h) (Or.inl ⟨by rfl, ?_⟩) (by assumption) ?_; rotate_left; (focus (intro w hSw; (try dsimp only at hSw); go_simp; try with_reducible rfl)); (try simp only [Act.put, sA, sB, sC])
    refine wpAnyH_take (i := 7) (v := ?_) (by simp only [gA, gB, gC]; rfl) (by kernel_rfl) (by kernel_rfl) (by kernel_rfl) (by exact fun _ _ _ h => h) (Or.inl ⟨by rfl, ?_⟩) (by assumption) ?_; rotate_left; (focus (intro w hSw; (try dsimp only at hSw); go_simp; try with_reducible rfl)); (try simp only [Act.put, sA, sB, sC])
    refine wpAnyH_take (i := 8) (v := ?_) (by simp only [gA, gB, gC]; rfl) (by kernel_rfl) (by kernel_rfl) (by kernel_rfl) (by exact fun _ _ _ h => h) (Or.inl ⟨by rfl, ?_⟩) (by assumption) ?_; rotate_left; (focus (intro w hSw; (try dsimp only at hSw); go_simp; try with_reducible rfl)); (try simp only [Act.put, sA, sB, sC])
    refine wpAnyH_take (i := 10) (v := ?_) (by simp only [gA, gB, gC]; rfl) (by kernel_rfl) (by kernel_rfl) (by kernel_rfl) (by exact fun _ _ _ h => h) (Or.inl ⟨by rfl, ?_⟩) (by assumption) ?_; rotate_left; (focus (intro w hSw; (try dsimp only at hSw); go_simp; try with_reducible rfl)); (try simp only [Act.put, sA, sB, sC])
    refine wpAnyH_take (i := 12) (v := ?_) (by simp only [gA, gB, gC]; rfl) (by kernel_rfl) (by kernel_rfl) (by kernel_rfl) (by exact fun _ _ _ h => h) (Or.inl ⟨by rfl, ?_⟩) (by assumption) ?_; rotate_left; (focus (intro w hSw; (try dsimp only at hSw); go_simp; try with_reducible rfl)); (try simp only [Act.put, sA, sB, sC])
    refine wpAnyH_take (i := 13) (v := ?_) (by simp only [gA, gB, gC]; rfl) (by kernel_rfl) (by kernel_rfl) (by kernel_rfl) (by exact fun _ _ _ h => h) (Or.inl ⟨by rfl, ?_⟩) (by assumption) ?_; rotate_left; (focus (intro w hSw; (try dsimp only at hSw); go_simp; try with_reducible rfl)); (try simp only [Act.put, sA, sB, sC])
    refine wpAnyH_take (i := 14) (v := ?_) (by simp only [gA, gB, gC]; rfl) (by kernel_rfl) (by kernel_rfl) (by kernel_rfl) (by exact fun _ _ _ h => h) (Or.inl ⟨by rfl, ?_⟩) (by assumption) ?_; rotate_left; (focus (intro w hSw; (try dsimp only at hSw); go_simp; try with_reducible rfl)); (try simp only [Act.put, sA, sB, sC])
    refine wpAnyH_ready (rs := [9]) (by kernel_rfl) (by simp) ?_
    refine AllReadyH.cons (by simp only [gA, gB, gC]; rfl) (fun K hK => ?_) AllReadyH.nil
    refine step_oneJ rfl _ rfl ⟨bx, 4 + k * 3 + 2, none⟩ rfl (.int .i64 p.r) hc1 intI_load ?_
    (try simp only [Act.put, sA, sB, sC])
    refine hK.out _ _ (trivial) ?_
    clear hHeld hK
    intro hHeld
    (try simp only [Act.put, sA, sB, sC])
    refine wpAnyH_take (i := 11) (v := ?_) (by simp only [gA, gB, gC]; rfl) (by kernel_rfl) (by kernel_rfl) (by kernel_rfl) (by exact fun _ _ _ h => h) (Or.inl ⟨by rfl, ?_⟩) (by assumption) ?_; rotate_left; (focus (intro w hSw; (try dsimp only at hSw); go_simp; try with_reducible rfl)); (try simp only [Act.put, sA, sB, sC])
    refine wpAnyH_take (i := 15) (v := ?_) (by simp only [gA, gB, gC]; rfl) (by kernel_rfl) (by kernel_rfl) (by kernel_rfl) (by exact fun _ _ _ h => h) (Or.inl ⟨by rfl, ?_⟩) (by assumption) ?_; rotate_left; (focus (intro w hSw; (try dsimp only at hSw); go_simp; try with_reducible rfl)); (try simp only [Act.put, sA, sB, sC])
    refine wpAnyH_take (i := 16) (v := ?_) (by simp only [gA, gB, gC]; rfl) (by kernel_rfl) (by kernel_rfl) (by kernel_rfl) (by exact fun _ _ _ h => h) (Or.inl ⟨by rfl, ?_⟩) (by assumption) ?_; rotate_left; (focus (intro w hSw; (try dsimp only at hSw); go_simp; try with_reducible rfl)); (try simp only [Act.put, sA, sB, sC])
    refine wpAnyH_ready (rs := [17]) (by kernel_rfl) (by simp) ?_
    refine AllReadyH.cons (by simp only [gA, gB, gC]; rfl) (fun K hK => ?_) AllReadyH.nil
    refine step_st rfl _ _ rfl ⟨bx, 4 + k * 3 + 2, none⟩ rfl (.int .i64 G) (by simp [Act.eval, hgm]) (int_store _ _ _ _ hc1 hf1) ?_
    (try simp only [Act.put, sA, sB, sC])
    refine hK.out _ _ (trivial) ?_
    clear hHeld hK
    intro hHeld
    (try simp only [Act.put, sA, sB, sC])
    refine wpAnyH_done (by kernel_rfl) ?_ _
    go_wp2_with fail
    exact ⟨⟨k + 1, by omega, by simp, hX2, hS2⟩, by simp [Go.RowKit.intOf]; omega⟩
  · obtain rfl : k = 4 := by omega
    have hX4 := hE.out wr hX
    clear hE hX
    go_wp2_with fail
    refine bodyPost_end (v := .tuple #[]) (by simp [results, Try.results57, go_sem]) rfl ?_
    exact ⟨⟨_, rfl⟩, hX4, hS⟩
end Go.Proofs.Ytinibccphecdfab

/-! PACKAGE cpu AS IT LANDED: jumps; pointers set and loaded. Written by mk_cpufnh.py. -/
namespace Go.Proofs.Ytinibccphecdfab
open Go.RowKit
set_option maxRecDepth 8000
set_option linter.unusedSimpArgs false
set_option linter.unusedVariables false

def jmpC (c : Cp) (i : Ins) : Cp := if i.o = 14 ∨ i.o = 15 ∧ c.a = 0 ∨ i.o = 16 ∧ c.a < 0 then { c with off := i.n } else c
set_option maxHeartbeats 4000000 in
theorem cjump_any (bx : Nat) (c : Cp) (v : Value) (r : List Value) (i : Ins) (w : World) (hX : XAt bx c v r w) :
    Calls Try.prog 27 #[.pointer (some ⟨bx, 0, none⟩), i.v] w fun e w' => (∃ q, e = .returned q) ∧ XAt bx (jmpC c i) v r w' ∧ Sole bx w w' := by
  have hi0 := blkl_alloc w (ins3 i).toArray 42
  have hB0 := alloc_below w (.cells (ins3 i).toArray 42)
  have hX0 := hX.keep hB0
  have hbx := hX.lt
  replace hi0 : BlkL w.heap.size (ins3 i) (w.alloc (.cells #[.int .i64 i.o, .int .i64 i.p, .int .i64 i.n] 42)) := hi0
  replace hB0 : Below w.heap.size w (w.alloc (.cells #[.int .i64 i.o, .int .i64 i.p, .int .i64 i.n] 42)) := hB0
  replace hX0 : XAt bx c v r (w.alloc (.cells #[.int .i64 i.o, .int .i64 i.p, .int .i64 i.n] 42)) := hX0
  have hO0 := Sole.of (bx := bx) hB0
  have x0 := (hi0.1 0 _ rfl).1
  have x2 := (hi0.1 2 _ rfl).1
  have y3 := hX0.a
  have y1 := hX0.off
  have yf := hX0.free (i := 1) (by decide)
  have hX1 := hX0.setOff i.n
  have hO1 := hO0.set 1 (.int .i64 i.n)
  obtain ⟨j, hj⟩ : ∃ j, jmpC c i = j := ⟨_, rfl⟩
  rw [hj]
  replace hj : Aside (jmpC c i = j) := hj
  clear hi0 hB0 hX
  by_cases hc : i.o = 14 ∨ i.o = 15 ∧ c.a = 0 ∨ i.o = 16 ∧ c.a < 0
  · have hjj : Aside ({ c with off := i.n } = j) := by
      show _ = _
      rw [← hj.out, jmpC, if_pos hc]
    clear hj hX0 hO0
    rcases hc with h1 | ⟨h1, h2⟩ | ⟨h1, h2⟩
    · replace h1 : Aside (i.o = 14) := h1
      go_enter Try.func27, Try.ntmps27
      go_upto_region 1 with fail
      generalize w.alloc (.cells #[.int .i64 i.o, .int .i64 i.p, .int .i64 i.n] 42) = W0 at *
      rw [h1.out] at x0
      go_wp2_with fail
      refine bodyPost_end (v := .tuple #[]) (by simp [results, Try.results27, go_sem]) rfl ?_
      exact ⟨⟨_, rfl⟩, by rw [← hjj.out]; exact hX1, hO1⟩
    · replace h1 : Aside (i.o = 15) := h1
      go_enter Try.func27, Try.ntmps27
      go_upto_region 1 with fail
      generalize w.alloc (.cells #[.int .i64 i.o, .int .i64 i.p, .int .i64 i.n] 42) = W0 at *
      rw [h1.out] at x0
      rw [h2] at y3
      go_wp2_with fail
      refine bodyPost_end (v := .tuple #[]) (by simp [results, Try.results27, go_sem]) rfl ?_
      exact ⟨⟨_, rfl⟩, by rw [← hjj.out]; exact hX1, hO1⟩
    · replace h1 : Aside (i.o = 16) := h1
      have q : ¬ (0 : Int) ≤ c.a := by omega
      go_enter Try.func27, Try.ntmps27
      go_upto_region 1 with fail
      generalize w.alloc (.cells #[.int .i64 i.o, .int .i64 i.p, .int .i64 i.n] 42) = W0 at *
      rw [h1.out] at x0
      go_wp2_with fail
      refine bodyPost_end (v := .tuple #[]) (by simp [results, Try.results27, go_sem]) rfl ?_
      exact ⟨⟨_, rfl⟩, by rw [← hjj.out]; exact hX1, hO1⟩
  · have hjj : Aside (c = j) := by
      show _ = _
      rw [← hj.out, jmpC, if_neg hc]
    clear hj hX1 hO1
    have h14 : (i.o == 14) = false := by simp; omega
    by_cases h15 : i.o = 15
    · have ha : (c.a == 0) = false := by simp; omega
      replace h15 : Aside (i.o = 15) := h15
      clear hc
      go_enter Try.func27, Try.ntmps27
      go_upto_region 1 with fail
      generalize w.alloc (.cells #[.int .i64 i.o, .int .i64 i.p, .int .i64 i.n] 42) = W0 at *
      rw [h15.out] at x0
      go_wp2_with fail
      refine bodyPost_end (v := .tuple #[]) (by simp [results, Try.results27, go_sem]) rfl ?_
      exact ⟨⟨_, rfl⟩, by rw [← hjj.out]; exact hX0, hO0⟩
    · by_cases h16 : i.o = 16
      · have ha : ¬ c.a < 0 := by omega
        have ha2 : 0 ≤ c.a := by omega
        replace h16 : Aside (i.o = 16) := h16
        clear hc
        go_enter Try.func27, Try.ntmps27
        go_upto_region 1 with fail
        generalize w.alloc (.cells #[.int .i64 i.o, .int .i64 i.p, .int .i64 i.n] 42) = W0 at *
        rw [h16.out] at x0
        go_wp2_with fail
        refine bodyPost_end (v := .tuple #[]) (by simp [results, Try.results27, go_sem]) rfl ?_
        exact ⟨⟨_, rfl⟩, by rw [← hjj.out]; exact hX0, hO0⟩
      · have q15 : (i.o == 15) = false := by simpa using h15
        have q16 : (i.o == 16) = false := by simpa using h16
        clear hc h15 h16
        go_enter Try.func27, Try.ntmps27
        go_upto_region 1 with fail
        generalize w.alloc (.cells #[.int .i64 i.o, .int .i64 i.p, .int .i64 i.n] 42) = W0 at *
        go_wp2_with fail
        refine bodyPost_end (v := .tuple #[]) (by simp [results, Try.results27, go_sem]) rfl ?_
        exact ⟨⟨_, rfl⟩, by rw [← hjj.out]; exact hX0, hO0⟩
set_option maxRecDepth 8000 in
set_option maxHeartbeats 4000000 in
theorem csetp_any (bx : Nat) (c : Cp) (v : Value) (r : List Value) (hc : c.Ok) (k : Nat) (hk : k < 4) (w : World) (hX : XAt bx c v r w) :
    Calls Try.prog 28 #[.pointer (some ⟨bx, 0, none⟩), .int .i64 (k : Int)] w fun e w' => (∃ q, e = .returned q) ∧ XAt bx { c with ps := c.ps.set k ⟨(wPtr c.a).s, (wPtr c.a).f, gmax (wPtr c.a).r c.ring⟩ } v r w' ∧ Sole bx w w' := by
  have hundP := Try.underlying25
  have hszP : (Try.prog.info? 25).map (·.size) = some 3 := by kernel_rfl
  have kd := fun (W : World) => idecp_any c.a hc.a W
  have y3 := hX.a
  have hbx := hX.lt
  generalize wPtr c.a = p at *
  have hgm : (if p.r < c.ring then c.ring else p.r) = gmax p.r c.ring := rfl
  generalize gmax p.r c.ring = G at *
  have i1 : (k : Int) < 4 := by omega
  have i2 : ¬ (k : Int) < 0 := by omega
  go_enter Try.func28, Try.ntmps28
  go_wp2_with fail
  refine (kd w).mono ?_
  rintro e W1 ⟨rfl, hb⟩
  have hp2 := blkl_alloc W1 (ptr3 p).toArray 25
  have hb2 := alloc_below W1 (.cells (ptr3 p).toArray 25)
  have hX2 := (hX.keep hb).keep hb2
  have hB2 := Below.then hb hb2
  have hlt := hb.size
  go_upto_region 1 with fail
  replace hp2 : BlkL W1.heap.size (ptr3 p) (W1.alloc (.cells #[.int .i64 p.s, .int .i64 p.f, .int .i64 p.r] 25)) := hp2
  replace hX2 : XAt bx c v r (W1.alloc (.cells #[.int .i64 p.s, .int .i64 p.f, .int .i64 p.r] 25)) := hX2
  replace hB2 : Below w.heap.size w (W1.alloc (.cells #[.int .i64 p.s, .int .i64 p.f, .int .i64 p.r] 25)) := hB2
  generalize W1.alloc (.cells #[.int .i64 p.s, .int .i64 p.f, .int .i64 p.r] 25) = Z at *
  generalize W1.heap.size = bp at *
  have hdr := (Below.refl Z.heap.size Z).drew
  have hX3 := hX2.keep hdr
  have hp3 := stab_blk _ _ _ _ hp2 hdr
  have hB3 := Below.then hB2 hdr
  clear hX hX2 hp2 hB2 hb hb2 hdr kd y3
  refine wp_region_held_drew (S := (XAt bx c v r)) (by kernel_rfl) (by exact hX3) ?_
  intro hHeld
  generalize Z.drew = w0 at *
  refine wpAnyH_take (i := 0) (v := ?_) (by simp only [gA, gB, gC]; rfl) (by kernel_rfl) (by kernel_rfl) (by kernel_rfl) (by exact fun _ _ _ h => h) (Or.inl ⟨by rfl, ?_⟩) (by assumption) ?_; rotate_left; (focus (intro w hSw; (try dsimp only at hSw); go_simp; try with_reducible rfl)); (try simp only [Act.put, sA, sB, sC])
  refine wpAnyH_take (i := 2) (v := ?_) (by simp only [gA, gB, gC]; rfl) (by kernel_rfl) (by kernel_rfl) (by kernel_rfl) (by exact fun _ _ _ h => h) (Or.inl ⟨by rfl, ?_⟩) (by assumption) ?_; rotate_left; (focus (intro w hSw; (try dsimp only at hSw); go_simp; try with_reducible rfl)); (try simp only [Act.put, sA, sB, sC])
  refine wpAnyH_take (i := 3) (v := ?_) (by simp only [gA, gB, gC]; rfl) (by kernel_rfl) (by kernel_rfl) (by kernel_rfl) (by exact fun _ _ _ h => h) (Or.inl ⟨by rfl, ?_⟩) (by assumption) ?_; rotate_left; (focus (intro w hSw; (try dsimp only at hSw); go_simp; try with_reducible rfl)); (try simp only [Act.put, sA, sB, sC])
  refine wpAnyH_take (i := 4) (v := ?_) (by simp only [gA, gB, gC]; rfl) (by kernel_rfl) (by kernel_rfl) (by kernel_rfl) (by exact fun _ _ _ h => h) (Or.inl ⟨by rfl, ?_⟩) (by assumption) ?_; rotate_left; (focus (intro w hSw; (try dsimp only at hSw); go_simp; try with_reducible rfl)); (try simp only [Act.put, sA, sB, sC])
  refine wpAnyH_take (i := 5) (v := ?_) (by simp only [gA, gB, gC]; rfl) (by kernel_rfl) (by kernel_rfl) (by kernel_rfl) (by exact fun _ _ _ h => h) (Or.inl ⟨by rfl, ?_⟩) (by assumption) ?_; rotate_left; (focus (intro w hSw; (try dsimp only at hSw); go_simp; try with_reducible rfl)); (try simp only [Act.put, sA, sB, sC])
  refine wpAnyH_take (i := 6) (v := _) (by simp only [gA, gB, gC]; rfl) (by kernel_rfl) (by kernel_rfl) (by kernel_rfl) (by exact fun _ _ _ h => h) (yields_cellI (by rfl) _ rfl ⟨bx, 2, none⟩ rfl (.int .i64 c.ring) (fun _ s => s.ring) intI_load) (by assumption) ?_; (try simp only [Act.put, sA, sB, sC])
  refine wpAnyH_ready (rs := [1]) (by kernel_rfl) (by simp) ?_
  refine AllReadyH.cons (by simp only [gA, gB, gC]; rfl) (fun K hK => ?_) AllReadyH.nil
  refine step_oneJ rfl _ rfl ⟨bp, 2, none⟩ rfl (.int .i64 p.r) (hp3.1 2 _ rfl).1 intI_load ?_
  (try simp only [Act.put, sA, sB, sC])
  refine hK.out _ _ (hX3) ?_
  clear hHeld hK
  intro hHeld
  (try simp only [Act.put, sA, sB, sC])
  refine wpAnyH_take (i := 7) (v := ?_) (by simp only [gA, gB, gC]; rfl) (by kernel_rfl) (by kernel_rfl) (by kernel_rfl) (by exact fun _ _ _ h => h) (Or.inl ⟨by rfl, ?_⟩) (by assumption) ?_; rotate_left; (focus (intro w hSw; (try dsimp only at hSw); go_simp; try with_reducible rfl)); (try simp only [Act.put, sA, sB, sC])
  refine wpAnyH_take (i := 8) (v := ?_) (by simp only [gA, gB, gC]; rfl) (by kernel_rfl) (by kernel_rfl) (by kernel_rfl) (by exact fun _ _ _ h => h) (Or.inl ⟨by rfl, ?_⟩) (by assumption) ?_; rotate_left; (focus (intro w hSw; (try dsimp only at hSw); go_simp; try with_reducible rfl)); (try simp only [Act.put, sA, sB, sC])
  refine wpAnyH_ready (rs := [9]) (by kernel_rfl) (by simp) ?_
  refine AllReadyH.cons (by simp only [gA, gB, gC]; rfl) (fun K hK => ?_) AllReadyH.nil
  have hp4 := hp3.1.set 2 (.int .i64 G) (by show 2 < 3; decide)
  have hX4 : XAt bx c v r (w0.setCell ⟨bp, 2, none⟩ (.int .i64 G)) := hX3.same (heap_setCell_other _ ⟨bp, 2, none⟩ bx _ (by show bx ≠ bp; omega)) (by simp)
  have hB4 := hB3.setCell (p := ⟨bp, 2, none⟩) hlt (.int .i64 G)
  refine step_st rfl _ _ rfl ⟨bp, 2, none⟩ rfl (.int .i64 G) (by simp [Act.eval, hgm]) (int_store _ _ _ _ (hp3.1 2 _ rfl).1 (hp3.1 2 _ rfl).2) ?_
  (try simp only [Act.put, sA, sB, sC])
  refine hK.out _ _ (hX4) ?_
  clear hHeld hK
  intro hHeld
  replace hp4 : BlkL bp (ptr3 ⟨p.s, p.f, G⟩) (w0.setCell ⟨bp, 2, none⟩ (.int .i64 G)) := ⟨hp4, hp4.lt (List.getElem?_eq_getElem (by show 0 < 3; decide))⟩
  generalize w0.setCell ⟨bp, 2, none⟩ (.int .i64 G) = W5 at *
  clear hX3 hp3 hB3
  (try simp only [Act.put, sA, sB, sC])
  refine wpAnyH_done (by kernel_rfl) ?_ _
  go_upto_region 2 with fail
  have hdr := (Below.refl W5.heap.size W5).drew
  have hX6 := hX4.keep hdr
  have hp6 := stab_blk _ _ _ _ hp4 hdr
  have hO6 := Sole.of (bx := bx) (Below.then hB4 hdr)
  clear hX4 hp4 hB4 hdr
  refine wp_region_held_drew (S := (BlkL bp (ptr3 ⟨p.s, p.f, G⟩))) (by kernel_rfl) (by exact hp6) ?_
  intro hHeld
  generalize W5.drew = w6 at *
  refine wpAnyH_take (i := 0) (v := ?_) (by simp only [gA, gB, gC]; rfl) (by kernel_rfl) (by kernel_rfl) (by kernel_rfl) (by exact fun _ _ _ h => h) (Or.inl ⟨by rfl, ?_⟩) (by assumption) ?_; rotate_left; (focus (intro w hSw; (try dsimp only at hSw); go_simp; try with_reducible rfl)); (try simp only [Act.put, sA, sB, sC])
  refine wpAnyH_take (i := 1) (v := ?_) (by simp only [gA, gB, gC]; rfl) (by kernel_rfl) (by kernel_rfl) (by kernel_rfl) (by exact fun _ _ _ h => h) (Or.inl ⟨by rfl, ?_⟩) (by assumption) ?_; rotate_left; (focus (intro w hSw; (try dsimp only at hSw); go_simp; try with_reducible rfl)); (try simp only [Act.put, sA, sB, sC])
  refine wpAnyH_take (i := 2) (v := _) (by simp only [gA, gB, gC]; rfl) (by kernel_rfl) (by kernel_rfl) (by kernel_rfl) (by exact fun _ _ _ h => h) (yields_row (by rfl) _ rfl bp rfl (ptr3 ⟨p.s, p.f, G⟩) (fun _ s => s.range) hundP rfl hszP) (by assumption) ?_; (try simp only [Act.put, sA, sB, sC])
  refine wpAnyH_take (i := 3) (v := ?_) (by simp only [gA, gB, gC]; rfl) (by kernel_rfl) (by kernel_rfl) (by kernel_rfl) (by exact fun _ _ _ h => h) (Or.inl ⟨by rfl, ?_⟩) (by assumption) ?_; rotate_left; (focus (intro w hSw; (try dsimp only at hSw); go_simp; try with_reducible rfl)); (try simp only [Act.put, sA, sB, sC])
  refine wpAnyH_take (i := 4) (v := ?_) (by simp only [gA, gB, gC]; rfl) (by kernel_rfl) (by kernel_rfl) (by kernel_rfl) (by exact fun _ _ _ h => h) (Or.inl ⟨by rfl, ?_⟩) (by assumption) ?_; rotate_left; (focus (intro w hSw; (try dsimp only at hSw); go_simp; try with_reducible rfl)); (try simp only [Act.put, sA, sB, sC])
  refine wpAnyH_take (i := 5) (v := ?_) (by simp only [gA, gB, gC]; rfl) (by kernel_rfl) (by kernel_rfl) (by kernel_rfl) (by exact fun _ _ _ h => h) (Or.inl ⟨by rfl, ?_⟩) (by assumption) ?_; rotate_left; (focus (intro w hSw; (try dsimp only at hSw); go_simp; try with_reducible rfl)); (try simp only [Act.put, sA, sB, sC])
  refine wpAnyH_take (i := 6) (v := ?_) (by simp only [gA, gB, gC]; rfl) (by kernel_rfl) (by kernel_rfl) (by kernel_rfl) (by exact fun _ _ _ h => h) (Or.inl ⟨by rfl, ?_⟩) (by assumption) ?_; rotate_left; (focus (intro w hSw; (try dsimp only at hSw); go_simp; try with_reducible rfl)); (try simp only [Act.put, sA, sB, sC])
  refine wpAnyH_ready (rs := [7]) (by kernel_rfl) (by simp) ?_
  refine AllReadyH.cons (by simp only [gA, gB, gC]; rfl) (fun K hK => ?_) AllReadyH.nil
  obtain ⟨W7, hW7, hth7, hX7, -, hot7⟩ := hX6.setPtr hk ⟨p.s, p.f, G⟩
  have hO7 : Sole bx w W7 := by rw [← hW7]; exact hO6.cells (.inl rfl) _ _
  have hp7 : BlkL bp (ptr3 ⟨p.s, p.f, G⟩) W7 := ⟨hp6.1.same (hot7 _ (by omega)), Nat.lt_of_lt_of_le hp6.2 (by rw [← hW7]; exact (Below.cells (B := 0) (Nat.zero_le _) _ _ (Below.refl 0 w6)).size)⟩
  refine step_store_part rfl _ _ rfl bx (4 + k * 3) rfl (ptr3 ⟨p.s, p.f, G⟩) rfl hth7 hszP (ptr3J_one _) hW7 ?_
  (try simp only [Act.put, sA, sB, sC])
  refine hK.out _ _ (hp7) ?_
  clear hHeld hK
  intro hHeld
  (try simp only [Act.put, sA, sB, sC])
  refine wpAnyH_done (by kernel_rfl) ?_ _
  go_wp2_with fail
  refine bodyPost_end (v := .tuple #[]) (by simp [results, Try.results28, go_sem]) rfl ?_
  exact ⟨⟨_, rfl⟩, hX7, hO7⟩
end Go.Proofs.Ytinibccphecdfab

/-! PACKAGE cpu AS IT LANDED: pointers loaded. Written by mk_cpufnh.py. -/
namespace Go.Proofs.Ytinibccphecdfab
open Go.RowKit
set_option maxRecDepth 8000
set_option linter.unusedSimpArgs false
set_option linter.unusedVariables false

/-- What loadPointer's last region keeps. -/
structure SL (bi bf ba : Nat) (i : Ins) (x : Rg) (q : Ptr) (W : World) : Prop where
  i : BlkL bi (ins3 i) W
  x : BlkL bf (rg4 x) W
  q : BlkL ba (ptr3 q) W
theorem SL.keep {bi bf ba : Nat} {i : Ins} {x : Rg} {q : Ptr} {W W' : World} (h : SL bi bf ba i x q W) (hb : Below W.heap.size W W') : SL bi bf ba i x q W' := ⟨stab_blk _ _ _ _ h.i hb, stab_blk _ _ _ _ h.x hb, stab_blk _ _ _ _ h.q hb⟩
/-- What a load of a pointer comes to. -/
def LpP (bx : Nat) (c : Cp) (v : Value) (r : List Value) (k : Nat) (P : Ptr) (E : Int) (w : World) (e : Ending) (w' : World) : Prop :=
  (E ≠ 0 ∧ e = .panicked (thr E) ∧ Below w.heap.size w w') ∨ (E = 0 ∧ (∃ q, e = .returned q) ∧ XAt bx { c with ps := c.ps.set k P } v r w' ∧ Sole bx w w')
set_option maxRecDepth 8000 in
set_option maxHeartbeats 4000000 in
theorem cldp_any (bm bx : Nat) (a : Option Addr) (cap : Nat) (m : List PG) (hm : MG m) (c : Cp) (v : Value) (r : List Value) (hc : c.Ok) (i : Ins) (hi : insE i = 0) (k : Nat) (hk : i.p = (k : Int)) (hk4 : k < 4) (w : World) (hM : MAt bm a cap m w) (hX : XAt bx c v (memI bm :: r) w) :
    Calls Try.prog 29 #[.pointer (some ⟨bx, 0, none⟩), i.v] w (LpP bx c v (memI bm :: r) k (follow (wPtr (rdW c (m.map (·.g)) i)) (mSeg c (m.map (·.g)) i).rg (mRing c i)) (rdE c (m.map (·.g)) i) w) := by
  have hundP := Try.underlying25
  have hszP : (Try.prog.info? 25).map (·.size) = some 3 := by kernel_rfl
  have hundI := Try.underlying42
  have hszI : (Try.prog.info? 42).map (·.size) = some 3 := by kernel_rfl
  have hundR := Try.underlying37
  have hszR : (Try.prog.info? 37).map (·.size) = some 4 := by kernel_rfl
  have hbx := hX.lt
  have kme := fun (W : World) h => cmem_any bx c v (memI bm :: r) hc i hi W h
  have krd := fun (W : World) h1 h2 => cread_any bm bx a cap m hm c v r (memP c i) (kn (m.map (·.g)) (memP c i).s) rfl (rdE c (m.map (·.g)) i) rfl W h1 h2
  have hgok : (kn (m.map (·.g)) (memP c i).s).Ok := kn_ok (fun g hg => by obtain ⟨x, hx, rfl⟩ := List.mem_map.1 hg; exact hm.ok x hx) _
  have hfit : fit64 (rdW c (m.map (·.g)) i) := wAt_fit hgok _
  have hw : wAt (mSeg c (m.map (·.g)) i) (memP c i).f = rdW c (m.map (·.g)) i := rfl
  have hsg : kn (m.map (·.g)) (memP c i).s = mSeg c (m.map (·.g)) i := rfl
  have hrr : (memP c i).r = mRing c i := rfl
  simp only [hsg] at krd
  simp only [hw] at krd
  rw [hsg] at hgok
  have kdp := fun (W : World) => idecp_any (rdW c (m.map (·.g)) i) hfit W
  generalize rdW c (m.map (·.g)) i = wd at *
  generalize rdE c (m.map (·.g)) i = E at *
  generalize (mSeg c (m.map (·.g)) i).rg = x at *
  rw [← hrr]
  generalize memP c i = q at *
  clear hw hsg hrr hgok hfit
  have kfo := fun (W : World) => follow_any (wPtr wd) x q.r W
  generalize wPtr wd = wp at *
  have hi0 := blkl_alloc w (ins3 i).toArray 42
  have hB0 := alloc_below w (.cells (ins3 i).toArray 42)
  have hX0 := hX.keep hB0
  have hM0 := hM.below hB0
  replace hi0 : BlkL w.heap.size (ins3 i) (w.alloc (.cells #[.int .i64 i.o, .int .i64 i.p, .int .i64 i.n] 42)) := hi0
  replace hB0 : Below w.heap.size w (w.alloc (.cells #[.int .i64 i.o, .int .i64 i.p, .int .i64 i.n] 42)) := hB0
  replace hX0 : XAt bx c v (memI bm :: r) (w.alloc (.cells #[.int .i64 i.o, .int .i64 i.p, .int .i64 i.n] 42)) := hX0
  replace hM0 : MAt bm a cap m (w.alloc (.cells #[.int .i64 i.o, .int .i64 i.p, .int .i64 i.n] 42)) := hM0
  replace hk : Aside (i.p = (k : Int)) := hk
  clear hX hM hm
  have kme2 : Aside (∀ W, XAt bx c v (memI bm :: r) W → Calls Try.prog 22 #[.pointer (some ⟨bx, 0, none⟩), .agg (ins3 i).toArray] W fun e w' => e = .returned (.agg (ptr3 q).toArray) ∧ Below W.heap.size W w') := kme
  clear kme
  go_enter Try.func29, Try.ntmps29
  go_upto_region 1 with fail
  generalize w.alloc (.cells #[.int .i64 i.o, .int .i64 i.p, .int .i64 i.n] 42) = W0 at *
  have hri := hi0.range
  go_wp2_with (first | (refine wpList_load_row rfl _ rfl w.heap.size rfl (ins3 i) hri hundI rfl hszI ?_) | fail)
  refine (kme2.out W0 hX0).mono ?_
  rintro e W1 ⟨rfl, hb⟩
  obtain ⟨W2, hW2, hth2, hq2, hb2⟩ := put_new W1 (ptr3 ⟨0, 0, 0⟩).toArray 25 (ptr3 q) rfl (by show 0 < 3; decide)
  have hX2 := (hX0.keep hb).keep hb2
  have hM2 := (hM0.below hb).below hb2
  have hi2 := stab_blk _ _ _ _ (stab_blk _ _ _ _ hi0 hb) hb2
  have hB2 := Below.then (Below.then hB0 hb) hb2
  have hl1 := hb.size
  have hl0 := hi0.2
  clear hX0 hM0 hi0 hB0 hb hb2 hri kme2
  go_upto_region 2 with (first | (refine wpList_store_row rfl _ _ rfl W1.heap.size rfl (ptr3 q) rfl hth2 hszP (ptr3J_one _) hW2 ?_) | fail)
  clear hW2 hth2
  have hrq := hq2.range
  have hlq := hq2.2
  generalize W1.heap.size = ba at *
  go_wp2_with (first | (refine wpList_load_row rfl _ rfl ba rfl (ptr3 q) hrq hundP rfl hszP ?_) | fail)
  refine (krd W2 hM2 hX2).mono ?_
  rintro e W3 ⟨rfl, hb⟩
  by_cases hE : E = 0
  rotate_left
  · rw [if_neg hE]
    clear krd kdp kfo
    go_wp2_with fail
    exact diedC (.inl ⟨hE, rfl, Below.then hB2 hb⟩)
  rw [if_pos hE]
  obtain ⟨W4, hW4, hth4, hx4, hb4⟩ := put_new W3 (rg4 ⟨0, 0, 0, 0⟩).toArray 37 (rg4 x) rfl (by show 0 < 4; decide)
  have hX4 := (hX2.keep hb).keep hb4
  have hi4 := stab_blk _ _ _ _ (stab_blk _ _ _ _ hi2 hb) hb4
  have hq4 := stab_blk _ _ _ _ (stab_blk _ _ _ _ hq2 hb) hb4
  have hB4 := Below.then (Below.then hB2 hb) hb4
  have hl3 := hb.size
  replace hE : Aside (E = 0) := hE
  clear hX2 hM2 hi2 hq2 hB2 hb hb4 krd hrq
  go_upto_region 3 with (first | (refine wpList_store_row rfl _ _ rfl W3.heap.size rfl (rg4 x) rfl hth4 hszR (rg4_one _) hW4 ?_) | fail)
  clear hW4 hth4
  generalize W3.heap.size = bf at *
  have hdr := (Below.refl W4.heap.size W4).drew
  have hS0 : SL w.heap.size bf ba i x q W4.drew := ⟨stab_blk _ _ _ _ hi4 hdr, stab_blk _ _ _ _ hx4 hdr, stab_blk _ _ _ _ hq4 hdr⟩
  have hX5 := hX4.keep hdr
  have hB5 := Below.then hB4 hdr
  have i1 : (k : Int) < 4 := by omega
  have i2 : ¬ (k : Int) < 0 := by omega
  clear hX4 hi4 hq4 hx4 hB4 hdr
  refine wp_region_held_drew (S := (SL w.heap.size bf ba i x q)) (by kernel_rfl) (by exact hS0) ?_
  intro hHeld
  generalize W4.drew = w0 at *
  refine wpAnyH_take (i := 0) (v := ?_) (by simp only [gA, gB, gC]; rfl) (by kernel_rfl) (by kernel_rfl) (by kernel_rfl) (by exact fun _ _ _ h => h) (Or.inl ⟨by rfl, ?_⟩) (by assumption) ?_; rotate_left; (focus (intro w hSw; (try dsimp only at hSw); go_simp; try with_reducible rfl)); (try simp only [Act.put, sA, sB, sC])
  refine wpAnyH_take (i := 1) (v := ?_) (by simp only [gA, gB, gC]; rfl) (by kernel_rfl) (by kernel_rfl) (by kernel_rfl) (by exact fun _ _ _ h => h) (Or.inl ⟨by rfl, ?_⟩) (by assumption) ?_; rotate_left; (focus (intro w hSw; (try dsimp only at hSw); go_simp; try with_reducible rfl)); (try simp only [Act.put, sA, sB, sC])
  refine wpAnyH_take (i := 2) (v := _) (by simp only [gA, gB, gC]; rfl) (by kernel_rfl) (by kernel_rfl) (by kernel_rfl) (by exact fun _ _ _ h => h) (yields_cellI (by rfl) _ rfl ⟨w.heap.size, 1, none⟩ rfl (.int .i64 (k : Int)) (fun _ s => by rw [← hk.out]; exact (s.i.1 1 _ rfl).1) intI_load) (by assumption) ?_; (try simp only [Act.put, sA, sB, sC])
  refine wpAnyH_take (i := 3) (v := ?_) (by simp only [gA, gB, gC]; rfl) (by kernel_rfl) (by kernel_rfl) (by kernel_rfl) (by exact fun _ _ _ h => h) (Or.inl ⟨by rfl, ?_⟩) (by assumption) ?_; rotate_left; (focus (intro w hSw; (try dsimp only at hSw); go_simp; try with_reducible rfl)); (try simp only [Act.put, sA, sB, sC])
  refine wpAnyH_take (i := 5) (v := _) (by simp only [gA, gB, gC]; rfl) (by kernel_rfl) (by kernel_rfl) (by kernel_rfl) (by exact fun _ _ _ h => h) (yields_row (by rfl) _ rfl bf rfl (rg4 x) (fun _ s => s.x.range) hundR rfl hszR) (by assumption) ?_; (try simp only [Act.put, sA, sB, sC])
  refine wpAnyH_take (i := 6) (v := ?_) (by simp only [gA, gB, gC]; rfl) (by kernel_rfl) (by kernel_rfl) (by kernel_rfl) (by exact fun _ _ _ h => h) (Or.inl ⟨by rfl, ?_⟩) (by assumption) ?_; rotate_left; (focus (intro w hSw; (try dsimp only at hSw); go_simp; try with_reducible rfl)); (try simp only [Act.put, sA, sB, sC])
  refine wpAnyH_take (i := 7) (v := _) (by simp only [gA, gB, gC]; rfl) (by kernel_rfl) (by kernel_rfl) (by kernel_rfl) (by exact fun _ _ _ h => h) (yields_cellI (by rfl) _ rfl ⟨ba, 2, none⟩ rfl (.int .i64 q.r) (fun _ s => (s.q.1 2 _ rfl).1) intI_load) (by assumption) ?_; (try simp only [Act.put, sA, sB, sC])
  refine wpAnyH_take (i := 9) (v := ?_) (by simp only [gA, gB, gC]; rfl) (by kernel_rfl) (by kernel_rfl) (by kernel_rfl) (by exact fun _ _ _ h => h) (Or.inl ⟨by rfl, ?_⟩) (by assumption) ?_; rotate_left; (focus (intro w hSw; (try dsimp only at hSw); go_simp; try with_reducible rfl)); (try simp only [Act.put, sA, sB, sC])
  refine wpAnyH_take (i := 10) (v := ?_) (by simp only [gA, gB, gC]; rfl) (by kernel_rfl) (by kernel_rfl) (by kernel_rfl) (by exact fun _ _ _ h => h) (Or.inl ⟨by rfl, ?_⟩) (by assumption) ?_; rotate_left; (focus (intro w hSw; (try dsimp only at hSw); go_simp; try with_reducible rfl)); (try simp only [Act.put, sA, sB, sC])
  refine wpAnyH_take (i := 11) (v := ?_) (by simp only [gA, gB, gC]; rfl) (by kernel_rfl) (by kernel_rfl) (by kernel_rfl) (by exact fun _ _ _ h => h) (Or.inl ⟨by rfl, ?_⟩) (by assumption) ?_; rotate_left; (focus (intro w hSw; (try dsimp only at hSw); go_simp; try with_reducible rfl)); (try simp only [Act.put, sA, sB, sC])
  refine wpAnyH_ready (rs := [4]) (by kernel_rfl) (by simp) ?_
  refine AllReadyH.cons (by simp only [gA, gB, gC]; rfl) (fun K hK => ?_) AllReadyH.nil
  go_simp
  go_at_call 52
  refine (kdp w0).mono ?_
  rintro e w1 ⟨rfl, hb⟩
  replace hS0 := hS0.keep hb
  replace hX5 := hX5.keep hb
  replace hB5 := Below.then hB5 hb
  clear hb
  refine hK.out _ _ (hS0) ?_
  clear hHeld hK
  intro hHeld
  (try simp only [Act.put, sA, sB, sC])
  refine wpAnyH_ready (rs := [8]) (by kernel_rfl) (by simp) ?_
  refine AllReadyH.cons (by simp only [gA, gB, gC]; rfl) (fun K hK => ?_) AllReadyH.nil
  go_simp
  go_at_call 53
  refine (kfo w1).mono ?_
  rintro e w2 ⟨rfl, hb⟩
  replace hS0 := hS0.keep hb
  replace hX5 := hX5.keep hb
  replace hB5 := Below.then hB5 hb
  clear hb
  refine hK.out _ _ (hS0) ?_
  clear hHeld hK
  intro hHeld
  (try simp only [Act.put, sA, sB, sC])
  refine wpAnyH_take (i := 12) (v := ?_) (by simp only [gA, gB, gC]; rfl) (by kernel_rfl) (by kernel_rfl) (by kernel_rfl) (by exact fun _ _ _ h => h) (Or.inl ⟨by rfl, ?_⟩) (by assumption) ?_; rotate_left; (focus (intro w hSw; (try dsimp only at hSw); go_simp; try with_reducible rfl)); (try simp only [Act.put, sA, sB, sC])
  refine wpAnyH_ready (rs := [13]) (by kernel_rfl) (by simp) ?_
  refine AllReadyH.cons (by simp only [gA, gB, gC]; rfl) (fun K hK => ?_) AllReadyH.nil
  obtain ⟨W7, hW7, hth7, hX7, -, hot7⟩ := hX5.setPtr hk4 (follow wp x q.r)
  have hO7 : Sole bx w W7 := by rw [← hW7]; exact (Sole.of (bx := bx) hB5).cells (.inl rfl) _ _
  have hs7 : w2.heap.size ≤ W7.heap.size := by rw [← hW7]; exact (Below.cells (B := 0) (Nat.zero_le _) _ _ (Below.refl 0 w2)).size
  have hS7 : SL w.heap.size bf ba i x q W7 := ⟨⟨hS0.i.1.same (hot7 _ (by omega)), Nat.lt_of_lt_of_le hS0.i.2 hs7⟩, ⟨hS0.x.1.same (hot7 _ (by omega)), Nat.lt_of_lt_of_le hS0.x.2 hs7⟩, ⟨hS0.q.1.same (hot7 _ (by omega)), Nat.lt_of_lt_of_le hS0.q.2 hs7⟩⟩
  refine step_store_part rfl _ _ rfl bx (4 + k * 3) rfl (ptr3 (follow wp x q.r)) rfl hth7 hszP (ptr3J_one _) hW7 ?_
  (try simp only [Act.put, sA, sB, sC])
  refine hK.out _ _ (hS7) ?_
  clear hHeld hK
  intro hHeld
  (try simp only [Act.put, sA, sB, sC])
  refine wpAnyH_done (by kernel_rfl) ?_ _
  go_wp2_with fail
  refine bodyPost_end (v := .tuple #[]) (by simp [results, Try.results29, go_sem]) rfl ?_
  exact .inr ⟨hE.out, ⟨_, rfl⟩, hX7, hO7⟩
end Go.Proofs.Ytinibccphecdfab

/-! PACKAGE cpu AS IT LANDED: call. Written by mk_cpufnj.py. -/
namespace Go.Proofs.Ytinibccphecdfab
open Go.RowKit
set_option maxRecDepth 8000
set_option linter.unusedSimpArgs false
set_option linter.unusedVariables false

def clG (g : Sg) (q : Ptr) (n : Nat) : Int := if g.is = false then 35 else if hasM g.md 4 = false then 33 else if callE g.rg q.f q.r ≠ 0 then 34 else if ¬ inG g q.f then 35 else if 8 ≤ n then 37 else 0
def clD (d : Cp) (g : Sg) (q : Ptr) : Cp := raiseC { d with seg := q.s, off := q.f, ring := callN g.rg q.f q.r, st := d.st ++ [⟨d.seg, d.off, d.ring⟩] } d.ring
theorem fr_okC : ElemOk 52 27 3 frc :=
  ⟨Try.underlying27, by
    obtain ⟨i, h1, h2, h3, h4⟩ := info_of (e := 52) (z := .agg #[.int .i64 0, .int .i64 0, .int .i64 0]) (sz := 3) (b := 24) (by kernel_rfl)
    exact ⟨i, _, _, h1, h2, h3, h4, rfl, by omega⟩, by omega, fun _ => rfl, fun x u hu => by simp [frc] at hu; rcases hu with rfl | rfl | rfl <;> rfl⟩
theorem frc_one (f : Fr) : ∀ u ∈ frc f, u.oneCell' = true := fr_okC.one f
theorem crs_store (w : World) (y : Addr) (u v : Value) {b : Option Addr} {n c : Nat} (hs : v = .slice b n c) (hc : w.cell? y = some u) (hf : w.frozen? y = false) : (Instr.storeAt 27 (.pointer (some y)) v).run Try.prog w = .ok () (w.setCell y v) := by
  subst hs
  have h1 := Try.underlying27
  go_simp
/-- The stack, whatever it is called. -/
theorem XAt.any {b : Nat} {c : Cp} {v : Value} {r : List Value} {W : World} (h : XAt b c v r W) (s : List Fr) : XAt b { c with st := s } v r W := ⟨h.ps, h.blk⟩
/-- What a call, or a return, comes to. -/
def ClP (bx L : Nat) (t : Cp) (r : List Value) (E : Int) (w : World) (e : Ending) (w' : World) : Prop :=
  (E ≠ 0 ∧ e = .panicked (thr E) ∧ Below w.heap.size w w') ∨ (E = 0 ∧ (∃ q, e = .returned q) ∧ ∃ v', XAt bx t v' r w' ∧ OwnR 52 3 frc w' L v' t.st ∧ Below L w w')
set_option maxRecDepth 8000 in
set_option maxHeartbeats 8000000 in
theorem ccall_any (bm bx L : Nat) (a : Option Addr) (cap : Nat) (m : List PG) (hm : MG m) (d : Cp) (v : Value) (r : List Value) (hst : d.st.length ≤ 8) (q : Ptr) (g : Sg) (hg : kn (m.map (·.g)) q.s = g) (E : Int) (hE : clG g q d.st.length = E) (w : World) (hM : MAt bm a cap m w) (hX : XAt bx d v (memI bm :: r) w) (hO : OwnR 52 3 frc w L v d.st) (hLx : L ≤ bx) (hvx : v.ownBlock ≠ some bx) :
    Calls Try.prog 31 #[.pointer (some ⟨bx, 0, none⟩), .agg (ptr3 q).toArray] w (ClP bx L (clD d g q) (memI bm :: r) E w) := by
  have hundC := Try.underlying81
  have hszC : (Try.prog.info? 81).map (·.size) = some 6 := by kernel_rfl
  have hundR := Try.underlying37
  have hszR : (Try.prog.info? 37).map (·.size) = some 4 := by kernel_rfl
  have hundF := Try.underlying52
  have hszF : (Try.prog.info? 52).map (·.size) = some 3 := by kernel_rfl
  have hgok : g.Ok := by rw [← hg]; exact kn_ok (fun g hg => by obtain ⟨x, hx, rfl⟩ := List.mem_map.1 hg; exact hm.ok x hx) _
  have hq0 := blkl_alloc w (ptr3 q).toArray 25
  have hB0 := alloc_below w (.cells (ptr3 q).toArray 25)
  have hX1 := hX.keep hB0
  have hM1 := hM.below hB0
  have hO1 := hO.below hB0
  have hbx := hX.lt
  have hvk : ∀ k, v.ownBlock = some k → k < w.heap.size := fun k hk => (hO.lt hk).2
  replace hq0 : BlkL w.heap.size (ptr3 q) (w.alloc (.cells #[.int .i64 q.s, .int .i64 q.f, .int .i64 q.r] 25)) := hq0
  replace hX1 : XAt bx d v (memI bm :: r) (w.alloc (.cells #[.int .i64 q.s, .int .i64 q.f, .int .i64 q.r] 25)) := hX1
  replace hM1 : MAt bm a cap m (w.alloc (.cells #[.int .i64 q.s, .int .i64 q.f, .int .i64 q.r] 25)) := hM1
  replace hB0 : Below w.heap.size w (w.alloc (.cells #[.int .i64 q.s, .int .i64 q.f, .int .i64 q.r] 25)) := hB0
  replace hO1 : OwnR 52 3 frc (w.alloc (.cells #[.int .i64 q.s, .int .i64 q.f, .int .i64 q.r] 25)) L v d.st := hO1
  clear hX hM hO
  have kn0 := fun (W : World) h1 h2 => cseg_none bm bx a cap m hm d v r q.s W h1 h2
  have kn1 := fun (W : World) h1 h2 => cseg_some bm bx a cap m hm d v r q.s W h1 h2
  rw [hg] at kn0 kn1
  by_cases c1 : g.is = false
  · have e35 : E = 35 := by rw [← hE, clG, if_pos c1]
    subst e35
    replace hE : Aside (clG g q d.st.length = 35) := hE
    clear kn1 hg
    go_enter Try.func31, Try.ntmps31
    go_upto_region 1 with fail
    generalize w.alloc (.cells #[.int .i64 q.s, .int .i64 q.f, .int .i64 q.r] 25) = W0 at *
    have z0 := (hq0.1 0 _ rfl).1
    go_wp2_with fail
    refine (kn0 W0 hM1 hX1 c1).mono ?_
    rintro e W1 ⟨rfl, hb⟩
    go_wp2_with fail
    exact diedC (.inl ⟨by decide, rfl, Below.then hB0 hb⟩)
  have c1' : g.is = true := by simpa using c1
  replace hE : Aside (clG g q d.st.length = E) := hE
  clear kn0 hg
  go_enter Try.func31, Try.ntmps31
  go_upto_region 1 with fail
  generalize w.alloc (.cells #[.int .i64 q.s, .int .i64 q.f, .int .i64 q.r] 25) = W0 at *
  have z0 := (hq0.1 0 _ rfl).1
  go_wp2_with fail
  refine (kn1 W0 hM1 hX1 c1').mono ?_
  rintro e W1 ⟨u, rfl, ho, hb⟩
  obtain ⟨W2, hW2, hth2, hg2, hB2⟩ := new_sg W1 g u
  obtain ⟨ua, uc, hu, -, -, -⟩ := ho.slice wd_okC.len
  have hX2 := (hX1.keep hb).keep hB2
  have hq2 := stab_blk _ _ _ _ (stab_blk _ _ _ _ hq0 hb) hB2
  have hBB := Below.then (Below.then hB0 hb) hB2
  have hO2 := (hO1.below hb).below hB2
  subst hu
  have hone := sg6_one g ua g.ws.length uc
  have ka := fun (W : World) => allows_any g (.slice ua g.ws.length uc) 4 W
  have kh := fun (W : World) => has_any g ua uc q.f W
  obtain ⟨X, hXe⟩ : ∃ X, sg6 g (.slice ua g.ws.length uc) = X := ⟨_, rfl⟩
  have hl : X.length = 6 := by rw [← hXe]; rfl
  have hszX : (Try.prog.info? 81).map (·.size) = some X.length := by rw [hl]; exact hszC
  have hfr : ∀ W b, BlkL b X W → W.rangeAt b 2 (rg4 g.rg) := fun W b h => by rw [← hXe] at h; exact fld_rg h
  simp only [hXe] at hW2 hth2 hg2 hone ka kh
  have hXv : Aside (.agg (sg6 g (.slice ua g.ws.length uc)).toArray = Value.agg X.toArray) := by rw [hXe]; exact rfl
  clear hXe hl ho hb hB2 hq0 hB0 z0 kn1 hM1 hX1 hm hO1
  go_upto_region 2 with (first | (refine wpList_store_row rfl _ _ rfl W1.heap.size rfl X hXv.out hth2 hszX hone hW2 ?_) | fail)
  clear hW2 hth2 hXv
  generalize W1.heap.size = bg at *
  have hrx := hg2.range
  cases c2 : hasM g.md 4 with
  | false =>
    have hEE : Aside (E = 33) := by
      show _ = _
      rw [← hE.out, clG, if_neg c1, if_pos c2]
    rw [c2] at ka
    clear hE c2 kh
    go_wp2_with (first | (refine wpList_load_row rfl _ rfl bg rfl X hrx hundC rfl hszX ?_) | fail)
    refine (ka W2).mono ?_
    rintro e W3 ⟨rfl, hb⟩
    go_wp2_with fail
    refine (need_no 33 W3).mono ?_
    rintro e W4 ⟨rfl, rfl⟩
    go_wp2_with fail
    exact diedC (.inl ⟨by rw [hEE.out]; decide, by rw [hEE.out], Below.then hBB hb⟩)
  | true =>
  rw [c2] at ka
  have hE1 : Aside (E = if callE g.rg q.f q.r ≠ 0 then 34 else if ¬ inG g q.f then 35 else if 8 ≤ d.st.length then 37 else 0) := by
    show _ = _
    rw [← hE.out, clG, if_neg c1, if_neg (by rw [c2]; simp)]
  go_wp2_with (first | (refine wpList_load_row rfl _ rfl bg rfl X hrx hundC rfl hszX ?_) | fail)
  refine (ka W2).mono ?_
  rintro e W3 ⟨rfl, hb⟩
  replace hX2 := hX2.keep hb
  replace hq2 := stab_blk _ _ _ _ hq2 hb
  replace hg2 := stab_blk _ _ _ _ hg2 hb
  replace hBB := Below.then hBB hb
  replace hO2 := hO2.below hb
  have z1 := (hq2.1 1 _ rfl).1
  have z2 := (hq2.1 2 _ rfl).1
  have hrgx := hfr _ _ hg2
  have hb8 : g.rg.v = .agg (rg4 g.rg).toArray := rfl
  have kx := fun (W : World) => rgcall_any g.rg q.f q.r W (hgok.rg c1')
  rw [hb8] at kx
  clear hb ka hb8 hE c1 c2 hrx hgok c1'
  go_wp2_with fail
  refine (need_ok 33 W3).mono ?_
  rintro e W4 ⟨rfl, hw4⟩
  rw [hw4]
  clear hw4 W4
  obtain ⟨CE, hCE⟩ : ∃ CE, callE g.rg q.f q.r = CE := ⟨_, rfl⟩
  obtain ⟨CN, hCN⟩ : ∃ CN, callN g.rg q.f q.r = CN := ⟨_, rfl⟩
  rw [hCE] at hE1
  simp only [hCE, hCN] at kx
  replace hCN : Aside (callN g.rg q.f q.r = CN) := hCN
  replace hCE : Aside (callE g.rg q.f q.r = CE) := hCE
  go_wp2_with (first | (refine wpList_load_midg (by rfl) _ rfl bg 2 rfl (rg4 g.rg) hrgx hundR rfl hszR ?_) | fail)
  refine (kx W3).mono ?_
  rintro e W4 ⟨rfl, hb⟩
  replace hX2 := hX2.keep hb
  replace hq2 := stab_blk _ _ _ _ hq2 hb
  replace hg2 := stab_blk _ _ _ _ hg2 hb
  replace hBB := Below.then hBB hb
  replace hO2 := hO2.below hb
  clear hb kx z1 z2 hrgx hCE
  by_cases c3 : CE = 0
  rotate_left
  · have hEE : Aside (E = 34) := by
      show _ = _
      rw [hE1.out, if_pos c3]
    have qq : (CE == 0) = false := by simpa using c3
    clear hE1 c3 kh
    go_wp2_with fail
    refine (need_no 34 W4).mono ?_
    rintro e W5 ⟨rfl, rfl⟩
    go_wp2_with fail
    exact diedC (.inl ⟨by rw [hEE.out]; decide, by rw [hEE.out], hBB⟩)
  have hE2 : Aside (E = if ¬ inG g q.f then 35 else if 8 ≤ d.st.length then 37 else 0) := by
    show _ = _
    rw [hE1.out, if_neg (by simpa using c3)]
  have qq : (CE == 0) = true := by simpa using c3
  clear hE1 c3
  go_wp2_with fail
  refine (need_ok 34 W4).mono ?_
  rintro e W5 ⟨rfl, hw5⟩
  rw [hw5]
  clear hw5 W5 qq
  have hrx := hg2.range
  have z1 := (hq2.1 1 _ rfl).1
  cases c5 : decide (inG g q.f) with
  | false =>
    rw [c5] at kh
    have hEE : Aside (E = 35) := by
      show _ = _
      rw [hE2.out, if_pos (by simpa using c5)]
    clear hE2 c5
    go_wp2_with (first | (refine wpList_load_row rfl _ rfl bg rfl X hrx hundC rfl hszX ?_) | fail)
    refine (kh W4).mono ?_
    rintro e W6 ⟨rfl, hb⟩
    go_wp2_with fail
    refine (need_no 35 W6).mono ?_
    rintro e W7 ⟨rfl, rfl⟩
    go_wp2_with fail
    exact diedC (.inl ⟨by rw [hEE.out]; decide, by rw [hEE.out], Below.then hBB hb⟩)
  | true =>
  rw [c5] at kh
  have hE3 : Aside (E = if 8 ≤ d.st.length then 37 else 0) := by
    show _ = _
    rw [hE2.out, if_neg (by simpa using c5)]
  clear hE2 c5
  go_wp2_with (first | (refine wpList_load_row rfl _ rfl bg rfl X hrx hundC rfl hszX ?_) | fail)
  refine (kh W4).mono ?_
  rintro e W6 ⟨rfl, hb⟩
  replace hX2 := hX2.keep hb
  replace hq2 := stab_blk _ _ _ _ hq2 hb
  replace hBB := Below.then hBB hb
  replace hO2 := hO2.below hb
  clear hb kh hrx hg2 z1 hfr
  go_wp2_with fail
  refine (need_ok 35 W6).mono ?_
  rintro e W7 ⟨rfl, hw7⟩
  rw [hw7]
  clear hw7 W7
  obtain ⟨va, vc, hv, hvc, -, -⟩ := hO2.slice frc_len
  have y16 := hX2.stk
  rw [hv] at y16
  have hvv : Aside (v = .slice va d.st.length vc) := hv
  clear hv
  by_cases c6 : 8 ≤ d.st.length
  · have hEE : Aside (E = 37) := by
      show _ = _
      rw [hE3.out, if_pos c6]
    have qq : decide ((d.st.length : Int) < 8) = false := by simp; omega
    clear hE3 c6
    generalize d.st.length = n at *
    go_wp2_with fail
    refine (need_no 37 W6).mono ?_
    rintro e W7 ⟨rfl, rfl⟩
    go_wp2_with fail
    exact diedC (.inl ⟨by rw [hEE.out]; decide, by rw [hEE.out], hBB⟩)
  have hEE : Aside (E = 0) := by
    show _ = _
    rw [hE3.out, if_neg c6]
  have qq : (d.st.length : Int) < 8 := by omega
  clear hE3
  go_wp2_with fail
  refine (need_ok 37 W6).mono ?_
  rintro e W7 ⟨rfl, hw7⟩
  rw [hw7]
  clear hw7 W7 qq
  go_upto_region 7 with fail
  have hdr := (Below.refl W6.heap.size W6).drew
  have hX7 := hX2.keep hdr
  have hq7 := stab_blk _ _ _ _ hq2 hdr
  have hB7 := Below.then hBB hdr
  have hO7 := hO2.below hdr
  clear hX2 hq2 hBB hO2 hdr y16
  refine wp_region_held_drew (S := (XAt bx d v (memI bm :: r))) (by kernel_rfl) (by exact hX7) ?_
  intro hHeld
  generalize W6.drew = w0 at *
  obtain ⟨W8, hW8, hth8, hf8, hb8⟩ := put_new w0 (frc ⟨0, 0, 0⟩).toArray 52 (frc ⟨d.seg, d.off, d.ring⟩) rfl (by show 0 < 3; decide)
  have hA := alloc_below w0 (.cells (frc ⟨0, 0, 0⟩).toArray 52)
  have hXA := hX7.keep hA
  have hX8 := hX7.keep hb8
  refine wpAnyH_take (i := 0) (v := ?_) (by simp only [gA, gB, gC]; rfl) (by kernel_rfl) (by kernel_rfl) (by kernel_rfl) (by exact fun _ _ _ h => h) (Or.inl ⟨by rfl, ?_⟩) (by assumption) ?_; rotate_left; (focus (intro w hSw; (try dsimp only at hSw); go_simp; try with_reducible rfl)); (try simp only [Act.put, sA, sB, sC])
  refine wpAnyH_take (i := 1) (v := ?_) (by simp only [gA, gB, gC]; rfl) (by kernel_rfl) (by kernel_rfl) (by kernel_rfl) (by exact fun _ _ _ h => h) (Or.inl ⟨by rfl, ?_⟩) (by assumption) ?_; rotate_left; (focus (intro w hSw; (try dsimp only at hSw); go_simp; try with_reducible rfl)); (try simp only [Act.put, sA, sB, sC])
  refine wpAnyH_take (i := 2) (v := ?_) (by simp only [gA, gB, gC]; rfl) (by kernel_rfl) (by kernel_rfl) (by kernel_rfl) (by exact fun _ _ _ h => h) (Or.inl ⟨by rfl, ?_⟩) (by assumption) ?_; rotate_left; (focus (intro w hSw; (try dsimp only at hSw); go_simp; try with_reducible rfl)); (try simp only [Act.put, sA, sB, sC])
  refine wpAnyH_take (i := 3) (v := ?_) (by simp only [gA, gB, gC]; rfl) (by kernel_rfl) (by kernel_rfl) (by kernel_rfl) (by exact fun _ _ _ h => h) (Or.inl ⟨by rfl, ?_⟩) (by assumption) ?_; rotate_left; (focus (intro w hSw; (try dsimp only at hSw); go_simp; try with_reducible rfl)); (try simp only [Act.put, sA, sB, sC])
  refine wpAnyH_take (i := 4) (v := _) (by simp only [gA, gB, gC]; rfl) (by kernel_rfl) (by kernel_rfl) (by kernel_rfl) (by exact fun _ _ _ h => h) (yields_cellI (by rfl) _ rfl ⟨bx, 0, none⟩ rfl (.int .i64 d.seg) (fun _ s => s.seg) intI_load) (by assumption) ?_; (try simp only [Act.put, sA, sB, sC])
  refine wpAnyH_take (i := 5) (v := ?_) (by simp only [gA, gB, gC]; rfl) (by kernel_rfl) (by kernel_rfl) (by kernel_rfl) (by exact fun _ _ _ h => h) (Or.inl ⟨by rfl, ?_⟩) (by assumption) ?_; rotate_left; (focus (intro w hSw; (try dsimp only at hSw); go_simp; try with_reducible rfl)); (try simp only [Act.put, sA, sB, sC])
  refine wpAnyH_take (i := 6) (v := ?_) (by simp only [gA, gB, gC]; rfl) (by kernel_rfl) (by kernel_rfl) (by kernel_rfl) (by exact fun _ _ _ h => h) (Or.inl ⟨by rfl, ?_⟩) (by assumption) ?_; rotate_left; (focus (intro w hSw; (try dsimp only at hSw); go_simp; try with_reducible rfl)); (try simp only [Act.put, sA, sB, sC])
  refine wpAnyH_take (i := 7) (v := ?_) (by simp only [gA, gB, gC]; rfl) (by kernel_rfl) (by kernel_rfl) (by kernel_rfl) (by exact fun _ _ _ h => h) (Or.inl ⟨by rfl, ?_⟩) (by assumption) ?_; rotate_left; (focus (intro w hSw; (try dsimp only at hSw); go_simp; try with_reducible rfl)); (try simp only [Act.put, sA, sB, sC])
  refine wpAnyH_take (i := 8) (v := ?_) (by simp only [gA, gB, gC]; rfl) (by kernel_rfl) (by kernel_rfl) (by kernel_rfl) (by exact fun _ _ _ h => h) (Or.inl ⟨by rfl, ?_⟩) (by assumption) ?_; rotate_left; (focus (intro w hSw; (try dsimp only at hSw); go_simp; try with_reducible rfl)); (try simp only [Act.put, sA, sB, sC])
  refine wpAnyH_take (i := 9) (v := _) (by simp only [gA, gB, gC]; rfl) (by kernel_rfl) (by kernel_rfl) (by kernel_rfl) (by exact fun _ _ _ h => h) (yields_cellI (by rfl) _ rfl ⟨bx, 1, none⟩ rfl (.int .i64 d.off) (fun _ s => s.off) intI_load) (by assumption) ?_; (try simp only [Act.put, sA, sB, sC])
  refine wpAnyH_take (i := 10) (v := ?_) (by simp only [gA, gB, gC]; rfl) (by kernel_rfl) (by kernel_rfl) (by kernel_rfl) (by exact fun _ _ _ h => h) (Or.inl ⟨by rfl, ?_⟩) (by assumption) ?_; rotate_left; (focus (intro w hSw; (try dsimp only at hSw); go_simp; try with_reducible rfl)); (try simp only [Act.put, sA, sB, sC])
  refine wpAnyH_take (i := 11) (v := ?_) (by simp only [gA, gB, gC]; rfl) (by kernel_rfl) (by kernel_rfl) (by kernel_rfl) (by exact fun _ _ _ h => h) (Or.inl ⟨by rfl, ?_⟩) (by assumption) ?_; rotate_left; (focus (intro w hSw; (try dsimp only at hSw); go_simp; try with_reducible rfl)); (try simp only [Act.put, sA, sB, sC])
  refine wpAnyH_take (i := 12) (v := ?_) (by simp only [gA, gB, gC]; rfl) (by kernel_rfl) (by kernel_rfl) (by kernel_rfl) (by exact fun _ _ _ h => h) (Or.inl ⟨by rfl, ?_⟩) (by assumption) ?_; rotate_left; (focus (intro w hSw; (try dsimp only at hSw); go_simp; try with_reducible rfl)); (try simp only [Act.put, sA, sB, sC])
  refine wpAnyH_take (i := 13) (v := ?_) (by simp only [gA, gB, gC]; rfl) (by kernel_rfl) (by kernel_rfl) (by kernel_rfl) (by exact fun _ _ _ h => h) (Or.inl ⟨by rfl, ?_⟩) (by assumption) ?_; rotate_left; (focus (intro w hSw; (try dsimp only at hSw); go_simp; try with_reducible rfl)); (try simp only [Act.put, sA, sB, sC])
  refine wpAnyH_take (i := 14) (v := _) (by simp only [gA, gB, gC]; rfl) (by kernel_rfl) (by kernel_rfl) (by kernel_rfl) (by exact fun _ _ _ h => h) (yields_cellI (by rfl) _ rfl ⟨bx, 2, none⟩ rfl (.int .i64 d.ring) (fun _ s => s.ring) intI_load) (by assumption) ?_; (try simp only [Act.put, sA, sB, sC])
  refine wpAnyH_take (i := 15) (v := ?_) (by simp only [gA, gB, gC]; rfl) (by kernel_rfl) (by kernel_rfl) (by kernel_rfl) (by exact fun _ _ _ h => h) (Or.inl ⟨by rfl, ?_⟩) (by assumption) ?_; rotate_left; (focus (intro w hSw; (try dsimp only at hSw); go_simp; try with_reducible rfl)); (try simp only [Act.put, sA, sB, sC])
  refine wpAnyH_ready (rs := [16]) (by kernel_rfl) (by simp) ?_
  refine AllReadyH.cons (by simp only [gA, gB, gC]; rfl) (fun K hK => ?_) AllReadyH.nil
  refine step_allocC (z := #[.int .i64 0, .int .i64 0, .int .i64 0]) rfl rfl (fun _ => rfl) ?_
  (try simp only [Act.put, sA, sB, sC])
  refine hK.out _ _ (hXA) ?_
  clear hHeld hK
  intro hHeld
  (try simp only [Act.put, sA, sB, sC])
  refine wpAnyH_ready (rs := [17]) (by kernel_rfl) (by simp) ?_
  refine AllReadyH.cons (by simp only [gA, gB, gC]; rfl) (fun K hK => ?_) AllReadyH.nil
  refine step_store_rowC rfl _ _ rfl w0.heap.size rfl (frc ⟨d.seg, d.off, d.ring⟩) rfl hth8 hszF (frc_one _) hW8 ?_
  (try simp only [Act.put, sA, sB, sC])
  refine hK.out _ _ (hX8) ?_
  clear hHeld hK
  intro hHeld
  (try simp only [Act.put, sA, sB, sC])
  refine wpAnyH_done (by kernel_rfl) ?_ _
  have hq8 := stab_blk _ _ _ _ hq7 hb8
  have hB8 := Below.then hB7 hb8
  have hO8 := hO7.below hb8
  have hbk : w.heap.size ≤ w0.heap.size ∧ bx < w0.heap.size := ⟨hB7.size, hX7.lt⟩
  have hqk := hq7.2
  go_upto_region 8 with fail
  clear hW8 hth8 hXA hA hX7 hq7 hB7 hO7 hb8
  generalize w0.heap.size = bk at *
  have hdr := (Below.refl W8.heap.size W8).drew
  have hX9 := hX8.keep hdr
  have hf9 := stab_blk _ _ _ _ hf8 hdr
  have hq9 := stab_blk _ _ _ _ hq8 hdr
  have hO9 := hO8.below hdr
  have hL9 : L ≤ W8.drew.heap.size := by have := hX9.lt; omega
  have hB9 : Below L w W8.drew := (Below.then hB8 hdr).mono (by omega)
  clear hX8 hf8 hq8 hO8 hB8 hdr
  refine wp_region_held_drew (S := (BlkL bk (frc ⟨d.seg, d.off, d.ring⟩))) (by kernel_rfl) (by exact hf9) ?_
  intro hHeld
  generalize W8.drew = wz at *
  obtain ⟨v2, WB, hap, hoB, hgB⟩ := OwnR.push fr_okC hO9 hL9 ⟨d.seg, d.off, d.ring⟩ (frc ⟨d.seg, d.off, d.ring⟩).toArray rfl 52 (by omega)
  have hbB := hO9.grew_below hL9 hgB
  have hbA := alloc_below wz (.cells (frc ⟨d.seg, d.off, d.ring⟩).toArray 52)
  have hXA := hX9.keep hbA
  have hfA := stab_blk _ _ _ _ hf9 hbA
  have hXB : XAt bx d v (memI bm :: r) WB := hX9.same (hgB.by_.block bx hX9.lt (fun e => hvx e.symm)) hgB.by_.size
  have hfB : BlkL bk (frc ⟨d.seg, d.off, d.ring⟩) WB := ⟨hf9.1.same (hgB.by_.block bk hf9.2 (fun e => by have := hvk bk e.symm; omega)), Nat.lt_of_lt_of_le hf9.2 hgB.by_.size⟩
  have hqB : BlkL w.heap.size (ptr3 q) WB := ⟨hq9.1.same (hgB.by_.block _ hq9.2 (fun e => by have := hvk _ e.symm; omega)), Nat.lt_of_lt_of_le hq9.2 hgB.by_.size⟩
  have hvB := hgB.apart hX9.lt (fun e => hvx e.symm)
  obtain ⟨a2, cap2, hv2, -, -, -⟩ := hoB.slice frc_len
  refine wpAnyH_take (i := 0) (v := ?_) (by simp only [gA, gB, gC]; rfl) (by kernel_rfl) (by kernel_rfl) (by kernel_rfl) (by exact fun _ _ _ h => h) (Or.inl ⟨by rfl, ?_⟩) (by assumption) ?_; rotate_left; (focus (intro w hSw; (try dsimp only at hSw); go_simp; try with_reducible rfl)); (try simp only [Act.put, sA, sB, sC])
  refine wpAnyH_take (i := 1) (v := ?_) (by simp only [gA, gB, gC]; rfl) (by kernel_rfl) (by kernel_rfl) (by kernel_rfl) (by exact fun _ _ _ h => h) (Or.inl ⟨by rfl, ?_⟩) (by assumption) ?_; rotate_left; (focus (intro w hSw; (try dsimp only at hSw); go_simp; try with_reducible rfl)); (try simp only [Act.put, sA, sB, sC])
  refine wpAnyH_take (i := 2) (v := ?_) (by simp only [gA, gB, gC]; rfl) (by kernel_rfl) (by kernel_rfl) (by kernel_rfl) (by exact fun _ _ _ h => h) (Or.inl ⟨by rfl, ?_⟩) (by assumption) ?_; rotate_left; (focus (intro w hSw; (try dsimp only at hSw); go_simp; try with_reducible rfl)); (try simp only [Act.put, sA, sB, sC])
  refine wpAnyH_take (i := 3) (v := ?_) (by simp only [gA, gB, gC]; rfl) (by kernel_rfl) (by kernel_rfl) (by kernel_rfl) (by exact fun _ _ _ h => h) (Or.inl ⟨by rfl, ?_⟩) (by assumption) ?_; rotate_left; (focus (intro w hSw; (try dsimp only at hSw); go_simp; try with_reducible rfl)); (try simp only [Act.put, sA, sB, sC])
  refine wpAnyH_take (i := 4) (v := ?_) (by simp only [gA, gB, gC]; rfl) (by kernel_rfl) (by kernel_rfl) (by kernel_rfl) (by exact fun _ _ _ h => h) (Or.inl ⟨by rfl, ?_⟩) (by assumption) ?_; rotate_left; (focus (intro w hSw; (try dsimp only at hSw); go_simp; try with_reducible rfl)); (try simp only [Act.put, sA, sB, sC])
  refine wpAnyH_take (i := 6) (v := _) (by simp only [gA, gB, gC]; rfl) (by kernel_rfl) (by kernel_rfl) (by kernel_rfl) (by exact fun _ _ _ h => h) (yields_row (by rfl) _ rfl bk rfl (frc ⟨d.seg, d.off, d.ring⟩) (fun _ s => s.range) hundF rfl hszF) (by assumption) ?_; (try simp only [Act.put, sA, sB, sC])
  refine wpAnyH_ready (rs := [5, 7]) (by kernel_rfl) (by simp) ?_
  refine AllReadyH.cons (by simp only [gA, gB, gC]; rfl) (fun K hK => ?_) ?_
  · skip
    refine step_oneJ rfl _ rfl ⟨bx, 16, none⟩ rfl v hX9.stk crs_load ?_
    (try simp only [Act.put, sA, sB, sC])
    refine hK.out _ _ (hf9) ?_
    clear hHeld hK
    intro hHeld
    (try simp only [Act.put, sA, sB, sC])
    refine wpAnyH_ready (rs := [7]) (by kernel_rfl) (by simp) ?_
    refine AllReadyH.cons (by simp only [gA, gB, gC]; rfl) (fun K hK => ?_) AllReadyH.nil
    refine step_build1 fr_okC (by decide) rfl _ rfl (frc ⟨d.seg, d.off, d.ring⟩) rfl rfl ?_
    (try simp only [Act.put, sA, sB, sC])
    refine hK.out _ _ (hfA) ?_
    clear hHeld hK
    intro hHeld
    (try simp only [Act.put, sA, sB, sC])
    refine wpAnyH_ready (rs := [8]) (by kernel_rfl) (by simp) ?_
    refine AllReadyH.cons (by simp only [gA, gB, gC]; rfl) (fun K hK => ?_) AllReadyH.nil
    refine step_append rfl _ _ rfl rfl rfl rfl hap ?_
    (try simp only [Act.put, sA, sB, sC])
    refine hK.out _ _ (hfB) ?_
    clear hHeld hK
    intro hHeld
    clear hap
    (try simp only [Act.put, sA, sB, sC])
    refine wpAnyH_take (i := 9) (v := ?_) (by simp only [gA, gB, gC]; rfl) (by kernel_rfl) (by kernel_rfl) (by kernel_rfl) (by exact fun _ _ _ h => h) (Or.inl ⟨by rfl, ?_⟩) (by assumption) ?_; rotate_left; (focus (intro w hSw; (try dsimp only at hSw); go_simp; try with_reducible rfl)); (try simp only [Act.put, sA, sB, sC])
    refine wpAnyH_take (i := 10) (v := ?_) (by simp only [gA, gB, gC]; rfl) (by kernel_rfl) (by kernel_rfl) (by kernel_rfl) (by exact fun _ _ _ h => h) (Or.inl ⟨by rfl, ?_⟩) (by assumption) ?_; rotate_left; (focus (intro w hSw; (try dsimp only at hSw); go_simp; try with_reducible rfl)); (try simp only [Act.put, sA, sB, sC])
    refine wpAnyH_take (i := 11) (v := ?_) (by simp only [gA, gB, gC]; rfl) (by kernel_rfl) (by kernel_rfl) (by kernel_rfl) (by exact fun _ _ _ h => h) (Or.inl ⟨by rfl, ?_⟩) (by assumption) ?_; rotate_left; (focus (intro w hSw; (try dsimp only at hSw); go_simp; try with_reducible rfl)); (try simp only [Act.put, sA, sB, sC])
    refine wpAnyH_ready (rs := [12]) (by kernel_rfl) (by simp) ?_
    refine AllReadyH.cons (by simp only [gA, gB, gC]; rfl) (fun K hK => ?_) AllReadyH.nil
    have hXC := hXB.setStk v2
    have hfC := far_blk hfB (show bx ≠ bk by omega) 16 v2
    have hqC := far_blk hqB (show bx ≠ w.heap.size by omega) 16 v2
    have hoC := hoB.keep (w' := WB.setCell ⟨bx, 16, none⟩ v2) (fun j hj => heap_setCell_other _ ⟨bx, 16, none⟩ j _ (fun e => hvB (by rw [hj]; exact congrArg some e.symm)))
    have hBC := (hB9.trans hbB).setCell (p := ⟨bx, 16, none⟩) hLx v2
    refine step_st rfl _ _ rfl ⟨bx, 16, none⟩ rfl v2 rfl (crs_store _ _ _ _ hv2 hXB.stk (hXB.free (by decide))) ?_
    (try simp only [Act.put, sA, sB, sC])
    refine hK.out _ _ (hfC) ?_
    clear hHeld hK
    intro hHeld
    generalize WB.setCell ⟨bx, 16, none⟩ v2 = WC at *
    clear hXB hfB hqB hoB hgB hbB hbA hXA hfA hX9 hf9 hq9 hO9 hL9 hB9 hv2
    (try simp only [Act.put, sA, sB, sC])
    refine wpAnyH_done (by kernel_rfl) ?_ _
    have z0 := (hqC.1 0 _ rfl).1
    have z1 := (hqC.1 1 _ rfl).1
    have ke := center_any bx d v2 (memI bm :: r) ⟨q.s, q.f, CN⟩ WC hXC
    rw [show (frc ⟨q.s, q.f, CN⟩).toArray = #[.int .i64 q.s, .int .i64 q.f, .int .i64 CN] from rfl] at ke
    go_wp2_with fail
    refine ke.mono ?_
    rintro e WD ⟨⟨re, rfl⟩, hXD, hSD⟩
    have hfD := hSD.blk hfC (by omega)
    have hoD := hSD.own hoC (fun e => hvB e.symm)
    have hBD := hSD.below hBC hLx (by have := hXC.lt; omega)
    have z2 := (hfD.1 2 _ rfl).1
    clear ke hXC hfC hqC hoC hBC hSD z0 z1
    go_wp2_with fail
    refine (cweaken_any bx _ v2 (memI bm :: r) d.ring WD hXD).mono ?_
    rintro e WE ⟨⟨re2, rfl⟩, hXE, hSE⟩
    have hoE := hSE.own hoD (fun e => hvB e.symm)
    have hBE := hSE.below hBD hLx (by have := hXD.lt; omega)
    clear hXD hfD hoD hBD hSE z2
    go_wp2_with fail
    refine bodyPost_end (v := .tuple #[]) (by simp [results, Try.results31, go_sem]) rfl ?_
    refine .inr ⟨hEE.out, ⟨_, rfl⟩, v2, ?_, hoE, hBE⟩
    rw [clD, hCN.out]
    exact hXE.any _
  refine AllReadyH.cons (by simp only [gA, gB, gC]; rfl) (fun K hK => ?_) AllReadyH.nil
  refine step_build1 fr_okC (by decide) rfl _ rfl (frc ⟨d.seg, d.off, d.ring⟩) rfl rfl ?_
  (try simp only [Act.put, sA, sB, sC])
  refine hK.out _ _ (hfA) ?_
  clear hHeld hK
  intro hHeld
  (try simp only [Act.put, sA, sB, sC])
  refine wpAnyH_ready (rs := [5]) (by kernel_rfl) (by simp) ?_
  refine AllReadyH.cons (by simp only [gA, gB, gC]; rfl) (fun K hK => ?_) AllReadyH.nil
  refine step_oneJ rfl _ rfl ⟨bx, 16, none⟩ rfl v hXA.stk crs_load ?_
  (try simp only [Act.put, sA, sB, sC])
  refine hK.out _ _ (hfA) ?_
  clear hHeld hK
  intro hHeld
  (try simp only [Act.put, sA, sB, sC])
  refine wpAnyH_ready (rs := [8]) (by kernel_rfl) (by simp) ?_
  refine AllReadyH.cons (by simp only [gA, gB, gC]; rfl) (fun K hK => ?_) AllReadyH.nil
  refine step_append rfl _ _ rfl rfl rfl rfl hap ?_
  (try simp only [Act.put, sA, sB, sC])
  refine hK.out _ _ (hfB) ?_
  clear hHeld hK
  intro hHeld
  clear hap
  (try simp only [Act.put, sA, sB, sC])
  refine wpAnyH_take (i := 9) (v := ?_) (by simp only [gA, gB, gC]; rfl) (by kernel_rfl) (by kernel_rfl) (by kernel_rfl) (by exact fun _ _ _ h => h) (Or.inl ⟨by rfl, ?_⟩) (by assumption) ?_; rotate_left; (focus (intro w hSw; (try dsimp only at hSw); go_simp; try with_reducible rfl)); (try simp only [Act.put, sA, sB, sC])
  refine wpAnyH_take (i := 10) (v := ?_) (by simp only [gA, gB, gC]; rfl) (by kernel_rfl) (by kernel_rfl) (by kernel_rfl) (by exact fun _ _ _ h => h) (Or.inl ⟨by rfl, ?_⟩) (by assumption) ?_; rotate_left; (focus (intro w hSw; (try dsimp only at hSw); go_simp; try with_reducible rfl)); (try simp only [Act.put, sA, sB, sC])
  refine wpAnyH_take (i := 11) (v := ?_) (by simp only [gA, gB, gC]; rfl) (by kernel_rfl) (by kernel_rfl) (by kernel_rfl) (by exact fun _ _ _ h => h) (Or.inl ⟨by rfl, ?_⟩) (by assumption) ?_; rotate_left; (focus (intro w hSw; (try dsimp only at hSw); go_simp; try with_reducible rfl)); (try simp only [Act.put, sA, sB, sC])
  refine wpAnyH_ready (rs := [12]) (by kernel_rfl) (by simp) ?_
  refine AllReadyH.cons (by simp only [gA, gB, gC]; rfl) (fun K hK => ?_) AllReadyH.nil
  have hXC := hXB.setStk v2
  have hfC := far_blk hfB (show bx ≠ bk by omega) 16 v2
  have hqC := far_blk hqB (show bx ≠ w.heap.size by omega) 16 v2
  have hoC := hoB.keep (w' := WB.setCell ⟨bx, 16, none⟩ v2) (fun j hj => heap_setCell_other _ ⟨bx, 16, none⟩ j _ (fun e => hvB (by rw [hj]; exact congrArg some e.symm)))
  have hBC := (hB9.trans hbB).setCell (p := ⟨bx, 16, none⟩) hLx v2
  refine step_st rfl _ _ rfl ⟨bx, 16, none⟩ rfl v2 rfl (crs_store _ _ _ _ hv2 hXB.stk (hXB.free (by decide))) ?_
  (try simp only [Act.put, sA, sB, sC])
  refine hK.out _ _ (hfC) ?_
  clear hHeld hK
  intro hHeld
  generalize WB.setCell ⟨bx, 16, none⟩ v2 = WC at *
  clear hXB hfB hqB hoB hgB hbB hbA hXA hfA hX9 hf9 hq9 hO9 hL9 hB9 hv2
  (try simp only [Act.put, sA, sB, sC])
  refine wpAnyH_done (by kernel_rfl) ?_ _
  have z0 := (hqC.1 0 _ rfl).1
  have z1 := (hqC.1 1 _ rfl).1
  have ke := center_any bx d v2 (memI bm :: r) ⟨q.s, q.f, CN⟩ WC hXC
  rw [show (frc ⟨q.s, q.f, CN⟩).toArray = #[.int .i64 q.s, .int .i64 q.f, .int .i64 CN] from rfl] at ke
  go_wp2_with fail
  refine ke.mono ?_
  rintro e WD ⟨⟨re, rfl⟩, hXD, hSD⟩
  have hfD := hSD.blk hfC (by omega)
  have hoD := hSD.own hoC (fun e => hvB e.symm)
  have hBD := hSD.below hBC hLx (by have := hXC.lt; omega)
  have z2 := (hfD.1 2 _ rfl).1
  clear ke hXC hfC hqC hoC hBC hSD z0 z1
  go_wp2_with fail
  refine (cweaken_any bx _ v2 (memI bm :: r) d.ring WD hXD).mono ?_
  rintro e WE ⟨⟨re2, rfl⟩, hXE, hSE⟩
  have hoE := hSE.own hoD (fun e => hvB e.symm)
  have hBE := hSE.below hBD hLx (by have := hXD.lt; omega)
  clear hXD hfD hoD hBD hSE z2
  go_wp2_with fail
  refine bodyPost_end (v := .tuple #[]) (by simp [results, Try.results31, go_sem]) rfl ?_
  refine .inr ⟨hEE.out, ⟨_, rfl⟩, v2, ?_, hoE, hBE⟩
  rw [clD, hCN.out]
  exact hXE.any _
end Go.Proofs.Ytinibccphecdfab
