/-
  MAPS OF THE PROGRAM'S OWN, KEYED BY LABELS, of integers: what is looked up, and what m[k]++ leaves. For every stage from the twelfth on.
-/
import Derived.Test.YtajondkpdgiolaaLabs
import Derived.WideKeyEntry
import Derived.DeepKeys4
import Derived.WalkArith
namespace Go.Proofs.Ytajondkpdgiolaa
open Go.RowKit Go.ChangeShapes Go.WideShapes
set_option maxRecDepth 8000
set_option linter.unusedSimpArgs false
set_option linter.unusedVariables false

theorem labOut : laidOutB Try.prog = true := by kernel_rfl
theorem labRow : (25 : TypeId) < Try.prog.types.size := of_decide_eq_true (by kernel_rfl)
theorem labWide : (match Try.prog.underlying 25 with | some (.array _ _) | some (.struct _) => true | _ => false) = true := by kernel_rfl
theorem labLaw : WideMaps.KeyLaw Try.prog 25 := deep_law_laid labOut (m := 2) (by omega) labRow (by kernel_rfl) labWide
theorem labKeyT : Try.prog.keyType 25 = true := by kernel_rfl
theorem labCells : Try.prog.cellsOf 25 = 4 := by kernel_rfl
theorem labInt : Try.prog.cellsOf 3 = 1 := by kernel_rfl
theorem labFs : (Try.prog.fieldsOf 25).toList.map (fun f => (f.name != "_", f.type, f.offset)) = [(true, 3, 0), (true, 3, 1), (true, 3, 2), (true, 3, 3)] := by kernel_rfl
theorem labTs : ∃ n, Try.prog.types.size = n + 1 := ⟨Try.prog.types.size - 1, (Nat.succ_pred_eq_of_pos (Nat.lt_of_le_of_lt (Nat.zero_le _) labRow)).symm⟩
theorem lab_wf {n : Int} (h0 : 0 ≤ n) (h1 : n ≤ 255) : (Lit.int .i64 n).wf = true := WalkArith.wf_i64 (by omega)
theorem lits_int (d : Nat) {n : Int} (h0 : 0 ≤ n) (h1 : n ≤ 255) : Try.prog.keyLits (d + 1) 3 [.int .i64 n] = some [.int .i64 n] := by
  unfold Program.keyLits
  rw [Try.underlying3]
  simp [lab_wf h0 h1]
theorem labKey {x : Lab} (hx : GL x) : ∃ l, keyOf Try.prog 25 x.v = some l := by
  obtain ⟨n, hn⟩ := labTs
  have hf : (Value.agg #[.int .i64 x.s, .int .i64 x.c, .int .i64 x.i, .int .i64 x.k]).formed Try.prog 25 = true := by
    unfold Value.formed
    rw [und, labCells]
    rfl
  have hnm : (Try.prog.fieldsOf 25).all (·.name != "_") = true := by kernel_rfl
  have hl : Try.prog.keyLits (Try.prog.types.size + 1) 25 [.int .i64 x.s, .int .i64 x.c, .int .i64 x.i, .int .i64 x.k] = some [.int .i64 x.s, .int .i64 x.c, .int .i64 x.i, .int .i64 x.k] := by
    unfold Program.keyLits
    rw [und]
    simp only [labCells, hnm]
    rw [if_pos (by first | exact ⟨rfl, rfl⟩ | exact ⟨rfl, trivial⟩)]
    have hm : (Try.prog.fieldsOf 25).toList.mapM (fun f => Try.prog.keyLits Try.prog.types.size f.type (([.int .i64 x.s, .int .i64 x.c, .int .i64 x.i, .int .i64 x.k] : List Value).drop f.offset |>.take (Try.prog.cellsOf f.type))) = ((Try.prog.fieldsOf 25).toList.map (fun f => (f.name != "_", f.type, f.offset))).mapM (fun p : Bool × TypeId × Nat => Try.prog.keyLits Try.prog.types.size p.2.1 (([.int .i64 x.s, .int .i64 x.c, .int .i64 x.i, .int .i64 x.k] : List Value).drop p.2.2 |>.take (Try.prog.cellsOf p.2.1))) := by
      rw [List.mapM_map]
      rfl
    rw [hm, labFs, hn]
    simp only [List.mapM_cons, List.mapM_nil, labInt, List.drop_zero, List.drop_succ_cons, List.take_succ_cons, List.take_zero, List.take_nil]
    rw [lits_int n hx.s0 (by have := hx.s1; omega), lits_int n hx.c0 hx.c1, lits_int n hx.i0 (by have := hx.i1; omega), lits_int n hx.k0 hx.k1]
    rfl
  refine ⟨.string (keyBytes [.int .i64 x.s, .int .i64 x.c, .int .i64 x.i, .int .i64 x.k]), ?_⟩
  unfold keyOf
  rw [und]
  simp only [labKeyT, hf, Bool.true_and, if_true]
  rw [show (Value.agg #[.int .i64 x.s, .int .i64 x.c, .int .i64 x.i, .int .i64 x.k]).cells.toList = [.int .i64 x.s, .int .i64 x.c, .int .i64 x.i, .int .i64 x.k] from rfl, hl]
  rfl
theorem labV_inj {x y : Lab} (h : x.v = y.v) : x = y := by
  obtain ⟨a, b, c, d⟩ := x
  obtain ⟨a', b', c', d'⟩ := y
  simp [Lab.v] at h
  obtain ⟨rfl, rfl, rfl, rfl⟩ := h
  rfl
/-- A map's entries: each label's number, no label twice. -/
structure CEs (es : Array MapEntry) (clock : Nat) (f : Lab → Nat) : Prop where
  born : ∀ e ∈ es.toList, e.born < clock
  nod : (es.toList.map (·.born)).Nodup
  ent : ∀ e ∈ es.toList, ∃ x : Lab, GL x ∧ e.key = x.v ∧ e.val = .int .i64 ((f x : Nat) : Int)
  uniq : (es.toList.map (·.key)).Nodup
  has : ∀ x, 0 < f x → ∃ e ∈ es.toList, e.key = x.v
def MapL (W : World) (b : Nat) (f : Lab → Nat) : Prop := ∃ es clock, W.heap[b]? = some (.map es clock) ∧ CEs es clock f
theorem CEs.keys {es : Array MapEntry} {clock : Nat} {f : Lab → Nat} (h : CEs es clock f) : ∀ e ∈ es.toList, ∃ l, keyOf Try.prog 25 e.key = some l := fun e he => by
  obtain ⟨x, hx, hk, _⟩ := h.ent e he
  rw [hk]
  exact labKey hx
theorem CEs.val {es : Array MapEntry} {clock : Nat} {f : Lab → Nat} (h : CEs es clock f) {e : MapEntry} (he : e ∈ es.toList) {x : Lab} (hk : e.key = x.v) : e.val = .int .i64 ((f x : Nat) : Int) := by
  obtain ⟨y, _, hy, hv⟩ := h.ent e he
  rw [hv, labV_inj (hy.symm.trans hk)]
theorem MapL.same {W W' : World} {b : Nat} {f : Lab → Nat} (h : MapL W b f) (hb : W'.heap[b]? = W.heap[b]?) : MapL W' b f := by
  obtain ⟨es, clock, h1, h2⟩ := h
  exact ⟨es, clock, hb.trans h1, h2⟩
theorem MapL.lt {W : World} {b : Nat} {f : Lab → Nat} (h : MapL W b f) : b < W.heap.size := by
  obtain ⟨es, clock, h1, h2⟩ := h
  exact (Array.getElem?_eq_some_iff.1 h1).1
theorem mapL_made (W : World) : MapL (W.alloc (.map #[] 0)) W.heap.size (fun _ => 0) :=
  ⟨#[], 0, (MapKept.heap_alloc W _).1, fun e he => (by simp at he), List.nodup_nil, fun e he => (by simp at he), List.nodup_nil, fun x hx => (by cases hx)⟩
/-- Nothing has turned but that block. -/
structure Turn1 (b : Nat) (w w' : World) : Prop where
  os : w'.os = w.os
  tape : w'.tape = w.tape
  output : w'.output = w.output
  size : w'.heap.size = w.heap.size
  block : ∀ k, k ≠ b → w'.heap[k]? = w.heap[k]?
theorem turn1_set (w : World) (b : Nat) (o : Obj) : Turn1 b w (ChangeMaps.setBlock w b o) := ⟨rfl, rfl, rfl, by simp [ChangeMaps.setBlock], fun k hk => by simp [ChangeMaps.setBlock, Array.getElem?_setIfInBounds, Ne.symm hk]⟩
theorem set_at {w : World} {b : Nat} (h : b < w.heap.size) (o : Obj) : (ChangeMaps.setBlock w b o).heap[b]? = some o := by simp [ChangeMaps.setBlock, Array.getElem?_setIfInBounds, h]
theorem und_m : Try.prog.underlying 67 = some (.map 25 3) := by kernel_rfl
theorem zero_int (w : World) : (zeroValue 3).run Try.prog w = .ok (.int .i64 0) w := by kernel_rfl
theorem look_run {W : World} {b : Nat} {f : Lab → Nat} (h : MapL W b f) {x : Lab} (hx : GL x) : (Instr.lookup 67 (.map (some b)) x.v false).run Try.prog W = .ok (.int .i64 ((f x : Nat) : Int)) W := by
  obtain ⟨es, clock, hb, hC⟩ := h
  obtain ⟨lx, hlx⟩ := labKey hx
  rcases labLaw.find W hlx es.toList hC.keys with ⟨h1, h2⟩ | ⟨j, e0, h1, h2, h3⟩
  · have h0 : f x = 0 := by
      rcases Nat.eq_zero_or_pos (f x) with q | q
      · exact q
      · obtain ⟨e, he, hk⟩ := hC.has x q
        exact absurd hk (h2 e he)
    rw [h0]
    simp [Instr.lookup, run_underlying und_m, MapKept.run_getObj_map hb, labLaw.check W _ hlx, h1, zero_int, Result.andThen]
  · have hv := hC.val (List.mem_of_getElem? h2) h3
    simp [Instr.lookup, run_underlying und_m, MapKept.run_getObj_map hb, labLaw.check W _ hlx, h1, hv, Result.andThen]
/-- The entry that a stamp names. -/
def StampL (W : World) (b st : Nat) (x : Lab) : Prop := ∃ es clock e0, W.heap[b]? = some (.map es clock) ∧ e0 ∈ es.toList ∧ e0.born = st ∧ e0.key = x.v
theorem entry_run {W : World} {b : Nat} {f : Lab → Nat} (h : MapL W b f) {x : Lab} (hx : GL x) : ∃ (v0 : Value) (st : Nat) (W1 : World), (Instr.mapEntry 67 (.map (some b)) x.v).run Try.prog W = .ok (.tuple #[v0, goInt st]) W1 ∧ MapL W1 b f ∧ StampL W1 b st x ∧ Turn1 b W W1 := by
  have hlt := h.lt
  obtain ⟨es, clock, hb, hC⟩ := h
  obtain ⟨lx, hlx⟩ := labKey hx
  rcases labLaw.find W hlx es.toList hC.keys with ⟨h1, h2⟩ | ⟨j, e0, h1, h2, h3⟩
  · have h0 : f x = 0 := by
      rcases Nat.eq_zero_or_pos (f x) with q | q
      · exact q
      · obtain ⟨e, he, hk⟩ := hC.has x q
        exact absurd hk (h2 e he)
    refine ⟨.int .i64 0, clock, ChangeMaps.setBlock W b (.map (es.push ⟨x.v, .int .i64 0, clock⟩) (clock + 1)), ?_, ⟨_, _, set_at hlt _, ?_⟩, ⟨_, _, ⟨x.v, .int .i64 0, clock⟩, set_at hlt _, by simp, rfl, rfl⟩, turn1_set _ _ _⟩
    · simp [Instr.mapEntry, run_underlying und_m, MapKept.run_getObj_map hb, labLaw.check W false hlx, h1, zero_int, MapKept.run_setObj_map _ hb, Result.andThen, ChangeMaps.setBlock]
    · refine ⟨fun e he => ?_, ?_, fun e he => ?_, ?_, fun y hy => ?_⟩
      · simp at he
        rcases he with he | rfl
        · have := hC.born e (by simpa using he); omega
        · exact Nat.lt_succ_self _
      · simp only [Array.toList_push, List.map_append, List.map_cons, List.map_nil]
        refine List.nodup_append.2 ⟨hC.nod, by simp, fun a ha c hc e1 => ?_⟩
        simp only [List.mem_singleton] at hc
        obtain ⟨z, hz, rfl⟩ := List.mem_map.1 ha
        have := hC.born z hz
        omega
      · simp at he
        rcases he with he | rfl
        · exact hC.ent e (by simpa using he)
        · exact ⟨x, hx, rfl, by rw [h0]; rfl⟩
      · simp only [Array.toList_push, List.map_append, List.map_cons, List.map_nil]
        refine List.nodup_append.2 ⟨hC.uniq, by simp, fun a ha c hc e1 => ?_⟩
        simp only [List.mem_singleton] at hc
        obtain ⟨z, hz, rfl⟩ := List.mem_map.1 ha
        exact h2 z hz (e1.trans hc)
      · obtain ⟨e, he, hk⟩ := hC.has y hy
        exact ⟨e, by simp at he ⊢; exact .inl he, hk⟩
  · have hj : es[j]? = some e0 := by simpa using h2
    have hsame : es.modify j (fun e => { e with key := x.v }) = es := by
      apply Array.ext'
      rw [Array.toList_modify, ChangeMaps.modify_eq_set _ _ _ _ h2]
      have : ({ e0 with key := x.v } : MapEntry) = e0 := by rw [← h3]
      rw [this]
      exact WideElems.set_self _ _ _ h2
    refine ⟨e0.val, e0.born, ChangeMaps.setBlock W b (.map es clock), ?_, ⟨_, _, set_at hlt _, hC⟩, ⟨_, _, e0, set_at hlt _, List.mem_of_getElem? h2, rfl, h3⟩, turn1_set _ _ _⟩
    simp [Instr.mapEntry, run_underlying und_m, MapKept.run_getObj_map hb, labLaw.check W false hlx, h1, hj, h3, labLaw.stays W hlx, hsame, MapKept.run_setObj_map _ hb, Result.andThen, ChangeMaps.setBlock]
theorem store_run {W : World} {b st n : Nat} {f g : Lab → Nat} {x : Lab} (h : MapL W b f) (hs : StampL W b st x) (hg : ∀ y, g y = if labEq x y = true then n else f y) (hn : 0 < n) : ∃ W1, (Instr.entryStore 67 (.map (some b)) (goInt st) (.int .i64 ((n : Nat) : Int))).run Try.prog W = .ok () W1 ∧ MapL W1 b g ∧ Turn1 b W W1 := by
  have hlt := h.lt
  obtain ⟨es, clock, hb, hC⟩ := h
  obtain ⟨es2, clock2, e0, hb2, he0, rfl, hk0⟩ := hs
  rw [hb] at hb2
  cases hb2
  obtain ⟨j, hj⟩ := List.mem_iff_getElem?.1 he0
  have hidx : es.findIdx? (fun e => ((e.born : Nat) : Int) == ((e0.born : Nat) : Int)) = some j := by
    rw [WideElems.findIdx_arr]
    exact WideElems.findIdx_born hC.nod hj
  have hset : (es.modify j (fun e => { e with val := .int .i64 ((n : Nat) : Int) })).toList = es.toList.set j { e0 with val := .int .i64 ((n : Nat) : Int) } := by
    rw [Array.toList_modify, ChangeMaps.modify_eq_set _ _ _ _ hj]
  have hjl := (List.getElem?_eq_some_iff.1 hj).1
  refine ⟨ChangeMaps.setBlock W b (.map (es.modify j (fun e => { e with val := .int .i64 ((n : Nat) : Int) })) clock), ?_, ⟨_, _, set_at hlt _, ?_⟩, turn1_set _ _ _⟩
  · simp [Instr.entryStore, MapKept.run_getObj_map hb, asInt, asIntOf, goInt, hidx, MapKept.run_setObj_map _ hb, Result.andThen, ChangeMaps.setBlock]
  · have hmb : (es.toList.set j { e0 with val := .int .i64 ((n : Nat) : Int) }).map (·.born) = es.toList.map (·.born) := by
      rw [List.map_set]
      exact WideElems.set_self _ _ _ (by rw [List.getElem?_map, hj]; rfl)
    have hmk : (es.toList.set j { e0 with val := .int .i64 ((n : Nat) : Int) }).map (·.key) = es.toList.map (·.key) := by
      rw [List.map_set]
      exact WideElems.set_self _ _ _ (by rw [List.getElem?_map, hj]; rfl)
    refine ⟨fun e he => ?_, by rw [hset, hmb]; exact hC.nod, fun e he => ?_, by rw [hset, hmk]; exact hC.uniq, fun y hy => ?_⟩
    · rw [hset] at he
      rcases List.mem_or_eq_of_mem_set he with he | rfl
      · exact hC.born e he
      · exact hC.born e0 he0
    · rw [hset] at he
      obtain ⟨i, hi⟩ := List.mem_iff_getElem?.1 he
      by_cases hij : i = j
      · subst hij
        rw [List.getElem?_set_self hjl] at hi
        obtain rfl := Option.some.inj hi
        obtain ⟨y, hy, hk, _⟩ := hC.ent e0 he0
        obtain rfl := labV_inj (hk.symm.trans hk0)
        exact ⟨y, hy, hk, by rw [hg, if_pos ((labEq_iff _ _).2 rfl)]⟩
      · rw [List.getElem?_set_ne (Ne.symm hij)] at hi
        obtain ⟨y, hy, hk, hv⟩ := hC.ent e (List.mem_of_getElem? hi)
        refine ⟨y, hy, hk, ?_⟩
        rw [hg, if_neg, hv]
        intro q
        have hxy := (labEq_iff _ _).1 q
        have hil := (List.getElem?_eq_some_iff.1 hi).1
        have h1 : (es.toList.map (·.key))[i]? = (es.toList.map (·.key))[j]? := by rw [List.getElem?_map, List.getElem?_map, hi, hj]; simp [hk, hk0, hxy]
        exact hij ((List.getElem?_inj (by simpa using hil) hC.uniq).1 h1)
    · rw [hset]
      rw [hg] at hy
      by_cases q : labEq x y = true
      · refine ⟨_, List.mem_set hjl _, ?_⟩
        rw [← (labEq_iff _ _).1 q]
        exact hk0
      · rw [if_neg q] at hy
        obtain ⟨e, he, hk⟩ := hC.has y hy
        obtain ⟨i, hi⟩ := List.mem_iff_getElem?.1 he
        have hij : i ≠ j := fun e1 => by
          subst e1
          obtain rfl := Option.some.inj (hi.symm.trans hj)
          exact q ((labEq_iff _ _).2 (labV_inj (hk0.symm.trans hk)))
        exact ⟨e, List.mem_of_getElem? (by rw [List.getElem?_set_ne (Ne.symm hij)]; exact hi), hk⟩
end Go.Proofs.Ytajondkpdgiolaa
