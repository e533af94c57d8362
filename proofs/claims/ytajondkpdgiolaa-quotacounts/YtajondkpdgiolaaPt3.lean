/-
  PART 3 of what the claims of this seat lean on: LabOpen LabMap QuotaMap SrtLab LabKeys LabCollect QuotaAll NodeOpenD TreeAcl TreeGrown TreeOpen.
-/
import Derived.WideKeyEntry
import Derived.DeepKeys4
import Derived.WalkArith
import Derived.Shelf.GgSortFunc.Slice
import Derived.Shelf.GgSortFunc.SmallK
import Derived.Shelf.GgSortFunc.Tiny
import Derived.Shelf.SlSortFuncK.BreakPatternsK
import Derived.Laws.OwnMore
import Derived.Maps.RangeRun
import Derived.Sort.MapsRangeIn
import Derived.RangeFuncNested
import Derived.RangeFuncBound
import Derived.RangeFuncCalls
import Derived.RangeFuncLeaves
import Derived.Shelf.Abstract
import Derived.Shelf.RegionOpen
import Derived.WalkKit
import Derived.OwnWalkIn
import Derived.TacticsInMore
import Derived.LoopNIn
import Derived.LoopIn
import Derived.Maps.AppendAt
import Derived.Test.YtajondkpdgiolaaPt1
import Derived.Test.YtajondkpdgiolaaPt2
/-! STRUCTS THAT CAME IN, WHATEVER THEIR NUMBER OF CELLS; labels. For every stage from the tenth on. -/
namespace Go.Proofs.Ytajondkpdgiolaa
open Go.ChangeShapes Go.WideShapes Go.ChangeAt Go.RowKit
set_option maxRecDepth 8000
set_option linter.unusedVariables false
set_option linter.unusedSimpArgs false

def lcells (l : Lab) : List Value := [.int .i64 l.s, .int .i64 l.c, .int .i64 l.i, .int .i64 l.k]
def fitsI (n : Int) : Prop := -9223372036854775808 ≤ n ∧ n ≤ 9223372036854775807
def Lab.fits (l : Lab) : Prop := fitsI l.s ∧ fitsI l.c ∧ fitsI l.i ∧ fitsI l.k
theorem cInt : Try.prog.cellsOf 3 = 1 := by kernel_rfl
theorem cStr : Try.prog.cellsOf 9 = 1 := by kernel_rfl
theorem cBool : Try.prog.cellsOf 4 = 1 := by kernel_rfl
theorem cLab : Try.prog.cellsOf 25 = 4 := by kernel_rfl
/-- A struct as a parameter: its cells, and how they read. -/
theorem open_struct {H : Type} {enc : TypeId × Value → H} {W : World} {r : Reach} {b0 base : Nat} {sp : Nat → Bool} {held : Bool} {t : TypeId} {fs : Array Field} {v : Value} {d : DataW H} {p : List MemPlace} {q : List Value → Prop} (hs : Try.prog.underlying t = some (.struct fs)) (hq : Reads enc W base sp held t q)
    (hv : Value.okWide Try.prog W r b0 t v) (h : DataW.Trod enc Try.prog W base sp held t v d p) : ∃ cs : List Value, v = .agg cs.toArray ∧ q cs := by
  obtain ⟨cs, rfl, hsz⟩ := okWide_struct hs hv
  obtain ⟨fuel, hf⟩ := h
  exact ⟨cs.toList, by simp, hq fuel cs.toList (d, p) hf⟩
section
variable {H : Type} {enc : TypeId × Value → H} {W : World} {base : Nat} {sp : Nat → Bool} {held : Bool}
theorem reads_lab : Reads enc W base sp held 25 fun cs => ∃ l, cs = lcells l ∧ l.fits := fun n cs x h => by
  have hl := struct_len und cLab h
  obtain ⟨s, e0, w0⟩ := read_field (i := 0) (ty := 3) (off := 0) und (by kernel_rfl) cInt (reads_int Try.underlying3) h
  obtain ⟨c, e1, w1⟩ := read_field (i := 1) (ty := 3) (off := 1) und (by kernel_rfl) cInt (reads_int Try.underlying3) h
  obtain ⟨i, e2, w2⟩ := read_field (i := 2) (ty := 3) (off := 2) und (by kernel_rfl) cInt (reads_int Try.underlying3) h
  obtain ⟨k, e3, w3⟩ := read_field (i := 3) (ty := 3) (off := 3) und (by kernel_rfl) cInt (reads_int Try.underlying3) h
  match cs, hl with
  | [v0, v1, v2, v3], _ =>
    simp at e0 e1 e2 e3
    subst e0 e1 e2 e3
    exact ⟨⟨s, c, i, k⟩, rfl, int_fits w0, int_fits w1, int_fits w2, int_fits w3⟩
end
/-- A row within a struct. -/
theorem reads_rows {α : Type} {H : Type} {enc : TypeId × Value → H} {W : World} {t e : TypeId} {sz : Nat} {f : α → List Value} {q : α → Prop} (ht : Try.prog.underlying t = some (.slice e)) (hc : Try.prog.cellsOf e = sz) (hp : Reads enc W 0 (fun _ => true) true e fun cs => ∃ g, cs = f g ∧ q g) (hone : Try.prog.cellsOf t = 1) :
    Reads enc W 0 (fun _ => true) true t fun cs => ∃ (l : List α) (a : Option Addr) (cap : Nat), cs = [.slice a l.length cap] ∧ (∀ j g, l[j]? = some g → ∃ y, a = some y ∧ (∀ i, i < sz → W.cell? (y.add (j * sz + i)) = (f g)[i]?)) ∧ (∀ g ∈ l, q g) ∧ (a = none → cap = 0) ∧ l.length ≤ cap := fun n cs x h => by
  have h' := h
  rcases Go.Deep.open_slice ht h with ⟨hcs, _⟩ | ⟨ad, l, c', m, n', Dd, Pl, hcs, _⟩
  · subst hcs
    obtain ⟨L, hL, h1, h2, h3, h4, _⟩ := open_rows (f := f) (q := q) ht hc hp h'
    exact ⟨L, _, _, by rw [hL], h1, h2, h3, by omega⟩
  · subst hcs
    obtain ⟨L, hL, h1, h2, h3, h4, _⟩ := open_rows (f := f) (q := q) ht hc hp h'
    exact ⟨L, _, _, by rw [hL], h1, h2, h3, by omega⟩
end Go.Proofs.Ytajondkpdgiolaa

/-! MAPS OF THE PROGRAM'S OWN, KEYED BY LABELS, of integers: what is looked up, and what m[k]++ leaves. For every stage from the twelfth on. -/
namespace Go.Proofs.Ytajondkpdgiolaa
open Go.RowKit Go.ChangeShapes Go.WideShapes
set_option maxRecDepth 8000
set_option linter.unusedSimpArgs false
set_option linter.unusedVariables false

theorem labOut : laidOutB Try.prog = true := by kernel_rfl
theorem labRow : (25 : TypeId) < Try.prog.types.size := of_decide_eq_true (by kernel_rfl)
theorem labWide : (match Try.prog.underlying 25 with | some (.array _ _) | some (.struct _) => true | _ => false) = true := by kernel_rfl
theorem labLaw : WideMaps.KeyLaw Try.prog 25 := deep_law_laid labOut (m := 2) (by omega) labRow (by kernel_rfl) labWide
theorem labKeyT : Try.prog.keyType 25 = true := by kernel_rfl
theorem labCells : Try.prog.cellsOf 25 = 4 := by kernel_rfl
theorem labInt : Try.prog.cellsOf 3 = 1 := by kernel_rfl
theorem labFs : (Try.prog.fieldsOf 25).toList.map (fun f => (f.name != "_", f.type, f.offset)) = [(true, 3, 0), (true, 3, 1), (true, 3, 2), (true, 3, 3)] := by kernel_rfl
theorem labTs : ∃ n, Try.prog.types.size = n + 1 := ⟨Try.prog.types.size - 1, (Nat.succ_pred_eq_of_pos (Nat.lt_of_le_of_lt (Nat.zero_le _) labRow)).symm⟩
theorem lab_wf {n : Int} (h0 : 0 ≤ n) (h1 : n ≤ 255) : (Lit.int .i64 n).wf = true := WalkArith.wf_i64 (by omega)
theorem lits_int (d : Nat) {n : Int} (h0 : 0 ≤ n) (h1 : n ≤ 255) : Try.prog.keyLits (d + 1) 3 [.int .i64 n] = some [.int .i64 n] := by
  unfold Program.keyLits
  rw [Try.underlying3]
  simp [lab_wf h0 h1]
theorem labKey {x : Lab} (hx : GL x) : ∃ l, keyOf Try.prog 25 x.v = some l := by
  obtain ⟨n, hn⟩ := labTs
  have hf : (Value.agg #[.int .i64 x.s, .int .i64 x.c, .int .i64 x.i, .int .i64 x.k]).formed Try.prog 25 = true := by
    unfold Value.formed
    rw [und, labCells]
    rfl
  have hnm : (Try.prog.fieldsOf 25).all (·.name != "_") = true := by kernel_rfl
  have hl : Try.prog.keyLits (Try.prog.types.size + 1) 25 [.int .i64 x.s, .int .i64 x.c, .int .i64 x.i, .int .i64 x.k] = some [.int .i64 x.s, .int .i64 x.c, .int .i64 x.i, .int .i64 x.k] := by
    unfold Program.keyLits
    rw [und]
    simp only [labCells, hnm]
    rw [if_pos (by first | exact ⟨rfl, rfl⟩ | exact ⟨rfl, trivial⟩)]
    have hm : (Try.prog.fieldsOf 25).toList.mapM (fun f => Try.prog.keyLits Try.prog.types.size f.type (([.int .i64 x.s, .int .i64 x.c, .int .i64 x.i, .int .i64 x.k] : List Value).drop f.offset |>.take (Try.prog.cellsOf f.type))) = ((Try.prog.fieldsOf 25).toList.map (fun f => (f.name != "_", f.type, f.offset))).mapM (fun p : Bool × TypeId × Nat => Try.prog.keyLits Try.prog.types.size p.2.1 (([.int .i64 x.s, .int .i64 x.c, .int .i64 x.i, .int .i64 x.k] : List Value).drop p.2.2 |>.take (Try.prog.cellsOf p.2.1))) := by
      rw [List.mapM_map]
      rfl
    rw [hm, labFs, hn]
    simp only [List.mapM_cons, List.mapM_nil, labInt, List.drop_zero, List.drop_succ_cons, List.take_succ_cons, List.take_zero, List.take_nil]
    rw [lits_int n hx.s0 (by have := hx.s1; omega), lits_int n hx.c0 hx.c1, lits_int n hx.i0 (by have := hx.i1; omega), lits_int n hx.k0 hx.k1]
    rfl
  refine ⟨.string (keyBytes [.int .i64 x.s, .int .i64 x.c, .int .i64 x.i, .int .i64 x.k]), ?_⟩
  unfold keyOf
  rw [und]
  simp only [labKeyT, hf, Bool.true_and, if_true]
  rw [show (Value.agg #[.int .i64 x.s, .int .i64 x.c, .int .i64 x.i, .int .i64 x.k]).cells.toList = [.int .i64 x.s, .int .i64 x.c, .int .i64 x.i, .int .i64 x.k] from rfl, hl]
  rfl
theorem labV_inj {x y : Lab} (h : x.v = y.v) : x = y := by
  obtain ⟨a, b, c, d⟩ := x
  obtain ⟨a', b', c', d'⟩ := y
  simp [Lab.v] at h
  obtain ⟨rfl, rfl, rfl, rfl⟩ := h
  rfl
/-- A map's entries: each label's number, no label twice. -/
structure CEs (es : Array MapEntry) (clock : Nat) (f : Lab → Nat) : Prop where
  born : ∀ e ∈ es.toList, e.born < clock
  nod : (es.toList.map (·.born)).Nodup
  ent : ∀ e ∈ es.toList, ∃ x : Lab, GL x ∧ e.key = x.v ∧ e.val = .int .i64 ((f x : Nat) : Int)
  uniq : (es.toList.map (·.key)).Nodup
  has : ∀ x, 0 < f x → ∃ e ∈ es.toList, e.key = x.v
/-- At b lies such a map, with m entries at most. -/
def MapL (W : World) (b : Nat) (f : Lab → Nat) (m : Nat) : Prop := ∃ es clock, W.heap[b]? = some (.map es clock) ∧ CEs es clock f ∧ es.size ≤ m
theorem CEs.keys {es : Array MapEntry} {clock : Nat} {f : Lab → Nat} (h : CEs es clock f) : ∀ e ∈ es.toList, ∃ l, keyOf Try.prog 25 e.key = some l := fun e he => by
  obtain ⟨x, hx, hk, _⟩ := h.ent e he
  rw [hk]
  exact labKey hx
theorem CEs.val {es : Array MapEntry} {clock : Nat} {f : Lab → Nat} (h : CEs es clock f) {e : MapEntry} (he : e ∈ es.toList) {x : Lab} (hk : e.key = x.v) : e.val = .int .i64 ((f x : Nat) : Int) := by
  obtain ⟨y, _, hy, hv⟩ := h.ent e he
  rw [hv, labV_inj (hy.symm.trans hk)]
theorem MapL.same {W W' : World} {b m : Nat} {f : Lab → Nat} (h : MapL W b f m) (hb : W'.heap[b]? = W.heap[b]?) : MapL W' b f m := by
  obtain ⟨es, clock, h1, h2, h3⟩ := h
  exact ⟨es, clock, hb.trans h1, h2, h3⟩
theorem MapL.lt {W : World} {b m : Nat} {f : Lab → Nat} (h : MapL W b f m) : b < W.heap.size := by
  obtain ⟨es, clock, h1, h2⟩ := h
  exact (Array.getElem?_eq_some_iff.1 h1).1
theorem mapL_made (W : World) : MapL (W.alloc (.map #[] 0)) W.heap.size (fun _ => 0) 0 :=
  ⟨#[], 0, (MapKept.heap_alloc W _).1, ⟨fun e he => (by simp at he), List.nodup_nil, fun e he => (by simp at he), List.nodup_nil, fun x hx => (by cases hx)⟩, by simp⟩
/-- Nothing has turned but that block. -/
structure Turn1 (b : Nat) (w w' : World) : Prop where
  os : w'.os = w.os
  tape : w'.tape = w.tape
  output : w'.output = w.output
  size : w'.heap.size = w.heap.size
  block : ∀ k, k ≠ b → w'.heap[k]? = w.heap[k]?
theorem turn1_set (w : World) (b : Nat) (o : Obj) : Turn1 b w (ChangeMaps.setBlock w b o) := ⟨rfl, rfl, rfl, by simp [ChangeMaps.setBlock], fun k hk => by simp [ChangeMaps.setBlock, Array.getElem?_setIfInBounds, Ne.symm hk]⟩
theorem set_at {w : World} {b : Nat} (h : b < w.heap.size) (o : Obj) : (ChangeMaps.setBlock w b o).heap[b]? = some o := by simp [ChangeMaps.setBlock, Array.getElem?_setIfInBounds, h]
theorem und_m : Try.prog.underlying 67 = some (.map 25 3) := by kernel_rfl
theorem zero_int (w : World) : (zeroValue 3).run Try.prog w = .ok (.int .i64 0) w := by kernel_rfl
theorem look_run {W : World} {b m : Nat} {f : Lab → Nat} (h : MapL W b f m) {x : Lab} (hx : GL x) : (Instr.lookup 67 (.map (some b)) x.v false).run Try.prog W = .ok (.int .i64 ((f x : Nat) : Int)) W := by
  obtain ⟨es, clock, hb, hC, hm⟩ := h
  obtain ⟨lx, hlx⟩ := labKey hx
  rcases labLaw.find W hlx es.toList hC.keys with ⟨h1, h2⟩ | ⟨j, e0, h1, h2, h3⟩
  · have h0 : f x = 0 := by
      rcases Nat.eq_zero_or_pos (f x) with q | q
      · exact q
      · obtain ⟨e, he, hk⟩ := hC.has x q
        exact absurd hk (h2 e he)
    rw [h0]
    simp [Instr.lookup, run_underlying und_m, MapKept.run_getObj_map hb, labLaw.check W _ hlx, h1, zero_int, Result.andThen]
  · have hv := hC.val (List.mem_of_getElem? h2) h3
    simp [Instr.lookup, run_underlying und_m, MapKept.run_getObj_map hb, labLaw.check W _ hlx, h1, hv, Result.andThen]
/-- The entry that a stamp names. -/
def StampL (W : World) (b st : Nat) (x : Lab) : Prop := ∃ es clock e0, W.heap[b]? = some (.map es clock) ∧ e0 ∈ es.toList ∧ e0.born = st ∧ e0.key = x.v
theorem entry_run {W : World} {b m : Nat} {f : Lab → Nat} (h : MapL W b f m) {x : Lab} (hx : GL x) : ∃ (v0 : Value) (st : Nat) (W1 : World), (Instr.mapEntry 67 (.map (some b)) x.v).run Try.prog W = .ok (.tuple #[v0, goInt st]) W1 ∧ MapL W1 b f (m + 1) ∧ StampL W1 b st x ∧ Turn1 b W W1 := by
  have hlt := h.lt
  obtain ⟨es, clock, hb, hC, hm⟩ := h
  obtain ⟨lx, hlx⟩ := labKey hx
  rcases labLaw.find W hlx es.toList hC.keys with ⟨h1, h2⟩ | ⟨j, e0, h1, h2, h3⟩
  · have h0 : f x = 0 := by
      rcases Nat.eq_zero_or_pos (f x) with q | q
      · exact q
      · obtain ⟨e, he, hk⟩ := hC.has x q
        exact absurd hk (h2 e he)
    refine ⟨.int .i64 0, clock, ChangeMaps.setBlock W b (.map (es.push ⟨x.v, .int .i64 0, clock⟩) (clock + 1)), ?_, ⟨_, _, set_at hlt _, ?_, by simp; omega⟩, ⟨_, _, ⟨x.v, .int .i64 0, clock⟩, set_at hlt _, by simp, rfl, rfl⟩, turn1_set _ _ _⟩
    · simp [Instr.mapEntry, run_underlying und_m, MapKept.run_getObj_map hb, labLaw.check W false hlx, h1, zero_int, MapKept.run_setObj_map _ hb, Result.andThen, ChangeMaps.setBlock]
    · refine ⟨fun e he => ?_, ?_, fun e he => ?_, ?_, fun y hy => ?_⟩
      · simp at he
        rcases he with he | rfl
        · have := hC.born e (by simpa using he); omega
        · exact Nat.lt_succ_self _
      · simp only [Array.toList_push, List.map_append, List.map_cons, List.map_nil]
        refine List.nodup_append.2 ⟨hC.nod, by simp, fun a ha c hc e1 => ?_⟩
        simp only [List.mem_singleton] at hc
        obtain ⟨z, hz, rfl⟩ := List.mem_map.1 ha
        have := hC.born z hz
        omega
      · simp at he
        rcases he with he | rfl
        · exact hC.ent e (by simpa using he)
        · exact ⟨x, hx, rfl, by rw [h0]; rfl⟩
      · simp only [Array.toList_push, List.map_append, List.map_cons, List.map_nil]
        refine List.nodup_append.2 ⟨hC.uniq, by simp, fun a ha c hc e1 => ?_⟩
        simp only [List.mem_singleton] at hc
        obtain ⟨z, hz, rfl⟩ := List.mem_map.1 ha
        exact h2 z hz (e1.trans hc)
      · obtain ⟨e, he, hk⟩ := hC.has y hy
        exact ⟨e, by simp at he ⊢; exact .inl he, hk⟩
  · have hj : es[j]? = some e0 := by simpa using h2
    have hsame : es.modify j (fun e => { e with key := x.v }) = es := by
      apply Array.ext'
      rw [Array.toList_modify, ChangeMaps.modify_eq_set _ _ _ _ h2]
      have : ({ e0 with key := x.v } : MapEntry) = e0 := by rw [← h3]
      rw [this]
      exact WideElems.set_self _ _ _ h2
    refine ⟨e0.val, e0.born, ChangeMaps.setBlock W b (.map es clock), ?_, ⟨_, _, set_at hlt _, hC, by omega⟩, ⟨_, _, e0, set_at hlt _, List.mem_of_getElem? h2, rfl, h3⟩, turn1_set _ _ _⟩
    simp [Instr.mapEntry, run_underlying und_m, MapKept.run_getObj_map hb, labLaw.check W false hlx, h1, hj, h3, labLaw.stays W hlx, hsame, MapKept.run_setObj_map _ hb, Result.andThen, ChangeMaps.setBlock]
theorem store_run {W : World} {b st n m : Nat} {f g : Lab → Nat} {x : Lab} (h : MapL W b f m) (hs : StampL W b st x) (hg : ∀ y, g y = if labEq x y = true then n else f y) (hn : 0 < n) : ∃ W1, (Instr.entryStore 67 (.map (some b)) (goInt st) (.int .i64 ((n : Nat) : Int))).run Try.prog W = .ok () W1 ∧ MapL W1 b g m ∧ Turn1 b W W1 := by
  have hlt := h.lt
  obtain ⟨es, clock, hb, hC, hm⟩ := h
  obtain ⟨es2, clock2, e0, hb2, he0, rfl, hk0⟩ := hs
  rw [hb] at hb2
  cases hb2
  obtain ⟨j, hj⟩ := List.mem_iff_getElem?.1 he0
  have hidx : es.findIdx? (fun e => ((e.born : Nat) : Int) == ((e0.born : Nat) : Int)) = some j := by
    rw [WideElems.findIdx_arr]
    exact WideElems.findIdx_born hC.nod hj
  have hset : (es.modify j (fun e => { e with val := .int .i64 ((n : Nat) : Int) })).toList = es.toList.set j { e0 with val := .int .i64 ((n : Nat) : Int) } := by
    rw [Array.toList_modify, ChangeMaps.modify_eq_set _ _ _ _ hj]
  have hjl := (List.getElem?_eq_some_iff.1 hj).1
  refine ⟨ChangeMaps.setBlock W b (.map (es.modify j (fun e => { e with val := .int .i64 ((n : Nat) : Int) })) clock), ?_, ⟨_, _, set_at hlt _, ?_, by simpa using hm⟩, turn1_set _ _ _⟩
  · simp [Instr.entryStore, MapKept.run_getObj_map hb, asInt, asIntOf, goInt, hidx, MapKept.run_setObj_map _ hb, Result.andThen, ChangeMaps.setBlock]
  · have hmb : (es.toList.set j { e0 with val := .int .i64 ((n : Nat) : Int) }).map (·.born) = es.toList.map (·.born) := by
      rw [List.map_set]
      exact WideElems.set_self _ _ _ (by rw [List.getElem?_map, hj]; rfl)
    have hmk : (es.toList.set j { e0 with val := .int .i64 ((n : Nat) : Int) }).map (·.key) = es.toList.map (·.key) := by
      rw [List.map_set]
      exact WideElems.set_self _ _ _ (by rw [List.getElem?_map, hj]; rfl)
    refine ⟨fun e he => ?_, by rw [hset, hmb]; exact hC.nod, fun e he => ?_, by rw [hset, hmk]; exact hC.uniq, fun y hy => ?_⟩
    · rw [hset] at he
      rcases List.mem_or_eq_of_mem_set he with he | rfl
      · exact hC.born e he
      · exact hC.born e0 he0
    · rw [hset] at he
      obtain ⟨i, hi⟩ := List.mem_iff_getElem?.1 he
      by_cases hij : i = j
      · subst hij
        rw [List.getElem?_set_self hjl] at hi
        obtain rfl := Option.some.inj hi
        obtain ⟨y, hy, hk, _⟩ := hC.ent e0 he0
        obtain rfl := labV_inj (hk.symm.trans hk0)
        exact ⟨y, hy, hk, by rw [hg, if_pos ((labEq_iff _ _).2 rfl)]⟩
      · rw [List.getElem?_set_ne (Ne.symm hij)] at hi
        obtain ⟨y, hy, hk, hv⟩ := hC.ent e (List.mem_of_getElem? hi)
        refine ⟨y, hy, hk, ?_⟩
        rw [hg, if_neg, hv]
        intro q
        have hxy := (labEq_iff _ _).1 q
        have hil := (List.getElem?_eq_some_iff.1 hi).1
        have h1 : (es.toList.map (·.key))[i]? = (es.toList.map (·.key))[j]? := by rw [List.getElem?_map, List.getElem?_map, hi, hj]; simp [hk, hk0, hxy]
        exact hij ((List.getElem?_inj (by simpa using hil) hC.uniq).1 h1)
    · rw [hset]
      rw [hg] at hy
      by_cases q : labEq x y = true
      · refine ⟨_, List.mem_set hjl _, ?_⟩
        rw [← (labEq_iff _ _).1 q]
        exact hk0
      · rw [if_neg q] at hy
        obtain ⟨e, he, hk⟩ := hC.has y hy
        obtain ⟨i, hi⟩ := List.mem_iff_getElem?.1 he
        have hij : i ≠ j := fun e1 => by
          subst e1
          obtain rfl := Option.some.inj (hi.symm.trans hj)
          exact q ((labEq_iff _ _).2 (labV_inj (hk0.symm.trans hk)))
        exact ⟨e, List.mem_of_getElem? (by rw [List.getElem?_set_ne (Ne.symm hij)]; exact hi), hk⟩
end Go.Proofs.Ytajondkpdgiolaa

/-! COUNTS AS THEY LANDED: a struct of one field, a map of labels to numbers: New, Add, Of. Written by mk_qmap.py. -/
namespace Go.Proofs.Ytajondkpdgiolaa
open Go.RowKit
set_option maxRecDepth 8000
set_option linter.unusedSimpArgs false
set_option linter.unusedVariables false

theorem Turn1.blk {b : Nat} {w w' : World} (h : Turn1 b w w') {g : Nat} {cs : List Value} (hb : BlkL g cs w) (hg : g ≠ b) : BlkL g cs w' := ⟨hb.1.same (h.block g hg), by rw [h.size]; exact hb.2⟩
theorem Turn1.trans {b : Nat} {w w' w'' : World} (h : Turn1 b w w') (k : Turn1 b w' w'') : Turn1 b w w'' := ⟨k.os.trans h.os, k.tape.trans h.tape, k.output.trans h.output, k.size.trans h.size, fun j hj => (k.block j hj).trans (h.block j hj)⟩
/-- Counts at p: the struct's block, and the map's, once it is made. -/
def CntQ (w : World) (S : List Nat) (p : Addr) (ls : List Lab) : Prop := ∃ g, p = ⟨g, 0, none⟩ ∧ ((S = [g] ∧ ls = [] ∧ BlkL g [.map none] w) ∨ ∃ b, S = [g, b] ∧ g ≠ b ∧ BlkL g [.map (some b)] w ∧ MapL w b (cntL ls) ls.length)
theorem lt_of_same {w w' : World} {k : Nat} (h : w'.heap[k]? = w.heap[k]?) (hk : k < w.heap.size) : k < w'.heap.size := by
  have h1 : w.heap[k]? = some w.heap[k] := Array.getElem?_eq_getElem hk
  rw [h1] at h
  exact (Array.getElem?_eq_some_iff.1 h).1
theorem BlkL.keep {w w' : World} {g : Nat} {cs : List Value} (h : BlkL g cs w) (hk : w'.heap[g]? = w.heap[g]?) : BlkL g cs w' := ⟨h.1.same hk, lt_of_same hk h.2⟩
theorem CntQ.keep {w w' : World} {S : List Nat} {p : Addr} {ls : List Lab} (h : CntQ w S p ls) (hk : ∀ k ∈ S, w'.heap[k]? = w.heap[k]?) : CntQ w' S p ls := by
  obtain ⟨g, rfl, ⟨rfl, rfl, hg⟩ | ⟨b, rfl, hne, hg, hm⟩⟩ := h
  · exact ⟨g, rfl, .inl ⟨rfl, rfl, hg.keep (hk g (by simp))⟩⟩
  · exact ⟨g, rfl, .inr ⟨b, rfl, hne, hg.keep (hk g (by simp)), hm.same (hk b (by simp))⟩⟩
theorem CntQ.lt {w : World} {S : List Nat} {p : Addr} {ls : List Lab} (h : CntQ w S p ls) : ∀ k ∈ S, k < w.heap.size := by
  obtain ⟨g, rfl, ⟨rfl, rfl, hg⟩ | ⟨b, rfl, hne, hg, hm⟩⟩ := h
  · intro k hk
    simp at hk
    subst hk
    exact hg.2
  · intro k hk
    simp at hk
    rcases hk with rfl | rfl
    · exact hg.2
    · exact hm.lt
/-- A map, or none: what is looked up in it. -/
def MapV (W : World) (m : Option Nat) (f : Lab → Nat) (k : Nat) : Prop := (m = none ∧ f = fun _ => 0) ∨ ∃ b, m = some b ∧ MapL W b f k
theorem CntQ.get {w : World} {S : List Nat} {p : Addr} {ls : List Lab} (h : CntQ w S p ls) : ∃ g m, p = ⟨g, 0, none⟩ ∧ BlkL g [.map m] w ∧ MapV w m (cntL ls) ls.length := by
  obtain ⟨g, rfl, ⟨rfl, rfl, hg⟩ | ⟨b, rfl, hne, hg, hm⟩⟩ := h
  · exact ⟨g, none, rfl, hg, .inl ⟨rfl, rfl⟩⟩
  · exact ⟨g, some b, rfl, hg, .inr ⟨b, rfl, hm⟩⟩
theorem MapV.below {w w' : World} {m : Option Nat} {f : Lab → Nat} {k : Nat} (h : MapV w m f k) (hb : Below w.heap.size w w') : MapV w' m f k := by
  obtain h | ⟨b, h1, h2⟩ := h
  · exact .inl h
  · exact .inr ⟨b, h1, h2.same (hb.block _ h2.lt)⟩
theorem lookV_run {W : World} {m : Option Nat} {f : Lab → Nat} {k : Nat} (h : MapV W m f k) {x : Lab} (hx : GL x) : (Instr.lookup 67 (.map m) x.v false).run Try.prog W = .ok (.int .i64 ((f x : Nat) : Int)) W := by
  obtain ⟨rfl, rfl⟩ | ⟨b, rfl, h⟩ := h
  · obtain ⟨lx, hlx⟩ := labKey hx
    rcases labLaw.find W hlx [] (by simp) with ⟨h1, -⟩ | ⟨j, e0, -, h2, -⟩
    · simp [Instr.lookup, run_underlying und_m, labLaw.check W _ hlx, h1, zero_int, Result.andThen]
    · simp at h2
  · exact look_run h hx
theorem eql_nil (W : World) : (binOp .eql 67 (.map none) (.map none)).run Try.prog W = .ok (.bool true) W := by kernel_rfl
theorem eql_map (b : Nat) (W : World) : (binOp .eql 67 (.map (some b)) (.map none)).run Try.prog W = .ok (.bool false) W := by kernel_rfl
theorem cnew_any (w : World) : Calls Try.prog 14 #[] w fun e w' => ∃ p S, e = .returned (.pointer (some p)) ∧ CntQ w' S p [] ∧ (∀ k ∈ S, w.heap.size ≤ k) ∧ Below w.heap.size w w' := by
  have h2 := blkl_alloc w #[.map none] 69
  have hB2 := alloc_below w (.cells #[.map none] 69)
  go_enter Try.func14, Try.ntmps14
  go_wp2_with fail
  go_ret
  refine ⟨⟨w.heap.size, 0, none⟩, rfl, [w.heap.size], ⟨_, rfl, .inl ⟨rfl, rfl, h2⟩⟩, fun k hk => ?_, hB2⟩
  simp at hk
  omega
section
variable {ops : Array Oper} {o : Oper} {a : Act} {w : World} {Q : Exit → Act → World → Prop}
theorem step_look {K : Act → World → Prop} {E : Prop} (hg : o.guard = none) (x y : Operand) (ho : o.op = .lookup 67 x y false) {u v r : Value} {w' : World} (hx : a.eval x = u) (hy : a.eval y = v)
    (hrun : (Instr.lookup 67 u v false).run Try.prog w = .ok r w') (hK : K (a.put o.dst r) w') :
    if Region.wanted o (yielded ops a.tmps) = true then Oper.wp Try.prog o a w K Q else E := by
  have hw : Region.wanted o (yielded ops a.tmps) = true := by simp [Region.wanted, hg]
  rw [if_pos hw]
  unfold Oper.wp
  simp [execOp, ho, hx, hy, hrun, Result.andThen]
  exact hK
theorem step_entry {K : Act → World → Prop} {E : Prop} (hg : o.guard = none) (x y : Operand) (ho : o.op = .mapEntry 67 x y) {u v r : Value} {w' : World} (hx : a.eval x = u) (hy : a.eval y = v)
    (hrun : (Instr.mapEntry 67 u v).run Try.prog w = .ok r w') (hK : K (a.put o.dst r) w') :
    if Region.wanted o (yielded ops a.tmps) = true then Oper.wp Try.prog o a w K Q else E := by
  have hw : Region.wanted o (yielded ops a.tmps) = true := by simp [Region.wanted, hg]
  rw [if_pos hw]
  unfold Oper.wp
  simp [execOp, ho, hx, hy, hrun, Result.andThen]
  exact hK
theorem step_estore {K : Act → World → Prop} {E : Prop} (hg : o.guard = none) (x y z : Operand) (ho : o.op = .entryStore 67 x y z) {u v r : Value} {w' : World} (hx : a.eval x = u) (hy : a.eval y = v) (hz : a.eval z = r)
    (hrun : (Instr.entryStore 67 u v r).run Try.prog w = .ok () w') (hK : K (a.put o.dst undef) w') :
    if Region.wanted o (yielded ops a.tmps) = true then Oper.wp Try.prog o a w K Q else E := by
  have hw : Region.wanted o (yielded ops a.tmps) = true := by simp [Region.wanted, hg]
  rw [if_pos hw]
  unfold Oper.wp
  simp [execOp, ho, hx, hy, hz, hrun, Result.andThen]
  exact hK
theorem yields_look {S : World → Prop} (hw : Region.wanted o (yielded ops a.tmps) = true) (x y : Operand) (ho : o.op = .lookup 67 x y false) {u v r : Value} (hx : a.eval x = u) (hy : a.eval y = v)
    (hS : ∀ w, S w → (Instr.lookup 67 u v false).run Try.prog w = .ok r w) : YieldsIf Try.prog ops S o r a :=
  .inl ⟨hw, fun w hw' => by
    unfold execOp
    simp [ho, hx, hy, hS w hw', Result.andThen]
    try rfl⟩
end
theorem map_load (w : World) (y : Addr) (v : Value) (h : w.cell? y = some v) : (Instr.loadAt 67 (.pointer (some y))).run Try.prog w = .ok v w := by
  have h1 := und_m
  go_simp
section
variable {ops : Array Oper} {o : Oper} {a : Act} {S : World → Prop}
theorem yields_one {T : TypeId} (hw : Region.wanted o (yielded ops a.tmps) = true) (x : Operand) (ho : o.op = .load T x) (y : Addr) (hx : a.eval x = .pointer (some y)) (v : Value) (hS : ∀ w, S w → w.cell? y = some v) (hl : ∀ w y v, w.cell? y = some v → (Instr.loadAt T (.pointer (some y))).run Try.prog w = .ok v w) : YieldsIf Try.prog ops S o v a :=
  .inl ⟨hw, fun w hw' => by
    unfold execOp
    simp only [ho, hx, Sem.run_bind, hl w y v (hS w hw'), Result.andThen_ok]
    rfl⟩
end
set_option maxRecDepth 8000 in
set_option maxHeartbeats 4000000 in
theorem cof_any {S : List Nat} {p : Addr} {ls : List Lab} (x : Lab) (hGx : GL x) (w : World) (h : CntQ w S p ls) : Calls Try.prog 18 #[.pointer (some p), x.v] w fun e w' => e = .returned (.int .i64 ((cntL ls x : Nat) : Int)) ∧ Below w.heap.size w w' := by
  have hundL := Try.underlying25
  have hsl : (Try.prog.info? 25).map (·.size) = some 4 := by kernel_rfl
  obtain ⟨g, m, rfl, hg, hm⟩ := h.get
  have hb0 := blkl_alloc w (lab4 x).toArray 25
  have hB0 := alloc_below w (.cells (lab4 x).toArray 25)
  replace hb0 : BlkL w.heap.size (lab4 x) (w.alloc (.cells (lab4 x).toArray 25)) := hb0
  have hg0 := stab_blk _ _ _ _ hg hB0
  have hm0 := hm.below hB0
  obtain ⟨R, hR⟩ : ∃ R, cntL ls x = R := ⟨_, rfl⟩
  have hlk := fun W (q : MapV W m (cntL ls) ls.length) => lookV_run q hGx
  rw [hR] at hlk ⊢
  clear hR
  go_enter Try.func18, Try.ntmps18
  go_upto_region 1 with fail
  generalize w.alloc (.cells #[.int .i64 x.s, .int .i64 x.c, .int .i64 x.i, .int .i64 x.k] 25) = Z at *
  have hBd : Below Z.heap.size Z Z.drew := (Below.refl _ _).drew
  have hS : (fun W => BlkL g [.map m] W ∧ BlkL w.heap.size (lab4 x) W ∧ MapV W m (cntL ls) ls.length) Z.drew := ⟨stab_blk _ _ _ _ hg0 hBd, stab_blk _ _ _ _ hb0 hBd, hm0.below hBd⟩
  refine wp_region_held_drew (S := (fun W => BlkL g [.map m] W ∧ BlkL w.heap.size (lab4 x) W ∧ MapV W m (cntL ls) ls.length)) (by kernel_rfl) (by exact hS) ?_
  intro hHeld
  (first | (refine wpAnyH_take (i := 0) (v := ?_) (by simp only [gA, gB, gC]; rfl) (by kernel_rfl) (by kernel_rfl) (by kernel_rfl) (by exact fun _ _ _ h => h) (Or.inl ⟨by rfl, ?_⟩) (by assumption) ?_; rotate_left; (focus (intro w hSw; (try dsimp only at hSw); go_simp; try with_reducible rfl))) | (refine wpAnyH_take (i := 0) (v := undef) (by simp only [gA, gB, gC]; rfl) (by kernel_rfl) (by kernel_rfl) (by kernel_rfl) (by exact fun _ _ _ h => h) (Or.inr ⟨by rfl, rfl⟩) (by assumption) ?_) | fail); simp only [Act.put, sA, sB, sC]
  (first | (refine wpAnyH_take (i := 1) (v := ?_) (by simp only [gA, gB, gC]; rfl) (by kernel_rfl) (by kernel_rfl) (by kernel_rfl) (by exact fun _ _ _ h => h) (Or.inl ⟨by rfl, ?_⟩) (by assumption) ?_; rotate_left; (focus (intro w hSw; (try dsimp only at hSw); go_simp; try with_reducible rfl))) | (refine wpAnyH_take (i := 1) (v := undef) (by simp only [gA, gB, gC]; rfl) (by kernel_rfl) (by kernel_rfl) (by kernel_rfl) (by exact fun _ _ _ h => h) (Or.inr ⟨by rfl, rfl⟩) (by assumption) ?_) | fail); simp only [Act.put, sA, sB, sC]
  (first | (refine wpAnyH_take (i := 2) (v := ?_) (by simp only [gA, gB, gC]; rfl) (by kernel_rfl) (by kernel_rfl) (by kernel_rfl) (by exact fun _ _ _ h => h) (Or.inl ⟨by rfl, ?_⟩) (by assumption) ?_; rotate_left; (focus (intro w hSw; (try dsimp only at hSw); go_simp; try with_reducible rfl))) | (refine wpAnyH_take (i := 2) (v := undef) (by simp only [gA, gB, gC]; rfl) (by kernel_rfl) (by kernel_rfl) (by kernel_rfl) (by exact fun _ _ _ h => h) (Or.inr ⟨by rfl, rfl⟩) (by assumption) ?_) | fail); simp only [Act.put, sA, sB, sC]
  (first | (refine wpAnyH_take (i := 3) (v := _) (by simp only [gA, gB, gC]; rfl) (by kernel_rfl) (by kernel_rfl) (by kernel_rfl) (by exact fun _ _ _ h => h) (yields_one (by rfl) _ rfl ⟨g, 0, none⟩ rfl (.map m) (fun _ q => (q.1.1 0 _ rfl).1) map_load) (by assumption) ?_) | (refine wpAnyH_take (i := 3) (v := undef) (by simp only [gA, gB, gC]; rfl) (by kernel_rfl) (by kernel_rfl) (by kernel_rfl) (by exact fun _ _ _ h => h) (Or.inr ⟨by rfl, rfl⟩) (by assumption) ?_) | fail); simp only [Act.put, sA, sB, sC]
  (first | (refine wpAnyH_take (i := 4) (v := _) (by simp only [gA, gB, gC]; rfl) (by kernel_rfl) (by kernel_rfl) (by kernel_rfl) (by exact fun _ _ _ h => h) (yields_row (by rfl) _ rfl w.heap.size rfl (lab4 x) (fun _ q => q.2.1.range) hundL rfl hsl) (by assumption) ?_) | (refine wpAnyH_take (i := 4) (v := undef) (by simp only [gA, gB, gC]; rfl) (by kernel_rfl) (by kernel_rfl) (by kernel_rfl) (by exact fun _ _ _ h => h) (Or.inr ⟨by rfl, rfl⟩) (by assumption) ?_) | fail); simp only [Act.put, sA, sB, sC]
  (first | (refine wpAnyH_take (i := 5) (v := _) (by simp only [gA, gB, gC]; rfl) (by kernel_rfl) (by kernel_rfl) (by kernel_rfl) (by exact fun _ _ _ h => h) (yields_look (u := .map m) (v := x.v) (by rfl) _ _ rfl rfl rfl (fun W q => hlk W q.2.2)) (by assumption) ?_) | (refine wpAnyH_take (i := 5) (v := undef) (by simp only [gA, gB, gC]; rfl) (by kernel_rfl) (by kernel_rfl) (by kernel_rfl) (by exact fun _ _ _ h => h) (Or.inr ⟨by rfl, rfl⟩) (by assumption) ?_) | fail); simp only [Act.put, sA, sB, sC]
  (first | (refine wpAnyH_take (i := 6) (v := ?_) (by simp only [gA, gB, gC]; rfl) (by kernel_rfl) (by kernel_rfl) (by kernel_rfl) (by exact fun _ _ _ h => h) (Or.inl ⟨by rfl, ?_⟩) (by assumption) ?_; rotate_left; (focus (intro w hSw; (try dsimp only at hSw); go_simp; try with_reducible rfl))) | (refine wpAnyH_take (i := 6) (v := undef) (by simp only [gA, gB, gC]; rfl) (by kernel_rfl) (by kernel_rfl) (by kernel_rfl) (by exact fun _ _ _ h => h) (Or.inr ⟨by rfl, rfl⟩) (by assumption) ?_) | fail); simp only [Act.put, sA, sB, sC]
  refine wpAnyH_done (by kernel_rfl) ?_ _
  go_wp2_with fail
  go_ret
  exact ⟨rfl, Below.then hB0 hBd⟩
theorem cnt_nil : cntL [] = fun _ => 0 := rfl
set_option maxRecDepth 8000 in
set_option maxHeartbeats 4000000 in
theorem cadd_any {S : List Nat} {p : Addr} {ls : List Lab} (x : Lab) (hGx : GL x) (w : World) (h : CntQ w S p ls) (hl : ls.length ≤ 1000) : Calls Try.prog 16 #[.pointer (some p), x.v] w fun e w' => e = .returned (.int .i64 ((cntL ls x + 1 : Nat) : Int)) ∧ ∃ S', CntQ w' S' p (x :: ls) ∧ Turned S w w' ∧ ∀ k ∈ S', k ∈ S ∨ w.heap.size ≤ k := by
  have hundL := Try.underlying25
  have hsl : (Try.prog.info? 25).map (·.size) = some 4 := by kernel_rfl
  have hb0 := blkl_alloc w (lab4 x).toArray 25
  have hB0 := alloc_below w (.cells (lab4 x).toArray 25)
  replace hb0 : BlkL w.heap.size (lab4 x) (w.alloc (.cells (lab4 x).toArray 25)) := hb0
  have hbnd : cntL ls x ≤ 1000 := Nat.le_trans List.countP_le_length hl
  have hgg : ∀ y, cntL (x :: ls) y = if labEq x y = true then cntL ls x + 1 else cntL ls y := fun y => by
    rw [cnt_cons]
    by_cases q : labEq x y = true
    · rw [if_pos q, if_pos q, (labEq_iff _ _).1 q]
    · rw [if_neg q, if_neg q]
      rfl
  have hnew : cntL (x :: ls) x = cntL ls x + 1 := by rw [hgg, if_pos (labEq_self x)]
  have look_run := fun {W : World} {b m : Nat} (q : MapL W b (cntL ls) m) (hGx : GL x) => look_run q hGx
  obtain ⟨n, hn⟩ : ∃ n, cntL ls x = n := ⟨_, rfl⟩
  have hlk2 := fun W b (q : MapL W b (cntL (x :: ls)) (ls.length + 1)) => Go.Proofs.Ytajondkpdgiolaa.look_run q hGx
  rw [hnew] at hlk2
  rw [hn] at look_run hlk2 hbnd hgg ⊢
  have hwr : IntKind.i64.wrap ((n : Int) + 1) = (n : Int) + 1 := by rw [IntKind.wrap_i64]; omega
  clear hn hnew
  obtain ⟨g, rfl, ⟨rfl, hnil, hg⟩ | ⟨b, rfl, hne, hg, hm⟩⟩ := h
  · have hg0 := stab_blk _ _ _ _ hg hB0
    have hmm := @run_makeMap Try.prog
    have heq := eql_nil
    go_enter Try.func16, Try.ntmps16
    go_upto_region 1 with fail
    obtain ⟨Z, hZ⟩ : ∃ Z, w.alloc (.cells (lab4 x).toArray 25) = Z := ⟨_, rfl⟩
    rw [hZ] at hb0 hB0 hg0
    replace hZ : w.alloc (.cells #[.int .i64 x.s, .int .i64 x.c, .int .i64 x.i, .int .i64 x.k] 25) = Z := hZ
    rw [hZ]
    clear hZ
    have hc0 := (hg0.1 0 _ rfl).1
    have hf0 := (hg0.1 0 _ rfl).2
    have hgl := hg0.2
    have hB1 := alloc_below Z (.map #[] 0)
    have hm1 := mapL_made Z
    replace hm1 : MapL (Z.alloc (.map #[] 0)) Z.heap.size (cntL ls) ls.length := by rw [hnil]; exact hm1
    have hg1 := stab_blk _ _ _ _ hg0 hB1
    have hb1 := stab_blk _ _ _ _ hb0 hB1
    have hfz := (hg1.1 0 _ rfl).2
    have hc1 := (hg1.1 0 _ rfl).1
    have hne : g ≠ Z.heap.size := by omega
    have hxb : w.heap.size ≠ Z.heap.size := by have := hb0.2; omega
    obtain ⟨Z1, hZ1⟩ : ∃ Z1, Z.alloc (.map #[] 0) = Z1 := ⟨_, rfl⟩
    rw [hZ1] at hB1 hm1 hg1 hb1 hfz hc1
    obtain ⟨Z2, hZ2⟩ : ∃ Z2, Z1.setCell ⟨g, 0, none⟩ (.map (some Z.heap.size)) = Z2 := ⟨_, rfl⟩
    have hoth : ∀ k, k ≠ g → Z2.heap[k]? = Z1.heap[k]? := fun k hk => by rw [← hZ2]; exact heap_setCell_other Z1 ⟨g, 0, none⟩ k _ hk
    have hsz : Z2.heap.size = Z1.heap.size := by rw [← hZ2]; simp
    have hTZ : Turned [g] w Z2 := by
      refine ⟨?_, ?_, ?_, by rw [hsz]; exact Nat.le_trans hB0.size hB1.size, fun k hk hn => ?_⟩
      · rw [← hZ2]; exact hB1.os.trans hB0.os
      · rw [← hZ2]; exact hB1.tape.trans hB0.tape
      · rw [← hZ2]; exact hB1.output.trans hB0.output
      · rw [hoth k (by simpa using hn), hB1.block k (Nat.lt_of_lt_of_le hk hB0.size), hB0.block k hk]
    have hg2 : BlkL g [.map (some Z.heap.size)] Z2 := by
      rw [← hZ2]
      exact ⟨hg1.1.set 0 _ (by simp), by simpa using hg1.2⟩
    have hgw : w.heap.size ≠ g := fun e => by have := hg.2; omega
    have hb2 : BlkL w.heap.size (lab4 x) Z2 := hb1.keep (hoth _ hgw)
    have hm2 : MapL Z2 Z.heap.size (cntL ls) ls.length := hm1.same (hoth _ (Ne.symm hne))
    have hnew : ∀ k ∈ [g, Z.heap.size], k ∈ [g] ∨ w.heap.size ≤ k := fun k hk => by
      simp at hk
      rcases hk with rfl | rfl
      · exact .inl (by simp)
      · exact .inr hB0.size
    have hbw : w.heap.size ≤ Z.heap.size := hB0.size
    clear hg hnil hg0 hB1 hm1 hg1 hb1 hoth hsz hb0 hB0
    go_upto_region 3 with fail
    (try rw [hZ1])
    (try rw [hZ2])
    generalize Z.heap.size = b at *
    clear hZ1 hZ2 hc0 hf0 hgl hfz hc1
    go_cut [] from 14 (fun wc => MapL wc b (cntL (x :: ls)) (ls.length + 1) ∧ (BlkL g [.map (some b)] wc ∧ BlkL w.heap.size (lab4 x) wc) ∧ Turn1 b Z2.drew wc)
    case first =>
      have hBd : Below Z2.heap.size Z2 Z2.drew := (Below.refl _ _).drew
      have hS0 : (fun W => BlkL g [.map (some b)] W ∧ BlkL w.heap.size (lab4 x) W) Z2.drew := ⟨stab_blk _ _ _ _ hg2 hBd, stab_blk _ _ _ _ hb2 hBd⟩
      have hM0 : MapL Z2.drew b (cntL ls) ls.length := hm2.same (hBd.block _ hm2.lt)
      have hbx : w.heap.size ≠ b := hxb
      clear hBd hlk2
      refine wp_region_held_drew (S := (fun W => BlkL g [.map (some b)] W ∧ BlkL w.heap.size (lab4 x) W)) (by kernel_rfl) (by exact hS0) ?_
      intro hHeld
      generalize Z2.drew = w0 at *
      refine wpAnyH_take (i := 0) (v := ?_) (by simp only [gA, gB, gC]; rfl) (by kernel_rfl) (by kernel_rfl) (by kernel_rfl) (by exact fun _ _ _ h => h) (Or.inl ⟨by rfl, ?_⟩) (by assumption) ?_; rotate_left; (focus (intro w hSw; (try dsimp only at hSw); go_simp; try with_reducible rfl)); (try simp only [Act.put, sA, sB, sC])
      refine wpAnyH_take (i := 1) (v := ?_) (by simp only [gA, gB, gC]; rfl) (by kernel_rfl) (by kernel_rfl) (by kernel_rfl) (by exact fun _ _ _ h => h) (Or.inl ⟨by rfl, ?_⟩) (by assumption) ?_; rotate_left; (focus (intro w hSw; (try dsimp only at hSw); go_simp; try with_reducible rfl)); (try simp only [Act.put, sA, sB, sC])
      refine wpAnyH_take (i := 2) (v := ?_) (by simp only [gA, gB, gC]; rfl) (by kernel_rfl) (by kernel_rfl) (by kernel_rfl) (by exact fun _ _ _ h => h) (Or.inl ⟨by rfl, ?_⟩) (by assumption) ?_; rotate_left; (focus (intro w hSw; (try dsimp only at hSw); go_simp; try with_reducible rfl)); (try simp only [Act.put, sA, sB, sC])
      refine wpAnyH_take (i := 3) (v := _) (by simp only [gA, gB, gC]; rfl) (by kernel_rfl) (by kernel_rfl) (by kernel_rfl) (by exact fun _ _ _ h => h) (yields_one (by rfl) _ rfl ⟨g, 0, none⟩ rfl (.map (some b)) (fun _ q => (q.1.1 0 _ rfl).1) map_load) (by assumption) ?_; (try simp only [Act.put, sA, sB, sC])
      refine wpAnyH_take (i := 4) (v := _) (by simp only [gA, gB, gC]; rfl) (by kernel_rfl) (by kernel_rfl) (by kernel_rfl) (by exact fun _ _ _ h => h) (yields_row (by rfl) _ rfl w.heap.size rfl (lab4 x) (fun _ q => q.2.range) hundL rfl hsl) (by assumption) ?_; (try simp only [Act.put, sA, sB, sC])
      refine wpAnyH_ready (rs := [5, 7]) (by kernel_rfl) (by simp) ?_
      refine AllReadyH.cons (by simp only [gA, gB, gC]; rfl) (fun K hK => ?_) ?_
      · skip
        refine step_look rfl _ _ rfl rfl rfl (look_run hM0 hGx) ?_
        (try simp only [Act.put, sA, sB, sC])
        refine hK.out _ _ (hS0) ?_
        clear hHeld hK
        intro hHeld
        (try simp only [Act.put, sA, sB, sC])
        refine wpAnyH_take (i := 6) (v := ?_) (by simp only [gA, gB, gC]; rfl) (by kernel_rfl) (by kernel_rfl) (by kernel_rfl) (by exact fun _ _ _ h => h) (Or.inl ⟨by rfl, ?_⟩) (by assumption) ?_; rotate_left; (focus (intro w hSw; (try dsimp only at hSw); go_simp; try with_reducible rfl)); (try simp only [Act.put, sA, sB, sC])
        refine wpAnyH_ready (rs := [7]) (by kernel_rfl) (by simp) ?_
        refine AllReadyH.cons (by simp only [gA, gB, gC]; rfl) (fun K hK => ?_) AllReadyH.nil
        obtain ⟨v0, st, w1, hrun1, hM1, hSt1, hT01⟩ := entry_run hM0 hGx
        have hS1 : (fun W => BlkL g [.map (some b)] W ∧ BlkL w.heap.size (lab4 x) W) w1 := ⟨hT01.blk hS0.1 hne, hT01.blk hS0.2 hbx⟩
        refine step_entry rfl _ _ rfl rfl rfl hrun1 ?_
        (try simp only [Act.put, sA, sB, sC])
        refine hK.out _ _ (hS1) ?_
        clear hHeld hK
        intro hHeld
        (try simp only [Act.put, sA, sB, sC])
        refine wpAnyH_take (i := 8) (v := ?_) (by simp only [gA, gB, gC]; rfl) (by kernel_rfl) (by kernel_rfl) (by kernel_rfl) (by exact fun _ _ _ h => h) (Or.inl ⟨by rfl, ?_⟩) (by assumption) ?_; rotate_left; (focus (intro w hSw; (try dsimp only at hSw); go_simp; try with_reducible rfl)); (try simp only [Act.put, sA, sB, sC])
        refine wpAnyH_ready (rs := [9]) (by kernel_rfl) (by simp) ?_
        refine AllReadyH.cons (by simp only [gA, gB, gC]; rfl) (fun K hK => ?_) AllReadyH.nil
        obtain ⟨w2, hrun2, hM2, hT02⟩ := store_run (n := n + 1) hM1 hSt1 hgg (Nat.succ_pos n)
        have hS2 : (fun W => BlkL g [.map (some b)] W ∧ BlkL w.heap.size (lab4 x) W) w2 := ⟨hT02.blk hS1.1 hne, hT02.blk hS1.2 hbx⟩
        rw [show ((n + 1 : Nat) : Int) = (n : Int) + 1 from by omega] at hrun2
        refine step_estore rfl _ _ _ rfl rfl rfl rfl hrun2 ?_
        (try simp only [Act.put, sA, sB, sC])
        refine hK.out _ _ (hS2) ?_
        clear hHeld hK
        intro hHeld
        (try simp only [Act.put, sA, sB, sC])
        refine wpAnyH_done (by kernel_rfl) ?_ _
        go_wp2_with fail
        go_meet
        exact ⟨hM2, hS2, hT01.trans hT02⟩
      refine AllReadyH.cons (by simp only [gA, gB, gC]; rfl) (fun K hK => ?_) AllReadyH.nil
      obtain ⟨v0, st, w1, hrun1, hM1, hSt1, hT01⟩ := entry_run hM0 hGx
      have hS1 : (fun W => BlkL g [.map (some b)] W ∧ BlkL w.heap.size (lab4 x) W) w1 := ⟨hT01.blk hS0.1 hne, hT01.blk hS0.2 hbx⟩
      refine step_entry rfl _ _ rfl rfl rfl hrun1 ?_
      (try simp only [Act.put, sA, sB, sC])
      refine hK.out _ _ (hS1) ?_
      clear hHeld hK
      intro hHeld
      (try simp only [Act.put, sA, sB, sC])
      refine wpAnyH_take (i := 8) (v := ?_) (by simp only [gA, gB, gC]; rfl) (by kernel_rfl) (by kernel_rfl) (by kernel_rfl) (by exact fun _ _ _ h => h) (Or.inl ⟨by rfl, ?_⟩) (by assumption) ?_; rotate_left; (focus (intro w hSw; (try dsimp only at hSw); go_simp; try with_reducible rfl)); (try simp only [Act.put, sA, sB, sC])
      refine wpAnyH_ready (rs := [5]) (by kernel_rfl) (by simp) ?_
      refine AllReadyH.cons (by simp only [gA, gB, gC]; rfl) (fun K hK => ?_) AllReadyH.nil
      refine step_look rfl _ _ rfl rfl rfl (look_run hM1 hGx) ?_
      (try simp only [Act.put, sA, sB, sC])
      refine hK.out _ _ (hS1) ?_
      clear hHeld hK
      intro hHeld
      (try simp only [Act.put, sA, sB, sC])
      refine wpAnyH_take (i := 6) (v := ?_) (by simp only [gA, gB, gC]; rfl) (by kernel_rfl) (by kernel_rfl) (by kernel_rfl) (by exact fun _ _ _ h => h) (Or.inl ⟨by rfl, ?_⟩) (by assumption) ?_; rotate_left; (focus (intro w hSw; (try dsimp only at hSw); go_simp; try with_reducible rfl)); (try simp only [Act.put, sA, sB, sC])
      refine wpAnyH_ready (rs := [9]) (by kernel_rfl) (by simp) ?_
      refine AllReadyH.cons (by simp only [gA, gB, gC]; rfl) (fun K hK => ?_) AllReadyH.nil
      obtain ⟨w2, hrun2, hM2, hT02⟩ := store_run (n := n + 1) hM1 hSt1 hgg (Nat.succ_pos n)
      have hS2 : (fun W => BlkL g [.map (some b)] W ∧ BlkL w.heap.size (lab4 x) W) w2 := ⟨hT02.blk hS1.1 hne, hT02.blk hS1.2 hbx⟩
      rw [show ((n + 1 : Nat) : Int) = (n : Int) + 1 from by omega] at hrun2
      refine step_estore rfl _ _ _ rfl rfl rfl rfl hrun2 ?_
      (try simp only [Act.put, sA, sB, sC])
      refine hK.out _ _ (hS2) ?_
      clear hHeld hK
      intro hHeld
      (try simp only [Act.put, sA, sB, sC])
      refine wpAnyH_done (by kernel_rfl) ?_ _
      go_wp2_with fail
      go_meet
      exact ⟨hM2, hS2, hT01.trans hT02⟩
    case rest =>
      obtain ⟨hM, hS1, hT⟩ := hcut
      have hTT : Turned [g] w wc.drew := by
        refine ⟨hT.os.trans hTZ.os, hT.tape.trans hTZ.tape, hT.output.trans hTZ.output, ?_, fun k hk hn => ?_⟩
        · show w.heap.size ≤ wc.heap.size
          rw [hT.size]
          exact hTZ.size
        · exact (hT.block k (fun e => by omega)).trans (hTZ.block k hk hn)
      have hS : (fun W => BlkL g [.map (some b)] W ∧ BlkL w.heap.size (lab4 x) W ∧ MapL W b (cntL (x :: ls)) (ls.length + 1)) wc.drew := ⟨hS1.1, hS1.2, hM⟩
      clear hM hS1 hT look_run
      go_upto_region 4 with fail
      refine wp_region_held_drew (S := (fun W => BlkL g [.map (some b)] W ∧ BlkL w.heap.size (lab4 x) W ∧ MapL W b (cntL (x :: ls)) (ls.length + 1))) (by kernel_rfl) (by exact hS) ?_
      intro hHeld
      (first | (refine wpAnyH_take (i := 0) (v := ?_) (by simp only [gA, gB, gC]; rfl) (by kernel_rfl) (by kernel_rfl) (by kernel_rfl) (by exact fun _ _ _ h => h) (Or.inl ⟨by rfl, ?_⟩) (by assumption) ?_; rotate_left; (focus (intro w hSw; (try dsimp only at hSw); go_simp; try with_reducible rfl))) | (refine wpAnyH_take (i := 0) (v := undef) (by simp only [gA, gB, gC]; rfl) (by kernel_rfl) (by kernel_rfl) (by kernel_rfl) (by exact fun _ _ _ h => h) (Or.inr ⟨by rfl, rfl⟩) (by assumption) ?_) | fail); simp only [Act.put, sA, sB, sC]
      (first | (refine wpAnyH_take (i := 1) (v := ?_) (by simp only [gA, gB, gC]; rfl) (by kernel_rfl) (by kernel_rfl) (by kernel_rfl) (by exact fun _ _ _ h => h) (Or.inl ⟨by rfl, ?_⟩) (by assumption) ?_; rotate_left; (focus (intro w hSw; (try dsimp only at hSw); go_simp; try with_reducible rfl))) | (refine wpAnyH_take (i := 1) (v := undef) (by simp only [gA, gB, gC]; rfl) (by kernel_rfl) (by kernel_rfl) (by kernel_rfl) (by exact fun _ _ _ h => h) (Or.inr ⟨by rfl, rfl⟩) (by assumption) ?_) | fail); simp only [Act.put, sA, sB, sC]
      (first | (refine wpAnyH_take (i := 2) (v := ?_) (by simp only [gA, gB, gC]; rfl) (by kernel_rfl) (by kernel_rfl) (by kernel_rfl) (by exact fun _ _ _ h => h) (Or.inl ⟨by rfl, ?_⟩) (by assumption) ?_; rotate_left; (focus (intro w hSw; (try dsimp only at hSw); go_simp; try with_reducible rfl))) | (refine wpAnyH_take (i := 2) (v := undef) (by simp only [gA, gB, gC]; rfl) (by kernel_rfl) (by kernel_rfl) (by kernel_rfl) (by exact fun _ _ _ h => h) (Or.inr ⟨by rfl, rfl⟩) (by assumption) ?_) | fail); simp only [Act.put, sA, sB, sC]
      (first | (refine wpAnyH_take (i := 3) (v := _) (by simp only [gA, gB, gC]; rfl) (by kernel_rfl) (by kernel_rfl) (by kernel_rfl) (by exact fun _ _ _ h => h) (yields_one (by rfl) _ rfl ⟨g, 0, none⟩ rfl (.map (some b)) (fun _ q => (q.1.1 0 _ rfl).1) map_load) (by assumption) ?_) | (refine wpAnyH_take (i := 3) (v := undef) (by simp only [gA, gB, gC]; rfl) (by kernel_rfl) (by kernel_rfl) (by kernel_rfl) (by exact fun _ _ _ h => h) (Or.inr ⟨by rfl, rfl⟩) (by assumption) ?_) | fail); simp only [Act.put, sA, sB, sC]
      (first | (refine wpAnyH_take (i := 4) (v := _) (by simp only [gA, gB, gC]; rfl) (by kernel_rfl) (by kernel_rfl) (by kernel_rfl) (by exact fun _ _ _ h => h) (yields_row (by rfl) _ rfl w.heap.size rfl (lab4 x) (fun _ q => q.2.1.range) hundL rfl hsl) (by assumption) ?_) | (refine wpAnyH_take (i := 4) (v := undef) (by simp only [gA, gB, gC]; rfl) (by kernel_rfl) (by kernel_rfl) (by kernel_rfl) (by exact fun _ _ _ h => h) (Or.inr ⟨by rfl, rfl⟩) (by assumption) ?_) | fail); simp only [Act.put, sA, sB, sC]
      (first | (refine wpAnyH_take (i := 5) (v := _) (by simp only [gA, gB, gC]; rfl) (by kernel_rfl) (by kernel_rfl) (by kernel_rfl) (by exact fun _ _ _ h => h) (yields_look (u := .map (some b)) (v := x.v) (by rfl) _ _ rfl rfl rfl (fun W q => hlk2 W b q.2.2)) (by assumption) ?_) | (refine wpAnyH_take (i := 5) (v := undef) (by simp only [gA, gB, gC]; rfl) (by kernel_rfl) (by kernel_rfl) (by kernel_rfl) (by exact fun _ _ _ h => h) (Or.inr ⟨by rfl, rfl⟩) (by assumption) ?_) | fail); simp only [Act.put, sA, sB, sC]
      (first | (refine wpAnyH_take (i := 6) (v := ?_) (by simp only [gA, gB, gC]; rfl) (by kernel_rfl) (by kernel_rfl) (by kernel_rfl) (by exact fun _ _ _ h => h) (Or.inl ⟨by rfl, ?_⟩) (by assumption) ?_; rotate_left; (focus (intro w hSw; (try dsimp only at hSw); go_simp; try with_reducible rfl))) | (refine wpAnyH_take (i := 6) (v := undef) (by simp only [gA, gB, gC]; rfl) (by kernel_rfl) (by kernel_rfl) (by kernel_rfl) (by exact fun _ _ _ h => h) (Or.inr ⟨by rfl, rfl⟩) (by assumption) ?_) | fail); simp only [Act.put, sA, sB, sC]
      refine wpAnyH_done (by kernel_rfl) ?_ _
      go_wp2_with fail
      go_ret
      exact ⟨rfl, [g, b], ⟨g, rfl, .inr ⟨b, rfl, hne, hS.1, hS.2.2⟩⟩, hTT, fun k hk => by simpa using hnew k hk⟩
  · have heq := eql_map b
    have hg2 := stab_blk _ _ _ _ hg hB0
    have hm2 := hm.same (hB0.block _ hm.lt)
    have hxb : w.heap.size ≠ b := fun q => by have := hm.lt; omega
    have hnew : ∀ k ∈ [g, b], k ∈ [g, b] ∨ w.heap.size ≤ k := fun k hk => .inl hk
    have hTZ : Turned [g, b] w (w.alloc (.cells (lab4 x).toArray 25)) := ⟨hB0.os, hB0.tape, hB0.output, hB0.size, fun k hk _ => hB0.block k hk⟩
    have hb2 := hb0
    clear hb0
    go_enter Try.func16, Try.ntmps16
    go_upto_region 1 with fail
    obtain ⟨Z2, hZ⟩ : ∃ Z2, w.alloc (.cells (lab4 x).toArray 25) = Z2 := ⟨_, rfl⟩
    rw [hZ] at hb2 hB0 hg2 hm2 hTZ
    replace hZ : w.alloc (.cells #[.int .i64 x.s, .int .i64 x.c, .int .i64 x.i, .int .i64 x.k] 25) = Z2 := hZ
    rw [hZ]
    clear hZ
    have hc0 := (hg2.1 0 _ rfl).1
    go_upto_region 3 with fail
    clear hc0 heq
    go_cut [] from 14 (fun wc => MapL wc b (cntL (x :: ls)) (ls.length + 1) ∧ (BlkL g [.map (some b)] wc ∧ BlkL w.heap.size (lab4 x) wc) ∧ Turn1 b Z2.drew wc)
    case first =>
      have hBd : Below Z2.heap.size Z2 Z2.drew := (Below.refl _ _).drew
      have hS0 : (fun W => BlkL g [.map (some b)] W ∧ BlkL w.heap.size (lab4 x) W) Z2.drew := ⟨stab_blk _ _ _ _ hg2 hBd, stab_blk _ _ _ _ hb2 hBd⟩
      have hM0 : MapL Z2.drew b (cntL ls) ls.length := hm2.same (hBd.block _ hm2.lt)
      have hbx : w.heap.size ≠ b := hxb
      clear hBd hlk2
      refine wp_region_held_drew (S := (fun W => BlkL g [.map (some b)] W ∧ BlkL w.heap.size (lab4 x) W)) (by kernel_rfl) (by exact hS0) ?_
      intro hHeld
      generalize Z2.drew = w0 at *
      refine wpAnyH_take (i := 0) (v := ?_) (by simp only [gA, gB, gC]; rfl) (by kernel_rfl) (by kernel_rfl) (by kernel_rfl) (by exact fun _ _ _ h => h) (Or.inl ⟨by rfl, ?_⟩) (by assumption) ?_; rotate_left; (focus (intro w hSw; (try dsimp only at hSw); go_simp; try with_reducible rfl)); (try simp only [Act.put, sA, sB, sC])
      refine wpAnyH_take (i := 1) (v := ?_) (by simp only [gA, gB, gC]; rfl) (by kernel_rfl) (by kernel_rfl) (by kernel_rfl) (by exact fun _ _ _ h => h) (Or.inl ⟨by rfl, ?_⟩) (by assumption) ?_; rotate_left; (focus (intro w hSw; (try dsimp only at hSw); go_simp; try with_reducible rfl)); (try simp only [Act.put, sA, sB, sC])
      refine wpAnyH_take (i := 2) (v := ?_) (by simp only [gA, gB, gC]; rfl) (by kernel_rfl) (by kernel_rfl) (by kernel_rfl) (by exact fun _ _ _ h => h) (Or.inl ⟨by rfl, ?_⟩) (by assumption) ?_; rotate_left; (focus (intro w hSw; (try dsimp only at hSw); go_simp; try with_reducible rfl)); (try simp only [Act.put, sA, sB, sC])
      refine wpAnyH_take (i := 3) (v := _) (by simp only [gA, gB, gC]; rfl) (by kernel_rfl) (by kernel_rfl) (by kernel_rfl) (by exact fun _ _ _ h => h) (yields_one (by rfl) _ rfl ⟨g, 0, none⟩ rfl (.map (some b)) (fun _ q => (q.1.1 0 _ rfl).1) map_load) (by assumption) ?_; (try simp only [Act.put, sA, sB, sC])
      refine wpAnyH_take (i := 4) (v := _) (by simp only [gA, gB, gC]; rfl) (by kernel_rfl) (by kernel_rfl) (by kernel_rfl) (by exact fun _ _ _ h => h) (yields_row (by rfl) _ rfl w.heap.size rfl (lab4 x) (fun _ q => q.2.range) hundL rfl hsl) (by assumption) ?_; (try simp only [Act.put, sA, sB, sC])
      refine wpAnyH_ready (rs := [5, 7]) (by kernel_rfl) (by simp) ?_
      refine AllReadyH.cons (by simp only [gA, gB, gC]; rfl) (fun K hK => ?_) ?_
      · skip
        refine step_look rfl _ _ rfl rfl rfl (look_run hM0 hGx) ?_
        (try simp only [Act.put, sA, sB, sC])
        refine hK.out _ _ (hS0) ?_
        clear hHeld hK
        intro hHeld
        (try simp only [Act.put, sA, sB, sC])
        refine wpAnyH_take (i := 6) (v := ?_) (by simp only [gA, gB, gC]; rfl) (by kernel_rfl) (by kernel_rfl) (by kernel_rfl) (by exact fun _ _ _ h => h) (Or.inl ⟨by rfl, ?_⟩) (by assumption) ?_; rotate_left; (focus (intro w hSw; (try dsimp only at hSw); go_simp; try with_reducible rfl)); (try simp only [Act.put, sA, sB, sC])
        refine wpAnyH_ready (rs := [7]) (by kernel_rfl) (by simp) ?_
        refine AllReadyH.cons (by simp only [gA, gB, gC]; rfl) (fun K hK => ?_) AllReadyH.nil
        obtain ⟨v0, st, w1, hrun1, hM1, hSt1, hT01⟩ := entry_run hM0 hGx
        have hS1 : (fun W => BlkL g [.map (some b)] W ∧ BlkL w.heap.size (lab4 x) W) w1 := ⟨hT01.blk hS0.1 hne, hT01.blk hS0.2 hbx⟩
        refine step_entry rfl _ _ rfl rfl rfl hrun1 ?_
        (try simp only [Act.put, sA, sB, sC])
        refine hK.out _ _ (hS1) ?_
        clear hHeld hK
        intro hHeld
        (try simp only [Act.put, sA, sB, sC])
        refine wpAnyH_take (i := 8) (v := ?_) (by simp only [gA, gB, gC]; rfl) (by kernel_rfl) (by kernel_rfl) (by kernel_rfl) (by exact fun _ _ _ h => h) (Or.inl ⟨by rfl, ?_⟩) (by assumption) ?_; rotate_left; (focus (intro w hSw; (try dsimp only at hSw); go_simp; try with_reducible rfl)); (try simp only [Act.put, sA, sB, sC])
        refine wpAnyH_ready (rs := [9]) (by kernel_rfl) (by simp) ?_
        refine AllReadyH.cons (by simp only [gA, gB, gC]; rfl) (fun K hK => ?_) AllReadyH.nil
        obtain ⟨w2, hrun2, hM2, hT02⟩ := store_run (n := n + 1) hM1 hSt1 hgg (Nat.succ_pos n)
        have hS2 : (fun W => BlkL g [.map (some b)] W ∧ BlkL w.heap.size (lab4 x) W) w2 := ⟨hT02.blk hS1.1 hne, hT02.blk hS1.2 hbx⟩
        rw [show ((n + 1 : Nat) : Int) = (n : Int) + 1 from by omega] at hrun2
        refine step_estore rfl _ _ _ rfl rfl rfl rfl hrun2 ?_
        (try simp only [Act.put, sA, sB, sC])
        refine hK.out _ _ (hS2) ?_
        clear hHeld hK
        intro hHeld
        (try simp only [Act.put, sA, sB, sC])
        refine wpAnyH_done (by kernel_rfl) ?_ _
        go_wp2_with fail
        go_meet
        exact ⟨hM2, hS2, hT01.trans hT02⟩
      refine AllReadyH.cons (by simp only [gA, gB, gC]; rfl) (fun K hK => ?_) AllReadyH.nil
      obtain ⟨v0, st, w1, hrun1, hM1, hSt1, hT01⟩ := entry_run hM0 hGx
      have hS1 : (fun W => BlkL g [.map (some b)] W ∧ BlkL w.heap.size (lab4 x) W) w1 := ⟨hT01.blk hS0.1 hne, hT01.blk hS0.2 hbx⟩
      refine step_entry rfl _ _ rfl rfl rfl hrun1 ?_
      (try simp only [Act.put, sA, sB, sC])
      refine hK.out _ _ (hS1) ?_
      clear hHeld hK
      intro hHeld
      (try simp only [Act.put, sA, sB, sC])
      refine wpAnyH_take (i := 8) (v := ?_) (by simp only [gA, gB, gC]; rfl) (by kernel_rfl) (by kernel_rfl) (by kernel_rfl) (by exact fun _ _ _ h => h) (Or.inl ⟨by rfl, ?_⟩) (by assumption) ?_; rotate_left; (focus (intro w hSw; (try dsimp only at hSw); go_simp; try with_reducible rfl)); (try simp only [Act.put, sA, sB, sC])
      refine wpAnyH_ready (rs := [5]) (by kernel_rfl) (by simp) ?_
      refine AllReadyH.cons (by simp only [gA, gB, gC]; rfl) (fun K hK => ?_) AllReadyH.nil
      refine step_look rfl _ _ rfl rfl rfl (look_run hM1 hGx) ?_
      (try simp only [Act.put, sA, sB, sC])
      refine hK.out _ _ (hS1) ?_
      clear hHeld hK
      intro hHeld
      (try simp only [Act.put, sA, sB, sC])
      refine wpAnyH_take (i := 6) (v := ?_) (by simp only [gA, gB, gC]; rfl) (by kernel_rfl) (by kernel_rfl) (by kernel_rfl) (by exact fun _ _ _ h => h) (Or.inl ⟨by rfl, ?_⟩) (by assumption) ?_; rotate_left; (focus (intro w hSw; (try dsimp only at hSw); go_simp; try with_reducible rfl)); (try simp only [Act.put, sA, sB, sC])
      refine wpAnyH_ready (rs := [9]) (by kernel_rfl) (by simp) ?_
      refine AllReadyH.cons (by simp only [gA, gB, gC]; rfl) (fun K hK => ?_) AllReadyH.nil
      obtain ⟨w2, hrun2, hM2, hT02⟩ := store_run (n := n + 1) hM1 hSt1 hgg (Nat.succ_pos n)
      have hS2 : (fun W => BlkL g [.map (some b)] W ∧ BlkL w.heap.size (lab4 x) W) w2 := ⟨hT02.blk hS1.1 hne, hT02.blk hS1.2 hbx⟩
      rw [show ((n + 1 : Nat) : Int) = (n : Int) + 1 from by omega] at hrun2
      refine step_estore rfl _ _ _ rfl rfl rfl rfl hrun2 ?_
      (try simp only [Act.put, sA, sB, sC])
      refine hK.out _ _ (hS2) ?_
      clear hHeld hK
      intro hHeld
      (try simp only [Act.put, sA, sB, sC])
      refine wpAnyH_done (by kernel_rfl) ?_ _
      go_wp2_with fail
      go_meet
      exact ⟨hM2, hS2, hT01.trans hT02⟩
    case rest =>
      obtain ⟨hM, hS1, hT⟩ := hcut
      have hTT : Turned [g, b] w wc.drew := by
        refine ⟨hT.os.trans hTZ.os, hT.tape.trans hTZ.tape, hT.output.trans hTZ.output, ?_, fun k hk hn => ?_⟩
        · show w.heap.size ≤ wc.heap.size
          rw [hT.size]
          exact hTZ.size
        · exact (hT.block k (fun e => hn (by simp [e]))).trans (hTZ.block k hk hn)
      have hS : (fun W => BlkL g [.map (some b)] W ∧ BlkL w.heap.size (lab4 x) W ∧ MapL W b (cntL (x :: ls)) (ls.length + 1)) wc.drew := ⟨hS1.1, hS1.2, hM⟩
      clear hM hS1 hT look_run
      go_upto_region 4 with fail
      refine wp_region_held_drew (S := (fun W => BlkL g [.map (some b)] W ∧ BlkL w.heap.size (lab4 x) W ∧ MapL W b (cntL (x :: ls)) (ls.length + 1))) (by kernel_rfl) (by exact hS) ?_
      intro hHeld
      (first | (refine wpAnyH_take (i := 0) (v := ?_) (by simp only [gA, gB, gC]; rfl) (by kernel_rfl) (by kernel_rfl) (by kernel_rfl) (by exact fun _ _ _ h => h) (Or.inl ⟨by rfl, ?_⟩) (by assumption) ?_; rotate_left; (focus (intro w hSw; (try dsimp only at hSw); go_simp; try with_reducible rfl))) | (refine wpAnyH_take (i := 0) (v := undef) (by simp only [gA, gB, gC]; rfl) (by kernel_rfl) (by kernel_rfl) (by kernel_rfl) (by exact fun _ _ _ h => h) (Or.inr ⟨by rfl, rfl⟩) (by assumption) ?_) | fail); simp only [Act.put, sA, sB, sC]
      (first | (refine wpAnyH_take (i := 1) (v := ?_) (by simp only [gA, gB, gC]; rfl) (by kernel_rfl) (by kernel_rfl) (by kernel_rfl) (by exact fun _ _ _ h => h) (Or.inl ⟨by rfl, ?_⟩) (by assumption) ?_; rotate_left; (focus (intro w hSw; (try dsimp only at hSw); go_simp; try with_reducible rfl))) | (refine wpAnyH_take (i := 1) (v := undef) (by simp only [gA, gB, gC]; rfl) (by kernel_rfl) (by kernel_rfl) (by kernel_rfl) (by exact fun _ _ _ h => h) (Or.inr ⟨by rfl, rfl⟩) (by assumption) ?_) | fail); simp only [Act.put, sA, sB, sC]
      (first | (refine wpAnyH_take (i := 2) (v := ?_) (by simp only [gA, gB, gC]; rfl) (by kernel_rfl) (by kernel_rfl) (by kernel_rfl) (by exact fun _ _ _ h => h) (Or.inl ⟨by rfl, ?_⟩) (by assumption) ?_; rotate_left; (focus (intro w hSw; (try dsimp only at hSw); go_simp; try with_reducible rfl))) | (refine wpAnyH_take (i := 2) (v := undef) (by simp only [gA, gB, gC]; rfl) (by kernel_rfl) (by kernel_rfl) (by kernel_rfl) (by exact fun _ _ _ h => h) (Or.inr ⟨by rfl, rfl⟩) (by assumption) ?_) | fail); simp only [Act.put, sA, sB, sC]
      (first | (refine wpAnyH_take (i := 3) (v := _) (by simp only [gA, gB, gC]; rfl) (by kernel_rfl) (by kernel_rfl) (by kernel_rfl) (by exact fun _ _ _ h => h) (yields_one (by rfl) _ rfl ⟨g, 0, none⟩ rfl (.map (some b)) (fun _ q => (q.1.1 0 _ rfl).1) map_load) (by assumption) ?_) | (refine wpAnyH_take (i := 3) (v := undef) (by simp only [gA, gB, gC]; rfl) (by kernel_rfl) (by kernel_rfl) (by kernel_rfl) (by exact fun _ _ _ h => h) (Or.inr ⟨by rfl, rfl⟩) (by assumption) ?_) | fail); simp only [Act.put, sA, sB, sC]
      (first | (refine wpAnyH_take (i := 4) (v := _) (by simp only [gA, gB, gC]; rfl) (by kernel_rfl) (by kernel_rfl) (by kernel_rfl) (by exact fun _ _ _ h => h) (yields_row (by rfl) _ rfl w.heap.size rfl (lab4 x) (fun _ q => q.2.1.range) hundL rfl hsl) (by assumption) ?_) | (refine wpAnyH_take (i := 4) (v := undef) (by simp only [gA, gB, gC]; rfl) (by kernel_rfl) (by kernel_rfl) (by kernel_rfl) (by exact fun _ _ _ h => h) (Or.inr ⟨by rfl, rfl⟩) (by assumption) ?_) | fail); simp only [Act.put, sA, sB, sC]
      (first | (refine wpAnyH_take (i := 5) (v := _) (by simp only [gA, gB, gC]; rfl) (by kernel_rfl) (by kernel_rfl) (by kernel_rfl) (by exact fun _ _ _ h => h) (yields_look (u := .map (some b)) (v := x.v) (by rfl) _ _ rfl rfl rfl (fun W q => hlk2 W b q.2.2)) (by assumption) ?_) | (refine wpAnyH_take (i := 5) (v := undef) (by simp only [gA, gB, gC]; rfl) (by kernel_rfl) (by kernel_rfl) (by kernel_rfl) (by exact fun _ _ _ h => h) (Or.inr ⟨by rfl, rfl⟩) (by assumption) ?_) | fail); simp only [Act.put, sA, sB, sC]
      (first | (refine wpAnyH_take (i := 6) (v := ?_) (by simp only [gA, gB, gC]; rfl) (by kernel_rfl) (by kernel_rfl) (by kernel_rfl) (by exact fun _ _ _ h => h) (Or.inl ⟨by rfl, ?_⟩) (by assumption) ?_; rotate_left; (focus (intro w hSw; (try dsimp only at hSw); go_simp; try with_reducible rfl))) | (refine wpAnyH_take (i := 6) (v := undef) (by simp only [gA, gB, gC]; rfl) (by kernel_rfl) (by kernel_rfl) (by kernel_rfl) (by exact fun _ _ _ h => h) (Or.inr ⟨by rfl, rfl⟩) (by assumption) ?_) | fail); simp only [Act.put, sA, sB, sC]
      refine wpAnyH_done (by kernel_rfl) ?_ _
      go_wp2_with fail
      go_ret
      exact ⟨rfl, [g, b], ⟨g, rfl, .inr ⟨b, rfl, hne, hS.1, hS.2.2⟩⟩, hTT, fun k hk => by simpa using hnew k hk⟩
theorem cnts3 : Cnts3 CntQ := ⟨fun h k => h.keep k, fun h => h.lt, cnew_any, fun x hx w h hl => cadd_any x hx w h hl, fun x hx w h => cof_any x hx w h⟩
end Go.Proofs.Ytajondkpdgiolaa

/-! sort.Slice OF LABELS by package label's Less, in a closure over the slice. For every stage from the twelfth on. -/
namespace Go.Proofs.Ytajondkpdgiolaa
open Go.RowKit Go.Shelf
set_option maxRecDepth 8000
set_option linter.unusedSimpArgs false
set_option linter.unusedVariables false

section
set_option linter.unusedSectionVars false
variable [Inhabited Lab]
theorem swo_less : Sort.SWO lessL where
  irrefl := less_irr
  trans := fun _ _ _ h k => lessL_trans h k
  ntrans := fun x y z h k => by
    cases hq : lessL x z
    · rfl
    · rcases less_tot y z with q | q | q
      · rw [q] at k; cases k
      · subst q; rw [hq] at h; cases h
      · have := lessL_trans hq q
        rw [this] at h; cases h
/-- In w the row in block g holds d, and the variable's box bs the slice over it. -/
structure RowS (g bs n c : Nat) (w : World) (d : Array Lab) : Prop where
  row : Sort.HoldsK lrow 4 w g 0 d
  size : d.size = n
  box : BlkL bs [.slice (some ⟨g, 0, none⟩) n c] w
  lt : g < w.heap.size
theorem holds_same {w w' : World} {g : Nat} {d : Array Lab} (h : Sort.HoldsK lrow 4 w g 0 d) (hb : w'.heap[g]? = w.heap[g]?) : Sort.HoldsK lrow 4 w' g 0 d := fun j hj => by
  have := h j hj
  refine ⟨?_, ?_⟩
  · rw [← this.1]
    exact World.cell?_of_block hb
  · rw [← this.2]
    exact World.frozen?_of_block hb
theorem RowS.same {g bs n c : Nat} {w w' : World} {d : Array Lab} (h : RowS g bs n c w d) (hb : ∀ k, k = g ∨ k = bs → w'.heap[k]? = w.heap[k]?) : RowS g bs n c w' d :=
  have lt1 : ∀ k, k < w.heap.size → w'.heap[k]? = w.heap[k]? → k < w'.heap.size := fun k hk e => by
    rw [Array.getElem?_eq_getElem hk] at e
    exact (Array.getElem?_eq_some_iff.1 e).1
  ⟨holds_same h.row (hb g (.inl rfl)), h.size, ⟨h.box.1.same (hb bs (.inr rfl)), lt1 bs h.box.2 (hb bs (.inr rfl))⟩, lt1 g h.lt (hb g (.inl rfl))⟩
theorem RowS.cells {g bs n c : Nat} {w : World} {d : Array Lab} (h : RowS g bs n c w d) {i : Nat} (hi : i < n) : CellsAt w ((⟨g, 0, none⟩ : Addr).add (i * 4)) (lab4 d[i]!) := fun j v hv => by
  have hj : j < 4 := (List.getElem?_eq_some_iff.1 hv).1
  have hc := (h.row.cell (i := i) (c := j) (by rw [h.size]; exact hi) hj).1
  have e1 : ((⟨g, 0, none⟩ : Addr).add (i * 4)).add j = ⟨g, 0 + i * 4 + j, none⟩ := by
    unfold Addr.add
    split <;> split <;> simp_all
  rw [e1, hc]
  have : (lrow d[i]!)[j]? = some v := hv
  simp [this]
theorem turned_put {w : World} {g m : Nat} {d : Array Lab} {os : Array Obj} : Turned [g] w (sortWorldK lrow 4 w g 0 m d os) := by
  refine ⟨rfl, rfl, rfl, ?_, fun k hk hn => ?_⟩
  · unfold sortWorldK
    simp [Sort.putRowK, Sort.putRow, Sort.mapBlock, Sort.ahead]
  · unfold sortWorldK
    have hne : ¬ g = k := fun e => hn (by simp [e])
    show (Array.modify w.heap g _ ++ os)[k]? = _
    rw [Array.getElem?_append_left (by simpa using hk), Array.getElem?_modify, if_neg hne]
theorem rows_put {g bs n c m : Nat} {w : World} {d d' : Array Lab} {os : Array Obj} (h : RowS g bs n c w d) (hne : bs ≠ g) (hs : d'.size = d.size) : RowS g bs n c (sortWorldK lrow 4 w g 0 m d' os) d' := by
  have ht : Turned [g] w (sortWorldK lrow 4 w g 0 m d' os) := turned_put
  exact ⟨holdsK_sortWorldK lrow 4 w g 0 m d d' os h.lt h.row hs, hs.trans h.size, ht.blk h.box (by simpa using hne), Nat.lt_of_lt_of_le h.lt ht.size⟩
theorem rows_swap {g bs n c : Nat} {w : World} {d : Array Lab} (h : RowS g bs n c w d) (hne : bs ≠ g) {i j : Nat} (hi : i < n) (hj : j < n) :
    RowS g bs n c ((w.setCells g (0 + i * 4) (lrow d[j]!)).setCells g (0 + j * 4) (lrow d[i]!)) (Sort.swp d i j) ∧ Turned [g] w ((w.setCells g (0 + i * 4) (lrow d[j]!)).setCells g (0 + j * 4) (lrow d[i]!)) := by
  have e1 := Sort.putRowK_swp lrow 4 (fun _ => rfl) w g 0 d i j (by rw [h.size]; exact hi) (by rw [h.size]; exact hj)
  rw [Sort.putRowK_self lrow 4 w g 0 d h.row] at e1
  have e2 : Sort.putRowK lrow 4 w g 0 (Sort.swp d i j) = sortWorldK lrow 4 w g 0 0 (Sort.swp d i j) #[] := by
    unfold sortWorldK
    rw [Sort.grow_empty]
    rfl
  rw [e1, e2]
  exact ⟨rows_put h hne (Sort.size_swp _ _ _), turned_put⟩
theorem lslice_load (w : World) (y : Addr) (v : Value) (h : w.cell? y = some v) : (Instr.loadAt 22 (.pointer (some y))).run Try.prog w = .ok v w := by
  have h1 := Try.underlying22
  go_simp
set_option maxRecDepth 8000 in
set_option maxHeartbeats 2000000 in
theorem allless_any {g bs n c : Nat} {w : World} {d : Array Lab} (h : RowS g bs n c w d) (hn : n < 1000000) {i j : Nat} (hi : i < n) (hj : j < n) :
    Calls Try.prog 34 #[.int .i64 (i : Int), .int .i64 (j : Int), .pointer (some ⟨bs, 0, none⟩)] w fun e w' => e = .returned (.bool (lessL d[i]! d[j]!)) ∧ Below w.heap.size w w' := by
  have hundL := Try.underlying25
  have hsl : (Try.prog.info? 25).map (·.size) = some 4 := by kernel_rfl
  have hci := h.cells hi
  have hcj := h.cells hj
  have kl := lless_any d[i]! d[j]!
  obtain ⟨R, hR⟩ : ∃ R, lessL d[i]! d[j]! = R := ⟨_, rfl⟩
  obtain ⟨x, hx⟩ : ∃ x, d[i]! = x := ⟨_, rfl⟩
  obtain ⟨y, hy⟩ : ∃ y, d[j]! = y := ⟨_, rfl⟩
  rw [hR] at kl ⊢
  rw [hx] at hci kl
  rw [hy] at hcj kl
  clear hR hx hy
  have i1 : (i : Int) < (n : Int) := by omega
  have j1 : (j : Int) < (n : Int) := by omega
  have hbx := h.box
  clear h
  generalize (⟨g, 0, none⟩ : Addr) = a0 at *
  have hS : (fun W => BlkL bs [.slice (some a0) n c] W ∧ CellsAt W (a0.add (i * 4)) (lab4 x) ∧ CellsAt W (a0.add (j * 4)) (lab4 y)) w.drew := ⟨hbx, hci, hcj⟩
  go_enter Try.func34, Try.ntmps34
  go_upto_region 1 with fail
  refine wp_region_held_drew (S := (fun W => BlkL bs [.slice (some a0) n c] W ∧ CellsAt W (a0.add (i * 4)) (lab4 x) ∧ CellsAt W (a0.add (j * 4)) (lab4 y))) (by kernel_rfl) (by first | exact hS1 | exact hS) ?_
  intro hHeld
  (first | (refine wpAnyH_take (i := 0) (v := _) (by simp only [gA, gB, gC]; rfl) (by kernel_rfl) (by kernel_rfl) (by kernel_rfl) (by exact fun _ _ _ h => h) (yields_one (by rfl) _ rfl ⟨bs, 0, none⟩ rfl (.slice (some a0) n c) (fun _ q => (q.1.1 0 _ rfl).1) lslice_load) (by assumption) ?_) | (refine wpAnyH_take (i := 0) (v := undef) (by simp only [gA, gB, gC]; rfl) (by kernel_rfl) (by kernel_rfl) (by kernel_rfl) (by exact fun _ _ _ h => h) (Or.inr ⟨by rfl, rfl⟩) (by assumption) ?_) | fail); simp only [Act.put, sA, sB, sC]
  (first | (refine wpAnyH_take (i := 1) (v := ?_) (by simp only [gA, gB, gC]; rfl) (by kernel_rfl) (by kernel_rfl) (by kernel_rfl) (by exact fun _ _ _ h => h) (Or.inl ⟨by rfl, ?_⟩) (by assumption) ?_; rotate_left; (focus (intro w hSw; (try dsimp only at hSw); go_simp; try with_reducible rfl))) | (refine wpAnyH_take (i := 1) (v := undef) (by simp only [gA, gB, gC]; rfl) (by kernel_rfl) (by kernel_rfl) (by kernel_rfl) (by exact fun _ _ _ h => h) (Or.inr ⟨by rfl, rfl⟩) (by assumption) ?_) | fail); simp only [Act.put, sA, sB, sC]
  (first | (refine wpAnyH_take (i := 2) (v := ?_) (by simp only [gA, gB, gC]; rfl) (by kernel_rfl) (by kernel_rfl) (by kernel_rfl) (by exact fun _ _ _ h => h) (Or.inl ⟨by rfl, ?_⟩) (by assumption) ?_; rotate_left; (focus (intro w hSw; (try dsimp only at hSw); go_simp; try with_reducible rfl))) | (refine wpAnyH_take (i := 2) (v := undef) (by simp only [gA, gB, gC]; rfl) (by kernel_rfl) (by kernel_rfl) (by kernel_rfl) (by exact fun _ _ _ h => h) (Or.inr ⟨by rfl, rfl⟩) (by assumption) ?_) | fail); simp only [Act.put, sA, sB, sC]
  (first | (refine wpAnyH_take (i := 3) (v := _) (by simp only [gA, gB, gC]; rfl) (by kernel_rfl) (by kernel_rfl) (by kernel_rfl) (by exact fun _ _ _ h => h) (yields_at (by rfl) _ rfl _ rfl (lab4 x) (fun _ q => q.2.1) hundL rfl hsl) (by assumption) ?_) | (refine wpAnyH_take (i := 3) (v := undef) (by simp only [gA, gB, gC]; rfl) (by kernel_rfl) (by kernel_rfl) (by kernel_rfl) (by exact fun _ _ _ h => h) (Or.inr ⟨by rfl, rfl⟩) (by assumption) ?_) | fail); simp only [Act.put, sA, sB, sC]
  (first | (refine wpAnyH_take (i := 4) (v := _) (by simp only [gA, gB, gC]; rfl) (by kernel_rfl) (by kernel_rfl) (by kernel_rfl) (by exact fun _ _ _ h => h) (yields_one (by rfl) _ rfl ⟨bs, 0, none⟩ rfl (.slice (some a0) n c) (fun _ q => (q.1.1 0 _ rfl).1) lslice_load) (by assumption) ?_) | (refine wpAnyH_take (i := 4) (v := undef) (by simp only [gA, gB, gC]; rfl) (by kernel_rfl) (by kernel_rfl) (by kernel_rfl) (by exact fun _ _ _ h => h) (Or.inr ⟨by rfl, rfl⟩) (by assumption) ?_) | fail); simp only [Act.put, sA, sB, sC]
  (first | (refine wpAnyH_take (i := 5) (v := ?_) (by simp only [gA, gB, gC]; rfl) (by kernel_rfl) (by kernel_rfl) (by kernel_rfl) (by exact fun _ _ _ h => h) (Or.inl ⟨by rfl, ?_⟩) (by assumption) ?_; rotate_left; (focus (intro w hSw; (try dsimp only at hSw); go_simp; try with_reducible rfl))) | (refine wpAnyH_take (i := 5) (v := undef) (by simp only [gA, gB, gC]; rfl) (by kernel_rfl) (by kernel_rfl) (by kernel_rfl) (by exact fun _ _ _ h => h) (Or.inr ⟨by rfl, rfl⟩) (by assumption) ?_) | fail); simp only [Act.put, sA, sB, sC]
  (first | (refine wpAnyH_take (i := 6) (v := ?_) (by simp only [gA, gB, gC]; rfl) (by kernel_rfl) (by kernel_rfl) (by kernel_rfl) (by exact fun _ _ _ h => h) (Or.inl ⟨by rfl, ?_⟩) (by assumption) ?_; rotate_left; (focus (intro w hSw; (try dsimp only at hSw); go_simp; try with_reducible rfl))) | (refine wpAnyH_take (i := 6) (v := undef) (by simp only [gA, gB, gC]; rfl) (by kernel_rfl) (by kernel_rfl) (by kernel_rfl) (by exact fun _ _ _ h => h) (Or.inr ⟨by rfl, rfl⟩) (by assumption) ?_) | fail); simp only [Act.put, sA, sB, sC]
  (first | (refine wpAnyH_take (i := 7) (v := _) (by simp only [gA, gB, gC]; rfl) (by kernel_rfl) (by kernel_rfl) (by kernel_rfl) (by exact fun _ _ _ h => h) (yields_at (by rfl) _ rfl _ rfl (lab4 y) (fun _ q => q.2.2) hundL rfl hsl) (by assumption) ?_) | (refine wpAnyH_take (i := 7) (v := undef) (by simp only [gA, gB, gC]; rfl) (by kernel_rfl) (by kernel_rfl) (by kernel_rfl) (by exact fun _ _ _ h => h) (Or.inr ⟨by rfl, rfl⟩) (by assumption) ?_) | fail); simp only [Act.put, sA, sB, sC]
  first | (refine wpAnyH_take (i := 8) (v := undef) (by simp only [gA, gB, gC]; rfl) (by kernel_rfl) (by kernel_rfl) (by kernel_rfl) (by exact fun _ _ _ h => h) (Or.inr ⟨by rfl, rfl⟩) (by assumption) ?_; simp only [Act.put, sA, sB, sC]) | (refine wpAnyH_ready (rs := [8]) (by kernel_rfl) (by simp) ?_; refine AllReadyH.cons (by simp only [gA, gB, gC]; rfl) (fun K hK => ?_) AllReadyH.nil; go_simp; (first | (go_at_call 35; refine (kl _).mono ?_; rintro e w1 ⟨rfl, hb1⟩; have hS1 : (fun W => BlkL bs [.slice (some a0) n c] W ∧ CellsAt W (a0.add (i * 4)) (lab4 x) ∧ CellsAt W (a0.add (j * 4)) (lab4 y)) w1 := ⟨stab_blk _ _ _ _ hS.1 hb1, hS.2.1.below hb1, hS.2.2.below hb1⟩)); refine hK.out _ _ (by first | exact hS1 | exact hS) ?_; clear hHeld hK; intro hHeld; (try simp only [Act.put, sA, sB, sC])) | fail
  (first | (refine wpAnyH_take (i := 9) (v := ?_) (by simp only [gA, gB, gC]; rfl) (by kernel_rfl) (by kernel_rfl) (by kernel_rfl) (by exact fun _ _ _ h => h) (Or.inl ⟨by rfl, ?_⟩) (by assumption) ?_; rotate_left; (focus (intro w hSw; (try dsimp only at hSw); go_simp; try with_reducible rfl))) | (refine wpAnyH_take (i := 9) (v := undef) (by simp only [gA, gB, gC]; rfl) (by kernel_rfl) (by kernel_rfl) (by kernel_rfl) (by exact fun _ _ _ h => h) (Or.inr ⟨by rfl, rfl⟩) (by assumption) ?_) | fail); simp only [Act.put, sA, sB, sC]
  refine wpAnyH_done (by kernel_rfl) ?_ _
  go_wp2_with fail
  go_ret
  exact ⟨rfl, Below.then (Below.refl w.heap.size w).drew hb1⟩
theorem lab_info : ∃ ie, Try.prog.info? 25 = some ie ∧ ie.hasPointers = false ∧ ie.bytes = 32 ∧ ie.size = 4 := by
  have h : (Try.prog.info? 25).map (fun i => (i.hasPointers, i.bytes, i.size)) = some (false, 32, 4) := by kernel_rfl
  cases he : Try.prog.info? 25 with
  | none => rw [he] at h; cases h
  | some i =>
    rw [he] at h
    simp at h
    exact ⟨i, rfl, h.1, h.2.1, h.2.2⟩
theorem labs_info : ∃ i, Try.prog.info? 22 = some i ∧ i.desc = .slice 25 := by
  have h : ((Try.prog.info? 22).map (fun i => match i.desc with | .slice e => some e | _ => none)) = some (some 25) := by kernel_rfl
  cases he : Try.prog.info? 22 with
  | none => rw [he] at h; cases h
  | some i =>
    rw [he] at h
    refine ⟨i, rfl, ?_⟩
    cases hd : i.desc <;> simp [hd] at h ⊢
    exact h
theorem lab_swapper {ie : TypeInfo} (h1 : ie.hasPointers = false) (h2 : ie.bytes = 32) (n : Nat) (hn : 2 ≤ n) (ke : Nat) : Lib.swapperK n ie ke = 9 := by
  have c : (n == 0) = false := by simp; omega
  have d : (n == 1) = false := by simp; omega
  simp [Lib.swapperK, h1, h2, c, d]
theorem lab_one (x : Lab) : ∀ v ∈ lrow x, v.oneCell' = true := fun v hv => by simp [lrow] at hv; rcases hv with rfl | rfl | rfl | rfl <;> rfl
theorem lays28 : LaysGg.n28 Try.prog laysSlice_ren := { laysSlice with }
theorem lbrk_any {g bs n c : Nat} {w : World} {d : Array Lab} (hne : bs ≠ g) (hn : n < 1000000) (h : RowS g bs n c w d) (a b : Nat) (hab : a ≤ b) (hb : b ≤ n) (lv : Array Value) (gf sf : Nat) (sb : Array Value) (hsw : SwapSwapsK Try.prog sf sb lrow 4 g 0 n) :
    Calls Try.prog 62 #[.agg #[.func (.func gf) #[] lv, .func (.func sf) #[] sb], .int .i64 (a : Int), .int .i64 (b : Int)] w fun e w' => e = .returned (.tuple #[]) ∧ RowS g bs n c w' (Sort.breakPatterns d a b) ∧ Turned [g] w w' := by
  have hb' : b ≤ d.size := by rw [h.size]; exact hb
  have hsw' : SwapSwapsK Try.prog sf sb lrow 4 g 0 d.size := by rw [h.size]; exact hsw
  have k := Any.breakPatterns_func_cells_w lays28 lrow 4 (fun _ => rfl) (.func gf) #[] lv sf sb g 0 a b d w hsw' h.row h.lt hab hb' (by rw [h.size]; omega)
  replace k : Calls Try.prog 62 _ _ _ := k
  refine k.mono ?_
  rintro e w' ⟨rfl, m, os, rfl⟩
  exact ⟨rfl, rows_put h hne (Sort.breakPatterns_holds d a b hab hb').1, turned_put⟩
theorem srt_lab {g bs n c B : Nat} (hne : bs ≠ g) (hgB : g < B) (hbB : bs < B) (hn : n < 1000000) : Srt n 34 57 #[.pointer (some ⟨bs, 0, none⟩)] #[.slice (some ⟨g, 0, none⟩) n c, typeHandle Try.prog 25] lessL g (fun w d => RowS g bs n c w d ∧ B ≤ w.heap.size) := by
  obtain ⟨ie, hie, hp, hb, hs⟩ := lab_info
  have hsw := swapSwapsK_of_literal (P := Try.prog) false 57 (fun args W => run_callFunc_extern Try.func57 (by kernel_rfl) (by kernel_rfl) (by kernel_rfl) (e := Extern.ReflectliteSwapper.swap false) (by kernel_rfl) args W) 25 ie hie lrow 4 (fun _ => rfl) hs (fun _ => by kernel_rfl) lab_one g 0 n c
  refine ⟨enters_of Try.func34 (by kernel_rfl) rfl, fun w d i j h hi hj => allless_any h.1 hn hi hj, fun w d i j h hi hj => ?_, fun {w w' d} h hb => ⟨h.1.same fun k hk => hb.block k ?_, Nat.le_trans h.2 hb.size⟩, fun h => h.1.lt, fun h => h.1.size, hn, fun w d a b h hab hb => ?_, ⟨B, fun h => h.2, fun {w w' d} h hk => ⟨h.1.same fun k hq => hk k ?_, ?_⟩⟩⟩
  · have h1 := rows_swap h.1 hne hi hj
    exact ⟨_, hsw w d h.1.row h.1.size i j hi hj, ⟨h1.1, Nat.le_trans h.2 h1.2.size⟩, h1.2⟩
  · have h1 := h.1.lt
    have h2 := h.1.box.2
    omega
  · refine (lbrk_any hne hn h.1 a b hab hb _ _ _ _ hsw).mono ?_
    rintro e w' ⟨rfl, h1, ht⟩
    exact ⟨rfl, ⟨h1, Nat.le_trans h.2 ht.size⟩, ht⟩
  · omega
  · have h1 : B - 1 < w.heap.size := by have := h.2; omega
    have h2 := hk (B - 1) (by omega)
    rw [Array.getElem?_eq_getElem h1] at h2
    have := (Array.getElem?_eq_some_iff.1 h2).1
    omega
end
set_option maxRecDepth 8000 in
set_option maxHeartbeats 2000000 in
theorem lsort_any (v : Value) (xs : List Lab) (bs base : Nat) (w : World) (ho : OwnR 25 4 lrow w base v xs) (hb : BlkL bs [v] w) (hbs : some bs ≠ v.ownBlock) (hl : xs.length ≤ 1000) :
    Calls Try.prog 33 #[.iface 22 v, .func (.func 34) #[] #[.pointer (some ⟨bs, 0, none⟩)]] w fun e w' => e = .returned (.tuple #[]) ∧ ∃ ys a c, ys.Perm xs ∧ SortL ys ∧ v = .slice a ys.length c ∧ RowAt 4 lrow w' a ys ∧ Turned v.ownBlock.toList w w' := by
  haveI : Inhabited Lab := ⟨⟨0, 0, 0, 0⟩⟩
  obtain ⟨ie, hie, hp, hby, hsz⟩ := lab_info
  obtain ⟨it, hit, hid⟩ := labs_info
  by_cases h1 : xs.length ≤ 1
  · obtain ⟨a, c, hv, -, -, hr⟩ := OwnR.slice lab_ok.len ho
    have hs : SortL xs := by
      match xs, h1 with
      | [], _ => exact List.Pairwise.nil
      | [x], _ => exact List.pairwise_singleton _ _
    obtain ⟨f, hf⟩ : ∃ f, Try.prog.funcs.findIdx? (·.name == "internal/reflectlite" ++ ".Swapper$" ++ toString (Lib.swapperK xs.length ie 25)) = some f := by
      rcases (show xs.length = 0 ∨ xs.length = 1 by omega) with q | q
      · exact ⟨49, by rw [q]; simp only [Lib.swapperK]; kernel_rfl⟩
      · exact ⟨50, by rw [q]; simp only [Lib.swapperK]; kernel_rfl⟩
    have k := Any.sort_Slice_tiny laysSlice 22 25 it ie hit hid (by kernel_rfl) hie 25 (fun _ => by kernel_rfl) a xs.length c h1 f hf (.func 34) #[] #[.pointer (some ⟨bs, 0, none⟩)] w
    replace k : Calls Try.prog 33 _ _ _ := k
    rw [← hv] at k
    refine k.mono ?_
    rintro e w' ⟨rfl, os, rfl⟩
    have hB : Below w.heap.size w (Sort.grow w os) := ⟨rfl, rfl, rfl, by simp [Sort.grow], fun k hk => by simp [Sort.grow, Array.getElem?_append_left hk]⟩
    exact ⟨rfl, xs, a, c, List.Perm.refl _, hs, hv, hr.below lab_ok.len hB, turned_below hB⟩
  · obtain ⟨g, c, rfl, hgl, hrow⟩ : ∃ g c, v = .slice (some ⟨g, 0, none⟩) xs.length c ∧ g < w.heap.size ∧ Sort.HoldsK lrow 4 w g 0 xs.toArray := by
      rcases ho.2 with ⟨-, h2⟩ | ⟨g, cap, cur, hv, -, hh, -⟩
      · omega
      · refine ⟨g, cap, hv, (Array.getElem?_eq_some_iff.1 hh).1, fun j hj => ?_⟩
        have ho' := ho
        rw [hv] at ho'
        have hj' : j < xs.length * 4 := by simpa using hj
        obtain ⟨a1, c1, hv1, -, -, hr1⟩ := OwnR.slice lab_ok.len ho'
        obtain ⟨rfl, rfl⟩ : some ⟨g, 0, none⟩ = a1 ∧ cap = c1 := by
          injection hv1 with q1 q2 q3
          exact ⟨q1, q3⟩
        obtain ⟨x, hx⟩ : ∃ x, xs[j / 4]? = some x := ⟨_, List.getElem?_eq_getElem (by omega)⟩
        obtain ⟨y, hy, hcy⟩ := hr1 (j / 4) x hx
        obtain rfl := Option.some.inj hy
        have hc := hcy (j % 4) (Nat.mod_lt _ (by decide))
        rw [show j / 4 * 4 + j % 4 = j by omega] at hc
        have ea : (⟨g, 0, none⟩ : Addr).add j = ⟨g, 0 + j, none⟩ := by
          unfold Addr.add
          split <;> simp_all
        have e4 : (lrow x)[j % 4]? = some (lrow x)[j % 4]! := by
          have h4 : j % 4 < (lrow x).length := Nat.mod_lt _ (by decide)
          rw [List.getElem?_eq_getElem h4, getElem!_pos (lrow x) (j % 4) h4]
        have ex : xs.toArray[j / 4]! = x := by
          rw [Array.getElem!_eq_getD, Array.getD_eq_getD_getElem?]
          simp [hx]
        have c2 := World.ownsRow.frozenAt (show w.ownsRow base 25 4 (.slice (some ⟨g, 0, none⟩) xs.length cap) xs.length (xs.flatMap lrow) from ho') j
        rw [Nat.zero_add] at ea ⊢
        refine ⟨?_, c2⟩
        rw [← ea, hc, e4, Sort.get_flatK lrow 4 xs.toArray j (by simpa using hj'), ex]
        rfl
    have hbs' : bs ≠ g := fun e => hbs (by rw [e]; rfl)
    obtain ⟨n, hn⟩ : ∃ n, xs.length = n := ⟨_, rfl⟩
    rw [hn] at hb h1 hl ⊢
    have h2 : 2 ≤ n := by omega
    have hn9 := lab_swapper hp hby n h2 25
    have hB : sliceBound Try.prog 25 ie 25 (some ⟨g, 0, none⟩) n c = #[.slice (some ⟨g, 0, none⟩) n c, typeHandle Try.prog 25] := by
      unfold sliceBound
      rw [if_neg (swapperK_gt _ _ _ h2)]
    have hrs : RowS g bs n c w xs.toArray := ⟨hrow, by simpa using hn, hb, hgl⟩
    have hBw : Below w.heap.size w (sliceWorld Try.prog laysSlice_ren 22 (some ⟨g, 0, none⟩) n c w) := by
      unfold sliceWorld
      exact below2 w _ _
    have hrs1 := hrs.same (w' := sliceWorld Try.prog laysSlice_ren 22 (some ⟨g, 0, none⟩) n c w) fun k hk => hBw.block k (by
      have h3 := hrs.lt
      have h4 := hrs.box.2
      omega)
    have K := srt_lab (g := g) (bs := bs) (n := n) (c := c) (B := w.heap.size) hbs' hgl hb.2 (by omega)
    have hlim : Lib.bitLen n ≤ 1000 := Nat.le_trans (Lib.bitLen_le n 62 (by omega) (by omega)) (by decide)
    have kp := spdq_any K swo_less n 0 n (Lib.bitLen n) xs.toArray _ (by omega) ⟨hrs1, hBw.size⟩ (by omega) (Nat.le_refl _) hlim
    have k := Any.sort_Slice_of_pdq laysSlice 22 25 it ie hit hid (by kernel_rfl) hie 25 (fun _ => by kernel_rfl) (some ⟨g, 0, none⟩) n c (by omega) 57 (by rw [hn9]; kernel_rfl) (.func 34) #[] #[.pointer (some ⟨bs, 0, none⟩)] w
      (fun w' => RowS g bs n c w' (Sort.pdq lessL xs.toArray 0 n (Lib.bitLen n) true true) ∧ Turned [g] w w') (by
        rw [hB]
        refine Calls.mono (show Calls Try.prog 48 _ _ _ from kp) ?_
        rintro e w' ⟨he, hS, hT⟩
        exact ⟨he, hS.1, (turned_below hBw).trans hT⟩)
    replace k : Calls Try.prog 33 _ _ _ := k
    refine k.mono ?_
    rintro e w' ⟨rfl, hR, hT⟩
    have hps := Sort.pdq_sorts lessL swo_less xs.toArray 0 n (Lib.bitLen n) true true (Nat.zero_le _) (by simp; omega) (Or.inl rfl)
    generalize Sort.pdq lessL xs.toArray 0 n (Lib.bitLen n) true true = d at hR hps
    obtain ⟨⟨hz, -, hpm⟩, hso⟩ := hps
    have hdn : d.size = n := hR.size
    have hyl : d.toList.length = n := by simpa using hdn
    refine ⟨rfl, d.toList, some ⟨g, 0, none⟩, c, ?_, ?_, by rw [hyl], ?_, hT⟩
    · have e1 : (d.extract 0 n).toList = d.toList := by rw [← hdn]; simp
      have e2 : (xs.toArray.extract 0 n).toList = xs := by rw [← hn]; simp
      rw [e1, e2] at hpm
      exact hpm
    · refine List.pairwise_iff_getElem.2 fun i j hi hj hij => ?_
      have := hso i j (Nat.zero_le _) hij (by omega)
      rw [getElem!_pos d i (by simpa using hi), getElem!_pos d j (by simpa using hj)] at this
      simpa using this
    · intro j x hx
      refine ⟨_, rfl, fun i hi => ?_⟩
      have hj : j < n := by have := (List.getElem?_eq_some_iff.1 hx).1; omega
      have hxx : d[j]! = x := by
        rw [getElem!_pos d j (by omega)]
        have := (List.getElem?_eq_some_iff.1 hx).2
        simpa using this
      have hc := (hR.row.cell (i := j) (c := i) (by omega) hi).1
      rw [hxx] at hc
      have ea : (⟨g, 0, none⟩ : Addr).add (j * 4 + i) = ⟨g, 0 + j * 4 + i, none⟩ := by
        unfold Addr.add
        split <;> simp_all
      have e4 : (lrow x)[i]? = some (lrow x)[i]! := by
        have h4 : i < (lrow x).length := hi
        rw [List.getElem?_eq_getElem h4, getElem!_pos (lrow x) i h4]
      rw [ea, hc, e4]
end Go.Proofs.Ytajondkpdgiolaa

/-! maps.Keys OVER A MAP KEYED BY LABELS: its iterator gives each key once. For every stage from the twelfth on. -/
namespace Go.Proofs.Ytajondkpdgiolaa
open Go.RowKit Go.ChangeMaps
set_option maxRecDepth 8000
set_option linter.unusedSimpArgs false
set_option linter.unusedVariables false

/-- Under way: b is the map, r its iterator, dn have come, and these are ss. -/
structure RngL (W : World) (b r : Nat) (es : Array MapEntry) (clock : Nat) (seen : Array Nat) (c0 : Nat) (dn : List MapEntry) (ss : List Lab) : Prop where
  map : W.heap[b]? = some (.map es clock)
  it : W.heap[r]? = some (.mapIter (some b) clock seen c0)
  c0 : clock ≤ c0
  seen : seen.toList = dn.map (·.born)
  sub : ∀ e ∈ dn, e ∈ es.toList
  nod : (dn.map (·.born)).Nodup
  keys : dn.map (·.key) = ss.map Lab.v
/-- What has come, once all have. -/
structure SKeys (f : Lab → Nat) (m : Nat) (xs : List Lab) : Prop where
  nod : xs.Nodup
  has : ∀ x, 0 < f x → x ∈ xs
  good : ∀ x ∈ xs, GL x
  len : xs.length ≤ m
section
variable {W W' : World} {b r clock c0 m : Nat} {es : Array MapEntry} {seen : Array Nat} {dn : List MapEntry} {ss : List Lab} {f : Lab → Nat}
theorem RngL.kept (h : RngL W b r es clock seen c0 dn ss) (k : KeepsWalks W W') : RngL W' b r es clock seen c0 dn ss := ⟨k.same b _ h.map rfl, k.same r _ h.it rfl, h.c0, h.seen, h.sub, h.nod, h.keys⟩
theorem nodup_len {α : Type} [DecidableEq α] : ∀ (l1 l2 : List α), l1.Nodup → (∀ x ∈ l1, x ∈ l2) → l1.length ≤ l2.length
  | [], _, _, _ => Nat.zero_le _
  | a :: l, l2, hn, hs => by
    obtain ⟨h1, h2⟩ := List.nodup_cons.1 hn
    have ha := hs a (List.mem_cons_self)
    have h3 := nodup_len l (l2.erase a) h2 fun x hx => (List.mem_erase_of_ne (fun e : x = a => h1 (by rw [← e]; exact hx))).2 (hs x (List.mem_cons_of_mem _ hx))
    have h4 := List.length_erase_of_mem ha
    have h5 := List.length_pos_of_mem ha
    simp only [List.length_cons]
    omega
theorem RngL.few (h : RngL W b r es clock seen c0 dn ss) : ss.length ≤ es.size := by
  have h1 := nodup_len (dn.map (·.born)) (es.toList.map (·.born)) h.nod fun x hx => by
    obtain ⟨e, he, rfl⟩ := List.mem_map.1 hx
    exact List.mem_map.2 ⟨e, h.sub e he, rfl⟩
  have h2 := congrArg List.length h.keys
  simp at h1 h2
  omega
theorem labv_map_nodup : ∀ {ss : List Lab}, (ss.map Lab.v).Nodup → ss.Nodup
  | [], _ => List.nodup_nil
  | a :: l, h => by
    obtain ⟨h1, h2⟩ := List.nodup_cons.1 h
    exact List.nodup_cons.2 ⟨fun hm => h1 (List.mem_map.2 ⟨a, hm, rfl⟩), labv_map_nodup h2⟩
theorem born_key {es : Array MapEntry} (hn : (es.toList.map (·.born)).Nodup) (hk : (es.toList.map (·.key)).Nodup) : ∀ {dn : List MapEntry}, (∀ e ∈ dn, e ∈ es.toList) → (dn.map (·.born)).Nodup → (dn.map (·.key)).Nodup
  | [], _, _ => List.nodup_nil
  | a :: l, hs, hb => by
    obtain ⟨h1, h2⟩ := List.nodup_cons.1 hb
    refine List.nodup_cons.2 ⟨fun hm => ?_, born_key hn hk (fun e he => hs e (List.mem_cons_of_mem _ he)) h2⟩
    obtain ⟨e, he, hek⟩ := List.mem_map.1 hm
    obtain ⟨i, hi⟩ := List.mem_iff_getElem?.1 (hs a List.mem_cons_self)
    obtain ⟨j, hj⟩ := List.mem_iff_getElem?.1 (hs e (List.mem_cons_of_mem _ he))
    have hil := (List.getElem?_eq_some_iff.1 hi).1
    have e1 : (es.toList.map (·.key))[i]? = (es.toList.map (·.key))[j]? := by rw [List.getElem?_map, List.getElem?_map, hi, hj]; simp [hek]
    have e2 := (List.getElem?_inj (by simpa using hil) hk).1 e1
    subst e2
    obtain rfl := Option.some.inj (hi.symm.trans hj)
    exact h1 (List.mem_map.2 ⟨a, he, rfl⟩)
theorem RngL.done (h : RngL W b r es clock seen c0 dn ss) (hC : CEs es clock f) (hm : es.size ≤ m) (h0 : (leftOf es seen).size = 0) : SKeys f m ss := by
  have hall : ∀ e ∈ es.toList, e ∈ dn := fun e he => by
    have h1 : leftOf es seen = #[] := Array.eq_empty_of_size_eq_zero h0
    unfold leftOf at h1
    have h2 := (Array.filter_eq_empty_iff.1 h1) e (by simpa using he)
    have h3 : e.born ∈ seen.toList := by simpa using h2
    rw [h.seen] at h3
    obtain ⟨e2, he2, hb⟩ := List.mem_map.1 h3
    obtain ⟨i, hi⟩ := List.mem_iff_getElem?.1 he
    obtain ⟨j, hj⟩ := List.mem_iff_getElem?.1 (h.sub e2 he2)
    have hil := (List.getElem?_eq_some_iff.1 hi).1
    have e1 : (es.toList.map (·.born))[i]? = (es.toList.map (·.born))[j]? := by rw [List.getElem?_map, List.getElem?_map, hi, hj]; simp [hb]
    have e3 := (List.getElem?_inj (by simpa using hil) hC.nod).1 e1
    subst e3
    obtain rfl := Option.some.inj (hi.symm.trans hj)
    exact he2
  have hmem : ∀ x, x ∈ ss ↔ ∃ e ∈ dn, e.key = x.v := fun x => by
    constructor
    · intro hx
      have : x.v ∈ dn.map (·.key) := by rw [h.keys]; exact List.mem_map.2 ⟨x, hx, rfl⟩
      obtain ⟨e, he, hk⟩ := List.mem_map.1 this
      exact ⟨e, he, hk⟩
    · rintro ⟨e, he, hk⟩
      have : e.key ∈ ss.map Lab.v := by rw [← h.keys]; exact List.mem_map.2 ⟨e, he, rfl⟩
      obtain ⟨y, hy, hv⟩ := List.mem_map.1 this
      rw [← labV_inj (hv.trans hk)]
      exact hy
  refine ⟨?_, fun x hx => ?_, fun x hx => ?_, Nat.le_trans h.few hm⟩
  · apply labv_map_nodup
    rw [← h.keys]
    exact born_key hC.nod hC.uniq h.sub h.nod
  · obtain ⟨e, he, hk⟩ := hC.has x hx
    exact (hmem x).2 ⟨e, hall e he, hk⟩
  · obtain ⟨e, he, hk⟩ := (hmem x).1 hx
    obtain ⟨y, hy, hv, -⟩ := hC.ent e (h.sub e he)
    rw [labV_inj (hk.symm.trans hv)]
    exact hy
theorem RngL.next (h : RngL W b r es clock seen c0 dn ss) {e : MapEntry} (he : e ∈ (leftOf es seen).toList) {x : Lab} (hx : e.key = x.v) (hne : r ≠ b) {W1 : World} (h1 : W1.heap[b]? = W.heap[b]?) (h2 : W1.heap[r]? = some (.mapIter (some b) clock (seen.push e.born) clock)) : RngL W1 b r es clock (seen.push e.born) clock (dn ++ [e]) (ss ++ [x]) := by
  unfold leftOf at he
  simp at he
  refine ⟨h1.trans h.map, h2, Nat.le_refl _, by simp [h.seen], fun y hy => ?_, ?_, by simp [h.keys, hx]⟩
  · simp at hy
    rcases hy with hy | rfl
    · exact h.sub y hy
    · simpa using he.1
  · rw [List.map_append]
    refine List.nodup_append.2 ⟨h.nod, by simp, fun a ha c hc e1 => ?_⟩
    simp at hc
    rw [← h.seen] at ha
    subst e1 hc
    exact he.2 (by simpa using ha)
end
def seenN (W : World) (r : Nat) : Nat := match W.heap[r]? with | some (.mapIter _ _ seen _) => seen.size | _ => 0
theorem RngL.seenN {W : World} {b r clock c0 : Nat} {es : Array MapEntry} {seen : Array Nat} {dn : List MapEntry} {ss : List Lab} (h : RngL W b r es clock seen c0 dn ss) : seenN W r = ss.length := by
  unfold Go.Proofs.Ytajondkpdgiolaa.seenN
  rw [h.it]
  have h1 := congrArg List.length h.seen
  have h2 := congrArg List.length h.keys
  simp at h1 h2
  show seen.size = _
  omega
set_option maxRecDepth 100000 in
set_option maxHeartbeats 2000000 in
theorem labkeys_in (n : Nat) (hn : 1 ≤ n) (l Bm b m : Nat) (f : Lab → Nat) (J Jx : List Lab → World → Prop)
    (hY : ∀ pre x W1, J pre W1 → pre.length < m → YieldAt Fence.wide (n - 1) Try.prog l #[Lab.v x] W1 fun e W' => (e = .returned (.bool true) ∧ J (pre ++ [x]) W' ∧ KeepsWalks W1 W') ∨ (e = .returned (.bool false) ∧ Jx (pre ++ [x]) W'))
    (W : World) (hJ : AbidesFrom W.heap.size J) (hc : W.cell? ⟨Bm, 0, none⟩ = some (.map (some b))) (hM : MapL W b f m) (h0 : J [] W) :
    CallsIn Fence.wide n Try.prog 43 #[.func (.yield l) #[] #[], .pointer (some ⟨Bm, 0, none⟩)] W fun e W' => (∃ v, e = .returned v) ∧ ((∃ xs, SKeys f m xs ∧ J xs W') ∨ (∃ pre, True ∧ Jx pre W')) := by
  have hund := Try.underlying25
  have hbl := hM.lt
  obtain ⟨es, clock, hb, hC, hes⟩ := hM
  have hrun := fun (Z : World) (hz : Z.heap[b]? = some (.map es clock)) => run_range_map (P := Try.prog) Z 67 25 3 b es clock und_m hz
  have hrun0 := hrun W hb
  have hg0 := World.grownBy_alloc W (.mapIter (some b) clock #[] clock) none
  have h1 : RngL (W.alloc (.mapIter (some b) clock #[] clock)) b W.heap.size es clock #[] clock [] [] := ⟨((MapKept.heap_alloc W _).2 b hbl).trans hb, (MapKept.heap_alloc W _).1, Nat.le_refl _, rfl, fun _ h => (by simp at h), List.nodup_nil, rfl⟩
  have hJ1 : J [] (W.alloc (.mapIter (some b) clock #[] clock)) := hJ [] W _ none h0 hg0 (fun r e => by cases e)
  refine callsIn_of_wp Try.func43 rfl trivial ?_ rfl
  simp only [Try.ntmps43, List.size_toArray, List.length_cons, List.length_nil, Nat.reduceAdd, Nat.reduceSub, Array.replicate_succ, Array.replicate_zero, List.push_toArray, List.append_toArray, List.nil_append, List.cons_append]
  gi_wp2
  generalize W.alloc (.mapIter (some b) clock #[] clock) = W0 at *
  clear hrun hrun0 hg0
  gi_loopw [3] (fun _ wr => ∃ (seen : Array Nat) (c0 : Nat) (dn : List MapEntry) (ss : List Lab), RngL wr b W.heap.size es clock seen c0 dn ss ∧ J ss wr) (fun _ wr => m - seenN wr W.heap.size)
  case atStart => exact ⟨_, _, _, _, h1, hJ1⟩
  case round =>
    clear h1 hJ1
    obtain ⟨seen, c0, dn, ss, hr, hJs⟩ := hrel
    have hrb : W.heap.size ≠ b := by omega
    have hrl : W.heap.size < wr.heap.size := (Array.getElem?_eq_some_iff.1 hr.it).1
    rcases run_next_at (P := Try.prog) wr 0 W.heap.size b clock c0 seen es clock hr.it hr.map (fun x hx => hC.born x hx) hr.c0 with ⟨hz, hnx⟩ | ⟨e, he, w1, hw1, hnx⟩
    · have hfin := hr.done hC hes hz
      gi_wp2
      go_end0
      exact ⟨⟨_, rfl⟩, .inl ⟨ss, hfin, hJs⟩⟩
    · have hee : e ∈ es.toList := by
        unfold leftOf at he
        simp at he
        simpa using he.1
      obtain ⟨x, hGx, hk, hv⟩ := hC.ent e hee
      have hw1h : w1.heap = wr.heap := by rcases hw1 with rfl | rfl <;> rfl
      obtain ⟨W2, hW2⟩ : ∃ W2, setBlock w1 W.heap.size (.mapIter (some b) clock (seen.push e.born) clock) = W2 := ⟨_, rfl⟩
      rw [hW2, hk] at hnx
      have h2b : W2.heap[b]? = wr.heap[b]? := by rw [← hW2, ← hw1h]; simp [setBlock, Array.getElem?_setIfInBounds, hrb]
      have h2r : W2.heap[W.heap.size]? = some (.mapIter (some b) clock (seen.push e.born) clock) := by rw [← hW2]; simp [setBlock, Array.getElem?_setIfInBounds, hw1h, hrl]
      have hg2 : wr.grownBy W2 (some W.heap.size) := by
        rw [← hW2]
        refine ⟨?_, ?_, ?_, ?_, fun k hk1 hk2 => ?_⟩
        · rcases hw1 with rfl | rfl <;> rfl
        · rcases hw1 with rfl | rfl <;> rfl
        · rcases hw1 with rfl | rfl <;> rfl
        · simp [setBlock, hw1h]
        · have : W.heap.size ≠ k := fun e => hk2 (by rw [e])
          simp [setBlock, Array.getElem?_setIfInBounds, hw1h, this]
      have hJ2 : J ss W2 := hJ ss wr W2 (some W.heap.size) hJs hg2 (fun r e => by cases e; exact ⟨Nat.le_refl _, _, hr.it, rfl⟩)
      have hr2 := hr.next he hk hrb h2b h2r
      have hen := run_entry_at (P := Try.prog) W2 W.heap.size b clock seen es clock e h2r (h2b.trans hr.map) hee hC.nod
      rw [hk] at hen
      have hlen := hr2.few
      simp only [List.length_append, List.length_cons, List.length_nil] at hlen
      have hJ3 : J ss (W2.alloc (.cells (lab4 x).toArray 25)) := hJ ss W2 _ none hJ2 (World.grownBy_alloc W2 _ none) (fun r e => by cases e)
      have hr3 := hr2.kept (KeepsWalks.alloc W2 (.cells (lab4 x).toArray 25))
      obtain ⟨fn, tmps, assign, body, hy, hR⟩ := hY ss x _ hJ3 (by omega)
      have hsn := hr.seenN
      clear hr he hee hC hw1 hw1h hW2 h2b h2r hg2 hJ2 hr2 hJs hv hk
      replace hy : (Instr.yield l #[.agg #[.int .i64 x.s, .int .i64 x.c, .int .i64 x.i, .int .i64 x.k]]).run Try.prog (W2.alloc (.cells #[.int .i64 x.s, .int .i64 x.c, .int .i64 x.i, .int .i64 x.k] 25)) = .ok (.round l fn tmps assign body) (W2.alloc (.cells #[.int .i64 x.s, .int .i64 x.c, .int .i64 x.i, .int .i64 x.k] 25)) := hy
      gi_wp2
      refine hR.mono ?_
      rintro e4 W4 (⟨rfl, hJ4, hk4⟩ | ⟨rfl, hJx4⟩)
      · have hr4 := hr3.kept hk4
        gi_wp2
        exact ⟨⟨_, _, _, _, hr4, hJ4⟩, by rw [hr4.seenN, hsn]; simp; omega⟩
      · gi_wp2
        refine bodyPost_ret (results_none rfl _ _ _) rfl ?_
        exact ⟨⟨_, rfl⟩, .inr ⟨_, trivial, hJx4⟩⟩
end Go.Proofs.Ytajondkpdgiolaa

/-! slices.Collect OF maps.Keys OVER A MAP KEYED BY LABELS, OR OVER NONE: a new row of its keys. For every stage from the twelfth on. -/
namespace Go.Proofs.Ytajondkpdgiolaa
open Go.RowKit Go.ChangeMaps
set_option maxRecDepth 8000
set_option linter.unusedSimpArgs false
set_option linter.unusedVariables false

section
variable {F : Fence} {n : Nat} {ops : Array Oper} {rest : List Oper} {o : Oper} {a : Act} {w : World} {Q : Exit → Act → World → Prop}
theorem wpListIn_append {t : TypeId} (hg : o.guard = none) (s x : Operand) (hop : o.op = Op.call { callee := Callee.builtin Builtin.append, args := #[s, x], argTypes := #[t, t] }) (hty : o.type = t) {u v r : Value} {w' : World} (hs : a.eval s = u) (hx : a.eval x = v)
    (hrun : (Builtin.append_ #[t, t] t #[u, v]).run Try.prog w = .ok r w') (hK : wpListIn F n Try.prog ops Q rest (a.put o.dst r) w') : wpListIn F n Try.prog ops Q (o :: rest) a w := by
  refine wpListIn_plain hg fun K' hK' => ?_
  unfold Oper.wpIn
  refine ⟨?_, ?_⟩
  · simp [Oper.about, hop, resolve, Target.leads, Sem.run_pure]
  · rw [Oper.semAt_plain F _ _ (by rw [hop]; intro c hc'; cases hc')]
    simp [execOp, hop, hty, resolve, invoke, builtin, hs, hx, hrun, Result.andThen]
    exact hK' _ _ hK
end
set_option maxRecDepth 100000 in
set_option maxHeartbeats 2000000 in
theorem labkeys_nil (n : Nat) (l Bm m : Nat) (J Jx : List Lab → World → Prop) (W : World) (hJ : AbidesFrom W.heap.size J) (hc : W.cell? ⟨Bm, 0, none⟩ = some (.map none)) (h0 : J [] W) :
    CallsIn Fence.wide n Try.prog 43 #[.func (.yield l) #[] #[], .pointer (some ⟨Bm, 0, none⟩)] W fun e W' => (∃ v, e = .returned v) ∧ ((∃ xs, SKeys (fun _ => 0) m xs ∧ J xs W') ∨ (∃ pre, True ∧ Jx pre W')) := by
  refine callsIn_of_wp Try.func43 rfl trivial ?_ rfl
  simp only [Try.ntmps43, List.size_toArray, List.length_cons, List.length_nil, Nat.reduceAdd, Nat.reduceSub, Array.replicate_succ, Array.replicate_zero, List.push_toArray, List.append_toArray, List.nil_append, List.cons_append]
  have hrg := run_range_nilMap (P := Try.prog) W 67 25 3 und_m
  have hnx : ∀ ty, (Instr.next (.pointer (some ⟨W.heap.size, 0, none⟩)) false ty).run Try.prog (W.alloc (.mapIter none 0 #[] 0)) = _ := fun ty => run_next_nilMap _ ty 0 0 #[]
  gi_wp2
  refine wpIn_loop_rounds 1 ?_
  rw [roundsIn_succ]
  gi_wp2
  go_end0
  exact ⟨⟨_, rfl⟩, .inl ⟨[], ⟨List.nodup_nil, fun x hx => (by cases hx), fun x hx => (by cases hx), Nat.zero_le _⟩, hJ [] W _ none h0 (World.grownBy_alloc W _ none) (fun r e => by cases e)⟩⟩
theorem labkeys_stops (n : Nat) (hn : 1 ≤ n) (Bm m : Nat) (mo : Option Nat) (f : Lab → Nat) (w : World) (hBm : Bm < w.heap.size) (hc : w.cell? ⟨Bm, 0, none⟩ = some (.map mo)) (hM : (mo = none ∧ f = fun _ => 0) ∨ ∃ b, mo = some b ∧ MapL w b f m) :
    SeqStopsK Fence.wide n Try.prog 43 #[.pointer (some ⟨Bm, 0, none⟩)] (fun x => #[Lab.v x]) KeepsWalks (SKeys f m) (fun _ => True) m w := fun l J Jx W hW hJ hJx hY h0 => by
  have hc' : W.cell? ⟨Bm, 0, none⟩ = some (.map mo) := (hW.cell (p := ⟨Bm, 0, none⟩) hBm).trans hc
  obtain ⟨rfl, rfl⟩ | ⟨b, rfl, hM⟩ := hM
  · exact labkeys_nil n l Bm m J Jx W hJ hc' h0
  · exact labkeys_in n hn l Bm b m f J Jx hY W hJ hc' (hM.same (hW.block _ hM.lt)) h0
set_option maxRecDepth 100000 in
set_option maxHeartbeats 4000000 in
theorem appseq_any (gf : Nat) (lb : Array Value) (eg : ∀ args w, (callFunc gf args).run Try.prog w = .ok (.enter gf args) w) (S : List Lab → Prop) (N : Nat) (hN : N ≤ 1000) (w : World)
    (hseq : SeqStopsK Fence.wide 5 Try.prog gf lb (fun x => #[Lab.v x]) KeepsWalks S (fun _ => True) N w) :
    CallsIn Fence.wide 6 Try.prog 42 #[.slice none 0 0, .func (.func gf) #[] lb] w fun e w' => ∃ v xs, e = .returned v ∧ S xs ∧ OwnR 25 4 lrow w' w.heap.size v xs ∧ Below w.heap.size w w' := by
  refine callsIn_of_wp_marks Try.func42 rfl trivial ?_ rfl
  simp only [Try.ntmps42, List.size_toArray, List.length_cons, List.length_nil, Nat.reduceAdd, Nat.reduceSub, Array.replicate_succ, Array.replicate_zero, List.push_toArray, List.append_toArray, List.nil_append, List.cons_append]
  have hB0 := alloc_below w (.cells #[.slice none 0 0] 22)
  have hbx0 := Go.Boxed.new w 22 (.slice none 0 0)
  gi_wp2
  refine wpIn_rangeFunc_ownH (F := Fence.wide) (n := 6) rfl (by decide) (gf := gf) (lb := lb) rfl trivial eg hseq walksK_t walksK_b hB0 (fun _ => rfl)
    (fun pre W => (∃ v, Go.Boxed W w.heap.size 22 v ∧ W.ownsRow w.heap.size 25 4 v pre.length (pre.flatMap lrow) ∧ True) ∧ Below w.heap.size w W)
    (fun _ _ _ => False)
    (OwnFrom.and (Own.from (holdsRow_own w.heap.size w.heap.size 22 25 4 (fun pre : List Lab => pre.length) (fun pre : List Lab => pre.flatMap lrow) (fun _ _ => True)) _) (ownFrom_below (Nat.le_refl _) (by simp)))
    (fun _ _ _ _ _ hs _ _ => hs)
    ⟨⟨_, hbx0, World.ownsRow_nil _ _ _ _, trivial⟩, hB0⟩
    (fun x a' W => ∃ Bx, w.heap.size < Bx ∧ BlkL Bx (lab4 x) W ∧ a' = { tmps := #[.slice none 0 0, .func (.func gf) #[] lb, .pointer (some ⟨w.heap.size, 0, none⟩), undef, .slice none 0 0, .pointer (some ⟨Bx, 0, none⟩), .func (.func gf) #[] lb, x.v, undef, undef, undef, undef, undef], defers := [] }) ?hAx ?assign ?body ?done ?stop
  case hAx =>
    rintro x a' _ W W' row ⟨Bx, h1, h2, h3⟩ hg hr
    have hsame : W'.heap[Bx]? = W.heap[Bx]? := ?_
    · exact ⟨Bx, h1, ⟨h2.1.same hsame, Nat.lt_of_lt_of_le h2.2 hg.size⟩, h3⟩
    refine hg.block Bx h2.2 fun e => ?_
    obtain ⟨-, o, ho, hc⟩ := hr Bx e.symm
    have := (h2.1 0 _ rfl).1
    simp [World.cell?, ho] at this
    cases o <;> simp_all [Obj.isCells]
  case assign =>
    rintro l pre x W K ⟨⟨v, hv, hrow, -⟩, hB⟩ hK
    have hsem := @Oper.semAt_some
    gi_wp2
    exact hK _ _ ((KeepsOthers.alloc _ _).from _) (KeepsWalks.alloc _ _) ⟨⟨v, Go.Boxed.alloc hv _, hrow.alloc _, trivial⟩, Below.then hB (alloc_below W _)⟩ ⟨W.heap.size, hv.lt, blkl_alloc W _ _, rfl⟩
  case body =>
    rintro l pre x a' W hl ⟨r, hr⟩ ⟨⟨v, hv, hrow, -⟩, hB⟩ ⟨Bx, hBx, hbX, rfl⟩ hlt
    have hcb := Go.Boxed.cell hv
    have hx0 := (hbX.1 0 _ rfl).1
    have hx1 := (hbX.1 1 _ rfl).1
    have hx2 := (hbX.1 2 _ rfl).1
    have hx3 := (hbX.1 3 _ rfl).1
    have hro : OwnR 25 4 lrow W w.heap.size v pre := hrow
    obtain ⟨v2, W2, hap, ho2, hg2⟩ := OwnR.push lab_ok hro hB.size x (lab4 x).toArray rfl 25 (by omega)
    replace hap : (Builtin.append_ #[22, 22] 22 #[v, .slice (some ⟨W.heap.size, 0, none⟩) 1 1]).run Try.prog (W.alloc (.cells #[.int .i64 x.s, .int .i64 x.c, .int .i64 x.i, .int .i64 x.k] 25)) = .ok v2 W2 := hap
    have hne : some w.heap.size ≠ v.ownBlock := Go.Boxed.not_row hv (by decide) hrow
    have hv2 := Go.Boxed.kept hv hg2.by_ hne
    have hne2 : some w.heap.size ≠ v2.ownBlock := Go.Boxed.not_row hv2 (by decide) ho2
    have hcells : ∀ (j : Nat) (o : Obj), v.ownBlock = some j → W.heap[j]? = some o → o.isCells = true ∧ o.isWalk = false := fun j o hj ho => by
      rcases hro.2 with ⟨rfl, -⟩ | ⟨g, cap, cur, rfl, -, hh, -⟩
      · cases hj
      · obtain rfl : g = j := by simpa [Value.ownBlock] using hj
        rw [hh] at ho
        cases ho
        exact ⟨rfl, rfl⟩
    have hB2 : Below w.heap.size w W2 := hB.trans (hro.grew_below hB.size hg2)
    have ho3 : OwnR 25 4 lrow (W2.setCell ⟨w.heap.size, 0, none⟩ v2) w.heap.size v2 (pre ++ [x]) := ho2.keep fun k hk => heap_setCell_other W2 ⟨w.heap.size, 0, none⟩ k v2 fun e => hne2 (by rw [hk, e])
    have hv3 := Go.Boxed.set v2 hv2
    have hkw : KeepsWalks W (W2.setCell ⟨w.heap.size, 0, none⟩ v2) := (KeepsWalks.of_grownBy hg2.by_ fun j o hj ho => (hcells j o hj ho).2).trans (KeepsWalks.setCell _ _ _)
    have hko : KeepsOthers W (W2.setCell ⟨w.heap.size, 0, none⟩ v2) := (KeepsOthers.of_grownBy hg2.by_ fun j o hj ho => (hcells j o hj ho).1).trans (KeepsOthers.setCell _ _ _)
    have hB3 : Below w.heap.size w (W2.setCell ⟨w.heap.size, 0, none⟩ v2) := hB2.setCell (p := ⟨w.heap.size, 0, none⟩) (Nat.le_refl _) _
    have hc2 := Go.Boxed.cell hv2
    have hf2 := Go.Boxed.frozen hv2
    obtain ⟨a2, c2, hvs, -, -, -⟩ := OwnR.slice lab_ok.len ho2
    obtain ⟨n2, hn2⟩ : ∃ n2, (pre ++ [x]).length = n2 := ⟨_, rfl⟩
    rw [hn2] at hvs
    subst hvs
    replace ho3 : Aside _ := ho3
    clear hn2 ho2 hg2 hro hrow hne hne2 hcells hv2 hB2
    have hsem := @Oper.semAt_some
    gi_wp2_with (first | (refine wpListIn_append rfl _ _ rfl rfl rfl rfl hap ?_) | gi_in)
    exact ⟨hko.from _, hkw, ⟨_, hv3, ho3.out, trivial⟩, hB3⟩
  case done =>
    rintro D ys W hD hS ⟨⟨v, hv, hrow, -⟩, hB⟩ hK
    have hcb := Go.Boxed.cell hv
    have hD' : w.heap.size ≤ D := by
      have : w.heap.size + 1 ≤ D := by simpa using hD
      omega
    gi_wp2
    refine ⟨by simp, .inl ⟨_, _, rfl, run_takeDeferred hK, ?_⟩⟩
    exact ⟨_, results_tmp rfl _ _ _, v, ys, rfl, hS, ownsRow_putObj hrow _ hK rfl, hB.trans (belowK_b (w := w) (Nat.le_refl _) W D _ _ hD' hK rfl rfl)⟩
  case stop =>
    rintro D c pre W _ _ h _
    exact h.elim
theorem collect_any (gf : Nat) (lb : Array Value) (eg : ∀ args w, (callFunc gf args).run Try.prog w = .ok (.enter gf args) w) (S : List Lab → Prop) (N : Nat) (hN : N ≤ 1000) (w : World)
    (hseq : SeqStopsK Fence.wide 5 Try.prog gf lb (fun x => #[Lab.v x]) KeepsWalks S (fun _ => True) N w) :
    Calls Try.prog 31 #[.func (.func gf) #[] lb] w fun e w' => ∃ v xs, e = .returned v ∧ S xs ∧ OwnR 25 4 lrow w' w.heap.size v xs ∧ Below w.heap.size w w' := by
  have ka := (callsIn_wide (n := 6)).1 (appseq_any gf lb eg S N hN w hseq)
  go_enter Try.func31, Try.ntmps31
  go_wp2_with fail
  refine ka.mono ?_
  rintro e W1 ⟨v, xs, rfl, hS, ho, hB⟩
  go_wp2_with fail
  go_ret
  exact ⟨v, xs, rfl, hS, ho, hB⟩
theorem keys_any (mo : Option Nat) (w : World) : Calls Try.prog 32 #[.map mo] w fun e w' => e = .returned (.func (.func 43) #[] #[.pointer (some ⟨w.heap.size, 0, none⟩)]) ∧ w' = w.alloc (.cells #[.map mo] 67) := by
  go_enter Try.func32, Try.ntmps32
  go_wp2_with fail
  go_ret
  exact ⟨rfl, rfl⟩
end Go.Proofs.Ytajondkpdgiolaa

/-! PACKAGE quota AS IT LANDED: All. -/
namespace Go.Proofs.Ytajondkpdgiolaa
open Go.RowKit
set_option maxRecDepth 8000
set_option linter.unusedSimpArgs false
set_option linter.unusedVariables false

/-- Each label as often as its count is. -/
def outL (f : Lab → Nat) (ys : List Lab) : List Lab := ys.flatMap fun x => List.replicate (f x) x
section
variable {f : Lab → Nat}
theorem out_snoc (ys : List Lab) (x : Lab) : outL f (ys ++ [x]) = outL f ys ++ List.replicate (f x) x := by simp [outL]
theorem out_len (h : ∀ x, f x ≤ 900) : ∀ ys : List Lab, (outL f ys).length ≤ ys.length * 900
  | [] => by simp [outL]
  | y :: r => by
    have := out_len h r
    have := h y
    have e : (outL f (y :: r)).length = f y + (outL f r).length := by simp [outL]
    rw [e, List.length_cons]
    omega
theorem out_mem {ys : List Lab} {x : Lab} (h : x ∈ outL f ys) : x ∈ ys := by
  obtain ⟨y, hy, hx⟩ := List.mem_flatMap.1 h
  rw [(List.mem_replicate.1 hx).2]
  exact hy
theorem out_sorted : ∀ {ys : List Lab}, SortL ys → SortL (outL f ys)
  | [], _ => List.Pairwise.nil
  | y :: r, h => by
    obtain ⟨h1, h2⟩ := List.pairwise_cons.1 h
    show List.Pairwise _ (List.replicate (f y) y ++ outL f r)
    refine List.pairwise_append.2 ⟨List.pairwise_replicate.2 (.inr (less_irr y)), out_sorted h2, fun a ha c hc => ?_⟩
    rw [(List.mem_replicate.1 ha).2]
    exact h1 c (out_mem hc)
theorem cnt_rep_self (n : Nat) (x : Lab) : cntL (List.replicate n x) x = n := by
  unfold cntL
  rw [List.countP_replicate, if_pos (labEq_self x)]
theorem cnt_rep_ne (n : Nat) {x y : Lab} (h : x ≠ y) : cntL (List.replicate n x) y = 0 := by
  unfold cntL
  rw [List.countP_replicate, if_neg (by rw [labEq_ne h]; decide)]
theorem cnt_app (l r : List Lab) (x : Lab) : cntL (l ++ r) x = cntL l x + cntL r x := List.countP_append
theorem out_none : ∀ {ys : List Lab} {x : Lab}, x ∉ ys → cntL (outL f ys) x = 0
  | [], _, _ => rfl
  | y :: r, x, h => by
    show cntL (List.replicate (f y) y ++ outL f r) x = _
    rw [cnt_app, cnt_rep_ne _ (fun e => h (by rw [e]; exact List.mem_cons_self)), out_none fun q => h (List.mem_cons_of_mem _ q)]
theorem out_cnt : ∀ {ys : List Lab}, ys.Nodup → ∀ {x : Lab}, x ∈ ys → cntL (outL f ys) x = f x
  | [], _, x, h => by cases h
  | y :: r, hn, x, h => by
    obtain ⟨h1, h2⟩ := List.nodup_cons.1 hn
    show cntL (List.replicate (f y) y ++ outL f r) x = _
    rw [cnt_app]
    rcases List.mem_cons.1 h with q | q
    · subst q
      rw [cnt_rep_self, out_none h1]
      rfl
    · rw [cnt_rep_ne _ (fun e => h1 (by rw [e]; exact q)), Nat.zero_add]
      exact out_cnt h2 q
end
set_option maxRecDepth 8000 in
set_option maxHeartbeats 8000000 in
theorem call_any {S : List Nat} {p : Addr} {ls : List Lab} (w : World) (h : CntQ w S p ls) (hl : ls.length ≤ 900) : Calls Try.prog 19 #[.pointer (some p)] w fun e w' => ∃ v r, e = .returned v ∧ OwnR 25 4 lrow w' w.heap.size v r ∧ SortL r ∧ (∀ x, cntL r x = cntL ls x) ∧ Below w.heap.size w w' := by
  have hundL := Try.underlying25
  have hsl : (Try.prog.info? 25).map (·.size) = some 4 := by kernel_rfl
  obtain ⟨g, m, rfl, hg, hm⟩ := h.get
  have hf9 : ∀ x, cntL ls x ≤ 900 := fun x => Nat.le_trans List.countP_le_length hl
  have hB1 := alloc_below w (.cells #[.map m] 67)
  have hc1 := (blkl_alloc w #[.map m] 67)
  have hseq := labkeys_stops 5 (by decide) w.heap.size ls.length m (cntL ls) (w.alloc (.cells #[.map m] 67)) hc1.2 (hc1.1 0 _ rfl).1 (hm.below hB1)
  have kc := collect_any _ _ (enters_of Try.func43 (by kernel_rfl) rfl) _ _ (by omega) _ hseq
  have kk := keys_any m w
  have c0 := (hg.1 0 _ rfl).1
  clear hseq hc1
  go_enter Try.func19, Try.ntmps19
  go_wp2_with fail
  refine kk.mono ?_
  rintro e w' ⟨rfl, hw'⟩
  rw [hw']
  clear hw' w' kk
  go_wp2_with fail
  refine kc.mono ?_
  rintro e W2 ⟨v, xs, rfl, hK, ho, hB2⟩
  have hB02 := Below.then hB1 hB2
  have hxl : xs.length ≤ 900 := Nat.le_trans hK.len hl
  obtain ⟨a, c, hv, hcap, hno, hrow⟩ := OwnR.slice lab_ok.len ho
  have hbw : w.heap.size ≤ (w.alloc (.cells #[.map m] 67)).heap.size := by simp
  have hov : ∀ k, v.ownBlock = some k → w.heap.size ≤ k ∧ k < W2.heap.size := fun k hk => ⟨Nat.le_trans hbw (ho.lt hk).1, (ho.lt hk).2⟩
  have hB3 := alloc_below W2 (.cells #[v] 22)
  have hb3 := blkl_alloc W2 #[v] 22
  have hbs : some W2.heap.size ≠ v.ownBlock := fun e => by have := (hov _ e.symm).2; omega
  have ks := lsort_any v xs W2.heap.size _ _ (ho.below hB3) hb3 hbs (by omega)
  have hB03 := Below.then hB02 hB3
  obtain ⟨n, hn⟩ : ∃ n, xs.length = n := ⟨_, rfl⟩
  rw [hn] at hv hxl
  replace hn : Aside _ := hn
  subst hv
  clear kc hB1 hB2 hrow ho hcap hno hbw hB02 hB3
  go_wp2_with fail
  refine ks.mono ?_
  rintro e W5 ⟨rfl, ys, a', c', hperm, hsort, hv', hrow5, hT5⟩
  obtain ⟨rfl, hny, rfl⟩ : a = a' ∧ n = ys.length ∧ c = c' := by
    injection hv' with q1 q2 q3
    exact ⟨q1, q2, q3⟩
  have hB05 : Below w.heap.size w W5 := hB03.trans (hT5.below (fun k hk => (hov k (by simpa using hk)).1) hB03.size)
  have hb5 := hT5.blk hb3 (fun q => hbs (Option.mem_toList.1 q).symm)
  have hg5 := stab_blk _ _ _ _ hg hB05
  have hm5 := hm.below hB05
  have hgl := hg.2
  have cb5 := (hb5.1 0 _ rfl).1
  have hlw : w.heap.size ≤ W5.heap.size := hB05.size
  replace hny : Aside (ys.length = n) := hny.symm
  replace hsort : Aside _ := hsort
  clear ks hv' hov hb3 hbs hB03 hT5 hg hm c0 hb5 hn
  generalize W2.heap.size = bs at *
  go_wp2_with fail
  go_loopw [4, 19] (fun t4 t19 wr => ∃ (i : Nat) (vo : Value), i ≤ n ∧ t19 = .int .i64 (i : Int) ∧ vo = t4 ∧ OwnR 25 4 lrow wr W5.heap.size vo (outL (cntL ls) (ys.take i)) ∧ Below W5.heap.size W5 wr) (fun _ t19 _ => n - (Go.RowKit.intOf t19).toNat)
  case atStart => exact ⟨0, _, by omega, rfl, rfl, OwnR.nil _ _ _ _ _, Below.refl _ _⟩
  case round =>
    obtain ⟨i, vo, hi, rfl, rfl, ho, hB⟩ := hrel
    by_cases hlt : i < n
    · obtain ⟨x, hx⟩ : ∃ x, ys[i]? = some x := ⟨_, List.getElem?_eq_getElem (by rw [hny.out]; exact hlt)⟩
      obtain ⟨y, rfl, -⟩ := hrow5 i x hx
      have hcx : CellsAt wr (y.add (i * 4)) (lab4 x) := (hrow5.below lab_ok.len hB).at lab_ok.len hx
      have hGx : GL x := hK.good x (hperm.subset (List.mem_of_getElem? hx))
      have i1 : (i : Int) < (n : Int) := by omega
      obtain ⟨W6, hW6, hth6, hbx, hB6⟩ := put_new wr #[.int .i64 0, .int .i64 0, .int .i64 0, .int .i64 0] 25 (lab4 x) rfl (by simp)
      have hB06 := Below.then hB hB6
      have ho6 := ho.below hB6
      have htk : Aside (outL (cntL ls) (ys.take (i + 1)) = outL (cntL ls) (ys.take i) ++ List.replicate (cntL ls x) x) := by
        show _ = _
        rw [List.take_add_one, hx]
        exact out_snoc _ _
      have hlen : (outL (cntL ls) (ys.take i)).length ≤ 809100 := by
        have h1 := out_len hf9 (ys.take i)
        have h2 : (ys.take i).length ≤ 899 := by rw [List.length_take]; omega
        omega
      have hlk := fun W (q : MapV W m (cntL ls) ls.length) => lookV_run q hGx
      have hc9 := hf9 x
      obtain ⟨N, hN⟩ : ∃ N, cntL ls x = N := ⟨_, rfl⟩
      rw [hN] at hlk htk hc9
      generalize outL (cntL ls) (ys.take i) = OL at *
      have hBd : Below W6.heap.size W6 W6.drew := (Below.refl _ _).drew
      have hBw6 := Below.then hB06 hBd
      have hS : (fun W => BlkL g [.map m] W ∧ BlkL wr.heap.size (lab4 x) W ∧ MapV W m (cntL ls) ls.length) W6.drew := ⟨stab_blk _ _ _ _ hg5 hBw6, stab_blk _ _ _ _ hbx hBd, hm5.below hBw6⟩
      have hod := ho6.below hBd
      have hapart : some wr.heap.size ≠ vo.ownBlock := fun e => by have := (ho.lt e.symm).2; omega
      clear hN hx ho hB hB06 ho6 hBd hbx hB6
      go_upto_region 7 with (first | (refine wpList_load_at rfl _ rfl (y.add (i * 4)) rfl (lab4 x) hcx hundL rfl hsl ?_) | (refine wpList_store_row rfl _ _ rfl wr.heap.size rfl (lab4 x) rfl hth6 hsl (lab4_one x) hW6 ?_) | fail)
      refine wp_region_held_drew (S := (fun W => BlkL g [.map m] W ∧ BlkL wr.heap.size (lab4 x) W ∧ MapV W m (cntL ls) ls.length)) (by kernel_rfl) (by exact hS) ?_
      intro hHeld
      (first | (refine wpAnyH_take (i := 0) (v := ?_) (by simp only [gA, gB, gC]; rfl) (by kernel_rfl) (by kernel_rfl) (by kernel_rfl) (by exact fun _ _ _ h => h) (Or.inl ⟨by rfl, ?_⟩) (by assumption) ?_; rotate_left; (focus (intro w hSw; (try dsimp only at hSw); go_simp; try with_reducible rfl))) | (refine wpAnyH_take (i := 0) (v := undef) (by simp only [gA, gB, gC]; rfl) (by kernel_rfl) (by kernel_rfl) (by kernel_rfl) (by exact fun _ _ _ h => h) (Or.inr ⟨by rfl, rfl⟩) (by assumption) ?_) | fail); simp only [Act.put, sA, sB, sC]
      (first | (refine wpAnyH_take (i := 1) (v := ?_) (by simp only [gA, gB, gC]; rfl) (by kernel_rfl) (by kernel_rfl) (by kernel_rfl) (by exact fun _ _ _ h => h) (Or.inl ⟨by rfl, ?_⟩) (by assumption) ?_; rotate_left; (focus (intro w hSw; (try dsimp only at hSw); go_simp; try with_reducible rfl))) | (refine wpAnyH_take (i := 1) (v := undef) (by simp only [gA, gB, gC]; rfl) (by kernel_rfl) (by kernel_rfl) (by kernel_rfl) (by exact fun _ _ _ h => h) (Or.inr ⟨by rfl, rfl⟩) (by assumption) ?_) | fail); simp only [Act.put, sA, sB, sC]
      (first | (refine wpAnyH_take (i := 2) (v := ?_) (by simp only [gA, gB, gC]; rfl) (by kernel_rfl) (by kernel_rfl) (by kernel_rfl) (by exact fun _ _ _ h => h) (Or.inl ⟨by rfl, ?_⟩) (by assumption) ?_; rotate_left; (focus (intro w hSw; (try dsimp only at hSw); go_simp; try with_reducible rfl))) | (refine wpAnyH_take (i := 2) (v := undef) (by simp only [gA, gB, gC]; rfl) (by kernel_rfl) (by kernel_rfl) (by kernel_rfl) (by exact fun _ _ _ h => h) (Or.inr ⟨by rfl, rfl⟩) (by assumption) ?_) | fail); simp only [Act.put, sA, sB, sC]
      (first | (refine wpAnyH_take (i := 3) (v := _) (by simp only [gA, gB, gC]; rfl) (by kernel_rfl) (by kernel_rfl) (by kernel_rfl) (by exact fun _ _ _ h => h) (yields_one (by rfl) _ rfl ⟨g, 0, none⟩ rfl (.map m) (fun _ q => (q.1.1 0 _ rfl).1) map_load) (by assumption) ?_) | (refine wpAnyH_take (i := 3) (v := undef) (by simp only [gA, gB, gC]; rfl) (by kernel_rfl) (by kernel_rfl) (by kernel_rfl) (by exact fun _ _ _ h => h) (Or.inr ⟨by rfl, rfl⟩) (by assumption) ?_) | fail); simp only [Act.put, sA, sB, sC]
      (first | (refine wpAnyH_take (i := 4) (v := _) (by simp only [gA, gB, gC]; rfl) (by kernel_rfl) (by kernel_rfl) (by kernel_rfl) (by exact fun _ _ _ h => h) (yields_row (by rfl) _ rfl wr.heap.size rfl (lab4 x) (fun _ q => q.2.1.range) hundL rfl hsl) (by assumption) ?_) | (refine wpAnyH_take (i := 4) (v := undef) (by simp only [gA, gB, gC]; rfl) (by kernel_rfl) (by kernel_rfl) (by kernel_rfl) (by exact fun _ _ _ h => h) (Or.inr ⟨by rfl, rfl⟩) (by assumption) ?_) | fail); simp only [Act.put, sA, sB, sC]
      (first | (refine wpAnyH_take (i := 5) (v := _) (by simp only [gA, gB, gC]; rfl) (by kernel_rfl) (by kernel_rfl) (by kernel_rfl) (by exact fun _ _ _ h => h) (yields_look (u := .map m) (v := x.v) (by rfl) _ _ rfl rfl rfl (fun W q => hlk W q.2.2)) (by assumption) ?_) | (refine wpAnyH_take (i := 5) (v := undef) (by simp only [gA, gB, gC]; rfl) (by kernel_rfl) (by kernel_rfl) (by kernel_rfl) (by exact fun _ _ _ h => h) (Or.inr ⟨by rfl, rfl⟩) (by assumption) ?_) | fail); simp only [Act.put, sA, sB, sC]
      (first | (refine wpAnyH_take (i := 6) (v := ?_) (by simp only [gA, gB, gC]; rfl) (by kernel_rfl) (by kernel_rfl) (by kernel_rfl) (by exact fun _ _ _ h => h) (Or.inl ⟨by rfl, ?_⟩) (by assumption) ?_; rotate_left; (focus (intro w hSw; (try dsimp only at hSw); go_simp; try with_reducible rfl))) | (refine wpAnyH_take (i := 6) (v := undef) (by simp only [gA, gB, gC]; rfl) (by kernel_rfl) (by kernel_rfl) (by kernel_rfl) (by exact fun _ _ _ h => h) (Or.inr ⟨by rfl, rfl⟩) (by assumption) ?_) | fail); simp only [Act.put, sA, sB, sC]
      refine wpAnyH_done (by kernel_rfl) ?_ _
      have hbx := hS.2.1
      clear hS hlk hW6 hth6
      go_wp2_with fail
      generalize W6.drew = W7 at *
      generalize wr.heap.size = bx at *
      go_loopw [4, 29] (fun t4 t29 wq => ∃ (k : Nat) (vo : Value), k ≤ N ∧ t29 = .int .i64 (k : Int) ∧ vo = t4 ∧ OwnR 25 4 lrow wq W5.heap.size vo (OL ++ List.replicate k x) ∧ some bx ≠ vo.ownBlock ∧ BlkL bx (lab4 x) wq ∧ Below W5.heap.size W5 wq) (fun _ t29 _ => N - (Go.RowKit.intOf t29).toNat)
      case atStart => exact ⟨0, vo, by omega, rfl, rfl, by simpa using hod, hapart, hbx, hBw6⟩
      case round =>
        clear hod hapart hbx hBw6
        obtain ⟨k, vo, hk, rfl, rfl, ho, hap, hbx, hB⟩ := hrel
        by_cases hkn : k < N
        · have i2 : (k : Int) < (N : Int) := by omega
          obtain ⟨v2, W8, hrun, ho2, hg2⟩ := OwnR.push lab_ok ho hB.size x (lab4 x).toArray rfl 25 (by simp; omega)
          replace hrun : (Builtin.append_ #[22, 22] 22 #[vo, .slice (some ⟨wr.heap.size, 0, none⟩) 1 1]).run Try.prog (wr.alloc (.cells (lab4 x).toArray 25)) = .ok v2 W8 := hrun
          rw [List.append_assoc, ← List.replicate_succ'] at ho2
          have hB8 := hB.trans (ho.grew_below hB.size hg2)
          have hap2 := hg2.apart hbx.2 hap
          have hbx2 : BlkL bx (lab4 x) W8 := ⟨hbx.1.same (hg2.by_.block bx hbx.2 hap), Nat.lt_of_lt_of_le hbx.2 hg2.by_.size⟩
          have hrb := hbx.range
          clear ho hg2 hbx hB hap
          go_wp2_with (first | (refine wpList_load_row rfl _ rfl bx rfl (lab4 x) hrb hundL rfl hsl ?_) | (refine wpList_build1 lab_ok (by decide) rfl _ rfl (lab4 x) rfl rfl ?_) | (refine wpList_append rfl _ _ rfl rfl rfl rfl hrun ?_) | fail)
          exact ⟨⟨k + 1, v2, by omega, by simp, rfl, ho2, hap2, hbx2, hB8⟩, by simp [Go.RowKit.intOf]; omega⟩
        · obtain rfl : k = N := by omega
          have i2 : ¬ (k : Int) < (k : Int) := by omega
          go_wp2_with fail
          exact ⟨⟨i + 1, vo, by omega, by simp, rfl, by rw [htk.out]; exact ho, hB⟩, by simp [Go.RowKit.intOf]; omega⟩
    · obtain rfl : i = n := by omega
      have i1 : ¬ (i : Int) < (i : Int) := by omega
      rw [List.take_of_length_le (by rw [hny.out]; exact Nat.le_refl _)] at ho
      have hnd : ys.Nodup := hperm.nodup_iff.2 hK.nod
      have hfin : ∀ x, cntL (outL (cntL ls) ys) x = cntL ls x := fun x => by
        by_cases q : 0 < cntL ls x
        · exact out_cnt hnd (hperm.mem_iff.2 (hK.has x q))
        · by_cases q2 : x ∈ ys
          · exact out_cnt hnd q2
          · rw [out_none q2]
            omega
      have hso := out_sorted (f := cntL ls) hsort.out
      have hof := ho.lower hlw
      have hBf := hB05.trans (hB.mono hlw)
      clear ho hB hperm hK
      go_wp2_with fail
      go_ret
      exact ⟨vo, rfl, outL (cntL ls) ys, hof, hso, hfin, hBf⟩
theorem cnts_q : Cnts CntQ := ⟨cnts3, fun w h hl => call_any w h hl⟩
end Go.Proofs.Ytajondkpdgiolaa

/-! NODES AND BRACKETS THAT CAME IN (door seats). Written by mk_ndoor.py. -/
namespace Go.Proofs.Ytajondkpdgiolaa
open Go.ChangeShapes Go.WideShapes Go.ChangeAt Go.RowKit
set_option maxRecDepth 8000
set_option linter.unusedVariables false
set_option linter.unusedSimpArgs false

def gcells (g : Gr) : List Value := [.string g.u, .int .i64 g.m]
def wcell (x : Int) : List Value := [.int .i64 x]
theorem RowAt.grs {W : World} {a : Option Addr} {l : List Gr} (h : RowAt 2 gcells W a l) : GrsAt W a l := fun j q hq => by
  obtain ⟨y, hy, hc⟩ := h j q hq
  refine ⟨y, hy, hc 0 (by omega), ?_⟩
  have := hc 1 (by omega)
  rw [add_off _ _ _ (by omega)] at this
  exact this
theorem RowAt.wrds {W : World} {a : Option Addr} {l : List Int} (h : RowAt 1 wcell W a l) : WrdsAt W a l := fun j q hq => by
  obtain ⟨y, hy, hc⟩ := h j q hq
  have := hc 0 (by omega)
  rw [Nat.mul_one, Nat.add_zero] at this
  exact ⟨y, hy, this⟩
theorem undGr : Try.prog.underlying 77 = some (.struct (Try.prog.fieldsOf 77)) := by kernel_rfl
theorem undRi : Try.prog.underlying 33 = some (.struct (Try.prog.fieldsOf 33)) := by kernel_rfl
theorem undNd : Try.prog.underlying 36 = some (.struct (Try.prog.fieldsOf 36)) := by kernel_rfl
theorem cGr : Try.prog.cellsOf 77 = 2 := by kernel_rfl
theorem cRi : Try.prog.cellsOf 33 = 4 := by kernel_rfl
theorem cNd : Try.prog.cellsOf 36 = 16 := by kernel_rfl
theorem cI64 : Try.prog.cellsOf 2 = 1 := by kernel_rfl
theorem cGrs : Try.prog.cellsOf 31 = 1 := by kernel_rfl
theorem cWds : Try.prog.cellsOf 34 = 1 := by kernel_rfl
/-- What a node that came in keeps to. -/
structure Nod.Fits (n : Nod) : Prop where
  p : n.path.size ≤ 9223372036854775807
  g : ∀ g ∈ n.acl, g.u.size ≤ 9223372036854775807
  w : ∀ x ∈ n.words, -9223372036854775808 ≤ x ∧ x ≤ 9223372036854775807
section
variable {H : Type} {enc : TypeId × Value → H} {W : World}
theorem reads_gr {base : Nat} {sp : Nat → Bool} {held : Bool} : Reads enc W base sp held 77 fun cs => ∃ g, cs = gcells g ∧ g.u.size ≤ 9223372036854775807 := fun n cs x h => by
  have hl := struct_len undGr cGr h
  obtain ⟨u, e0, w0⟩ := read_field (i := 0) (ty := 9) (off := 0) undGr (by kernel_rfl) cStr (reads_string Try.underlying9) h
  obtain ⟨m, e1, w1⟩ := read_field (i := 1) (ty := 3) (off := 1) undGr (by kernel_rfl) cInt (reads_int Try.underlying3) h
  match cs, hl with
  | [v0, v1], _ =>
    simp at e0 e1
    subst e0 e1
    exact ⟨⟨u, m⟩, rfl, w0⟩
theorem reads_ri {base : Nat} {sp : Nat → Bool} {held : Bool} : Reads enc W base sp held 33 fun cs => ∃ a b c d : Int, cs = [.int .i64 a, .int .i64 b, .int .i64 c, .int .i64 d] := fun n cs x h => by
  have hl := struct_len undRi cRi h
  obtain ⟨s, e0, w0⟩ := read_field (i := 0) (ty := 3) (off := 0) undRi (by kernel_rfl) cInt (reads_int Try.underlying3) h
  obtain ⟨c, e1, w1⟩ := read_field (i := 1) (ty := 3) (off := 1) undRi (by kernel_rfl) cInt (reads_int Try.underlying3) h
  obtain ⟨i, e2, w2⟩ := read_field (i := 2) (ty := 3) (off := 2) undRi (by kernel_rfl) cInt (reads_int Try.underlying3) h
  obtain ⟨k, e3, w3⟩ := read_field (i := 3) (ty := 3) (off := 3) undRi (by kernel_rfl) cInt (reads_int Try.underlying3) h
  match cs, hl with
  | [v0, v1, v2, v3], _ =>
    simp at e0 e1 e2 e3
    subst e0 e1 e2 e3
    exact ⟨s, c, i, k, rfl⟩
theorem reads_wd {base : Nat} {sp : Nat → Bool} {held : Bool} : Reads enc W base sp held 2 fun cs => ∃ x : Int, cs = wcell x ∧ (-9223372036854775808 ≤ x ∧ x ≤ 9223372036854775807) := fun n cs x h => by
  obtain ⟨m, e, hw⟩ := reads_int Try.underlying2 n cs x h
  exact ⟨m, e, int_fits hw⟩
theorem reads_nd : Reads enc W 0 (fun _ => true) true 36 fun cs => ∃ (n : Nod) (aa : Option Addr) (ca : Nat) (wa : Option Addr) (cw : Nat), .agg cs.toArray = n.v aa ca wa cw ∧ n.Fits ∧ GrsAt W aa n.acl ∧ WrdsAt W wa n.words ∧ (wa = none → cw = 0) ∧ n.words.length ≤ cw := fun fu cs x h => by
  have hl := struct_len undNd cNd h
  obtain ⟨pa, e0, w0⟩ := read_field (i := 0) (ty := 9) (off := 0) undNd (by kernel_rfl) cStr (reads_string Try.underlying9) h
  obtain ⟨di, e1⟩ := read_field (i := 1) (ty := 4) (off := 1) undNd (by kernel_rfl) cBool (reads_bool Try.underlying4) h
  obtain ⟨la, e2, _⟩ := read_field (i := 2) (ty := 25) (off := 2) undNd (by kernel_rfl) cLab reads_lab h
  obtain ⟨gs, aa, ca, e3, hg, hgq, _, _⟩ := read_field (i := 3) (ty := 31) (off := 6) undNd (by kernel_rfl) cGrs (reads_rows (f := gcells) Try.underlying31 cGr reads_gr cGrs) h
  obtain ⟨r1, r2, r3, r4, e4⟩ := read_field (i := 4) (ty := 33) (off := 7) undNd (by kernel_rfl) cRi reads_ri h
  obtain ⟨ws, wa, cw, e5, hv, hvq, hno, hle⟩ := read_field (i := 5) (ty := 34) (off := 11) undNd (by kernel_rfl) cWds (reads_rows (f := wcell) Try.underlying34 cI64 reads_wd cWds) h
  obtain ⟨lb, e6, _⟩ := read_field (i := 6) (ty := 25) (off := 12) undNd (by kernel_rfl) cLab reads_lab h
  match cs, hl with
  | [v0, v1, v2, v3, v4, v5, v6, v7, v8, v9, v10, v11, v12, v13, v14, v15], _ =>
    simp [lcells] at e0 e1 e2 e3 e4 e5 e6
    obtain ⟨rfl, rfl, rfl, rfl⟩ := e2
    obtain ⟨rfl, rfl, rfl, rfl⟩ := e4
    obtain ⟨rfl, rfl, rfl, rfl⟩ := e6
    subst e0 e1 e3 e5
    exact ⟨⟨pa, di, la, gs, r1, r2, r3, r4, ws, lb⟩, aa, ca, wa, cw, rfl, ⟨w0, hgq, hvq⟩, RowAt.grs hg, RowAt.wrds hv, hno, hle⟩
theorem open_nd {r : Reach} {b0 : Nat} {v : Value} {d : DataW H} {p : List MemPlace} (hv : Value.okWide Try.prog W r b0 36 v) (h : DataW.Trod enc Try.prog W 0 (fun _ => true) true 36 v d p) :
    ∃ (n : Nod) (aa : Option Addr) (ca : Nat) (wa : Option Addr) (cw : Nat), v = n.v aa ca wa cw ∧ n.Fits ∧ GrsAt W aa n.acl ∧ WrdsAt W wa n.words ∧ (wa = none → cw = 0) ∧ n.words.length ≤ cw := by
  obtain ⟨cs, rfl, n, aa, ca, wa, cw, he, hf, hg, hw, hz, hc⟩ := open_struct undNd reads_nd hv h
  exact ⟨n, aa, ca, wa, cw, he, hf, hg, hw, hz, hc⟩
theorem open_rg {r : Reach} {b0 base : Nat} {sp : Nat → Bool} {held : Bool} {v : Value} {d : DataW H} {p : List MemPlace} (hv : Value.okWide Try.prog W r b0 33 v) (h : DataW.Trod enc Try.prog W base sp held 33 v d p) : ∃ x : Rg, v = x.v := by
  obtain ⟨cs, rfl, a, b, c, e, he⟩ := open_struct undRi reads_ri hv h
  exact ⟨⟨a, b, c, e⟩, by rw [he]⟩
end
end Go.Proofs.Ytajondkpdgiolaa

/-! A LIST OF GRANTS SUCH AS MAY BE, OF NUMBERS: the law's Acl (donjonlaw11). -/
namespace Go.Proofs.Ytajondkpdgiolaa
open Go.RowKit
set_option maxRecDepth 8000
set_option linter.unusedSimpArgs false
set_option linter.unusedVariables false

def hasTo (gs : List Gr) : Nat → List Int
  | 0 => [0, 0, 0, 0, 0]
  | i + 1 => (hasTo gs i).set ((gs.getD i zGr).m % 5).toNat (1 + wrap64 ((gs.getD i zGr).m.tdiv 5) % 7)
def hasAll (gs : List Gr) : List Int := hasTo gs (min gs.length 8)
def usr (k : Nat) : ByteArray := if k = 0 then starS else chr (96 + k)
def aclTo (h : List Int) : Nat → List Gr
  | 0 => []
  | k + 1 => if 0 < h.getD k 0 ∧ (aclTo h k).length < 4 then aclTo h k ++ [⟨usr k, h.getD k 0⟩] else aclTo h k
def aclOf (gs : List Gr) : List Gr := aclTo (hasAll gs) 5
theorem has_len (gs : List Gr) : ∀ i, (hasTo gs i).length = 5
  | 0 => rfl
  | i + 1 => by rw [hasTo, List.length_set, has_len gs i]
theorem has_val (gs : List Gr) : ∀ i, ∀ x ∈ hasTo gs i, 0 ≤ x ∧ x ≤ 7
  | 0, x, h => by simp [hasTo] at h; omega
  | i + 1, x, h => by
    rw [hasTo] at h
    rcases List.mem_or_eq_of_mem_set h with h | h
    · exact has_val gs i x h
    · omega
theorem acl_len (h : List Int) : ∀ k, (aclTo h k).length ≤ 4 ∧ (aclTo h k).length ≤ k
  | 0 => by simp [aclTo]
  | k + 1 => by
    have := acl_len h k
    rw [aclTo]
    split
    · simp; omega
    · omega
theorem acl_full (h : List Int) {k : Nat} (hk : (aclTo h k).length = 4) : ∀ j, aclTo h (k + j) = aclTo h k
  | 0 => rfl
  | j + 1 => by
    rw [← Nat.add_assoc, aclTo, acl_full h hk j, if_neg (by omega)]
theorem usr_lt : ∀ k : Fin 5, ∀ j : Fin 5, j.val < k.val → lt (usr j.val) (usr k.val) = true := by decide +kernel
theorem usr_may : ∀ k : Fin 5, may (usr k.val) = true ∧ lt ⟨#[]⟩ (usr k.val) = true := by decide +kernel
/-- Grants that stand by their users, from a number on. -/
theorem okAcl_app (a : ByteArray) : ∀ (l : List Gr) (g : Gr), okAcl a l = true → may g.u = true → (∀ x ∈ l, lt x.u g.u = true) → lt a g.u = true → 1 ≤ g.m → g.m ≤ 7 → okAcl a (l ++ [g]) = true
  | [], g, _, h2, _, h4, h5, h6 => by simp [okAcl, h2, h4, h5, h6]
  | x :: r, g, h1, h2, h3, h4, h5, h6 => by
    rw [List.cons_append, okAcl]
    rw [okAcl, Bool.and_eq_true] at h1
    rw [Bool.and_eq_true]
    refine ⟨h1.1, okAcl_app x.u r g h1.2 h2 (fun y hy => h3 y (List.mem_cons_of_mem _ hy)) (h3 x List.mem_cons_self) h5 h6⟩
theorem acl_good (h : List Int) (hv : ∀ x ∈ h, 0 ≤ x ∧ x ≤ 7) (hl : h.length = 5) : ∀ k, k ≤ 5 → okAcl ⟨#[]⟩ (aclTo h k) = true ∧ ∀ x ∈ aclTo h k, ∃ j, j < k ∧ x.u = usr j
  | 0, _ => ⟨rfl, fun x hx => by simp [aclTo] at hx⟩
  | k + 1, hk => by
    obtain ⟨h1, h2⟩ := acl_good h hv hl k (by omega)
    rw [aclTo]
    split
    · rename_i hp
      have hm : h.getD k 0 ∈ h := by
        rw [List.getD_eq_getElem?_getD, List.getElem?_eq_getElem (by omega)]
        exact List.getElem_mem _
      have := hv _ hm
      obtain ⟨u1, u2⟩ := usr_may ⟨k, by omega⟩
      refine ⟨okAcl_app _ _ _ h1 u1 (fun x hx => ?_) u2 (by show 1 ≤ h.getD k 0; omega) (by show h.getD k 0 ≤ 7; omega), fun x hx => ?_⟩
      · obtain ⟨j, hj, e⟩ := h2 x hx
        rw [e]
        exact usr_lt ⟨k, by omega⟩ ⟨j, by omega⟩ hj
      · rcases List.mem_append.1 hx with hx | hx
        · obtain ⟨j, hj, e⟩ := h2 x hx
          exact ⟨j, by omega, e⟩
        · rw [List.mem_singleton] at hx
          subst hx
          exact ⟨k, by omega, rfl⟩
    · exact ⟨h1, fun x hx => by obtain ⟨j, hj, e⟩ := h2 x hx; exact ⟨j, by omega, e⟩⟩
theorem aclOf_ok (gs : List Gr) : chkA (aclOf gs) = 0 := by
  have h := acl_good (hasAll gs) (has_val gs _) (has_len gs _) 5 (Nat.le_refl _)
  have h2 := (acl_len (hasAll gs) 5).1
  unfold chkA aclOf
  rw [if_neg (by omega), if_pos h.1]
theorem has_get (gs : List Gr) (i k : Nat) : 0 ≤ (hasTo gs i).getD k 0 ∧ (hasTo gs i).getD k 0 ≤ 7 := by
  rw [List.getD_eq_getElem?_getD]
  cases h : (hasTo gs i)[k]? with
  | none => simp
  | some x => exact has_val gs i x (List.mem_of_getElem? h)

def gcl (g : Gr) : List Value := [.string g.u, .int .i64 g.m]
theorem gr_okT : ElemOk 77 31 2 gcl :=
  ⟨Try.underlying31, by
    obtain ⟨i, h1, h2, h3, h4⟩ := info_of (e := 77) (z := .agg #[.string ⟨#[]⟩, .int .i64 0]) (sz := 2) (b := 24) (by kernel_rfl)
    exact ⟨i, _, _, h1, h2, h3, h4, rfl, by omega⟩, by omega, fun _ => rfl, fun x u hu => by simp [gcl] at hu; rcases hu with rfl | rfl <;> rfl⟩
abbrev OwnGr (w : World) (base : Nat) (v : Value) (l : List Gr) : Prop := OwnR 77 2 gcl w base v l
def ivals (h : List Int) : List Value := h.map fun x => .int .i64 x
set_option maxHeartbeats 400000 in
theorem w11_any (k m : Int) (h0 : 0 < m) (h1 : m < 1000000) (w : World) :
    Calls Try.prog 39 #[.int .i64 k, .int .i64 m] w fun e w' => e = .returned (.int .i64 (k % m)) ∧ w' = w := by
  have b1 := Int.lt_tmod_of_pos k h0
  have b2 := Int.tmod_lt_of_pos k h0
  have hm0 : ¬ m = 0 := by omega
  have hm1 : ¬ m = -1 := by omega
  by_cases hn : k.tmod m < 0
  · have e1 : k % m = k.tmod m + m := by
      rw [Int.tmod_eq_emod] at hn ⊢
      split at hn
      · have := Int.emod_nonneg k (by omega : m ≠ 0); omega
      · rename_i hc; rw [if_neg hc]; rw [Int.natAbs_of_nonneg (by omega)]; omega
    rw [e1]
    clear e1
    go_enter Try.func39, Try.ntmps39
    go_wp2
    go_ret
    exact ⟨rfl, rfl⟩
  · have e1 : k % m = k.tmod m := by
      rw [Int.tmod_eq_emod] at hn ⊢
      split
      · simp
      · rename_i hc
        rw [if_neg hc] at hn
        have := Int.emod_lt_of_pos k h0
        rw [Int.natAbs_of_nonneg (by omega)] at *
        omega
    rw [e1]
    clear e1
    go_enter Try.func39, Try.ntmps39
    go_wp2
    go_ret
    exact ⟨rfl, rfl⟩
set_option maxHeartbeats 1000000 in
theorem aclT_any (a : Option Addr) (cap : Nat) (gs : List Gr) (w : World) (h : GrsAt w a gs) :
    Calls Try.prog 26 #[.slice a gs.length cap] w fun e w' => ∃ v, e = .returned v ∧ OwnGr w' w.heap.size v (aclOf gs) ∧ Below w.heap.size w w' := by
  have hb0 := blk_alloc w #[.int .i64 0, .int .i64 0, .int .i64 0, .int .i64 0, .int .i64 0] 80
  have hB0 := alloc_below w (.cells #[.int .i64 0, .int .i64 0, .int .i64 0, .int .i64 0, .int .i64 0] 80)
  have hs0 := World.size_alloc w (.cells #[.int .i64 0, .int .i64 0, .int .i64 0, .int .i64 0, .int .i64 0] 80)
  obtain ⟨n, hn⟩ : ∃ n, gs.length = n := ⟨_, rfl⟩
  rw [hn]
  replace hn : Aside (gs.length = n) := hn
  obtain ⟨R, hR⟩ : ∃ R, aclOf gs = R := ⟨_, rfl⟩
  rw [hR]
  replace hR : Aside (aclOf gs = R) := hR
  go_enter Try.func26, Try.ntmps26
  go_wp2_with fail
  generalize w.alloc (.cells #[.int .i64 0, .int .i64 0, .int .i64 0, .int .i64 0, .int .i64 0] 80) = W0 at *
  go_loopw [4] (fun t4 wr => ∃ i : Nat, i ≤ n ∧ i ≤ 8 ∧ t4 = .int .i64 (i : Int) ∧ Blk wr w.heap.size (ivals (hasTo gs i)) ∧ Below w.heap.size w wr ∧ w.heap.size + 1 ≤ wr.heap.size) (fun t4 _ => n - (Go.RowKit.intOf t4).toNat)
  case atStart => exact ⟨0, by omega, by omega, rfl, hb0, hB0, by omega⟩
  case round =>
    clear hb0 hB0 hs0
    obtain ⟨i, hi, hi8, rfl, hb, hB, hz⟩ := hrel
    by_cases hlt : i < n ∧ i < 8
    · obtain ⟨g, hg⟩ : ∃ g, gs[i]? = some g := ⟨_, List.getElem?_eq_getElem (by rw [hn.out]; exact hlt.1)⟩
      obtain ⟨y, rfl, -, hc2⟩ := h.below hB i g hg
      have hgd : gs.getD i zGr = g := by rw [List.getD_eq_getElem?_getD, hg]; rfl
      have hst : hasTo gs (i + 1) = (hasTo gs i).set (g.m % 5).toNat (1 + wrap64 (g.m.tdiv 5) % 7) := by rw [hasTo, hgd]
      have i1 : (i : Int) < (n : Int) := by omega
      have i2 : (i : Int) < 8 := by omega
      have k1 := w11_any g.m 5 (by omega) (by omega)
      have k2 := w11_any (wrap64 (g.m.tdiv 5)) 7 (by omega) (by omega)
      obtain ⟨k, hk⟩ : ∃ k : Nat, g.m % 5 = (k : Int) := ⟨(g.m % 5).toNat, by omega⟩
      have hk5 : k < 5 := by omega
      have hkn : (g.m % 5).toNat = k := by omega
      obtain ⟨v, hv⟩ : ∃ v : Int, wrap64 (g.m.tdiv 5) % 7 = v := ⟨_, rfl⟩
      have hv7 : 0 ≤ v ∧ v < 7 := by omega
      rw [hk] at k1
      rw [hv] at k2
      rw [hkn, hv] at hst
      clear hk hkn hgd
      replace hv : Aside (wrap64 (g.m.tdiv 5) % 7 = v) := hv
      have hcell : ∃ u, wr.cell? ⟨w.heap.size, k, none⟩ = some u ∧ wr.frozen? ⟨w.heap.size, k, none⟩ = false := by
        obtain ⟨u, hu⟩ : ∃ u, (ivals (hasTo gs i))[k]? = some u := ⟨_, List.getElem?_eq_getElem (by simp [ivals, has_len]; omega)⟩
        exact ⟨u, hb k u hu⟩
      obtain ⟨u, hu, hfz⟩ := hcell
      have hb2 := hb.set k (.int .i64 (1 + v)) (by simp [ivals, has_len]; omega)
      have hB2 : Below w.heap.size w (wr.setCell ⟨w.heap.size, k, none⟩ (.int .i64 (1 + v))) := hB.setCell (p := ⟨w.heap.size, k, none⟩) (Nat.le_refl _) _
      have hz2 : w.heap.size + 1 ≤ (wr.setCell ⟨w.heap.size, k, none⟩ (.int .i64 (1 + v))).heap.size := by simpa using hz
      rw [show (ivals (hasTo gs i)).set k (.int .i64 (1 + v)) = ivals (hasTo gs (i + 1)) by rw [hst]; unfold ivals; rw [List.map_set]] at hb2
      clear hst hb
      go_wp2_with fail
      refine (k1 wr).mono ?_
      rintro e w' ⟨rfl, hw⟩
      replace hw := hw.symm
      subst hw
      go_wp2_with fail
      refine (k2 wr).mono ?_
      rintro e w' ⟨rfl, hw⟩
      replace hw := hw.symm
      subst hw
      go_wp2_with fail
      exact ⟨⟨i + 1, by omega, by omega, by simp, hb2, hB2, hz2⟩, by simp [Go.RowKit.intOf]; omega⟩
    · have hmin : min gs.length 8 = i := by rw [hn.out]; omega
      have hR5 : Aside (aclTo (hasTo gs i) 5 = R) := by rw [← hR.out, aclOf, hasAll, hmin]; exact rfl
      have hHv := has_get gs i
      have hHl := has_len gs i
      obtain ⟨H, hH⟩ : ∃ H, hasTo gs i = H := ⟨_, rfl⟩
      rw [hH] at hb hHv hHl hR5
      clear hH hmin
      have hcase : i = n ∨ (i < n ∧ i = 8) := by omega
      rcases hcase with rfl | ⟨hin, rfl⟩
      all_goals (
        go_wp2_with fail
        go_loopw [6, 7] (fun t6 t7 wq => ∃ k : Nat, k ≤ 5 ∧ t7 = .int .i64 (k : Int) ∧ OwnGr wq (w.heap.size + 1) t6 (aclTo H k) ∧ Below w.heap.size w wq ∧ w.heap.size + 1 ≤ wq.heap.size ∧ Blk wq w.heap.size (ivals H)) (fun _ t7 _ => 5 - (Go.RowKit.intOf t7).toNat)
        case atStart => exact ⟨0, by omega, rfl, OwnR.nil _ _ _ _ _, hB, hz, hb⟩
        case round =>
          clear hb hB hz
          obtain ⟨k, hk, rfl, ho, hB, hz, hb⟩ := hrel
          have hal := acl_len H k
          obtain ⟨ra, rc, hrv, hrle, -, -⟩ := OwnR.slice gr_okT.len ho
          subst hrv
          by_cases hk5 : k < 5
          · by_cases hl4 : (aclTo H k).length < 4
            · obtain ⟨x, hx⟩ : ∃ x, H.getD k 0 = x := ⟨_, rfl⟩
              have hxv := hHv k
              rw [hx] at hxv
              have hcell : wr.cell? ⟨w.heap.size, k, none⟩ = some (.int .i64 x) := by
                refine (hb k (.int .i64 x) ?_).1
                unfold ivals
                rw [List.getElem?_map, ← hx, List.getD_eq_getElem?_getD, List.getElem?_eq_getElem (by omega)]
                rfl
              have hst : aclTo H (k + 1) = if 0 < x ∧ (aclTo H k).length < 4 then aclTo H k ++ [⟨usr k, x⟩] else aclTo H k := by rw [aclTo, hx]
              generalize (aclTo H k).length = m at *
              have i1 : (k : Int) < 5 := by omega
              have i2 : (m : Int) < 4 := by omega
              by_cases hx0 : 0 < x
              · rw [if_pos ⟨hx0, hl4⟩] at hst
                clear hx
                by_cases hk0 : k = 0
                · subst hk0
                  obtain ⟨v2, W2, hap, ho2, hg2⟩ := OwnR.push gr_okT ho hz ⟨usr 0, x⟩ #[.string ⟨#[42]⟩, .int .i64 x] rfl 77 (by have := (acl_len H 0).1; omega)
                  have hb2 := ho.grew_below hz hg2
                  rw [← hst] at ho2
                  have hB2 := hB.trans (hb2.mono (by omega))
                  have hbk := hb.same (hb2.block _ (by omega))
                  have hz2 := Nat.le_trans hz hb2.size
                  clear hst hb
                  go_wp2_with (first | (refine wpList_append rfl _ _ rfl rfl rfl rfl hap ?_) | fail)
                  exact ⟨⟨1, by omega, by simp, ho2, hB2, hz2, hbk⟩, by simp [Go.RowKit.intOf]⟩
                · have hbt := chr_made wr (96 + k) (by omega)
                  have i3 : (0 : Int) < (k : Int) := by omega
                  have hu2 : usr k = chr (96 + k) := if_neg hk0
                  have e1 : IntKind.u8.wrap (97 + (k : Int) - 1) = 96 + (k : Int) := by rw [IntKind.wrap_u8]; omega
                  rw [show ((96 + k : Nat) : Int) = 96 + (k : Int) by omega] at hbt
                  have hcv := hbt.conv
                  have hza := alloc_below wr (.cells #[.int .u8 (96 + (k : Int))] 5)
                  have ho1 := ho.below hza
                  have hz1 := Nat.le_trans hz hza.size
                  obtain ⟨v2, W2, hap, ho2, hg2⟩ := OwnR.push gr_okT ho1 hz1 ⟨usr k, x⟩ #[.string (chr (96 + k)), .int .i64 x] (by rw [hu2]; rfl) 77 (by have := (acl_len H k).1; omega)
                  have hb2 := ho1.grew_below hz1 hg2
                  rw [← hst] at ho2
                  have hb3 : Below (w.heap.size + 1) wr W2 := (hza.mono hz).trans hb2
                  have hB2 := hB.trans (hb3.mono (by omega))
                  have hbk := hb.same (hb3.block _ (by omega))
                  have hz2 := Nat.le_trans hz hb3.size
                  have hcell2 := (hza.cell (World.block_lt_of_cell? _ _ hcell)).trans hcell
                  rw [World.size_alloc] at hap
                  clear hst hb hbt hza ho1 hz1 hg2 hb2 hb3
                  go_wp2_with (first | (refine wpList_append rfl _ _ rfl rfl rfl rfl hap ?_) | fail)
                  exact ⟨⟨k + 1, by omega, by simp, ho2, hB2, hz2, hbk⟩, by simp [Go.RowKit.intOf]; omega⟩
              · rw [if_neg (fun q => hx0 q.1)] at hst
                rw [← hst] at ho
                clear hst hx
                go_wp2_with fail
                exact ⟨⟨k + 1, by omega, by simp, ho, hB, hz, hb⟩, by simp [Go.RowKit.intOf]; omega⟩
            · have h4 : (aclTo H k).length = 4 := by omega
              have hfin := acl_full H h4 (5 - k)
              rw [show k + (5 - k) = 5 by omega] at hfin
              replace hfin : Aside (aclTo H 5 = aclTo H k) := hfin
              have i1 : (k : Int) < 5 := by omega
              generalize (aclTo H k).length = m at *
              have i2 : ¬ (m : Int) < 4 := by omega
              clear h4
              go_wp2_with fail
              go_ret
              exact ⟨_, rfl, by rw [← hR5.out, hfin.out]; exact ho.lower (Nat.le_succ _), hB⟩
          · obtain rfl : k = 5 := by omega
            go_wp2_with fail
            go_ret
            exact ⟨_, rfl, by rw [← hR5.out]; exact ho.lower (Nat.le_succ _), hB⟩)
end Go.Proofs.Ytajondkpdgiolaa

/-! TREES THAT ARE GROWN, in plain words: nodes put upon the first ones, one behind the other; what they come to is a tree. -/
namespace Go.Proofs.Ytajondkpdgiolaa
open Go.RowKit
set_option maxRecDepth 8000
set_option linter.unusedSimpArgs false
set_option linter.unusedVariables false

/-- A way to make a node. -/
structure Mk where
  path : List Int
  dir : Bool
  up : Lab
  acl : List Gr
  rings : Rg
  words : List Int
  by_ : Lab
def mkPath (m : Mk) : ByteArray := pathB (namesOf m.path)
def mkN (d : Nod) (m : Mk) : Nod :=
  if m.dir = true then ⟨mkPath m, true, joinL d.label (goodL m.up), aclOf m.acl, 0, 0, 0, 0, [], goodL m.by_⟩
  else ⟨mkPath m, false, d.label, aclOf m.acl, (goodR m.rings).a, (goodR m.rings).b, (goodR m.rings).c, (goodR m.rings).g, m.words.take 16, goodL m.by_⟩
def growStep (l : List Nod) (m : Mk) : List Nod :=
  if eqs (mkPath m) slashS = true then l else match findN l (parentOf (mkPath m)) with
  | none => l
  | some d => if d.dir = true ∧ findN l (mkPath m) = none then putN l (mkN d m) else l
def growN (ts : List Lab) (ms : List Mk) : List Nod := (ms.take 14).foldl growStep (firstN ((ts.take 4).map goodL))
theorem mkN_path (d : Nod) (m : Mk) : (mkN d m).path = mkPath m := by unfold mkN; split <;> rfl
theorem mkPath_names (m : Mk) : Names (namesOf m.path) := namesOf_names m.path
theorem rov_join {a b : Lab} (ha : GL a) (hb : GL b) : rov (joinL a b) a = true ∧ GL (joinL a b) := by
  obtain ⟨x, rfl, hx⟩ := ha.nl
  obtain ⟨y, rfl, hy⟩ := hb.nl
  rw [join_lab hx hy]
  refine ⟨?_, lab_GL (join_ok hx hy)⟩
  rw [rov_ov (join_ok hx hy) hx, ov_iff (join_ok hx hy) hx]
  show (x.join y).join x = x.join y
  rw [join_comm (x.join y) x, ← join_assoc, join_self]
theorem rov_self {a : Lab} (ha : GL a) : rov a a = true := by
  obtain ⟨x, rfl, hx⟩ := ha.nl
  rw [rov_ov hx hx, ov_iff hx hx]
  exact over_refl x
theorem mkN_ok {d : Nod} (hd : nodC d = 0) (m : Mk) (hs : mkPath m ≠ slashS) : nodC (mkN d m) = 0 ∧ rov (mkN d m).label d.label = true ∧ ((mkN d m).dir = false → (mkN d m).label = d.label) := by
  obtain ⟨_, hg, _⟩ := nodC_zero.1 hd
  have hp : checkOf (mkPath m) = 0 := check_names (mkPath_names m)
  unfold mkN
  cases m.dir
  · simp only [Bool.false_eq_true, if_false]
    refine ⟨nodC_zero.2 ⟨hp, hg, good_GL _, aclOf_ok _, fun h => (by cases h), fun _ => ⟨hs, goodR_ok m.rings, ?_⟩⟩, rov_self hg, fun _ => by first | rfl | trivial⟩
    show (m.words.take 16).length ≤ 16
    rw [List.length_take]
    omega
  · simp only [if_true]
    obtain ⟨h1, h2⟩ := rov_join hg (good_GL m.up)
    exact ⟨nodC_zero.2 ⟨hp, h2, good_GL _, aclOf_ok _, fun _ => ⟨rfl, rfl⟩, fun h => (by cases h)⟩, h1, fun h => (by cases h)⟩
theorem step_tree {l : List Nod} (h : Tree l) (m : Mk) : Tree (growStep l m) := by
  unfold growStep
  by_cases hs : eqs (mkPath m) slashS = true
  · rw [if_pos hs]
    exact h
  · rw [if_neg hs]
    have hs' : mkPath m ≠ slashS := fun e => hs (eqs_iff.2 e)
    cases hf : findN l (parentOf (mkPath m)) with
    | none => exact h
    | some d =>
      show Tree (if d.dir = true ∧ findN l (mkPath m) = none then putN l (mkN d m) else l)
      by_cases hc : d.dir = true ∧ findN l (mkPath m) = none
      · rw [if_pos hc]
        obtain ⟨hd, hp⟩ := find_some hf
        obtain ⟨k1, k2, k3⟩ := mkN_ok (h.ok d hd) m hs'
        refine h.put (d := d) k1 (by rw [mkN_path]; exact hs') (fun x hx => ?_) hd (by rw [mkN_path]; exact hp) hc.1 k2 k3
        rw [mkN_path]
        exact find_none hc.2 x hx
      · rw [if_neg hc]
        exact h
theorem fold_tree : ∀ (ms : List Mk) {l : List Nod}, Tree l → Tree (ms.foldl growStep l)
  | [], _, h => h
  | m :: r, _, h => fold_tree r (step_tree h m)
theorem grow_tree (ts : List Lab) (ms : List Mk) : Tree (growN ts ms) := by
  refine fold_tree _ (first_tree (fun t ht => ?_) ?_)
  · obtain ⟨u, _, rfl⟩ := List.mem_map.1 ht
    exact good_GL u
  · rw [List.length_map, List.length_take]
    omega
/-! The names that grown nodes have. -/
def OkName (n : ByteArray) : Prop := (∃ x, n = nameOf x) ∨ ∃ k, k < 10 ∧ n = nmK k
def OkPath (p : ByteArray) : Prop := ∃ ns, p = pathB ns ∧ Names ns ∧ ∀ n ∈ ns, OkName n
theorem ok_slash : OkPath slashS := ⟨[], pathB_nil.symm, ⟨by simp, fun n hn => by cases hn⟩, fun n hn => by cases hn⟩
theorem ok_mk (m : Mk) : OkPath (mkPath m) := ⟨_, rfl, mkPath_names m, fun n hn => by
  unfold namesOf at hn
  obtain ⟨x, _, rfl⟩ := List.mem_map.1 hn
  exact .inl ⟨x, rfl⟩⟩
theorem ok_dir {k : Nat} (hk : k < 10) (t : Lab) : OkPath (dirN k t).path := ⟨[nmK k], dir_path k t, nmK_names hk, fun n hn => by
  rw [List.mem_singleton] at hn
  exact .inr ⟨k, hk, hn⟩⟩
theorem first_paths {ts : List Lab} (hn : ts.length < 10) : ∀ x ∈ firstN ts, OkPath x.path := fun x hx => by
  have hl := dist_len ts ts.length
  rcases first_mem hx with rfl | ⟨k, t, hk, ht, rfl⟩
  · exact ok_slash
  · exact ok_dir (by omega) t
theorem step_paths {l : List Nod} (h : ∀ x ∈ l, OkPath x.path) (m : Mk) : ∀ x ∈ growStep l m, OkPath x.path := fun x hx => by
  unfold growStep at hx
  split at hx
  · exact h x hx
  · split at hx
    · exact h x hx
    · split at hx
      · rcases put_mem.1 hx with rfl | ⟨hx, _⟩
        · rw [mkN_path]
          exact ok_mk m
        · exact h x hx
      · exact h x hx
theorem fold_paths : ∀ (ms : List Mk) {l : List Nod}, (∀ x ∈ l, OkPath x.path) → ∀ x ∈ ms.foldl growStep l, OkPath x.path
  | [], _, h => h
  | m :: r, _, h => fold_paths r (step_paths h m)
theorem grow_paths (ts : List Lab) (ms : List Mk) : ∀ x ∈ growN ts ms, OkPath x.path := fold_paths _ (first_paths (by rw [List.length_map, List.length_take]; omega))
def zzS : ByteArray := ⟨#[122, 122]⟩
def noS : ByteArray := ⟨#[110, 111]⟩
theorem okName_head {n : ByteArray} (h : OkName n) : ∃ c r, bytes n = c :: r ∧ (97 ≤ c.toNat ∧ c.toNat ≤ 101 ∨ c.toNat = 108) := by
  rcases h with ⟨x, rfl⟩ | ⟨k, hk, rfl⟩
  · have := letter_lo x
    refine ⟨UInt8.ofNat (letterOf x), List.replicate (x % 3).toNat (UInt8.ofNat (letterOf x)), by simp [bytes, nameOf, List.replicate_succ], .inl ?_⟩
    rw [UInt8.toNat_ofNat']
    omega
  · exact ⟨108, [UInt8.ofNat (48 + k)], rfl, .inr rfl⟩
theorem zz_not : ¬ OkName zzS := fun h => by
  obtain ⟨c, r, hb, hc⟩ := okName_head h
  have : (bytes zzS) = [122, 122] := rfl
  rw [this] at hb
  injection hb with h1 h2
  subst h1
  revert hc
  decide
theorem no_not : ¬ OkName noS := fun h => by
  obtain ⟨c, r, hb, hc⟩ := okName_head h
  have : (bytes noS) = [110, 111] := rfl
  rw [this] at hb
  injection hb with h1 h2
  subst h1
  revert hc
  decide
/-- A path that goes through another name is none of them. -/
theorem path_not {ns : List ByteArray} (hf : ∀ n ∈ ns, Flat n ∧ 1 ≤ n.size) {b : ByteArray} (hb : b ∈ ns) (hn : ¬ OkName b) : ¬ OkPath (pathB ns) := fun h => by
  obtain ⟨ms, e, hm, hk⟩ := h
  have h1 := parts_path hf
  have h2 := parts_path hm.flat
  rw [e, h2] at h1
  subst h1
  exact hn (hk b hb)
end Go.Proofs.Ytajondkpdgiolaa

/-! NODES, LABELS AND WAYS TO MAKE NODES THAT CAME IN, in rows. -/
namespace Go.Proofs.Ytajondkpdgiolaa
open Go.ChangeShapes Go.WideShapes Go.ChangeAt Go.RowKit
set_option maxRecDepth 8000
set_option linter.unusedVariables false
set_option linter.unusedSimpArgs false

def icell (x : Int) : List Value := [.int .i64 x]
/-- A way to make a node, and where its rows lie. -/
structure PM where
  m : Mk
  pa : Option Addr
  pc : Nat
  aa : Option Addr
  ca : Nat
  wa : Option Addr
  cw : Nat
def PM.cs (x : PM) : List Value := [.slice x.pa x.m.path.length x.pc, .bool x.m.dir, .int .i64 x.m.up.s, .int .i64 x.m.up.c, .int .i64 x.m.up.i, .int .i64 x.m.up.k, .slice x.aa x.m.acl.length x.ca, .int .i64 x.m.rings.a, .int .i64 x.m.rings.b, .int .i64 x.m.rings.c, .int .i64 x.m.rings.g, .slice x.wa x.m.words.length x.cw, .int .i64 x.m.by_.s, .int .i64 x.m.by_.c, .int .i64 x.m.by_.i, .int .i64 x.m.by_.k]
structure PM.At (W : World) (x : PM) : Prop where
  p : RowAt 1 icell W x.pa x.m.path
  g : GrsAt W x.aa x.m.acl
  w : WrdsAt W x.wa x.m.words
  f : ∀ q ∈ x.m.path, -9223372036854775808 ≤ q ∧ q ≤ 9223372036854775807
theorem PM.At.below {W W' : World} {x : PM} (h : x.At W) (b : Below W.heap.size W W') : x.At W' := ⟨h.p.below (fun _ => rfl) b, h.g.below b, h.w.below b, h.f⟩
structure RowM (W : World) (a : Option Addr) (l : List PM) : Prop where
  r : RowAt 16 PM.cs W a l
  p : ∀ x ∈ l, x.At W
theorem RowM.below {W W' : World} {a : Option Addr} {l : List PM} (h : RowM W a l) (b : Below W.heap.size W W') : RowM W' a l := ⟨h.r.below (fun _ => rfl) b, fun x hx => (h.p x hx).below b⟩
section
variable {H : Type} {enc : TypeId × Value → H} {W : World}
theorem undMk : Try.prog.underlying 58 = some (.struct (Try.prog.fieldsOf 58)) := by kernel_rfl
theorem cMk : Try.prog.cellsOf 58 = 16 := by kernel_rfl
theorem cInts : Try.prog.cellsOf 56 = 1 := by kernel_rfl
theorem reads_ic {base : Nat} {sp : Nat → Bool} {held : Bool} : Reads enc W base sp held 3 fun cs => ∃ x : Int, cs = icell x ∧ (-9223372036854775808 ≤ x ∧ x ≤ 9223372036854775807) := fun n cs x h => by
  obtain ⟨m, e, hw⟩ := reads_int Try.underlying3 n cs x h
  exact ⟨m, e, int_fits hw⟩
theorem reads_mk : Reads enc W 0 (fun _ => true) true 58 fun cs => ∃ x : PM, cs = x.cs ∧ x.At W := fun fu cs x h => by
  have hl := struct_len undMk cMk h
  obtain ⟨ps, pa, pc, e0, hp, hpq, _, _⟩ := read_field (i := 0) (ty := 56) (off := 0) undMk (by kernel_rfl) cInts (reads_rows (f := icell) Try.underlying56 cInt reads_ic cInts) h
  obtain ⟨di, e1⟩ := read_field (i := 1) (ty := 4) (off := 1) undMk (by kernel_rfl) cBool (reads_bool Try.underlying4) h
  obtain ⟨la, e2, _⟩ := read_field (i := 2) (ty := 25) (off := 2) undMk (by kernel_rfl) cLab reads_lab h
  obtain ⟨gs, aa, ca, e3, hg, hgq, _, _⟩ := read_field (i := 3) (ty := 31) (off := 6) undMk (by kernel_rfl) cGrs (reads_rows (f := gcells) Try.underlying31 cGr reads_gr cGrs) h
  obtain ⟨r1, r2, r3, r4, e4⟩ := read_field (i := 4) (ty := 33) (off := 7) undMk (by kernel_rfl) cRi reads_ri h
  obtain ⟨ws, wa, cw, e5, hv, hvq, hno, hle⟩ := read_field (i := 5) (ty := 34) (off := 11) undMk (by kernel_rfl) cWds (reads_rows (f := wcell) Try.underlying34 cI64 reads_wd cWds) h
  obtain ⟨lb, e6, _⟩ := read_field (i := 6) (ty := 25) (off := 12) undMk (by kernel_rfl) cLab reads_lab h
  match cs, hl with
  | [v0, v1, v2, v3, v4, v5, v6, v7, v8, v9, v10, v11, v12, v13, v14, v15], _ =>
    simp [lcells] at e0 e1 e2 e3 e4 e5 e6
    obtain ⟨rfl, rfl, rfl, rfl⟩ := e2
    obtain ⟨rfl, rfl, rfl, rfl⟩ := e4
    obtain ⟨rfl, rfl, rfl, rfl⟩ := e6
    subst e0 e1 e3 e5
    exact ⟨⟨⟨ps, di, la, gs, ⟨r1, r2, r3, r4⟩, ws, lb⟩, pa, pc, aa, ca, wa, cw⟩, rfl, ⟨hp, RowAt.grs hg, RowAt.wrds hv, hpq⟩⟩
theorem open_mks {n : Nat} {a : Option Addr} {len cap : Nat} {x : DataW H × List MemPlace} (h : DataW.trod enc Try.prog W 0 (fun _ => true) true n 23 [.slice a len cap] = some x) : ∃ l, l.length = len ∧ RowM W a l := by
  obtain ⟨l, hl, hc, hf, _⟩ := open_rows (f := PM.cs) (q := PM.At W) Try.underlying23 cMk reads_mk h
  exact ⟨l, hl, ⟨hc, hf⟩⟩
theorem reads_pn : Reads enc W 0 (fun _ => true) true 36 fun cs => ∃ x : PN, cs = x.cs ∧ (x.At W ∧ x.n.Fits) := fun fu cs x h => by
  obtain ⟨n, aa, ca, wa, cw, he, hf, hg, hw, _, _⟩ := reads_nd fu cs x h
  refine ⟨⟨n, aa, ca, wa, cw⟩, ?_, ⟨hg, hw⟩, hf⟩
  injection he with he
  have := congrArg Array.toList he
  simpa [PN.cs, nclT] using this
theorem open_nds {n : Nat} {a : Option Addr} {len cap : Nat} {x : DataW H × List MemPlace} (h : DataW.trod enc Try.prog W 0 (fun _ => true) true n 27 [.slice a len cap] = some x) : ∃ l : List PN, l.length = len ∧ RowN W a l ∧ ∀ x ∈ l, x.n.Fits := by
  obtain ⟨l, hl, hc, hf, _⟩ := open_rows (f := PN.cs) (q := fun x => x.At W ∧ x.n.Fits) Try.underlying27 cNd reads_pn h
  exact ⟨l, hl, ⟨hc, fun x hx => (hf x hx).1⟩, fun x hx => (hf x hx).2⟩
theorem open_lbs {n : Nat} {a : Option Addr} {len cap : Nat} {x : DataW H × List MemPlace} (h : DataW.trod enc Try.prog W 0 (fun _ => true) true n 22 [.slice a len cap] = some x) : ∃ l : List Lab, l.length = len ∧ RowAt 4 lcells W a l := by
  obtain ⟨l, hl, hc, hf, _⟩ := open_rows (f := lcells) (q := Lab.fits) Try.underlying22 cLab reads_lab h
  exact ⟨l, hl, hc⟩
theorem undLb : Try.prog.underlying 25 = some (.struct (Try.prog.fieldsOf 25)) := by kernel_rfl
theorem open_lb {r : Reach} {b0 : Nat} {v : Value} {d : DataW H} {p : List MemPlace} (hv : Value.okWide Try.prog W r b0 25 v) (h : DataW.Trod enc Try.prog W 0 (fun _ => true) true 25 v d p) : ∃ l : Lab, v = l.v := by
  obtain ⟨cs, rfl, l, rfl, _⟩ := open_struct undLb reads_lab hv h
  exact ⟨l, rfl⟩
theorem open_is {n : Nat} {a : Option Addr} {len cap : Nat} {x : DataW H × List MemPlace} (h : DataW.trod enc Try.prog W 0 (fun _ => true) true n 56 [.slice a len cap] = some x) : ∃ l : List Int, l.length = len ∧ RowAt 1 icell W a l ∧ ∀ q ∈ l, -9223372036854775808 ≤ q ∧ q ≤ 9223372036854775807 := by
  obtain ⟨l, hl, hc, hf, _⟩ := open_rows (f := icell) (q := fun q => -9223372036854775808 ≤ q ∧ q ≤ 9223372036854775807) Try.underlying56 cInt reads_ic h
  exact ⟨l, hl, hc, hf⟩
end
end Go.Proofs.Ytajondkpdgiolaa
