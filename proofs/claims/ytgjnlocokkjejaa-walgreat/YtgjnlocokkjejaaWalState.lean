/-
  WHAT THE USER'S SECTORS HOLD, AS TEXTS (the laws' State): done and holds.
-/
import Derived.Test.YtgjnlocokkjejaaWalPuts
namespace Go.Proofs.Ytgjnlocokkjejaa
open Go.RowKit Go.Maps

def stCells (S : List ByteArray) : List Value := S.map Value.string
def stOf (S : List ByteArray) : Value := .agg (stCells S).toArray
def noTexts : List ByteArray := List.replicate 18 ⟨#[]⟩
theorem st_len (S : List ByteArray) : (stCells S).length = S.length := by simp [stCells]
theorem st_one (S : List ByteArray) : ∀ v ∈ stCells S, v.oneCell' = true := by
  intro v hv
  obtain ⟨a, _, rfl⟩ := List.mem_map.1 hv
  rfl
theorem info_st : (Try.prog.info? 58).map (fun i => (i.zero, i.size, i.bytes)) = some (some (stOf noTexts), 18, 288) := by kernel_rfl
theorem size_st : (Try.prog.info? 58).map (·.size) = some 18 := by kernel_rfl
theorem zero_st (w : World) : (zeroValue 58).run Try.prog w = .ok (stOf noTexts) w := by
  obtain ⟨i, hi, hz, hs, hb⟩ := info_parts info_st
  simp [zeroValue, typeInfo, hi, hz]

/-- Texts in a block. -/
structure StAt (w : World) (b : Nat) (S : List ByteArray) : Prop where
  len : S.length = 18
  cells : w.rangeAt b 0 (stCells S)
  writes : w.there b 0 18
  lt : b < w.heap.size
theorem StAt.kept {T : List Nat} {w w' : World} {b : Nat} {S : List ByteArray} (h : StAt w b S) (k : Kept T w w') (hb : b ∉ T) : StAt w' b S :=
  ⟨h.len, rangeAt_of_block (k.block b h.lt hb) h.cells, there_of_block (k.block b h.lt hb) h.writes, Nat.lt_of_lt_of_le h.lt k.size⟩
theorem StAt.cell {w : World} {b : Nat} {S : List ByteArray} (h : StAt w b S) (k : Nat) (hk : k < 18) : w.cell? ⟨b, k, none⟩ = some (.string (S.getD k ⟨#[]⟩)) ∧ w.frozen? ⟨b, k, none⟩ = false := by
  have hl := h.len
  have h1 := h.cells k (.string (S.getD k ⟨#[]⟩)) (by simp [stCells, List.getD, hl, hk])
  have h2 := (h.writes k hk).2
  rw [Nat.zero_add] at h1 h2
  exact ⟨h1, h2⟩
theorem StAt.set {w : World} {b : Nat} {S : List ByteArray} (h : StAt w b S) (k : Nat) (hk : k < 18) (x : ByteArray) : StAt (w.setCell ⟨b, k, none⟩ (.string x)) b (S.set k x) := by
  have hl := h.len
  refine ⟨by simp [hl], fun j v hv => ?_, fun j hj => ?_, by simpa [World.setCell] using h.lt⟩
  · rw [Nat.zero_add]
    have hj : j < 18 := by have := (List.getElem?_eq_some_iff.1 hv).1; simp [stCells, hl] at this; exact this
    by_cases e : j = k
    · subst e
      rw [World.cell?_setCell_same _ _ _ (h.cell j hk).1]
      simp [stCells, hl, hk] at hv
      rw [hv]
    · rw [World.cell?_setCell_other _ _ _ _ (by simp <;> omega), (h.cell j hj).1, ← hv, stCells, List.map_set, List.getElem?_set_ne (Ne.symm e)]
      simp [List.getD, hl, hj]
  · have hw := h.writes j hj
    rw [Nat.zero_add] at hw ⊢
    refine ⟨?_, by rw [World.frozen?_setCell]; exact hw.2⟩
    by_cases e : j = k
    · subst e; rw [World.cell?_setCell_same _ _ _ (h.cell j hk).1]; rfl
    · rw [World.cell?_setCell_other _ _ _ _ (by simp <;> omega)]; exact hw.1

theorem st_new (w : World) (S : List ByteArray) (hS : S.length = 18) : StAt (w.alloc (.cells (stCells S).toArray 58)) w.heap.size S := by
  have ha : (w.alloc (.cells (stCells S).toArray 58)).heap[w.heap.size]? = some (.cells (stCells S).toArray 58 (0, 0)) := heap_alloc_new w _
  refine ⟨hS, fun j v hv => ?_, fun j hj => ⟨?_, row_frozen ha _⟩, (Array.getElem?_eq_some_iff.1 ha).1⟩
  · rw [cell_of_row _ _ _ _ _ _ ha]; simpa using hv
  · rw [cell_of_row _ _ _ _ _ _ ha]; simp [stCells, hS, hj]

section
variable {ops : Array Oper} {rest : List Oper} {o : Oper} {a : Act} {w W : World} {Q : Exit → Act → World → Prop}
theorem wpList_alloc_st (hg : o.guard = none) (ho : o.op = .alloc 58) (hW : w.alloc (.cells (stCells noTexts).toArray 58) = W)
    (h : wpList Try.prog ops Q rest (a.put o.dst (.pointer (some ⟨w.heap.size, 0, none⟩))) W) : wpList Try.prog ops Q (o :: rest) a w := by
  subst hW
  refine wpList_value hg ?_ h
  unfold execOp
  simp only [ho, Instr.alloc, Sem.run_bind, zero_st, Result.andThen_ok, newVar, newRow]
  rfl
theorem wpList_box_st (hg : o.guard = none) (x : Operand) (ho : o.op = .box 58 x) (S : List ByteArray) (hx : a.eval x = stOf S) (hW : w.alloc (.cells (stCells S).toArray 58) = W)
    (h : wpList Try.prog ops Q rest (a.put o.dst (.pointer (some ⟨w.heap.size, 0, none⟩))) W) : wpList Try.prog ops Q (o :: rest) a w := by
  subst hW
  refine wpList_value hg ?_ h
  unfold execOp
  simp only [ho, hx]
  rfl
theorem wpList_store_st (hg : o.guard = none) (x y : Operand) (ho : o.op = .store 58 x y) (b : Nat) (hx : a.eval x = .pointer (some ⟨b, 0, none⟩)) (S : List ByteArray) (hy : a.eval y = stOf S) (hs : S.length = 18) (ht : w.there b 0 18) (hW : w.setCells b 0 (stCells S) = W)
    (h : wpList Try.prog ops Q rest (a.put o.dst undef) W) : wpList Try.prog ops Q (o :: rest) a w := by
  subst hW
  exact wpList_store_mid hg _ x y ho b 0 (stCells S).toArray hx hy (by simpa [st_len, hs] using ht) (by rw [size_st]; simp [st_len, hs]) (all_oneCell_toArray (st_one S)) (by simpa using h)
theorem wpList_load_st (hg : o.guard = none) (x : Operand) (ho : o.op = .load 58 x) (b : Nat) (hx : a.eval x = .pointer (some ⟨b, 0, none⟩)) (S : List ByteArray) (hs : S.length = 18) (hr : w.rangeAt b 0 (stCells S))
    (h : wpList Try.prog ops Q rest (a.put o.dst (stOf S)) w) : wpList Try.prog ops Q (o :: rest) a w :=
  wpList_load_mid hg _ x ho b 0 hx (stCells S) _ hr Try.underlying58 rfl (by rw [size_st, st_len, hs]) h
end
theorem st_stored {w : World} {b : Nat} {S T : List ByteArray} (h : StAt w b S) (hT : T.length = 18) : StAt (w.setCells b 0 (stCells T)) b T ∧ Kept [b] w (w.setCells b 0 (stCells T)) := by
  have k : Kept [b] w (w.setCells b 0 (stCells T)) := Kept.setCells (by simp) _ _ (Kept.refl _ _)
  refine ⟨⟨hT, World.rangeAt_setCells_same _ _ _ _ (by rw [st_len, hT]; exact h.writes), World.there_setCells h.writes _ _ _, Nat.lt_of_lt_of_le h.lt k.size⟩, k⟩

/-- The state behind a list. -/
def doneOf (S : List ByteArray) (ps : List PutV) : List ByteArray := ps.foldl (fun S x => S.set (x.N - 42) (textOf x.bytes)) S
theorem doneOf_len (ps : List PutV) : ∀ S : List ByteArray, (doneOf S ps).length = S.length := by
  induction ps with
  | nil => intro S; rfl
  | cons x r ih => intro S; simp only [doneOf, List.foldl_cons] at ih ⊢; rw [ih]; simp

theorem doneOf_snoc (S : List ByteArray) (ps : List PutV) (i : Nat) (x : PutV) (hx : ps[i]? = some x) : doneOf S (ps.take (i + 1)) = (doneOf S (ps.take i)).set (x.N - 42) (textOf x.bytes) := by
  rw [List.take_add_one, hx, doneOf, List.foldl_append]
  rfl

/-- What a function hands back whose result is a state. -/
theorem results_st {fn : Func} {p : Tmp} (h : fn.results = #[.cell p 58]) (tmps : Array Value) (w : World) (g : Nat) (hp : tmps.getD p undef = .pointer (some ⟨g, 0, none⟩)) (S : List ByteArray) (hs : S.length = 18) (hr : w.rangeAt g 0 (stCells S)) :
    (results fn tmps).run Try.prog w = .ok (stOf S) w := by
  have hp' : tmps[p]?.getD undef = .pointer (some ⟨g, 0, none⟩) := by simpa using hp
  have e := run_loadVar_mid (P := Try.prog) w g 0 58 (stCells S) _ hr Try.underlying58 rfl (by rw [size_st, st_len, hs])
  simp [results, h, hp', asAddr, e]
  rfl

set_option maxRecDepth 4000 in
set_option maxHeartbeats 4000000 in
theorem done_any (w : World) (S : List ByteArray) (hS : S.length = 18) (pk cap : Nat) (ps : List PutV) (hp : PutsAt w pk ps) (hN : ∀ x ∈ ps, 42 ≤ x.N ∧ x.N < 60) (hl : ps.length ≤ 40) (ho : ∀ x ∈ ps, x.o = 0) :
    Calls Try.prog 28 #[stOf S, .slice (some ⟨pk, 0, none⟩) ps.length cap] w fun e w' => e = .returned (stOf (doneOf S ps)) ∧ Kept [] w w' := by
  obtain ⟨m, hml⟩ : ∃ m, ps.length = m := ⟨_, rfl⟩
  rw [hml] at hl ⊢
  obtain ⟨W0, hW0⟩ : ∃ W0, w.alloc (.cells (stCells S).toArray 58) = W0 := ⟨_, rfl⟩
  have s0 : StAt W0 w.heap.size S := by rw [← hW0]; exact st_new w _ hS
  have k0 : Kept [] w W0 := by rw [← hW0]; exact Kept.of_alloc _ _ _
  obtain ⟨W1, hW1⟩ : ∃ W1, W0.alloc (.cells (stCells noTexts).toArray 58) = W1 := ⟨_, rfl⟩
  have r1 : StAt W1 W0.heap.size noTexts := by rw [← hW1]; exact st_new W0 _ (by simp [noTexts])
  have k1 : Kept [] W0 W1 := by rw [← hW1]; exact Kept.of_alloc _ _ _
  have s1 := s0.kept k1 (by simp)
  have k01 := k0.trans k1
  have hne : W0.heap.size ≠ w.heap.size := by have := s0.lt; omega
  obtain ⟨sb, hsb⟩ : ∃ sb, w.heap.size = sb := ⟨_, rfl⟩
  have hsw : w.heap.size ≤ sb := by omega
  obtain ⟨rb, hrb⟩ : ∃ rb, W0.heap.size = rb := ⟨_, rfl⟩
  have hrw : w.heap.size ≤ rb := by have := k0.size; omega
  rw [hsb] at s1 hne
  rw [hrb] at r1 hne
  go_enter Try.func28, Try.ntmps28
  go_wp2_with (first
    | (refine wpList_box_st rfl _ rfl S rfl hW0 ?_)
    | (refine wpList_alloc_st rfl rfl hW1 ?_)
    | fail)
  clear hW0 hW1 s0 k0 k1 hsb hrb
  go_loopw [5] (fun t wr => ∃ q : Int, 0 ≤ q ∧ q ≤ m ∧ t = .int .i64 q ∧ StAt wr sb (doneOf S (ps.take q.toNat)) ∧ StAt wr rb noTexts ∧ Kept [] w wr) (fun t _ => m - (Go.RowKit.intOf t).toNat)
  case atStart => exact ⟨0, by omega, by omega, rfl, by simpa [doneOf] using s1, r1, k01⟩
  case round =>
    obtain ⟨q, hq0, hq1, rfl, sq, rq, kq⟩ := hrel
    clear s1 r1 k01
    by_cases hlt : q < m
    · obtain ⟨x, hx⟩ : ∃ x, ps[q.toNat]? = some x := ⟨_, List.getElem?_eq_getElem (by omega)⟩
      obtain ⟨p0, p1, p2, p3⟩ := (hp.kept kq (by simp) (by simp)).2 q.toNat x hx
      have hxN := hN x (List.mem_of_getElem? hx)
      rw [ho x (List.mem_of_getElem? hx)] at p1 p2
      obtain ⟨k, hk⟩ : ∃ k, x.N - 42 = k := ⟨_, rfl⟩
      have hk18 : k < 18 := by omega
      have hsn := doneOf_snoc S ps q.toNat x hx
      rw [hk] at hsn
      have hwr : IntKind.i64.wrap ((x.N : Int) - 42) = (k : Int) := by rw [IntKind.wrap_i64]; omega
      have hk18' : (k : Int) < 18 := by omega
      have tc := text_conv wr.drew x.b 128 x.cap x.bytes p2 p3.1
      obtain ⟨cs, fs⟩ := sq.cell k hk18
      have s2 := sq.set k hk18 (textOf x.bytes)
      rw [← hsn, show q.toNat + 1 = (q + 1).toNat by omega] at s2
      have k2 : Kept [] w (wr.setCell ⟨sb, k, none⟩ (.string (textOf x.bytes))) := kq.setCell_new (by simpa using hsw) _
      have r2 := rq.kept (T := [sb]) ((Kept.refl _ wr).setCell (p := ⟨sb, k, none⟩) (by simp) (.string (textOf x.bytes))) (by simpa using hne)
      have hpks : pk ≠ sb := by have := hp.1; omega
      generalize (doneOf S (List.take q.toNat ps)).getD k ⟨#[]⟩ = y at cs
      generalize textOf x.bytes = T at tc s2 k2 r2
      have hS0 : wr.drew.cell? ⟨pk, q.toNat * 2, none⟩ = some (.int .i64 (x.N : Int)) ∧ wr.drew.cell? ⟨pk, q.toNat * 2 + 1, none⟩ = some (.slice (some ⟨x.b, 0, none⟩) 128 x.cap) := ⟨p0, p1⟩
      have hS1 : (wr.setCell ⟨sb, k, none⟩ (.string T)).drew.cell? ⟨pk, q.toNat * 2, none⟩ = some (.int .i64 (x.N : Int)) ∧ (wr.setCell ⟨sb, k, none⟩ (.string T)).drew.cell? ⟨pk, q.toNat * 2 + 1, none⟩ = some (.slice (some ⟨x.b, 0, none⟩) 128 x.cap) := ⟨(World.cell?_of_block (w := wr) (Below.heap_setCell wr ⟨sb, k, none⟩ _ pk (by simpa using hpks))).trans p0, (World.cell?_of_block (w := wr) (Below.heap_setCell wr ⟨sb, k, none⟩ _ pk (by simpa using hpks))).trans p1⟩
      have hcs : wr.drew.cell? ⟨sb, k, none⟩ = some (.string y) := cs
      have hfs : wr.drew.frozen? ⟨sb, k, none⟩ = false := fs
      clear hsn hx hk sq rq p0 p1 p2 p3 hxN cs fs
      go_wp2_with fail
      go_region_held (fun W => W.cell? ⟨pk, q.toNat * 2, none⟩ = some (.int .i64 (x.N : Int)) ∧ W.cell? ⟨pk, q.toNat * 2 + 1, none⟩ = some (.slice (some ⟨x.b, 0, none⟩) 128 x.cap)) (first | exact hS0 | exact hS1) (fail)
      clear hS0 hS1 tc hcs hfs hwr
      go_wp2_with fail
      go_roundw
      case rel => exact ⟨q + 1, by omega, by omega, by first | rfl | go_num, s2.kept (Kept.refl [] _).drew (by simp), r2.kept (Kept.refl [] _).drew (by simp), k2.drew⟩
      case measure => simp [Go.RowKit.intOf]; omega
    · obtain rfl : q = m := by omega
      have sq' : StAt wr sb (doneOf S ps) := by
        have e : ps.take (m : Int).toNat = ps := List.take_of_length_le (by omega)
        rw [e] at sq
        exact sq
      have hl18 := sq'.len
      have hr := sq'.cells
      have ht := rq.writes
      obtain ⟨r2, k2⟩ := st_stored rq hl18
      obtain ⟨W2, hW2⟩ : ∃ W2, wr.setCells rb 0 (stCells (doneOf S ps)) = W2 := ⟨_, rfl⟩
      rw [hW2] at r2 k2
      have kf : Kept [] w W2 := (kq.mono (by simp)).trans k2 |>.fewer (by simp; omega)
      clear sq rq hp hN ho
      go_wp2_with (first
        | (refine wpList_load_st rfl _ rfl _ rfl _ hl18 hr ?_)
        | (refine wpList_store_st rfl _ _ rfl _ rfl _ rfl hl18 ht hW2 ?_)
        | fail)
      refine bodyPost_ret (v := stOf (doneOf S ps)) ?_ rfl ⟨rfl, kf⟩
      exact results_st rfl _ _ rb (by rfl) _ hl18 r2.cells

/-- .. of none. -/
theorem done_none (w : World) (S : List ByteArray) (hS : S.length = 18) :
    Calls Try.prog 28 #[stOf S, .slice none 0 0] w fun e w' => e = .returned (stOf S) ∧ Kept [] w w' := by
  obtain ⟨W0, hW0⟩ : ∃ W0, w.alloc (.cells (stCells S).toArray 58) = W0 := ⟨_, rfl⟩
  have s0 : StAt W0 w.heap.size S := by rw [← hW0]; exact st_new w _ hS
  have k0 : Kept [] w W0 := by rw [← hW0]; exact Kept.of_alloc _ _ _
  obtain ⟨W1, hW1⟩ : ∃ W1, W0.alloc (.cells (stCells noTexts).toArray 58) = W1 := ⟨_, rfl⟩
  have r1 : StAt W1 W0.heap.size noTexts := by rw [← hW1]; exact st_new W0 _ (by simp [noTexts])
  have k1 : Kept [] W0 W1 := by rw [← hW1]; exact Kept.of_alloc _ _ _
  have s1 := s0.kept k1 (by simp)
  have k01 := k0.trans k1
  obtain ⟨sb, hsb⟩ : ∃ sb, w.heap.size = sb := ⟨_, rfl⟩
  have hsw : w.heap.size ≤ sb := by omega
  obtain ⟨rb, hrb⟩ : ∃ rb, W0.heap.size = rb := ⟨_, rfl⟩
  have hrw : w.heap.size ≤ rb := by have := k0.size; omega
  rw [hsb] at s1
  rw [hrb] at r1
  go_enter Try.func28, Try.ntmps28
  go_wp2_with (first
    | (refine wpList_box_st rfl _ rfl S rfl hW0 ?_)
    | (refine wpList_alloc_st rfl rfl hW1 ?_)
    | fail)
  clear hW0 hW1 s0 k0 k1 hsb hrb
  go_loopw [5] (fun t wr => t = .int .i64 0 ∧ wr = W1) (fun _ _ => 0)
  case atStart => exact ⟨rfl, rfl⟩
  case round =>
    obtain ⟨rfl, rfl⟩ := hrel
    have hr := s1.cells
    have ht := r1.writes
    obtain ⟨r2, k2⟩ := st_stored r1 hS
    obtain ⟨W2, hW2⟩ : ∃ W2, wr.setCells rb 0 (stCells S) = W2 := ⟨_, rfl⟩
    rw [hW2] at r2 k2
    have kf : Kept [] w W2 := (k01.mono (by simp)).trans k2 |>.fewer (by simp; omega)
    go_wp2_with (first
      | (refine wpList_load_st rfl _ rfl _ rfl _ hS hr ?_)
      | (refine wpList_store_st rfl _ _ rfl _ rfl _ rfl hS ht hW2 ?_)
      | fail)
    refine bodyPost_ret (v := stOf S) ?_ rfl ⟨rfl, kf⟩
    exact results_st rfl _ _ rb (by rfl) _ hS r2.cells
end Go.Proofs.Ytgjnlocokkjejaa
