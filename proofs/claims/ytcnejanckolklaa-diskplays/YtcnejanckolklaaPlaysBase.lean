/-
  THE DOCUMENT'S OWN DISK (donjonref2) IN MEMORY: its block, its row of sectors, their bytes; and its small functions.
-/
import Derived.Test.YtcnejanckolklaaDiskSector
import Derived.Laws.AppendOwn
import Derived.Laws.OwnMore
import Derived.Deep.RegionHeld
namespace Go.Proofs.Ytcnejanckolklaa
open Go.RowKit Go.Maps
set_option linter.unusedSimpArgs false

/-- A sector that was written: its number, where its bytes lie, and what they are. -/
structure Sc where
  n : Int
  og : Nat
  oc : Nat
  lg : Nat
  lc : Nat
  on : List Int
  last : List Int
  d : Bool
abbrev bv (g c : Nat) : Value := .slice (some ⟨g, 0, none⟩) 128 c
def scCells (e : Sc) : List Value := [.int .i64 e.n, bv e.og e.oc, bv e.lg e.lc, .bool e.d]
def esCells : List Sc → List Value
  | [] => []
  | e :: r => scCells e ++ esCells r
theorem es_len : ∀ es : List Sc, (esCells es).length = es.length * 4
  | [] => rfl
  | e :: r => by simp only [esCells, scCells, List.length_append, List.length_cons, List.length_nil, es_len r]; omega
theorem es_append : ∀ a b : List Sc, esCells (a ++ b) = esCells a ++ esCells b
  | [], b => rfl
  | e :: r, b => by simp only [List.cons_append, esCells, es_append r b, List.append_assoc]
theorem es_one : ∀ (es : List Sc), ∀ v ∈ esCells es, v.oneCell' = true
  | [], v, h => by cases h
  | e :: r, v, h => by
    rcases List.mem_append.1 h with h | h
    · simp only [scCells, List.mem_cons, List.not_mem_nil, or_false] at h
      rcases h with rfl | rfl | rfl | rfl <;> rfl
    · exact es_one r v h
theorem es_get : ∀ (es : List Sc) (i : Nat) (e : Sc), es[i]? = some e → (esCells es)[i * 4]? = some (.int .i64 e.n) ∧ (esCells es)[i * 4 + 1]? = some (bv e.og e.oc) ∧ (esCells es)[i * 4 + 2]? = some (bv e.lg e.lc) ∧ (esCells es)[i * 4 + 3]? = some (.bool e.d)
  | [], i, e, h => by simp at h
  | x :: r, 0, e, h => by simp at h; subst h; exact ⟨rfl, rfl, rfl, rfl⟩
  | x :: r, i + 1, e, h => by
    have ih := es_get r i e (by simpa using h)
    have q : ∀ j, (esCells (x :: r))[(i + 1) * 4 + j]? = (esCells r)[i * 4 + j]? := fun j => by
      rw [esCells, List.getElem?_append_right (by simp [scCells]; omega)]
      congr 1
      simp [scCells]; omega
    have q0 := q 0
    simp only [Nat.add_zero] at q0
    rw [q0, q, q, q]
    exact ih
theorem es_set1 : ∀ (es : List Sc) (i : Nat) (e : Sc) (g c : Nat) (l : List Int), es[i]? = some e → esCells (es.set i { e with og := g, oc := c, on := l }) = (esCells es).set (i * 4 + 1) (bv g c)
  | [], i, e, g, c, l, h => by simp at h
  | x :: r, 0, e, g, c, l, h => by simp at h; subst h; rfl
  | x :: r, i + 1, e, g, c, l, h => by
    have ih := es_set1 r i e g c l (by simpa using h)
    rw [List.set_cons_succ, esCells, ih, esCells, show (i + 1) * 4 + 1 = i * 4 + 1 + 4 by omega]
    rfl
theorem es_set2 : ∀ (es : List Sc) (i : Nat) (e : Sc) (g c : Nat) (l : List Int), es[i]? = some e → esCells (es.set i { e with lg := g, lc := c, last := l }) = (esCells es).set (i * 4 + 2) (bv g c)
  | [], i, e, g, c, l, h => by simp at h
  | x :: r, 0, e, g, c, l, h => by simp at h; subst h; rfl
  | x :: r, i + 1, e, g, c, l, h => by
    have ih := es_set2 r i e g c l (by simpa using h)
    rw [List.set_cons_succ, esCells, ih, esCells, show (i + 1) * 4 + 2 = i * 4 + 2 + 4 by omega]
    rfl
theorem es_set3 : ∀ (es : List Sc) (i : Nat) (e : Sc) (b : Bool), es[i]? = some e → esCells (es.set i { e with d := b }) = (esCells es).set (i * 4 + 3) (.bool b)
  | [], i, e, b, h => by simp at h
  | x :: r, 0, e, b, h => by simp at h; subst h; rfl
  | x :: r, i + 1, e, b, h => by
    have ih := es_set3 r i e b (by simpa using h)
    rw [List.set_cons_succ, esCells, ih, esCells, show (i + 1) * 4 + 3 = i * 4 + 3 + 4 by omega]
    rfl

/-- Blocks that nobody else turns. F: the other disk's. -/
def Far (F : List Nat) (xb : Nat) (v : Value) (g : Nat) : Prop := g ∉ F ∧ g ≠ xb ∧ v.ownBlock ≠ some g
structure RefAt (w : World) (F : List Nat) (xb : Nat) (v : Value) (N : Nat) (es : List Sc) (done left : Int) (dead : Bool) : Prop where
  own : w.heap[xb]? = some (.cells #[.int .i64 (N : Int), v, .int .i64 done, .int .i64 left, .bool dead] 50 (0, 0))
  row : w.ownsRow 0 61 4 v es.length (esCells es)
  bytes : ∀ e ∈ es, BytesAt w e.og 128 e.on ∧ 128 ≤ e.oc ∧ BytesAt w e.lg 128 e.last ∧ 128 ≤ e.lc ∧ Far F xb v e.og ∧ Far F xb v e.lg
  xf : xb ∉ F
  vf : ∀ b, v.ownBlock = some b → b ∉ F ∧ b ≠ xb
  few : es.length ≤ 1000

section
variable {w w' : World} {F : List Nat} {xb : Nat} {v : Value} {N : Nat} {es : List Sc} {done left : Int} {dead : Bool}

theorem row_of_block {w w' : World} {e : TypeId} {size n : Nat} {v : Value} {xs : List Value} (h : w.ownsRow 0 e size v n xs) (hb : ∀ b, v.ownBlock = some b → w'.heap[b]? = w.heap[b]?) : w'.ownsRow 0 e size v n xs := by
  refine ⟨h.1, ?_⟩
  rcases h.2 with h1 | ⟨g, cap, cur, hv, hbb, hg, rest⟩
  · exact .inl h1
  · exact .inr ⟨g, cap, cur, hv, hbb, (hb g (by rw [hv]; rfl)).trans hg, rest⟩
theorem RefAt.xbl (h : RefAt w F xb v N es done left dead) : xb < w.heap.size := (Array.getElem?_eq_some_iff.1 h.own).1
theorem RefAt.kept {S : List Nat} (h : RefAt w F xb v N es done left dead) (k : Kept S w w') (hS : ∀ x ∈ S, x ∈ F) : RefAt w' F xb v N es done left dead := by
  refine ⟨(k.block xb h.xbl (fun e => h.xf (hS _ e))).trans h.own, row_of_block h.row (fun b hb => k.block b (h.row.lt b hb).2 (fun e => (h.vf b hb).1 (hS _ e))), fun e he => ?_, h.xf, h.vf, h.few⟩
  obtain ⟨b1, c1, b2, c2, f1, f2⟩ := h.bytes e he
  exact ⟨b1.kept k (fun x => f1.1 (hS _ x)), c1, b2.kept k (fun x => f2.1 (hS _ x)), c2, f1, f2⟩
theorem RefAt.c0 (h : RefAt w F xb v N es done left dead) : w.cell? ⟨xb, 0, none⟩ = some (.int .i64 (N : Int)) := by simp [World.cell?, h.own]
theorem RefAt.c1 (h : RefAt w F xb v N es done left dead) : w.cell? ⟨xb, 1, none⟩ = some v := by simp [World.cell?, h.own]
theorem RefAt.c2 (h : RefAt w F xb v N es done left dead) : w.cell? ⟨xb, 2, none⟩ = some (.int .i64 done) := by simp [World.cell?, h.own]
theorem RefAt.c3 (h : RefAt w F xb v N es done left dead) : w.cell? ⟨xb, 3, none⟩ = some (.int .i64 left) := by simp [World.cell?, h.own]
theorem RefAt.c4 (h : RefAt w F xb v N es done left dead) : w.cell? ⟨xb, 4, none⟩ = some (.bool dead) := by simp [World.cell?, h.own]
theorem RefAt.fz (h : RefAt w F xb v N es done left dead) (i : Nat) : w.frozen? ⟨xb, i, none⟩ = false := by simp [World.frozen?, h.own]

/-- One of the disk's own cells is turned. -/
theorem RefAt.turn (h : RefAt w F xb v N es done left dead) {i : Nat} {u : Value} {done' left' : Int} {dead' : Bool}
    (hc : (#[.int .i64 (N : Int), v, .int .i64 done, .int .i64 left, .bool dead] : Array Value).setIfInBounds i u = #[.int .i64 (N : Int), v, .int .i64 done', .int .i64 left', .bool dead']) :
    RefAt (w.setCell ⟨xb, i, none⟩ u) F xb v N es done' left' dead' ∧ Kept [xb] w (w.setCell ⟨xb, i, none⟩ u) := by
  have k : Kept [xb] w (w.setCell ⟨xb, i, none⟩ u) := (Kept.refl _ w).setCell (by simp) _
  refine ⟨⟨by rw [heap_setCell_at _ h.own, hc], row_of_block h.row (fun b hb => k.block b (h.row.lt b hb).2 (by simpa using (h.vf b hb).2)), fun e he => ?_, h.xf, h.vf, h.few⟩, k⟩
  obtain ⟨b1, c1, b2, c2, f1, f2⟩ := h.bytes e he
  exact ⟨b1.kept k (by simpa using f1.2.1), c1, b2.kept k (by simpa using f2.2.1), c2, f1, f2⟩
theorem RefAt.set_done (h : RefAt w F xb v N es done left dead) (x : Int) : RefAt (w.setCell ⟨xb, 2, none⟩ (.int .i64 x)) F xb v N es x left dead ∧ Kept [xb] w (w.setCell ⟨xb, 2, none⟩ (.int .i64 x)) := h.turn rfl
theorem RefAt.set_left (h : RefAt w F xb v N es done left dead) (x : Int) : RefAt (w.setCell ⟨xb, 3, none⟩ (.int .i64 x)) F xb v N es done x dead ∧ Kept [xb] w (w.setCell ⟨xb, 3, none⟩ (.int .i64 x)) := h.turn rfl
theorem RefAt.set_dead (h : RefAt w F xb v N es done left dead) (x : Bool) : RefAt (w.setCell ⟨xb, 4, none⟩ (.bool x)) F xb v N es done left x ∧ Kept [xb] w (w.setCell ⟨xb, 4, none⟩ (.bool x)) := h.turn rfl

/-- The row as a slice. -/
theorem RefAt.slice (h : RefAt w F xb v N es done left dead) {ln : Nat} (hln : es.length = ln) : ∃ a cap, v = .slice a ln cap := by
  rcases h.row.2 with ⟨rfl, hn⟩ | ⟨g, cap, cur, rfl, _⟩
  · exact ⟨none, 0, by rw [← hln, hn]⟩
  · exact ⟨_, cap, by rw [hln]⟩
/-- A sector's cells. -/
theorem RefAt.sect (h : RefAt w F xb v N es done left dead) {ln : Nat} (hln : es.length = ln) {i : Nat} {e : Sc} (hi : es[i]? = some e) :
    ∃ g cap, v = .slice (some ⟨g, 0, none⟩) ln cap ∧ w.cell? ⟨g, i * 4, none⟩ = some (.int .i64 e.n) ∧ w.cell? ⟨g, i * 4 + 1, none⟩ = some (bv e.og e.oc) ∧ w.cell? ⟨g, i * 4 + 2, none⟩ = some (bv e.lg e.lc) ∧ w.cell? ⟨g, i * 4 + 3, none⟩ = some (.bool e.d) ∧ (∀ j, w.frozen? ⟨g, j, none⟩ = false) ∧ g ≠ xb := by
  have hil := (List.getElem?_eq_some_iff.1 hi).1
  have hrow := h.row
  rcases h.row.2 with ⟨_, hn⟩ | ⟨g, cap, cur, rfl, _⟩
  · omega
  · obtain ⟨q0, q1, q2, q3⟩ := es_get es i e hi
    refine ⟨g, cap, by rw [hln], ?_, ?_, ?_, ?_, fun j => hrow.frozenAt j, (h.vf g rfl).2⟩
    · rw [hrow.cellAt _ (by omega)]; exact q0
    · rw [hrow.cellAt _ (by omega)]; exact q1
    · rw [hrow.cellAt _ (by omega)]; exact q2
    · rw [hrow.cellAt _ (by omega)]; exact q3
/-- The same, where the slice is known. -/
theorem RefAt.sect' {g cap ln : Nat} (h : RefAt w F xb (.slice (some ⟨g, 0, none⟩) ln cap) N es done left dead) {i : Nat} {e : Sc} (hi : es[i]? = some e) :
    w.cell? ⟨g, i * 4, none⟩ = some (.int .i64 e.n) ∧ w.cell? ⟨g, i * 4 + 1, none⟩ = some (bv e.og e.oc) ∧ w.cell? ⟨g, i * 4 + 2, none⟩ = some (bv e.lg e.lc) ∧ w.cell? ⟨g, i * 4 + 3, none⟩ = some (.bool e.d) ∧ (∀ j, w.frozen? ⟨g, j, none⟩ = false) ∧ g ≠ xb := by
  obtain ⟨g', cap', hv, r⟩ := h.sect rfl hi
  injection hv with e1 e2 e3
  injection e1 with e1
  injection e1 with e1
  subst e1
  exact r
/-- A cell of the row is turned. -/
theorem RefAt.stored {g cap ln : Nat} (h : RefAt w F xb (.slice (some ⟨g, 0, none⟩) ln cap) N es done left dead) (j : Nat) (u : Value) (es' : List Sc) (hl : es'.length = es.length) (hc : esCells es' = (esCells es).set j u)
    (hb : ∀ e ∈ es', BytesAt w e.og 128 e.on ∧ 128 ≤ e.oc ∧ BytesAt w e.lg 128 e.last ∧ 128 ≤ e.lc ∧ Far F xb (.slice (some ⟨g, 0, none⟩) ln cap) e.og ∧ Far F xb (.slice (some ⟨g, 0, none⟩) ln cap) e.lg) :
    RefAt (w.setCell ⟨g, j, none⟩ u) F xb (.slice (some ⟨g, 0, none⟩) ln cap) N es' done left dead ∧ Kept [g] w (w.setCell ⟨g, j, none⟩ u) := by
  have k : Kept [g] w (w.setCell ⟨g, j, none⟩ u) := (Kept.refl _ w).setCell (by simp) _
  obtain rfl : es.length = ln := by
    rcases h.row.2 with ⟨hv, _⟩ | ⟨_, _, _, hv, _⟩
    · cases hv
    · injection hv with _ e2 _; exact e2.symm
  refine ⟨⟨(k.block xb h.xbl (by simpa using (h.vf g rfl).2.symm)).trans h.own, by rw [hl, hc]; exact (h.row.stored j u).1, fun e he => ?_, h.xf, h.vf, by rw [hl]; exact h.few⟩, k⟩
  obtain ⟨b1, c1, b2, c2, f1, f2⟩ := hb e he
  have n1 : e.og ≠ g := fun x => f1.2.2 (by rw [x]; rfl)
  have n2 : e.lg ≠ g := fun x => f2.2.2 (by rw [x]; rfl)
  exact ⟨b1.kept k (by simpa using n1), c1, b2.kept k (by simpa using n2), c2, f1, f2⟩

set_option maxHeartbeats 1000000 in
theorem goes_stops (h : RefAt w F xb v N es done left dead) (hl : left = 1) :
    Calls Try.prog 23 #[.pointer (some ⟨xb, 0, none⟩)] w fun e w' => e = .returned (.bool false) ∧ RefAt w' F xb v N es done 0 true ∧ Kept [xb] w w' := by
  subst hl
  have c3 := h.c3
  have f3 := h.fz 3
  have f4 := h.fz 4
  obtain ⟨r1, k1⟩ := h.set_left 0
  obtain ⟨r2, k2⟩ := r1.set_dead true
  have c4 := h.c4
  go_enter Try.func23, Try.ntmps23
  go_wp2
  go_ret
  exact ⟨rfl, r2, k1.trans k2⟩
set_option maxHeartbeats 1000000 in
theorem goes_counts (h : RefAt w F xb v N es done left dead) (hl : 1 < left) (ho : 0 ≤ done) (ho2 : done < 1000000) (hb : left < 9223372036854775808) :
    Calls Try.prog 23 #[.pointer (some ⟨xb, 0, none⟩)] w fun e w' => e = .returned (.bool true) ∧ RefAt w' F xb v N es (done + 1) (left - 1) dead ∧ Kept [xb] w w' := by
  have c3 := h.c3
  have c2 := h.c2
  have f3 := h.fz 3
  have f2 := h.fz 2
  obtain ⟨r1, k1⟩ := h.set_left (left - 1)
  obtain ⟨r2, k2⟩ := r1.set_done (done + 1)
  have e1 : 0 < left := by omega
  have e2 : (left - 1 == 0) = false := by simp; omega
  have e3 : ¬ left - 1 = 0 := by omega
  go_enter Try.func23, Try.ntmps23
  go_wp2
  go_ret
  exact ⟨rfl, r2, k1.trans k2⟩
set_option maxHeartbeats 1000000 in
theorem goes_goes (h : RefAt w F xb v N es done left dead) (hl : left < 1) (ho : 0 ≤ done) (ho2 : done < 1000000) :
    Calls Try.prog 23 #[.pointer (some ⟨xb, 0, none⟩)] w fun e w' => e = .returned (.bool true) ∧ RefAt w' F xb v N es (done + 1) left dead ∧ Kept [xb] w w' := by
  have c3 := h.c3
  have c2 := h.c2
  have f2 := h.fz 2
  obtain ⟨r2, k2⟩ := h.set_done (done + 1)
  have e1 : ¬ 0 < left := by omega
  go_enter Try.func23, Try.ntmps23
  go_wp2
  go_ret
  exact ⟨rfl, r2, k2⟩
theorem goes_any (h : RefAt w F xb v N es done left dead) (hl : left ≠ 1) (ho : 0 ≤ done) (ho2 : done < 1000000) (hb : left < 9223372036854775808) :
    Calls Try.prog 23 #[.pointer (some ⟨xb, 0, none⟩)] w fun e w' => e = .returned (.bool true) ∧ RefAt w' F xb v N es (done + 1) (if 1 < left then left - 1 else left) dead ∧ Kept [xb] w w' := by
  by_cases hg : 1 < left
  · rw [if_pos hg]; exact goes_counts h hg ho ho2 hb
  · rw [if_neg hg]; exact goes_goes h (by omega) ho ho2

set_option maxHeartbeats 1000000 in
theorem rstop_any (h : RefAt w F xb v N es done left dead) (k : Int) :
    Calls Try.prog 16 #[.pointer (some ⟨xb, 0, none⟩), .int .i64 k] w fun e w' => e = .returned (.tuple #[]) ∧ RefAt w' F xb v N es done (max k 0) dead ∧ Kept [xb] w w' := by
  have c3 := h.c3
  have f3 := h.fz 3
  obtain ⟨r1, k1⟩ := h.set_left (max k 0)
  by_cases h0 : k < 0
  · have e1 : max k 0 = 0 := by omega
    rw [e1] at r1 k1 ⊢
    go_enter Try.func16, Try.ntmps16
    go_wp2
    go_end0
    exact ⟨rfl, r1, k1⟩
  · have e1 : max k 0 = k := by omega
    rw [e1] at r1 k1 ⊢
    go_enter Try.func16, Try.ntmps16
    go_wp2
    go_end0
    exact ⟨rfl, r1, k1⟩
end
end Go.Proofs.Ytcnejanckolklaa
