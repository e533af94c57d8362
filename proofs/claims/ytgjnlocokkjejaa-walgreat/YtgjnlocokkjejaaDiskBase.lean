/-
  PACKAGE disk IN MEMORY: what a disk's three blocks hold, and the contracts of its small functions.
-/
import Derived.Test.YtgjnlocokkjejaaProg
import Derived.WalkKit
import Derived.WalkLawsBesides
import Derived.Deep.Draws
import Derived.Deep.MidRow
import Derived.Maps.OwnSet
import Derived.Maps.RangeWalk
import Derived.KernelRfl
import Derived.ProofKit
namespace Go.Proofs.Ytgjnlocokkjejaa
open Go.RowKit

/-- A sector's bytes. -/
def Sec (l : List Int) : Prop := l.length = 128 ∧ ∀ x ∈ l, 0 ≤ x ∧ x < 256
/-- Bytes as cells. -/
def cellsOf (l : List Int) : List Value := l.map (Value.int .u8)
def secOf (l : List Int) : Value := .agg (cellsOf l).toArray
def byteOf : Value → Int | .int .u8 a => a | _ => -1
def isByte : Value → Bool | .int .u8 a => decide (0 ≤ a) && decide (a < 256) | _ => false
/-- How an element of the buffer reads. -/
def secR : Value → Option (DataW (List Int) × List MemPlace)
  | .agg cs => if (cs.toList.length == 128 && cs.toList.all isByte) = true then some (.held (cs.toList.map byteOf), []) else none
  | _ => none

theorem byteOf_cells (l : List Int) : (cellsOf l).map byteOf = l := by
  induction l with
  | nil => rfl
  | cons a r ih => simp only [cellsOf, List.map_cons, byteOf] at ih ⊢; rw [ih]

theorem cells_of_bytes : ∀ (l : List Value), l.all isByte = true → cellsOf (l.map byteOf) = l ∧ ∀ x ∈ l.map byteOf, 0 ≤ x ∧ x < 256
  | [], _ => ⟨rfl, by simp⟩
  | v :: r, h => by
    simp only [List.all_cons, Bool.and_eq_true] at h
    obtain ⟨h1, h2⟩ := h
    obtain ⟨e1, e2⟩ := cells_of_bytes r h2
    unfold isByte at h1
    split at h1
    · rename_i a
      simp at h1
      refine ⟨?_, ?_⟩
      · simp only [List.map_cons, cellsOf, byteOf] at e1 ⊢
        rw [e1]
      · intro x hx
        simp only [List.map_cons, List.mem_cons, byteOf] at hx
        rcases hx with rfl | hx
        · exact h1
        · exact e2 x hx
    · cases h1

theorem secR_mk {l : List Int} (h : Sec l) : secR (secOf l) = some (.held l, []) := by
  have h2 : ((cellsOf l).length == 128 && (cellsOf l).all isByte) = true := by
    simp only [Bool.and_eq_true, beq_iff_eq, List.all_eq_true]
    refine ⟨by simpa [cellsOf] using h.1, fun v hv => ?_⟩
    obtain ⟨a, ha, rfl⟩ := List.mem_map.1 hv
    simpa [isByte] using h.2 a ha
  simp only [secR, secOf]
  rw [if_pos h2, byteOf_cells]

theorem secR_inv {v : Value} {z : DataW (List Int) × List MemPlace} (h : secR v = some z) : ∃ l, v = secOf l ∧ z = (.held l, []) ∧ Sec l := by
  unfold secR at h
  split at h
  · rename_i cs
    split at h
    · rename_i hc
      simp only [Bool.and_eq_true, beq_iff_eq] at hc
      obtain ⟨e1, e2⟩ := cells_of_bytes cs.toList hc.2
      refine ⟨cs.toList.map byteOf, ?_, (by simpa using h.symm), by simpa using hc.1, e2⟩
      unfold secOf
      rw [e1]
    · cases h
  · cases h

theorem cells_one (l : List Int) : ∀ v ∈ cellsOf l, v.oneCell' = true := by
  intro v hv
  obtain ⟨a, _, rfl⟩ := List.mem_map.1 hv
  rfl
theorem cells_len (l : List Int) : (cellsOf l).length = l.length := by simp [cellsOf]

/-- What lies on the platter. -/
def Plat (w : World) (pb n : Nat) (pl : Nat → List Int) : Prop :=
  ∀ k, k < n → Sec (pl k) ∧ w.rangeAt pb (k * 128) (cellsOf (pl k)) ∧ w.there pb (k * 128) 128

/-- A disk: its own block, the platter's, the buffer's. -/
structure DiskAt (w : World) (db pb mb n nn : Nat) (pl : Nat → List Int) (D : DataW (List Int)) (ops left : Int) (dead : Bool) : Prop where
  own : w.heap[db]? = some (.cells #[.slice (some ⟨pb, 0, none⟩) n n, .map (some mb), .int .i64 ops, .int .i64 left, .bool dead] 75 (0, 0))
  plat : Plat w pb n pl
  pbl : pb < w.heap.size
  buf : w.ownsMap Try.prog 3 secR mb nn D
  keys : ∀ k, Maps.has D (.int .i64 k) = true → 0 ≤ k ∧ k < n
  dp : db ≠ pb
  pm : pb ≠ mb
  nlo : 1 ≤ n
  nhi : n ≤ 4096

/-- w' is w but for the blocks of S and for new ones. -/
structure Kept (S : List Nat) (w w' : World) : Prop where
  os : w'.os = w.os
  tape : w'.tape = w.tape
  output : w'.output = w.output
  size : w.heap.size ≤ w'.heap.size
  block : ∀ k, k < w.heap.size → k ∉ S → w'.heap[k]? = w.heap[k]?

theorem Kept.refl (S : List Nat) (w : World) : Kept S w w := ⟨rfl, rfl, rfl, Nat.le_refl _, fun _ _ _ => rfl⟩
theorem Kept.trans {S : List Nat} {a b c : World} (h : Kept S a b) (k : Kept S b c) : Kept S a c :=
  ⟨k.os.trans h.os, k.tape.trans h.tape, k.output.trans h.output, Nat.le_trans h.size k.size, fun i hi hs => (k.block i (Nat.lt_of_lt_of_le hi h.size) hs).trans (h.block i hi hs)⟩
theorem Kept.mono {S T : List Nat} {a b : World} (h : Kept S a b) (hs : ∀ x ∈ S, x ∈ T) : Kept T a b :=
  ⟨h.os, h.tape, h.output, h.size, fun i hi ht => h.block i hi (fun e => ht (hs i e))⟩
theorem Kept.drew {S : List Nat} {a w : World} (h : Kept S a w) : Kept S a w.drew := ⟨h.os, h.tape, h.output, h.size, h.block⟩
theorem Kept.of_alloc (S : List Nat) (w : World) (o : Obj) : Kept S w (w.alloc o) := ⟨rfl, rfl, rfl, by simp, fun k hk _ => Below.heap_alloc _ _ _ hk⟩
theorem Kept.alloc {S : List Nat} {a w : World} (h : Kept S a w) (o : Obj) : Kept S a (w.alloc o) := h.trans (Kept.of_alloc S w o)
theorem Kept.setCell {S : List Nat} {a w : World} (h : Kept S a w) {p : Addr} (hp : p.block ∈ S) (u : Value) : Kept S a (w.setCell p u) :=
  h.trans ⟨rfl, rfl, rfl, by simp [World.setCell], fun k _ hs => Below.heap_setCell _ _ _ _ (fun e => hs (e ▸ hp))⟩
theorem Kept.setCells {S : List Nat} {a : World} {b : Nat} (hp : b ∈ S) : ∀ (vs : List Value) (o : Nat) {w : World} (_ : Kept S a w), Kept S a (w.setCells b o vs)
  | [], _, _, h => h
  | v :: r, o, _, h => Kept.setCells hp r (o + 1) (h.setCell (p := ⟨b, o, none⟩) hp v)
/-- A store into a block that is new since a. -/
theorem Kept.setCell_new {S : List Nat} {a w : World} (h : Kept S a w) {p : Addr} (hp : a.heap.size ≤ p.block) (u : Value) : Kept S a (w.setCell p u) :=
  ⟨h.os, h.tape, h.output, by simpa [World.setCell] using h.size, fun k hk hs => by rw [Below.heap_setCell _ _ _ _ (by omega)]; exact h.block k hk hs⟩
theorem Kept.setCells_new {S : List Nat} {a : World} {b : Nat} (hp : a.heap.size ≤ b) : ∀ (vs : List Value) (o : Nat) {w : World} (_ : Kept S a w), Kept S a (w.setCells b o vs)
  | [], _, _, h => h
  | v :: r, o, _, h => Kept.setCells_new hp r (o + 1) (h.setCell_new (p := ⟨b, o, none⟩) hp v)
theorem Kept.grown {S : List Nat} {a w w' : World} {row : Option Nat} (h : Kept S a w) (hg : w.grownBy w' row) (hr : ∀ k, row = some k → k ∈ S ∨ a.heap.size ≤ k) : Kept S a w' :=
  ⟨hg.os.trans h.os, hg.tape.trans h.tape, hg.output.trans h.output, Nat.le_trans h.size hg.size, fun k hk hs =>
    (hg.block k (Nat.lt_of_lt_of_le hk h.size) (fun e => (hr k e.symm).elim (fun x => hs x) (fun x => by omega))).trans (h.block k hk hs)⟩
theorem Kept.below {S : List Nat} {a w w' : World} (h : Kept S a w) (hb : Below w.heap.size w w') : Kept S a w' :=
  h.trans ⟨hb.os, hb.tape, hb.output, hb.size, fun k hk _ => hb.block k hk⟩
/-- What lies below B and is no block of S is as it was. -/
theorem Kept.to_below {S : List Nat} {a w : World} {B : Nat} (h : Kept S a w) (hB : B ≤ a.heap.size) (hS : ∀ x ∈ S, B ≤ x) : Below B a w :=
  ⟨h.os, h.tape, h.output, h.size, fun k hk => h.block k (by omega) (fun e => by have := hS k e; omega)⟩

theorem rangeAt_of_block {w w' : World} {b o : Nat} {cs : List Value} (h : w'.heap[b]? = w.heap[b]?) (hc : w.rangeAt b o cs) : w'.rangeAt b o cs :=
  fun j v hv => (World.cell?_of_block (w := w) (w' := w') (a := ⟨b, o + j, none⟩) h).trans (hc j v hv)
theorem there_of_block {w w' : World} {b o n : Nat} (h : w'.heap[b]? = w.heap[b]?) (hc : w.there b o n) : w'.there b o n :=
  fun j hj => by
    have e1 := World.cell?_of_block (w := w) (w' := w') (a := ⟨b, o + j, none⟩) h
    have e2 := World.frozen?_of_block (w := w) (w' := w') (a := ⟨b, o + j, none⟩) h
    rw [e1, e2]
    exact hc j hj
theorem Plat.of_block {w w' : World} {pb n : Nat} {pl : Nat → List Int} (h : w'.heap[pb]? = w.heap[pb]?) (hp : Plat w pb n pl) : Plat w' pb n pl :=
  fun k hk => ⟨(hp k hk).1, rangeAt_of_block h (hp k hk).2.1, there_of_block h (hp k hk).2.2⟩
theorem ownsMap_of_block {w w' : World} {mb nn : Nat} {D : DataW (List Int)} (h : w'.heap[mb]? = w.heap[mb]?) (hm : w.ownsMap Try.prog 3 secR mb nn D) : w'.ownsMap Try.prog 3 secR mb nn D := by
  obtain ⟨es, clock, hb, r⟩ := hm
  exact ⟨es, clock, h.trans hb, r⟩

section
variable {w w' : World} {db pb mb n nn : Nat} {pl : Nat → List Int} {D : DataW (List Int)} {ops left : Int} {dead : Bool}

theorem DiskAt.dbl (h : DiskAt w db pb mb n nn pl D ops left dead) : db < w.heap.size := (Array.getElem?_eq_some_iff.1 h.own).1
theorem DiskAt.mbl (h : DiskAt w db pb mb n nn pl D ops left dead) : mb < w.heap.size := h.buf.lt
theorem DiskAt.dm (h : DiskAt w db pb mb n nn pl D ops left dead) : db ≠ mb := by
  intro e
  obtain ⟨es, clock, hb, _⟩ := h.buf
  have := h.own
  rw [e, hb] at this
  cases this
/-- A disk stays what it is while others' blocks are written. -/
theorem DiskAt.kept {S : List Nat} (h : DiskAt w db pb mb n nn pl D ops left dead) (k : Kept S w w') (h1 : db ∉ S) (h2 : pb ∉ S) (h3 : mb ∉ S) : DiskAt w' db pb mb n nn pl D ops left dead :=
  ⟨(k.block db h.dbl h1).trans h.own, h.plat.of_block (k.block pb h.pbl h2), Nat.lt_of_lt_of_le h.pbl k.size, ownsMap_of_block (k.block mb h.mbl h3) h.buf, h.keys, h.dp, h.pm, h.nlo, h.nhi⟩
theorem DiskAt.alloc (h : DiskAt w db pb mb n nn pl D ops left dead) (o : Obj) : DiskAt (w.alloc o) db pb mb n nn pl D ops left dead :=
  h.kept (Kept.of_alloc [] w o) (by simp) (by simp) (by simp)
theorem DiskAt.drew (h : DiskAt w db pb mb n nn pl D ops left dead) : DiskAt w.drew db pb mb n nn pl D ops left dead :=
  ⟨h.own, h.plat, h.pbl, h.buf, h.keys, h.dp, h.pm, h.nlo, h.nhi⟩
theorem DiskAt.mono {m : Nat} (h : DiskAt w db pb mb n nn pl D ops left dead) (hm : nn ≤ m) : DiskAt w db pb mb n m pl D ops left dead :=
  ⟨h.own, h.plat, h.pbl, h.buf.mono hm, h.keys, h.dp, h.pm, h.nlo, h.nhi⟩

/-- The buffer has turned. -/
theorem DiskAt.turn {nn' : Nat} {D' : DataW (List Int)} (h : DiskAt w db pb mb n nn pl D ops left dead) (k : Kept [mb] w w') (hm : w'.ownsMap Try.prog 3 secR mb nn' D') (hk : ∀ k, Maps.has D' (.int .i64 k) = true → 0 ≤ k ∧ k < n) : DiskAt w' db pb mb n nn' pl D' ops left dead :=
  ⟨(k.block db h.dbl (by simpa using h.dm)).trans h.own, h.plat.of_block (k.block pb h.pbl (by simpa using h.pm)), Nat.lt_of_lt_of_le h.pbl k.size, hm, hk, h.dp, h.pm, h.nlo, h.nhi⟩
theorem DiskAt.put_keys (h : DiskAt w db pb mb n nn pl D ops left dead) {k : Int} (h0 : 0 ≤ k) (h1 : k < n) (d : DataW (List Int)) : ∀ j, Maps.has (D.put (.int .i64 k) d) (.int .i64 j) = true → 0 ≤ j ∧ j < n := by
  intro j hj
  by_cases e : j = k
  · subst e; exact ⟨h0, h1⟩
  · rw [Maps.has_put_other (by simpa using e)] at hj
    exact h.keys j hj

theorem DiskAt.c0 (h : DiskAt w db pb mb n nn pl D ops left dead) : w.cell? ⟨db, 0, none⟩ = some (.slice (some ⟨pb, 0, none⟩) n n) := by simp [World.cell?, h.own]
theorem DiskAt.c1 (h : DiskAt w db pb mb n nn pl D ops left dead) : w.cell? ⟨db, 1, none⟩ = some (.map (some mb)) := by simp [World.cell?, h.own]
theorem DiskAt.c2 (h : DiskAt w db pb mb n nn pl D ops left dead) : w.cell? ⟨db, 2, none⟩ = some (.int .i64 ops) := by simp [World.cell?, h.own]
theorem DiskAt.c3 (h : DiskAt w db pb mb n nn pl D ops left dead) : w.cell? ⟨db, 3, none⟩ = some (.int .i64 left) := by simp [World.cell?, h.own]
theorem DiskAt.c4 (h : DiskAt w db pb mb n nn pl D ops left dead) : w.cell? ⟨db, 4, none⟩ = some (.bool dead) := by simp [World.cell?, h.own]
theorem DiskAt.fz (h : DiskAt w db pb mb n nn pl D ops left dead) (i : Nat) : w.frozen? ⟨db, i, none⟩ = false := by simp [World.frozen?, h.own]

theorem heap_setCell_at {w : World} {b o : Nat} {c : Array Value} {t : TypeId} {fr : Nat × Nat} (v : Value) (h : w.heap[b]? = some (.cells c t fr)) : (w.setCell ⟨b, o, none⟩ v).heap[b]? = some (.cells (c.setIfInBounds o v) t fr) := by
  have hb := (Array.getElem?_eq_some_iff.1 h).1
  have he := (Array.getElem?_eq_some_iff.1 h).2
  simp only [World.setCell, Array.getElem?_modify]
  simp [hb, he]

theorem DiskAt.set_dead (h : DiskAt w db pb mb n nn pl D ops left dead) (x : Bool) : DiskAt (w.setCell ⟨db, 4, none⟩ (.bool x)) db pb mb n nn pl D ops left x := by
  have k : Kept [db] w (w.setCell ⟨db, 4, none⟩ (.bool x)) := (Kept.refl _ w).setCell (by simp) _
  exact ⟨by rw [heap_setCell_at _ h.own]; rfl, h.plat.of_block (k.block pb h.pbl (by simpa using h.dp.symm)), Nat.lt_of_lt_of_le h.pbl k.size, ownsMap_of_block (k.block mb h.mbl (by simpa using h.dm.symm)) h.buf, h.keys, h.dp, h.pm, h.nlo, h.nhi⟩
theorem DiskAt.set_left (h : DiskAt w db pb mb n nn pl D ops left dead) (x : Int) : DiskAt (w.setCell ⟨db, 3, none⟩ (.int .i64 x)) db pb mb n nn pl D ops x dead := by
  have k : Kept [db] w (w.setCell ⟨db, 3, none⟩ (.int .i64 x)) := (Kept.refl _ w).setCell (by simp) _
  exact ⟨by rw [heap_setCell_at _ h.own]; rfl, h.plat.of_block (k.block pb h.pbl (by simpa using h.dp.symm)), Nat.lt_of_lt_of_le h.pbl k.size, ownsMap_of_block (k.block mb h.mbl (by simpa using h.dm.symm)) h.buf, h.keys, h.dp, h.pm, h.nlo, h.nhi⟩
theorem DiskAt.set_ops (h : DiskAt w db pb mb n nn pl D ops left dead) (x : Int) : DiskAt (w.setCell ⟨db, 2, none⟩ (.int .i64 x)) db pb mb n nn pl D x left dead := by
  have k : Kept [db] w (w.setCell ⟨db, 2, none⟩ (.int .i64 x)) := (Kept.refl _ w).setCell (by simp) _
  exact ⟨by rw [heap_setCell_at _ h.own]; rfl, h.plat.of_block (k.block pb h.pbl (by simpa using h.dp.symm)), Nat.lt_of_lt_of_le h.pbl k.size, ownsMap_of_block (k.block mb h.mbl (by simpa using h.dm.symm)) h.buf, h.keys, h.dp, h.pm, h.nlo, h.nhi⟩
end
end Go.Proofs.Ytgjnlocokkjejaa
