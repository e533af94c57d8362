/-
  THE CONTRACT OF (*Disk).Write.
-/
import Derived.Test.YtgjnlocokkjejaaDiskNew
import Derived.Deep.WholeRow
import Derived.Deep.RegionHeld3
namespace Go.Proofs.Ytgjnlocokkjejaa
open Go.RowKit Go.Maps

theorem int_key : Keyed Try.prog 3 := int_keyed Try.underlying3
theorem cells_secOf (l : List Int) : (secOf l).cells = rowOf l := rfl
theorem secOf_row (l : List Int) : Value.agg (rowOf l) = secOf l := rfl

theorem sec_slice (g : Nat) (w : World) : (Instr.sliceAt 78 (.pointer (some ⟨g, 0, none⟩)) none none none).run Try.prog w = .ok (.slice (some ⟨g, 0, none⟩) 128 128) w := by
  simp [Instr.sliceAt, run_underlying Try.underlying78, Instr.sureAddr, Instr.sliceBounds, Addr.add_mid]

section
variable {ops : Array Oper} {rest : List Oper} {o : Oper} {a : Act} {w : World} {Q : Exit → Act → World → Prop}

/-- An operation that yields a value. -/
theorem wpList_value {P : Program} (hg : o.guard = none) {v : Value} {w' : World} (hx : (execOp a.eval o).run P w = .ok (.value v) w') (h : wpList P ops Q rest (a.put o.dst v) w') : wpList P ops Q (o :: rest) a w :=
  wpList_plain hg fun _ hK => by
    unfold Oper.wp
    rw [hx]
    exact hK _ _ h
theorem wpList_skip {P : Program} (hg : o.guard = none) {w' : World} (hx : (execOp a.eval o).run P w = .ok .skip w') (h : wpList P ops Q rest (a.put o.dst undef) w') : wpList P ops Q (o :: rest) a w :=
  wpList_plain hg fun _ hK => by
    unfold Oper.wp
    rw [hx]
    exact hK _ _ h

/-- A new sector. -/
theorem wpList_alloc_sec (hg : o.guard = none) (ho : o.op = .alloc 78)
    (h : wpList Try.prog ops Q rest (a.put o.dst (.pointer (some ⟨w.heap.size, 0, none⟩))) (w.alloc (.cells (rowOf zeros) 78))) : wpList Try.prog ops Q (o :: rest) a w := by
  refine wpList_value hg ?_ h
  unfold execOp
  simp only [ho, Instr.alloc, Sem.run_bind, zero_sec, Result.andThen_ok, newVar, cells_secOf, newRow]
  rfl
/-- s[:] of a sector. -/
theorem wpList_slice_sec (hg : o.guard = none) (x : Operand) (ho : o.op = .slice 78 x none none none) (g : Nat) (hx : a.eval x = .pointer (some ⟨g, 0, none⟩))
    (h : wpList Try.prog ops Q rest (a.put o.dst (.slice (some ⟨g, 0, none⟩) 128 128)) w) : wpList Try.prog ops Q (o :: rest) a w := by
  refine wpList_value hg ?_ h
  have e := sec_slice g w
  unfold execOp
  simp only [ho, hx, Option.map_none, Sem.run_bind, e, Result.andThen_ok]
  rfl
/-- copy. -/
theorem wpList_copy (hg : o.guard = none) (x y : Operand) (ho : o.op = .call { callee := .builtin .copy, args := #[x, y], argTypes := #[31, 31] }) (hty : o.type = 3) {u v r : Value} {w' : World} (hx : a.eval x = u) (hy : a.eval y = v)
    (hc : (Builtin.copy_ #[31, 31] 3 #[u, v]).run Try.prog w = .ok r w')
    (h : wpList Try.prog ops Q rest (a.put o.dst r) w') : wpList Try.prog ops Q (o :: rest) a w := by
  refine wpList_value hg ?_ h
  unfold execOp
  simp [ho, hty, resolve, invoke, builtin, hx, hy, hc, Result.andThen]
end

/-- copy into a block that is new. -/
theorem copy_new (w : World) (t : TypeId) (l0 l : List Int) (h0 : l0.length = 128) (hl : l.length = 128) (bb bo c1 c2 : Nat) (hr : w.rangeAt bb bo (cellsOf l)) :
    (Builtin.copy_ #[31, 31] 3 #[.slice (some ⟨w.heap.size, 0, none⟩) 128 c1, .slice (some ⟨bb, bo, none⟩) 128 c2]).run Try.prog (w.alloc (.cells (rowOf l0) t)) = .ok (.int .i64 128) (w.alloc (.cells (rowOf l) t)) := by
  have h := run_copy_row Try.prog (w.alloc (.cells (rowOf l0) t)) 31 31 3 5 w.heap.size 0 128 c1 ⟨bb, bo, none⟩ 128 c2 (rowOf l0) t (cellsOf l)
    Try.underlying31 (by kernel_rfl) (heap_alloc_new w _) (by rw [cells_len, hl]; rfl) (fun j v hv => by
      rw [Addr.add_mid]
      exact World.rangeAt_alloc hr _ j v hv) (by simp [rowOf, cells_len, h0, hl]) (cells_one l)
  rw [World.setRow_alloc_new] at h
  rw [h]
  have e : ((rowOf l0).toList.take 0 ++ cellsOf l ++ (rowOf l0).toList.drop (0 + (cellsOf l).length)).toArray = rowOf l := by
    simp [rowOf, cells_len, hl, h0]
  rw [e, cells_len, hl]
  rfl

theorem load_new (w : World) (l : List Int) (hl : l.length = 128) : (Instr.loadAt 78 (.pointer (some ⟨w.heap.size, 0, none⟩))).run Try.prog (w.alloc (.cells (rowOf l) 78)) = .ok (secOf l) (w.alloc (.cells (rowOf l) 78)) :=
  run_loadAt_new w 78 (rowOf l) 128 5 Try.underlying78 (by rw [size_sec]; simp [rowOf, cells_len, hl])

theorem range_new (w : World) (l : List Int) (t : TypeId) : (w.alloc (.cells (rowOf l) t)).rangeAt w.heap.size 0 (cellsOf l) := fun j v hv => by
  rw [cell_of_row _ _ _ (rowOf l) t (0, 0) (heap_alloc_new w _)]
  simpa [rowOf] using hv
theorem range_lt {w : World} {b o : Nat} {l : List Int} (h : w.rangeAt b o (cellsOf l)) (hl : 0 < l.length) : b < w.heap.size := by
  have := h 0 (.int .u8 l[0]) (by simp [cellsOf, List.getElem?_eq_getElem hl])
  exact World.block_lt_of_cell? w _ this

section
variable {w : World} {db pb mb n nn : Nat} {pl : Nat → List Int} {D : DataW (List Int)} {ops left : Int} {dead : Bool}

set_option maxHeartbeats 400000 in
/-- A disk that has stopped. -/
theorem write_dead (h : DiskAt w db pb mb n nn pl D ops left true) (k : Int) (b : Value) :
    Calls Try.prog 12 #[.pointer (some ⟨db, 0, none⟩), .int .i64 k, b] w fun e w' => e = .returned (.int .i64 12) ∧ w' = w := by
  have c4 := h.c4
  go_enter Try.func12, Try.ntmps12
  go_wp2
  go_ret
  exact ⟨rfl, rfl⟩

set_option maxHeartbeats 400000 in
/-- No such sector, or bytes that are none. -/
theorem write_refuses (h : DiskAt w db pb mb n nn pl D ops left false) (k : Int) (a : Option Addr) (len cap : Nat) (hno : (decide (0 ≤ k) && decide (k < n)) = false ∨ len ≠ 128) :
    Calls Try.prog 12 #[.pointer (some ⟨db, 0, none⟩), .int .i64 k, .slice a len cap] w fun e w' => e = .returned (.int .i64 1) ∧ w' = w := by
  have c4 := h.c4
  have ch := has_any h k
  cases hb : (decide (0 ≤ k) && decide (k < n)) with
  | false =>
    rw [hb] at ch
    go_enter Try.func12, Try.ntmps12
    go_wp2_with (go_at_call 34; refine ch.mono ?_; rintro e w' ⟨rfl, rfl⟩)
    go_ret
    exact ⟨rfl, rfl⟩
  | true =>
    rw [hb] at ch hno
    have hl : ¬ ((len : Int) = 128) := by
      rcases hno with hno | hno
      · cases hno
      · omega
    go_enter Try.func12, Try.ntmps12
    go_wp2_with (go_at_call 34; refine ch.mono ?_; rintro e w' ⟨rfl, rfl⟩)
    go_ret
    exact ⟨rfl, rfl⟩

set_option maxHeartbeats 400000 in
/-- At the stop. -/
theorem write_stops (h : DiskAt w db pb mb n nn pl D ops left false) (k : Int) (a : Option Addr) (cap : Nat) (hk : 0 ≤ k) (hk2 : k < n) (hl : left = 1) :
    Calls Try.prog 12 #[.pointer (some ⟨db, 0, none⟩), .int .i64 k, .slice a 128 cap] w fun e w' => e = .returned (.int .i64 12) ∧ DiskAt w' db pb mb n nn pl D ops 0 true ∧ Kept [db] w w' := by
  have c4 := h.c4
  have ch := has_any h k
  have hb : (decide (0 ≤ k) && decide (k < n)) = true := by simp [hk, hk2]
  rw [hb] at ch
  have cb := begin_stops h hl
  clear hk hk2 hl hb
  go_enter Try.func12, Try.ntmps12
  go_wp2_with (first
    | (go_at_call 34; refine ch.mono ?_; rintro e w' ⟨rfl, rfl⟩)
    | (go_at_call 35; refine cb.mono ?_; rintro e w' ⟨rfl, hD, hK⟩))
  go_ret
  exact ⟨rfl, hD, hK⟩

set_option maxRecDepth 4000 in
set_option maxHeartbeats 400000 in
/-- The begun operation, from behind 'begin' on, in whatever world. -/
theorem write_lays (h : DiskAt w db pb mb n nn pl D ops left false) (k : Int) (l : List Int) (hsl : Sec l) (bb bo cap : Nat) (hr : w.rangeAt bb bo (cellsOf l)) (hbb : bb ≠ db) (hk : 0 ≤ k) (hkn : k < n) (hnn : nn < 1000000)
    (ops' left' : Int)
    (cb : Calls Try.prog 35 #[.pointer (some ⟨db, 0, none⟩)] w fun e w' => e = .returned (.bool true) ∧ DiskAt w' db pb mb n nn pl D ops' left' false ∧ Kept [db] w w') :
    Calls Try.prog 12 #[.pointer (some ⟨db, 0, none⟩), .int .i64 k, .slice (some ⟨bb, bo, none⟩) 128 cap] w fun e w' => e = .returned (.int .i64 0) ∧
      DiskAt w' db pb mb n (nn + 1) pl (D.put (.int .i64 k) (.held l)) ops' left' false ∧ Kept [db, mb] w w' := by
  have c4 := h.c4
  have ch := has_any h k
  have hb : (decide (0 ≤ k) && decide (k < n)) = true := by simp [hk, hkn]
  rw [hb] at ch
  go_enter Try.func12, Try.ntmps12
  go_wp2_with fail
  refine ch.mono ?_
  rintro e w' ⟨rfl, rfl⟩
  go_wp2_with fail
  refine cb.mono ?_
  rintro e w1 ⟨rfl, hD, hK⟩
  have hbl : bb < w'.heap.size := range_lt hr (by rw [hsl.1]; decide)
  have hr1 : w1.rangeAt bb bo (cellsOf l) := rangeAt_of_block (hK.block bb hbl (by simpa using hbb)) hr
  have hcp := copy_new w1 78 zeros l zeros_sec.1 hsl.1 bb bo 128 cap hr1
  have hld := load_new w1 l hsl.1
  have c1 := (hD.alloc (.cells (rowOf l) 78)).c1
  have hm := (hD.buf.alloc (.cells (rowOf l) 78)).drew
  have hrg : (w1.alloc (.cells (rowOf l) 78)).rangeAt w1.heap.size 0 (cellsOf l) := range_new w1 l 78
  obtain ⟨w2, hst, hm2, htn⟩ := hm.store int_key Try.underlying73 (by unfold maxLen; omega) (keyOf_int_mk (a := k) Try.underlying3 (WalkArith.wf_i64 (by have := hD.nhi; omega))) (secR_mk hsl)
  have hk2 : Kept [mb] (w1.alloc (.cells (rowOf l) 78)) w2 := (Kept.refl _ _).drew.grown htn.grown (fun k hk => Or.inl (by cases hk; simp))
  have hst' : (Instr.mapUpdate 73 (.map (some mb)) (.int .i64 k) (.agg (cellsOf l).toArray)).run Try.prog (w1.alloc (.cells (rowOf l) 78)).drew = .ok () w2 := hst
  have hS0 : (w1.alloc (.cells (rowOf l) 78)).drew.cell? ⟨db, 1, none⟩ = some (.map (some mb)) ∧ (w1.alloc (.cells (rowOf l) 78)).drew.rangeAt w1.heap.size 0 (cellsOf l) := ⟨c1, hrg⟩
  have hS2 : w2.cell? ⟨db, 1, none⟩ = some (.map (some mb)) ∧ w2.rangeAt w1.heap.size 0 (cellsOf l) :=
    ⟨(World.cell?_of_block (hk2.block db (by simp; exact Nat.lt_succ_of_lt hD.dbl) (by simpa using hD.dm))).trans c1, rangeAt_of_block (hk2.block _ (by simp) (by simp; have := hD.mbl; omega)) hrg⟩
  have hu : Try.prog.underlying 78 = some (.array 128 5) := Try.underlying78
  have hi : (Try.prog.info? 78).map (·.size) = some (cellsOf l).length := by rw [size_sec, cells_len, hsl.1]
  have hcl : (cellsOf l).length = 128 := by rw [cells_len, hsl.1]
  have hon := cells_one l
  clear hr1 hr h c4 ch cb hst
  go_wp2_with (first
    | (refine wpList_alloc_sec rfl rfl ?_)
    | (refine wpList_slice_sec rfl _ rfl _ rfl ?_)
    | fail)
  go_region_held3 (fun w' => w'.cell? ⟨db, 1, none⟩ = some (.map (some mb)) ∧ w'.rangeAt w1.heap.size 0 (cellsOf l)) (first | exact hS0 | exact hS2) (fail)
  go_wp2
  go_ret
  exact ⟨rfl, (hD.alloc _).turn hk2 hm2 (hD.put_keys hk hkn _), ((hK.mono (by simp)).alloc _).trans (hk2.mono (by simp))⟩

set_option maxHeartbeats 400000 in
/-- Write, where it is done. -/
theorem write_any (h : DiskAt w db pb mb n nn pl D ops left false) (k : Int) (l : List Int) (hsl : Sec l) (bb bo cap : Nat) (hr : w.rangeAt bb bo (cellsOf l)) (hbb : bb ≠ db) (hk : 0 ≤ k) (hk2 : k < n) (hnn : nn < 1000000)
    (ho : 0 ≤ ops) (ho2 : ops < 1000000) (hl : left ≠ 1) (hl2 : left < 9223372036854775808) :
    Calls Try.prog 12 #[.pointer (some ⟨db, 0, none⟩), .int .i64 k, .slice (some ⟨bb, bo, none⟩) 128 cap] w fun e w' => e = .returned (.int .i64 0) ∧
      DiskAt w' db pb mb n (nn + 1) pl (D.put (.int .i64 k) (.held l)) (ops + 1) (if 1 < left then left - 1 else left) false ∧ Kept [db, mb] w w' := by
  by_cases hg : 1 < left
  · rw [if_pos hg]
    exact write_lays h k l hsl bb bo cap hr hbb hk hk2 hnn _ _ (begin_counts h hg ho ho2 hl2)
  · rw [if_neg hg]
    exact write_lays h k l hsl bb bo cap hr hbb hk hk2 hnn _ _ (begin_goes h (by omega) ho ho2)
end
end Go.Proofs.Ytgjnlocokkjejaa
