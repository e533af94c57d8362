/-
  THE CONTRACTS OF (*Disk).newest AND (*Disk).Read.
-/
import Derived.Test.YtgjnlocokkjejaaDiskWrite
namespace Go.Proofs.Ytgjnlocokkjejaa
open Go.RowKit Go.Maps

/-- What the buffer has at a number (where it has one). -/
def bufAt (D : DataW (List Int)) (k : Int) : List Int :=
  match D.atKey (.int .i64 k) (.held zeros) with
  | .held l => l
  | _ => zeros
/-- A sector as it was written last. -/
def newestOf (D : DataW (List Int)) (pl : Nat → List Int) (k : Int) : List Int := if Maps.has D (.int .i64 k) then bufAt D k else pl k.toNat

section
variable {ops : Array Oper} {rest : List Oper} {o : Oper} {a : Act} {w : World} {Q : Exit → Act → World → Prop}
theorem wpList_load_sec (hg : o.guard = none) (x : Operand) (ho : o.op = .load 78 x) (b off : Nat) (hx : a.eval x = .pointer (some ⟨b, off, none⟩)) (l : List Int) (hs : Sec l) (hr : w.rangeAt b off (cellsOf l))
    (h : wpList Try.prog ops Q rest (a.put o.dst (secOf l)) w) : wpList Try.prog ops Q (o :: rest) a w :=
  wpList_load_mid hg _ x ho b off hx (cellsOf l) _ hr Try.underlying78 rfl (by rw [size_sec, cells_len, hs.1]) h
theorem wpList_store_sec (hg : o.guard = none) (x y : Operand) (ho : o.op = .store 78 x y) (b off : Nat) (hx : a.eval x = .pointer (some ⟨b, off, none⟩)) (l : List Int) (hy : a.eval y = secOf l) (hs : Sec l) (ht : w.there b off 128)
    (h : wpList Try.prog ops Q rest (a.put o.dst undef) (w.setCells b off (cellsOf l))) : wpList Try.prog ops Q (o :: rest) a w :=
  wpList_store_mid hg _ x y ho b off (cellsOf l).toArray hx hy (by simpa [cells_len, hs.1] using ht) (by rw [size_sec]; simp [cells_len, hs.1]) (all_oneCell_toArray (cells_one l)) (by simpa using h)
end

section
variable {ops : Array Oper} {rest : List Oper} {o : Oper} {a : Act} {w W : World} {Q : Exit → Act → World → Prop}
theorem wpList_alloc_to (hg : o.guard = none) (ho : o.op = .alloc 78) (hW : w.alloc (.cells (rowOf zeros) 78) = W)
    (h : wpList Try.prog ops Q rest (a.put o.dst (.pointer (some ⟨w.heap.size, 0, none⟩))) W) : wpList Try.prog ops Q (o :: rest) a w :=
  wpList_alloc_sec hg ho (hW ▸ h)
theorem wpList_store_to (hg : o.guard = none) (x y : Operand) (ho : o.op = .store 78 x y) (b off : Nat) (hx : a.eval x = .pointer (some ⟨b, off, none⟩)) (l : List Int) (hy : a.eval y = secOf l) (hs : Sec l) (ht : w.there b off 128) (hW : w.setCells b off (cellsOf l) = W)
    (h : wpList Try.prog ops Q rest (a.put o.dst undef) W) : wpList Try.prog ops Q (o :: rest) a w :=
  wpList_store_sec hg x y ho b off hx l hy hs ht (hW ▸ h)
end

/-- What a function hands back whose result is a sector. -/
theorem results_sec {fn : Func} {p : Tmp} (h : fn.results = #[.cell p 78]) (tmps : Array Value) (w : World) (g off : Nat) (hp : tmps.getD p undef = .pointer (some ⟨g, off, none⟩)) (l : List Int) (hs : Sec l) (hr : w.rangeAt g off (cellsOf l)) :
    (results fn tmps).run Try.prog w = .ok (secOf l) w := by
  have hp' : tmps[p]?.getD undef = .pointer (some ⟨g, off, none⟩) := by simpa using hp
  have e := run_loadVar_mid (P := Try.prog) w g off 78 (cellsOf l) _ hr Try.underlying78 rfl (by rw [size_sec, cells_len, hs.1])
  simp [results, h, hp', asAddr, e]
  rfl

theorem there_new (w : World) (l : List Int) (hl : l.length = 128) (t : TypeId) : (w.alloc (.cells (rowOf l) t)).there w.heap.size 0 128 := fun j hj => by
  have hb : (w.alloc (.cells (rowOf l) t)).heap[w.heap.size]? = some (.cells (rowOf l) t (0, 0)) := heap_alloc_new w _
  have hj' : 0 + j < (rowOf l).size := by simp [rowOf, cells_len, hl]; omega
  constructor
  · rw [cell_of_row _ _ _ (rowOf l) t (0, 0) hb]
    simp only [Array.getElem?_eq_getElem hj', Option.isSome_some]
  · unfold World.frozen?
    simp only [hb]
    simp

section
variable {w : World} {db pb mb n nn : Nat} {pl : Nat → List Int} {D : DataW (List Int)} {ops left : Int} {dead : Bool}

/-- A look into the buffer. -/
theorem DiskAt.look (h : DiskAt w db pb mb n nn pl D ops left dead) (k : Int) (hk : -9223372036854775808 ≤ k ∧ k ≤ 9223372036854775807) :
    (Instr.lookup 73 (.map (some mb)) (.int .i64 k) true).run Try.prog w = .ok (.tuple #[secOf (bufAt D k), .bool (Maps.has D (.int .i64 k))]) w ∧ Sec (bufAt D k) := by
  obtain ⟨v, ps, hrun, hv⟩ := h.buf.look_ok int_key Try.underlying73 (zero_sec w) (secR_mk zeros_sec) (keyOf_int_mk (a := k) Try.underlying3 (WalkArith.wf_i64 hk))
  obtain ⟨l, rfl, e, hs⟩ := secR_inv hv
  simp only [Prod.mk.injEq] at e
  have : bufAt D k = l := by simp only [bufAt, e.1]
  rw [this]
  exact ⟨hrun, hs⟩
theorem DiskAt.look1 (h : DiskAt w db pb mb n nn pl D ops left dead) (k : Int) (hk : -9223372036854775808 ≤ k ∧ k ≤ 9223372036854775807) :
    (Instr.lookup 73 (.map (some mb)) (.int .i64 k) false).run Try.prog w = .ok (secOf (bufAt D k)) w := by
  obtain ⟨v, ps, hrun, hv⟩ := h.buf.lookup int_key Try.underlying73 (zero_sec w) (secR_mk zeros_sec) (keyOf_int_mk (a := k) Try.underlying3 (WalkArith.wf_i64 hk))
  obtain ⟨l, rfl, e, hs⟩ := secR_inv hv
  simp only [Prod.mk.injEq] at e
  have : bufAt D k = l := by simp only [bufAt, e.1]
  rw [this]
  exact hrun
theorem DiskAt.newest_sec (h : DiskAt w db pb mb n nn pl D ops left dead) (k : Int) (h0 : 0 ≤ k) (h1 : k < n) : Sec (newestOf D pl k) := by
  unfold newestOf
  split
  · exact (h.look k (by have := h.nhi; omega)).2
  · exact (h.plat k.toNat (by omega)).1

/-- The place of a sector on the platter. -/
theorem plat_index (w : World) (pb n : Nat) (k : Int) (h0 : 0 ≤ k) (h1 : k < n) : (Instr.indexAt 72 (.slice (some ⟨pb, 0, none⟩) n n) (.int .i64 k)).run Try.prog w = .ok (.pointer (some ⟨pb, k.toNat * 128, none⟩)) w := by
  obtain ⟨i, hi, hz, hs, hb⟩ := info_parts info_sec
  simp [Instr.indexAt, run_underlying Try.underlying72, asIntOf, h0, h1, sizeOf, typeInfo, hi, hs, Addr.add_mid]

set_option maxHeartbeats 400000 in
theorem newest_any (h : DiskAt w db pb mb n nn pl D ops left dead) (k : Int) (h0 : 0 ≤ k) (h1 : k < n) :
    Calls Try.prog 38 #[.pointer (some ⟨db, 0, none⟩), .int .i64 k] w fun e w' => e = .returned (secOf (newestOf D pl k)) ∧ Kept [] w w' := by
  have hn := h.nhi
  obtain ⟨hlk, hsb⟩ := (h.alloc (.cells (rowOf zeros) 78)).look k (by omega)
  have c1 := (h.alloc (.cells (rowOf zeros) 78)).c1
  obtain ⟨hsp, hrp, _⟩ := h.plat k.toNat (by omega)
  have hpl := h.pbl
  obtain ⟨W1, hW1⟩ : ∃ W1, w.alloc (.cells (rowOf zeros) 78) = W1 := ⟨_, rfl⟩
  rw [hW1] at hlk c1
  have e1 : W1.heap.size = w.heap.size + 1 := by rw [← hW1]; simp
  have t0 : W1.there w.heap.size 0 128 := by rw [← hW1]; exact there_new w zeros zeros_sec.1 _
  have k1 : Kept [] w W1 := by rw [← hW1]; exact Kept.of_alloc _ _ _
  have d1 : DiskAt W1 db pb mb n nn pl D ops left dead := h.kept k1 (by simp) (by simp) (by simp)
  obtain ⟨W2, hW2⟩ : ∃ W2, W1.alloc (.cells (rowOf zeros) 78) = W2 := ⟨_, rfl⟩
  have t1 : W2.there W1.heap.size 0 128 := by rw [← hW2]; exact there_new W1 zeros zeros_sec.1 _
  have t0' : W2.there w.heap.size 0 128 := by rw [← hW2]; exact World.there_alloc t0 _
  have k2 : Kept [] w W2 := by rw [← hW2]; exact k1.alloc _
  obtain ⟨W3, hW3⟩ : ∃ W3, W2.setCells W1.heap.size 0 (cellsOf (bufAt D k)) = W3 := ⟨_, rfl⟩
  have t0'' : W3.there w.heap.size 0 128 := by rw [← hW3]; exact World.there_setCells t0' _ _ _
  have r3 : W3.rangeAt W1.heap.size 0 (cellsOf (bufAt D k)) := by rw [← hW3]; exact World.rangeAt_setCells_same _ _ _ _ (by rw [cells_len, hsb.1]; exact t1)
  have k3 : Kept [] w W3 := by rw [← hW3]; exact Kept.setCells_new (by omega) _ _ k2
  have d3 : DiskAt W3 db pb mb n nn pl D ops left dead := h.kept k3 (by simp) (by simp) (by simp)
  have c0 := d3.c0
  have r3p : W3.rangeAt pb (k.toNat * 128) (cellsOf (pl k.toNat)) := (d3.plat k.toNat (by omega)).2.1
  have hx := plat_index W3 pb n k h0 h1
  cases hb : Maps.has D (.int .i64 k) with
  | true =>
    rw [hb] at hlk
    have en : newestOf D pl k = bufAt D k := by simp [newestOf, hb]
    rw [en]
    obtain ⟨W4, hW4⟩ : ∃ W4, W3.setCells w.heap.size 0 (cellsOf (bufAt D k)) = W4 := ⟨_, rfl⟩
    have r4 : W4.rangeAt w.heap.size 0 (cellsOf (bufAt D k)) := by rw [← hW4]; exact World.rangeAt_setCells_same _ _ _ _ (by rw [cells_len, hsb.1]; exact t0'')
    have k4 : Kept [] w W4 := by rw [← hW4]; exact Kept.setCells_new (Nat.le_refl _) _ _ k3
    clear h d1 d3 hb en e1
    go_enter Try.func38, Try.ntmps38
    go_wp2_with (first
      | (refine wpList_alloc_to rfl rfl hW1 ?_)
      | (refine wpList_alloc_to rfl rfl hW2 ?_)
      | (refine wpList_load_sec rfl _ rfl _ _ rfl _ hsb r3 ?_)
      | (refine wpList_store_to rfl _ _ rfl _ _ rfl _ rfl hsb t1 hW3 ?_)
      | (refine wpList_store_to rfl _ _ rfl _ _ rfl _ rfl hsb t0'' hW4 ?_)
      | fail)
    refine bodyPost_ret (v := secOf (bufAt D k)) ?_ rfl ⟨rfl, k4⟩
    exact results_sec rfl _ _ _ _ (by rfl) _ hsb r4
  | false =>
    rw [hb] at hlk
    have en : newestOf D pl k = pl k.toNat := by simp [newestOf, hb]
    rw [en]
    obtain ⟨W4, hW4⟩ : ∃ W4, W3.setCells w.heap.size 0 (cellsOf (pl k.toNat)) = W4 := ⟨_, rfl⟩
    have r4 : W4.rangeAt w.heap.size 0 (cellsOf (pl k.toNat)) := by rw [← hW4]; exact World.rangeAt_setCells_same _ _ _ _ (by rw [cells_len, hsp.1]; exact t0'')
    have k4 : Kept [] w W4 := by rw [← hW4]; exact Kept.setCells_new (Nat.le_refl _) _ _ k3
    clear h d1 d3 hb en e1
    go_enter Try.func38, Try.ntmps38
    go_wp2_with (first
      | (refine wpList_alloc_to rfl rfl hW1 ?_)
      | (refine wpList_alloc_to rfl rfl hW2 ?_)
      | (refine wpList_load_sec rfl _ rfl _ _ rfl _ hsp r3p ?_)
      | (refine wpList_store_to rfl _ _ rfl _ _ rfl _ rfl hsb t1 hW3 ?_)
      | (refine wpList_store_to rfl _ _ rfl _ _ rfl _ rfl hsp t0'' hW4 ?_)
      | fail)
    refine bodyPost_ret (v := secOf (pl k.toNat)) ?_ rfl ⟨rfl, k4⟩
    exact results_sec rfl _ _ _ _ (by rfl) _ hsp r4

/-- Read, of a disk that has stopped. -/
theorem read_dead (h : DiskAt w db pb mb n nn pl D ops left true) (k : Int) :
    Calls Try.prog 14 #[.pointer (some ⟨db, 0, none⟩), .int .i64 k] w fun e w' => e = .returned (.tuple #[.slice none 0 0, .int .i64 12]) ∧ w' = w := by
  have c4 := h.c4
  go_enter Try.func14, Try.ntmps14
  go_wp2
  go_ret2
  exact ⟨rfl, rfl⟩
/-- Read, where there is no such sector. -/
theorem read_refuses (h : DiskAt w db pb mb n nn pl D ops left false) (k : Int) (hno : (decide (0 ≤ k) && decide (k < n)) = false) :
    Calls Try.prog 14 #[.pointer (some ⟨db, 0, none⟩), .int .i64 k] w fun e w' => e = .returned (.tuple #[.slice none 0 0, .int .i64 1]) ∧ w' = w := by
  have c4 := h.c4
  have ch := has_any h k
  rw [hno] at ch
  go_enter Try.func14, Try.ntmps14
  go_wp2_with (go_at_call 34; refine ch.mono ?_; rintro e w' ⟨rfl, rfl⟩)
  go_ret2
  exact ⟨rfl, rfl⟩

set_option maxHeartbeats 400000 in
/-- Read: a new row that holds the bytes as they were written last. -/
theorem read_any (h : DiskAt w db pb mb n nn pl D ops left false) (k : Int) (h0 : 0 ≤ k) (h1 : k < n) :
    Calls Try.prog 14 #[.pointer (some ⟨db, 0, none⟩), .int .i64 k] w fun e w' => ∃ g, e = .returned (.tuple #[.slice (some ⟨g, 0, none⟩) 128 128, .int .i64 0]) ∧
      w.heap.size ≤ g ∧ w'.heap[g]? = some (.cells (rowOf (newestOf D pl k)) 5 (0, 0)) ∧ Kept [] w w' := by
  have c4 := h.c4
  have ch := has_any h k
  have hb : (decide (0 ≤ k) && decide (k < n)) = true := by simp [h0, h1]
  rw [hb] at ch
  have cn := newest_any h k h0 h1
  have hs := h.newest_sec k h0 h1
  generalize newestOf D pl k = l at *
  go_enter Try.func14, Try.ntmps14
  go_wp2_with fail
  refine ch.mono ?_
  rintro e w' ⟨rfl, rfl⟩
  go_wp2_with fail
  refine cn.mono ?_
  rintro e w1 ⟨rfl, hK⟩
  clear ch cn c4
  have hmk := make_bytes
  obtain ⟨W1, hW1⟩ : ∃ W1, w1.alloc (.cells (rowOf zeros) 78) = W1 := ⟨_, rfl⟩
  have t1 : W1.there w1.heap.size 0 128 := by rw [← hW1]; exact there_new w1 zeros zeros_sec.1 _
  obtain ⟨W2, hW2⟩ : ∃ W2, W1.setCells w1.heap.size 0 (cellsOf l) = W2 := ⟨_, rfl⟩
  have r2 : W2.rangeAt w1.heap.size 0 (cellsOf l) := by rw [← hW2]; exact World.rangeAt_setCells_same _ _ _ _ (by rw [cells_len, hs.1]; exact t1)
  have hcp := copy_new W2 5 zeros l zeros_sec.1 hs.1 w1.heap.size 0 128 128 r2
  have k2 : Kept [] w' W2 := by rw [← hW2]; exact Kept.setCells_new hK.size _ _ (by rw [← hW1]; exact hK.alloc _)
  have k2s := k2.size
  have hfin : (W2.alloc (.cells (rowOf l) 5)).heap[W2.heap.size]? = some (.cells (rowOf l) 5 (0, 0)) := heap_alloc_new W2 _
  go_wp2_with (first
    | (refine wpList_alloc_to rfl rfl hW1 ?_)
    | (refine wpList_store_to rfl _ _ rfl _ _ rfl _ rfl hs t1 hW2 ?_)
    | (refine wpList_slice_sec rfl _ rfl _ rfl ?_)
    | fail)
  go_ret2
  exact ⟨W2.heap.size, rfl, k2s, hfin, k2.alloc _⟩
end
end Go.Proofs.Ytgjnlocokkjejaa
