/-
  BYTES OF THE LAWS' OWN: append to a new row, and 'sector' (bytes of a sector, of these).
-/
import Derived.Test.YtcnejanckolklaaDiskRows
import Derived.Test.YtcnejanckolklaaDiskText
import Derived.Deep.AppendSrc
namespace Go.Proofs.Ytcnejanckolklaa
open Go.RowKit Go.Maps

/-- append, by its run. -/
theorem wpList_append_to {ops : Array Oper} {rest : List Oper} {o : Oper} {a : Act} {w : World} {Q : Exit → Act → World → Prop} (hg : o.guard = none) (x y : Operand) (ho : o.op = .call { callee := .builtin .append, args := #[x, y], argTypes := #[31, 31] }) (hty : o.type = 31) {u v r : Value} {w' : World} (hx : a.eval x = u) (hy : a.eval y = v)
    (hc : (Builtin.append_ #[31, 31] 31 #[u, v]).run Try.prog w = .ok r w')
    (h : wpList Try.prog ops Q rest (a.put o.dst r) w') : wpList Try.prog ops Q (o :: rest) a w := by
  refine wpList_value hg ?_ h
  unfold execOp
  simp only [ho, hty, resolve, invoke, builtin, Sem.run_bind, Sem.run_pure, Result.andThen_ok]
  simp [hx, hy, hc, Result.andThen]

/-- Bytes that lie in a row of the call's own. -/
structure BytesAt (w : World) (g len : Nat) (l : List Int) : Prop where
  cells : w.rangeAt g 0 (cellsOf l)
  writes : w.there g 0 len
  size : l.length = len
  ok : ∀ x ∈ l, 0 ≤ x ∧ x < 256
  lt : g < w.heap.size

theorem BytesAt.of_block {w w' : World} {g len : Nat} {l : List Int} (h : BytesAt w g len l) (k : w'.heap[g]? = w.heap[g]?) (hs : w.heap.size ≤ w'.heap.size) : BytesAt w' g len l :=
  ⟨rangeAt_of_block k h.cells, there_of_block k h.writes, h.size, h.ok, Nat.lt_of_lt_of_le h.lt hs⟩
theorem BytesAt.kept {S : List Nat} {w w' : World} {g len : Nat} {l : List Int} (h : BytesAt w g len l) (k : Kept S w w') (hg : g ∉ S) : BytesAt w' g len l := h.of_block (k.block g h.lt hg) k.size

/-- append([]byte .., b...), where there is no room. -/
theorem append_grows (w : World) (g0 s0 c0 : Nat) (l0 : List Int) (h0 : w.rangeAt g0 0 (cellsOf l0)) (hl0 : l0.length = s0) (ok0 : ∀ x ∈ l0, 0 ≤ x ∧ x < 256) (ad : Addr) (n c : Nat) (l : List Int) (hl : l.length = n) (hc : ∀ j, j < n → w.cell? (ad.add j) = some (.int .u8 (l.getD j 0))) (ok : ∀ x ∈ l, 0 ≤ x ∧ x < 256)
    (hg : c0 < s0 + n) (hfit : Builtin.nextslicecap (s0 + n) c0 ≤ 281474976710656) (h63 : s0 + n ≤ 9223372036854775807) :
    ∃ cap W', (Builtin.append_ #[31, 31] 31 #[.slice (some ⟨g0, 0, none⟩) s0 c0, .slice (some ad) n c]).run Try.prog w = .ok (.slice (some ⟨w.heap.size, 0, none⟩) (s0 + n) cap) W' ∧ BytesAt W' w.heap.size (s0 + n) (l0 ++ l) ∧ Kept [] w W' := by
  obtain ⟨i, hi, hz, hs, hb⟩ := info_parts info_byte
  have hsrc : Src Try.prog i.size 31 (.slice (some ad) n c) n (cellsOf l) w := by
    refine Src.ofSlice w Try.underlying31 ad n c (cellsOf l) (by rw [hs, cells_len, hl, Nat.mul_one]) (fun j u hu => ?_) (cells_one l)
    have hj : j < n := by have := (List.getElem?_eq_some_iff.1 hu).1; rw [cells_len, hl] at this; exact this
    rw [hc j hj, ← hu]
    simp [cellsOf, hl ▸ hj]
  have hold : (Builtin.firstCells i.size s0 (.slice (some ⟨g0, 0, none⟩) s0 c0)).run Try.prog w.drew = .ok (cellsOf l0).toArray w.drew :=
    run_firstCells_some w.drew i.size s0 ⟨g0, 0, none⟩ s0 c0 (cellsOf l0) (by rw [hs, cells_len, hl0, Nat.mul_one]) (fun j v hv => by
      rw [Addr.add_mid]
      exact h0 j v hv)
  have hrun := run_append_grow_src (P := Try.prog) w 31 31 31 5 i _ Try.underlying31 hi hz (some ⟨g0, 0, none⟩) s0 c0 (cellsOf l0) hold (.slice (some ad) n c) n (cellsOf l) hsrc hg (by omega) (by rw [hb]; omega)
  refine ⟨_, _, hrun, ?_, (Kept.refl [] w).drew.alloc _⟩
  have hbk : (w.drew.alloc (.cells ((cellsOf l0 ++ cellsOf l).toArray ++ Builtin.zeroCells (Value.int .u8 0).cells (grownCap w (s0 + n) c0 5 - (s0 + n))) 5)).heap[w.heap.size]? = some (.cells ((cellsOf l0 ++ cellsOf l).toArray ++ Builtin.zeroCells (Value.int .u8 0).cells (grownCap w (s0 + n) c0 5 - (s0 + n))) 5 (0, 0)) := heap_alloc_new w.drew _
  have hat : ∀ j, j < s0 + n → ((cellsOf l0 ++ cellsOf l).toArray ++ Builtin.zeroCells (Value.int .u8 0).cells (grownCap w (s0 + n) c0 5 - (s0 + n)))[j]? = (cellsOf (l0 ++ l))[j]? := by
    intro j hj
    rw [Array.getElem?_append_left (by simp [cells_len, hl, hl0]; omega)]
    simp [cellsOf]
  refine ⟨fun j v hv => ?_, fun j hj => ?_, by rw [List.length_append, hl, hl0], fun x hx => ?_, by simp⟩
  · have hj : j < s0 + n := by have := (List.getElem?_eq_some_iff.1 hv).1; rw [cells_len, List.length_append, hl, hl0] at this; exact this
    rw [cell_of_row _ _ _ _ _ (0, 0) hbk, Nat.zero_add, hat j hj]
    exact hv
  · refine ⟨?_, row_frozen hbk _⟩
    rw [cell_of_row _ _ _ _ _ (0, 0) hbk, Nat.zero_add, hat j hj, List.getElem?_eq_getElem (by rw [cells_len, List.length_append, hl, hl0]; exact hj)]
    rfl
  · rcases List.mem_append.1 hx with hx | hx
    · exact ok0 x hx
    · exact ok x hx

/-- The bytes over and over, 128 of them. -/
def cycTo (l : List Int) (i : Nat) : List Int := (List.range i).map (fun j => l.getD (j % l.length) 0) ++ List.replicate (128 - i) 0
theorem cyc_start (l : List Int) : cycTo l 0 = zeros := by simp [cycTo, zeros]
theorem cyc_len (l : List Int) (i : Nat) (h : i ≤ 128) : (cycTo l i).length = 128 := by simp [cycTo]; omega
theorem cyc_step (l : List Int) (i : Nat) (h : i < 128) : (cycTo l i).set i (l.getD (i % l.length) 0) = cycTo l (i + 1) := by
  apply List.ext_getElem?
  intro j
  simp only [cycTo, List.getElem?_set, List.getElem?_append, List.length_replicate, List.getElem?_replicate, List.length_append, List.length_map, List.length_range, List.getElem?_map]
  by_cases e : i = j
  · subst e
    rw [if_pos rfl, if_pos (by omega), if_pos (by omega)]
    simp
  · rw [if_neg e]
    by_cases h1 : j < i
    · rw [if_pos h1, if_pos (by omega)]
      simp [h1, show j < i + 1 by omega]
    · have h2 : ¬ j < i + 1 := by omega
      simp only [h1, h2, if_false]
      by_cases h3 : j < 128
      · have a1 : j - i < 128 - i := by omega
        have a2 : j - (i + 1) < 128 - (i + 1) := by omega
        simp only [a1, a2, if_true]
      · have a1 : ¬ j - i < 128 - i := by omega
        have a2 : ¬ j - (i + 1) < 128 - (i + 1) := by omega
        simp only [a1, a2, if_false]
theorem cyc_sec (l : List Int) (hl : 0 < l.length) (ok : ∀ x ∈ l, 0 ≤ x ∧ x < 256) : Sec (cycTo l 128) := by
  refine ⟨cyc_len l 128 (Nat.le_refl _), fun x hx => ?_⟩
  simp only [cycTo, Nat.sub_self, List.replicate_zero, List.append_nil, List.mem_map] at hx
  obtain ⟨j, _, rfl⟩ := hx
  have hj := Nat.mod_lt j hl
  rw [show l.getD (j % l.length) 0 = l[j % l.length] by simp [hj]]
  exact ok _ (List.getElem_mem hj)

set_option maxHeartbeats 1000000 in
/-- sector, of bytes that are too many. -/
theorem sector_same (a : Option Addr) (len cap : Nat) (w : World) (h : len = 0 ∨ 127 < len) :
    Calls Try.prog 8 #[.slice a len cap] w fun e w' => e = .returned (.slice a len cap) ∧ w' = w := by
  by_cases h0 : len = 0
  · subst h0
    go_enter Try.func8, Try.ntmps8
    go_wp2
    go_ret
    exact ⟨rfl, rfl⟩
  · have h1 : (127 : Int) < (len : Int) := by omega
    have h2 : ((len : Int) == 0) = false := by simp; omega
    go_enter Try.func8, Try.ntmps8
    go_wp2
    go_ret
    exact ⟨rfl, rfl⟩

set_option maxRecDepth 20000 in
set_option maxHeartbeats 1000000 in
/-- sector, of bytes that are few. -/
theorem sector_new (x : Addr) (len cap : Nat) (l : List Int) (w : World) (hl : l.length = len) (h0 : 0 < len) (h1 : len ≤ 127) (hc : ∀ j, j < len → w.cell? (x.add j) = some (.int .u8 (l.getD j 0))) :
    Calls Try.prog 8 #[.slice (some x) len cap] w fun e w' => ∃ g, e = .returned (.slice (some ⟨g, 0, none⟩) 128 128) ∧ w.heap.size ≤ g ∧ w'.heap[g]? = some (.cells (rowOf (cycTo l 128)) 5 (0, 0)) ∧ Kept [] w w' := by
  have e1 : ¬ (127 : Int) < (len : Int) := by omega
  have e2 : ((len : Int) == 0) = false := by simp; omega
  have hmk := make_bytes
  go_enter Try.func8, Try.ntmps8
  go_wp2_with fail
  have hg0 : (w.alloc (.cells (rowOf zeros) 5)).heap[w.heap.size]? = some (.cells (rowOf zeros) 5 (0, 0)) := heap_alloc_new w _
  have k0 : Kept [] w (w.alloc (.cells (rowOf zeros) 5)) := Kept.of_alloc _ _ _
  clear hmk
  generalize hW : w.alloc (.cells (rowOf zeros) 5) = w0 at hg0 k0 ⊢
  clear hW
  obtain ⟨g, hgg⟩ : ∃ g, g = w.heap.size := ⟨_, rfl⟩
  rw [← hgg] at hg0 ⊢
  have hgw : w.heap.size ≤ g := by omega
  clear hgg
  go_loopw [4] (fun t wr => ∃ q : Int, 0 ≤ q ∧ q ≤ 128 ∧ t = .int .i64 q ∧ wr.heap[g]? = some (.cells (rowOf (cycTo l q.toNat)) 5 (0, 0)) ∧ Kept [g] w0 wr) (fun t _ => 128 - (Go.RowKit.intOf t).toNat)
  case atStart => exact ⟨0, by omega, by omega, rfl, by rw [Int.toNat_zero, cyc_start]; exact hg0, Kept.refl _ _⟩
  case round =>
    obtain ⟨q, hq0, hq1, rfl, hg, hkr⟩ := hrel
    have hkw : Kept [] w wr := ⟨hkr.os.trans k0.os, hkr.tape.trans k0.tape, hkr.output.trans k0.output, Nat.le_trans k0.size hkr.size, fun k hk hs => (hkr.block k (Nat.lt_of_lt_of_le hk k0.size) (by simp; omega)).trans (k0.block k hk hs)⟩
    by_cases hlt : q < 128
    · have c := row_cell hg q.toNat (by rw [cyc_len l q.toNat (by omega)]; omega)
      have f := row_frozen hg q.toNat
      have hm := Nat.mod_lt q.toNat h0
      have hcs := hc (q.toNat % len) hm
      have hcx : wr.cell? (x.add (q.toNat % len)) = some (.int .u8 (l.getD (q.toNat % len) 0)) := (World.cell?_of_block (hkw.block _ (World.block_lt_of_cell? w _ hcs) (by simp))).trans hcs
      have hg' : (wr.setCell ⟨g, q.toNat, none⟩ (.int .u8 (l.getD (q.toNat % len) 0))).heap[g]? = some (.cells (rowOf (cycTo l (q.toNat + 1))) 5 (0, 0)) := by
        rw [heap_setCell_at _ hg, row_set, ← hl, cyc_step l q.toNat (by omega)]
      have hk' : Kept [g] w0 (wr.setCell ⟨g, q.toNat, none⟩ (.int .u8 (l.getD (q.toNat % len) 0))) := hkr.setCell (by simp) _
      have hq' : (q + 1).toNat = q.toNat + 1 := by omega
      rw [← hq'] at hg'
      clear hq'
      generalize l.getD (q.toNat % len) 0 = v at hcx hg' hk'
      have ex : (q % (len : Int)).toNat = q.toNat % len := by
        have h2 : q = (q.toNat : Int) := by omega
        rw [h2]
        simp only [Int.toNat_natCast]
        omega
      rw [← ex] at hcx
      have r0 : 0 ≤ q % (len : Int) := Int.emod_nonneg _ (by omega)
      have r1 : q % (len : Int) < (len : Int) := Int.emod_lt_of_pos _ (by omega)
      have et : q.tmod (len : Int) = q % (len : Int) := Int.tmod_eq_emod_of_nonneg hq0
      have hln0 : ¬ (len : Int) = 0 := by omega
      generalize hrr : q % (len : Int) = r at hcx r0 r1 et
      clear hg hkr hg0 k0 hc hcs hkw ex hm
      go_wp2_with fail
      go_roundw
      case rel => exact ⟨q + 1, by omega, by omega, by first | rfl | go_num, hg', hk'⟩
      case measure => simp [Go.RowKit.intOf]; omega
    · obtain rfl : q = 128 := by omega
      have hge : ¬ (128 : Int) < 128 := by omega
      clear hc hg0 k0
      go_wp2_with fail
      go_ret
      exact ⟨g, rfl, hgw, hg, hkw⟩

/-- sector, whatever bytes. -/
theorem sector_any (g len cap : Nat) (l : List Int) (w : World) (h : BytesAt w g len l) (h0 : 0 < len) :
    Calls Try.prog 8 #[.slice (some ⟨g, 0, none⟩) len cap] w fun e w' => ∃ gx lenx cx lx, e = .returned (.slice (some ⟨gx, 0, none⟩) lenx cx) ∧ BytesAt w' gx lenx lx ∧ Kept [] w w' ∧ (gx = g ∨ w.heap.size ≤ gx) := by
  by_cases h1 : 127 < len
  · exact (sector_same _ len cap w (Or.inr h1)).mono fun e w' ⟨he, hw⟩ => ⟨g, len, cap, l, he, by rw [hw]; exact h, by rw [hw]; exact Kept.refl _ _, Or.inl rfl⟩
  · refine (sector_new ⟨g, 0, none⟩ len cap l w h.size h0 (by omega) (fun j hj => by
      rw [Addr.add_mid]
      refine h.cells j _ ?_
      have hj' : j < l.length := by rw [h.size]; exact hj
      simp [cellsOf, hj'])).mono fun e w' ⟨gx, he, hg, hr, hk⟩ => ⟨gx, 128, 128, cycTo l 128, he, ?_, hk, Or.inr hg⟩
    have hs := cyc_sec l (by rw [h.size]; exact h0) h.ok
    refine ⟨row_range hr, fun j hj => ⟨?_, row_frozen hr _⟩, hs.1, hs.2, (Array.getElem?_eq_some_iff.1 hr).1⟩
    rw [Nat.zero_add, row_cell hr j (by rw [hs.1]; exact hj)]
    rfl

/-- append(row, b...) of bytes that came in, the row full: whatever their number. -/
theorem append_any (w : World) (g0 s0 : Nat) (l0 : List Int) (h0 : BytesAt w g0 s0 l0) (a : Option Addr) (n c : Nat) (l : List Int) (hl : l.length = n) (hn : s0 + n ≤ 140737488355328) (hc : ∀ j, j < n → ∃ ad, a = some ad ∧ w.cell? (ad.add j) = some (.int .u8 (l.getD j 0))) (hz : a = none → n = 0 ∧ c = 0) (ok : ∀ x ∈ l, 0 ≤ x ∧ x < 256) :
    ∃ g cap W', (Builtin.append_ #[31, 31] 31 #[.slice (some ⟨g0, 0, none⟩) s0 s0, .slice a n c]).run Try.prog w = .ok (.slice (some ⟨g, 0, none⟩) (s0 + n) cap) W' ∧ BytesAt W' g (s0 + n) (l0 ++ l) ∧ Kept [] w W' ∧ (g = g0 ∨ w.heap.size ≤ g) := by
  obtain ⟨i, hi, _, hs, _⟩ := info_parts info_byte
  by_cases hn0 : n = 0
  · subst hn0
    obtain rfl : l = [] := List.eq_nil_of_length_eq_zero hl
    have hsrc : Src Try.prog i.size 31 (.slice a 0 c) 0 [] w := by
      cases a with
      | none => exact Src.ofNil w Try.underlying31 c
      | some ad => exact Src.ofSlice w Try.underlying31 ad 0 c [] (by simp) (by simp) (by simp)
    have hrun := run_append_room_src (P := Try.prog) w 31 31 31 5 i Try.underlying31 hi g0 0 s0 s0 (.slice a 0 c) 0 [] hsrc (by omega) (by simp) (by simp)
    exact ⟨g0, s0, w, hrun, by simpa using h0, Kept.refl _ _, Or.inl rfl⟩
  · cases a with
    | none => exact absurd (hz rfl).1 hn0
    | some ad =>
      obtain ⟨cap, W', hrun, hb, hk⟩ := append_grows w g0 s0 s0 l0 h0.cells h0.size h0.ok ad n c l hl (fun j hj => by obtain ⟨ad', e, h⟩ := hc j hj; cases e; exact h) ok (by omega) (by have := nextslicecap_le (need := s0 + n) (old := s0) (by omega); omega) (by omega)
      exact ⟨_, cap, W', hrun, hb, hk, Or.inr (Nat.le_refl _)⟩
end Go.Proofs.Ytcnejanckolklaa
