/-
  append AND sector, THE CAPACITY TOLD; TEXTS JOINED; PARTS OF A ROW.
-/
import Derived.Test.YtcnejanckolklaaDiskSector
namespace Go.Proofs.Ytcnejanckolklaa
open Go.RowKit Go.Maps

/-- append([]byte .., b...), where there is no room. -/
theorem append_grows2 (w : World) (g0 s0 c0 : Nat) (l0 : List Int) (h0 : w.rangeAt g0 0 (cellsOf l0)) (hl0 : l0.length = s0) (ok0 : ∀ x ∈ l0, 0 ≤ x ∧ x < 256) (ad : Addr) (n c : Nat) (l : List Int) (hl : l.length = n) (hc : ∀ j, j < n → w.cell? (ad.add j) = some (.int .u8 (l.getD j 0))) (ok : ∀ x ∈ l, 0 ≤ x ∧ x < 256)
    (hg : c0 < s0 + n) (hfit : Builtin.nextslicecap (s0 + n) c0 ≤ 281474976710656) (h63 : s0 + n ≤ 9223372036854775807) :
    ∃ cap W', (Builtin.append_ #[31, 31] 31 #[.slice (some ⟨g0, 0, none⟩) s0 c0, .slice (some ad) n c]).run Try.prog w = .ok (.slice (some ⟨w.heap.size, 0, none⟩) (s0 + n) cap) W' ∧ BytesAt W' w.heap.size (s0 + n) (l0 ++ l) ∧ Kept [] w W' ∧ s0 + n ≤ cap := by
  obtain ⟨i, hi, hz, hs, hb⟩ := info_parts info_byte
  have hsrc : Src Try.prog i.size 31 (.slice (some ad) n c) n (cellsOf l) w := by
    refine Src.ofSlice w Try.underlying31 ad n c (cellsOf l) (by rw [hs, cells_len, hl, Nat.mul_one]) (fun j u hu => ?_) (cells_one l)
    have hj : j < n := by have := (List.getElem?_eq_some_iff.1 hu).1; rw [cells_len, hl] at this; exact this
    rw [hc j hj, ← hu]
    simp [cellsOf, hl ▸ hj]
  have hold : (Builtin.firstCells i.size s0 (.slice (some ⟨g0, 0, none⟩) s0 c0)).run Try.prog w.drew = .ok (cellsOf l0).toArray w.drew :=
    run_firstCells_some w.drew i.size s0 ⟨g0, 0, none⟩ s0 c0 (cellsOf l0) (by rw [hs, cells_len, hl0, Nat.mul_one]) (fun j v hv => by
      rw [Addr.add_mid]
      exact h0 j v hv)
  have hrun := run_append_grow_src (P := Try.prog) w 31 31 31 5 i _ Try.underlying31 hi hz (some ⟨g0, 0, none⟩) s0 c0 (cellsOf l0) hold (.slice (some ad) n c) n (cellsOf l) hsrc hg (by omega) (by rw [hb]; omega)
  refine ⟨_, _, hrun, ?_, (Kept.refl [] w).drew.alloc _, grownCap_ge _ _ _ _⟩
  have hbk : (w.drew.alloc (.cells ((cellsOf l0 ++ cellsOf l).toArray ++ Builtin.zeroCells (Value.int .u8 0).cells (grownCap w (s0 + n) c0 5 - (s0 + n))) 5)).heap[w.heap.size]? = some (.cells ((cellsOf l0 ++ cellsOf l).toArray ++ Builtin.zeroCells (Value.int .u8 0).cells (grownCap w (s0 + n) c0 5 - (s0 + n))) 5 (0, 0)) := heap_alloc_new w.drew _
  have hat : ∀ j, j < s0 + n → ((cellsOf l0 ++ cellsOf l).toArray ++ Builtin.zeroCells (Value.int .u8 0).cells (grownCap w (s0 + n) c0 5 - (s0 + n)))[j]? = (cellsOf (l0 ++ l))[j]? := by
    intro j hj
    rw [Array.getElem?_append_left (by simp [cells_len, hl, hl0]; omega)]
    simp [cellsOf]
  refine ⟨fun j v hv => ?_, fun j hj => ?_, by rw [List.length_append, hl, hl0], fun x hx => ?_, by simp⟩
  · have hj : j < s0 + n := by have := (List.getElem?_eq_some_iff.1 hv).1; rw [cells_len, List.length_append, hl, hl0] at this; exact this
    rw [cell_of_row _ _ _ _ _ (0, 0) hbk, Nat.zero_add, hat j hj]
    exact hv
  · refine ⟨?_, row_frozen hbk _⟩
    rw [cell_of_row _ _ _ _ _ (0, 0) hbk, Nat.zero_add, hat j hj, List.getElem?_eq_getElem (by rw [cells_len, List.length_append, hl, hl0]; exact hj)]
    rfl
  · rcases List.mem_append.1 hx with hx | hx
    · exact ok0 x hx
    · exact ok x hx

/-- append(row, b...) of bytes that came in, the row full: whatever their number. -/
theorem append_any2 (w : World) (g0 s0 : Nat) (l0 : List Int) (h0 : BytesAt w g0 s0 l0) (a : Option Addr) (n c : Nat) (l : List Int) (hl : l.length = n) (hn : s0 + n ≤ 140737488355328) (hc : ∀ j, j < n → ∃ ad, a = some ad ∧ w.cell? (ad.add j) = some (.int .u8 (l.getD j 0))) (hz : a = none → n = 0 ∧ c = 0) (ok : ∀ x ∈ l, 0 ≤ x ∧ x < 256) :
    ∃ g cap W', (Builtin.append_ #[31, 31] 31 #[.slice (some ⟨g0, 0, none⟩) s0 s0, .slice a n c]).run Try.prog w = .ok (.slice (some ⟨g, 0, none⟩) (s0 + n) cap) W' ∧ BytesAt W' g (s0 + n) (l0 ++ l) ∧ Kept [] w W' ∧ (g = g0 ∨ w.heap.size ≤ g) ∧ s0 + n ≤ cap := by
  obtain ⟨i, hi, _, hs, _⟩ := info_parts info_byte
  by_cases hn0 : n = 0
  · subst hn0
    obtain rfl : l = [] := List.eq_nil_of_length_eq_zero hl
    have hsrc : Src Try.prog i.size 31 (.slice a 0 c) 0 [] w := by
      cases a with
      | none => exact Src.ofNil w Try.underlying31 c
      | some ad => exact Src.ofSlice w Try.underlying31 ad 0 c [] (by simp) (by simp) (by simp)
    have hrun := run_append_room_src (P := Try.prog) w 31 31 31 5 i Try.underlying31 hi g0 0 s0 s0 (.slice a 0 c) 0 [] hsrc (by omega) (by simp) (by simp)
    exact ⟨g0, s0, w, hrun, by simpa using h0, Kept.refl _ _, Or.inl rfl, by omega⟩
  · cases a with
    | none => exact absurd (hz rfl).1 hn0
    | some ad =>
      obtain ⟨cap, W', hrun, hb, hk, hcp⟩ := append_grows2 w g0 s0 s0 l0 h0.cells h0.size h0.ok ad n c l hl (fun j hj => by obtain ⟨ad', e, h⟩ := hc j hj; cases e; exact h) ok (by omega) (by have := nextslicecap_le (need := s0 + n) (old := s0) (by omega); omega) (by omega)
      exact ⟨_, cap, W', hrun, hb, hk, Or.inr (Nat.le_refl _), hcp⟩
/-- sector, whatever bytes. -/
theorem sector_any2 (g len cap : Nat) (l : List Int) (w : World) (h : BytesAt w g len l) (h0 : 0 < len) (hcap : len ≤ cap) :
    Calls Try.prog 8 #[.slice (some ⟨g, 0, none⟩) len cap] w fun e w' => ∃ gx lenx cx lx, e = .returned (.slice (some ⟨gx, 0, none⟩) lenx cx) ∧ BytesAt w' gx lenx lx ∧ Kept [] w w' ∧ (gx = g ∨ w.heap.size ≤ gx) ∧ lenx ≤ cx := by
  by_cases h1 : 127 < len
  · exact (sector_same _ len cap w (Or.inr h1)).mono fun e w' ⟨he, hw⟩ => ⟨g, len, cap, l, he, by rw [hw]; exact h, by rw [hw]; exact Kept.refl _ _, Or.inl rfl, hcap⟩
  · refine (sector_new ⟨g, 0, none⟩ len cap l w h.size h0 (by omega) (fun j hj => by
      rw [Addr.add_mid]
      refine h.cells j _ ?_
      have hj' : j < l.length := by rw [h.size]; exact hj
      simp [cellsOf, hj'])).mono fun e w' ⟨gx, he, hg, hr, hk⟩ => ⟨gx, 128, 128, cycTo l 128, he, ?_, hk, Or.inr hg, Nat.le_refl _⟩
    have hs := cyc_sec l (by rw [h.size]; exact h0) h.ok
    refine ⟨row_range hr, fun j hj => ⟨?_, row_frozen hr _⟩, hs.1, hs.2, (Array.getElem?_eq_some_iff.1 hr).1⟩
    rw [Nat.zero_add, row_cell hr j (by rw [hs.1]; exact hj)]
    rfl


theorem text_fold (l : List Int) : ∀ r : ByteArray, (l.foldl (fun r n => r.push (UInt8.ofNat n.toNat)) r).data.toList = r.data.toList ++ l.map (fun n => UInt8.ofNat n.toNat) := by
  induction l with
  | nil => intro r; simp
  | cons a t ih =>
    intro r
    rw [List.foldl_cons, ih]
    simp [ByteArray.push]
theorem text_data (l : List Int) : (textOf l).data.toList = l.map (fun n => UInt8.ofNat n.toNat) := by
  unfold textOf
  rw [text_fold]
  rfl
theorem text_append (a b : List Int) : textOf (a ++ b) = textOf a ++ textOf b := by
  apply ByteArray.ext
  apply Array.ext'
  rw [text_data]
  simp [text_data]

/-- A part of a row of bytes. -/
theorem slice_head (w : World) (g cap : Nat) (f : Int) (h0 : 0 ≤ f) (h1 : f ≤ 128) (hc : 128 ≤ cap) : (Instr.sliceAt 31 (.slice (some ⟨g, 0, none⟩) 128 cap) none (some (.int .i64 f)) none).run Try.prog w = .ok (.slice (some ⟨g, 0, none⟩) f.toNat cap) w := by
  have h2 : f ≤ (cap : Int) := by omega
  simp [Instr.sliceAt, Instr.slice, run_underlying Try.underlying31, Instr.sliceBounds, Instr.sliceBound, Addr.add_mid, asIntOf, h0, h2]
theorem slice_tail (w : World) (g cap : Nat) (f : Int) (h0 : 0 ≤ f) (h1 : f ≤ 128) : (Instr.sliceAt 31 (.slice (some ⟨g, 0, none⟩) 128 cap) (some (.int .i64 f)) none none).run Try.prog w = .ok (.slice (some (if cap = f.toNat then ⟨g, 0, none⟩ else ⟨g, f.toNat, none⟩)) (128 - f.toNat) (cap - f.toNat)) w := by
  obtain ⟨i, hi, hz, hs, hb⟩ := info_parts info_byte
  simp [Instr.sliceAt, Instr.slice, run_underlying Try.underlying31, Instr.sliceBounds, Instr.sliceBound, Addr.add_mid, asIntOf, h0, h1, sizeOf, typeInfo, hi, hs]
  split <;> rfl

/-- Bytes from any address on, as a text. -/
theorem text_at (w : World) (A : Addr) (len cap : Nat) (l : List Int) (hl : l.length = len) (h : ∀ j, j < len → w.cell? (A.add j) = some (.int .u8 (l.getD j 0))) :
    (convert 31 9 (.slice (some A) len cap)).run Try.prog w = .ok (.string (textOf l)) w := by
  have e : (Conv.bytesToString (.slice (some A) len cap)).run Try.prog w = .ok (.string (textOf l)) w := by
    refine run_bytesToString w A len cap l ?_
    have := run_loadCells_list (P := Try.prog) w A (cellsOf l) (fun j v hv => by
      have hj : j < len := by have := (List.getElem?_eq_some_iff.1 hv).1; rw [cells_len, hl] at this; exact this
      rw [h j hj, ← hv]
      simp [cellsOf, hl, hj])
    rw [cells_len, hl] at this
    exact this
  simp [convert, run_underlying Try.underlying31, run_underlying Try.underlying9, run_underlying Try.underlying5, e]
end Go.Proofs.Ytcnejanckolklaa
