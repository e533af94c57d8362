/-
  A ROW OF BYTES THAT IS A TEXT's: made of it, one of them turned, and made a text again.
-/
import Derived.Test.YtbaaomplennalaaDoorLabelBack
import Derived.Test.YtbaaomplennalaaDoorLabelFive
import Derived.Lib.ConvBytes
namespace Go.Proofs.YtbaaomplennalaaDoor
open Go.RowKit

/-- The row bb holds the bytes l, and may be written. -/
structure RowB (W : World) (bb : Nat) (l : List UInt8) : Prop where
  cell : ∀ j : Nat, j < l.length → W.cell? ⟨bb, j, none⟩ = some (.int .u8 ((l.getD j 0).toNat : Int))
  free : ∀ j : Nat, j < l.length → W.frozen? ⟨bb, j, none⟩ = false
  lt : bb < W.heap.size
theorem RowB.keep {W W' : World} {bb : Nat} {l : List UInt8} (h : RowB W bb l) (hb : Below W.heap.size W W') : RowB W' bb l :=
  ⟨fun j hj => (hb.cell (p := ⟨bb, j, none⟩) h.lt).trans (h.cell j hj), fun j hj => (hb.frozen (p := ⟨bb, j, none⟩) h.lt).trans (h.free j hj), Nat.lt_of_lt_of_le h.lt hb.size⟩
theorem RowB.put {W : World} {bb : Nat} {l : List UInt8} (h : RowB W bb l) (k : Nat) (v : Int) (h0 : 0 ≤ v) (h1 : v < 256) : RowB (W.setCell ⟨bb, k, none⟩ (.int .u8 v)) bb (l.set k (UInt8.ofNat v.toNat)) := by
  refine ⟨fun j hj => ?_, fun j hj => ?_, by simpa using h.lt⟩
  · rw [List.length_set] at hj
    by_cases e : j = k
    · subst e
      rw [World.cell?_setCell_same _ _ _ (h.cell j hj)]
      have : ((l.set j (UInt8.ofNat v.toNat)).getD j 0).toNat = v.toNat := by
        simp [List.getD, hj]; omega
      rw [this, Int.toNat_of_nonneg h0]
    · rw [World.cell?_setCell_other _ _ _ _ (by intro c; apply e; cases c; rfl), h.cell j hj]
      congr 3
      simp [List.getD, List.getElem?_set_ne (Ne.symm e)]
  · rw [List.length_set] at hj
    rw [World.frozen?_setCell]; exact h.free j hj
theorem conv_to (w : World) (l : List UInt8) : ∃ cap W, (convert 9 40 (.string ⟨l.toArray⟩)).run Tryd.prog w = .ok (.slice (some ⟨w.heap.size, 0, none⟩) l.length cap) W ∧ RowB W w.heap.size l ∧ Below w.heap.size w W := by
  have hr := Go.Lib.run_convert_string_bytes (P := Tryd.prog) w 9 40 5 (⟨l.toArray⟩ : ByteArray) Tryd.underlying9 Tryd.underlying40 Tryd.underlying5
  have hs : (⟨l.toArray⟩ : ByteArray).size = l.length := by show l.toArray.size = _; simp
  rw [hs] at hr
  refine ⟨_, _, hr, ⟨fun j hj => ?_, fun j hj => ?_, ?_⟩, Go.Lib.bytesWorld_below _ _ _⟩
  · rw [Go.Lib.bytesWorld_cell w _ _ j (by rw [hs]; exact hj)]
  · have hn := Go.Lib.bytesWorld_at_new w 5 (⟨l.toArray⟩ : ByteArray)
    have hc := Go.Lib.bytesWorld_cell w 5 (⟨l.toArray⟩ : ByteArray) j (by rw [hs]; exact hj)
    have hz : j < (Go.Lib.bytesCells w 5 (⟨l.toArray⟩ : ByteArray)).size := by
      rcases Nat.lt_or_ge j (Go.Lib.bytesCells w 5 (⟨l.toArray⟩ : ByteArray)).size with h | h
      · exact h
      · simp [World.cell?, hn, h] at hc
    simp [World.frozen?, hn]
    omega
  · rw [Go.Lib.bytesWorld_size]; omega
theorem conv_back (w : World) (bb cap : Nat) (l : List UInt8) (h : RowB w bb l) : (convert 40 9 (.slice (some ⟨bb, 0, none⟩) l.length cap)).run Tryd.prog w = .ok (.string ⟨l.toArray⟩) w := by
  refine run_convert_bytes_back w _ _ 5 ⟨bb, 0, none⟩ cap l Tryd.underlying40 Tryd.underlying5 Tryd.underlying9 fun j hj => ?_
  have := h.cell j hj
  simp [List.getD, hj] at this
  rw [show (⟨bb, 0, none⟩ : Addr).add j = ⟨bb, j, none⟩ by unfold Addr.add; split <;> simp_all]
  exact this
/-- The state behind the first turned text: its label's block, and the row. -/
def StT (w : World) (g bb p12 : Nat) (Y : Lab) (l : List UInt8) (W : World) : Prop := Below g w W ∧ g ≤ W.heap.size ∧ Boxed W p12 Y ∧ RowB W bb l
theorem keepT2 {w W W' : World} {g bb p12 : Nat} {Y : Lab} {l : List UInt8} (hb : Below W.heap.size W W') (h : StT w g bb p12 Y l W) : StT w g bb p12 Y l W' :=
  ⟨h.1.trans (hb.mono h.2.1), Nat.le_trans h.2.1 hb.size, h.2.2.1.keep hb, h.2.2.2.keep hb⟩
abbrev ZN (W : World) (n : Nat) : Prop := Boxed W n ⟨0, 0, 0, 0⟩ ∧ Free W n
theorem ZN.keep {W W' : World} {n : Nat} (h : ZN W n) (hb : Below W.heap.size W W') : ZN W' n := ⟨h.1.keep hb, h.2.keep (World.block_lt_of_cell? _ _ h.1.1) hb⟩
theorem zb_new (W : World) : ZN (W.alloc (.cells #[.int .i64 0, .int .i64 0, .int .i64 0, .int .i64 0] 23)) W.heap.size := ⟨boxed_alloc W ⟨0, 0, 0, 0⟩, free_alloc W _ _⟩
/-- A block that is made now is none of those. -/
def Apart3 (g bb p12 n : Nat) : Prop := g ≤ n ∧ n ≠ bb ∧ n ≠ p12
theorem new_ne {w W : World} {g bb p12 : Nat} {Y : Lab} {l : List UInt8} (h : StT w g bb p12 Y l W) : Apart3 g bb p12 W.heap.size := by
  have h1 := h.2.2.2.lt
  have h2 : p12 < W.heap.size := World.block_lt_of_cell? _ _ h.2.2.1.1
  exact ⟨h.2.1, by omega, by omega⟩
theorem stT_put {w W : World} {g bb p12 n : Nat} {Y Z : Lab} {l : List UInt8} (h : StT w g bb p12 Y l W) (d : Apart3 g bb p12 n) : StT w g bb p12 Y l (put4 W n Z) := by
  refine ⟨put4_below h.1 d.1, by simpa [put4] using h.2.1, put4_other h.2.2.1 d.2.2, ?_⟩
  have hr := h.2.2.2
  refine ⟨fun j hj => ?_, fun j hj => ?_, by simpa [put4] using hr.lt⟩
  · have := hr.cell j hj
    simp [put4, World.cell?_setCell_far, d.2.1, this]
  · simp [put4, hr.free j hj]
theorem keepT5 {w W W' : World} {g bb p q : Nat} {Y Z : Lab} {l : List UInt8} (hb : Below W.heap.size W W') (h : Below g w W ∧ g ≤ W.heap.size ∧ Boxed W p Y ∧ RowB W bb l ∧ Boxed W q Z) : Below g w W' ∧ g ≤ W'.heap.size ∧ Boxed W' p Y ∧ RowB W' bb l ∧ Boxed W' q Z :=
  ⟨h.1.trans (hb.mono h.2.1), Nat.le_trans h.2.1 hb.size, h.2.2.1.keep hb, h.2.2.2.1.keep hb, h.2.2.2.2.keep hb⟩
end Go.Proofs.YtbaaomplennalaaDoor
