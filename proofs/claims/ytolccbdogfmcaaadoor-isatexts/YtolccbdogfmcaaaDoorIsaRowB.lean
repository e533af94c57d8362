/-
  A ROW OF BYTES THAT IS A TEXT's: made of it, one of them turned, and made a text again; a text with blanks more is no instruction's.
-/
import Derived.Test.YtolccbdogfmcaaaDoorIsaOk
import Derived.Test.YtolccbdogfmcaaaDoorIsaText
import Derived.Lib.ConvBytes
import Derived.Lib.SmallJoins
namespace Go.Proofs.YtolccbdogfmcaaaDoor
open Go.RowKit
set_option maxRecDepth 8000
set_option linter.unusedSimpArgs false
set_option linter.unusedVariables false

/-- The row bb holds the bytes l, and may be written. -/
structure RowB (W : World) (bb : Nat) (l : List UInt8) : Prop where
  cell : ∀ j : Nat, j < l.length → W.cell? ⟨bb, j, none⟩ = some (.int .u8 ((l.getD j 0).toNat : Int))
  free : ∀ j : Nat, j < l.length → W.frozen? ⟨bb, j, none⟩ = false
  lt : bb < W.heap.size
theorem RowB.keep {W W' : World} {bb : Nat} {l : List UInt8} (h : RowB W bb l) (hb : Below W.heap.size W W') : RowB W' bb l :=
  ⟨fun j hj => (hb.cell (p := ⟨bb, j, none⟩) h.lt).trans (h.cell j hj), fun j hj => (hb.frozen (p := ⟨bb, j, none⟩) h.lt).trans (h.free j hj), Nat.lt_of_lt_of_le h.lt hb.size⟩
theorem RowB.put {W : World} {bb : Nat} {l : List UInt8} (h : RowB W bb l) (k : Nat) (v : Int) (h0 : 0 ≤ v) (h1 : v < 256) : RowB (W.setCell ⟨bb, k, none⟩ (.int .u8 v)) bb (l.set k (UInt8.ofNat v.toNat)) := by
  refine ⟨fun j hj => ?_, fun j hj => ?_, by simpa using h.lt⟩
  · rw [List.length_set] at hj
    by_cases e : j = k
    · subst e
      rw [World.cell?_setCell_same _ _ _ (h.cell j hj)]
      have : ((l.set j (UInt8.ofNat v.toNat)).getD j 0).toNat = v.toNat := by
        simp [List.getD, hj]; omega
      rw [this, Int.toNat_of_nonneg h0]
    · rw [World.cell?_setCell_other _ _ _ _ (by intro c; apply e; cases c; rfl), h.cell j hj]
      congr 3
      simp [List.getD, List.getElem?_set_ne (Ne.symm e)]
  · rw [List.length_set] at hj
    rw [World.frozen?_setCell]; exact h.free j hj
theorem conv_to (w : World) (l : List UInt8) : ∃ cap W, (convert 9 37 (.string ⟨l.toArray⟩)).run Tryd.prog w = .ok (.slice (some ⟨w.heap.size, 0, none⟩) l.length cap) W ∧ RowB W w.heap.size l ∧ Below w.heap.size w W := by
  have hr := Go.Lib.run_convert_string_bytes (P := Tryd.prog) w 9 37 5 (⟨l.toArray⟩ : ByteArray) Tryd.underlying9 Tryd.underlying37 Tryd.underlying5
  have hs : (⟨l.toArray⟩ : ByteArray).size = l.length := by show l.toArray.size = _; simp
  rw [hs] at hr
  refine ⟨_, _, hr, ⟨fun j hj => ?_, fun j hj => ?_, ?_⟩, Joins.below_bytesWorld _ _ _ _ (Nat.le_refl _)⟩
  · rw [Go.Lib.bytesWorld_cell w _ _ j (by rw [hs]; exact hj)]
  · have hn := Go.Lib.bytesWorld_at_new w 5 (⟨l.toArray⟩ : ByteArray)
    have hc := Go.Lib.bytesWorld_cell w 5 (⟨l.toArray⟩ : ByteArray) j (by rw [hs]; exact hj)
    have hz : j < (Go.Lib.bytesCells w 5 (⟨l.toArray⟩ : ByteArray)).size := by
      rcases Nat.lt_or_ge j (Go.Lib.bytesCells w 5 (⟨l.toArray⟩ : ByteArray)).size with h | h
      · exact h
      · simp [World.cell?, hn, h] at hc
    simp [World.frozen?, hn]
    omega
  · rw [Go.Lib.bytesWorld_size]; omega
theorem conv_back (w : World) (bb cap : Nat) (l : List UInt8) (h : RowB w bb l) : (convert 37 9 (.slice (some ⟨bb, 0, none⟩) l.length cap)).run Tryd.prog w = .ok (.string ⟨l.toArray⟩) w := by
  refine run_convert_bytes_back w _ _ 5 ⟨bb, 0, none⟩ cap l Tryd.underlying37 Tryd.underlying5 Tryd.underlying9 fun j hj => ?_
  have := h.cell j hj
  simp [List.getD, hj] at this
  rw [show (⟨bb, 0, none⟩ : Addr).add j = ⟨bb, j, none⟩ by unfold Addr.add; split <;> simp_all]
  exact this

/-- A text that has not two blanks is no instruction's. -/
theorem no_text {s : ByteArray} (h : s.data.toList.count 32 ≠ 2) : ∀ i, ¬ IsT s i := fun i hi => h hi.count
theorem more_mid {s : ByteArray} {i : Ins} (hs : IsT s i) {y : ByteArray} {k : Nat} (hy : y.data.toList = s.data.toList.take k ++ [32, 32] ++ s.data.toList.drop k) : ∀ i, ¬ IsT y i := by
  have h1 := hs.count
  have e := List.take_append_drop k s.data.toList
  rw [← e, List.count_append] at h1
  refine no_text ?_
  rw [hy, List.count_append, List.count_append]
  have : ([32, 32] : List UInt8).count 32 = 2 := by decide
  omega
theorem more_front {s : ByteArray} {i : Ins} (hs : IsT s i) {y : ByteArray} (hy : y.data.toList = 32 :: s.data.toList) : ∀ i, ¬ IsT y i := by
  have h1 := hs.count
  refine no_text ?_
  rw [hy, List.count_cons_self]
  omega
theorem more_end {s : ByteArray} {i : Ins} (hs : IsT s i) {y : ByteArray} (hy : y.data.toList = s.data.toList ++ [32]) : ∀ i, ¬ IsT y i := by
  have h1 := hs.count
  refine no_text ?_
  rw [hy, List.count_append]
  have : ([32] : List UInt8).count 32 = 1 := by decide
  omega
theorem text_size {s : ByteArray} {i : Ins} (hs : IsT s i) : 1 ≤ s.size ∧ s.size ≤ 100 := by
  obtain ⟨⟨a0, a1⟩, a2, a3, a4, a5⟩ := insE_zero.1 hs.1
  have e := hs.2
  subst e
  have h1 := op_len a0 a1
  have h2 := itoaB_size i.p (by omega) (by omega)
  have h3 := itoaB_size i.n (by omega) (by omega)
  have q2 : (itoaB i.p).size = (Lib.itoa i.p).length := by show (Lib.itoa i.p).toArray.size = _; simp
  have q3 : (itoaB i.n).size = (Lib.itoa i.n).length := by show (Lib.itoa i.n).toArray.size = _; simp
  have : (insB i).size = (insT i).length := by show (insT i).toArray.size = _; simp
  rw [this]
  unfold insT
  simp
  omega
/-- What Parse answers of a text that is no instruction's. -/
theorem parse_no {I : World → Prop} (C : IsaOk I) {y : ByteArray} (hz : y.size ≤ 1000) (hn : ∀ i, ¬ IsT y i) (w : World) (hI : I w) : Calls Tryd.prog 9 #[.string y] w fun e w' => e = .returned (.tuple #[(⟨0, 0, 0⟩ : Ins).v, .int .i64 6]) ∧ Below w.heap.size w w' :=
  (C.parse y hz w hI).mono fun e w' ⟨j, f, he, hp, hb⟩ => by
    rcases hp with ⟨_, hp⟩ | ⟨rfl, rfl, _⟩
    · exact absurd hp (hn j)
    · exact ⟨he, hb⟩
end Go.Proofs.YtolccbdogfmcaaaDoor
