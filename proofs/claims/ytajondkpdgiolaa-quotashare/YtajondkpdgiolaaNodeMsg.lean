/-
  MESSAGES, WRITTEN: the document's own EncodeMessage (donjonref10).
-/
import Derived.Test.YtajondkpdgiolaaNodeEnc
namespace Go.Proofs.Ytajondkpdgiolaa
open Go.RowKit
set_option maxRecDepth 8000
set_option linter.unusedSimpArgs false
set_option linter.unusedVariables false

theorem OwnB.lower {w : World} {base b : Nat} {v : Value} {l : List UInt8} (h : OwnB w base v l) (hb : b ≤ base) : OwnB w b v l := by
  refine ⟨h.1, ?_⟩
  rcases h.2 with h1 | ⟨g, cap, cur, hv, hg, rest⟩
  · exact .inl h1
  · exact .inr ⟨g, cap, cur, hv, Nat.le_trans hb hg, rest⟩
/-- A message. -/
structure Msg where
  from_ : ByteArray
  label : Lab
  to_ : ByteArray
  box : Lab
  text : ByteArray
abbrev Msg.v (m : Msg) : Value := .agg #[.string m.from_, .int .i64 m.label.s, .int .i64 m.label.c, .int .i64 m.label.i, .int .i64 m.label.k, .string m.to_, .int .i64 m.box.s, .int .i64 m.box.c, .int .i64 m.box.i, .int .i64 m.box.k, .string m.text]
structure Msg.Small (m : Msg) : Prop where
  f : m.from_.size < 100000
  t : m.to_.size < 100000
  x : m.text.size < 100000
def encM (m : Msg) : List UInt8 := encT m.from_ ++ encL m.label ++ encT m.to_ ++ encL m.box ++ encT m.text
abbrev MBox (W : World) (g : Nat) (m : Msg) : Prop := W.cell? ⟨g, 0, none⟩ = some (.string m.from_) ∧ W.cell? ⟨g, 1, none⟩ = some (.int .i64 m.label.s) ∧ W.cell? ⟨g, 2, none⟩ = some (.int .i64 m.label.c) ∧ W.cell? ⟨g, 3, none⟩ = some (.int .i64 m.label.i) ∧ W.cell? ⟨g, 4, none⟩ = some (.int .i64 m.label.k) ∧ W.cell? ⟨g, 5, none⟩ = some (.string m.to_) ∧ W.cell? ⟨g, 6, none⟩ = some (.int .i64 m.box.s) ∧ W.cell? ⟨g, 7, none⟩ = some (.int .i64 m.box.c) ∧ W.cell? ⟨g, 8, none⟩ = some (.int .i64 m.box.i) ∧ W.cell? ⟨g, 9, none⟩ = some (.int .i64 m.box.k) ∧ W.cell? ⟨g, 10, none⟩ = some (.string m.text)
theorem MBox.keep {W W' : World} {g : Nat} {m : Msg} (h : MBox W g m) (b : Below (g + 1) W W') : MBox W' g m := by
  obtain ⟨h0, h1, h2, h3, h4, h5, h6, h7, h8, h9, h10⟩ := h
  have c : ∀ k, W'.cell? ⟨g, k, none⟩ = W.cell? ⟨g, k, none⟩ := fun k => b.cell (p := ⟨g, k, none⟩) (Nat.lt_succ_self g)
  exact ⟨(c _).trans h0, (c _).trans h1, (c _).trans h2, (c _).trans h3, (c _).trans h4, (c _).trans h5, (c _).trans h6, (c _).trans h7, (c _).trans h8, (c _).trans h9, (c _).trans h10⟩
def mcells (m : Msg) : Array Value := #[.string m.from_, .int .i64 m.label.s, .int .i64 m.label.c, .int .i64 m.label.i, .int .i64 m.label.k, .string m.to_, .int .i64 m.box.s, .int .i64 m.box.c, .int .i64 m.box.i, .int .i64 m.box.k, .string m.text]
theorem mbox_alloc (w : World) (m : Msg) (T : TypeId) : MBox (w.alloc (.cells (mcells m) T)) w.heap.size m := by
  refine ⟨?_, ?_, ?_, ?_, ?_, ?_, ?_, ?_, ?_, ?_, ?_⟩ <;> (rw [World.cell?_alloc_at _ _ _ _ rfl]; rfl)

end Go.Proofs.Ytajondkpdgiolaa
