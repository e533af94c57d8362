/-
  ENTRIES, WRITTEN: the document's own EncodeEntry (donjonref10). Written by mk_nenc.py.
-/
import Derived.Test.YtajondkpdgiolaaNodeMsg
import Derived.Deep.Cut
namespace Go.Proofs.Ytajondkpdgiolaa
open Go.RowKit
set_option maxRecDepth 8000
set_option linter.unusedSimpArgs false
set_option linter.unusedVariables false

/-- An entry of a log. -/
structure Ent where
  seq : Int
  label : Lab
  user : ByteArray
  verb : Int
  object : ByteArray
  verdict : Int
abbrev Ent.v (e : Ent) : Value := .agg #[.int .i64 e.seq, .int .i64 e.label.s, .int .i64 e.label.c, .int .i64 e.label.i, .int .i64 e.label.k, .string e.user, .int .i64 e.verb, .string e.object, .int .i64 e.verdict]
structure Ent.Small (e : Ent) : Prop where
  u : e.user.size < 100000
  o : e.object.size < 100000
def encE (e : Ent) : List UInt8 := encW e.seq ++ encL e.label ++ encT e.user ++ [lowB e.verb] ++ encT e.object ++ [lowB e.verdict]
abbrev EBox (W : World) (g : Nat) (e : Ent) : Prop := W.cell? ⟨g, 0, none⟩ = some (.int .i64 e.seq) ∧ W.cell? ⟨g, 1, none⟩ = some (.int .i64 e.label.s) ∧ W.cell? ⟨g, 2, none⟩ = some (.int .i64 e.label.c) ∧ W.cell? ⟨g, 3, none⟩ = some (.int .i64 e.label.i) ∧ W.cell? ⟨g, 4, none⟩ = some (.int .i64 e.label.k) ∧ W.cell? ⟨g, 5, none⟩ = some (.string e.user) ∧ W.cell? ⟨g, 6, none⟩ = some (.int .i64 e.verb) ∧ W.cell? ⟨g, 7, none⟩ = some (.string e.object) ∧ W.cell? ⟨g, 8, none⟩ = some (.int .i64 e.verdict)
theorem EBox.keep {W W' : World} {g : Nat} {e : Ent} (h : EBox W g e) (b : Below (g + 1) W W') : EBox W' g e := by
  obtain ⟨h0, h1, h2, h3, h4, h5, h6, h7, h8⟩ := h
  have c : ∀ k, W'.cell? ⟨g, k, none⟩ = W.cell? ⟨g, k, none⟩ := fun k => b.cell (p := ⟨g, k, none⟩) (Nat.lt_succ_self g)
  exact ⟨(c _).trans h0, (c _).trans h1, (c _).trans h2, (c _).trans h3, (c _).trans h4, (c _).trans h5, (c _).trans h6, (c _).trans h7, (c _).trans h8⟩
def ecells (e : Ent) : Array Value := #[.int .i64 e.seq, .int .i64 e.label.s, .int .i64 e.label.c, .int .i64 e.label.i, .int .i64 e.label.k, .string e.user, .int .i64 e.verb, .string e.object, .int .i64 e.verdict]
theorem ebox_alloc (w : World) (e : Ent) (T : TypeId) : EBox (w.alloc (.cells (ecells e) T)) w.heap.size e := by
  refine ⟨?_, ?_, ?_, ?_, ?_, ?_, ?_, ?_, ?_⟩ <;> (rw [World.cell?_alloc_at _ _ _ _ rfl]; rfl)

end Go.Proofs.Ytajondkpdgiolaa
