/-
  GRANTS, AND WHERE THEIR ROWS LIE. For every stage behind the fifth.
-/
import Derived.Test.YtajondkpdgiolaaLabs
namespace Go.Proofs.Ytajondkpdgiolaa
open Go.RowKit
set_option maxRecDepth 8000
set_option linter.unusedSimpArgs false
set_option linter.unusedVariables false

structure Gr where
  u : ByteArray
  m : Int
abbrev Gr.v (g : Gr) : Value := .agg #[.string g.u, .int .i64 g.m]
abbrev zGr : Gr := ⟨⟨#[]⟩, 0⟩
def GrsAt (W : World) (a : Option Addr) (l : List Gr) : Prop := ∀ j q, l[j]? = some q → ∃ y, a = some y ∧ W.cell? (y.add (j * 2)) = some (.string q.u) ∧ W.cell? ⟨(y.add (j * 2)).block, (y.add (j * 2)).off + 1, none⟩ = some (.int .i64 q.m)
theorem GrsAt.below {W W' : World} {a : Option Addr} {l : List Gr} (h : GrsAt W a l) (b : Below W.heap.size W W') : GrsAt W' a l := fun j q hq => by
  obtain ⟨y, hy, h1, h2⟩ := h j q hq
  exact ⟨y, hy, (b.cell (World.block_lt_of_cell? _ _ h1)).trans h1, (b.cell (p := ⟨(y.add (j * 2)).block, _, none⟩) (World.block_lt_of_cell? _ _ h2)).trans h2⟩
end Go.Proofs.Ytajondkpdgiolaa
