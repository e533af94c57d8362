/-
  LISTS OF GRANTS IN MEMORY, and the search for a user's place: acl.find, slices.BinarySearchFunc, strings.Compare.
-/
import Derived.Test.YtajondkpdgiolaaLAclPure
import Derived.WalkLawsBesides
import Derived.Below
import Derived.Deep.RegionHeld
import Derived.Deep.LoopGhost
namespace Go.Proofs.Ytajondkpdgiolaa
open Go.RowKit
set_option maxRecDepth 8000

/-- A list's grants lie there. -/
def GAt (w : World) (a : Option Addr) (l : List Gr) : Prop :=
  ∀ j g, l[j]? = some g → ∃ x, a = some x ∧ w.cell? (x.add (j * 2)) = some (.string g.u) ∧ w.cell? ⟨(x.add (j * 2)).block, (x.add (j * 2)).off + 1, none⟩ = some (.int .i64 g.m)
theorem GAt.below {w w' : World} {a : Option Addr} {l : List Gr} (h : GAt w a l) (b : Below w.heap.size w w') : GAt w' a l := by
  intro j g hg
  obtain ⟨x, hx, h1, h2⟩ := h j g hg
  exact ⟨x, hx, (b.cell (World.block_lt_of_cell? _ _ h1)).trans h1, (b.cell (World.block_lt_of_cell? _ _ h2)).trans h2⟩
theorem GAt.drew {w : World} {a : Option Addr} {l : List Gr} (h : GAt w a l) : GAt w.drew a l := h
end Go.Proofs.Ytajondkpdgiolaa
