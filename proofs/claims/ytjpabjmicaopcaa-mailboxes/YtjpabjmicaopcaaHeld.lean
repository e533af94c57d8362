/-
  WHAT A LAW HOLDS WHILE CALLS MAKE MEMORY OF THEIR OWN: a list of facts, each kept by whatever turns nothing that is there. For every stage from the tenth on.
-/
import Derived.Test.YtjpabjmicaopcaaWhole
namespace Go.Proofs.Ytjpabjmicaopcaa
open Go.RowKit
set_option maxRecDepth 8000
set_option linter.unusedSimpArgs false
set_option linter.unusedVariables false

def Stab (k : World → Prop) : Prop := ∀ W W', k W → Below W.heap.size W W' → k W'
structure Held (w W : World) (ks : List (World → Prop)) : Prop where
  k : ∀ k ∈ ks, k W ∧ Stab k
  bl : Below w.heap.size w W
section
variable {w W W' : World} {ks : List (World → Prop)} {k : World → Prop}
theorem Held.then (h : Held w W ks) (b : Below W.heap.size W W') : Held w W' ks := ⟨fun k hk => ⟨(h.k k hk).2 _ _ (h.k k hk).1 b, (h.k k hk).2⟩, Below.then h.bl b⟩
theorem Held.drew (h : Held w W ks) : Held w W.drew ks := h.then (Below.refl _ _).drew
theorem held_nil (w : World) : Held w w [] := ⟨fun _ h => by simp at h, Below.refl _ _⟩
theorem Held.add (h : Held w W ks) (hk : k W) (hs : Stab k) : Held w W (k :: ks) := ⟨fun j hj => by
  rcases List.mem_cons.1 hj with rfl | hj
  · exact ⟨hk, hs⟩
  · exact h.k j hj, h.bl⟩
theorem Held.get (h : Held w W ks) {i : Nat} (hi : ks[i]? = some k) : k W := (h.k k (List.mem_of_getElem? hi)).1
end
/-- A struct in a block of the law's own. -/
def BlkL (g : Nat) (cs : List Value) (W : World) : Prop := Blk W g cs ∧ g < W.heap.size
theorem stab_blk (g : Nat) (cs : List Value) : Stab (BlkL g cs) := fun W W' h b => ⟨h.1.same (b.block _ h.2), Nat.lt_of_lt_of_le h.2 b.size⟩
theorem BlkL.range {g : Nat} {cs : List Value} {W : World} (h : BlkL g cs W) : W.rangeAt g 0 cs := h.1.range
theorem blkl_alloc (w : World) (cs : Array Value) (T : TypeId) : BlkL w.heap.size cs.toList (w.alloc (.cells cs T)) := ⟨blk_alloc w cs T, by simp⟩
/-- A struct put into a block that was just made. -/
theorem put_new (W : World) (zs : Array Value) (T : TypeId) (cs : List Value) (hl : cs.length = zs.size) (hp : 0 < cs.length) : ∃ W', (W.alloc (.cells zs T)).setCells W.heap.size 0 cs = W' ∧ (W.alloc (.cells zs T)).there W.heap.size 0 cs.length ∧ BlkL W.heap.size cs W' ∧ Below W.heap.size W W' := by
  have hb := blk_alloc W zs T
  have hl' : zs.toList.length = cs.length := by simp [hl]
  have hs := hb.setAll hl'
  refine ⟨_, rfl, ?_, ⟨hs, ?_⟩, Below.cells (Nat.le_refl _) cs 0 (alloc_below _ _)⟩
  · rw [← hl']
    exact hb.there
  · obtain ⟨v, hv⟩ : ∃ v, cs[0]? = some v := ⟨_, List.getElem?_eq_getElem hp⟩
    exact hs.lt hv
end Go.Proofs.Ytjpabjmicaopcaa
