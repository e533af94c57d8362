/-
  A BLOCK OF THE CALL'S OWN, CELL BY CELL: what it holds, and that it may be stored to.
-/
import Derived.Test.YtjpabjmicaopcaaCommon
namespace Go.Proofs.Ytjpabjmicaopcaa
open Go.RowKit
set_option maxRecDepth 8000
set_option linter.unusedSimpArgs false
set_option linter.unusedVariables false

def Blk (W : World) (b : Nat) (vs : List Value) : Prop := ∀ k v, vs[k]? = some v → W.cell? ⟨b, k, none⟩ = some v ∧ W.frozen? ⟨b, k, none⟩ = false
theorem Blk.same {W W' : World} {b : Nat} {vs : List Value} (h : Blk W b vs) (hb : W'.heap[b]? = W.heap[b]?) : Blk W' b vs := fun k v hv =>
  ⟨(World.cell?_of_block (a := ⟨b, k, none⟩) hb).trans (h k v hv).1, (World.frozen?_of_block (a := ⟨b, k, none⟩) hb).trans (h k v hv).2⟩
theorem blk_alloc (w : World) (cs : Array Value) (T : TypeId) : Blk (w.alloc (.cells cs T)) w.heap.size cs.toList := fun k v hv =>
  ⟨by rw [World.cell?_alloc_at _ _ _ _ rfl]; simpa using hv, World.frozen?_alloc_new w cs T k⟩
theorem Blk.lt {W : World} {b : Nat} {vs : List Value} (h : Blk W b vs) {v : Value} (h0 : vs[0]? = some v) : b < W.heap.size := World.block_lt_of_cell? _ ⟨b, 0, none⟩ (h 0 v h0).1
theorem Blk.set {W : World} {b : Nat} {vs : List Value} (h : Blk W b vs) (k : Nat) (v : Value) (hk : k < vs.length) : Blk (W.setCell ⟨b, k, none⟩ v) b (vs.set k v) := fun j u hu => by
  by_cases hj : k = j
  · subst hj
    rw [List.getElem?_set_self hk] at hu
    obtain rfl := Option.some.inj hu
    obtain ⟨h1, h2⟩ := h k vs[k] (List.getElem?_eq_getElem hk)
    exact ⟨by simp [World.cell?_setCell_same', h1], by simp [World.frozen?_setCell, h2]⟩
  · rw [List.getElem?_set_ne hj] at hu
    obtain ⟨h1, h2⟩ := h j u hu
    exact ⟨by rw [World.cell?_setCell_other]; exact h1; simp [hj], by simp [World.frozen?_setCell, h2]⟩
end Go.Proofs.Ytjpabjmicaopcaa
