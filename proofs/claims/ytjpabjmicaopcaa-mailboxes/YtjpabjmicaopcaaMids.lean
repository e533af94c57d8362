/-
  PARTS OF A STRUCT'S BLOCK, stored whole: what the block holds then. For every stage from the eleventh on.
-/
import Derived.Test.YtjpabjmicaopcaaLoadAny
import Derived.Test.YtjpabjmicaopcaaHeld
namespace Go.Proofs.Ytjpabjmicaopcaa
open Go.RowKit
set_option maxRecDepth 8000
set_option linter.unusedSimpArgs false
set_option linter.unusedVariables false

def setM : List Value → Nat → List Value → List Value
  | cs, _, [] => cs
  | cs, k, v :: r => setM (cs.set k v) (k + 1) r
theorem setM_len : ∀ (vs : List Value) (cs : List Value) (k : Nat), (setM cs k vs).length = cs.length
  | [], _, _ => rfl
  | v :: r, cs, k => by rw [setM, setM_len r, List.length_set]
theorem Blk.putM : ∀ (vs : List Value) {W : World} {b : Nat} {cs : List Value} (k : Nat), Blk W b cs → k + vs.length ≤ cs.length → Blk (W.setCells b k vs) b (setM cs k vs)
  | [], _, _, _, _, h, _ => h
  | v :: r, W, b, cs, k, h, hl => by
    simp at hl
    exact Blk.putM r (k + 1) (h.set k v (by omega)) (by simp; omega)
theorem Blk.thereM {W : World} {b : Nat} {cs : List Value} (h : Blk W b cs) (k m : Nat) (hl : k + m ≤ cs.length) : W.there b k m := fun j hj => by
  have := h (k + j) cs[k + j] (List.getElem?_eq_getElem (by omega))
  exact ⟨by rw [this.1]; rfl, this.2⟩
/-- A part of a struct's block is stored: the block, and what lies elsewhere. -/
theorem put_mid {W : World} {b : Nat} {cs : List Value} (h : BlkL b cs W) (k : Nat) (vs : List Value) (hl : k + vs.length ≤ cs.length) (hp : 0 < cs.length) {Z : World} (hb : Below Z.heap.size Z W) (hz : Z.heap.size ≤ b) :
    ∃ W', W.setCells b k vs = W' ∧ W.there b k vs.length ∧ BlkL b (setM cs k vs) W' ∧ Below Z.heap.size Z W' := by
  have h1 := Blk.putM vs k h.1 hl
  refine ⟨_, rfl, h.1.thereM k vs.length hl, ⟨h1, ?_⟩, Below.cells hz vs k hb⟩
  have hl2 : 0 < (setM cs k vs).length := by rw [setM_len]; exact hp
  exact h1.lt (List.getElem?_eq_getElem hl2)
theorem OwnR.mid {α : Type} {e : TypeId} {sz : Nat} {f : α → List Value} {w : World} {base g : Nat} {v : Value} {l : List α} (h : OwnR e sz f w base v l) (hg : v.ownBlock ≠ some g) (o : Nat) (vs : List Value) : OwnR e sz f (w.setCells g o vs) base v l :=
  h.keep fun k hk => heap_setCells_other (fun q => hg (by rw [hk, q])) vs o w
section
variable {ops : Array Oper} {rest : List Oper} {o : Oper} {a : Act} {w W : World} {Q : Exit → Act → World → Prop} {T : TypeId}
theorem wpList_store_part (hg : o.guard = none) (x y : Operand) (ho : o.op = .store T x y) (b k : Nat) (hx : a.eval x = .pointer (some ⟨b, k, none⟩)) (cs : List Value) (hy : a.eval y = .agg cs.toArray)
    (ht : w.there b k cs.length) (hi : (Try.prog.info? T).map (·.size) = some cs.length) (h1 : ∀ v ∈ cs, v.oneCell' = true) (hW : w.setCells b k cs = W)
    (h : wpList Try.prog ops Q rest (a.put o.dst undef) W) : wpList Try.prog ops Q (o :: rest) a w :=
  wpList_store_mid hg T x y ho b k cs.toArray hx hy ht hi (all_oneCell_toArray h1) (hW ▸ h)
theorem step_store_part {K : Act → World → Prop} {E : Prop} (hg : o.guard = none) (x y : Operand) (ho : o.op = .store T x y) (b k : Nat) (hx : a.eval x = .pointer (some ⟨b, k, none⟩)) (cs : List Value) (hy : a.eval y = .agg cs.toArray)
    (ht : w.there b k cs.length) (hi : (Try.prog.info? T).map (·.size) = some cs.length) (h1 : ∀ v ∈ cs, v.oneCell' = true) (hW : w.setCells b k cs = W) (hK : K (a.put o.dst undef) W) :
    if Region.wanted o (yielded ops a.tmps) = true then Oper.wp Try.prog o a w K Q else E := by
  have hw : Region.wanted o (yielded ops a.tmps) = true := by simp [Region.wanted, hg]
  rw [if_pos hw]
  exact wp_store_mid T x y ho b k cs.toArray hx hy ht hi (all_oneCell_toArray h1) (hW ▸ hK)
end
end Go.Proofs.Ytjpabjmicaopcaa
