/-
  WHERE THE LANDED READER'S message, entry, node STAND: the reader, the answer's block, the block that is filled.
-/
import Derived.Test.YtecleampjeebaaaNodeRows
namespace Go.Proofs.Ytecleampjeebaaa
open Go.RowKit
set_option linter.unusedSimpArgs false
set_option linter.unusedVariables false

theorem num8_bad {l : List UInt8} {r : Rd} (h : r.err ≠ 0) : numR8 l r = r := numR_bad h 8
theorem grsR_bad {l : List UInt8} {r : Rd} (h : r.err ≠ 0) : grsR l r = r := by
  unfold grsR
  rw [u8R_bad h, grT_bad h]
theorem wdsR_bad {l : List UInt8} {r : Rd} (h : r.err ≠ 0) : wdsR l r = r := by
  unfold wdsR
  rw [u8R_bad h, wdT_bad h]
def setL : List Value → Nat → List Value → List Value
  | cs, _, [] => cs
  | cs, k, v :: r => setL (cs.set k v) (k + 1) r
theorem setL_len : ∀ (vs : List Value) (cs : List Value) (k : Nat), (setL cs k vs).length = cs.length
  | [], _, _ => rfl
  | v :: r, cs, k => by rw [setL, setL_len r, List.length_set]
theorem Blk.put : ∀ (vs : List Value) {W : World} {b : Nat} {cs : List Value} (k : Nat), Blk W b cs → k + vs.length ≤ cs.length → Blk (W.setCells b k vs) b (setL cs k vs)
  | [], _, _, _, _, h, _ => h
  | v :: r, W, b, cs, k, h, hl => by
    simp at hl
    exact Blk.put r (k + 1) (h.set k v (by omega)) (by simp; omega)
theorem OwnR.setMid {α : Type} {e : TypeId} {sz : Nat} {f : α → List Value} {w : World} {base g : Nat} {v : Value} {l : List α} (h : OwnR e sz f w base v l) (hg : g < base) (o : Nat) (vs : List Value) : OwnR e sz f (w.setCells g o vs) base v l :=
  h.keep fun k hk => heap_setCells_other (fun q => by have := (h.lt hk).1; omega) vs o w
/-- The reader, the answer's block, the block that is filled. -/
structure St2 (w W : World) (g B : Nat) (l : List UInt8) (p : Nat) (zs cs : List Value) : Prop where
  rd : RdN W g B l p
  m2 : Blk W w.heap.size zs
  m3 : Blk W (w.heap.size + 1) cs
  rs : Rest g w W
  lt : B ≤ w.heap.size
  two : w.heap.size + 2 ≤ W.heap.size
section
variable {w W W' : World} {g B p p' : Nat} {l : List UInt8} {zs cs : List Value}
theorem st_start (h : RdN w g B l p) (zs cs : Array Value) (T U : TypeId) : St2 w ((w.alloc (.cells zs T)).alloc (.cells cs U)) g B l p zs.toList cs.toList := by
  have b1 := alloc_below w (.cells zs T)
  have m2 := blk_alloc w zs T
  have s1 := World.size_alloc w (.cells zs T)
  generalize w.alloc (.cells zs T) = W1 at *
  have b2 := alloc_below W1 (.cells cs U)
  have m3 := blk_alloc W1 cs U
  have s2 := World.size_alloc W1 (.cells cs U)
  rw [s1] at m3
  have hB := Below.then b1 b2
  exact ⟨h.past (hB.mono h.lt.2), m2.same (b2.block _ (by omega)), m3, (Rest.refl _ _).past (Nat.le_refl _) hB, h.lt.2, by rw [s2]; omega⟩
theorem St2.call (h : St2 w W g B l p zs cs) (hr : RdN W' g B l p') (ht : Rest g W W') : St2 w W' g B l p' zs cs := by
  have h1 := hr.lt.1
  have h2 := h.lt
  have h3 := h.two
  exact ⟨hr, h.m2.same (ht.block _ (by omega) (fun q => by injection q; omega)), h.m3.same (ht.block _ (by omega) (fun q => by injection q; omega)), h.rs.trans ht, h.lt, Nat.le_trans h.two ht.size⟩
theorem St2.there (h : St2 w W g B l p zs cs) (k n : Nat) (hk : k + n ≤ cs.length) : W.there (w.heap.size + 1) k n := fun j hj => by
  obtain ⟨v, hv⟩ : ∃ v, cs[k + j]? = some v := ⟨_, List.getElem?_eq_getElem (by omega)⟩
  have := h.m3 (k + j) v hv
  exact ⟨by rw [this.1]; rfl, this.2⟩
theorem St2.put (h : St2 w W g B l p zs cs) (k : Nat) (vs : List Value) (hk : k + vs.length ≤ cs.length) : St2 w (W.setCells (w.heap.size + 1) k vs) g B l p zs (setL cs k vs) := by
  have b : Below (w.heap.size + 1) W (W.setCells (w.heap.size + 1) k vs) := Below.cells (Nat.le_refl _) vs k (Below.refl _ _)
  have h2 := h.lt
  exact ⟨h.rd.past (b.mono (by omega)), h.m2.same (b.block _ (by omega)), h.m3.put vs k hk, h.rs.past (by omega) b, h.lt, Nat.le_trans h.two b.size⟩
theorem St2.out (h : St2 w W g B l p zs cs) (vs : List Value) (hv : vs.length = zs.length) : (W.setCells w.heap.size 0 vs).rangeAt w.heap.size 0 vs ∧ Rest g w (W.setCells w.heap.size 0 vs) ∧ RdN (W.setCells w.heap.size 0 vs) g B l p := by
  have b : Below w.heap.size W (W.setCells w.heap.size 0 vs) := Below.cells (Nat.le_refl _) vs 0 (Below.refl _ _)
  exact ⟨(h.m2.setAll hv.symm).range, h.rs.past (Nat.le_refl _) b, h.rd.past (b.mono h.lt)⟩
end
section
variable {ops : Array Oper} {rest : List Oper} {o : Oper} {a : Act} {w W : World} {Q : Exit → Act → World → Prop} {T : TypeId}
theorem wpList_store_midw (hg : o.guard = none) (x y : Operand) (ho : o.op = .store T x y) (b k : Nat) (hx : a.eval x = .pointer (some ⟨b, k, none⟩)) (cs : List Value) (hy : a.eval y = .agg cs.toArray)
    (ht : w.there b k cs.length) (hi : (Try.prog.info? T).map (·.size) = some cs.length) (h1 : ∀ v ∈ cs, v.oneCell' = true) (hW : w.setCells b k cs = W)
    (h : wpList Try.prog ops Q rest (a.put o.dst undef) W) : wpList Try.prog ops Q (o :: rest) a w :=
  wpList_store_mid hg T x y ho b k cs.toArray hx hy ht hi (all_oneCell_toArray h1) (hW ▸ h)
end
end Go.Proofs.Ytecleampjeebaaa
