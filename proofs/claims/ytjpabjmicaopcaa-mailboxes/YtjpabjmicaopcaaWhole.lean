/-
  WHOLE STRUCTS AT ONCE: loaded, stored, handed back, whatever their number of cells. For every stage from the tenth on.
-/
import Derived.Test.YtjpabjmicaopcaaRws
import Derived.Test.YtjpabjmicaopcaaBlk
import Derived.Deep.MidRow
namespace Go.Proofs.Ytjpabjmicaopcaa
open Go.RowKit
set_option maxRecDepth 8000
set_option linter.unusedSimpArgs false
set_option linter.unusedVariables false

theorem Blk.range {W : World} {b : Nat} {vs : List Value} (h : Blk W b vs) : W.rangeAt b 0 vs := fun j v hv => by
  rw [Nat.zero_add]
  exact (h j v hv).1
theorem Blk.there {W : World} {b : Nat} {vs : List Value} (h : Blk W b vs) : W.there b 0 vs.length := fun j hj => by
  rw [Nat.zero_add]
  have := h j vs[j] (List.getElem?_eq_getElem hj)
  exact ⟨by rw [this.1]; rfl, this.2⟩
theorem blk_of {W : World} {b : Nat} {vs : List Value} (h1 : W.rangeAt b 0 vs) (h2 : W.there b 0 vs.length) : Blk W b vs := fun k v hv => by
  have hk := (List.getElem?_eq_some_iff.1 hv).1
  have e1 := h1 k v hv
  have e2 := (h2 k hk).2
  rw [Nat.zero_add] at e1 e2
  exact ⟨e1, e2⟩
theorem Blk.setAll {W : World} {b : Nat} {vs cs : List Value} (h : Blk W b vs) (hl : vs.length = cs.length) : Blk (W.setCells b 0 cs) b cs := by
  have ht : W.there b 0 cs.length := by rw [← hl]; exact h.there
  exact blk_of (World.rangeAt_setCells_same W b 0 cs ht) (World.there_setCells ht b 0 cs)
theorem Below.cells {B : Nat} {a : World} {b : Nat} (hp : B ≤ b) : ∀ (vs : List Value) (o : Nat) {w : World} (_ : Below B a w), Below B a (w.setCells b o vs)
  | [], _, _, h => h
  | v :: r, o, _, h => Below.cells hp r (o + 1) (h.setCell (p := ⟨b, o, none⟩) hp v)
theorem heap_setCells_other {b k : Nat} (hk : k ≠ b) : ∀ (vs : List Value) (o : Nat) (w : World), (w.setCells b o vs).heap[k]? = w.heap[k]?
  | [], _, _ => rfl
  | v :: r, o, w => (heap_setCells_other hk r (o + 1) _).trans (heap_setCell_other _ ⟨b, o, none⟩ k _ hk)
theorem OwnR.setAll {α : Type} {e : TypeId} {sz : Nat} {f : α → List Value} {w : World} {base g : Nat} {v : Value} {l : List α} (h : OwnR e sz f w base v l) (hg : v.ownBlock ≠ some g) (vs : List Value) : OwnR e sz f (w.setCells g 0 vs) base v l :=
  h.keep fun k hk => heap_setCells_other (fun q => hg (by rw [hk, q])) vs 0 w
section
variable {ops : Array Oper} {rest : List Oper} {o : Oper} {a : Act} {w W : World} {Q : Exit → Act → World → Prop} {T : TypeId} {d : TypeDesc}
theorem wpList_load_row (hg : o.guard = none) (x : Operand) (ho : o.op = .load T x) (b : Nat) (hx : a.eval x = .pointer (some ⟨b, 0, none⟩)) (cs : List Value) (hc : w.rangeAt b 0 cs)
    (hu : Try.prog.underlying T = some d) (hd : d.isRow = true) (hi : (Try.prog.info? T).map (·.size) = some cs.length)
    (h : wpList Try.prog ops Q rest (a.put o.dst (.agg cs.toArray)) w) : wpList Try.prog ops Q (o :: rest) a w := wpList_load_mid hg T x ho b 0 hx cs d hc hu hd hi h
theorem wpList_store_row (hg : o.guard = none) (x y : Operand) (ho : o.op = .store T x y) (b : Nat) (hx : a.eval x = .pointer (some ⟨b, 0, none⟩)) (cs : List Value) (hy : a.eval y = .agg cs.toArray)
    (ht : w.there b 0 cs.length) (hi : (Try.prog.info? T).map (·.size) = some cs.length) (h1 : ∀ v ∈ cs, v.oneCell' = true) (hW : w.setCells b 0 cs = W)
    (h : wpList Try.prog ops Q rest (a.put o.dst undef) W) : wpList Try.prog ops Q (o :: rest) a w :=
  wpList_store_mid hg T x y ho b 0 cs.toArray hx hy ht hi (all_oneCell_toArray h1) (hW ▸ h)
end
section
variable {ops : Array Oper} {rest : List Oper} {o : Oper} {a : Act} {w : World} {Q : Exit → Act → World → Prop} {T : TypeId} {d : TypeDesc} {S : World → Prop}
/-- In a region that draws its order. -/
theorem yields_row (hw : Region.wanted o (yielded ops a.tmps) = true) (x : Operand) (ho : o.op = .load T x) (b : Nat) (hx : a.eval x = .pointer (some ⟨b, 0, none⟩)) (cs : List Value) (hS : ∀ w, S w → w.rangeAt b 0 cs)
    (hu : Try.prog.underlying T = some d) (hd : d.isRow = true) (hi : (Try.prog.info? T).map (·.size) = some cs.length) : YieldsIf Try.prog ops S o (.agg cs.toArray) a := yieldsIf_load_mid hw T x ho b 0 hx cs d hS hu hd hi
theorem yields_conv {t u : TypeId} {v r : Value} (hw : Region.wanted o (yielded ops a.tmps) = true) (x : Operand) (ho : o.op = .convert t u x) (hx : a.eval x = v) (hS : ∀ w, S w → (convert t u v).run Try.prog w = .ok r w) : YieldsIf Try.prog ops S o r a :=
  .inl ⟨hw, fun w hw' => by
    unfold execOp
    simp only [ho, hx, Sem.run_bind, hS w hw', Result.andThen_ok]
    rfl⟩
/-- A load under a guard that lets it be. -/
theorem wpList_load_rowg (hw : Region.wanted o (yielded ops a.tmps) = true) (x : Operand) (ho : o.op = .load T x) (b : Nat) (hx : a.eval x = .pointer (some ⟨b, 0, none⟩)) (cs : List Value) (hc : w.rangeAt b 0 cs)
    (hu : Try.prog.underlying T = some d) (hd : d.isRow = true) (hi : (Try.prog.info? T).map (·.size) = some cs.length)
    (h : wpList Try.prog ops Q rest (a.put o.dst (.agg cs.toArray)) w) : wpList Try.prog ops Q (o :: rest) a w := wpList_step fun K hK => by
  rw [if_pos hw]
  exact wp_load_mid T x ho b 0 hx cs d hc hu hd hi (hK _ _ h)
end
/-- What a function hands back whose results are a struct of the call's own, and a value beside it. -/
theorem results_row2 {fn : Func} {p q : Tmp} {T : TypeId} {d : TypeDesc} (h : fn.results = #[.cell p T, .tmp q]) (tmps : Array Value) (w : World) (g : Nat) (hp : tmps.getD p undef = .pointer (some ⟨g, 0, none⟩)) (v : Value) (hv : tmps.getD q undef = v) (cs : List Value) (hr : w.rangeAt g 0 cs)
    (hu : Try.prog.underlying T = some d) (hd : d.isRow = true) (hi : (Try.prog.info? T).map (·.size) = some cs.length) :
    (results fn tmps).run Try.prog w = .ok (.tuple #[.agg cs.toArray, v]) w := by
  have hp' : tmps[p]?.getD undef = .pointer (some ⟨g, 0, none⟩) := by simpa using hp
  have hv' : tmps[q]?.getD undef = v := by simpa using hv
  have e := run_loadVar_mid (P := Try.prog) w g 0 T cs d hr hu hd hi
  simp [results, h, hp', hv', asAddr, e]
theorem results_row1 {fn : Func} {p : Tmp} {T : TypeId} {d : TypeDesc} (h : fn.results = #[.cell p T]) (tmps : Array Value) (w : World) (g : Nat) (hp : tmps.getD p undef = .pointer (some ⟨g, 0, none⟩)) (cs : List Value) (hr : w.rangeAt g 0 cs)
    (hu : Try.prog.underlying T = some d) (hd : d.isRow = true) (hi : (Try.prog.info? T).map (·.size) = some cs.length) :
    (results fn tmps).run Try.prog w = .ok (.agg cs.toArray) w := by
  have hp' : tmps[p]?.getD undef = .pointer (some ⟨g, 0, none⟩) := by simpa using hp
  have e := run_loadVar_mid (P := Try.prog) w g 0 T cs d hr hu hd hi
  simp [results, h, hp', asAddr, e]
  try rfl
end Go.Proofs.Ytjpabjmicaopcaa
