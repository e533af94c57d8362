/-
  SMALL THINGS THAT EVERY STAGE'S TEXTS SHARE: worlds one behind the other, hypotheses laid aside, an operation by its run.
-/
import Derived.Test.YtjpabjmicaopcaaProg
import Derived.WalkKit
import Derived.WalkLawsBesides
import Derived.Laws.AppendOwn
import Derived.Laws.OwnMore
import Derived.KernelRfl
import Derived.ProofKit
import Derived.Below
namespace Go.Proofs.Ytjpabjmicaopcaa
open Go.RowKit
set_option maxRecDepth 8000
set_option linter.unusedSimpArgs false
set_option linter.unusedVariables false

theorem Below.then {w W W' : World} (h : Below w.heap.size w W) (k : Below W.heap.size W W') : Below w.heap.size w W' := h.trans (k.mono h.size)
def Aside (p : Prop) : Prop := p
theorem Aside.out {p : Prop} (h : Aside p) : p := h
theorem add_at (g j : Nat) : (⟨g, 0, none⟩ : Addr).add j = ⟨g, j, none⟩ := by
  simp [Addr.add]
  exact fun h => h.symm
theorem add_off (y : Addr) (m i : Nat) (h : i ≠ 0) : y.add (m + i) = ⟨(y.add m).block, (y.add m).off + i, none⟩ := by
  unfold Addr.add
  by_cases hm : m = 0
  · simp [hm, h]
  · rw [if_neg (by omega), if_neg hm]
    simp [Nat.add_assoc]
section
variable {ops : Array Oper} {rest : List Oper} {o : Oper} {a : Act} {w : World} {Q : Exit → Act → World → Prop}
theorem wpList_value {P : Program} (hg : o.guard = none) {v : Value} {w' : World} (hx : (execOp a.eval o).run P w = .ok (.value v) w') (h : wpList P ops Q rest (a.put o.dst v) w') : wpList P ops Q (o :: rest) a w :=
  wpList_plain hg fun _ hK => by
    unfold Oper.wp
    rw [hx]
    exact hK _ _ h
end
end Go.Proofs.Ytjpabjmicaopcaa
