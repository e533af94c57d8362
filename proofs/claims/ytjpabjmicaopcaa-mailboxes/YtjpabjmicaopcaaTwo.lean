/-
  LABELS IN BLOCKS OF THE LAW'S OWN, turned where they lie. For every stage from the twelfth on.
-/
import Derived.Test.YtjpabjmicaopcaaMids
import Derived.Deep.RegionHeld
import Derived.Deep.CutBlock
namespace Go.Proofs.Ytjpabjmicaopcaa
open Go.RowKit
set_option maxRecDepth 8000
set_option linter.unusedSimpArgs false
set_option linter.unusedVariables false

abbrev lab4 (t : Lab) : List Value := [.int .i64 t.s, .int .i64 t.c, .int .i64 t.i, .int .i64 t.k]
theorem lab4_one (t : Lab) : ∀ v ∈ lab4 t, v.oneCell' = true := by
  intro v hv
  simp only [List.mem_cons, List.not_mem_nil, or_false] at hv
  rcases hv with rfl | rfl | rfl | rfl <;> rfl
theorem size_setCells (b : Nat) : ∀ (vs : List Value) (o : Nat) (w : World), (w.setCells b o vs).heap.size = w.heap.size
  | [], _, _ => rfl
  | v :: r, o, w => by
    show ((w.setCell ⟨b, o, none⟩ v).setCells b (o + 1) r).heap.size = _
    rw [size_setCells b r (o + 1)]
    simp
/-- Another block, behind a store. -/
theorem BlkL.other {g b o : Nat} {cs vs : List Value} {W W' : World} (h : BlkL g cs W) (hw : W.setCells b o vs = W') (hne : g ≠ b) : BlkL g cs W' := by
  subst hw
  exact ⟨h.1.same (heap_setCells_other hne vs o W), by rw [size_setCells]; exact h.2⟩
section
variable {ops : Array Oper} {o : Oper} {a : Act} {w : World} {Q : Exit → Act → World → Prop} {T : TypeId} {d : TypeDesc}
theorem step_load_row {K : Act → World → Prop} {E : Prop} (hg : o.guard = none) (x : Operand) (ho : o.op = .load T x) (b : Nat) (hx : a.eval x = .pointer (some ⟨b, 0, none⟩)) (cs : List Value) (hc : w.rangeAt b 0 cs)
    (hu : Try.prog.underlying T = some d) (hd : d.isRow = true) (hi : (Try.prog.info? T).map (·.size) = some cs.length) (hK : K (a.put o.dst (.agg cs.toArray)) w) :
    if Region.wanted o (yielded ops a.tmps) = true then Oper.wp Try.prog o a w K Q else E := by
  have hw : Region.wanted o (yielded ops a.tmps) = true := by simp [Region.wanted, hg]
  rw [if_pos hw]
  exact wp_load_mid T x ho b 0 hx cs d hc hu hd hi hK
end
end Go.Proofs.Ytjpabjmicaopcaa
