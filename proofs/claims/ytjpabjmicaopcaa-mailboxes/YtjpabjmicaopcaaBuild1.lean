/-
  A ROW OF ONE STRUCT, BUILT (append of a struct). For every stage from the eleventh on.
-/
import Derived.Test.YtjpabjmicaopcaaLoadAny
import Derived.Great.BuildSlice
namespace Go.Proofs.Ytjpabjmicaopcaa
open Go.RowKit
set_option maxRecDepth 8000
set_option linter.unusedSimpArgs false
set_option linter.unusedVariables false

theorem fill_one {s : Nat} (hs : 0 < s) (zs : Array Value) (cs : List Value) (hz : zs.size = s) (hc : cs.length = s) : Instr.fill (fun i => some (i * s, s)) zs [(0, .agg cs.toArray)] = some cs.toArray := by
  obtain ⟨r, h1, h2, h3⟩ := Great.fill_dense hs [.agg cs.toArray] 0 zs (fun v hv => by rw [List.mem_singleton] at hv; subst hv; simp [Value.cells, hc]) (by simp [hz])
  rw [show ([Value.agg cs.toArray].zipIdx 0).map (fun x => (x.2, x.1)) = [(0, .agg cs.toArray)] from rfl] at h1
  rw [h1]
  congr 1
  apply Array.ext_getElem?
  intro k
  rw [h3 k]
  by_cases hk : k < s
  · rw [if_pos (by simp; omega)]
    simp [Nat.div_eq_of_lt hk, Nat.mod_eq_of_lt hk, Value.cells]
  · rw [if_neg (by simp; omega)]
    simp [Array.getElem?_eq_none (show zs.size ≤ k by omega), List.getElem?_eq_none (show cs.length ≤ k by omega)]
section
variable {ops : Array Oper} {rest : List Oper} {o : Oper} {a : Act} {w : World} {Q : Exit → Act → World → Prop}
theorem run_build1 {α : Type} {e t : TypeId} {sz : Nat} {f : α → List Value} (hE : ElemOk e t sz f) (hsz : sz ≤ 1000) (w : World) (cs : List Value) (hc : cs.length = sz) : (Instr.buildSlice t 1 #[(0, .agg cs.toArray)]).run Try.prog w = .ok (.slice (some ⟨w.heap.size, 0, none⟩) 1 1) (w.alloc (.cells cs.toArray e)) := by
  obtain ⟨i, z, b, hi, hz, hs, hb, hzs, hbb⟩ := hE.info
  have hp := hE.pos
  refine run_buildSlice (P := Try.prog) w t e 1 #[(0, .agg cs.toArray)] cs.toArray i z hE.und hi hz (by rw [hs]; omega) (by rw [hs]; omega) ?_
  rw [hs, Nat.one_mul]
  exact fill_one hp _ cs (by simp) hc
theorem wpList_build1 {α : Type} {e t : TypeId} {sz : Nat} {f : α → List Value} (hE : ElemOk e t sz f) (hsz : sz ≤ 1000) (hg : o.guard = none) (x : Operand) (ho : o.op = .buildSlice t 1 #[(0, x)]) (cs : List Value) (hx : a.eval x = .agg cs.toArray) (hc : cs.length = sz)
    (h : wpList Try.prog ops Q rest (a.put o.dst (.slice (some ⟨w.heap.size, 0, none⟩) 1 1)) (w.alloc (.cells cs.toArray e))) : wpList Try.prog ops Q (o :: rest) a w := by
  refine wpList_value hg ?_ h
  unfold execOp
  have hr := run_build1 hE hsz w cs hc
  simp [ho, hx, hr, Result.andThen]
  try rfl
theorem step_build1 {α : Type} {e t : TypeId} {sz : Nat} {f : α → List Value} {K : Act → World → Prop} {E : Prop} (hE : ElemOk e t sz f) (hsz : sz ≤ 1000) (hg : o.guard = none) (x : Operand) (ho : o.op = .buildSlice t 1 #[(0, x)]) (cs : List Value) (hx : a.eval x = .agg cs.toArray) (hc : cs.length = sz)
    (hK : K (a.put o.dst (.slice (some ⟨w.heap.size, 0, none⟩) 1 1)) (w.alloc (.cells cs.toArray e))) :
    if Region.wanted o (yielded ops a.tmps) = true then Oper.wp Try.prog o a w K Q else E := by
  have hw : Region.wanted o (yielded ops a.tmps) = true := by simp [Region.wanted, hg]
  rw [if_pos hw]
  unfold Oper.wp execOp
  have hr := run_build1 hE hsz w cs hc
  simp [ho, hx, hr, Result.andThen]
  exact hK
end
end Go.Proofs.Ytjpabjmicaopcaa
