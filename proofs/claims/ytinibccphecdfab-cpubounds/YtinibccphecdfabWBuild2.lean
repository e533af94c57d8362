/-
  LISTS OF TWO STRUCTS, made in one go: []T{a, b}. For every stage from the sixteenth on.
-/
import Derived.Test.YtinibccphecdfabPt1
namespace Go.Proofs.Ytinibccphecdfab
open Go.RowKit
set_option maxRecDepth 8000
set_option linter.unusedSimpArgs false
set_option linter.unusedVariables false

theorem fill_two {s : Nat} (hs : 0 < s) (zs : Array Value) (cs ds : List Value) (hz : zs.size = 2 * s) (hc : cs.length = s) (hd : ds.length = s) : Instr.fill (fun i => some (i * s, s)) zs [(0, .agg cs.toArray), (1, .agg ds.toArray)] = some (cs ++ ds).toArray := by
  obtain ⟨r, h1, h2, h3⟩ := Great.fill_dense hs [.agg cs.toArray, .agg ds.toArray] 0 zs (fun v hv => by
    simp at hv
    rcases hv with rfl | rfl
    · simp [Value.cells, hc]
    · simp [Value.cells, hd]) (by simp [hz]; try omega)
  rw [show ([Value.agg cs.toArray, .agg ds.toArray].zipIdx 0).map (fun x => (x.2, x.1)) = [(0, .agg cs.toArray), (1, .agg ds.toArray)] from rfl] at h1
  rw [h1]
  congr 1
  apply Array.ext_getElem?
  intro k
  rw [h3 k]
  by_cases hk : k < s
  · rw [if_pos (by simp; omega)]
    simp [Nat.div_eq_of_lt hk, Nat.mod_eq_of_lt hk, Value.cells]
    rw [List.getElem?_append_left (by omega)]
  · by_cases hk2 : k < 2 * s
    · obtain ⟨j, rfl⟩ : ∃ j, k = s + j := ⟨k - s, by omega⟩
      have hj : j < s := by omega
      have e1 : (s + j) / s = 1 := by rw [Nat.add_div_left _ hs, Nat.div_eq_of_lt hj]
      have e2 : (s + j) % s = j := by rw [Nat.add_mod_left, Nat.mod_eq_of_lt hj]
      rw [if_pos (by simp; omega)]
      simp [e1, e2, Value.cells]
      rw [List.getElem?_append_right (by omega), hc, Nat.add_sub_cancel_left]
    · rw [if_neg (by simp; omega)]
      simp [Array.getElem?_eq_none (show zs.size ≤ k by omega)]
      omega
section
variable {ops : Array Oper} {rest : List Oper} {o : Oper} {a : Act} {w : World} {Q : Exit → Act → World → Prop}
theorem run_build2 {α : Type} {e t : TypeId} {sz : Nat} {f : α → List Value} (hE : ElemOk e t sz f) (hsz : sz ≤ 1000) (w : World) (cs ds : List Value) (hc : cs.length = sz) (hd : ds.length = sz) : (Instr.buildSlice t 2 #[(0, .agg cs.toArray), (1, .agg ds.toArray)]).run Try.prog w = .ok (.slice (some ⟨w.heap.size, 0, none⟩) 2 2) (w.alloc (.cells (cs ++ ds).toArray e)) := by
  obtain ⟨i, z, b, hi, hz, hs, hb, hzs, hbb⟩ := hE.info
  have hp := hE.pos
  refine run_buildSlice (P := Try.prog) w t e 2 #[(0, .agg cs.toArray), (1, .agg ds.toArray)] (cs ++ ds).toArray i z hE.und hi hz (by rw [hs]; omega) (by rw [hs]; omega) ?_
  rw [hs]
  exact fill_two hp _ cs ds (by simp) hc hd
theorem wpList_build2 {α : Type} {e t : TypeId} {sz : Nat} {f : α → List Value} (hE : ElemOk e t sz f) (hsz : sz ≤ 1000) (hg : o.guard = none) (x y : Operand) (ho : o.op = .buildSlice t 2 #[(0, x), (1, y)]) (cs ds : List Value) (hx : a.eval x = .agg cs.toArray) (hy : a.eval y = .agg ds.toArray) (hc : cs.length = sz) (hd : ds.length = sz)
    (h : wpList Try.prog ops Q rest (a.put o.dst (.slice (some ⟨w.heap.size, 0, none⟩) 2 2)) (w.alloc (.cells (cs ++ ds).toArray e))) : wpList Try.prog ops Q (o :: rest) a w := by
  refine wpList_value hg ?_ h
  unfold execOp
  have hr := run_build2 hE hsz w cs ds hc hd
  simp [ho, hx, hy, hr, Result.andThen]
  try rfl
theorem step_build2 {α : Type} {e t : TypeId} {sz : Nat} {f : α → List Value} {K : Act → World → Prop} {E : Prop} (hE : ElemOk e t sz f) (hsz : sz ≤ 1000) (hg : o.guard = none) (x y : Operand) (ho : o.op = .buildSlice t 2 #[(0, x), (1, y)]) (cs ds : List Value) (hx : a.eval x = .agg cs.toArray) (hy : a.eval y = .agg ds.toArray) (hc : cs.length = sz) (hd : ds.length = sz)
    (hK : K (a.put o.dst (.slice (some ⟨w.heap.size, 0, none⟩) 2 2)) (w.alloc (.cells (cs ++ ds).toArray e))) :
    if Region.wanted o (yielded ops a.tmps) = true then Oper.wp Try.prog o a w K Q else E := by
  have hw : Region.wanted o (yielded ops a.tmps) = true := by simp [Region.wanted, hg]
  rw [if_pos hw]
  unfold Oper.wp execOp
  have hr := run_build2 hE hsz w cs ds hc hd
  simp [ho, hx, hy, hr, Result.andThen]
  exact hK
end
end Go.Proofs.Ytinibccphecdfab
