/-
  LISTS OF THREE STRUCTS, made in one go: []T{a, b, c}. For every stage from the eighteenth on.
-/
import Derived.Test.YtjpabjmicaopcaaBuild1
import Derived.Test.YtjpabjmicaopcaaRws
namespace Go.Proofs.Ytjpabjmicaopcaa
open Go.RowKit
set_option maxRecDepth 8000
set_option linter.unusedSimpArgs false
set_option linter.unusedVariables false

theorem fill_three {s : Nat} (hs : 0 < s) (zs : Array Value) (cs ds es : List Value) (hz : zs.size = 3 * s) (hc : cs.length = s) (hd : ds.length = s) (he : es.length = s) : Instr.fill (fun i => some (i * s, s)) zs [(0, .agg cs.toArray), (1, .agg ds.toArray), (2, .agg es.toArray)] = some (cs ++ (ds ++ es)).toArray := by
  obtain ⟨r, h1, h2, h3⟩ := Great.fill_dense hs [.agg cs.toArray, .agg ds.toArray, .agg es.toArray] 0 zs (fun v hv => by
    simp at hv
    rcases hv with rfl | rfl | rfl
    · simp [Value.cells, hc]
    · simp [Value.cells, hd]
    · simp [Value.cells, he]) (by simp [hz]; try omega)
  rw [show ([Value.agg cs.toArray, .agg ds.toArray, .agg es.toArray].zipIdx 0).map (fun x => (x.2, x.1)) = [(0, .agg cs.toArray), (1, .agg ds.toArray), (2, .agg es.toArray)] from rfl] at h1
  rw [h1]
  congr 1
  apply Array.ext_getElem?
  intro k
  rw [h3 k]
  by_cases hk : k < s
  · rw [if_pos (by simp; omega)]
    simp [Nat.div_eq_of_lt hk, Nat.mod_eq_of_lt hk, Value.cells]
    rw [List.getElem?_append_left (by omega)]
  · by_cases hk2 : k < 2 * s
    · obtain ⟨j, rfl⟩ : ∃ j, k = s + j := ⟨k - s, by omega⟩
      have hj : j < s := by omega
      have e1 : (s + j) / s = 1 := by rw [Nat.add_div_left _ hs, Nat.div_eq_of_lt hj]
      have e2 : (s + j) % s = j := by rw [Nat.add_mod_left, Nat.mod_eq_of_lt hj]
      rw [if_pos (by simp; omega)]
      simp [e1, e2, Value.cells]
      rw [List.getElem?_append_right (by omega), hc, Nat.add_sub_cancel_left, List.getElem?_append_left (by omega)]
    · by_cases hk3 : k < 3 * s
      · obtain ⟨j, rfl⟩ : ∃ j, k = s + (s + j) := ⟨k - s - s, by omega⟩
        have hj : j < s := by omega
        have e1 : (s + (s + j)) / s = 2 := by rw [Nat.add_div_left _ hs, Nat.add_div_left _ hs, Nat.div_eq_of_lt hj]
        have e2 : (s + (s + j)) % s = j := by rw [Nat.add_mod_left, Nat.add_mod_left, Nat.mod_eq_of_lt hj]
        rw [if_pos (by simp; omega)]
        simp [e1, e2, Value.cells]
        rw [List.getElem?_append_right (by omega), hc, Nat.add_sub_cancel_left, List.getElem?_append_right (by omega), hd, Nat.add_sub_cancel_left]
      · rw [if_neg (by simp; omega)]
        simp [Array.getElem?_eq_none (show zs.size ≤ k by omega)]
        omega
theorem row_three {α : Type} {sz : Nat} {f : α → List Value} (hf : ∀ x, (f x).length = sz) (w : World) (x y z : α) (T : TypeId) : RowAt sz f (w.alloc (.cells (f x ++ (f y ++ f z)).toArray T)) (some ⟨w.heap.size, 0, none⟩) [x, y, z] := fun j u hu => by
  refine ⟨_, rfl, fun i hi => ?_⟩
  rw [add_at, World.cell?_alloc_at _ _ _ _ rfl]
  have hx := hf x
  have hy := hf y
  have hz := hf z
  rcases j with _ | _ | _ | j
  · obtain rfl : x = u := by simpa using hu
    simp
    rw [List.getElem?_append_left (by omega)]
  · obtain rfl : y = u := by simpa using hu
    simp
    rw [List.getElem?_append_right (by omega), List.getElem?_append_left (by omega)]
    congr 1
    omega
  · obtain rfl : z = u := by simpa using hu
    simp
    rw [List.getElem?_append_right (by omega), List.getElem?_append_right (by omega)]
    congr 1
    omega
  · simp at hu
section
variable {ops : Array Oper} {rest : List Oper} {o : Oper} {a : Act} {w : World} {Q : Exit → Act → World → Prop}
theorem run_build3 {α : Type} {e t : TypeId} {sz : Nat} {f : α → List Value} (hE : ElemOk e t sz f) (hsz : sz ≤ 1000) (w : World) (cs ds es : List Value) (hc : cs.length = sz) (hd : ds.length = sz) (he : es.length = sz) : (Instr.buildSlice t 3 #[(0, .agg cs.toArray), (1, .agg ds.toArray), (2, .agg es.toArray)]).run Try.prog w = .ok (.slice (some ⟨w.heap.size, 0, none⟩) 3 3) (w.alloc (.cells (cs ++ (ds ++ es)).toArray e)) := by
  obtain ⟨i, z, b, hi, hz, hs, hb, hzs, hbb⟩ := hE.info
  have hp := hE.pos
  refine run_buildSlice (P := Try.prog) w t e 3 #[(0, .agg cs.toArray), (1, .agg ds.toArray), (2, .agg es.toArray)] (cs ++ (ds ++ es)).toArray i z hE.und hi hz (by rw [hs]; omega) (by rw [hs]; omega) ?_
  rw [hs]
  exact fill_three hp _ cs ds es (by simp) hc hd he
theorem wpList_build3 {α : Type} {e t : TypeId} {sz : Nat} {f : α → List Value} (hE : ElemOk e t sz f) (hsz : sz ≤ 1000) (hg : o.guard = none) (x y z : Operand) (ho : o.op = .buildSlice t 3 #[(0, x), (1, y), (2, z)]) (cs ds es : List Value) (hx : a.eval x = .agg cs.toArray) (hy : a.eval y = .agg ds.toArray) (hz : a.eval z = .agg es.toArray) (hc : cs.length = sz) (hd : ds.length = sz) (he : es.length = sz)
    (h : wpList Try.prog ops Q rest (a.put o.dst (.slice (some ⟨w.heap.size, 0, none⟩) 3 3)) (w.alloc (.cells (cs ++ (ds ++ es)).toArray e))) : wpList Try.prog ops Q (o :: rest) a w := by
  refine wpList_value hg ?_ h
  unfold execOp
  have hr := run_build3 hE hsz w cs ds es hc hd he
  simp [ho, hx, hy, hz, hr, Result.andThen]
  try rfl
end
end Go.Proofs.Ytjpabjmicaopcaa
