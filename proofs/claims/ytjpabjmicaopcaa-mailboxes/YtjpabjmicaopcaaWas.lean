/-
  ROWS COPIED BY append ONTO NONE ([]T{}), whatever their elements: in plain walks and in regions that draw their order. For every stage from the sixteenth on.
-/
import Derived.Test.YtjpabjmicaopcaaBuild1
namespace Go.Proofs.Ytjpabjmicaopcaa
open Go.RowKit
set_option maxRecDepth 8000
set_option linter.unusedSimpArgs false
set_option linter.unusedVariables false

section
variable {α : Type} {e t : TypeId} {sz : Nat} {f : α → List Value}
theorem OwnR.appendW {w : World} {base : Nat} {v : Value} {l : List α} (hE : ElemOk e t sz f) (h : OwnR e sz f w base v l) (hb : base ≤ w.heap.size) (a : Option Addr) (m c : Nat) (l2 : List α) (hm : l2.length = m) (h2 : RowAt sz f w a l2) (hn : a = none → c = 0 ∧ m = 0) (hl : l.length < 900000) (hl2 : m < 900000) :
    ∃ v' w', (Builtin.append_ #[t, t] t #[v, .slice a m c]).run Try.prog w = .ok v' w' ∧ OwnR e sz f w' base v' (l ++ l2) ∧ Grew w v w' v' := by
  cases a with
  | some y => exact h.append hE hb y m c l2 hm h2 hl hl2
  | none =>
    obtain ⟨rfl, hm0⟩ := hn rfl
    subst hm0
    obtain rfl : l2 = [] := List.eq_nil_of_length_eq_zero hm
    obtain ⟨i, z, b, hi, _⟩ := hE.info
    have ho : w.ownsRow base e sz v l.length (l.flatMap f) := h
    refine ⟨v, w, run_append_owned_none (P := Try.prog) (w := w) base t t e i sz hE.und hi v l.length _ ho, by rw [List.append_nil]; exact h, Grew.refl _ _⟩
/-- A list of none, made. -/
theorem own_emptyW (W : World) {base : Nat} (hb : base ≤ W.heap.size) : OwnR e sz f (W.alloc (.cells #[] e)) base (.slice (some ⟨W.heap.size, 0, none⟩) 0 0) ([] : List α) := by
  refine ⟨by simp, .inr ⟨W.heap.size, 0, #[], rfl, hb, heap_alloc_new W _, Nat.le_refl _, by simp only [maxLen]; omega, ?_, ?_⟩⟩
  · simp
  · simp
/-- A row, copied by append onto none. -/
theorem wasW_run (hE : ElemOk e t sz f) {W : World} {a : Option Addr} {c n : Nat} {l : List α} (h : RowAt sz f W a l) (hl : l.length = n) (hn : a = none → c = 0 ∧ n = 0) (hlt : n < 900000) :
    ∃ v' W', (Builtin.append_ #[t, t] t #[.slice (some ⟨W.heap.size, 0, none⟩) 0 0, .slice a n c]).run Try.prog (W.alloc (.cells #[] e)) = .ok v' W' ∧ OwnR e sz f W' W.heap.size v' l ∧ Below W.heap.size W W' := by
  have hB := alloc_below W (.cells #[] e)
  have ho := own_emptyW (e := e) (sz := sz) (f := f) W (Nat.le_refl W.heap.size)
  obtain ⟨v', W', hap, ho', hg⟩ := OwnR.appendW hE ho (by simp) a n c l hl (h.below hE.len hB) hn (by simp) hlt
  have hb := ho.grew_below (by simp) hg
  rw [List.nil_append] at ho'
  exact ⟨v', W', hap, ho', hB.trans hb⟩
theorem build0_runW (hE : ElemOk e t sz f) (W : World) : (Instr.buildSlice t 0 #[]).run Try.prog W = .ok (.slice (some ⟨W.heap.size, 0, none⟩) 0 0) (W.alloc (.cells #[] e)) := by
  obtain ⟨i, z, b, hi, hz, hs, hb, hzs, hbb⟩ := hE.info
  simp [Instr.buildSlice, run_underlying hE.und, sizeOf, typeInfo, zeroValue, hi, hz, newRow, Instr.fill]
  rw [show Array.range 0 = #[] from rfl, Array.map_empty]
end
section
variable {α : Type} {e t : TypeId} {sz : Nat} {f : α → List Value} {ops : Array Oper} {rest : List Oper} {o : Oper} {a : Act} {w : World} {Q : Exit → Act → World → Prop}
theorem wpList_build0W (hE : ElemOk e t sz f) (hg : o.guard = none) (ho : o.op = .buildSlice t 0 #[])
    (h : wpList Try.prog ops Q rest (a.put o.dst (.slice (some ⟨w.heap.size, 0, none⟩) 0 0)) (w.alloc (.cells #[] e))) : wpList Try.prog ops Q (o :: rest) a w := by
  refine wpList_value hg ?_ h
  unfold execOp
  have hr := build0_runW hE w
  simp [ho, hr, Result.andThen]
  try rfl
theorem step_build0W {K : Act → World → Prop} {E : Prop} (hE : ElemOk e t sz f) (hg : o.guard = none) (ho : o.op = .buildSlice t 0 #[])
    (hK : K (a.put o.dst (.slice (some ⟨w.heap.size, 0, none⟩) 0 0)) (w.alloc (.cells #[] e))) :
    if Region.wanted o (yielded ops a.tmps) = true then Oper.wp Try.prog o a w K Q else E := by
  have hw : Region.wanted o (yielded ops a.tmps) = true := by simp [Region.wanted, hg]
  rw [if_pos hw]
  unfold Oper.wp execOp
  have hr := build0_runW hE w
  simp [ho, hr, Result.andThen]
  exact hK
end
end Go.Proofs.Ytjpabjmicaopcaa
