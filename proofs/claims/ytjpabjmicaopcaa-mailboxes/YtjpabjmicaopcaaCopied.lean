/-
  ROWS MADE AND COPIED, of whatever elements. For every stage from the eleventh on.
-/
import Derived.Test.YtjpabjmicaopcaaRws
import Derived.Test.YtjpabjmicaopcaaWhole
import Derived.Laws.MakeOwn
import Derived.Laws.IdiomCopy
namespace Go.Proofs.Ytjpabjmicaopcaa
open Go.RowKit
set_option maxRecDepth 8000
set_option linter.unusedSimpArgs false
set_option linter.unusedVariables false

theorem run_copy_cells_many {P : Program} (w : World) (dT sT ty elem : TypeId) (z b o dLen dCap : Nat) (a : Addr) (sLen sCap : Nat) (cs : List Value)
    (hu : P.underlying dT = some (.slice elem)) (hs : (P.info? elem).map (·.size) = some z) (hn : cs.length = Nat.min sLen dLen * z)
    (hsrc : ∀ j v, cs[j]? = some v → w.cell? (a.add j) = some v) (hc : ∀ j, j < cs.length → (w.cell? ⟨b, o + j, none⟩).isSome = true) (hf : ∀ j, j < cs.length → w.frozen? ⟨b, o + j, none⟩ = false) (h1 : ∀ v ∈ cs, v.oneCell' = true) :
    (Builtin.copy_ #[dT, sT] ty #[.slice (some ⟨b, o, none⟩) dLen dCap, .slice (some a) sLen sCap]).run P w = .ok (goInt (Nat.min sLen dLen)) (w.setCells b o cs) := by
  have hl := run_loadCells_list (P := P) w a cs hsrc
  have hst := run_storeCells_cells (P := P) b o cs 0 w (by simpa using hc) (by simpa using hf) h1
  cases hq : P.info? elem with
  | none => simp [hq] at hs
  | some i =>
    have hi : i.size = z := by simpa [hq] using hs
    simp [Builtin.copy_, run_underlying hu, Builtin.lenOf, Builtin.firstCells, sizeOf, typeInfo, hq, hi, ← hn, hl, hst]
theorem run_copy_none {P : Program} (w : World) (dT sT ty elem : TypeId) (z : Nat) (d a : Option Addr) (dLen dCap sLen sCap : Nat) (hu : P.underlying dT = some (.slice elem)) (hs : (P.info? elem).map (·.size) = some z) (hn : Nat.min sLen dLen = 0) :
    (Builtin.copy_ #[dT, sT] ty #[.slice d dLen dCap, .slice a sLen sCap]).run P w = .ok (goInt 0) w := by
  cases hq : P.info? elem with
  | none => simp [hq] at hs
  | some i =>
    have hl : ∀ (x : Addr), (loadCells x 0).run P w = .ok #[] w := fun x => by simpa using run_loadCells_list (P := P) w x [] (by simp)
    cases d <;> cases a <;> simp [Builtin.copy_, run_underlying hu, Builtin.lenOf, Builtin.firstCells, sizeOf, typeInfo, hq, hn, storeCells, hl]
theorem make_some {α : Type} {e t : TypeId} {sz : Nat} {f : α → List Value} (hE : ElemOk e t sz f) (w : World) (n : Nat) (hn : n ≤ 1000) : ∃ cur : Array Value, cur.size = n * sz ∧ (Instr.makeSlice t (.int .i64 (n : Int)) (.int .i64 (n : Int))).run Try.prog w = .ok (.slice (some ⟨w.heap.size, 0, none⟩) n n) (w.alloc (.cells cur e)) := by
  obtain ⟨i, z, b, hi, hz, hs, hb, hzs, hbb⟩ := hE.info
  have hq : b * n ≤ 10000 * 1000 := Nat.mul_le_mul hbb hn
  have h := run_make (P := Try.prog) w t e i _ hE.und hi hz .i64 .i64 n n (by omega) (by omega) (by
    rw [hb]
    have : ((b * n : Nat) : Int) ≤ ((10000 * 1000 : Nat) : Int) := by exact_mod_cast hq
    rw [Int.natCast_mul] at this
    omega) (by omega)
  refine ⟨_, ?_, h⟩
  rw [hs]
  simp [madeCells]
/-- A row, made and copied. -/
theorem copied_run {α : Type} {e t : TypeId} {sz : Nat} {f : α → List Value} (hE : ElemOk e t sz f) (l : List α) (n : Nat) (hl : l.length = n) (a : Option Addr) (cap : Nat) (w : World) (hn : n ≤ 1000) (h : RowAt sz f w a l) (ty : TypeId) :
    ∃ W1 W2, (Instr.makeSlice t (.int .i64 (n : Int)) (.int .i64 (n : Int))).run Try.prog w = .ok (.slice (some ⟨w.heap.size, 0, none⟩) n n) W1 ∧
      (Builtin.copy_ #[t, t] ty #[.slice (some ⟨w.heap.size, 0, none⟩) n n, .slice a n cap]).run Try.prog W1 = .ok (goInt n) W2 ∧ RowAt sz f W2 (some ⟨w.heap.size, 0, none⟩) l ∧ w.heap.size < W2.heap.size ∧ Below w.heap.size w W2 := by
  obtain ⟨cur, hcs, hmk⟩ := make_some hE w n hn
  obtain ⟨i, z, b, hi, hz, hs, hb, hzs, hbb⟩ := hE.info
  have hp := hE.pos
  have hszm : (Try.prog.info? e).map (·.size) = some sz := by rw [hi]; simpa using hs
  have hB := alloc_below w (.cells cur e)
  have hbk := blk_alloc w cur e
  cases a with
  | none =>
    have hl0 : l = [] := by
      cases l with
      | nil => rfl
      | cons x r =>
        obtain ⟨y, hy, _⟩ := h 0 x rfl
        cases hy
    subst hl0
    obtain rfl : n = 0 := hl.symm
    exact ⟨_, _, hmk, run_copy_none _ t t ty e sz _ _ _ _ _ _ hE.und hszm (by rfl), fun j x hx => by simp at hx, by simp, hB⟩
  | some y =>
    have hfl : (l.flatMap f).length = n * sz := by rw [flat_length hE.len, hl]
    have hr := (h.below hE.len hB).flat hE.len hp
    have hbl : cur.toList.length = (l.flatMap f).length := by rw [hfl]; simpa using hcs
    have hth := hbk.there
    rw [hbl] at hth
    have hc := run_copy_cells_many (P := Try.prog) (w.alloc (.cells cur e)) t t ty e sz w.heap.size 0 n n y n cap (l.flatMap f) hE.und hszm (by rw [show Nat.min n n = n from Nat.min_self n]; exact hfl) hr (fun j hj => (hth j hj).1) (fun j hj => (hth j hj).2) (fun u hu => by
      obtain ⟨x, _, hx⟩ := List.mem_flatMap.1 hu
      exact hE.one x u hx)
    rw [show Nat.min n n = n from Nat.min_self n] at hc
    refine ⟨_, _, hmk, hc, fun j x hx => ⟨_, rfl, fun q hq => ?_⟩, Nat.lt_of_lt_of_le (by simp) (Below.cells (Nat.le_refl w.heap.size) (l.flatMap f) 0 (Below.refl w.heap.size (w.alloc (.cells cur e)))).size, Below.cells (Nat.le_refl _) _ 0 hB⟩
    have hj := (List.getElem?_eq_some_iff.1 hx).1
    have hlt : j * sz + q < (l.flatMap f).length := by
      rw [hfl, ← hl]
      have : (j + 1) * sz ≤ l.length * sz := Nat.mul_le_mul_right _ hj
      rw [Nat.succ_mul] at this
      omega
    have hg := (hbk.setAll hbl).range (j * sz + q) _ (List.getElem?_eq_getElem hlt)
    rw [Nat.zero_add] at hg
    rw [add_at, hg, ← List.getElem?_eq_getElem, flat_at hE.len l j q x hx hq]
end Go.Proofs.Ytjpabjmicaopcaa
