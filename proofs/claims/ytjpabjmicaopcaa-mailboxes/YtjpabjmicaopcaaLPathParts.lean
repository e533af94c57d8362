/-
  THE PARTS OF A PATH, AND WHETHER A TEXT IS ONE: the document's own (donjonref7).
-/
import Derived.Test.YtjpabjmicaopcaaLPathBase
import Derived.Laws.AppendOwn
import Derived.Laws.OwnMore
import Derived.Deep.Cut
import Derived.Deep.CutRange
namespace Go.Proofs.Ytjpabjmicaopcaa
open Go.RowKit
set_option linter.unusedSimpArgs false
set_option maxRecDepth 8000
set_option linter.unusedVariables false
/-- A list of texts of the call's own. -/
def OwnS (w : World) (base : Nat) (v : Value) (l : List ByteArray) : Prop := w.ownsRow base 9 1 v l.length (l.map Value.string)
theorem ownS_nil (w : World) (base : Nat) : OwnS w base (.slice none 0 0) [] := World.ownsRow_nil _ _ _ _
theorem OwnS.slice {w : World} {base : Nat} {v : Value} {l : List ByteArray} (h : OwnS w base v l) {n : Nat} (hn : l.length = n) : ∃ a cap, v = .slice a n cap := by
  rcases h.2 with ⟨rfl, h2⟩ | ⟨g, cap, cur, rfl, _⟩
  · exact ⟨none, 0, by rw [← hn, h2]⟩
  · exact ⟨_, cap, by rw [hn]⟩
theorem OwnS.at {w : World} {base : Nat} {v : Value} {l : List ByteArray} (h : OwnS w base v l) {n : Nat} (hn : l.length = n) {i : Nat} {x : ByteArray} (hx : l[i]? = some x) : ∃ g cap, v = .slice (some ⟨g, 0, none⟩) n cap ∧ w.cell? ⟨g, i, none⟩ = some (.string x) ∧ base ≤ g ∧ g < w.heap.size := by
  have hi := (List.getElem?_eq_some_iff.1 hx).1
  have hrow : w.ownsRow base 9 1 v l.length (l.map Value.string) := h
  rcases h.2 with ⟨_, h2⟩ | ⟨g, cap, cur, rfl, hb, _⟩
  · omega
  · refine ⟨g, cap, by rw [hn], ?_, hb, (hrow.lt g rfl).2⟩
    rw [hrow.cellAt i (by omega), List.getElem?_map, hx]
    rfl
theorem OwnS.below {w w' : World} {base : Nat} {v : Value} {l : List ByteArray} (h : OwnS w base v l) (b : Below w.heap.size w w') : OwnS w' base v l := by
  refine ⟨h.1, ?_⟩
  rcases h.2 with h1 | ⟨g, cap, cur, hv, hb, hg, rest⟩
  · exact .inl h1
  · exact .inr ⟨g, cap, cur, hv, hb, (b.block g (Array.getElem?_eq_some_iff.1 hg).1).trans hg, rest⟩
theorem info_str : (Try.prog.info? 9).map (fun i => (i.zero, i.size, i.bytes)) = some (some (.string ⟨#[]⟩), 1, 16) := by kernel_rfl
theorem info_strs : ∃ i, Try.prog.info? 9 = some i ∧ i.zero = some (.string ⟨#[]⟩) ∧ i.size = 1 ∧ i.bytes = 16 := by
  have := info_str
  cases h : Try.prog.info? 9 with
  | none => rw [h] at this; cases this
  | some i =>
    rw [h] at this
    have hq : (i.zero, i.size, i.bytes) = (some (.string ⟨#[]⟩), 1, 16) := by simpa using this
    exact ⟨i, rfl, congrArg Prod.fst hq, congrArg (fun p => p.2.1) hq, congrArg (fun p => p.2.2) hq⟩
/-- append of one text that was typed. -/
theorem append_str (W : World) (base : Nat) (v : Value) (l : List ByteArray) (x : ByteArray) (hown : OwnS W base v l) (hb : base ≤ W.heap.size) (hl : l.length < 900000) :
    ∃ v' W', (Builtin.append_ #[57, 57] 57 #[v, .slice (some ⟨W.heap.size, 0, none⟩) 1 1]).run Try.prog (W.alloc (.cells #[.string x] 9)) = .ok v' W' ∧ OwnS W' base v' (l ++ [x]) ∧ Below base W W' := by
  obtain ⟨i, hi, hz, hs, hby⟩ := info_strs
  have ho : (W.alloc (.cells #[.string x] 9)).ownsRow base 9 1 v l.length (l.map Value.string) := World.ownsRow.alloc hown _
  obtain ⟨v', W', h1, h2, h3, _⟩ := run_append_own (P := Try.prog) (W.alloc (.cells #[.string x] 9)) base 57 57 9 i _ 1 16 Try.underlying57 hi hz hs hby rfl (by decide) v l.length (l.map Value.string) ho ⟨W.heap.size, 0, none⟩ 1 1 [.string x] rfl (fun j u hu => by
    have hj : j = 0 := by have := (List.getElem?_eq_some_iff.1 hu).1; simp at this; exact this
    subst hj
    simp at hu
    subst hu
    rw [show (⟨W.heap.size, 0, none⟩ : Addr).add 0 = ⟨W.heap.size, 0, none⟩ by simp [Addr.add], World.cell?_alloc_at _ _ _ _ rfl]
    rfl) (by simp [Value.oneCell']) (by simp only [maxLen]; omega) (by omega) (by simp; omega)
  refine ⟨v', W', h1, ?_, ?_⟩
  · unfold OwnS
    rw [List.map_append, List.length_append]
    exact h2
  · exact ((Below.refl base W).alloc hb _).grown h3 (by simp; omega) (fun k hk => (ho.lt k hk).1)
section
variable {ops : Array Oper} {rest : List Oper} {o : Oper} {a : Act} {w : World} {Q : Exit → Act → World → Prop}
/-- append, by its run. -/
theorem wpList_append_str (hg : o.guard = none) (x y : Operand) (ho : o.op = .call { callee := .builtin .append, args := #[x, y], argTypes := #[57, 57] }) (hty : o.type = 57) {u v r : Value} {w' : World} (hx : a.eval x = u) (hy : a.eval y = v)
    (hc : (Builtin.append_ #[57, 57] 57 #[u, v]).run Try.prog w = .ok r w')
    (h : wpList Try.prog ops Q rest (a.put o.dst r) w') : wpList Try.prog ops Q (o :: rest) a w := by
  refine wpList_value hg ?_ h
  unfold execOp
  simp only [ho, hty, resolve, invoke, builtin, Sem.run_bind, Sem.run_pure, Result.andThen_ok]
  simp [hx, hy, hc, Result.andThen]
end

/-- The parts that end among the first i places, and where the next one begins. -/
def partsTo (u : ByteArray) : Nat → Nat × List ByteArray
  | 0 => (1, [])
  | i + 1 => if i + 1 = u.size ∨ u.data.toList.getD (i + 1) 0 = 47 then (i + 2, (partsTo u i).2 ++ [u.extract (partsTo u i).1 (i + 1)]) else partsTo u i
def partsOf (u : ByteArray) : List ByteArray := if u.size ≤ 1 then [] else (partsTo u u.size).2
theorem partsTo_lo (u : ByteArray) : ∀ i, 1 ≤ (partsTo u i).1 ∧ (partsTo u i).1 ≤ i + 1 ∧ (partsTo u i).2.length ≤ i
  | 0 => ⟨Nat.le_refl _, Nat.le_refl _, Nat.le_refl _⟩
  | i + 1 => by
    obtain ⟨h1, h2, h3⟩ := partsTo_lo u i
    unfold partsTo
    split
    · refine ⟨by simp, by simp, by simp; omega⟩
    · exact ⟨h1, by omega, by omega⟩

/-- What the document's own Check answers. -/
def checkOf (u : ByteArray) : Int :=
  if 78 < u.size then 5 else if eqs u slashS = true then 0 else if u.size < 2 ∨ u.data.toList.getD 0 0 ≠ 47 then 1
  else if 6 < (partsOf u).length then 1 else if (partsOf u).all name = true then 0 else 1
theorem parts_small (u : ByteArray) : ∀ x ∈ partsOf u, x.size ≤ u.size := by
  have key : ∀ i, ∀ x ∈ (partsTo u i).2, x.size ≤ u.size := by
    intro i
    induction i with
    | zero => intro x hx; simp [partsTo] at hx
    | succ i ih =>
      intro x hx
      unfold partsTo at hx
      split at hx
      · rcases List.mem_append.1 hx with hx | hx
        · exact ih x hx
        · simp at hx
          subst hx
          simp
          omega
      · exact ih x hx
  intro x hx
  unfold partsOf at hx
  split at hx
  · cases hx
  · exact key _ x hx
end Go.Proofs.Ytjpabjmicaopcaa
