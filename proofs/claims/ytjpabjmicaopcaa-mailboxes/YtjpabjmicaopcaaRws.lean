/-
  ROWS OF THE CALL'S OWN, OF WHATEVER ELEMENTS: what they hold, and append onto them. For every stage from the tenth on.
-/
import Derived.Test.YtjpabjmicaopcaaGrew
import Derived.Test.YtjpabjmicaopcaaLabs
import Derived.Laws.AppendOwn
import Derived.Laws.OwnMore
namespace Go.Proofs.Ytjpabjmicaopcaa
open Go.RowKit
set_option maxRecDepth 8000
set_option linter.unusedSimpArgs false
set_option linter.unusedVariables false

/-- An element's type e, its slices' type t, its cells. -/
structure ElemOk {α : Type} (e t : TypeId) (sz : Nat) (f : α → List Value) : Prop where
  und : Try.prog.underlying t = some (.slice e)
  info : ∃ i z b, Try.prog.info? e = some i ∧ i.zero = some z ∧ i.size = sz ∧ i.bytes = b ∧ z.cells.size = sz ∧ b ≤ 10000
  pos : 0 < sz
  len : ∀ x, (f x).length = sz
  one : ∀ x, ∀ u ∈ f x, u.oneCell' = true
theorem info_of {e : TypeId} {z : Value} {sz b : Nat} (h : (Try.prog.info? e).map (fun i => (i.zero, i.size, i.bytes)) = some (some z, sz, b)) : ∃ i, Try.prog.info? e = some i ∧ i.zero = some z ∧ i.size = sz ∧ i.bytes = b := by
  cases hi : Try.prog.info? e with
  | none => rw [hi] at h; cases h
  | some i =>
    rw [hi] at h
    have hq : (i.zero, i.size, i.bytes) = (some z, sz, b) := Option.some.inj h
    exact ⟨i, rfl, congrArg Prod.fst hq, congrArg (fun p => p.2.1) hq, congrArg (fun p => p.2.2) hq⟩
theorem flat_at {α β : Type} {f : α → List β} {n : Nat} (hf : ∀ a, (f a).length = n) : ∀ (l : List α) (j k : Nat) (a : α), l[j]? = some a → k < n → (l.flatMap f)[j * n + k]? = (f a)[k]?
  | [], _, _, _, h, _ => by simp at h
  | b :: r, 0, k, a, h, hk => by
    simp at h
    subst h
    rw [List.flatMap_cons, Nat.zero_mul, Nat.zero_add, List.getElem?_append_left (by rw [hf]; exact hk)]
  | b :: r, j + 1, k, a, h, hk => by
    simp at h
    rw [List.flatMap_cons, List.getElem?_append_right (by rw [hf, Nat.succ_mul]; omega), hf, show (j + 1) * n + k - n = j * n + k by rw [Nat.succ_mul]; omega]
    exact flat_at hf r j k a h hk
theorem flat_length {α β : Type} {f : α → List β} {n : Nat} (hf : ∀ a, (f a).length = n) : ∀ l : List α, (l.flatMap f).length = l.length * n
  | [] => by simp
  | a :: r => by rw [List.flatMap_cons, List.length_append, hf, flat_length hf r, List.length_cons, Nat.succ_mul, Nat.add_comm]
/-- Elements, one behind the other, wherever they lie. -/
def RowAt {α : Type} (sz : Nat) (f : α → List Value) (W : World) (a : Option Addr) (l : List α) : Prop := ∀ j x, l[j]? = some x → ∃ y, a = some y ∧ ∀ i, i < sz → W.cell? (y.add (j * sz + i)) = (f x)[i]?
section
variable {α : Type} {e t : TypeId} {sz : Nat} {f : α → List Value} {w w' W : World} {base b : Nat} {v v' : Value} {l : List α}
theorem RowAt.below {a : Option Addr} (hf : ∀ x, (f x).length = sz) (h : RowAt sz f w a l) (k : Below w.heap.size w w') : RowAt sz f w' a l := fun j x hx => by
  obtain ⟨y, hy, hc⟩ := h j x hx
  refine ⟨y, hy, fun i hi => ?_⟩
  have h1 := hc i hi
  obtain ⟨u, hu⟩ : ∃ u, (f x)[i]? = some u := ⟨_, List.getElem?_eq_getElem (by rw [hf]; exact hi)⟩
  rw [hu] at h1 ⊢
  exact (k.cell (World.block_lt_of_cell? _ _ h1)).trans h1
theorem RowAt.flat {a : Addr} (hf : ∀ x, (f x).length = sz) (hp : 0 < sz) (h : RowAt sz f w (some a) l) : ∀ j u, (l.flatMap f)[j]? = some u → w.cell? (a.add j) = some u := fun j u hu => by
  have hj := (List.getElem?_eq_some_iff.1 hu).1
  rw [flat_length hf] at hj
  have hq : j / sz < l.length := Nat.div_lt_of_lt_mul (by rw [Nat.mul_comm]; exact hj)
  have hm : j % sz < sz := Nat.mod_lt _ hp
  have hjm : j / sz * sz + j % sz = j := by rw [Nat.mul_comm]; exact Nat.div_add_mod j sz
  have hx : l[j / sz]? = some l[j / sz] := List.getElem?_eq_getElem hq
  have h1 := flat_at hf l (j / sz) (j % sz) _ hx hm
  rw [hjm, hu] at h1
  obtain ⟨y, hy, hc⟩ := h (j / sz) _ hx
  obtain rfl := Option.some.inj hy
  have h2 := hc (j % sz) hm
  rw [hjm] at h2
  rw [h2, ← h1]
def OwnR (e : TypeId) (sz : Nat) (f : α → List Value) (w : World) (base : Nat) (v : Value) (l : List α) : Prop := w.ownsRow base e sz v l.length (l.flatMap f)
theorem OwnR.nil (e : TypeId) (sz : Nat) (f : α → List Value) (w : World) (base : Nat) : OwnR e sz f w base (.slice none 0 0) [] := World.ownsRow_nil _ _ _ _
theorem OwnR.lt (h : OwnR e sz f w base v l) {k : Nat} (hk : v.ownBlock = some k) : base ≤ k ∧ k < w.heap.size := World.ownsRow.lt (show w.ownsRow base e sz v l.length (l.flatMap f) from h) k hk
theorem OwnR.keep (h : OwnR e sz f w base v l) (hb : ∀ k, v.ownBlock = some k → w'.heap[k]? = w.heap[k]?) : OwnR e sz f w' base v l := by
  refine ⟨h.1, ?_⟩
  rcases h.2 with h1 | ⟨g, cap, cur, hv, hg, hh, rest⟩
  · exact .inl h1
  · refine .inr ⟨g, cap, cur, hv, hg, ?_, rest⟩
    rw [hb g (by rw [hv]; rfl)]
    exact hh
theorem OwnR.below (h : OwnR e sz f w base v l) (k : Below w.heap.size w w') : OwnR e sz f w' base v l := h.keep fun j hj => k.block j (h.lt hj).2
theorem OwnR.lower (h : OwnR e sz f w base v l) (hb : b ≤ base) : OwnR e sz f w b v l := by
  refine ⟨h.1, ?_⟩
  rcases h.2 with h1 | ⟨g, cap, cur, hv, hg, rest⟩
  · exact .inl h1
  · exact .inr ⟨g, cap, cur, hv, Nat.le_trans hb hg, rest⟩
theorem OwnR.slice (hf : ∀ x, (f x).length = sz) (h : OwnR e sz f w base v l) : ∃ a cap, v = .slice a l.length cap ∧ l.length ≤ cap ∧ (a = none → cap = 0) ∧ RowAt sz f w a l := by
  have hrow : w.ownsRow base e sz v l.length (l.flatMap f) := h
  rcases h.2 with ⟨rfl, h2⟩ | ⟨g, cap, cur, rfl, _, _, hc, _⟩
  · refine ⟨none, 0, by rw [h2], by omega, fun _ => rfl, fun j u hu => ?_⟩
    have := (List.getElem?_eq_some_iff.1 hu).1
    omega
  · refine ⟨_, cap, rfl, hc, fun q => (by cases q), fun j u hu => ⟨_, rfl, fun k hk => ?_⟩⟩
    have hj := (List.getElem?_eq_some_iff.1 hu).1
    rw [add_at, hrow.cellAt (j * sz + k) (by
      have : (j + 1) * sz ≤ l.length * sz := Nat.mul_le_mul_right _ hj
      rw [Nat.succ_mul] at this
      omega), flat_at hf l j k u hu hk]
/-- append of elements that lie anywhere. -/
theorem OwnR.append (hE : ElemOk e t sz f) (h : OwnR e sz f w base v l) (hb : base ≤ w.heap.size) (y : Addr) (m c : Nat) (l2 : List α) (hm : l2.length = m) (h2 : RowAt sz f w (some y) l2) (hl : l.length < 900000) (hl2 : m < 900000) :
    ∃ v' w', (Builtin.append_ #[t, t] t #[v, .slice (some y) m c]).run Try.prog w = .ok v' w' ∧ OwnR e sz f w' base v' (l ++ l2) ∧ Grew w v w' v' := by
  obtain ⟨i, z, by_, hi, hz, hs, hby, hzs, hbb⟩ := hE.info
  obtain ⟨v', W', h1, h2', h3⟩ := run_append_grew (P := Try.prog) w base t t e i z sz by_ hE.und hi hz hs hby hzs hE.pos v l.length _ h y m c (l2.flatMap f) (by rw [flat_length hE.len, hm]) (h2.flat hE.len hE.pos) (fun u hu => by
    obtain ⟨x, _, hx⟩ := List.mem_flatMap.1 hu
    exact hE.one x u hx) (by simp only [maxLen]; omega) (by
      have : (l.length + m) * by_ ≤ 1800000 * 10000 := Nat.mul_le_mul (by omega) hbb
      omega) hb
  refine ⟨v', W', h1, ?_, h3⟩
  unfold OwnR
  rw [List.flatMap_append, List.length_append, hm]
  exact h2'
theorem row_made (hf : ∀ x, (f x).length = sz) (w : World) (x : α) (cs : Array Value) (hcs : cs = (f x).toArray) (T : TypeId) : RowAt sz f (w.alloc (.cells cs T)) (some ⟨w.heap.size, 0, none⟩) [x] := fun j u hu => by
  have hj : j = 0 := by
    have := (List.getElem?_eq_some_iff.1 hu).1
    simpa using this
  subst hj
  obtain rfl : x = u := by simpa using hu
  refine ⟨_, rfl, fun i hi => ?_⟩
  rw [add_at, World.cell?_alloc_at _ _ _ _ rfl, hcs]
  simp
/-- append of one element that was just made. -/
theorem OwnR.push (hE : ElemOk e t sz f) (h : OwnR e sz f w base v l) (hb : base ≤ w.heap.size) (x : α) (cs : Array Value) (hcs : cs = (f x).toArray) (T : TypeId) (hl : l.length < 900000) :
    ∃ v' w', (Builtin.append_ #[t, t] t #[v, .slice (some ⟨w.heap.size, 0, none⟩) 1 1]).run Try.prog (w.alloc (.cells cs T)) = .ok v' w' ∧ OwnR e sz f w' base v' (l ++ [x]) ∧ Grew w v w' v' := by
  obtain ⟨v', w', h1, h2, h3⟩ := (h.below (alloc_below w (.cells cs T))).append hE (by simp; omega) ⟨w.heap.size, 0, none⟩ 1 1 [x] rfl (row_made hE.len w x cs hcs T) hl (by omega)
  exact ⟨v', w', h1, h2, (Grew.alloc w v _).trans h3⟩
theorem OwnR.grew_below (h : OwnR e sz f w base v l) (hb : base ≤ w.heap.size) (k : Grew w v w' v') : Below base w w' := k.below hb fun j hj => (h.lt hj).1
end
section
variable {ops : Array Oper} {o : Oper} {a : Act} {w : World} {Q : Exit → Act → World → Prop}
theorem step_append {t : TypeId} {K : Act → World → Prop} {E : Prop} (hg : o.guard = none) (s x : Operand) (hop : o.op = Op.call { callee := Callee.builtin Builtin.append, args := #[s, x], argTypes := #[t, t] }) (hty : o.type = t) {u v r : Value} {w' : World} (hs : a.eval s = u) (hx : a.eval x = v)
    (hrun : (Builtin.append_ #[t, t] t #[u, v]).run Try.prog w = .ok r w') (hK : K (a.put o.dst r) w') :
    if Region.wanted o (yielded ops a.tmps) = true then Oper.wp Try.prog o a w K Q else E := by
  have hw : Region.wanted o (yielded ops a.tmps) = true := by simp [Region.wanted, hg]
  rw [if_pos hw]
  unfold Oper.wp
  simp [execOp, hop, hty, resolve, invoke, builtin, hs, hx, hrun, Result.andThen]
  exact hK
theorem wpList_append {t : TypeId} {rest : List Oper} (hg : o.guard = none) (x y : Operand) (ho : o.op = .call { callee := .builtin .append, args := #[x, y], argTypes := #[t, t] }) (hty : o.type = t) {u v r : Value} {w' : World} (hx : a.eval x = u) (hy : a.eval y = v)
    (hc : (Builtin.append_ #[t, t] t #[u, v]).run Try.prog w = .ok r w')
    (h : wpList Try.prog ops Q rest (a.put o.dst r) w') : wpList Try.prog ops Q (o :: rest) a w := by
  refine wpList_value hg ?_ h
  unfold execOp
  simp only [ho, hty, resolve, invoke, builtin, Sem.run_bind, Sem.run_pure, Result.andThen_ok]
  simp [hx, hy, hc, Result.andThen]
end
end Go.Proofs.Ytjpabjmicaopcaa
