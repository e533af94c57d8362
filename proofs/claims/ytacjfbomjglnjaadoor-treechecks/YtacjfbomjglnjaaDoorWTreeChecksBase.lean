/-
  WHAT TreeChecks HOLDS: lists that are copied, one of whose nodes is set anew, or left out.
-/
import Derived.Test.YtacjfbomjglnjaaDoorWTreeChkAll
import Derived.Test.YtacjfbomjglnjaaDoorWTreePlaysBase
namespace Go.Proofs.YtacjfbomjglnjaaDoor
open Go.RowKit
set_option maxRecDepth 8000
set_option linter.unusedSimpArgs false
set_option linter.unusedVariables false

/-- append, by its run. -/
structure AppRun (W : World) (u v r : Value) (W' : World) : Prop where
  run : (Builtin.append_ #[22, 22] 22 #[u, v]).run Tryd.prog W = .ok r W'
theorem wpList_app {ops : Array Oper} {rest : List Oper} {o : Oper} {A : Act} {W W' : World} {Q : Exit → Act → World → Prop} {u v r : Value} (h : AppRun W u v r W') (hg : o.guard = none) (x y : Operand) (ho : o.op = .call { callee := .builtin .append, args := #[x, y], argTypes := #[22, 22] }) (hty : o.type = 22) (hx : A.eval x = u) (hy : A.eval y = v)
    (k : wpList Tryd.prog ops Q rest (A.put o.dst r) W') : wpList Tryd.prog ops Q (o :: rest) A W := wpList_append hg x y ho hty hx hy h.run k
/-- A list, copied by append onto none. -/
theorem was_own {W : World} {a : Option Addr} {c n : Nat} {l : List PN} (h : RowAt 16 PN.cs W a l) (hno : a = none → c = 0) (hcap : l.length ≤ c) (hn : l.length = n) (hl : n ≤ 10000) : ∃ v' W', AppRun (W.alloc (.cells #[] 32)) (.slice (some ⟨W.heap.size, 0, none⟩) 0 0) (.slice a n c) v' W' ∧ OwnN W' W.heap.size v' l ∧ Below W.heap.size W W' := by
  have hB := alloc_below W (.cells #[] 32)
  have ho := own_empty W (Nat.le_refl W.heap.size)
  obtain ⟨v', W', hap, ho', hg⟩ := OwnR.append_any pn_ok ho (by simp) a n c l hn (h.below pn_len hB) (fun q => by have h0 := hno q; omega) (by simp) (by omega)
  have hb := ho.grew_below (by simp) hg
  rw [List.nil_append] at ho'
  exact ⟨v', W', ⟨hap⟩, ho', hB.trans hb⟩
theorem own_some {W : World} {b : Nat} {v : Value} {l : List PN} (h : OwnN W b v l) (hp : 0 < l.length) : ∃ g c, v = .slice (some ⟨g, 0, none⟩) l.length c ∧ b ≤ g ∧ l.length ≤ c := by
  rcases h.2 with ⟨_, h2⟩ | ⟨g, cap, cur, hv, hg, _, hc, _⟩
  · omega
  · exact ⟨g, cap, hv, hg, hc⟩
/-- A node of a list of one's own is set anew. -/
theorem elem_set {W : World} {b g c n : Nat} {l : List PN} (hn : l.length = n) (h : OwnN W b (.slice (some ⟨g, 0, none⟩) n c) l) (hb : b ≤ g) {k : Nat} (hk : k < n) (x : PN) : ∃ W', W.setCells g (k * 16) x.cs = W' ∧ W.there g (k * 16) x.cs.length ∧ RowAt 16 PN.cs W' (some ⟨g, 0, none⟩) (l.set k x) ∧ ∀ Z, Below b Z W → Below b Z W' := by
  subst hn
  have hr : W.ownsRow b 32 16 (.slice (some ⟨g, 0, none⟩) l.length c) l.length (l.flatMap PN.cs) := h
  have hcell : ∀ j x i, l[j]? = some x → i < 16 → W.cell? ⟨g, j * 16 + i, none⟩ = x.cs[i]? := fun j x i hx hi => by
    have hj := (List.getElem?_eq_some_iff.1 hx).1
    rw [hr.cellAt (j * 16 + i) (by omega), flat_at pn_len l j i x hx hi]
  have hth : W.there g (k * 16) x.cs.length := fun j hj => by
    rw [pn_len] at hj
    refine ⟨?_, hr.frozenAt _⟩
    rw [hcell k l[k] j (List.getElem?_eq_getElem hk) hj, List.getElem?_eq_getElem (by rw [pn_len]; exact hj)]
    rfl
  refine ⟨_, rfl, hth, fun j y hy => ⟨_, rfl, fun i hi => ?_⟩, fun Z hZ => Below.cells hb _ _ hZ⟩
  rw [add_at]
  have hj : j < l.length := by simpa using (List.getElem?_eq_some_iff.1 hy).1
  by_cases hjk : j = k
  · subst hjk
    obtain rfl : x = y := by simpa [hj] using hy
    obtain ⟨u, hu⟩ : ∃ u, x.cs[i]? = some u := ⟨_, List.getElem?_eq_getElem (by rw [pn_len]; exact hi)⟩
    rw [hu]
    exact World.rangeAt_setCells_same W g (j * 16) x.cs hth i u hu
  · rw [List.getElem?_set_ne (by omega)] at hy
    have hra : W.rangeAt g (j * 16) y.cs := fun i u hu => by
      have hi := (List.getElem?_eq_some_iff.1 hu).1
      rw [pn_len] at hi
      rw [hcell j y i hy hi, hu]
    have hq := World.rangeAt_setCells_apart hra g (k * 16) x.cs (by rw [pn_len, pn_len]; omega)
    obtain ⟨u, hu⟩ : ∃ u, y.cs[i]? = some u := ⟨_, List.getElem?_eq_getElem (by rw [pn_len]; exact hi)⟩
    rw [hu]
    exact hq i u hu
/-- A node of a list is left out. -/
theorem left_out {W : World} {a : Option Addr} {c n k : Nat} {l : List PN} (h : RowAt 16 PN.cs W a l) (hno : a = none → c = 0) (hcap : l.length ≤ c) (hn : l.length = n) (hl : n ≤ 10000) (hk : k < n) :
    ∃ A1 A2 v2 W2 v3 W3, (∀ X, (Instr.slice 22 (.slice a n c) none (some (.int .i64 (k : Int))) none).run Tryd.prog X = .ok (.slice A1 k c) X) ∧ (∀ X, (Instr.slice 22 (.slice a n c) (some (.int .i64 ((k : Int) + 1))) none none).run Tryd.prog X = .ok (.slice A2 (n - (k + 1)) (c - (k + 1))) X) ∧
      AppRun (W.alloc (.cells #[] 32)) (.slice (some ⟨W.heap.size, 0, none⟩) 0 0) (.slice A1 k c) v2 W2 ∧ AppRun W2 v2 (.slice A2 (n - (k + 1)) (c - (k + 1))) v3 W3 ∧ OwnN W3 W.heap.size v3 (l.take k ++ l.drop (k + 1)) ∧ Below W.heap.size W W3 := by
  subst hn
  obtain ⟨A1, hs1, hn1', hr1'⟩ := rows_take pn_ok (by kernel_rfl) a l.length c k (by omega) hcap
  obtain ⟨A2, hs2, hn2', hr2'⟩ := rows_drop pn_ok (by kernel_rfl) a l.length c (k + 1) (by omega) hcap
  have hlt3 : (l.take k).length = k := by rw [List.length_take]; omega
  have hlt4 : (l.drop (k + 1)).length = l.length - (k + 1) := by rw [List.length_drop]
  have hB := alloc_below W (.cells #[] 32)
  have ho := own_empty W (Nat.le_refl W.heap.size)
  obtain ⟨v2, W2, hap2, ho2, hg2⟩ := OwnR.append_any pn_ok ho (by simp) A1 k c (l.take k) hlt3 (hr1' _ _ (h.below pn_len hB)) (fun q => by have := hno (hn1' q); omega) (by simp) (by omega)
  have hb2 := hB.trans (ho.grew_below (by simp) hg2)
  rw [List.nil_append] at ho2
  obtain ⟨v3, W3, hap3, ho3, hg3⟩ := OwnR.append_any pn_ok ho2 hb2.size A2 (l.length - (k + 1)) (c - (k + 1)) (l.drop (k + 1)) hlt4 (hr2' _ _ rfl (h.below pn_len hb2)) (fun q => by have := hno (hn2' q); omega) (by rw [hlt3]; omega) (by omega)
  exact ⟨A1, A2, v2, W2, v3, W3, hs1, fun X => by have := hs2 X; simpa using this, ⟨hap2⟩, ⟨hap3⟩, ho3, hb2.trans (ho2.grew_below hb2.size hg3)⟩
theorem run_none (W : World) : (Instr.buildSlice 22 0 #[]).run Tryd.prog W = .ok (.slice (some ⟨W.heap.size, 0, none⟩) 0 0) (W.alloc (.cells #[] 32)) := by
  have h1 := Tryd.underlying22
  go_simp
section
variable {ops : Array Oper} {rest : List Oper} {o : Oper} {a : Act} {w W : World} {Q : Exit → Act → World → Prop} {T : TypeId}
theorem wpList_none (hg : o.guard = none) (ho : o.op = .buildSlice 22 0 #[])
    (h : wpList Tryd.prog ops Q rest (a.put o.dst (.slice (some ⟨w.heap.size, 0, none⟩) 0 0)) (w.alloc (.cells #[] 32))) : wpList Tryd.prog ops Q (o :: rest) a w := by
  refine wpList_value hg ?_ h
  unfold execOp
  have hr := run_none w
  simp [ho, hr, Result.andThen]
  try rfl
theorem step_none {K : Act → World → Prop} {E : Prop} (hg : o.guard = none) (ho : o.op = .buildSlice 22 0 #[]) (hK : K (a.put o.dst (.slice (some ⟨w.heap.size, 0, none⟩) 0 0)) (w.alloc (.cells #[] 32))) :
    if Region.wanted o (yielded ops a.tmps) = true then Oper.wp Tryd.prog o a w K Q else E := by
  have hw : Region.wanted o (yielded ops a.tmps) = true := by simp [Region.wanted, hg]
  rw [if_pos hw]
  unfold Oper.wp execOp
  have hr := run_none w
  simp [ho, hr, Result.andThen]
  exact hK
theorem step_app {K : Act → World → Prop} {E : Prop} {u v r : Value} {W W' : World} (h : AppRun W u v r W') (hg : o.guard = none) (x y : Operand) (ho : o.op = .call { callee := .builtin .append, args := #[x, y], argTypes := #[22, 22] }) (hty : o.type = 22) (hx : a.eval x = u) (hy : a.eval y = v) (hK : K (a.put o.dst r) W') :
    if Region.wanted o (yielded ops a.tmps) = true then Oper.wp Tryd.prog o a W K Q else E := step_append hg x y ho hty hx hy h.run hK
theorem wpList_store_elem (hg : o.guard = none) (x y : Operand) (ho : o.op = .store T x y) (p : Addr) (hx : a.eval x = .pointer (some p)) (b k : Nat) (hp : p = ⟨b, k, none⟩) (cs : List Value) (hy : a.eval y = .agg cs.toArray)
    (ht : w.there b k cs.length) (hi : (Tryd.prog.info? T).map (·.size) = some cs.length) (h1 : ∀ v ∈ cs, v.oneCell' = true) (hW : w.setCells b k cs = W)
    (h : wpList Tryd.prog ops Q rest (a.put o.dst undef) W) : wpList Tryd.prog ops Q (o :: rest) a w := by
  subst hp
  exact wpList_store_part hg x y ho b k hx cs hy ht hi h1 hW h
end
theorem pn_by {W : World} {x : Addr} {p : PN} (h : CellsAt W x p.cs) : CellsAt W ⟨x.block, x.off + 12, none⟩ (labLit p.n.by_) := h.sub 12 (by decide) _ fun j v hv => by
  match j, hv with
  | 0, hv => exact hv
  | 1, hv => exact hv
  | 2, hv => exact hv
  | 3, hv => exact hv
abbrev rgLit (n : Nod) : List Value := [.int .i64 n.r1, .int .i64 n.r2, .int .i64 n.r3, .int .i64 n.gates]
theorem pn_rg {W : World} {x : Addr} {p : PN} (h : CellsAt W x p.cs) : CellsAt W ⟨x.block, x.off + 7, none⟩ (rgLit p.n) := h.sub 7 (by decide) _ fun j v hv => by
  match j, hv with
  | 0, hv => exact hv
  | 1, hv => exact hv
  | 2, hv => exact hv
  | 3, hv => exact hv
theorem pn_at {W : World} {x : Addr} {p : PN} (h : CellsAt W x p.cs) (k : Nat) (hk : k ≠ 0) (v : Value) (hv : p.cs[k]? = some v) : W.cell? ⟨x.block, x.off + k, none⟩ = some v := by
  have := h.sub k hk [v] (fun j u hu => by
    match j, hu with
    | 0, hu => rw [Nat.add_zero, hv]; exact hu) 0 v rfl
  exact this
theorem lab_one (t : Lab) : ∀ v ∈ labLit t, v.oneCell' = true := by
  intro v hv
  simp only [List.mem_cons, List.not_mem_nil, or_false] at hv
  rcases hv with rfl | rfl | rfl | rfl <;> rfl
theorem rg_one (n : Nod) : ∀ v ∈ rgLit n, v.oneCell' = true := by
  intro v hv
  simp only [List.mem_cons, List.not_mem_nil, or_false] at hv
  rcases hv with rfl | rfl | rfl | rfl <;> rfl
theorem Fine.wide {l : List PN} (h : Fine l) : WideN l := fun x hx => (h.small x hx).2
/-- The node that is turned: its field of that number is another one's. -/
def turnP (f : Nat) (x t : PN) : PN :=
  match f with
  | 0 => ⟨⟨x.n.path, x.n.dir, t.n.label, x.n.acl, x.n.r1, x.n.r2, x.n.r3, x.n.gates, x.n.words, x.n.by_⟩, x.aa, x.ca, x.wa, x.cw⟩
  | 1 => ⟨⟨x.n.path, !x.n.dir, x.n.label, x.n.acl, x.n.r1, x.n.r2, x.n.r3, x.n.gates, x.n.words, x.n.by_⟩, x.aa, x.ca, x.wa, x.cw⟩
  | 2 => ⟨⟨t.n.path, x.n.dir, x.n.label, x.n.acl, x.n.r1, x.n.r2, x.n.r3, x.n.gates, x.n.words, x.n.by_⟩, x.aa, x.ca, x.wa, x.cw⟩
  | 3 => ⟨⟨x.n.path, x.n.dir, x.n.label, t.n.acl, x.n.r1, x.n.r2, x.n.r3, x.n.gates, x.n.words, x.n.by_⟩, t.aa, t.ca, x.wa, x.cw⟩
  | 4 => ⟨⟨x.n.path, x.n.dir, x.n.label, x.n.acl, x.n.r1, x.n.r2, x.n.r3, x.n.gates, x.n.words, t.n.by_⟩, x.aa, x.ca, x.wa, x.cw⟩
  | _ => ⟨⟨x.n.path, x.n.dir, x.n.label, x.n.acl, t.n.r1, t.n.r2, t.n.r3, t.n.gates, x.n.words, x.n.by_⟩, x.aa, x.ca, x.wa, x.cw⟩
/-- What the law holds of the node that is turned. -/
structure TurnOk (W : World) (x : PN) : Prop where
  at_ : x.At W
  ws : x.n.words.length ≤ 1000000
  us : ∀ g ∈ x.n.acl, g.u.size ≤ 9223372036854775807
theorem TurnOk.below {W W' : World} {x : PN} (h : TurnOk W x) (b : Below W.heap.size W W') : TurnOk W' x := ⟨h.at_.below b, h.ws, h.us⟩
theorem turn_ok {W : World} {x t : PN} (hx : TurnOk W x) (hg : GrsAt W t.aa t.n.acl) (hu : ∀ g ∈ t.n.acl, g.u.size ≤ 9223372036854775807) (f : Nat) : TurnOk W (turnP f x t) := by
  unfold turnP
  split
  · exact ⟨⟨hx.at_.g, hx.at_.w⟩, hx.ws, hx.us⟩
  · exact ⟨⟨hx.at_.g, hx.at_.w⟩, hx.ws, hx.us⟩
  · exact ⟨⟨hx.at_.g, hx.at_.w⟩, hx.ws, hx.us⟩
  · exact ⟨⟨hg, hx.at_.w⟩, hx.ws, hu⟩
  · exact ⟨⟨hx.at_.g, hx.at_.w⟩, hx.ws, hx.us⟩
  · exact ⟨⟨hx.at_.g, hx.at_.w⟩, hx.ws, hx.us⟩
theorem wide_set {l : List PN} (h : WideN l) {x : PN} {W : World} (hx : TurnOk W x) (k : Nat) : WideN (l.set k x) := fun y hy => by
  rcases List.mem_or_eq_of_mem_set hy with hy | rfl
  · exact h y hy
  · exact ⟨hx.ws, hx.us⟩
theorem wide_out {l : List PN} (h : WideN l) (k : Nat) : WideN (l.take k ++ l.drop (k + 1)) := fun y hy => by
  rcases List.mem_append.1 hy with hy | hy
  · exact h y (List.mem_of_mem_take hy)
  · exact h y (List.mem_of_mem_drop hy)
theorem out_mem {l : List PN} {k : Nat} {y : PN} (hy : y ∈ l.take k ++ l.drop (k + 1)) : y ∈ l := by
  rcases List.mem_append.1 hy with hy | hy
  · exact List.mem_of_mem_take hy
  · exact List.mem_of_mem_drop hy
end Go.Proofs.YtacjfbomjglnjaaDoor
