/-
  WHERE A PATH STANDS: package tree's place, as it landed (slices.BinarySearchFunc), of lists that stand by their paths.
-/
import Derived.Test.YtajondkpdgiolaaTreeRows
import Derived.Test.YtajondkpdgiolaaLAclBase
namespace Go.Proofs.Ytajondkpdgiolaa
open Go.RowKit
set_option maxRecDepth 8000
set_option linter.unusedSimpArgs false
set_option linter.unusedVariables false

/-- A list, parted at a path. -/
structure PartsN (l : List PN) (u : ByteArray) (A M B : List PN) : Prop where
  eq : l = A ++ (M ++ B)
  ahead : ∀ x ∈ A, lt x.n.path u = true
  mid : M = [] ∨ ∃ x, M = [x] ∧ x.n.path = u
  behind : ∀ x ∈ B, lt u x.n.path = true
def OrdP (l : List PN) : Prop := l.Pairwise fun a b => lt a.n.path b.n.path = true
theorem ordP {l : List PN} : Ordered (namesP l) ↔ OrdP l := by
  unfold Ordered namesP OrdP
  rw [List.pairwise_map]
theorem partsN_of (u : ByteArray) : ∀ (l : List PN), OrdP l → ∃ A M B, PartsN l u A M B
  | [], _ => ⟨[], [], [], rfl, fun x h => (by cases h), .inl rfl, fun x h => (by cases h)⟩
  | a :: r, h => by
    obtain ⟨h1, h2⟩ := List.pairwise_cons.1 h
    rcases lt_total a.n.path u with hl | he | hg
    · obtain ⟨A, M, B, p⟩ := partsN_of u r h2
      refine ⟨a :: A, M, B, by rw [p.eq]; rfl, fun x hx => ?_, p.mid, p.behind⟩
      rcases List.mem_cons.1 hx with rfl | hx
      · exact hl
      · exact p.ahead x hx
    · exact ⟨[], [a], r, rfl, fun x hx => (by cases hx), .inr ⟨a, rfl, he⟩, fun x hx => by rw [← he]; exact h1 x hx⟩
    · refine ⟨[], [], a :: r, rfl, fun x hx => (by cases hx), .inl rfl, fun x hx => ?_⟩
      rcases List.mem_cons.1 hx with rfl | hx
      · exact hg
      · exact lt_trans hg (h1 x hx)
theorem PartsN.len {l A M B : List PN} {u : ByteArray} (p : PartsN l u A M B) : l.length = A.length + (M.length + B.length) := by rw [p.eq]; simp
theorem PartsN.cmp {l A M B : List PN} {u : ByteArray} (p : PartsN l u A M B) {h : Nat} {g : PN} (hg : l[h]? = some g) : (cmpB g.n.path u < 0 ↔ h < A.length) ∧ (cmpB g.n.path u = 0 ↔ (h = A.length ∧ M ≠ [])) := by
  rw [p.eq] at hg
  by_cases h1 : h < A.length
  · rw [List.getElem?_append_left h1] at hg
    have := p.ahead g (List.mem_of_getElem? hg)
    refine ⟨⟨fun _ => h1, fun _ => (cmp_lt _ _).2 this⟩, ⟨fun e => absurd ((cmp_eq0 _ _).1 e) (lt_ne this), fun e => by omega⟩⟩
  · rw [List.getElem?_append_right (by omega)] at hg
    rcases p.mid with hM | ⟨m, hM, hu⟩
    · rw [hM] at hg
      have hb := p.behind g (List.mem_of_getElem? (by simpa using hg))
      refine ⟨⟨fun e => ?_, fun e => absurd e h1⟩, ⟨fun e => absurd ((cmp_eq0 _ _).1 e).symm (lt_ne hb), fun e => absurd hM e.2⟩⟩
      have := (cmp_lt _ _).1 e
      rw [lt_asymm hb] at this
      cases this
    · rw [hM] at hg ⊢
      by_cases h2 : h = A.length
      · subst h2
        simp at hg
        subst hg
        have e0 : cmpB u u = 0 := (cmp_eq0 _ _).2 rfl
        simp [e0, hu]
      · obtain ⟨k, hk⟩ : ∃ k, h - A.length = k + 1 := ⟨h - A.length - 1, by omega⟩
        rw [hk] at hg
        have hb := p.behind g (List.mem_of_getElem? (by simpa using hg))
        refine ⟨⟨fun e => ?_, fun e => absurd e h1⟩, ⟨fun e => absurd ((cmp_eq0 _ _).1 e).symm (lt_ne hb), fun e => absurd e.1 h2⟩⟩
        have := (cmp_lt _ _).1 e
        rw [lt_asymm hb] at this
        cases this
/-! What is found, dropped and put, by its parts. -/
theorem PartsN.find {l A M B : List PN} {u : ByteArray} (p : PartsN l u A M B) : findP l u = M.head? := by
  have hA : A.find? (fun x => eqs x.n.path u) = none := List.find?_eq_none.2 fun x hx => by
    rw [eqs_ne (lt_ne (p.ahead x hx))]; decide
  have hB : B.find? (fun x => eqs x.n.path u) = none := List.find?_eq_none.2 fun x hx => by
    rw [eqs_ne (fun e => lt_ne (p.behind x hx) e.symm)]; decide
  unfold findP
  rw [p.eq, List.find?_append, hA, List.find?_append, hB]
  rcases p.mid with hM | ⟨m, hM, hu⟩
  · rw [hM]; rfl
  · rw [hM]
    have : [m].find? (fun x => eqs x.n.path u) = some m := by rw [List.find?_cons, hu, eqs_self]
    rw [this]
    rfl
theorem PartsN.drop {l A M B : List PN} {u : ByteArray} (p : PartsN l u A M B) : dropP l u = A ++ B := by
  have hA : A.filter (fun x => !eqs x.n.path u) = A := List.filter_eq_self.2 fun x hx => by
    rw [eqs_ne (lt_ne (p.ahead x hx))]; rfl
  have hB : B.filter (fun x => !eqs x.n.path u) = B := List.filter_eq_self.2 fun x hx => by
    rw [eqs_ne (fun e => lt_ne (p.behind x hx) e.symm)]; rfl
  unfold dropP
  rw [p.eq, List.filter_append, hA, List.filter_append, hB]
  rcases p.mid with hM | ⟨m, hM, hu⟩
  · rw [hM]; rfl
  · rw [hM, List.filter_cons, hu, eqs_self]
    rfl
theorem while_parts {α : Type} {f : α → Bool} : ∀ (A B : List α), (∀ x ∈ A, f x = true) → (∀ x ∈ B, f x = false) → (A ++ B).takeWhile f = A ∧ (A ++ B).dropWhile f = B
  | [], [], _, _ => ⟨rfl, rfl⟩
  | [], b :: r, _, h => by
    have := h b List.mem_cons_self
    simp [List.takeWhile_cons, List.dropWhile_cons, this]
  | a :: r, B, h1, h2 => by
    have ih := while_parts r B (fun x hx => h1 x (List.mem_cons_of_mem _ hx)) h2
    have := h1 a List.mem_cons_self
    simp [List.takeWhile_cons, List.dropWhile_cons, this, ih]
theorem PartsN.put {l A M B : List PN} {x : PN} (p : PartsN l x.n.path A M B) : putP l x = A ++ ([x] ++ B) := by
  unfold putP
  rw [p.drop]
  obtain ⟨h1, h2⟩ := while_parts (f := fun y : PN => lt y.n.path x.n.path) A B p.ahead fun y hy => lt_asymm (p.behind y hy)
  rw [h1, h2]
  rfl
end Go.Proofs.Ytajondkpdgiolaa
