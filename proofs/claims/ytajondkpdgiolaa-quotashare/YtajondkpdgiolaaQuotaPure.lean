/-
  COUNTS OF LABELS, in plain words: how many nodes have a By, how often a label stands in a row, a row in order.
-/
import Derived.Test.YtajondkpdgiolaaTreePure
namespace Go.Proofs.Ytajondkpdgiolaa
open Go.RowKit
set_option maxRecDepth 8000
set_option linter.unusedSimpArgs false
set_option linter.unusedVariables false

def cntBy (L : List Nod) (b : Lab) : Nat := L.countP fun x => labEq x.by_ b
def cntL (l : List Lab) (x : Lab) : Nat := l.countP fun y => labEq y x
def addL (l : List Lab) (x : Lab) : List Lab := l.takeWhile (fun y => !lessL x y) ++ x :: l.dropWhile (fun y => !lessL x y)
theorem labEq_self (x : Lab) : labEq x x = true := (labEq_iff x x).2 rfl
theorem labEq_ne {x y : Lab} (h : x ≠ y) : labEq x y = false := by
  cases hq : labEq x y
  · rfl
  · exact absurd ((labEq_iff x y).1 hq) h
theorem countP_take {α : Type} (f : α → Bool) {l : List α} {i : Nat} {x : α} (h : l[i]? = some x) : (l.take (i + 1)).countP f = (l.take i).countP f + if f x = true then 1 else 0 := by
  rw [List.take_add_one, h, List.countP_append]
  congr 1
  simp only [Option.toList, List.countP_cons, List.countP_nil]
  split <;> simp
theorem countP_le {α : Type} (f : α → Bool) (l : List α) (i : Nat) : (l.take i).countP f ≤ i := by
  refine Nat.le_trans List.countP_le_length ?_
  rw [List.length_take]
  omega
theorem less_irr (a : Lab) : lessL a a = false := by
  unfold lessL
  simp
theorem less_tot (a b : Lab) : lessL a b = true ∨ a = b ∨ lessL b a = true := by
  obtain ⟨a1, a2, a3, a4⟩ := a
  obtain ⟨b1, b2, b3, b4⟩ := b
  by_cases h1 : a1 = b1
  · subst h1
    by_cases h2 : a2 = b2
    · subst h2
      by_cases h3 : a3 = b3
      · subst h3
        by_cases h4 : a4 = b4
        · subst h4
          exact .inr (.inl rfl)
        · simp [lessL]
          omega
      · simp [lessL, h3, Ne.symm h3]
        omega
    · simp [lessL, h2, Ne.symm h2]
      omega
  · simp [lessL, h1, Ne.symm h1]
    omega
theorem less_cases {a b : Lab} (h : lessL a b = true) : a.s < b.s ∨ (a.s = b.s ∧ (a.c < b.c ∨ (a.c = b.c ∧ (a.i < b.i ∨ (a.i = b.i ∧ a.k < b.k))))) := by
  unfold lessL at h
  by_cases h1 : a.s = b.s
  · rw [if_neg (by simp [h1])] at h
    by_cases h2 : a.c = b.c
    · rw [if_neg (by simp [h2])] at h
      by_cases h3 : a.i = b.i
      · rw [if_neg (by simp [h3])] at h
        exact .inr ⟨h1, .inr ⟨h2, .inr ⟨h3, of_decide_eq_true h⟩⟩⟩
      · rw [if_pos (by simp [h3])] at h
        exact .inr ⟨h1, .inr ⟨h2, .inl (of_decide_eq_true h)⟩⟩
    · rw [if_pos (by simp [h2])] at h
      exact .inr ⟨h1, .inl (of_decide_eq_true h)⟩
  · rw [if_pos (by simp [h1])] at h
    exact .inl (of_decide_eq_true h)
theorem less_of {a b : Lab} (h : a.s < b.s ∨ (a.s = b.s ∧ (a.c < b.c ∨ (a.c = b.c ∧ (a.i < b.i ∨ (a.i = b.i ∧ a.k < b.k)))))) : lessL a b = true := by
  unfold lessL
  by_cases h1 : a.s = b.s
  · rw [if_neg (by simp [h1])]
    by_cases h2 : a.c = b.c
    · rw [if_neg (by simp [h2])]
      by_cases h3 : a.i = b.i
      · rw [if_neg (by simp [h3])]
        exact decide_eq_true (by omega)
      · rw [if_pos (by simp [h3])]
        exact decide_eq_true (by omega)
    · rw [if_pos (by simp [h2])]
      exact decide_eq_true (by omega)
  · rw [if_pos (by simp [h1])]
    exact decide_eq_true (by omega)
theorem lessL_trans {a b c : Lab} (h : lessL a b = true) (k : lessL b c = true) : lessL a c = true := by
  have h1 := less_cases h
  have h2 := less_cases k
  exact less_of (by omega)
theorem less_asym {a b : Lab} (h : lessL a b = true) : lessL b a = false := by
  cases hq : lessL b a
  · rfl
  · have := lessL_trans h hq
    rw [less_irr] at this
    cases this
theorem less_ne {a b : Lab} (h : lessL a b = true) : a ≠ b := fun e => by
  subst e
  rw [less_irr] at h
  cases h
/-- A row in order: none is less than one ahead of it. -/
def SortL (l : List Lab) : Prop := l.Pairwise fun a b => lessL b a = false
theorem notless_trans {a b c : Lab} (h : lessL b a = false) (k : lessL c b = false) : lessL c a = false := by
  cases hq : lessL c a
  · rfl
  · rcases less_tot a b with h1 | h1 | h1
    · have := lessL_trans hq h1
      rw [k] at this
      cases this
    · subst h1
      rw [k] at hq
      cases hq
    · rw [h] at h1
      cases h1
theorem dropL_gt {x : Lab} : ∀ (l : List Lab), SortL l → ∀ y ∈ l.dropWhile (fun y => !lessL x y), lessL x y = true
  | [], _, y, h => by simp at h
  | a :: r, hs, y, h => by
    obtain ⟨h1, h2⟩ := List.pairwise_cons.1 hs
    rw [List.dropWhile_cons] at h
    split at h
    · exact dropL_gt r h2 y h
    · rename_i hq
      have hxa : lessL x a = true := by simpa using hq
      rcases List.mem_cons.1 h with rfl | h
      · exact hxa
      · have h3 := h1 y h
        rcases less_tot a y with h4 | h4 | h4
        · exact lessL_trans hxa h4
        · rw [← h4]; exact hxa
        · rw [h3] at h4; cases h4
theorem add_sorted {l : List Lab} (h : SortL l) (x : Lab) : SortL (addL l x) := by
  unfold addL
  have h1 := take_while (f := fun y : Lab => !lessL x y) l
  have h2 := dropL_gt (x := x) l h
  refine List.pairwise_append.2 ⟨List.Pairwise.sublist (List.takeWhile_sublist _) h, List.pairwise_cons.2 ⟨fun y hy => less_asym (h2 y hy), List.Pairwise.sublist (List.dropWhile_sublist _) h⟩, fun a ha b hb => ?_⟩
  have ha' : lessL x a = false := by simpa using h1 a ha
  rcases List.mem_cons.1 hb with rfl | hb
  · exact ha'
  · exact notless_trans ha' (less_asym (h2 b hb))
theorem add_cnt (l : List Lab) (x y : Lab) : cntL (addL l x) y = cntL l y + if labEq x y = true then 1 else 0 := by
  unfold cntL addL
  rw [List.countP_append, List.countP_cons, ← Nat.add_assoc, ← List.countP_append, List.takeWhile_append_dropWhile]
theorem add_len (l : List Lab) (x : Lab) : (addL l x).length = l.length + 1 := by
  unfold addL
  rw [List.length_append, List.length_cons, ← Nat.add_assoc, ← List.length_append, List.takeWhile_append_dropWhile]
theorem cnt_pos {l : List Lab} {x : Lab} : 0 < cntL l x ↔ x ∈ l := by
  unfold cntL
  rw [List.countP_pos_iff]
  constructor
  · rintro ⟨y, hy, e⟩
    rw [(labEq_iff _ _).1 e] at hy
    exact hy
  · intro h
    exact ⟨x, h, labEq_self x⟩
theorem cnt_cons (l : List Lab) (x y : Lab) : cntL (x :: l) y = cntL l y + if labEq x y = true then 1 else 0 := by
  unfold cntL
  rw [List.countP_cons]
/-- Rows in order with the same counts are one. -/
theorem sort_uniq : ∀ (a b : List Lab), SortL a → SortL b → (∀ x, cntL a x = cntL b x) → a = b
  | [], b, _, _, h => by
    cases b with
    | nil => rfl
    | cons y r =>
      have h1 := h y
      rw [cnt_cons, labEq_self, if_pos rfl] at h1
      have : cntL ([] : List Lab) y = 0 := rfl
      omega
  | x :: r, b, ha, hb, h => by
    cases b with
    | nil =>
      have h1 := h x
      rw [cnt_cons, labEq_self, if_pos rfl] at h1
      have : cntL ([] : List Lab) x = 0 := rfl
      omega
    | cons y q =>
      obtain ⟨a1, a2⟩ := List.pairwise_cons.1 ha
      obtain ⟨b1, b2⟩ := List.pairwise_cons.1 hb
      have hxy : x = y := by
        have hx : x ∈ y :: q := cnt_pos.1 (by rw [← h x, cnt_cons, labEq_self, if_pos rfl]; omega)
        have hy : y ∈ x :: r := cnt_pos.1 (by rw [h y, cnt_cons, labEq_self, if_pos rfl]; omega)
        rcases List.mem_cons.1 hx with hx | hx
        · exact hx
        · rcases List.mem_cons.1 hy with hy | hy
          · exact hy.symm
          · have h1 := a1 y hy
            have h2 := b1 x hx
            rcases less_tot x y with h3 | h3 | h3
            · rw [h2] at h3; cases h3
            · exact h3
            · rw [h1] at h3; cases h3
      subst hxy
      rw [sort_uniq r q a2 b2 fun z => by
        have h1 := h z
        rw [cnt_cons, cnt_cons] at h1
        omega]
end Go.Proofs.Ytajondkpdgiolaa
