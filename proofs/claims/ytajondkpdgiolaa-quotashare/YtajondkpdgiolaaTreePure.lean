/-
  TREES, in plain words: nodes by their paths, found, put, dropped, told by directories, checked; what a tree is.
-/
import Derived.Test.YtajondkpdgiolaaNodeChkP
import Derived.Test.YtajondkpdgiolaaTexts
import Derived.Test.YtajondkpdgiolaaLPathPure
namespace Go.Proofs.Ytajondkpdgiolaa
open Go.RowKit
set_option maxRecDepth 8000
set_option linter.unusedSimpArgs false
set_option linter.unusedVariables false

def findN (l : List Nod) (p : ByteArray) : Option Nod := l.find? fun x => eqs x.path p
def dropN (l : List Nod) (p : ByteArray) : List Nod := l.filter fun x => !eqs x.path p
def putN (l : List Nod) (n : Nod) : List Nod := (dropN l n.path).takeWhile (fun x => lt x.path n.path) ++ n :: (dropN l n.path).dropWhile (fun x => lt x.path n.path)
def isUnder (p : ByteArray) (x : Nod) : Bool := !eqs x.path slashS && eqs (parentOf x.path) p
def underN (l : List Nod) (p : ByteArray) : List ByteArray := (l.filter (isUnder p)).map fun x => lastOf x.path
/-- Of each: what is wrong with it, and that it is behind the one ahead. -/
def behind : Option ByteArray → ByteArray → Bool
  | none, _ => true
  | some q, u => lt q u
def seqC (q : Option ByteArray) : List Nod → Int
  | [] => 0
  | x :: r => if nodC x ≠ 0 then nodC x else if behind q x.path = false then 1 else seqC (some x.path) r
/-- Of each but the root: its parent. -/
def upC (l : List Nod) : List Nod → Int
  | [] => 0
  | x :: r => if eqs x.path slashS = true then upC l r else match findN l (parentOf x.path) with
    | none => 2
    | some p => if p.dir = false then 3 else if (!rov x.label p.label || (!x.dir && !labEq x.label p.label)) = true then 15 else upC l r
def treeC (l : List Nod) : Int := if seqC none l ≠ 0 then seqC none l else match findN l slashS with
  | none => 2
  | some r => if upC l l ≠ 0 then upC l l else if labEq r.label bottomL = true then 0 else 15

/-! Lists that stand by their paths. -/
def Ordered (l : List Nod) : Prop := l.Pairwise fun a b => lt a.path b.path = true
theorem Ordered.uniq {l : List Nod} (h : Ordered l) {x y : Nod} (hx : x ∈ l) (hy : y ∈ l) (e : x.path = y.path) : x = y := by
  induction l with
  | nil => cases hx
  | cons a r ih =>
    obtain ⟨h1, h2⟩ := List.pairwise_cons.1 h
    rcases List.mem_cons.1 hx with hx1 | hx1
    · rcases List.mem_cons.1 hy with hy1 | hy1
      · rw [hx1, hy1]
      · have := lt_ne (h1 y hy1)
        exact absurd (by rw [← hx1]; exact e) this
    · rcases List.mem_cons.1 hy with hy1 | hy1
      · have := lt_ne (h1 x hx1)
        exact absurd (by rw [← hy1]; exact e.symm) this
      · exact ih h2 hx1 hy1
theorem find_some {l : List Nod} {p : ByteArray} {x : Nod} (h : findN l p = some x) : x ∈ l ∧ x.path = p := by
  unfold findN at h
  exact ⟨List.mem_of_find?_eq_some h, eqs_iff.1 (by simpa using List.find?_some h)⟩
theorem find_none {l : List Nod} {p : ByteArray} (h : findN l p = none) : ∀ x ∈ l, x.path ≠ p := fun x hx e => by
  unfold findN at h
  have := List.find?_eq_none.1 h x hx
  rw [e, eqs_self] at this
  exact this rfl
theorem find_mem {l : List Nod} (h : Ordered l) {x : Nod} (hx : x ∈ l) : findN l x.path = some x := by
  cases hf : findN l x.path with
  | none => exact absurd rfl (find_none hf x hx)
  | some y =>
    obtain ⟨hy, e⟩ := find_some hf
    rw [h.uniq hy hx e]
theorem drop_mem {l : List Nod} {p : ByteArray} {x : Nod} : x ∈ dropN l p ↔ x ∈ l ∧ x.path ≠ p := by
  unfold dropN
  rw [List.mem_filter]
  constructor
  · rintro ⟨h1, h2⟩
    refine ⟨h1, fun e => ?_⟩
    rw [e, eqs_self] at h2
    cases h2
  · rintro ⟨h1, h2⟩
    exact ⟨h1, by rw [eqs_ne h2]; rfl⟩
theorem drop_ordered {l : List Nod} (h : Ordered l) (p : ByteArray) : Ordered (dropN l p) := List.Pairwise.filter _ h
theorem take_while {α : Type} {f : α → Bool} : ∀ (l : List α), ∀ x ∈ l.takeWhile f, f x = true
  | [], x, h => by simp at h
  | a :: r, x, h => by
    rw [List.takeWhile_cons] at h
    split at h
    · rcases List.mem_cons.1 h with rfl | h
      · assumption
      · exact take_while r x h
    · cases h
theorem drop_while_mem {α : Type} {f : α → Bool} : ∀ (l : List α), ∀ x ∈ l.dropWhile f, x ∈ l
  | [], x, h => by simp at h
  | a :: r, x, h => by
    rw [List.dropWhile_cons] at h
    split at h
    · exact List.mem_cons_of_mem _ (drop_while_mem r x h)
    · exact h
theorem drop_while_gt {n : Nod} : ∀ (l : List Nod), Ordered l → (∀ x ∈ l, x.path ≠ n.path) → ∀ x ∈ l.dropWhile (fun x => lt x.path n.path), lt n.path x.path = true
  | [], _, _, x, h => by simp at h
  | a :: r, ho, hn, x, h => by
    obtain ⟨h1, h2⟩ := List.pairwise_cons.1 ho
    rw [List.dropWhile_cons] at h
    split at h
    · exact drop_while_gt r h2 (fun y hy => hn y (List.mem_cons_of_mem _ hy)) x h
    · rename_i hlt
      have ha : lt n.path a.path = true := by
        rcases lt_total a.path n.path with h | h | h
        · exact absurd h hlt
        · exact absurd h (hn a List.mem_cons_self)
        · exact h
      rcases List.mem_cons.1 h with rfl | h
      · exact ha
      · exact lt_trans ha (h1 x h)
theorem put_mem {l : List Nod} {n x : Nod} : x ∈ putN l n ↔ x = n ∨ (x ∈ l ∧ x.path ≠ n.path) := by
  unfold putN
  rw [← drop_mem]
  generalize dropN l n.path = m
  rw [List.mem_append, List.mem_cons]
  have e : ∀ y, y ∈ m ↔ y ∈ m.takeWhile (fun x => lt x.path n.path) ∨ y ∈ m.dropWhile (fun x => lt x.path n.path) := fun y => by
    rw [← List.mem_append, List.takeWhile_append_dropWhile]
  rw [e x]
  constructor
  · rintro (h | rfl | h)
    · exact .inr (.inl h)
    · exact .inl rfl
    · exact .inr (.inr h)
  · rintro (rfl | h | h)
    · exact .inr (.inl rfl)
    · exact .inl h
    · exact .inr (.inr h)
theorem put_ordered {l : List Nod} (h : Ordered l) (n : Nod) : Ordered (putN l n) := by
  unfold putN
  have hm : ∀ x ∈ dropN l n.path, x.path ≠ n.path := fun x hx => (drop_mem.1 hx).2
  have ho := drop_ordered h n.path
  generalize dropN l n.path = m at *
  have h1 := take_while (f := fun x : Nod => lt x.path n.path) m
  have h2 := drop_while_gt m ho hm
  refine List.pairwise_append.2 ⟨?_, List.pairwise_cons.2 ⟨h2, ?_⟩, ?_⟩
  · exact List.Pairwise.sublist (List.takeWhile_sublist _) ho
  · exact List.Pairwise.sublist (List.dropWhile_sublist _) ho
  · intro a ha b hb
    have ha' := h1 a ha
    rcases List.mem_cons.1 hb with rfl | hb
    · exact ha'
    · exact lt_trans ha' (h2 b hb)

/-! A tree. -/
structure Tree (l : List Nod) : Prop where
  ok : ∀ x ∈ l, nodC x = 0
  ord : Ordered l
  root : ∃ r ∈ l, r.path = slashS ∧ r.label = bottomL
  up : ∀ x ∈ l, x.path ≠ slashS → ∃ p ∈ l, p.path = parentOf x.path ∧ p.dir = true ∧ rov x.label p.label = true ∧ (x.dir = false → x.label = p.label)
theorem seq_ok : ∀ (l : List Nod) (q : Option ByteArray), (∀ x ∈ l, nodC x = 0) → Ordered l → (∀ q' x, q = some q' → x ∈ l → lt q' x.path = true) → seqC q l = 0
  | [], _, _, _, _ => rfl
  | x :: r, q, h1, h2, h3 => by
    obtain ⟨h4, h5⟩ := List.pairwise_cons.1 h2
    have h0 := h1 x List.mem_cons_self
    rw [seqC, if_neg (by rw [h0]; simp), if_neg, seq_ok r (some x.path) (fun y hy => h1 y (List.mem_cons_of_mem _ hy)) h5 (fun q' y e hy => by obtain rfl := Option.some.inj e; exact h4 y hy)]
    cases q with
    | none => simp [behind]
    | some q => rw [behind, h3 q x rfl List.mem_cons_self]; simp
theorem up_ok {l : List Nod} (h : Tree l) : ∀ (m : List Nod), (∀ x ∈ m, x ∈ l) → upC l m = 0
  | [], _ => rfl
  | x :: r, hm => by
    have ih := up_ok h r fun y hy => hm y (List.mem_cons_of_mem _ hy)
    rw [upC]
    by_cases hx : eqs x.path slashS = true
    · rw [if_pos hx]
      exact ih
    · rw [if_neg hx]
      obtain ⟨p, hp, e, hd, hov, hseg⟩ := h.up x (hm x List.mem_cons_self) (fun q => hx (eqs_iff.2 q))
      rw [← e, find_mem h.ord hp]
      simp only [hd, hov]
      rw [if_neg (by simp), if_neg, ih]
      cases hxd : x.dir
      · rw [(labEq_iff _ _).2 (hseg hxd)]
        simp
      · simp
theorem Tree.check {l : List Nod} (h : Tree l) : treeC l = 0 := by
  have h1 := seq_ok l none h.ok h.ord (fun q' x e => by cases e)
  obtain ⟨r, hr, e, hl⟩ := h.root
  have h2 := find_mem h.ord hr
  rw [e] at h2
  unfold treeC
  rw [if_neg (by rw [h1]; simp), h2]
  simp only
  rw [up_ok h l (fun _ hx => hx), if_neg (by simp), hl, if_pos ((labEq_iff _ _).2 rfl)]
theorem Tree.put {l : List Nod} (h : Tree l) {n d : Nod} (hn : nodC n = 0) (hs : n.path ≠ slashS) (hnew : ∀ x ∈ l, x.path ≠ n.path) (hd : d ∈ l) (hp : d.path = parentOf n.path) (hdd : d.dir = true) (hov : rov n.label d.label = true) (hseg : n.dir = false → n.label = d.label) : Tree (putN l n) := by
  refine ⟨fun x hx => ?_, put_ordered h.ord n, ?_, fun x hx hxs => ?_⟩
  · rcases put_mem.1 hx with rfl | ⟨hx, _⟩
    · exact hn
    · exact h.ok x hx
  · obtain ⟨r, hr, e, hl⟩ := h.root
    exact ⟨r, put_mem.2 (.inr ⟨hr, fun q => hs (by rw [← q, e])⟩), e, hl⟩
  · rcases put_mem.1 hx with rfl | ⟨hx, _⟩
    · exact ⟨d, put_mem.2 (.inr ⟨hd, hnew d hd⟩), hp, hdd, hov, hseg⟩
    · obtain ⟨p, hp', e, a, b, c⟩ := h.up x hx hxs
      exact ⟨p, put_mem.2 (.inr ⟨hp', hnew p hp'⟩), e, a, b, c⟩
end Go.Proofs.Ytajondkpdgiolaa
