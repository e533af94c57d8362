/-
  LISTS OF GRANTS, as plain data: users in order, what Check, Modes and Set answer of them.
-/
import Derived.Test.YtajondkpdgiolaaCommon
import Derived.Test.YtajondkpdgiolaaNames
import Derived.Test.YtajondkpdgiolaaTexts
import Derived.Test.YtajondkpdgiolaaLabs
import Derived.Test.YtajondkpdgiolaaGrs
import Derived.WalkKit
import Derived.Lib.Strings
import Derived.Lib.Bytealg
import Derived.KernelRfl
import Derived.ProofKit
namespace Go.Proofs.Ytajondkpdgiolaa
def star : ByteArray := ⟨#[42]⟩

def may (u : ByteArray) : Bool := eqs u star || name u
theorem lt_empty {u : ByteArray} (h : may u = true) : lt ⟨#[]⟩ u = true := by
  unfold lt
  rw [toL, toL]
  cases hu : u.data.toList with
  | cons c r => rfl
  | nil =>
    exfalso
    simp only [may, Bool.or_eq_true, name, Bool.and_eq_true, decide_eq_true_eq] at h
    rcases h with h | h
    · rw [eqs_iff] at h; subst h; cases hu
    · have : u.size = 0 := by
        show u.data.size = 0
        rw [← Array.length_toList, hu]
        rfl
      omega

/-- Is a list in order behind a? -/
def okAcl (a : ByteArray) : List Gr → Bool
  | [] => true
  | g :: r => (may g.u && (lt a g.u && (decide (1 ≤ g.m) && decide (g.m ≤ 7)))) && okAcl g.u r
def chkA (l : List Gr) : Int := if 4 < l.length then 4 else if okAcl ⟨#[]⟩ l = true then 0 else 1
def aheadAt (l : List Gr) : Nat → ByteArray
  | 0 => ⟨#[]⟩
  | i + 1 => (l.getD i zGr).u
def Sorted (l : List Gr) : Prop := l.Pairwise fun a b => lt a.u b.u = true
theorem okL_sorted : ∀ (l : List Gr) (a : ByteArray), okAcl a l = true → Sorted l ∧ ∀ g ∈ l, lt a g.u = true
  | [], a, _ => ⟨List.Pairwise.nil, by simp⟩
  | g :: r, a, h => by
    simp only [okAcl, Bool.and_eq_true] at h
    obtain ⟨⟨_, h2, _⟩, h3⟩ := h
    obtain ⟨s, hs⟩ := okL_sorted r g.u h3
    refine ⟨List.Pairwise.cons hs s, fun x hx => ?_⟩
    rcases List.mem_cons.1 hx with rfl | hx
    · exact h2
    · exact lt_trans h2 (hs x hx)
theorem okL_all : ∀ (l : List Gr) (a : ByteArray), okAcl a l = true → ∀ g ∈ l, may g.u = true ∧ 1 ≤ g.m ∧ g.m ≤ 7
  | [], _, _ => by simp
  | g :: r, a, h => by
    simp only [okAcl, Bool.and_eq_true, decide_eq_true_eq] at h
    obtain ⟨⟨h1, h2, h4, h5⟩, h3⟩ := h
    intro x hx
    rcases List.mem_cons.1 hx with rfl | hx
    · exact ⟨h1, h4, h5⟩
    · exact okL_all r g.u h3 x hx
theorem okL_of : ∀ (l : List Gr) (a : ByteArray), Sorted l → (∀ g ∈ l, lt a g.u = true) → (∀ g ∈ l, may g.u = true ∧ 1 ≤ g.m ∧ g.m ≤ 7) → okAcl a l = true
  | [], _, _, _, _ => rfl
  | g :: r, a, hs, h1, h2 => by
    have hp := List.pairwise_cons.1 hs
    obtain ⟨m1, m2, m3⟩ := h2 g (by simp)
    simp [okAcl, m1, m2, m3, h1 g (by simp), okL_of r g.u hp.2 hp.1 (fun x hx => h2 x (by simp [hx]))]
/-- What may be. -/
structure Good (l : List Gr) : Prop where
  len : l.length ≤ 4
  ord : Sorted l
  all : ∀ g ∈ l, may g.u = true ∧ 1 ≤ g.m ∧ g.m ≤ 7
theorem chk_good {l : List Gr} : chkA l = 0 ↔ Good l := by
  unfold chkA
  constructor
  · intro h
    split at h
    · cases h
    · split at h
      · rename_i h1 h2
        exact ⟨by omega, (okL_sorted _ _ h2).1, okL_all _ _ h2⟩
      · cases h
  · intro h
    rw [if_neg (by have := h.len; omega), if_pos (okL_of _ _ h.ord (fun g hg => lt_empty (h.all g hg).1) h.all)]

/-- A list about a user. -/
structure Parts (l : List Gr) (u : ByteArray) (A M B : List Gr) : Prop where
  eq : l = A ++ (M ++ B)
  ahead : ∀ g ∈ A, lt g.u u = true
  behind : ∀ g ∈ B, lt u g.u = true
  mid : M = [] ∨ ∃ m, M = [⟨u, m⟩]
theorem parts_of : ∀ (l : List Gr) (u : ByteArray), Sorted l → ∃ A M B, Parts l u A M B
  | [], u, _ => ⟨[], [], [], rfl, by simp, by simp, .inl rfl⟩
  | g :: r, u, hs => by
    have hp := List.pairwise_cons.1 hs
    rcases lt_total g.u u with h | h | h
    · obtain ⟨A, M, B, p⟩ := parts_of r u hp.2
      refine ⟨g :: A, M, B, by rw [p.eq]; rfl, fun x hx => ?_, p.behind, p.mid⟩
      rcases List.mem_cons.1 hx with rfl | hx
      · exact h
      · exact p.ahead x hx
    · refine ⟨[], [g], r, rfl, by simp, fun x hx => by rw [← h]; exact hp.1 x hx, .inr ⟨g.m, by rw [← h]⟩⟩
    · refine ⟨[], [], g :: r, rfl, by simp, fun x hx => ?_, .inl rfl⟩
      rcases List.mem_cons.1 hx with rfl | hx
      · exact h
      · exact lt_trans h (hp.1 x hx)
/-- A user's own modes, if any; the modes. -/
def look (l : List Gr) (u : ByteArray) : Option Int := (l.find? fun g => eqs g.u u).map (·.m)
def modesL (l : List Gr) (u : ByteArray) : Int := (look l u).getD ((look l star).getD 0)
theorem look_none {l : List Gr} {u : ByteArray} (h : ∀ g ∈ l, g.u ≠ u) : look l u = none := by
  unfold look
  rw [List.find?_eq_none.2 (fun g hg => by simp [eqs_ne (h g hg)])]
  rfl
theorem look_append (a b : List Gr) (u : ByteArray) : look (a ++ b) u = (look a u).or (look b u) := by
  unfold look
  rw [List.find?_append]
  cases List.find? (fun g => eqs g.u u) a <;> simp
theorem look_one (u : ByteArray) (m : Int) : look [⟨u, m⟩] u = some m := by simp [look, eqs_self]
theorem look_cons (g : Gr) (r : List Gr) (u : ByteArray) : look (g :: r) u = if eqs g.u u = true then some g.m else look r u := by
  unfold look
  rw [List.find?_cons]
  cases eqs g.u u <;> simp
section
variable {l A M B : List Gr} {u : ByteArray}
theorem Parts.noA (p : Parts l u A M B) : look A u = none := look_none fun g hg => lt_ne (p.ahead g hg)
theorem Parts.noB (p : Parts l u A M B) : look B u = none := look_none fun g hg => (lt_ne (p.behind g hg)).symm
theorem Parts.look (p : Parts l u A M B) : look l u = look M u := by
  rw [p.eq, look_append, look_append, p.noA, p.noB]
  simp
theorem Parts.other (p : Parts l u A M B) {x : ByteArray} (hx : x ≠ u) (N : List Gr) (hN : N = [] ∨ ∃ m, N = [⟨u, m⟩]) : Go.Proofs.Ytajondkpdgiolaa.look (A ++ (N ++ B)) x = Go.Proofs.Ytajondkpdgiolaa.look l x := by
  have one : ∀ m, Go.Proofs.Ytajondkpdgiolaa.look [⟨u, m⟩] x = none := fun m => look_none (by simp; exact fun e => hx e.symm)
  rw [p.eq, look_append, look_append, look_append, look_append]
  have h1 : ∀ N : List Gr, (N = [] ∨ ∃ m, N = [⟨u, m⟩]) → Go.Proofs.Ytajondkpdgiolaa.look N x = none := by
    rintro N (rfl | ⟨m, rfl⟩)
    · rfl
    · exact one m
  rw [h1 N hN, h1 M p.mid]
/-- Another grant there keeps order. -/
theorem Parts.sorted (p : Parts l u A M B) (hs : Sorted l) (N : List Gr) (hN : N = [] ∨ ∃ m, N = [⟨u, m⟩]) : Sorted (A ++ (N ++ B)) := by
  have h := hs
  unfold Sorted at h ⊢
  rw [p.eq] at h
  have hA := (List.pairwise_append.1 h).1
  have hMB := (List.pairwise_append.1 h).2.1
  have hB := (List.pairwise_append.1 hMB).2.1
  refine List.pairwise_append.2 ⟨hA, List.pairwise_append.2 ⟨?_, hB, ?_⟩, ?_⟩
  · rcases hN with rfl | ⟨m, rfl⟩
    · exact List.Pairwise.nil
    · exact List.pairwise_singleton _ _
  · rcases hN with rfl | ⟨m, rfl⟩
    · simp
    · intro a ha b hb
      simp at ha
      subst ha
      exact p.behind b hb
  · intro a ha b hb
    rcases List.mem_append.1 hb with hb | hb
    · rcases hN with rfl | ⟨m, rfl⟩
      · cases hb
      · simp at hb
        subst hb
        exact p.ahead a ha
    · exact lt_trans (p.ahead a ha) (p.behind b hb)
end

/-- What Set answers. -/
def setE (A M B : List Gr) (u : ByteArray) (m : Int) : Int :=
  if (!may u || decide (m < 0) || decide (7 < m)) = true then 1
  else if m = 0 then (if M = [] then 2 else 0)
  else if 4 < A.length + 1 + B.length then 4 else 0
def setL (A M B : List Gr) (u : ByteArray) (m : Int) : List Gr :=
  if setE A M B u m = 0 then A ++ ((if m = 0 then [] else [⟨u, m⟩]) ++ B) else []
theorem Parts.good {l A M B : List Gr} {u : ByteArray} {m : Int} (p : Parts l u A M B) (g : Good l) (h : setE A M B u m = 0) : Good (setL A M B u m) := by
  unfold setL
  rw [if_pos h]
  unfold setE at h
  split at h
  · cases h
  · rename_i h1
    simp only [Bool.or_eq_true, Bool.not_eq_true', decide_eq_true_eq, not_or, Bool.not_eq_false] at h1
    have hN : (if m = 0 then ([] : List Gr) else [⟨u, m⟩]) = [] ∨ ∃ m', (if m = 0 then ([] : List Gr) else [⟨u, m⟩]) = [⟨u, m'⟩] := by
      split
      · exact .inl rfl
      · exact .inr ⟨m, rfl⟩
    refine ⟨?_, p.sorted g.ord _ hN, ?_⟩
    · have hl := g.len
      rw [p.eq] at hl
      simp only [List.length_append] at hl ⊢
      split at h
      · rename_i h0
        rw [if_pos h0]
        simp; omega
      · rename_i h0
        rw [if_neg h0]
        split at h
        · cases h
        · simp; omega
    · intro x hx
      have hall := g.all
      rw [p.eq] at hall
      rcases List.mem_append.1 hx with hx | hx
      · exact hall x (by simp [hx])
      · rcases List.mem_append.1 hx with hx | hx
        · split at hx
          · cases hx
          · rename_i h0
            simp at hx
            subst hx
            exact ⟨h1.1.1, by show 1 ≤ m; omega, by show m ≤ 7; omega⟩
        · exact hall x (by simp [hx])
end Go.Proofs.Ytajondkpdgiolaa
