/-
  LISTS OF GRANTS, as plain data: users in order, what Check, Modes and Set answer of them.
-/
import Derived.Test.YtbbmeclngopbmaaProg
import Derived.WalkKit
import Derived.Lib.Strings
import Derived.Lib.Bytealg
import Derived.KernelRfl
import Derived.ProofKit
namespace Go.Proofs.Ytbbmeclngopbmaa

/-- A grant. -/
structure Gr where
  u : ByteArray
  m : Int
abbrev Gr.v (g : Gr) : Value := .agg #[.string g.u, .int .i64 g.m]
abbrev zGr : Gr := ⟨⟨#[]⟩, 0⟩

/-- Texts, byte by byte. -/
def lt (a b : ByteArray) : Bool := Op.bytesLess a.toList b.toList
def eqs (a b : ByteArray) : Bool := a.toList == b.toList
def star : ByteArray := ⟨#[42]⟩

theorem toL (a : ByteArray) : a.toList = a.data.toList := Lib.toList_data a
theorem eqs_iff {a b : ByteArray} : eqs a b = true ↔ a = b := by
  unfold eqs
  rw [toL, toL]
  simp only [beq_iff_eq]
  exact ⟨fun h => by cases a; cases b; simpa using h, fun h => by rw [h]⟩
theorem eqs_self (a : ByteArray) : eqs a a = true := eqs_iff.2 rfl
theorem eqs_ne {a b : ByteArray} (h : a ≠ b) : eqs a b = false := by
  cases he : eqs a b
  · rfl
  · exact absurd (eqs_iff.1 he) h
def cmpB (a b : ByteArray) : Int := Lib.compareBytes a.data.toList b.data.toList
theorem cmp_facts : ∀ a b : List UInt8, (Lib.compareBytes a b < 0 ↔ Op.bytesLess a b = true) ∧ (Lib.compareBytes a b = 0 ↔ a = b)
  | [], [] => by simp [Lib.compareBytes, Op.bytesLess]
  | [], _ :: _ => by simp [Lib.compareBytes, Op.bytesLess]
  | _ :: _, [] => by simp [Lib.compareBytes, Op.bytesLess]
  | a :: xs, b :: ys => by
    have ih := cmp_facts xs ys
    unfold Lib.compareBytes Op.bytesLess
    by_cases h1 : a < b
    · have : a ≠ b := fun e => by subst e; exact UInt8.lt_irrefl _ h1
      simp [h1, this]
    · by_cases h2 : b < a
      · have : a ≠ b := fun e => by subst e; exact UInt8.lt_irrefl _ h2
        simp [h1, h2, this]
      · have h3 : a = b := UInt8.le_antisymm (UInt8.not_lt.1 h2) (UInt8.not_lt.1 h1)
        subst h3
        simp [h1, ih]
theorem cmp_lt (a b : ByteArray) : cmpB a b < 0 ↔ lt a b = true := by
  unfold cmpB lt
  rw [toL, toL]
  exact (cmp_facts _ _).1
theorem cmp_eq0 (a b : ByteArray) : cmpB a b = 0 ↔ a = b := by
  unfold cmpB
  rw [(cmp_facts _ _).2, ← eqs_iff]
  unfold eqs
  rw [toL, toL]
  simp
theorem less_irrefl : ∀ a : List UInt8, Op.bytesLess a a = false
  | [] => rfl
  | a :: xs => by simp [Op.bytesLess, less_irrefl xs, UInt8.lt_irrefl]
theorem less_trans : ∀ a b c : List UInt8, Op.bytesLess a b = true → Op.bytesLess b c = true → Op.bytesLess a c = true
  | _, [], [], _, h => by simp [Op.bytesLess] at h
  | [], [], _ :: _, h, _ => by simp [Op.bytesLess] at h
  | [], _ :: _, [], _, h => by simp [Op.bytesLess] at h
  | [], _ :: _, _ :: _, _, _ => rfl
  | _ :: _, [], _, h, _ => by simp [Op.bytesLess] at h
  | _ :: _, _ :: _, [], _, h => by simp [Op.bytesLess] at h
  | a :: xs, b :: ys, c :: zs, h1, h2 => by
    have ih := less_trans xs ys zs
    simp only [Op.bytesLess] at h1 h2 ⊢
    have hab : a < b ∨ (a = b ∧ Op.bytesLess xs ys = true) := by
      by_cases h : a < b
      · exact .inl h
      · right
        by_cases h' : a = b
        · subst h'; simp [h] at h1; exact ⟨rfl, h1⟩
        · simp [h, h'] at h1
    have hbc : b < c ∨ (b = c ∧ Op.bytesLess ys zs = true) := by
      by_cases h : b < c
      · exact .inl h
      · right
        by_cases h' : b = c
        · subst h'; simp [h] at h2; exact ⟨rfl, h2⟩
        · simp [h, h'] at h2
    rcases hab with h | ⟨rfl, h⟩
    · have : a < c := by
        rcases hbc with k | ⟨rfl, _⟩
        · exact UInt8.lt_trans h k
        · exact h
      simp [this]
    · rcases hbc with k | ⟨rfl, k⟩
      · simp [k]
      · simp [ih h k, UInt8.lt_irrefl]
theorem lt_irrefl (a : ByteArray) : lt a a = false := less_irrefl _
theorem lt_trans {a b c : ByteArray} (h : lt a b = true) (k : lt b c = true) : lt a c = true := less_trans _ _ _ h k
theorem lt_ne {a b : ByteArray} (h : lt a b = true) : a ≠ b := fun e => by subst e; rw [lt_irrefl] at h; cases h
theorem lt_asymm {a b : ByteArray} (h : lt a b = true) : lt b a = false := by
  cases hb : lt b a
  · rfl
  · have := lt_trans h hb; rw [lt_irrefl] at this; cases this
theorem cmp_anti : ∀ a b : List UInt8, 0 < Lib.compareBytes a b → Op.bytesLess b a = true
  | [], [], h => by simp [Lib.compareBytes] at h
  | [], _ :: _, h => by simp [Lib.compareBytes] at h
  | _ :: _, [], _ => rfl
  | a :: xs, b :: ys, h => by
    have ih := cmp_anti xs ys
    unfold Lib.compareBytes at h
    unfold Op.bytesLess
    by_cases h1 : a < b
    · simp [h1] at h
    · by_cases h2 : b < a
      · simp [h2]
      · have h3 : a = b := UInt8.le_antisymm (UInt8.not_lt.1 h2) (UInt8.not_lt.1 h1)
        subst h3
        simp [h1] at h ⊢
        exact ih h
theorem lt_total (a b : ByteArray) : lt a b = true ∨ a = b ∨ lt b a = true := by
  rcases Int.lt_trichotomy (cmpB a b) 0 with h | h | h
  · exact .inl ((cmp_lt a b).1 h)
  · exact .inr (.inl ((cmp_eq0 a b).1 h))
  · refine .inr (.inr ?_)
    unfold lt
    rw [toL, toL]
    exact cmp_anti _ _ h

/-- A name's byte; a name; what may have a grant. -/
def okB (c : UInt8) : Bool := (decide (97 ≤ c.toNat) && decide (c.toNat ≤ 122)) || (decide (48 ≤ c.toNat) && decide (c.toNat ≤ 57))
def name (u : ByteArray) : Bool := decide (1 ≤ u.size) && (decide (u.size ≤ 12) && u.data.toList.all okB)
def may (u : ByteArray) : Bool := eqs u star || name u
theorem lt_empty {u : ByteArray} (h : may u = true) : lt ⟨#[]⟩ u = true := by
  unfold lt
  rw [toL, toL]
  cases hu : u.data.toList with
  | cons c r => rfl
  | nil =>
    exfalso
    simp only [may, Bool.or_eq_true, name, Bool.and_eq_true, decide_eq_true_eq] at h
    rcases h with h | h
    · rw [eqs_iff] at h; subst h; cases hu
    · have : u.size = 0 := by
        show u.data.size = 0
        rw [← Array.length_toList, hu]
        rfl
      omega

/-- Is a list in order behind a? -/
def okL (a : ByteArray) : List Gr → Bool
  | [] => true
  | g :: r => (may g.u && (lt a g.u && (decide (1 ≤ g.m) && decide (g.m ≤ 7)))) && okL g.u r
def chk (l : List Gr) : Int := if 4 < l.length then 4 else if okL ⟨#[]⟩ l = true then 0 else 1
def aheadAt (l : List Gr) : Nat → ByteArray
  | 0 => ⟨#[]⟩
  | i + 1 => (l.getD i zGr).u
def Sorted (l : List Gr) : Prop := l.Pairwise fun a b => lt a.u b.u = true
theorem okL_sorted : ∀ (l : List Gr) (a : ByteArray), okL a l = true → Sorted l ∧ ∀ g ∈ l, lt a g.u = true
  | [], a, _ => ⟨List.Pairwise.nil, by simp⟩
  | g :: r, a, h => by
    simp only [okL, Bool.and_eq_true] at h
    obtain ⟨⟨_, h2, _⟩, h3⟩ := h
    obtain ⟨s, hs⟩ := okL_sorted r g.u h3
    refine ⟨List.Pairwise.cons hs s, fun x hx => ?_⟩
    rcases List.mem_cons.1 hx with rfl | hx
    · exact h2
    · exact lt_trans h2 (hs x hx)
theorem okL_all : ∀ (l : List Gr) (a : ByteArray), okL a l = true → ∀ g ∈ l, may g.u = true ∧ 1 ≤ g.m ∧ g.m ≤ 7
  | [], _, _ => by simp
  | g :: r, a, h => by
    simp only [okL, Bool.and_eq_true, decide_eq_true_eq] at h
    obtain ⟨⟨h1, h2, h4, h5⟩, h3⟩ := h
    intro x hx
    rcases List.mem_cons.1 hx with rfl | hx
    · exact ⟨h1, h4, h5⟩
    · exact okL_all r g.u h3 x hx
theorem okL_of : ∀ (l : List Gr) (a : ByteArray), Sorted l → (∀ g ∈ l, lt a g.u = true) → (∀ g ∈ l, may g.u = true ∧ 1 ≤ g.m ∧ g.m ≤ 7) → okL a l = true
  | [], _, _, _, _ => rfl
  | g :: r, a, hs, h1, h2 => by
    have hp := List.pairwise_cons.1 hs
    obtain ⟨m1, m2, m3⟩ := h2 g (by simp)
    simp [okL, m1, m2, m3, h1 g (by simp), okL_of r g.u hp.2 hp.1 (fun x hx => h2 x (by simp [hx]))]
/-- What may be. -/
structure Good (l : List Gr) : Prop where
  len : l.length ≤ 4
  ord : Sorted l
  all : ∀ g ∈ l, may g.u = true ∧ 1 ≤ g.m ∧ g.m ≤ 7
theorem chk_good {l : List Gr} : chk l = 0 ↔ Good l := by
  unfold chk
  constructor
  · intro h
    split at h
    · cases h
    · split at h
      · rename_i h1 h2
        exact ⟨by omega, (okL_sorted _ _ h2).1, okL_all _ _ h2⟩
      · cases h
  · intro h
    rw [if_neg (by have := h.len; omega), if_pos (okL_of _ _ h.ord (fun g hg => lt_empty (h.all g hg).1) h.all)]

/-- A list about a user. -/
structure Parts (l : List Gr) (u : ByteArray) (A M B : List Gr) : Prop where
  eq : l = A ++ (M ++ B)
  ahead : ∀ g ∈ A, lt g.u u = true
  behind : ∀ g ∈ B, lt u g.u = true
  mid : M = [] ∨ ∃ m, M = [⟨u, m⟩]
theorem parts_of : ∀ (l : List Gr) (u : ByteArray), Sorted l → ∃ A M B, Parts l u A M B
  | [], u, _ => ⟨[], [], [], rfl, by simp, by simp, .inl rfl⟩
  | g :: r, u, hs => by
    have hp := List.pairwise_cons.1 hs
    rcases lt_total g.u u with h | h | h
    · obtain ⟨A, M, B, p⟩ := parts_of r u hp.2
      refine ⟨g :: A, M, B, by rw [p.eq]; rfl, fun x hx => ?_, p.behind, p.mid⟩
      rcases List.mem_cons.1 hx with rfl | hx
      · exact h
      · exact p.ahead x hx
    · refine ⟨[], [g], r, rfl, by simp, fun x hx => by rw [← h]; exact hp.1 x hx, .inr ⟨g.m, by rw [← h]⟩⟩
    · refine ⟨[], [], g :: r, rfl, by simp, fun x hx => ?_, .inl rfl⟩
      rcases List.mem_cons.1 hx with rfl | hx
      · exact h
      · exact lt_trans h (hp.1 x hx)
/-- A user's own modes, if any; the modes. -/
def look (l : List Gr) (u : ByteArray) : Option Int := (l.find? fun g => eqs g.u u).map (·.m)
def modesL (l : List Gr) (u : ByteArray) : Int := (look l u).getD ((look l star).getD 0)
theorem look_none {l : List Gr} {u : ByteArray} (h : ∀ g ∈ l, g.u ≠ u) : look l u = none := by
  unfold look
  rw [List.find?_eq_none.2 (fun g hg => by simp [eqs_ne (h g hg)])]
  rfl
theorem look_append (a b : List Gr) (u : ByteArray) : look (a ++ b) u = (look a u).or (look b u) := by
  unfold look
  rw [List.find?_append]
  cases List.find? (fun g => eqs g.u u) a <;> simp
theorem look_one (u : ByteArray) (m : Int) : look [⟨u, m⟩] u = some m := by simp [look, eqs_self]
theorem look_cons (g : Gr) (r : List Gr) (u : ByteArray) : look (g :: r) u = if eqs g.u u = true then some g.m else look r u := by
  unfold look
  rw [List.find?_cons]
  cases eqs g.u u <;> simp
section
variable {l A M B : List Gr} {u : ByteArray}
theorem Parts.noA (p : Parts l u A M B) : look A u = none := look_none fun g hg => lt_ne (p.ahead g hg)
theorem Parts.noB (p : Parts l u A M B) : look B u = none := look_none fun g hg => (lt_ne (p.behind g hg)).symm
theorem Parts.look (p : Parts l u A M B) : look l u = look M u := by
  rw [p.eq, look_append, look_append, p.noA, p.noB]
  simp
theorem Parts.other (p : Parts l u A M B) {x : ByteArray} (hx : x ≠ u) (N : List Gr) (hN : N = [] ∨ ∃ m, N = [⟨u, m⟩]) : Go.Proofs.Ytbbmeclngopbmaa.look (A ++ (N ++ B)) x = Go.Proofs.Ytbbmeclngopbmaa.look l x := by
  have one : ∀ m, Go.Proofs.Ytbbmeclngopbmaa.look [⟨u, m⟩] x = none := fun m => look_none (by simp; exact fun e => hx e.symm)
  rw [p.eq, look_append, look_append, look_append, look_append]
  have h1 : ∀ N : List Gr, (N = [] ∨ ∃ m, N = [⟨u, m⟩]) → Go.Proofs.Ytbbmeclngopbmaa.look N x = none := by
    rintro N (rfl | ⟨m, rfl⟩)
    · rfl
    · exact one m
  rw [h1 N hN, h1 M p.mid]
/-- Another grant there keeps order. -/
theorem Parts.sorted (p : Parts l u A M B) (hs : Sorted l) (N : List Gr) (hN : N = [] ∨ ∃ m, N = [⟨u, m⟩]) : Sorted (A ++ (N ++ B)) := by
  have h := hs
  unfold Sorted at h ⊢
  rw [p.eq] at h
  have hA := (List.pairwise_append.1 h).1
  have hMB := (List.pairwise_append.1 h).2.1
  have hB := (List.pairwise_append.1 hMB).2.1
  refine List.pairwise_append.2 ⟨hA, List.pairwise_append.2 ⟨?_, hB, ?_⟩, ?_⟩
  · rcases hN with rfl | ⟨m, rfl⟩
    · exact List.Pairwise.nil
    · exact List.pairwise_singleton _ _
  · rcases hN with rfl | ⟨m, rfl⟩
    · simp
    · intro a ha b hb
      simp at ha
      subst ha
      exact p.behind b hb
  · intro a ha b hb
    rcases List.mem_append.1 hb with hb | hb
    · rcases hN with rfl | ⟨m, rfl⟩
      · cases hb
      · simp at hb
        subst hb
        exact p.ahead a ha
    · exact lt_trans (p.ahead a ha) (p.behind b hb)
end

/-- What Set answers. -/
def setE (A M B : List Gr) (u : ByteArray) (m : Int) : Int :=
  if (!may u || decide (m < 0) || decide (7 < m)) = true then 1
  else if m = 0 then (if M = [] then 2 else 0)
  else if 4 < A.length + 1 + B.length then 4 else 0
def setL (A M B : List Gr) (u : ByteArray) (m : Int) : List Gr :=
  if setE A M B u m = 0 then A ++ ((if m = 0 then [] else [⟨u, m⟩]) ++ B) else []
theorem Parts.good {l A M B : List Gr} {u : ByteArray} {m : Int} (p : Parts l u A M B) (g : Good l) (h : setE A M B u m = 0) : Good (setL A M B u m) := by
  unfold setL
  rw [if_pos h]
  unfold setE at h
  split at h
  · cases h
  · rename_i h1
    simp only [Bool.or_eq_true, Bool.not_eq_true', decide_eq_true_eq, not_or, Bool.not_eq_false] at h1
    have hN : (if m = 0 then ([] : List Gr) else [⟨u, m⟩]) = [] ∨ ∃ m', (if m = 0 then ([] : List Gr) else [⟨u, m⟩]) = [⟨u, m'⟩] := by
      split
      · exact .inl rfl
      · exact .inr ⟨m, rfl⟩
    refine ⟨?_, p.sorted g.ord _ hN, ?_⟩
    · have hl := g.len
      rw [p.eq] at hl
      simp only [List.length_append] at hl ⊢
      split at h
      · rename_i h0
        rw [if_pos h0]
        simp; omega
      · rename_i h0
        rw [if_neg h0]
        split at h
        · cases h
        · simp; omega
    · intro x hx
      have hall := g.all
      rw [p.eq] at hall
      rcases List.mem_append.1 hx with hx | hx
      · exact hall x (by simp [hx])
      · rcases List.mem_append.1 hx with hx | hx
        · split at hx
          · cases hx
          · rename_i h0
            simp at hx
            subst hx
            exact ⟨h1.1.1, by show 1 ≤ m; omega, by show m ≤ 7; omega⟩
        · exact hall x (by simp [hx])
end Go.Proofs.Ytbbmeclngopbmaa
