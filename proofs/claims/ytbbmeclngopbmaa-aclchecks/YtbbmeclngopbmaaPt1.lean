/-
  PART 1 of what the claims of this seat lean on: AclPure AclBase AclName AclCheck.
-/
import Derived.Test.YtbbmeclngopbmaaProg
import Derived.WalkKit
import Derived.Lib.Strings
import Derived.Lib.Bytealg
import Derived.KernelRfl
import Derived.ProofKit
import Derived.WalkLawsBesides
import Derived.Below
import Derived.Deep.RegionHeld
import Derived.Deep.LoopGhost
namespace Go.Proofs.Ytbbmeclngopbmaa
theorem gA {α : Type} {xs : List α} {i : Nat} : xs.toArray[i]? = xs[i]? := List.getElem?_toArray
theorem gB {α : Type} {a : α} {l : List α} : (a :: l)[0]? = some a := List.getElem?_cons_zero
theorem gC {α : Type} {a : α} {l : List α} {i : Nat} : (a :: l)[i + 1]? = l[i]? := List.getElem?_cons_succ
theorem sA {α : Type} {xs : List α} {i : Nat} {a : α} : xs.toArray.setIfInBounds i a = (xs.set i a).toArray := List.setIfInBounds_toArray xs i a
theorem sB {α : Type} {a b : α} {l : List α} : (a :: l).set 0 b = b :: l := List.set_cons_zero
theorem sC {α : Type} {a b : α} {l : List α} {i : Nat} : (a :: l).set (i + 1) b = a :: l.set i b := List.set_cons_succ
end Go.Proofs.Ytbbmeclngopbmaa
/-! LISTS OF GRANTS, as plain data: users in order, what Check, Modes and Set answer of them. -/
namespace Go.Proofs.Ytbbmeclngopbmaa

/-- A grant. -/
structure Gr where
  u : ByteArray
  m : Int
abbrev Gr.v (g : Gr) : Value := .agg #[.string g.u, .int .i64 g.m]
abbrev zGr : Gr := ⟨⟨#[]⟩, 0⟩

/-- Texts, byte by byte. -/
def lt (a b : ByteArray) : Bool := Op.bytesLess a.toList b.toList
def eqs (a b : ByteArray) : Bool := a.toList == b.toList
def star : ByteArray := ⟨#[42]⟩

theorem toL (a : ByteArray) : a.toList = a.data.toList := Lib.toList_data a
theorem eqs_iff {a b : ByteArray} : eqs a b = true ↔ a = b := by
  unfold eqs
  rw [toL, toL]
  simp only [beq_iff_eq]
  exact ⟨fun h => by cases a; cases b; simpa using h, fun h => by rw [h]⟩
theorem eqs_self (a : ByteArray) : eqs a a = true := eqs_iff.2 rfl
theorem eqs_ne {a b : ByteArray} (h : a ≠ b) : eqs a b = false := by
  cases he : eqs a b
  · rfl
  · exact absurd (eqs_iff.1 he) h
def cmpB (a b : ByteArray) : Int := Lib.compareBytes a.data.toList b.data.toList
theorem cmp_facts : ∀ a b : List UInt8, (Lib.compareBytes a b < 0 ↔ Op.bytesLess a b = true) ∧ (Lib.compareBytes a b = 0 ↔ a = b)
  | [], [] => by simp [Lib.compareBytes, Op.bytesLess]
  | [], _ :: _ => by simp [Lib.compareBytes, Op.bytesLess]
  | _ :: _, [] => by simp [Lib.compareBytes, Op.bytesLess]
  | a :: xs, b :: ys => by
    have ih := cmp_facts xs ys
    unfold Lib.compareBytes Op.bytesLess
    by_cases h1 : a < b
    · have : a ≠ b := fun e => by subst e; exact UInt8.lt_irrefl _ h1
      simp [h1, this]
    · by_cases h2 : b < a
      · have : a ≠ b := fun e => by subst e; exact UInt8.lt_irrefl _ h2
        simp [h1, h2, this]
      · have h3 : a = b := UInt8.le_antisymm (UInt8.not_lt.1 h2) (UInt8.not_lt.1 h1)
        subst h3
        simp [h1, ih]
theorem cmp_lt (a b : ByteArray) : cmpB a b < 0 ↔ lt a b = true := by
  unfold cmpB lt
  rw [toL, toL]
  exact (cmp_facts _ _).1
theorem cmp_eq0 (a b : ByteArray) : cmpB a b = 0 ↔ a = b := by
  unfold cmpB
  rw [(cmp_facts _ _).2, ← eqs_iff]
  unfold eqs
  rw [toL, toL]
  simp
theorem less_irrefl : ∀ a : List UInt8, Op.bytesLess a a = false
  | [] => rfl
  | a :: xs => by simp [Op.bytesLess, less_irrefl xs, UInt8.lt_irrefl]
theorem less_trans : ∀ a b c : List UInt8, Op.bytesLess a b = true → Op.bytesLess b c = true → Op.bytesLess a c = true
  | _, [], [], _, h => by simp [Op.bytesLess] at h
  | [], [], _ :: _, h, _ => by simp [Op.bytesLess] at h
  | [], _ :: _, [], _, h => by simp [Op.bytesLess] at h
  | [], _ :: _, _ :: _, _, _ => rfl
  | _ :: _, [], _, h, _ => by simp [Op.bytesLess] at h
  | _ :: _, _ :: _, [], _, h => by simp [Op.bytesLess] at h
  | a :: xs, b :: ys, c :: zs, h1, h2 => by
    have ih := less_trans xs ys zs
    simp only [Op.bytesLess] at h1 h2 ⊢
    have hab : a < b ∨ (a = b ∧ Op.bytesLess xs ys = true) := by
      by_cases h : a < b
      · exact .inl h
      · right
        by_cases h' : a = b
        · subst h'; simp [h] at h1; exact ⟨rfl, h1⟩
        · simp [h, h'] at h1
    have hbc : b < c ∨ (b = c ∧ Op.bytesLess ys zs = true) := by
      by_cases h : b < c
      · exact .inl h
      · right
        by_cases h' : b = c
        · subst h'; simp [h] at h2; exact ⟨rfl, h2⟩
        · simp [h, h'] at h2
    rcases hab with h | ⟨rfl, h⟩
    · have : a < c := by
        rcases hbc with k | ⟨rfl, _⟩
        · exact UInt8.lt_trans h k
        · exact h
      simp [this]
    · rcases hbc with k | ⟨rfl, k⟩
      · simp [k]
      · simp [ih h k, UInt8.lt_irrefl]
theorem lt_irrefl (a : ByteArray) : lt a a = false := less_irrefl _
theorem lt_trans {a b c : ByteArray} (h : lt a b = true) (k : lt b c = true) : lt a c = true := less_trans _ _ _ h k
theorem lt_ne {a b : ByteArray} (h : lt a b = true) : a ≠ b := fun e => by subst e; rw [lt_irrefl] at h; cases h
theorem lt_asymm {a b : ByteArray} (h : lt a b = true) : lt b a = false := by
  cases hb : lt b a
  · rfl
  · have := lt_trans h hb; rw [lt_irrefl] at this; cases this
theorem cmp_anti : ∀ a b : List UInt8, 0 < Lib.compareBytes a b → Op.bytesLess b a = true
  | [], [], h => by simp [Lib.compareBytes] at h
  | [], _ :: _, h => by simp [Lib.compareBytes] at h
  | _ :: _, [], _ => rfl
  | a :: xs, b :: ys, h => by
    have ih := cmp_anti xs ys
    unfold Lib.compareBytes at h
    unfold Op.bytesLess
    by_cases h1 : a < b
    · simp [h1] at h
    · by_cases h2 : b < a
      · simp [h2]
      · have h3 : a = b := UInt8.le_antisymm (UInt8.not_lt.1 h2) (UInt8.not_lt.1 h1)
        subst h3
        simp [h1] at h ⊢
        exact ih h
theorem lt_total (a b : ByteArray) : lt a b = true ∨ a = b ∨ lt b a = true := by
  rcases Int.lt_trichotomy (cmpB a b) 0 with h | h | h
  · exact .inl ((cmp_lt a b).1 h)
  · exact .inr (.inl ((cmp_eq0 a b).1 h))
  · refine .inr (.inr ?_)
    unfold lt
    rw [toL, toL]
    exact cmp_anti _ _ h

/-- A name's byte; a name; what may have a grant. -/
def okB (c : UInt8) : Bool := (decide (97 ≤ c.toNat) && decide (c.toNat ≤ 122)) || (decide (48 ≤ c.toNat) && decide (c.toNat ≤ 57))
def name (u : ByteArray) : Bool := decide (1 ≤ u.size) && (decide (u.size ≤ 12) && u.data.toList.all okB)
def may (u : ByteArray) : Bool := eqs u star || name u
theorem lt_empty {u : ByteArray} (h : may u = true) : lt ⟨#[]⟩ u = true := by
  unfold lt
  rw [toL, toL]
  cases hu : u.data.toList with
  | cons c r => rfl
  | nil =>
    exfalso
    simp only [may, Bool.or_eq_true, name, Bool.and_eq_true, decide_eq_true_eq] at h
    rcases h with h | h
    · rw [eqs_iff] at h; subst h; cases hu
    · have : u.size = 0 := by
        show u.data.size = 0
        rw [← Array.length_toList, hu]
        rfl
      omega

/-- Is a list in order behind a? -/
def okL (a : ByteArray) : List Gr → Bool
  | [] => true
  | g :: r => (may g.u && (lt a g.u && (decide (1 ≤ g.m) && decide (g.m ≤ 7)))) && okL g.u r
def chk (l : List Gr) : Int := if 4 < l.length then 4 else if okL ⟨#[]⟩ l = true then 0 else 1
def aheadAt (l : List Gr) : Nat → ByteArray
  | 0 => ⟨#[]⟩
  | i + 1 => (l.getD i zGr).u
def Sorted (l : List Gr) : Prop := l.Pairwise fun a b => lt a.u b.u = true
theorem okL_sorted : ∀ (l : List Gr) (a : ByteArray), okL a l = true → Sorted l ∧ ∀ g ∈ l, lt a g.u = true
  | [], a, _ => ⟨List.Pairwise.nil, by simp⟩
  | g :: r, a, h => by
    simp only [okL, Bool.and_eq_true] at h
    obtain ⟨⟨_, h2, _⟩, h3⟩ := h
    obtain ⟨s, hs⟩ := okL_sorted r g.u h3
    refine ⟨List.Pairwise.cons hs s, fun x hx => ?_⟩
    rcases List.mem_cons.1 hx with rfl | hx
    · exact h2
    · exact lt_trans h2 (hs x hx)
theorem okL_all : ∀ (l : List Gr) (a : ByteArray), okL a l = true → ∀ g ∈ l, may g.u = true ∧ 1 ≤ g.m ∧ g.m ≤ 7
  | [], _, _ => by simp
  | g :: r, a, h => by
    simp only [okL, Bool.and_eq_true, decide_eq_true_eq] at h
    obtain ⟨⟨h1, h2, h4, h5⟩, h3⟩ := h
    intro x hx
    rcases List.mem_cons.1 hx with rfl | hx
    · exact ⟨h1, h4, h5⟩
    · exact okL_all r g.u h3 x hx
theorem okL_of : ∀ (l : List Gr) (a : ByteArray), Sorted l → (∀ g ∈ l, lt a g.u = true) → (∀ g ∈ l, may g.u = true ∧ 1 ≤ g.m ∧ g.m ≤ 7) → okL a l = true
  | [], _, _, _, _ => rfl
  | g :: r, a, hs, h1, h2 => by
    have hp := List.pairwise_cons.1 hs
    obtain ⟨m1, m2, m3⟩ := h2 g (by simp)
    simp [okL, m1, m2, m3, h1 g (by simp), okL_of r g.u hp.2 hp.1 (fun x hx => h2 x (by simp [hx]))]
/-- What may be. -/
structure Good (l : List Gr) : Prop where
  len : l.length ≤ 4
  ord : Sorted l
  all : ∀ g ∈ l, may g.u = true ∧ 1 ≤ g.m ∧ g.m ≤ 7
theorem chk_good {l : List Gr} : chk l = 0 ↔ Good l := by
  unfold chk
  constructor
  · intro h
    split at h
    · cases h
    · split at h
      · rename_i h1 h2
        exact ⟨by omega, (okL_sorted _ _ h2).1, okL_all _ _ h2⟩
      · cases h
  · intro h
    rw [if_neg (by have := h.len; omega), if_pos (okL_of _ _ h.ord (fun g hg => lt_empty (h.all g hg).1) h.all)]

/-- A list about a user. -/
structure Parts (l : List Gr) (u : ByteArray) (A M B : List Gr) : Prop where
  eq : l = A ++ (M ++ B)
  ahead : ∀ g ∈ A, lt g.u u = true
  behind : ∀ g ∈ B, lt u g.u = true
  mid : M = [] ∨ ∃ m, M = [⟨u, m⟩]
theorem parts_of : ∀ (l : List Gr) (u : ByteArray), Sorted l → ∃ A M B, Parts l u A M B
  | [], u, _ => ⟨[], [], [], rfl, by simp, by simp, .inl rfl⟩
  | g :: r, u, hs => by
    have hp := List.pairwise_cons.1 hs
    rcases lt_total g.u u with h | h | h
    · obtain ⟨A, M, B, p⟩ := parts_of r u hp.2
      refine ⟨g :: A, M, B, by rw [p.eq]; rfl, fun x hx => ?_, p.behind, p.mid⟩
      rcases List.mem_cons.1 hx with rfl | hx
      · exact h
      · exact p.ahead x hx
    · refine ⟨[], [g], r, rfl, by simp, fun x hx => by rw [← h]; exact hp.1 x hx, .inr ⟨g.m, by rw [← h]⟩⟩
    · refine ⟨[], [], g :: r, rfl, by simp, fun x hx => ?_, .inl rfl⟩
      rcases List.mem_cons.1 hx with rfl | hx
      · exact h
      · exact lt_trans h (hp.1 x hx)
/-- A user's own modes, if any; the modes. -/
def look (l : List Gr) (u : ByteArray) : Option Int := (l.find? fun g => eqs g.u u).map (·.m)
def modesL (l : List Gr) (u : ByteArray) : Int := (look l u).getD ((look l star).getD 0)
theorem look_none {l : List Gr} {u : ByteArray} (h : ∀ g ∈ l, g.u ≠ u) : look l u = none := by
  unfold look
  rw [List.find?_eq_none.2 (fun g hg => by simp [eqs_ne (h g hg)])]
  rfl
theorem look_append (a b : List Gr) (u : ByteArray) : look (a ++ b) u = (look a u).or (look b u) := by
  unfold look
  rw [List.find?_append]
  cases List.find? (fun g => eqs g.u u) a <;> simp
theorem look_one (u : ByteArray) (m : Int) : look [⟨u, m⟩] u = some m := by simp [look, eqs_self]
theorem look_cons (g : Gr) (r : List Gr) (u : ByteArray) : look (g :: r) u = if eqs g.u u = true then some g.m else look r u := by
  unfold look
  rw [List.find?_cons]
  cases eqs g.u u <;> simp
section
variable {l A M B : List Gr} {u : ByteArray}
theorem Parts.noA (p : Parts l u A M B) : look A u = none := look_none fun g hg => lt_ne (p.ahead g hg)
theorem Parts.noB (p : Parts l u A M B) : look B u = none := look_none fun g hg => (lt_ne (p.behind g hg)).symm
theorem Parts.look (p : Parts l u A M B) : look l u = look M u := by
  rw [p.eq, look_append, look_append, p.noA, p.noB]
  simp
theorem Parts.other (p : Parts l u A M B) {x : ByteArray} (hx : x ≠ u) (N : List Gr) (hN : N = [] ∨ ∃ m, N = [⟨u, m⟩]) : Go.Proofs.Ytbbmeclngopbmaa.look (A ++ (N ++ B)) x = Go.Proofs.Ytbbmeclngopbmaa.look l x := by
  have one : ∀ m, Go.Proofs.Ytbbmeclngopbmaa.look [⟨u, m⟩] x = none := fun m => look_none (by simp; exact fun e => hx e.symm)
  rw [p.eq, look_append, look_append, look_append, look_append]
  have h1 : ∀ N : List Gr, (N = [] ∨ ∃ m, N = [⟨u, m⟩]) → Go.Proofs.Ytbbmeclngopbmaa.look N x = none := by
    rintro N (rfl | ⟨m, rfl⟩)
    · rfl
    · exact one m
  rw [h1 N hN, h1 M p.mid]
/-- Another grant there keeps order. -/
theorem Parts.sorted (p : Parts l u A M B) (hs : Sorted l) (N : List Gr) (hN : N = [] ∨ ∃ m, N = [⟨u, m⟩]) : Sorted (A ++ (N ++ B)) := by
  have h := hs
  unfold Sorted at h ⊢
  rw [p.eq] at h
  have hA := (List.pairwise_append.1 h).1
  have hMB := (List.pairwise_append.1 h).2.1
  have hB := (List.pairwise_append.1 hMB).2.1
  refine List.pairwise_append.2 ⟨hA, List.pairwise_append.2 ⟨?_, hB, ?_⟩, ?_⟩
  · rcases hN with rfl | ⟨m, rfl⟩
    · exact List.Pairwise.nil
    · exact List.pairwise_singleton _ _
  · rcases hN with rfl | ⟨m, rfl⟩
    · simp
    · intro a ha b hb
      simp at ha
      subst ha
      exact p.behind b hb
  · intro a ha b hb
    rcases List.mem_append.1 hb with hb | hb
    · rcases hN with rfl | ⟨m, rfl⟩
      · cases hb
      · simp at hb
        subst hb
        exact p.ahead a ha
    · exact lt_trans (p.ahead a ha) (p.behind b hb)
end

/-- What Set answers. -/
def setE (A M B : List Gr) (u : ByteArray) (m : Int) : Int :=
  if (!may u || decide (m < 0) || decide (7 < m)) = true then 1
  else if m = 0 then (if M = [] then 2 else 0)
  else if 4 < A.length + 1 + B.length then 4 else 0
def setL (A M B : List Gr) (u : ByteArray) (m : Int) : List Gr :=
  if setE A M B u m = 0 then A ++ ((if m = 0 then [] else [⟨u, m⟩]) ++ B) else []
theorem Parts.good {l A M B : List Gr} {u : ByteArray} {m : Int} (p : Parts l u A M B) (g : Good l) (h : setE A M B u m = 0) : Good (setL A M B u m) := by
  unfold setL
  rw [if_pos h]
  unfold setE at h
  split at h
  · cases h
  · rename_i h1
    simp only [Bool.or_eq_true, Bool.not_eq_true', decide_eq_true_eq, not_or, Bool.not_eq_false] at h1
    have hN : (if m = 0 then ([] : List Gr) else [⟨u, m⟩]) = [] ∨ ∃ m', (if m = 0 then ([] : List Gr) else [⟨u, m⟩]) = [⟨u, m'⟩] := by
      split
      · exact .inl rfl
      · exact .inr ⟨m, rfl⟩
    refine ⟨?_, p.sorted g.ord _ hN, ?_⟩
    · have hl := g.len
      rw [p.eq] at hl
      simp only [List.length_append] at hl ⊢
      split at h
      · rename_i h0
        rw [if_pos h0]
        simp; omega
      · rename_i h0
        rw [if_neg h0]
        split at h
        · cases h
        · simp; omega
    · intro x hx
      have hall := g.all
      rw [p.eq] at hall
      rcases List.mem_append.1 hx with hx | hx
      · exact hall x (by simp [hx])
      · rcases List.mem_append.1 hx with hx | hx
        · split at hx
          · cases hx
          · rename_i h0
            simp at hx
            subst hx
            exact ⟨h1.1.1, by show 1 ≤ m; omega, by show m ≤ 7; omega⟩
        · exact hall x (by simp [hx])
end Go.Proofs.Ytbbmeclngopbmaa

/-! LISTS OF GRANTS IN MEMORY, and the search for a user's place: acl.find, slices.BinarySearchFunc, strings.Compare. -/
namespace Go.Proofs.Ytbbmeclngopbmaa
open Go.RowKit
set_option maxRecDepth 8000

/-- A list's grants lie there. -/
def GAt (w : World) (a : Option Addr) (l : List Gr) : Prop :=
  ∀ j g, l[j]? = some g → ∃ x, a = some x ∧ w.cell? (x.add (j * 2)) = some (.string g.u) ∧ w.cell? ⟨(x.add (j * 2)).block, (x.add (j * 2)).off + 1, none⟩ = some (.int .i64 g.m)
theorem GAt.below {w w' : World} {a : Option Addr} {l : List Gr} (h : GAt w a l) (b : Below w.heap.size w w') : GAt w' a l := by
  intro j g hg
  obtain ⟨x, hx, h1, h2⟩ := h j g hg
  exact ⟨x, hx, (b.cell (World.block_lt_of_cell? _ _ h1)).trans h1, (b.cell (World.block_lt_of_cell? _ _ h2)).trans h2⟩
theorem GAt.drew {w : World} {a : Option Addr} {l : List Gr} (h : GAt w a l) : GAt w.drew a l := h
theorem alloc_below (w : World) (o : Obj) : Below w.heap.size w (w.alloc o) := (Below.refl _ _).alloc (Nat.le_refl _) _
theorem Below.then {w W W' : World} (h : Below w.heap.size w W) (k : Below W.heap.size W W') : Below w.heap.size w W' := h.trans (k.mono h.size)

set_option maxHeartbeats 1000000 in
theorem compareString_any (a b : ByteArray) (w : World) :
    Calls Try.prog 26 #[.string a, .string b] w fun e w' => e = .returned (.int .i64 (cmpB a b)) ∧ w' = w := by
  go_enter Try.func26, Try.ntmps26
  go_wp2
  rw [run_callFunc_extern Try.func27 (by kernel_rfl) (by kernel_rfl) (by kernel_rfl) (e := Extern.BytealgCompare.compare) (by kernel_rfl), Lib.run_compareString]
  simp only [Result.andThen]
  rw [Oper.upon_value]
  go_wp2
  go_ret
  exact ⟨rfl, rfl⟩
set_option maxHeartbeats 1000000 in
theorem compare_any (a b : ByteArray) (w : World) :
    Calls Try.prog 25 #[.string a, .string b] w fun e w' => e = .returned (.int .i64 (cmpB a b)) ∧ w' = w := by
  go_enter Try.func25, Try.ntmps25
  go_wp2_with (go_at_call 26; refine (compareString_any _ _ _).mono ?_; rintro e w' ⟨rfl, rfl⟩)
  go_ret
  exact ⟨rfl, rfl⟩
set_option maxHeartbeats 1000000 in
theorem cmp_any (g : Gr) (u : ByteArray) (w : World) :
    Calls Try.prog 24 #[g.v, .string u] w fun e w' => e = .returned (.int .i64 (cmpB g.u u)) ∧ Below w.heap.size w w' := by
  have hb := alloc_below w (.cells #[.string g.u, .int .i64 g.m] 40)
  go_enter Try.func24, Try.ntmps24
  go_wp2_with (go_at_call 25; refine (compare_any _ _ _).mono ?_; rintro e w' ⟨rfl, rfl⟩)
  go_ret
  exact ⟨rfl, hb⟩
end Go.Proofs.Ytbbmeclngopbmaa

/-! NAMES: acl.isName, acl.mayHave, and the document's own. -/
namespace Go.Proofs.Ytbbmeclngopbmaa
open Go.RowKit
set_option maxRecDepth 8000

theorem all_drop {u : ByteArray} {i : Nat} (h : i < u.size) : (u.data.toList.drop i).all okB = (okB (u[i]'h) && (u.data.toList.drop (i + 1)).all okB) := by
  have hi : i < u.data.toList.length := by rw [Array.length_toList]; exact h
  rw [List.drop_eq_getElem_cons hi, List.all_cons]
  rfl
set_option maxHeartbeats 2000000 in
theorem isName_any (u : ByteArray) (w : World) :
    Calls Try.prog 21 #[.string u] w fun e w' => e = .returned (.bool (name u)) ∧ w' = w := by
  by_cases h1 : 1 ≤ u.size
  · by_cases h2 : u.size ≤ 12
    · have e : name u = (u.data.toList.drop 0).all okB := by simp [name, h1, h2]
      rw [e]
      clear e
      obtain ⟨b, hb⟩ : ∃ b, (u.data.toList.drop 0).all okB = b := ⟨_, rfl⟩
      rw [hb]
      go_enter Try.func21, Try.ntmps21
      go_wp2
      go_loopw [15] (fun t wr => ∃ i : Nat, i ≤ u.size ∧ t = .int .i64 (i : Int) ∧ wr = w ∧ b = (u.data.toList.drop i).all okB) (fun t _ => u.size - (Go.RowKit.intOf t).toNat)
      case atStart => exact ⟨0, by omega, rfl, rfl, hb.symm⟩
      case round =>
        obtain ⟨i, hi, rfl, rfl, hall⟩ := hrel
        by_cases hlt : i < u.size
        · have hd := all_drop hlt
          obtain ⟨k, hk⟩ : ∃ k : Nat, (u[i]'hlt).toNat = k := ⟨_, rfl⟩
          rw [okB, hk] at hd
          by_cases hok : (97 ≤ k ∧ k ≤ 122) ∨ (48 ≤ k ∧ k ≤ 57)
          · have hn : Aside (b = (u.data.toList.drop (i + 1)).all okB) := by
              refine (hall.trans hd).trans ?_
              rcases hok with ⟨h, h'⟩ | ⟨h, h'⟩ <;> simp [h, h']
            clear hall hd
            rcases hok with ⟨h3, h4⟩ | ⟨h3, h4⟩
            · go_wp2
              exact ⟨⟨i + 1, by omega, by simp, trivial, hn.out⟩, by simp [Go.RowKit.intOf]; omega⟩
            · go_wp2
              exact ⟨⟨i + 1, by omega, by simp, trivial, hn.out⟩, by simp [Go.RowKit.intOf]; omega⟩
          · obtain rfl : b = false := by
              refine (hall.trans hd).trans ?_
              rw [Bool.and_eq_false_iff]
              left
              simp only [Bool.or_eq_false_iff, Bool.and_eq_false_iff, decide_eq_false_iff_not]
              omega
            clear hall hd hb
            by_cases h3 : k < 97
            · by_cases h4 : k < 48
              · go_wp2
                go_ret
                exact ⟨rfl, rfl⟩
              · have h5 : 57 < k := by omega
                go_wp2
                go_ret
                exact ⟨rfl, rfl⟩
            · have h5 : 122 < k := by omega
              go_wp2
              go_ret
              exact ⟨rfl, rfl⟩
        · go_wp2
          go_ret
          exact ⟨by rw [hall, List.drop_eq_nil_of_le (by rw [Array.length_toList]; show u.size ≤ i; omega)]; rfl, rfl⟩
    · have e : name u = false := by simp [name, h2]
      rw [e]
      go_enter Try.func21, Try.ntmps21
      go_wp2
      go_ret
      exact ⟨rfl, rfl⟩
  · have e : name u = false := by simp [name, h1]
    rw [e]
    go_enter Try.func21, Try.ntmps21
    go_wp2
    go_ret
    exact ⟨rfl, rfl⟩

set_option maxHeartbeats 2000000 in
theorem rname_any (u : ByteArray) (hu : u.size ≤ 9223372036854775807) (w : World) :
    Calls Try.prog 22 #[.string u] w fun e w' => e = .returned (.bool (name u)) ∧ w' = w := by
  obtain ⟨b, hb⟩ : ∃ b, name u = b := ⟨_, rfl⟩
  rw [hb]
  have hb0 : Aside (b = (decide (1 ≤ u.size) && (decide (u.size ≤ 12) && (u.data.toList.drop 0).all okB))) := by rw [Aside, ← hb]; rfl
  clear hb
  go_enter Try.func22, Try.ntmps22
  go_wp2
  go_loopw [3] (fun t wr => ∃ i : Nat, i ≤ u.size ∧ t = .int .i64 (i : Int) ∧ wr = w ∧ Aside (b = (decide (1 ≤ u.size) && (decide (u.size ≤ 12) && (u.data.toList.drop i).all okB)))) (fun t _ => u.size - (Go.RowKit.intOf t).toNat)
  case atStart => exact ⟨0, by omega, rfl, rfl, hb0⟩
  case round =>
    obtain ⟨i, hi, rfl, rfl, hall⟩ := hrel
    by_cases hlt : i < u.size
    · have hd := all_drop hlt
      obtain ⟨k, hk⟩ : ∃ k : Nat, (u[i]'hlt).toNat = k := ⟨_, rfl⟩
      rw [okB, hk] at hd
      by_cases hok : (97 ≤ k ∧ k ≤ 122) ∨ (48 ≤ k ∧ k ≤ 57)
      · have hn : Aside (b = (decide (1 ≤ u.size) && (decide (u.size ≤ 12) && (u.data.toList.drop (i + 1)).all okB))) := by
          refine hall.out.trans ?_
          rw [hd]
          rcases hok with ⟨h, h'⟩ | ⟨h, h'⟩ <;> simp [h, h']
        clear hall hd
        rcases hok with ⟨h3, h4⟩ | ⟨h3, h4⟩
        · go_wp2
          exact ⟨⟨i + 1, by omega, by simp, trivial, hn⟩, by simp [Go.RowKit.intOf]; omega⟩
        · go_wp2
          exact ⟨⟨i + 1, by omega, by simp, trivial, hn⟩, by simp [Go.RowKit.intOf]; omega⟩
      · obtain rfl : b = false := by
          refine hall.out.trans ?_
          rw [hd]
          rw [Bool.and_eq_false_iff]
          right
          rw [Bool.and_eq_false_iff]
          right
          rw [Bool.and_eq_false_iff]
          left
          simp only [Bool.or_eq_false_iff, Bool.and_eq_false_iff, decide_eq_false_iff_not]
          omega
        clear hall hd hb0
        by_cases h3 : k < 97
        · by_cases h4 : k < 48
          · go_wp2
            go_ret
            exact ⟨rfl, rfl⟩
          · have h5 : 57 < k := by omega
            go_wp2
            go_ret
            exact ⟨rfl, rfl⟩
        · have h5 : 122 < k := by omega
          go_wp2
          go_ret
          exact ⟨rfl, rfl⟩
    · have he : Aside (b = (decide (1 ≤ u.size) && decide (u.size ≤ 12))) := by
        refine hall.out.trans ?_
        rw [List.drop_eq_nil_of_le (by rw [Array.length_toList]; show u.size ≤ i; omega)]
        simp
      clear hall hb0
      by_cases h1 : 1 ≤ u.size
      · by_cases h2 : u.size ≤ 12
        · obtain rfl : b = true := by rw [he.out]; simp [h1, h2]
          go_wp2
          go_ret
          exact ⟨by simp; omega, rfl⟩
        · obtain rfl : b = false := by rw [he.out]; simp [h2]
          go_wp2
          go_ret
          exact ⟨by simp; omega, rfl⟩
      · obtain rfl : b = false := by rw [he.out]; simp [h1]
        go_wp2
        go_ret
        exact ⟨by simp; try omega, rfl⟩

theorem star_yes {u : ByteArray} (h : eqs u star = true) : u.toList = [42] := by
  rw [eqs_iff.1 h, toL]; rfl
theorem star_no {u : ByteArray} (h : eqs u star = false) : ¬ u.toList = [42] := fun e => by
  have : star.toList = [42] := by rw [toL]; rfl
  unfold eqs at h
  rw [e, this] at h
  cases h
set_option maxHeartbeats 1000000 in
theorem mayHave_any (u : ByteArray) (w : World) :
    Calls Try.prog 17 #[.string u] w fun e w' => e = .returned (.bool (may u)) ∧ w' = w := by
  cases h : eqs u star
  · have e : may u = name u := by simp [may, h]
    rw [e]
    clear e
    have h' := star_no h
    go_enter Try.func17, Try.ntmps17
    go_wp2_with (go_at_call 21; refine (isName_any _ _).mono ?_; rintro e w' ⟨rfl, rfl⟩)
    go_ret
    exact ⟨by simp [h'], rfl⟩
  · have e : may u = true := by simp [may, h]
    rw [e]
    clear e
    have h' := star_yes h
    go_enter Try.func17, Try.ntmps17
    go_wp2_with (go_at_call 21; refine (isName_any _ _).mono ?_; rintro e w' ⟨rfl, rfl⟩)
    go_ret
    exact ⟨rfl, rfl⟩
set_option maxHeartbeats 1000000 in
theorem who_any (u : ByteArray) (hu : u.size ≤ 9223372036854775807) (w : World) :
    Calls Try.prog 18 #[.string u] w fun e w' => e = .returned (.bool (may u)) ∧ w' = w := by
  cases h : eqs u star
  · have e : may u = name u := by simp [may, h]
    rw [e]
    clear e
    have h' := star_no h
    go_enter Try.func18, Try.ntmps18
    go_wp2_with (go_at_call 22; refine (rname_any _ hu _).mono ?_; rintro e w' ⟨rfl, rfl⟩)
    go_ret
    exact ⟨by simp [h'], rfl⟩
  · have e : may u = true := by simp [may, h]
    rw [e]
    clear e
    have h' := star_yes h
    go_enter Try.func18, Try.ntmps18
    go_wp2_with (go_at_call 22; refine (rname_any _ hu _).mono ?_; rintro e w' ⟨rfl, rfl⟩)
    go_ret
    exact ⟨rfl, rfl⟩
end Go.Proofs.Ytbbmeclngopbmaa

/-! CHECK: acl.Check, and the document's own. -/
namespace Go.Proofs.Ytbbmeclngopbmaa
open Go.RowKit
set_option maxRecDepth 8000

theorem okL_drop (l : List Gr) {i : Nat} {g : Gr} (hg : l[i]? = some g) : okL (aheadAt l i) (l.drop i) = ((may g.u && (lt (aheadAt l i) g.u && (decide (1 ≤ g.m) && decide (g.m ≤ 7)))) && okL (aheadAt l (i + 1)) (l.drop (i + 1))) := by
  have hi := List.getElem?_eq_some_iff.1 hg
  rw [List.drop_eq_getElem_cons hi.1, hi.2, okL]
  have : aheadAt l (i + 1) = g.u := by simp [aheadAt, List.getD, hg]
  rw [this]
theorem okL_end (l : List Gr) {i : Nat} (h : l.length ≤ i) (a : ByteArray) : okL a (l.drop i) = true := by rw [List.drop_eq_nil_of_le h]; rfl
theorem leq_of {a b : ByteArray} (h : lt a b = false) : (Op.bytesLess b.toList a.toList || b.toList == a.toList) = true := by
  rcases lt_total a b with h1 | h1 | h1
  · rw [h] at h1; cases h1
  · subst h1; simp
  · have : Op.bytesLess b.toList a.toList = true := h1
    simp [this]
theorem leq_not {a b : ByteArray} (h : lt a b = true) : (Op.bytesLess b.toList a.toList || b.toList == a.toList) = false := by
  have h1 : Op.bytesLess b.toList a.toList = false := lt_asymm h
  have h2 : (b.toList == a.toList) = false := eqs_ne (lt_ne h).symm
  rw [h1, h2]; rfl

set_option maxHeartbeats 4000000 in
theorem check_any (w : World) (a : Option Addr) (cap : Nat) (l : List Gr) (hG : GAt w a l) :
    Calls Try.prog 9 #[.slice a l.length cap] w fun e w' => e = .returned (.int .i64 (chk l)) ∧ Below w.heap.size w w' := by
  obtain ⟨n, hn⟩ : ∃ n, l.length = n := ⟨_, rfl⟩
  by_cases h4 : 4 < n
  · have e : chk l = 4 := by simp [chk, hn, h4]
    rw [e, hn]
    clear e
    go_enter Try.func9, Try.ntmps9
    go_wp2
    go_ret
    exact ⟨rfl, Below.refl _ _⟩
  · obtain ⟨r, hr⟩ : ∃ r, chk l = r := ⟨_, rfl⟩
    have hr0 : Aside (r = if okL (aheadAt l 0) (l.drop 0) = true then 0 else 1) := by rw [Aside, ← hr]; simp [chk, hn, h4]; rfl
    rw [hr, hn]
    clear hr
    go_enter Try.func9, Try.ntmps9
    go_wp2
    go_loopw [11, 3] (fun t s wr => ∃ i : Nat, i ≤ n ∧ t = .int .i64 (i : Int) ∧ s = .string (aheadAt l i) ∧ Below w.heap.size w wr ∧ Aside (r = if okL (aheadAt l i) (l.drop i) = true then 0 else 1)) (fun t _ _ => n - (Go.RowKit.intOf t).toNat)
    case atStart => exact ⟨0, by omega, rfl, rfl, Below.refl _ _, hr0⟩
    case round =>
      obtain ⟨i, hi, rfl, rfl, hB, hall⟩ := hrel
      by_cases hlt : i < n
      · obtain ⟨g, hg⟩ : ∃ g, l[i]? = some g := ⟨_, List.getElem?_eq_getElem (by omega)⟩
        obtain ⟨x, rfl, c0, c1⟩ := (hG.below hB) _ _ hg
        have hd := okL_drop l hg
        have hBa := Below.then hB (alloc_below wr (.cells #[.string g.u, .int .i64 g.m] 40))
        obtain ⟨ah, hah⟩ : ∃ ah, aheadAt l i = ah := ⟨_, rfl⟩
        have hnx : aheadAt l (i + 1) = g.u := by simp [aheadAt, List.getD, hg]
        rw [hah] at hd hall ⊢
        cases h1 : may g.u
        · obtain rfl : r = 1 := by rw [hall.out, hd, h1]; rfl
          clear hall hd hr0
          go_wp2_with (go_at_call 17; refine (mayHave_any _ _).mono ?_; rw [h1]; rintro e w' ⟨rfl, rfl⟩)
          go_ret
          exact ⟨rfl, hBa⟩
        cases h2 : lt ah g.u
        · obtain rfl : r = 1 := by rw [hall.out, hd, h2]; simp
          have hq := leq_of h2
          clear hall hd hr0
          go_wp2_with (go_at_call 17; refine (mayHave_any _ _).mono ?_; rw [h1]; rintro e w' ⟨rfl, rfl⟩)
          go_ret
          exact ⟨rfl, hBa⟩
        have hq := leq_not h2
        by_cases h3 : g.m < 1
        · obtain rfl : r = 1 := by rw [hall.out, hd, if_neg]; simp; omega
          clear hall hd hr0
          go_wp2_with (go_at_call 17; refine (mayHave_any _ _).mono ?_; rw [h1]; rintro e w' ⟨rfl, rfl⟩)
          go_ret
          exact ⟨rfl, hBa⟩
        by_cases h5 : 7 < g.m
        · obtain rfl : r = 1 := by rw [hall.out, hd, if_neg]; simp; omega
          clear hall hd hr0
          go_wp2_with (go_at_call 17; refine (mayHave_any _ _).mono ?_; rw [h1]; rintro e w' ⟨rfl, rfl⟩)
          go_ret
          exact ⟨rfl, hBa⟩
        have hn2 : Aside (r = if okL (aheadAt l (i + 1)) (l.drop (i + 1)) = true then 0 else 1) := by
          have e1 : decide (1 ≤ g.m) = true := by simp; omega
          have e2 : decide (g.m ≤ 7) = true := by simp; omega
          rw [hd, h1, h2, e1, e2] at hall
          simpa using hall
        clear hall hd hr0
        go_wp2_with (go_at_call 17; refine (mayHave_any _ _).mono ?_; rw [h1]; rintro e w' ⟨rfl, rfl⟩)
        exact ⟨⟨i + 1, by omega, by simp, by rw [hnx], hBa, hn2⟩, by simp [Go.RowKit.intOf]; omega⟩
      · obtain rfl : r = 0 := by rw [hall.out, okL_end l (by omega)]; rfl
        go_wp2
        go_ret
        exact ⟨rfl, hB⟩
end Go.Proofs.Ytbbmeclngopbmaa
