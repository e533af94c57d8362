/-
  PART 2 of what the claims of this seat lean on: TreeFacts MonPure MonMore Mids LAclBase LAclFind LAclName LAclModes MonRef MonRef2 Two MonRef3 NodeSameL LPathMore LPathName LPathSplit LPathShelf LPathFns MonAsk TreePlace Copied.
-/
import Derived.WalkLawsBesides
import Derived.Below
import Derived.Deep.RegionHeld
import Derived.Deep.LoopGhost
import Derived.Deep.CutBlock
import Derived.Laws.RangeAny
import Derived.Lib.SplitLaws
import Derived.Lib.LastIndexByte
import Derived.Shelf.Lays
import Derived.Shelf.Strings.Prefix
import Derived.Shelf.Strings.LastIndex
import Derived.Shelf.Strings.Split
import Derived.Laws.MakeOwn
import Derived.Laws.IdiomCopy
import Derived.Test.YtapgjdmnlkedgaaDoorPt1
/-! WHAT HOLDS OF TREES, in plain words: what directories tell, how labels rise, what a node that may not be there makes wrong. -/
namespace Go.Proofs.YtapgjdmnlkedgaaDoor
open Go.RowKit
set_option maxRecDepth 8000
set_option linter.unusedSimpArgs false
set_option linter.unusedVariables false

/-! Paths of a tree's nodes. -/
theorem Tree.names {l : List Nod} (h : Tree l) {x : Nod} (hx : x ∈ l) : ∃ ns, Names ns ∧ x.path = pathB ns := by
  obtain ⟨hp, _⟩ := nodC_zero.1 (h.ok x hx)
  obtain ⟨ns, h1, h2, _⟩ := check_path hp
  exact ⟨ns, h1, h2⟩
theorem names_split {ns : List ByteArray} (hn : Names ns) (hs : pathB ns ≠ slashS) : ∃ ms n, ns = ms ++ [n] ∧ parentOf (pathB ns) = pathB ms ∧ lastOf (pathB ns) = n ∧ Names ms ∧ name n = true := by
  rcases List.eq_nil_or_concat ns with rfl | ⟨ms, n, rfl⟩
  · exact absurd pathB_nil hs
  · rw [List.concat_eq_append] at *
    have hf := hn.flat n (by simp)
    exact ⟨ms, n, rfl, parent_path hf.1 hf.2, last_path hf.1 hf.2, ⟨by have := hn.1; simp at this; omega, fun q hq => hn.2 q (by simp [hq])⟩, hn.2 n (by simp)⟩
theorem under_mem {l : List Nod} {p u : ByteArray} : u ∈ underN l p ↔ ∃ y ∈ l, y.path ≠ slashS ∧ parentOf y.path = p ∧ lastOf y.path = u := by
  unfold underN isUnder
  rw [List.mem_map]
  constructor
  · rintro ⟨y, hy, rfl⟩
    rw [List.mem_filter, Bool.and_eq_true] at hy
    refine ⟨y, hy.1, fun e => ?_, eqs_iff.1 hy.2.2, rfl⟩
    have := hy.2.1
    rw [e, eqs_self] at this
    cases this
  · rintro ⟨y, hy, h1, h2, h3⟩
    refine ⟨y, List.mem_filter.2 ⟨hy, ?_⟩, h3⟩
    rw [eqs_ne h1, eqs_iff.2 h2]
    rfl
/-- What a directory tells is found at its path and that name. -/
theorem Tree.told {l : List Nod} (h : Tree l) {p u : ByteArray} (hu : u ∈ underN l p) : ∃ y ∈ l, findN l (joinOf p u) = some y ∧ parentOf y.path = p := by
  obtain ⟨y, hy, h1, h2, h3⟩ := under_mem.1 hu
  obtain ⟨ns, hn, hp⟩ := h.names hy
  rw [hp] at h1 h2 h3
  obtain ⟨ms, n, rfl, e1, e2, hm, hnn⟩ := names_split hn h1
  refine ⟨y, hy, ?_, by rw [hp]; exact h2⟩
  rw [← h2, ← h3, e1, e2, join_path n (fun q hq => (hm.flat q hq).2), ← hp]
  exact find_mem h.ord hy
theorem Tree.seg {l : List Nod} (h : Tree l) {x : Nod} (hx : x ∈ l) (hd : x.dir = false) : underN l x.path = [] := by
  cases hu : underN l x.path with
  | nil => rfl
  | cons u r =>
    exfalso
    have : u ∈ underN l x.path := by rw [hu]; exact List.mem_cons_self
    obtain ⟨y, hy, h1, h2, h3⟩ := under_mem.1 this
    obtain ⟨p, hp, e, hpd, _⟩ := h.up y hy h1
    rw [h2] at e
    have := h.ord.uniq hp hx e
    subst this
    rw [hd] at hpd
    cases hpd
/-! Names rise. -/
theorem less_prefix (A : List UInt8) : ∀ {x y : List UInt8}, Op.bytesLess (A ++ x) (A ++ y) = Op.bytesLess x y := by
  intro x y
  induction A with
  | nil => rfl
  | cons c r ih =>
    rw [List.cons_append, List.cons_append]
    rw [show Op.bytesLess (c :: (r ++ x)) (c :: (r ++ y)) = Op.bytesLess (r ++ x) (r ++ y) by simp [Op.bytesLess], ih]
theorem last_lt {ms : List ByteArray} {a b : ByteArray} : lt (pathB (ms ++ [a])) (pathB (ms ++ [b])) = lt a b := by
  have e : ∀ n : ByteArray, (pathB (ms ++ [n])).toList = (body ms ++ [47]) ++ n.toList := fun n => by
    rw [toL, toL]
    show bytes _ = _
    rw [pathB_bytes (by simp), body_append, body_one]
    simp
  unfold lt
  rw [e a, e b, less_prefix]
theorem Tree.rise {l : List Nod} (h : Tree l) (p : ByteArray) : (underN l p).Pairwise fun a b => lt a b = true := by
  unfold underN
  rw [List.pairwise_map]
  have ho : (l.filter (isUnder p)).Pairwise fun a b => lt a.path b.path = true := List.Pairwise.filter _ h.ord
  refine List.Pairwise.imp_of_mem (fun {a b} ha hb hab => ?_) ho
  obtain ⟨a1, a2⟩ := List.mem_filter.1 ha
  obtain ⟨b1, b2⟩ := List.mem_filter.1 hb
  unfold isUnder at a2 b2
  rw [Bool.and_eq_true] at a2 b2
  have ha0 : a.path ≠ slashS := fun e => by have := a2.1; rw [e, eqs_self] at this; cases this
  have hb0 : b.path ≠ slashS := fun e => by have := b2.1; rw [e, eqs_self] at this; cases this
  have ap := eqs_iff.1 a2.2
  have bp := eqs_iff.1 b2.2
  obtain ⟨ns, hn, e1⟩ := h.names a1
  obtain ⟨ks, hk, e2⟩ := h.names b1
  rw [e1] at ha0 ap hab ⊢
  rw [e2] at hb0 bp hab ⊢
  obtain ⟨ms, x, rfl, p1, l1, hm, _⟩ := names_split hn ha0
  obtain ⟨qs, y, rfl, p2, l2, hq, _⟩ := names_split hk hb0
  rw [l1, l2]
  have : ms = qs := by
    have e : pathB ms = pathB qs := by rw [← p1, ← p2, ap, bp]
    have h1 := parts_path hm.flat
    rw [e, parts_path hq.flat] at h1
    exact h1.symm
  subst this
  rwa [last_lt] at hab
/-! Each but the root is told once. -/
theorem count_parent {l : List Nod} (h : Tree l) {y : Nod} (hy : y ∈ l) : (l.filter fun x => isUnder x.path y).length = if y.path = slashS then 0 else 1 := by
  classical
  by_cases hs : y.path = slashS
  · rw [if_pos hs]
    have : (l.filter fun x => isUnder x.path y) = [] := by
      rw [List.filter_eq_nil_iff]
      intro x _ hx
      unfold isUnder at hx
      rw [hs, eqs_self] at hx
      simp at hx
    rw [this]
    rfl
  · rw [if_neg hs]
    obtain ⟨p, hp, e, _⟩ := h.up y hy hs
    have key : ∀ m : List Nod, Ordered m → (∀ x ∈ m, x ∈ l) → (m.filter fun x => isUnder x.path y).length = if p ∈ m then 1 else 0 := by
      intro m
      induction m with
      | nil => intro _ _; simp
      | cons a r ih =>
        intro ho hm
        obtain ⟨h1, h2⟩ := List.pairwise_cons.1 ho
        have ih := ih h2 (fun x hx => hm x (List.mem_cons_of_mem _ hx))
        rw [List.filter_cons]
        by_cases ha : isUnder a.path y = true
        · rw [if_pos ha]
          unfold isUnder at ha
          rw [Bool.and_eq_true] at ha
          have hap : a = p := h.ord.uniq (hm a List.mem_cons_self) hp (by rw [e]; exact (eqs_iff.1 ha.2).symm)
          have hnr : p ∉ r := fun hpr => by
            have := h1 p hpr
            rw [hap, lt_irrefl] at this
            cases this
          rw [List.length_cons, ih, if_neg hnr, if_pos (by rw [hap]; exact List.mem_cons_self)]
        · rw [if_neg ha, ih]
          have hne : p ≠ a := fun q => ha (by
            unfold isUnder
            rw [eqs_ne hs, ← q, e, eqs_self]
            rfl)
          simp [hne]
    rw [key l h.ord (fun _ hx => hx), if_pos hp]
def sumL : List Nat → Nat
  | [] => 0
  | x :: r => x + sumL r
theorem sum_add {α : Type} (f g : α → Nat) : ∀ l : List α, sumL (l.map fun x => f x + g x) = sumL (l.map f) + sumL (l.map g)
  | [] => rfl
  | x :: r => by simp only [List.map_cons, sumL]; rw [sum_add f g r]; omega
theorem sum_ind {α : Type} (f : α → Bool) : ∀ l : List α, sumL (l.map fun x => if f x = true then 1 else 0) = (l.filter f).length
  | [] => rfl
  | x :: r => by
    simp only [List.map_cons, sumL]
    rw [sum_ind f r, List.filter_cons]
    split
    · rw [List.length_cons]; omega
    · omega
theorem sum_zero {α : Type} : ∀ l : List α, sumL (l.map fun _ => 0) = 0
  | [] => rfl
  | x :: r => by simp only [List.map_cons, sumL]; rw [sum_zero r]
theorem told_all {l : List Nod} (h : Tree l) : ∀ m : List Nod, (∀ x ∈ m, x ∈ l) → sumL (l.map fun x => (m.filter (isUnder x.path)).length) = (m.filter fun y => !eqs y.path slashS).length
  | [], _ => by simpa using sum_zero l
  | y :: r, hm => by
    have ih := told_all h r fun x hx => hm x (List.mem_cons_of_mem _ hx)
    have e : (fun x : Nod => ((y :: r).filter (isUnder x.path)).length) = fun x => (if isUnder x.path y = true then 1 else 0) + (r.filter (isUnder x.path)).length := by
      funext x
      rw [List.filter_cons]
      split
      · rw [List.length_cons]; omega
      · omega
    rw [e, sum_add, ih, sum_ind, count_parent h (hm y List.mem_cons_self), List.filter_cons]
    by_cases hs : y.path = slashS
    · rw [if_pos hs, hs, eqs_self]
      simp
    · rw [if_neg hs, eqs_ne hs]
      simp
      omega
theorem not_root {l : List Nod} (h : Tree l) : (l.filter fun y => !eqs y.path slashS).length + 1 = l.length := by
  classical
  obtain ⟨r, hr, e, _⟩ := h.root
  have key : ∀ m : List Nod, Ordered m → (∀ x ∈ m, x ∈ l) → (m.filter fun y => !eqs y.path slashS).length + (if r ∈ m then 1 else 0) = m.length := by
    intro m
    induction m with
    | nil => intro _ _; simp
    | cons a q ih =>
      intro ho hm
      obtain ⟨h1, h2⟩ := List.pairwise_cons.1 ho
      have ih := ih h2 (fun x hx => hm x (List.mem_cons_of_mem _ hx))
      rw [List.filter_cons]
      by_cases ha : a.path = slashS
      · have har : a = r := h.ord.uniq (hm a List.mem_cons_self) hr (by rw [ha, e])
        have hnr : r ∉ q := fun hrq => by
          have := h1 r hrq
          rw [har, lt_irrefl] at this
          cases this
        rw [if_neg hnr] at ih
        rw [ha, eqs_self, if_neg (by decide), if_pos (by rw [har]; exact List.mem_cons_self), List.length_cons]
        omega
      · rw [eqs_ne ha, if_pos (by decide), List.length_cons, List.length_cons]
        have hne : r ≠ a := fun q => ha (by rw [← q, e])
        have : (if r ∈ a :: q then 1 else 0) = if r ∈ q then 1 else 0 := by simp [hne]
        rw [this]
        omega
  have := key l h.ord (fun _ hx => hx)
  rw [if_pos hr] at this
  exact this
theorem Tree.count {l : List Nod} (h : Tree l) : sumL (l.map fun x => (underN l x.path).length) + 1 = l.length := by
  have := told_all h l (fun _ hx => hx)
  have e : (fun x : Nod => (underN l x.path).length) = fun x => (l.filter (isUnder x.path)).length := by
    funext x
    simp [underN]
  rw [← not_root h, ← this, e]
/-! Labels rise. -/
theorem rov_trans {a b c : Lab} (ha : GL a) (hb : GL b) (hc : GL c) (h : rov a b = true) (k : rov b c = true) : rov a c = true := by
  obtain ⟨x, rfl, hx⟩ := ha.nl
  obtain ⟨y, rfl, hy⟩ := hb.nl
  obtain ⟨z, rfl, hz⟩ := hc.nl
  rw [rov_ov hx hy, ov_iff hx hy] at h
  rw [rov_ov hy hz, ov_iff hy hz] at k
  rw [rov_ov hx hz, ov_iff hx hz]
  exact over_trans h k
/-- A node on the way up. -/
def OnWay (l : List Nod) (x : Nod) (p : ByteArray) : Prop := p = ⟨#[]⟩ ∨ ∃ d ∈ l, d.path = p ∧ d.dir = true ∧ rov x.label d.label = true
theorem Tree.way {l : List Nod} (h : Tree l) {x : Nod} (hx : x ∈ l) : OnWay l x (parentOf x.path) := by
  by_cases hs : x.path = slashS
  · left
    rw [hs, ← pathB_nil]
    exact parent_root
  · obtain ⟨p, hp, e, hd, hov, _⟩ := h.up x hx hs
    exact .inr ⟨p, hp, e, hd, hov⟩
theorem Tree.way_up {l : List Nod} (h : Tree l) {x d : Nod} (hx : x ∈ l) (hd : d ∈ l) (hov : rov x.label d.label = true) : OnWay l x (parentOf d.path) := by
  rcases h.way hd with e | ⟨p, hp, e, hpd, hov2⟩
  · exact .inl e
  · obtain ⟨_, g1, _⟩ := nodC_zero.1 (h.ok x hx)
    obtain ⟨_, g2, _⟩ := nodC_zero.1 (h.ok d hd)
    obtain ⟨_, g3, _⟩ := nodC_zero.1 (h.ok p hp)
    exact .inr ⟨p, hp, e, hpd, rov_trans g1 g2 g3 hov hov2⟩
/-! A node that may not be there. -/
def upErr (n : Nod) : Option Nod → Int
  | none => 2
  | some d => if d.dir = false then 3 else if (!rov n.label d.label || (!n.dir && !labEq n.label d.label)) = true then 15 else 0
theorem find_put {l : List Nod} (h : Ordered l) {n : Nod} (hnew : ∀ x ∈ l, x.path ≠ n.path) {p : ByteArray} (hp : p ≠ n.path) : findN (putN l n) p = findN l p := by
  have ho := put_ordered h n
  cases hf : findN l p with
  | none =>
    cases hg : findN (putN l n) p with
    | none => rfl
    | some y =>
      obtain ⟨hy, e⟩ := find_some hg
      rcases put_mem.1 hy with rfl | ⟨hy, _⟩
      · exact absurd e.symm hp
      · exact absurd e (find_none hf y hy)
  | some x =>
    obtain ⟨hx, e⟩ := find_some hf
    have hm : x ∈ putN l n := put_mem.2 (.inr ⟨hx, hnew x hx⟩)
    have := find_mem ho hm
    rw [e] at this
    exact this
theorem up_put {l : List Nod} (h : Tree l) {n : Nod} (hnew : ∀ x ∈ l, x.path ≠ n.path) (hs : n.path ≠ slashS) (hpar : parentOf n.path ≠ n.path) : ∀ m : List Nod, (∀ x ∈ m, x = n ∨ x ∈ l) → m.Pairwise (fun a b => lt a.path b.path = true) → (n ∈ m → upC (putN l n) m = upErr n (findN l (parentOf n.path))) ∧ (n ∉ m → upC (putN l n) m = 0)
  | [], _, _ => ⟨fun q => (by cases q), fun _ => rfl⟩
  | x :: r, hm, ho => by
    obtain ⟨h1, h2⟩ := List.pairwise_cons.1 ho
    obtain ⟨i1, i2⟩ := up_put h hnew hs hpar r (fun y hy => hm y (List.mem_cons_of_mem _ hy)) h2
    have hxn : x = n → n ∉ r := fun e hr => by
      have := h1 n hr
      rw [e, lt_irrefl] at this
      cases this
    have hpass : x ∈ l → upC (putN l n) (x :: r) = upC (putN l n) r := fun hx => by
      rw [upC]
      by_cases hxs : eqs x.path slashS = true
      · rw [if_pos hxs]
      · rw [if_neg hxs]
        obtain ⟨p, hp, e, hd, hov, hseg⟩ := h.up x hx (fun q => hxs (eqs_iff.2 q))
        have hpm : p ∈ putN l n := put_mem.2 (.inr ⟨hp, hnew p hp⟩)
        rw [← e, find_mem (put_ordered h.ord n) hpm]
        simp only [hd, hov]
        rw [if_neg (by simp), if_neg]
        cases hxd : x.dir
        · rw [(labEq_iff _ _).2 (hseg hxd)]
          simp
        · simp
    rcases hm x List.mem_cons_self with e | hx
    · subst e
      refine ⟨fun _ => ?_, fun q => absurd List.mem_cons_self q⟩
      have i2' := i2 (hxn rfl)
      rw [upC, if_neg (fun q => hs (eqs_iff.1 q)), find_put h.ord hnew hpar]
      cases findN l (parentOf x.path) with
      | none => rfl
      | some d =>
        show (if d.dir = false then 3 else if (!rov x.label d.label || (!x.dir && !labEq x.label d.label)) = true then 15 else upC (putN l x) r) = upErr x (some d)
        rw [i2']
        rfl
    · have hne : n ≠ x := fun q => hnew x hx (by rw [q])
      rw [hpass hx]
      refine ⟨fun q => i1 ?_, fun q => i2 fun hr => q (List.mem_cons_of_mem _ hr)⟩
      rcases List.mem_cons.1 q with q | q
      · exact absurd q hne
      · exact q
/-- What is told of a tree upon which such a node was put. -/
theorem Tree.wrong {l : List Nod} (h : Tree l) {n : Nod} (hn : nodC n = 0) (hnew : ∀ x ∈ l, x.path ≠ n.path) (hs : n.path ≠ slashS) (hpar : parentOf n.path ≠ n.path) : treeC (putN l n) = upErr n (findN l (parentOf n.path)) := by
  have ho := put_ordered h.ord n
  have h1 := seq_ok (putN l n) none (fun x hx => by
    rcases put_mem.1 hx with rfl | ⟨hx, _⟩
    · exact hn
    · exact h.ok x hx) ho (fun q' x e => by cases e)
  obtain ⟨r, hr, e, hl⟩ := h.root
  have hrm : r ∈ putN l n := put_mem.2 (.inr ⟨hr, hnew r hr⟩)
  have h2 := find_mem ho hrm
  rw [e] at h2
  have h3 := (up_put h hnew hs hpar (putN l n) (fun x hx => by
    rcases put_mem.1 hx with q | ⟨q, _⟩
    · exact .inl q
    · exact .inr q) ho).1 (put_mem.2 (.inl rfl))
  unfold treeC
  rw [if_neg (by rw [h1]; simp), h2]
  simp only
  rw [h3, hl, if_pos ((labEq_iff _ _).2 rfl)]
  by_cases hz : upErr n (findN l (parentOf n.path)) = 0
  · rw [if_neg (by rw [hz]; simp), hz]
  · rw [if_pos hz]
end Go.Proofs.YtapgjdmnlkedgaaDoor

/-! WHAT A SUBJECT IS TOLD, in plain words: See, May, Change; and what follows of them in a tree (chapter 13). -/
namespace Go.Proofs.YtapgjdmnlkedgaaDoor
open Go.RowKit
set_option maxRecDepth 8000
set_option linter.unusedSimpArgs false
set_option linter.unusedVariables false

def zeroN : Nod := ⟨⟨#[]⟩, false, ⟨0, 0, 0, 0⟩, [], 0, 0, 0, 0, [], ⟨0, 0, 0, 0⟩⟩
/-- Of a node on the way. -/
def stepE (t : Lab) : Option Nod → Int
  | none => 2
  | some d => if d.dir = false then 3 else if rov t d.label = false then 15 else 0
/-- From the directory of the names ms on, down by the others. -/
def wayE (L : List Nod) (t : Lab) : List ByteArray → List ByteArray → Int
  | _, [] => 0
  | ms, n :: r => if stepE t (findN L (pathB ms)) ≠ 0 then stepE t (findN L (pathB ms)) else wayE L t (ms ++ [n]) r
def seeE (L : List Nod) (t : Lab) (p : ByteArray) : Int :=
  if checkOf p ≠ 0 then checkOf p else if wayE L t [] (partsOf p) ≠ 0 then wayE L t [] (partsOf p) else if (findN L p).isNone = true then 2 else 0
/-- The node that is told beside such an answer. -/
def toldN (L : List Nod) (p : ByteArray) (e : Int) : Nod := if e = 0 then (findN L p).getD zeroN else zeroN
def modE (n : Nod) (u : ByteArray) (t : Lab) (m : Int) : Int :=
  if (bits .and .i64 m 5 != 0) = true ∧ rov t n.label = false then 15
  else if (bits .and .i64 m 2 != 0) = true ∧ labEq t n.label = false then 15
  else if (bits .and .i64 (modesL n.acl u) m != m) = true then 16 else 0
def mayE (L : List Nod) (u : ByteArray) (t : Lab) (p : ByteArray) (m : Int) : Int :=
  if m < 1 ∨ 7 < m then 1 else if seeE L t p ≠ 0 then seeE L t p else modE ((findN L p).getD zeroN) u t m
def chgE (L : List Nod) (u : ByteArray) (t : Lab) (p : ByteArray) : Int :=
  if checkOf p ≠ 0 then checkOf p else if eqs p slashS = true then 1 else if mayE L u t (parentOf p) 2 ≠ 0 then mayE L u t (parentOf p) 2
  else if ((findN L (parentOf p)).getD zeroN).dir = false then 3 else 0

/-! The way. -/
theorem way_zero {L : List Nod} {t : Lab} : ∀ (r ms : List ByteArray), wayE L t ms r = 0 ↔ ∀ a n b, r = a ++ n :: b → stepE t (findN L (pathB (ms ++ a))) = 0
  | [], ms => ⟨fun _ a n b h => by simp at h, fun _ => rfl⟩
  | x :: r, ms => by
    rw [wayE]
    by_cases h0 : stepE t (findN L (pathB ms)) = 0
    · rw [if_neg (by simp [h0]), way_zero r (ms ++ [x])]
      constructor
      · intro h a n b e
        cases a with
        | nil => rw [List.append_nil]; exact h0
        | cons y a =>
          simp only [List.cons_append, List.cons.injEq] at e
          obtain ⟨rfl, e⟩ := e
          have := h a n b e
          rwa [List.append_assoc, List.singleton_append] at this
      · intro h a n b e
        have := h (x :: a) n b (by rw [e]; rfl)
        rwa [List.append_assoc, List.singleton_append]
    · rw [if_pos h0]
      constructor
      · intro h
        exact absurd h h0
      · intro h
        exact absurd (by simpa using h [] x r rfl) h0
theorem see_zero {L : List Nod} {t : Lab} {p : ByteArray} : seeE L t p = 0 ↔ checkOf p = 0 ∧ (∀ a n b, partsOf p = a ++ n :: b → stepE t (findN L (pathB a)) = 0) ∧ ∃ x, findN L p = some x := by
  unfold seeE
  by_cases h1 : checkOf p = 0
  · rw [if_neg (by simp [h1])]
    by_cases h2 : wayE L t [] (partsOf p) = 0
    · rw [if_neg (by simp [h2])]
      have h3 := (way_zero (partsOf p) []).1 h2
      cases hf : findN L p with
      | none => simp
      | some x =>
        simp only [Option.isNone_some, Bool.false_eq_true, if_false, true_iff]
        exact ⟨h1, fun a n b e => by simpa using h3 a n b e, x, rfl⟩
    · rw [if_pos h2]
      constructor
      · intro h
        exact absurd h h2
      · rintro ⟨_, h, _⟩
        exact absurd ((way_zero (partsOf p) []).2 fun a n b e => by simpa using h a n b e) h2
  · rw [if_pos h1]
    constructor
    · intro h
      exact absurd h h1
    · rintro ⟨h, _⟩
      exact absurd h h1
theorem step_zero {t : Lab} {o : Option Nod} : stepE t o = 0 ↔ ∃ d, o = some d ∧ d.dir = true ∧ rov t d.label = true := by
  cases o with
  | none => simp [stepE]
  | some d =>
    unfold stepE
    cases hd : d.dir
    · simp [hd]
    · cases hr : rov t d.label
      · simp [hd, hr]
      · simp [hd, hr]
theorem see_names {L : List Nod} {t : Lab} {ns : List ByteArray} (hn : Names ns) : seeE L t (pathB ns) = 0 ↔ (∀ j, j < ns.length → ∃ d, findN L (pathB (ns.take j)) = some d ∧ d.dir = true ∧ rov t d.label = true) ∧ ∃ x, findN L (pathB ns) = some x := by
  rw [see_zero]
  have hp : partsOf (pathB ns) = ns := parts_path hn.flat
  rw [hp]
  constructor
  · rintro ⟨_, h, hx⟩
    refine ⟨fun j hj => step_zero.1 (h (ns.take j) ns[j] (ns.drop (j + 1)) ?_), hx⟩
    rw [← List.drop_eq_getElem_cons hj, List.take_append_drop]
  · rintro ⟨h, hx⟩
    refine ⟨check_names hn, fun a n b e => step_zero.2 ?_, hx⟩
    have := h a.length (by rw [e]; simp)
    rw [e, List.take_left] at this
    exact this
/-! In a tree, at a node's own label, all directories on the way may be seen. -/
theorem tree_way {L : List Nod} (h : Tree L) {t : Lab} (ht : GL t) : ∀ (k : Nat) (ns : List ByteArray) (x : Nod), ns.length = k → Names ns → findN L (pathB ns) = some x → rov t x.label = true → ∀ j, j < ns.length → ∃ d, findN L (pathB (ns.take j)) = some d ∧ d.dir = true ∧ rov t d.label = true
  | 0, ns, x, hk, _, _, _, j, hj => by omega
  | k + 1, ns, x, hk, hn, hf, hr, j, hj => by
    obtain ⟨hx, hxp⟩ := find_some hf
    have hns : pathB ns ≠ slashS := fun q => by
      have := (path_root (fun n hn' => (hn.flat n hn').2)).1 (eqs_iff.2 q)
      rw [this] at hk
      simp at hk
    obtain ⟨ms, n, rfl, hpar, _, hms, _⟩ := names_split hn hns
    obtain ⟨d, hd, hdp, hdd, hov, _⟩ := h.up x hx (by rw [hxp]; exact hns)
    rw [hxp, hpar] at hdp
    have hfd : findN L (pathB ms) = some d := by rw [← hdp]; exact find_mem h.ord hd
    have g1 := (nodC_zero.1 (h.ok x hx)).2.1
    have g2 := (nodC_zero.1 (h.ok d hd)).2.1
    have hr2 := rov_trans ht g1 g2 hr hov
    have hlm : ms.length = k := by simpa using hk
    rw [List.length_append, List.length_singleton] at hj
    by_cases hjm : j = ms.length
    · subst hjm
      rw [List.take_left]
      exact ⟨d, hfd, hdd, hr2⟩
    · rw [List.take_append_of_le_length (by omega)]
      exact tree_way h ht k ms d hlm hms hfd hr2 j (by omega)
theorem see_own {L : List Nod} (h : Tree L) {x : Nod} (hx : x ∈ L) {t : Lab} (ht : GL t) (hr : rov t x.label = true) : seeE L t x.path = 0 := by
  obtain ⟨ns, hn, e⟩ := h.names hx
  have hf : findN L (pathB ns) = some x := by rw [← e]; exact find_mem h.ord hx
  rw [e]
  exact (see_names hn).2 ⟨tree_way h ht _ ns x rfl hn hf hr, x, hf⟩
/-! Higher. -/
theorem step_up {t s : Lab} (ht : GL t) (hs : GL s) (hov : rov s t = true) {o : Option Nod} (ho : ∀ d, o = some d → GL d.label) (h : stepE t o = 0) : stepE s o = 0 := by
  obtain ⟨d, hd, hdd, hr⟩ := step_zero.1 h
  exact step_zero.2 ⟨d, hd, hdd, rov_trans hs ht (ho d hd) hov hr⟩
theorem see_up {L : List Nod} (hL : ∀ x ∈ L, GL x.label) {t s : Lab} (ht : GL t) (hs : GL s) (hov : rov s t = true) {p : ByteArray} (h : seeE L t p = 0) : seeE L s p = 0 := by
  obtain ⟨h1, h2, h3⟩ := see_zero.1 h
  exact see_zero.2 ⟨h1, fun a n b e => step_up ht hs hov (fun d hd => hL d (find_some hd).1) (h2 a n b e), h3⟩
/-! What lies in directories that the label is not over. -/
def keepB (L : List Nod) (t : Lab) (x : Nod) : Bool := match findN L (parentOf x.path) with
  | none => true
  | some d => rov t d.label
def lowN (L : List Nod) (t : Lab) : List Nod := L.filter (keepB L t)
theorem low_ordered {L : List Nod} (h : Ordered L) (t : Lab) : Ordered (lowN L t) := List.Pairwise.filter _ h
theorem low_find {L : List Nod} (h : Ordered L) (t : Lab) (p : ByteArray) : findN (lowN L t) p = (findN L p).filter (keepB L t) := by
  cases hf : findN L p with
  | none =>
    cases hl : findN (lowN L t) p with
    | none => rfl
    | some y =>
      obtain ⟨hy, e⟩ := find_some hl
      exact absurd e (find_none hf y (List.mem_filter.1 hy).1)
  | some x =>
    obtain ⟨hx, e⟩ := find_some hf
    cases hk : keepB L t x
    · rw [Option.filter_some, hk]
      cases hl : findN (lowN L t) p with
      | none => rfl
      | some y =>
        obtain ⟨hy, e2⟩ := find_some hl
        obtain ⟨hy1, hy2⟩ := List.mem_filter.1 hy
        rw [h.uniq hy1 hx (e2.trans e.symm), hk] at hy2
        cases hy2
    · rw [Option.filter_some, hk, if_pos rfl, ← e]
      exact find_mem (low_ordered h t) (List.mem_filter.2 ⟨hx, hk⟩)
theorem low_way {L : List Nod} (h : Tree L) (t : Lab) : ∀ (r ms : List ByteArray), Names (ms ++ r) → findN (lowN L t) (pathB ms) = findN L (pathB ms) → wayE (lowN L t) t ms r = wayE L t ms r ∧ (wayE L t ms r = 0 → findN (lowN L t) (pathB (ms ++ r)) = findN L (pathB (ms ++ r)))
  | [], ms, _, hf => ⟨rfl, fun _ => by rw [List.append_nil]; exact hf⟩
  | n :: r, ms, hn, hf => by
    rw [wayE, wayE, hf]
    by_cases h0 : stepE t (findN L (pathB ms)) = 0
    · rw [if_neg (by simp [h0]), if_neg (by simp [h0])]
      have hflat : Flat n ∧ 1 ≤ n.size := hn.flat n (by simp)
      have hpar : parentOf (pathB (ms ++ [n])) = pathB ms := parent_path hflat.1 hflat.2
      obtain ⟨d, hd, hdd, hr⟩ := step_zero.1 h0
      have hnext : findN (lowN L t) (pathB (ms ++ [n])) = findN L (pathB (ms ++ [n])) := by
        rw [low_find h.ord]
        cases hf2 : findN L (pathB (ms ++ [n])) with
        | none => rfl
        | some x =>
          have hk : keepB L t x = true := by
            unfold keepB
            rw [(find_some hf2).2, hpar, hd]
            exact hr
          rw [Option.filter_some, hk, if_pos rfl]
      have := low_way h t r (ms ++ [n]) (by rw [List.append_assoc]; exact hn) hnext
      rw [List.append_assoc, List.singleton_append] at this
      exact this
    · rw [if_pos h0, if_pos h0]
      exact ⟨rfl, fun q => absurd q h0⟩
theorem no_empty {L : List Nod} (h : Tree L) : findN L ⟨#[]⟩ = none := by
  cases hf : findN L ⟨#[]⟩ with
  | none => rfl
  | some x =>
    obtain ⟨hx, e⟩ := find_some hf
    obtain ⟨ns, _, e2, _⟩ := check_path (nodC_zero.1 (h.ok x hx)).1
    rw [e] at e2
    exfalso
    by_cases hn : ns = []
    · rw [hn, pathB_nil] at e2
      exact absurd e2 (by decide)
    · have := congrArg bytes e2
      rw [pathB_bytes hn] at this
      have h2 := body_pos hn
      rw [← this] at h2
      exact h2 rfl
theorem low_see {L : List Nod} (h : Tree L) (t : Lab) (p : ByteArray) : seeE (lowN L t) t p = seeE L t p ∧ (seeE L t p = 0 → findN (lowN L t) p = findN L p) := by
  by_cases hc : checkOf p = 0
  · obtain ⟨ns, hn, rfl, _⟩ := check_path hc
    have hroot : findN (lowN L t) (pathB []) = findN L (pathB []) := by
      rw [low_find h.ord]
      cases hf : findN L (pathB []) with
      | none => rfl
      | some x =>
        have hk : keepB L t x = true := by
          unfold keepB
          rw [(find_some hf).2, parent_root, no_empty h]
        rw [Option.filter_some, hk, if_pos rfl]
    have hp : partsOf (pathB ns) = ns := parts_path hn.flat
    obtain ⟨h1, h2⟩ := low_way h t ns [] (by simpa using hn) hroot
    rw [List.nil_append] at h2
    have s1 : ∀ M : List Nod, seeE M t (pathB ns) = if wayE M t [] ns ≠ 0 then wayE M t [] ns else if (findN M (pathB ns)).isNone = true then 2 else 0 := fun M => by
      unfold seeE
      rw [if_neg (by simp [hc]), hp]
    rw [s1, s1, h1]
    by_cases hw : wayE L t [] ns = 0
    · rw [h2 hw]
      exact ⟨rfl, fun _ => rfl⟩
    · rw [if_pos hw, if_pos hw]
      exact ⟨rfl, fun q => absurd q hw⟩
  · unfold seeE
    rw [if_pos hc, if_pos hc]
    exact ⟨rfl, fun q => absurd q hc⟩
theorem low_may {L : List Nod} (h : Tree L) (u : ByteArray) (t : Lab) (p : ByteArray) (m : Int) : mayE (lowN L t) u t p m = mayE L u t p m ∧ toldN (lowN L t) p (mayE L u t p m) = toldN L p (mayE L u t p m) := by
  obtain ⟨h1, h2⟩ := low_see h t p
  by_cases hm : m < 1 ∨ 7 < m
  · have e1 : mayE L u t p m = 1 := by unfold mayE; rw [if_pos hm]
    refine ⟨by rw [e1]; unfold mayE; rw [if_pos hm], by rw [e1]; rfl⟩
  · by_cases hs : seeE L t p = 0
    · have hf := h2 hs
      refine ⟨?_, by unfold toldN; rw [hf]⟩
      unfold mayE
      rw [if_neg hm, if_neg hm, h1, if_neg (by simp [hs]), if_neg (by simp [hs]), hf]
    · have e1 : mayE L u t p m = seeE L t p := by unfold mayE; rw [if_neg hm, if_pos hs]
      refine ⟨by rw [e1]; unfold mayE; rw [if_neg hm, h1, if_pos hs], by rw [e1]; unfold toldN; rw [if_neg hs, if_neg hs]⟩
/-! More modes. -/
theorem mod_split {n : Nod} {u : ByteArray} {t : Lab} {m : Int} : modE n u t m = 0 ↔ ((bits .and .i64 m 5 != 0) = true → rov t n.label = true) ∧ ((bits .and .i64 m 2 != 0) = true → labEq t n.label = true) ∧ bits .and .i64 (modesL n.acl u) m = m := by
  unfold modE
  by_cases h1 : (bits .and .i64 m 5 != 0) = true ∧ rov t n.label = false
  · rw [if_pos h1]
    constructor
    · intro h; cases h
    · rintro ⟨h, _⟩
      rw [h h1.1] at h1
      exact absurd h1.2 (by decide)
  · rw [if_neg h1]
    by_cases h2 : (bits .and .i64 m 2 != 0) = true ∧ labEq t n.label = false
    · rw [if_pos h2]
      constructor
      · intro h; cases h
      · rintro ⟨_, h, _⟩
        rw [h h2.1] at h2
        exact absurd h2.2 (by decide)
    · rw [if_neg h2]
      have a1 : (bits .and .i64 m 5 != 0) = true → rov t n.label = true := fun q => by
        cases hr : rov t n.label
        · exact absurd ⟨q, hr⟩ h1
        · rfl
      have a2 : (bits .and .i64 m 2 != 0) = true → labEq t n.label = true := fun q => by
        cases hr : labEq t n.label
        · exact absurd ⟨q, hr⟩ h2
        · rfl
      by_cases h3 : (bits .and .i64 (modesL n.acl u) m != m) = true
      · rw [if_pos h3]
        constructor
        · intro h; cases h
        · rintro ⟨_, _, h⟩
          rw [h] at h3
          simp at h3
      · rw [if_neg h3]
        exact ⟨fun _ => ⟨a1, a2, by simpa using h3⟩, fun _ => rfl⟩
end Go.Proofs.YtapgjdmnlkedgaaDoor

/-! MORE OF WHAT A SUBJECT IS TOLD, in plain words: modes, users, changes (chapter 13). -/
namespace Go.Proofs.YtapgjdmnlkedgaaDoor
open Go.RowKit
set_option maxRecDepth 8000
set_option linter.unusedSimpArgs false
set_option linter.unusedVariables false

/-! Bits of modes. -/
theorem bits_all : ∀ M m : Fin 8, 1 ≤ m.val → (bits .and .i64 ((M.val : Nat) : Int) ((m.val : Nat) : Int) = ((m.val : Nat) : Int) ↔ ((bits .and .i64 ((m.val : Nat) : Int) 1 != 0) = true → bits .and .i64 ((M.val : Nat) : Int) 1 = 1) ∧ ((bits .and .i64 ((m.val : Nat) : Int) 2 != 0) = true → bits .and .i64 ((M.val : Nat) : Int) 2 = 2) ∧ ((bits .and .i64 ((m.val : Nat) : Int) 4 != 0) = true → bits .and .i64 ((M.val : Nat) : Int) 4 = 4)) := by decide +kernel
theorem bits_five : ∀ m : Fin 8, (bits .and .i64 ((m.val : Nat) : Int) 5 != 0) = ((bits .and .i64 ((m.val : Nat) : Int) 1 != 0) || (bits .and .i64 ((m.val : Nat) : Int) 4 != 0)) := by decide +kernel
theorem and15 : (bits .and .i64 1 5 != 0) = true ∧ (bits .and .i64 1 2 != 0) = false ∧ (bits .and .i64 2 5 != 0) = false ∧ (bits .and .i64 2 2 != 0) = true ∧ (bits .and .i64 4 5 != 0) = true ∧ (bits .and .i64 4 2 != 0) = false := by decide +kernel
theorem fin8 {m : Int} (h0 : 0 ≤ m) (h7 : m ≤ 7) : ∃ k : Fin 8, m = ((k.val : Nat) : Int) := ⟨⟨m.toNat, by omega⟩, by simp; omega⟩
theorem okAcl_modes : ∀ (l : List Gr) (a : ByteArray), okAcl a l = true → ∀ g ∈ l, 1 ≤ g.m ∧ g.m ≤ 7
  | [], _, _, g, hg => by cases hg
  | x :: r, a, h, g, hg => by
    simp only [okAcl, Bool.and_eq_true, decide_eq_true_eq] at h
    rcases List.mem_cons.1 hg with rfl | hg
    · omega
    · exact okAcl_modes r x.u h.2 g hg
theorem look_modes {l : List Gr} (h : ∀ g ∈ l, 1 ≤ g.m ∧ g.m ≤ 7) {u : ByteArray} {m : Int} (hm : look l u = some m) : 1 ≤ m ∧ m ≤ 7 := by
  unfold look at hm
  cases hf : l.find? (fun g => eqs g.u u) with
  | none => rw [hf] at hm; cases hm
  | some g =>
    rw [hf] at hm
    obtain rfl : g.m = m := Option.some.inj hm
    exact h g (List.mem_of_find?_eq_some hf)
theorem modes_range {l : List Gr} (h : chkA l = 0) (u : ByteArray) : 0 ≤ modesL l u ∧ modesL l u ≤ 7 := by
  unfold chkA at h
  by_cases h1 : 4 < l.length
  · rw [if_pos h1] at h; cases h
  · rw [if_neg h1] at h
    by_cases h2 : okAcl ⟨#[]⟩ l = true
    · have hg := okAcl_modes l _ h2
      unfold modesL
      cases hu : look l u with
      | some m => have := look_modes hg hu; simp; omega
      | none =>
        cases hs : look l star with
        | some m => have := look_modes hg hs; simp; omega
        | none => simp
    · rw [if_neg h2] at h; cases h
theorem may_in {L : List Nod} {u : ByteArray} {t : Lab} {p : ByteArray} {m : Int} (h1 : 1 ≤ m) (h7 : m ≤ 7) : mayE L u t p m = if seeE L t p ≠ 0 then seeE L t p else modE ((findN L p).getD zeroN) u t m := by
  unfold mayE
  rw [if_neg (by omega)]
theorem may_more {L : List Nod} {p : ByteArray} {x : Nod} (hx : findN L p = some x) (hA : chkA x.acl = 0) (u : ByteArray) (t : Lab) {m : Int} (h1 : 1 ≤ m) (h7 : m ≤ 7) :
    mayE L u t p m = 0 ↔ ((bits .and .i64 m 1 != 0) = true → mayE L u t p 1 = 0) ∧ ((bits .and .i64 m 2 != 0) = true → mayE L u t p 2 = 0) ∧ ((bits .and .i64 m 4 != 0) = true → mayE L u t p 4 = 0) := by
  rw [may_in h1 h7, may_in (by decide) (by decide), may_in (by decide) (by decide), may_in (by decide) (by decide), hx]
  have hne : (bits .and .i64 m 1 != 0) = true ∨ (bits .and .i64 m 2 != 0) = true ∨ (bits .and .i64 m 4 != 0) = true := by
    obtain ⟨k, rfl⟩ := fin8 (by omega) h7
    have : ∀ k : Fin 8, 1 ≤ k.val → ((bits .and .i64 ((k.val : Nat) : Int) 1 != 0) = true ∨ (bits .and .i64 ((k.val : Nat) : Int) 2 != 0) = true ∨ (bits .and .i64 ((k.val : Nat) : Int) 4 != 0) = true) := by decide +kernel
    exact this k (by omega)
  by_cases hs : seeE L t p = 0
  · rw [if_neg (by simp [hs]), if_neg (by simp [hs]), if_neg (by simp [hs]), if_neg (by simp [hs])]
    simp only [Option.getD_some]
    rw [mod_split, mod_split, mod_split, mod_split]
    obtain ⟨a1, a2, a3, a4, a5, a6⟩ := and15
    obtain ⟨b0, b7⟩ := modes_range hA u
    obtain ⟨M, hM⟩ := fin8 b0 b7
    obtain ⟨k, rfl⟩ := fin8 (by omega) h7
    have hb := bits_all M k (by omega)
    have h5 := bits_five k
    rw [hM, a1, a2, a3, a4, a5, a6, h5, hb]
    generalize (bits .and .i64 ((k.val : Nat) : Int) 1 != 0) = q1
    generalize (bits .and .i64 ((k.val : Nat) : Int) 2 != 0) = q2
    generalize (bits .and .i64 ((k.val : Nat) : Int) 4 != 0) = q4
    cases q1 <;> cases q2 <;> cases q4 <;> simp
    all_goals (constructor <;> intro h <;> simp_all)
  · rw [if_pos hs, if_pos hs, if_pos hs, if_pos hs]
    constructor
    · intro q
      exact absurd q hs
    · rintro ⟨c1, c2, c4⟩
      rcases hne with q | q | q
      · exact c1 q
      · exact c2 q
      · exact c4 q
/-! At a node's own label. -/
theorem may_own {L : List Nod} (h : Tree L) {x : Nod} (hx : x ∈ L) (u : ByteArray) {m : Int} (h1 : 1 ≤ m) (h7 : m ≤ 7) : mayE L u x.label x.path m = 0 ∨ mayE L u x.label x.path m = 16 := by
  have g := (nodC_zero.1 (h.ok x hx)).2.1
  rw [may_in h1 h7, see_own h hx g (rov_self g), if_neg (by simp), find_mem h.ord hx]
  unfold modE
  simp only [Option.getD_some]
  rw [if_neg (by rw [rov_self g]; simp), if_neg (by rw [(labEq_iff _ _).2 rfl]; simp)]
  by_cases q : (bits .and .i64 (modesL x.acl u) m != m) = true
  · rw [if_pos q]; exact .inr rfl
  · rw [if_neg q]; exact .inl rfl
theorem may_up {L : List Nod} (hL : ∀ x ∈ L, GL x.label) {u : ByteArray} {t s : Lab} (ht : GL t) (hs : GL s) (hov : rov s t = true) {p : ByteArray} (h : mayE L u t p 1 = 0) : mayE L u s p 1 = 0 := by
  rw [may_in (by decide) (by decide)] at h ⊢
  by_cases hse : seeE L t p = 0
  · rw [if_neg (by simp [hse])] at h
    rw [if_neg (by simp [see_up hL ht hs hov hse])]
    obtain ⟨x, hx⟩ := (see_zero.1 hse).2.2
    rw [hx] at h ⊢
    obtain ⟨a, _, c⟩ := mod_split.1 h
    refine mod_split.2 ⟨fun q => rov_trans hs ht (hL x (find_some hx).1) hov (a q), fun q => ?_, c⟩
    rw [and15.2.1] at q
    cases q
  · rw [if_pos hse] at h
    exact absurd h hse
/-! Users of whom a list says the same. -/
theorem may_user {L : List Nod} {u v : ByteArray} (h : ∀ x ∈ L, modesL x.acl u = modesL x.acl v) (t : Lab) (p : ByteArray) (m : Int) : mayE L u t p m = mayE L v t p m := by
  unfold mayE
  by_cases hm : m < 1 ∨ 7 < m
  · rw [if_pos hm, if_pos hm]
  · rw [if_neg hm, if_neg hm]
    by_cases hs : seeE L t p = 0
    · obtain ⟨x, hx⟩ := (see_zero.1 hs).2.2
      rw [if_neg (by simp [hs]), if_neg (by simp [hs]), hx]
      unfold modE
      simp only [Option.getD_some, h x (find_some hx).1]
    · rw [if_pos hs, if_pos hs]
def OkUsr (u : ByteArray) : Prop := ∃ k, k < 5 ∧ u = usr k
theorem aclTo_usr (h : List Int) : ∀ k, k ≤ 5 → ∀ g ∈ aclTo h k, OkUsr g.u
  | 0, _, g, hg => by cases hg
  | k + 1, hk, g, hg => by
    rw [aclTo] at hg
    split at hg
    · rcases List.mem_append.1 hg with hg | hg
      · exact aclTo_usr h k (by omega) g hg
      · rw [List.mem_singleton] at hg
        subst hg
        exact ⟨k, by omega, rfl⟩
    · exact aclTo_usr h k (by omega) g hg
def UsrN (x : Nod) : Prop := ∀ g ∈ x.acl, OkUsr g.u
theorem mkN_usr (d : Nod) (m : Mk) : UsrN (mkN d m) := by
  unfold mkN UsrN
  split
  · exact aclTo_usr _ 5 (Nat.le_refl _)
  · exact aclTo_usr _ 5 (Nat.le_refl _)
theorem step_usr {l : List Nod} (h : ∀ x ∈ l, UsrN x) (m : Mk) : ∀ x ∈ growStep l m, UsrN x := fun x hx => by
  unfold growStep at hx
  split at hx
  · exact h x hx
  · split at hx
    · exact h x hx
    · split at hx
      · rcases put_mem.1 hx with rfl | ⟨hx, _⟩
        · exact mkN_usr _ _
        · exact h x hx
      · exact h x hx
theorem fold_usr : ∀ (ms : List Mk) {l : List Nod}, (∀ x ∈ l, UsrN x) → ∀ x ∈ ms.foldl growStep l, UsrN x
  | [], _, h => h
  | m :: r, _, h => fold_usr r (step_usr h m)
theorem all_usr : ∀ g ∈ allG, OkUsr g.u := fun g hg => by
  rw [allG, List.mem_singleton] at hg
  subst hg
  exact ⟨0, by omega, rfl⟩
theorem grow_usr (ts : List Lab) (ms : List Mk) : ∀ x ∈ growN ts ms, UsrN x := fold_usr _ fun x hx => by
  rcases first_mem hx with rfl | ⟨k, t, _, _, rfl⟩
  · exact all_usr
  · exact all_usr
theorem usr_modes {x : Nod} (h : UsrN x) {u : ByteArray} (hu : ¬ OkUsr u) : modesL x.acl u = modesL x.acl starS := by
  have h1 : look x.acl u = none := look_none fun g hg q => hu (q ▸ h g hg)
  unfold modesL
  rw [h1, show star = starS from rfl]
  cases look x.acl starS <;> rfl
/-! Changes. -/
theorem see_agree {L M : List Nod} {t : Lab} {ns : List ByteArray} (hn : Names ns) (h : ∀ j, j ≤ ns.length → findN M (pathB (ns.take j)) = findN L (pathB (ns.take j))) : seeE M t (pathB ns) = seeE L t (pathB ns) := by
  have hp : partsOf (pathB ns) = ns := parts_path hn.flat
  have hw : ∀ (r ms : List ByteArray), ms ++ r = ns → wayE M t ms r = wayE L t ms r := fun r => by
    induction r with
    | nil => intro ms _; rfl
    | cons n r ih =>
      intro ms e
      have h1 : findN M (pathB ms) = findN L (pathB ms) := by
        have := h ms.length (by rw [← e]; simp)
        rwa [← e, List.take_left] at this
      rw [wayE, wayE, h1, ih (ms ++ [n]) (by rw [List.append_assoc]; exact e)]
  have hl := h ns.length (Nat.le_refl _)
  rw [List.take_length] at hl
  unfold seeE
  rw [hp, hw ns [] rfl, hl]
theorem chg_join {L : List Nod} {d : Nod} (hf : findN L d.path = some d) (hd : d.dir = true) {u : ByteArray} {t : Lab} {p : ByteArray} (hc : checkOf p = 0) (hs : p ≠ slashS) (hpar : parentOf p = d.path) : chgE L u t p = mayE L u t d.path 2 := by
  unfold chgE
  rw [if_neg (by simp [hc]), if_neg (fun q => hs (eqs_iff.1 q)), hpar, hf]
  simp only [Option.getD_some, hd]
  by_cases hm : mayE L u t d.path 2 = 0
  · rw [if_neg (by simp [hm]), if_neg (by simp), hm]
  · rw [if_pos hm]
theorem chg_root (L : List Nod) (u : ByteArray) (t : Lab) : chgE L u t slashS = 1 := by
  unfold chgE
  rw [if_neg (by rw [slash_chk]; simp), if_pos (eqs_self _)]
theorem may_put {L : List Nod} (h : Tree L) {d n : Nod} (hd : d ∈ L) (hnew : ∀ x ∈ L, x.path ≠ n.path) (hsz : d.path.size < n.path.size) (u : ByteArray) (t : Lab) (m : Int) : mayE (putN L n) u t d.path m = mayE L u t d.path m ∧ findN (putN L n) d.path = findN L d.path := by
  obtain ⟨ns, hn, e⟩ := h.names hd
  have hsub : ∀ j, (pathB (ns.take j)).size ≤ (pathB ns).size := fun j => by
    by_cases hj : ns.take j = []
    · rw [hj, pathB_nil]
      by_cases hns : ns = []
      · rw [hns, pathB_nil]
        exact Nat.le_refl _
      · have h1 : (pathB ns).size = (body ns).length := by rw [← bytes_len, pathB_bytes hns]
        have h2 := body_pos hns
        rw [h1]
        show 1 ≤ _
        omega
    · have hns : ns ≠ [] := fun q => hj (by rw [q]; simp)
      rw [← bytes_len, ← bytes_len, pathB_bytes hj, pathB_bytes hns]
      have := congrArg List.length (congrArg body (List.take_append_drop j ns))
      rw [body_append, List.length_append] at this
      omega
  have hfind : ∀ j, j ≤ ns.length → findN (putN L n) (pathB (ns.take j)) = findN L (pathB (ns.take j)) := fun j _ => find_put h.ord hnew fun q => by
    have h1 := hsub j
    rw [q] at h1
    rw [e] at hsz
    omega
  have hs := see_agree (t := t) hn hfind
  have hl := hfind ns.length (Nat.le_refl _)
  rw [List.take_length] at hl
  rw [e]
  refine ⟨?_, hl⟩
  unfold mayE
  rw [hs, hl]
end Go.Proofs.YtapgjdmnlkedgaaDoor

/-! PARTS OF A STRUCT'S BLOCK, stored whole: what the block holds then. For every stage from the eleventh on. -/
namespace Go.Proofs.YtapgjdmnlkedgaaDoor
open Go.RowKit
set_option maxRecDepth 8000
set_option linter.unusedSimpArgs false
set_option linter.unusedVariables false

def setM : List Value → Nat → List Value → List Value
  | cs, _, [] => cs
  | cs, k, v :: r => setM (cs.set k v) (k + 1) r
theorem setM_len : ∀ (vs : List Value) (cs : List Value) (k : Nat), (setM cs k vs).length = cs.length
  | [], _, _ => rfl
  | v :: r, cs, k => by rw [setM, setM_len r, List.length_set]
theorem Blk.putM : ∀ (vs : List Value) {W : World} {b : Nat} {cs : List Value} (k : Nat), Blk W b cs → k + vs.length ≤ cs.length → Blk (W.setCells b k vs) b (setM cs k vs)
  | [], _, _, _, _, h, _ => h
  | v :: r, W, b, cs, k, h, hl => by
    simp at hl
    exact Blk.putM r (k + 1) (h.set k v (by omega)) (by simp; omega)
theorem Blk.thereM {W : World} {b : Nat} {cs : List Value} (h : Blk W b cs) (k m : Nat) (hl : k + m ≤ cs.length) : W.there b k m := fun j hj => by
  have := h (k + j) cs[k + j] (List.getElem?_eq_getElem (by omega))
  exact ⟨by rw [this.1]; rfl, this.2⟩
/-- A part of a struct's block is stored: the block, and what lies elsewhere. -/
theorem put_mid {W : World} {b : Nat} {cs : List Value} (h : BlkL b cs W) (k : Nat) (vs : List Value) (hl : k + vs.length ≤ cs.length) (hp : 0 < cs.length) {Z : World} (hb : Below Z.heap.size Z W) (hz : Z.heap.size ≤ b) :
    ∃ W', W.setCells b k vs = W' ∧ W.there b k vs.length ∧ BlkL b (setM cs k vs) W' ∧ Below Z.heap.size Z W' := by
  have h1 := Blk.putM vs k h.1 hl
  refine ⟨_, rfl, h.1.thereM k vs.length hl, ⟨h1, ?_⟩, Below.cells hz vs k hb⟩
  have hl2 : 0 < (setM cs k vs).length := by rw [setM_len]; exact hp
  exact h1.lt (List.getElem?_eq_getElem hl2)
theorem OwnR.mid {α : Type} {e : TypeId} {sz : Nat} {f : α → List Value} {w : World} {base g : Nat} {v : Value} {l : List α} (h : OwnR e sz f w base v l) (hg : v.ownBlock ≠ some g) (o : Nat) (vs : List Value) : OwnR e sz f (w.setCells g o vs) base v l :=
  h.keep fun k hk => heap_setCells_other (fun q => hg (by rw [hk, q])) vs o w
section
variable {ops : Array Oper} {rest : List Oper} {o : Oper} {a : Act} {w W : World} {Q : Exit → Act → World → Prop} {T : TypeId}
theorem wpList_store_part (hg : o.guard = none) (x y : Operand) (ho : o.op = .store T x y) (b k : Nat) (hx : a.eval x = .pointer (some ⟨b, k, none⟩)) (cs : List Value) (hy : a.eval y = .agg cs.toArray)
    (ht : w.there b k cs.length) (hi : (Tryd.prog.info? T).map (·.size) = some cs.length) (h1 : ∀ v ∈ cs, v.oneCell' = true) (hW : w.setCells b k cs = W)
    (h : wpList Tryd.prog ops Q rest (a.put o.dst undef) W) : wpList Tryd.prog ops Q (o :: rest) a w :=
  wpList_store_mid hg T x y ho b k cs.toArray hx hy ht hi (all_oneCell_toArray h1) (hW ▸ h)
theorem step_store_part {K : Act → World → Prop} {E : Prop} (hg : o.guard = none) (x y : Operand) (ho : o.op = .store T x y) (b k : Nat) (hx : a.eval x = .pointer (some ⟨b, k, none⟩)) (cs : List Value) (hy : a.eval y = .agg cs.toArray)
    (ht : w.there b k cs.length) (hi : (Tryd.prog.info? T).map (·.size) = some cs.length) (h1 : ∀ v ∈ cs, v.oneCell' = true) (hW : w.setCells b k cs = W) (hK : K (a.put o.dst undef) W) :
    if Region.wanted o (yielded ops a.tmps) = true then Oper.wp Tryd.prog o a w K Q else E := by
  have hw : Region.wanted o (yielded ops a.tmps) = true := by simp [Region.wanted, hg]
  rw [if_pos hw]
  exact wp_store_mid T x y ho b k cs.toArray hx hy ht hi (all_oneCell_toArray h1) (hW ▸ hK)
end
end Go.Proofs.YtapgjdmnlkedgaaDoor

/-! LISTS OF GRANTS IN MEMORY, and the search for a user's place: acl.find, slices.BinarySearchFunc, strings.Compare. -/
namespace Go.Proofs.YtapgjdmnlkedgaaDoor
open Go.RowKit
set_option maxRecDepth 8000

/-- A list's grants lie there. -/
def GAt (w : World) (a : Option Addr) (l : List Gr) : Prop :=
  ∀ j g, l[j]? = some g → ∃ x, a = some x ∧ w.cell? (x.add (j * 2)) = some (.string g.u) ∧ w.cell? ⟨(x.add (j * 2)).block, (x.add (j * 2)).off + 1, none⟩ = some (.int .i64 g.m)
theorem GAt.below {w w' : World} {a : Option Addr} {l : List Gr} (h : GAt w a l) (b : Below w.heap.size w w') : GAt w' a l := by
  intro j g hg
  obtain ⟨x, hx, h1, h2⟩ := h j g hg
  exact ⟨x, hx, (b.cell (World.block_lt_of_cell? _ _ h1)).trans h1, (b.cell (World.block_lt_of_cell? _ _ h2)).trans h2⟩
theorem GAt.drew {w : World} {a : Option Addr} {l : List Gr} (h : GAt w a l) : GAt w.drew a l := h
set_option maxHeartbeats 1000000 in
theorem compareString_any (a b : ByteArray) (w : World) :
    Calls Tryd.prog 77 #[.string a, .string b] w fun e w' => e = .returned (.int .i64 (cmpB a b)) ∧ w' = w := by
  go_enter Tryd.func77, Tryd.ntmps77
  go_wp2
  rw [run_callFunc_extern Tryd.func82 (by kernel_rfl) (by kernel_rfl) (by kernel_rfl) (e := Extern.BytealgCompare.compare) (by kernel_rfl), Lib.run_compareString]
  simp only [Result.andThen]
  rw [Oper.upon_value]
  go_wp2
  go_ret
  exact ⟨rfl, rfl⟩
set_option maxHeartbeats 1000000 in
theorem compare_any (a b : ByteArray) (w : World) :
    Calls Tryd.prog 68 #[.string a, .string b] w fun e w' => e = .returned (.int .i64 (cmpB a b)) ∧ w' = w := by
  go_enter Tryd.func68, Tryd.ntmps68
  go_wp2_with (go_at_call 77; refine (compareString_any _ _ _).mono ?_; rintro e w' ⟨rfl, rfl⟩)
  go_ret
  exact ⟨rfl, rfl⟩
set_option maxHeartbeats 1000000 in
theorem cmp_any (g : Gr) (u : ByteArray) (w : World) :
    Calls Tryd.prog 72 #[g.v, .string u] w fun e w' => e = .returned (.int .i64 (cmpB g.u u)) ∧ Below w.heap.size w w' := by
  have hb := alloc_below w (.cells #[.string g.u, .int .i64 g.m] 80)
  go_enter Tryd.func72, Tryd.ntmps72
  go_wp2_with (go_at_call 68; refine (compare_any _ _ _).mono ?_; rintro e w' ⟨rfl, rfl⟩)
  go_ret
  exact ⟨rfl, hb⟩
end Go.Proofs.YtapgjdmnlkedgaaDoor

/-! THE SEARCH FOR A USER's PLACE: slices.BinarySearchFunc as acl calls it, and acl.find. -/
namespace Go.Proofs.YtapgjdmnlkedgaaDoor
open Go.RowKit
set_option maxRecDepth 8000

theorem Parts.len {l A M B : List Gr} {u : ByteArray} (p : Parts l u A M B) : l.length = A.length + (M.length + B.length) := by rw [p.eq]; simp
theorem Parts.cmp {l A M B : List Gr} {u : ByteArray} (p : Parts l u A M B) {h : Nat} {g : Gr} (hg : l[h]? = some g) : (cmpB g.u u < 0 ↔ h < A.length) ∧ (cmpB g.u u = 0 ↔ (h = A.length ∧ M ≠ [])) := by
  rw [p.eq] at hg
  by_cases h1 : h < A.length
  · rw [List.getElem?_append_left h1] at hg
    have := p.ahead g (List.mem_of_getElem? hg)
    refine ⟨⟨fun _ => h1, fun _ => (cmp_lt _ _).2 this⟩, ⟨fun e => absurd ((cmp_eq0 _ _).1 e) (lt_ne this), fun e => by omega⟩⟩
  · rw [List.getElem?_append_right (by omega)] at hg
    rcases p.mid with hM | ⟨m, hM⟩
    · rw [hM] at hg
      have hb := p.behind g (List.mem_of_getElem? (by simpa using hg))
      refine ⟨⟨fun e => ?_, fun e => absurd e h1⟩, ⟨fun e => absurd ((cmp_eq0 _ _).1 e).symm (lt_ne hb), fun e => absurd hM e.2⟩⟩
      have := (cmp_lt _ _).1 e
      rw [lt_asymm hb] at this
      cases this
    · rw [hM] at hg ⊢
      by_cases h2 : h = A.length
      · subst h2
        simp at hg
        subst hg
        have e0 : cmpB u u = 0 := (cmp_eq0 _ _).2 rfl
        simp [e0]
      · obtain ⟨k, hk⟩ : ∃ k, h - A.length = k + 1 := ⟨h - A.length - 1, by omega⟩
        rw [hk] at hg
        have hb := p.behind g (List.mem_of_getElem? (by simpa using hg))
        refine ⟨⟨fun e => ?_, fun e => absurd e h1⟩, ⟨fun e => absurd ((cmp_eq0 _ _).1 e).symm (lt_ne hb), fun e => absurd e.1 h2⟩⟩
        have := (cmp_lt _ _).1 e
        rw [lt_asymm hb] at this
        cases this

set_option maxHeartbeats 4000000 in
theorem search_any (w : World) (a : Option Addr) (cap : Nat) (l A M B : List Gr) (u : ByteArray) (p : Parts l u A M B) (hG : GAt w a l) (hl : l.length ≤ 1000) :
    Calls Tryd.prog 71 #[.slice a l.length cap, .string u, .func (.func 72) #[] #[]] w fun e w' => e = .returned (.tuple #[.int .i64 (A.length : Nat), .bool (!M.isEmpty)]) ∧ Below w.heap.size w w' := by
  have hlen := p.len
  obtain ⟨n, hn⟩ : ∃ n, l.length = n := ⟨_, rfl⟩
  obtain ⟨c, hc⟩ : ∃ c, A.length = c := ⟨_, rfl⟩
  obtain ⟨b, hb⟩ : ∃ b, (!M.isEmpty) = b := ⟨_, rfl⟩
  have hcmp : ∀ (h : Nat) (g : Gr), l[h]? = some g → (cmpB g.u u < 0 ↔ h < c) ∧ (cmpB g.u u = 0 ↔ (h = c ∧ b = true)) := by
    intro h g hg
    have := p.cmp hg
    rw [hc] at this
    refine ⟨this.1, this.2.trans ?_⟩
    rw [← hb]
    cases M <;> simp
  have hcn : c ≤ n := by omega
  have hbn : b = true → c < n := by
    intro h
    rw [← hb] at h
    cases M with
    | nil => simp at h
    | cons x y => simp at hlen; omega
  rw [hn, hc, hb]
  rw [hn] at hl
  clear p hb hc hlen
  go_enter Tryd.func71, Tryd.ntmps71
  go_wp2
  go_loopg [9, 10] n (fun kx s9 s10 wr => ∃ lo hi : Nat, s9 = .int .i64 lo ∧ s10 = .int .i64 hi ∧ lo ≤ c ∧ c ≤ hi ∧ hi ≤ n ∧ hi - lo ≤ kx ∧ Below w.heap.size w wr)
  case atStart => exact ⟨0, n, rfl, rfl, Nat.zero_le _, hcn, Nat.le_refl _, by omega, Below.refl _ _⟩
  case round =>
    obtain ⟨lo, hi, rfl, rfl, hlo, hhi, hin, hg, hB⟩ := hrel
    by_cases hlt : lo < hi
    · obtain ⟨y, hy⟩ : ∃ y, l[(lo + hi) / 2]? = some y := ⟨_, List.getElem?_eq_getElem (by omega)⟩
      obtain ⟨x, rfl, c0, c1⟩ := (hG.below hB) _ _ hy
      have hcy := hcmp _ _ hy
      by_cases hyx : cmpB y.u u < 0
      · have hlt2 := hcy.1.1 hyx
        go_wp2_with (go_at_call 72; refine (cmp_any y u _).mono ?_; rintro e w' ⟨rfl, hBw⟩)
        go_roundg (hi - ((lo + hi) / 2 + 1))
        case measure => omega
        case rel => exact ⟨(lo + hi) / 2 + 1, hi, by rw [show ((lo : Int) + (hi : Int)) / 2 + 1 = (((lo + hi) / 2 + 1 : Nat) : Int) by omega], rfl, by omega, hhi, hin, Nat.le_refl _, Below.then hB hBw⟩
      · have hge : c ≤ (lo + hi) / 2 := Nat.le_of_not_lt fun h => hyx (hcy.1.2 h)
        go_wp2_with (go_at_call 72; refine (cmp_any y u _).mono ?_; rintro e w' ⟨rfl, hBw⟩)
        go_roundg ((lo + hi) / 2 - lo)
        case measure => omega
        case rel => exact ⟨lo, (lo + hi) / 2, rfl, by rw [show ((lo : Int) + (hi : Int)) / 2 = (((lo + hi) / 2 : Nat) : Int) by omega], hlo, hge, by omega, Nat.le_refl _, Below.then hB hBw⟩
    · obtain rfl : lo = c := by omega
      by_cases hln : lo < n
      · obtain ⟨y, hy⟩ : ∃ y, l[lo]? = some y := ⟨_, List.getElem?_eq_getElem (by omega)⟩
        obtain ⟨x, rfl, c0, c1⟩ := (hG.below hB) _ _ hy
        have hcy := (hcmp _ _ hy).2
        by_cases hyx : cmpB y.u u = 0
        · obtain rfl : b = true := (hcy.1 hyx).2
          go_wp2_with (go_at_call 72; refine (cmp_any y u _).mono ?_; rintro e w' ⟨rfl, hBw⟩)
          go_ret2
          exact ⟨by simp, Below.then hB hBw⟩
        · obtain rfl : b = false := by
            cases b
            · rfl
            · exact absurd (hcy.2 ⟨rfl, rfl⟩) hyx
          go_wp2_with (go_at_call 72; refine (cmp_any y u _).mono ?_; rintro e w' ⟨rfl, hBw⟩)
          go_ret2
          exact ⟨by simp [hyx], Below.then hB hBw⟩
      · obtain rfl : b = false := by
          cases b
          · rfl
          · exact absurd (hbn rfl) hln
        go_wp2
        go_ret2
        exact ⟨rfl, hB⟩
set_option maxHeartbeats 1000000 in
theorem find_any (w : World) (a : Option Addr) (cap : Nat) (l A M B : List Gr) (u : ByteArray) (p : Parts l u A M B) (hG : GAt w a l) (hl : l.length ≤ 1000) :
    Calls Tryd.prog 60 #[.slice a l.length cap, .string u] w fun e w' => e = .returned (.tuple #[.int .i64 (A.length : Nat), .bool (!M.isEmpty)]) ∧ Below w.heap.size w w' := by
  have h := search_any w a cap l A M B u p hG hl
  go_enter Tryd.func60, Tryd.ntmps60
  go_wp2_with (go_at_call 71; refine h.mono ?_; rintro e w' ⟨rfl, hB⟩)
  go_ret2
  exact ⟨rfl, hB⟩
end Go.Proofs.YtapgjdmnlkedgaaDoor

/-! NAMES: acl.isName, acl.mayHave, and the document's own. -/
namespace Go.Proofs.YtapgjdmnlkedgaaDoor
open Go.RowKit
set_option maxRecDepth 8000
theorem star_yes {u : ByteArray} (h : eqs u star = true) : u.toList = [42] := by
  rw [eqs_iff.1 h, toL]; rfl
theorem star_no {u : ByteArray} (h : eqs u star = false) : ¬ u.toList = [42] := fun e => by
  have : star.toList = [42] := by rw [toL]; rfl
  unfold eqs at h
  rw [e, this] at h
  cases h
end Go.Proofs.YtapgjdmnlkedgaaDoor

/-! MODES: acl.Modes, and the document's own. -/
namespace Go.Proofs.YtapgjdmnlkedgaaDoor
open Go.RowKit
set_option maxRecDepth 8000

theorem GAt.mid {w : World} {a : Option Addr} {l A M B : List Gr} {u : ByteArray} (h : GAt w a l) (p : Parts l u A M B) {m : Int} (hM : M = [⟨u, m⟩]) : ∃ x, a = some x ∧ w.cell? ⟨(x.add (A.length * 2)).block, (x.add (A.length * 2)).off + 1, none⟩ = some (.int .i64 m) ∧ A.length < l.length := by
  have hg : l[A.length]? = some ⟨u, m⟩ := by
    rw [p.eq, hM, List.getElem?_append_right (Nat.le_refl _)]
    simp
  obtain ⟨x, hx, _, h1⟩ := h _ _ hg
  exact ⟨x, hx, h1, (List.getElem?_eq_some_iff.1 hg).1⟩

set_option maxHeartbeats 2000000 in
theorem modes_any (w : World) (a : Option Addr) (cap : Nat) (l : List Gr) (u : ByteArray) (hs : Sorted l) (hG : GAt w a l) (hl : l.length ≤ 1000) :
    Calls Tryd.prog 50 #[.slice a l.length cap, .string u] w fun e w' => e = .returned (.int .i64 (modesL l u)) ∧ Below w.heap.size w w' := by
  obtain ⟨A, M, B, p⟩ := parts_of l u hs
  have hf := find_any w a cap l A M B u p hG hl
  rcases p.mid with hM | ⟨m, hM⟩
  · have e1 : (!M.isEmpty) = false := by rw [hM]; rfl
    rw [e1] at hf
    obtain ⟨A', M', B', p'⟩ := parts_of l star hs
    have hm : modesL l u = (look M' star).getD 0 := by
      unfold modesL
      rw [p.look, hM, p'.look]
      rfl
    rw [hm]
    clear hm
    have hf2 := fun w1 (hB : Below w.heap.size w w1) => find_any w1 a cap l A' M' B' star p' (hG.below hB) hl
    generalize A.length = c at hf
    rcases p'.mid with hM' | ⟨m', hM'⟩
    · have e2 : (!M'.isEmpty) = false := by rw [hM']; rfl
      have e3 : (look M' star).getD 0 = 0 := by rw [hM']; rfl
      rw [e3]
      simp only [e2] at hf2
      generalize A'.length = c' at hf2
      obtain ⟨n, hn⟩ : ∃ n, l.length = n := ⟨_, rfl⟩
      rw [hn] at hf hf2 hl ⊢
      go_enter Tryd.func50, Tryd.ntmps50
      go_wp2_with fail
      refine hf.mono ?_
      rintro e w1 ⟨rfl, hB1⟩
      go_wp2_with fail
      refine (hf2 _ hB1).mono ?_
      rintro e w2 ⟨rfl, hB2⟩
      go_wp2_with fail
      go_ret
      exact ⟨rfl, Below.then hB1 hB2⟩
    · have e2 : (!M'.isEmpty) = true := by rw [hM']; rfl
      have e3 : (look M' star).getD 0 = m' := by rw [hM', look_one]; rfl
      rw [e3]
      simp only [e2] at hf2
      have hmid := fun w1 (hB : Below w.heap.size w w1) => (hG.below hB).mid p' hM'
      generalize A'.length = c' at hf2 hmid
      obtain ⟨n, hn⟩ : ∃ n, l.length = n := ⟨_, rfl⟩
      rw [hn] at hf hf2 hmid hl ⊢
      go_enter Tryd.func50, Tryd.ntmps50
      go_wp2_with fail
      refine hf.mono ?_
      rintro e w1 ⟨rfl, hB1⟩
      go_wp2_with fail
      refine (hf2 _ hB1).mono ?_
      rintro e w2 ⟨rfl, hB2⟩
      obtain ⟨x, rfl, c1, hlt⟩ := hmid _ (Below.then hB1 hB2)
      go_wp2_with fail
      go_ret
      exact ⟨rfl, Below.then hB1 hB2⟩
  · have e1 : (!M.isEmpty) = true := by rw [hM]; rfl
    rw [e1] at hf
    have hm : modesL l u = m := by
      unfold modesL
      rw [p.look, hM, look_one]
      rfl
    rw [hm]
    clear hm
    have hmid := fun w1 (hB : Below w.heap.size w w1) => (hG.below hB).mid p hM
    generalize A.length = c at hf hmid
    obtain ⟨n, hn⟩ : ∃ n, l.length = n := ⟨_, rfl⟩
    rw [hn] at hf hmid hl ⊢
    go_enter Tryd.func50, Tryd.ntmps50
    go_wp2_with fail
    refine hf.mono ?_
    rintro e w1 ⟨rfl, hB1⟩
    obtain ⟨x, rfl, c1, hlt⟩ := hmid _ hB1
    go_wp2_with fail
    go_ret
    exact ⟨rfl, hB1⟩
/-- The document's way. -/
def rmod (u : ByteArray) (a : Int) : List Gr → Int
  | [] => a
  | g :: r => if eqs g.u star = true then rmod u g.m r else if eqs g.u u = true then g.m else rmod u a r
theorem rmod_eq (u : ByteArray) : ∀ (l : List Gr) (a : Int), Sorted l → rmod u a l = if eqs u star = true then (look l star).getD a else (look l u).getD ((look l star).getD a)
  | [], a, _ => by simp [rmod, look]
  | g :: r, a, hs => by
    have hp := List.pairwise_cons.1 hs
    have hno : look r g.u = none := look_none fun x hx => (lt_ne (hp.1 x hx)).symm
    rw [rmod, look_cons, look_cons]
    cases h1 : eqs g.u star
    · simp only [Bool.false_eq_true, if_false]
      cases h2 : eqs g.u u
      · simp only [Bool.false_eq_true, if_false]
        exact rmod_eq u r a hp.2
      · have hus : eqs u star = false := by rw [← eqs_iff.1 h2]; exact h1
        simp [hus]
    · simp only [if_true]
      have e := eqs_iff.1 h1
      rw [e] at hno
      rw [rmod_eq u r g.m hp.2, hno]
      cases h2 : eqs u star
      · have hne : eqs g.u u = false := by
          rw [e]
          refine eqs_ne fun k => ?_
          rw [← k, eqs_self] at h2
          cases h2
        simp [hne]
      · simp
theorem rmod_modes {l : List Gr} (hs : Sorted l) (u : ByteArray) : rmod u 0 l = modesL l u := by
  rw [rmod_eq u l 0 hs]
  unfold modesL
  cases h : eqs u star
  · simp
  · rw [eqs_iff.1 h]
    simp
    cases look l star <;> rfl
theorem star_b {u : ByteArray} {b : Bool} (h : eqs u star = b) : (u.toList == [42]) = b := by
  have : star.toList = [42] := by rw [toL]; rfl
  unfold eqs at h
  rw [this] at h
  exact h
theorem str_b {a b : ByteArray} {x : Bool} (h : eqs a b = x) : (a.toList == b.toList) = x := h

set_option maxHeartbeats 2000000 in
theorem rmodes_any (w : World) (a : Option Addr) (cap : Nat) (l : List Gr) (u : ByteArray) (hs : Sorted l) (hG : GAt w a l) (hl : l.length ≤ 1000) :
    Calls Tryd.prog 19 #[.slice a l.length cap, .string u] w fun e w' => e = .returned (.int .i64 (modesL l u)) ∧ w' = w := by
  obtain ⟨n, hn⟩ : ∃ n, l.length = n := ⟨_, rfl⟩
  obtain ⟨r, hr⟩ : ∃ r, modesL l u = r := ⟨_, rfl⟩
  have hr0 : Aside (r = rmod u 0 (l.drop 0)) := by rw [Aside, ← hr]; exact (rmod_modes hs u).symm
  rw [hr, hn]
  rw [hn] at hl
  clear hr hs
  go_enter Tryd.func19, Tryd.ntmps19
  go_wp2_with fail
  go_loopw [5, 6] (fun s t wr => ∃ (i : Nat) (al : Int), i ≤ n ∧ t = .int .i64 (i : Int) ∧ s = .int .i64 al ∧ wr = w ∧ Aside (r = rmod u al (l.drop i))) (fun _ t _ => n - (Go.RowKit.intOf t).toNat)
  case atStart => exact ⟨0, 0, by omega, rfl, rfl, rfl, hr0⟩
  case round =>
    obtain ⟨i, al, hi, rfl, rfl, rfl, hall⟩ := hrel
    by_cases hlt : i < n
    · obtain ⟨g, hg⟩ : ∃ g, l[i]? = some g := ⟨_, List.getElem?_eq_getElem (by omega)⟩
      obtain ⟨x, rfl, c0, c1⟩ := hG _ _ hg
      have hd : l.drop i = g :: l.drop (i + 1) := by
        have h := List.getElem?_eq_some_iff.1 hg
        rw [List.drop_eq_getElem_cons h.1, h.2]
      rw [hd, rmod] at hall
      clear hd hr0
      cases h1 : eqs g.u star
      · cases h2 : eqs g.u u
        · have hn2 : Aside (r = rmod u al (l.drop (i + 1))) := by rw [h1, h2] at hall; simpa using hall
          have k1 := star_b h1
          have k2 := str_b h2
          clear hall
          go_wp2_with fail
          exact ⟨⟨i + 1, al, by omega, by simp, rfl, trivial, hn2⟩, by simp [Go.RowKit.intOf]; omega⟩
        · obtain rfl : r = g.m := by rw [hall.out, h1, h2]; simp
          have k1 := star_b h1
          have k2 := str_b h2
          clear hall
          go_wp2_with fail
          go_ret
          exact ⟨rfl, rfl⟩
      · have hn2 : Aside (r = rmod u g.m (l.drop (i + 1))) := by rw [h1] at hall; simpa using hall
        have k1 := star_b h1
        clear hall
        go_wp2_with fail
        exact ⟨⟨i + 1, g.m, by omega, by simp, rfl, trivial, hn2⟩, by simp [Go.RowKit.intOf]; omega⟩
    · obtain rfl : r = al := by rw [hall.out, List.drop_eq_nil_of_le (by omega)]; rfl
      clear hall hr0
      go_wp2_with fail
      go_ret
      exact ⟨rfl, rfl⟩
end Go.Proofs.YtapgjdmnlkedgaaDoor

/-! WHAT A SUBJECT IS TOLD: the document's own See, May, Change (donjonref13). -/
namespace Go.Proofs.YtapgjdmnlkedgaaDoor
open Go.RowKit
set_option maxRecDepth 8000
set_option linter.unusedSimpArgs false
set_option linter.unusedVariables false

/-- A subject's cells. -/
abbrev sbL (u : ByteArray) (t : Lab) : List Value := [.string u, .int .i64 t.s, .int .i64 t.c, .int .i64 t.i, .int .i64 t.k]
abbrev labM (t : Lab) : List Value := [.int .i64 t.s, .int .i64 t.c, .int .i64 t.i, .int .i64 t.k]
/-- The node that is told. -/
def toldP (l : List PN) (p : ByteArray) (e : Int) : PN := if e = 0 then (findP l p).getD zeroP else zeroP
theorem told_names (l : List PN) (p : ByteArray) (e : Int) : (toldP l p e).n = toldN (namesP l) p e := by
  unfold toldP toldN
  split
  · rw [find_names]
    cases findP l p <;> rfl
  · rfl
theorem set_res (x : PN) : setM zeroP.cs 0 x.cs = x.cs := rfl
/-- The result's block, stored whole. -/
theorem put_res {w W : World} {g : Nat} (h : BlkL g zeroP.cs W) (x : PN) (hb : Below w.heap.size w W) (hg : w.heap.size ≤ g) : ∃ W', W.setCells g 0 x.cs = W' ∧ W.there g 0 x.cs.length ∧ BlkL g x.cs W' ∧ Below w.heap.size w W' := by
  obtain ⟨W', h1, h2, h3, h4⟩ := put_mid h 0 x.cs (by rw [pn_len, pn_len]; omega) (by rw [pn_len]; decide) hb hg
  rw [set_res] at h3
  exact ⟨W', h1, h2, h3, h4⟩
theorem cells_mid {W : World} {g : Nat} {cs : List Value} (h : BlkL g cs W) (k : Nat) (ds : List Value) (hd : ∀ j v, ds[j]? = some v → cs[k + j]? = some v) : CellsAt W ⟨g, k, none⟩ ds := fun j v hv => by
  have := (h.1 (k + j) v (hd j v hv)).1
  have e : (⟨g, k, none⟩ : Addr).add j = ⟨g, k + j, none⟩ := by
    unfold Addr.add
    split <;> simp_all
  rw [e]
  exact this
theorem sb_lab {W : World} {g : Nat} {u : ByteArray} {t : Lab} (h : BlkL g (sbL u t) W) : CellsAt W ⟨g, 1, none⟩ (labM t) := cells_mid h 1 _ fun j v hv => by
  match j, hv with
  | 0, hv => exact hv
  | 1, hv => exact hv
  | 2, hv => exact hv
  | 3, hv => exact hv
theorem nd_lab {W : World} {g : Nat} {x : PN} (h : BlkL g x.cs W) : CellsAt W ⟨g, 2, none⟩ (labM x.n.label) := cells_mid h 2 _ fun j v hv => by
  match j, hv with
  | 0, hv => exact hv
  | 1, hv => exact hv
  | 2, hv => exact hv
  | 3, hv => exact hv
/-- What the functions hold meanwhile. -/
structure MS (w W : World) (u : ByteArray) (t : Lab) : Prop where
  bl : Below w.heap.size w W
  bx : BlkL w.heap.size (sbL u t) W
  rs : BlkL (w.heap.size + 1) zeroP.cs W
theorem MS.then {w W W' : World} {u : ByteArray} {t : Lab} (h : MS w W u t) (b : Below W.heap.size W W') : MS w W' u t := ⟨Below.then h.bl b, stab_blk _ _ _ _ h.bx b, stab_blk _ _ _ _ h.rs b⟩
abbrev zN : Array Value := #[.string ⟨#[]⟩, .bool false, .int .i64 0, .int .i64 0, .int .i64 0, .int .i64 0, .slice none 0 0, .int .i64 0, .int .i64 0, .int .i64 0, .int .i64 0, .slice none 0 0, .int .i64 0, .int .i64 0, .int .i64 0, .int .i64 0]
theorem way_succ {L : List Nod} {t : Lab} {ns : List ByteArray} {i : Nat} {n : ByteArray} (hx : ns[i]? = some n) : wayE L t (ns.take i) (ns.drop i) = if stepE t (findN L (pathB (ns.take i))) ≠ 0 then stepE t (findN L (pathB (ns.take i))) else wayE L t (ns.take (i + 1)) (ns.drop (i + 1)) := by
  have h1 := List.getElem?_eq_some_iff.1 hx
  rw [List.drop_eq_getElem_cons h1.1, h1.2, wayE, List.take_add_one, hx]
  rfl
theorem ms_start (w : World) (u : ByteArray) (t : Lab) : MS w ((w.alloc (.cells (sbL u t).toArray 73)).alloc (.cells zN 36)) u t := by
  have hb := alloc_below w (.cells (sbL u t).toArray 73)
  have hb2 := alloc_below (w.alloc (.cells (sbL u t).toArray 73)) (.cells zN 36)
  have h2 := blkl_alloc (w.alloc (.cells (sbL u t).toArray 73)) zN 36
  rw [World.size_alloc] at h2
  exact ⟨Below.then hb hb2, stab_blk _ _ _ _ (blkl_alloc w (sbL u t).toArray 73) hb2, h2⟩
set_option maxRecDepth 20000 in
set_option maxHeartbeats 8000000 in
theorem rsee_any (a : Option Addr) (cap : Nat) (l : List PN) (u : ByteArray) (t : Lab) (p : ByteArray) (hl : l.length ≤ 100000) (hp : p.size ≤ 100000) (w : World) (h : RowN w a l) :
    Calls Tryd.prog 32 #[.slice a l.length cap, .agg (sbL u t).toArray, .string p] w fun e w' => e = .returned (.tuple #[.agg (toldP l p (seeE (namesP l) t p)).cs.toArray, .int .i64 (seeE (namesP l) t p)]) ∧ Below w.heap.size w w' := by
  have hund := Tryd.underlying36
  have hundL := Tryd.underlying25
  have hsz : (Tryd.prog.info? 36).map (·.size) = some zeroP.cs.length := by kernel_rfl
  have hszN : (Tryd.prog.info? 36).map (·.size) = some 16 := by kernel_rfl
  have hsl : (Tryd.prog.info? 25).map (·.size) = some 4 := by kernel_rfl
  have kf := fun W q (r : RowN W a l) => rfindT_any a cap l q (by omega) W r
  have kc := rpcheck_any p hp
  obtain ⟨E, hE⟩ : ∃ E, seeE (namesP l) t p = E := ⟨_, rfl⟩
  rw [hE]
  have hE0 := hE
  replace hE0 : Aside (seeE (namesP l) t p = E) := hE0
  unfold seeE at hE
  obtain ⟨n, hn⟩ : ∃ n, l.length = n := ⟨_, rfl⟩
  rw [hn] at kf ⊢
  replace hn : Aside (l.length = n) := hn
  have h0 := ms_start w u t
  have hbad : ∀ {W : World} {E : Int}, E ≠ 0 → MS w W u t → ∃ W', W.setCells (w.heap.size + 1) 0 zeroP.cs = W' ∧ W.there (w.heap.size + 1) 0 zeroP.cs.length ∧ BlkL (w.heap.size + 1) zeroP.cs W' ∧ Below w.heap.size w W' ∧ toldP l p E = zeroP := fun {W E} hE hM => by
    obtain ⟨W', q1, q2, q3, q4⟩ := put_res hM.rs zeroP hM.bl (by omega)
    exact ⟨W', q1, q2, q3, q4, by unfold toldP; rw [if_neg hE]⟩
  obtain ⟨T, hT⟩ : ∃ T, toldP l p E = T := ⟨_, rfl⟩
  rw [hT]
  replace hT : Aside (toldP l p E = T) := hT
  generalize hce : checkOf p = ce at *
  go_enter Tryd.func32, Tryd.ntmps32
  go_wp2_with fail
  generalize (w.alloc (.cells (sbL u t).toArray 73)).alloc (.cells zN 36) = W0 at *
  refine (kc W0).mono ?_
  rintro e W1 ⟨rfl, hB1⟩
  have h1 := h0.then hB1
  clear kc h0 hB1
  by_cases hc0 : ce = 0
  rotate_left
  · rw [if_pos hc0] at hE
    subst hE
    obtain ⟨W2, hW2, hth, hk, hb, hz⟩ := hbad hc0 h1
    obtain rfl : T = zeroP := hT.out.symm.trans hz
    clear kf hbad hE0 hT
    as_aux_lemma =>
      go_wp2_with (first | (refine wpList_store_part rfl _ _ rfl (w.heap.size + 1) 0 rfl zeroP.cs rfl hth hsz (pn_one zeroP) hW2 ?_) | fail)
      refine bodyPost_ret (v := .tuple #[.agg zeroP.cs.toArray, .int .i64 ce]) (results_row2 rfl _ _ (w.heap.size + 1) rfl (.int .i64 ce) rfl zeroP.cs hk.range hund rfl hsz) rfl ?_
      exact ⟨rfl, hb⟩
  subst hc0
  rw [if_neg (by simp)] at hE
  obtain ⟨ns, hns, rfl, h78⟩ := check_path hce
  have hpp : partsOf (pathB ns) = ns := parts_path hns.flat
  rw [hpp] at hE
  have kp := rparts_any (pathB ns) hp W1
  rw [hpp] at kp
  obtain ⟨ln, hln⟩ : ∃ ln, ns.length = ln := ⟨_, rfl⟩
  go_wp2_with fail
  refine kp.mono ?_
  rintro e W2 ⟨pv, rfl, ho2, hB2⟩
  have h2 := h1.then hB2
  obtain ⟨pa, pcap, rfl⟩ := ho2.slice hln
  obtain ⟨B2, hB2e⟩ : ∃ B2, W1.heap.size = B2 := ⟨_, rfl⟩
  rw [hB2e] at ho2
  clear kp h1 hB2 hB2e hpp
  replace hce : Aside _ := hce
  have hln6 : ln ≤ 6 := by rw [← hln]; exact hns.1
  replace hE : Aside _ := hE
  replace hln : Aside (ns.length = ln) := hln
  go_wp2_with fail
  go_loopw [10, 11] (fun t10 t11 wr => ∃ i : Nat, i ≤ ln ∧ t11 = .int .i64 (i : Int) ∧ t10 = .string (pathB (ns.take i)) ∧ Aside (wayE (namesP l) t [] ns = wayE (namesP l) t (ns.take i) (ns.drop i)) ∧ MS w wr u t ∧ OwnS wr B2 (.slice pa ln pcap) ns) (fun _ t11 _ => ln - (Go.RowKit.intOf t11).toNat)
  case atStart => exact ⟨0, by omega, rfl, by rw [List.take_zero, pathB_nil]; rfl, rfl, h2, ho2⟩
  case round =>
    clear h2 ho2
    obtain ⟨i, hi, rfl, rfl, hway, hM, ho⟩ := hrel
    by_cases hlt : i < ln
    · obtain ⟨nm, hnm⟩ : ∃ nm, ns[i]? = some nm := ⟨_, List.getElem?_eq_getElem (by rw [hln.out]; exact hlt)⟩
      have hnn := hns.flat nm (List.mem_of_getElem? hnm)
      have hnsz := (name_size (hns.2 nm (List.mem_of_getElem? hnm))).2
      have hw2 := hway.out
      rw [way_succ hnm, find_names] at hw2
      have hjoin : joinOf (pathB (ns.take i)) nm = pathB (ns.take (i + 1)) := by
        rw [join_path nm (fun q hq => (hns.flat q (List.mem_of_mem_take hq)).2), List.take_add_one, hnm]
        rfl
      have hats : (pathB (ns.take i)).size ≤ 1000000 := by
        have : Names (ns.take i) := ⟨by rw [List.length_take]; have := hns.1; omega, fun q hq => hns.2 q (List.mem_of_mem_take hq)⟩
        have := names_size this
        omega
      have kj := rjoin_any (pathB (ns.take i)) nm hats (by omega)
      rw [hjoin] at kj
      have kb := kf wr (pathB (ns.take i)) (h.below hM.bl)
      obtain ⟨fr, hfr⟩ : ∃ fr, findP l (pathB (ns.take i)) = fr := ⟨_, rfl⟩
      rw [hfr] at kb hw2
      obtain ⟨cs, hcs⟩ : ∃ cs, foundCs fr = cs := ⟨_, rfl⟩
      have hlen : cs.length = 16 := by rw [← hcs]; rfl
      have hone : ∀ v ∈ cs, v.oneCell' = true := by rw [← hcs]; exact pn_one _
      have hszc : (Tryd.prog.info? 36).map (·.size) = some cs.length := by rw [hlen]; exact hszN
      rw [hcs] at kb
      obtain ⟨at_, hat⟩ : ∃ at_, pathB (ns.take i) = at_ := ⟨_, rfl⟩
      rw [hat] at kb kj ⊢
      have i1 : (i : Int) < (ln : Int) := by omega
      clear hway hat hjoin hats hfr
      replace hw2 : Aside _ := hw2
      go_wp2_with fail
      refine kb.mono ?_
      rintro e W3 ⟨rfl, hB3⟩
      have hM3 := hM.then hB3
      obtain ⟨W4, hW4, hth4, hbn, hB4⟩ := put_new W3 zN 36 cs (by rw [hlen]; rfl) (by omega)
      have hM4 := hM3.then hB4
      have hB34 := Below.then hB3 hB4
      have ho4 := ho.below hB34
      clear kb hM hM3 hB3 hB4 ho
      cases fr with
      | none =>
        obtain rfl : E = 2 := by
          have q := hw2.out
          rw [show stepE t (Option.map (fun x => x.n) (none : Option PN)) = 2 from rfl, if_pos (by decide)] at q
          rw [← hE.out, q]
          rfl
        clear hcs hw2
        obtain ⟨W9, hW9, hth9, hk9, hb9, hz9⟩ := hbad (W := W4) (E := 2) (by decide) hM4
        obtain rfl : T = zeroP := hT.out.symm.trans hz9
        clear kf hbad hE0 hT hE
        as_aux_lemma =>
          go_wp2_with (first | (refine wpList_store_row rfl _ _ rfl W3.heap.size rfl cs rfl hth4 hszc hone hW4 ?_) | (refine wpList_store_part rfl _ _ rfl (w.heap.size + 1) 0 rfl zeroP.cs rfl hth9 hsz (pn_one zeroP) hW9 ?_) | fail)
          refine bodyPost_ret (v := .tuple #[.agg zeroP.cs.toArray, .int .i64 2]) (results_row2 rfl _ _ (w.heap.size + 1) rfl (.int .i64 2) rfl zeroP.cs hk9.range hund rfl hsz) rfl ?_
          exact ⟨rfl, hb9⟩
      | some d =>
        have hbd : BlkL W3.heap.size d.cs W4 := by rw [show d.cs = cs from hcs]; exact hbn
        have hz1 := (hbd.1 1 _ rfl).1
        have hcb := sb_lab hM4.bx
        have hcn := nd_lab hbd
        replace hw2 : Aside (wayE (namesP l) t [] ns = if stepE t (some d.n) ≠ 0 then stepE t (some d.n) else wayE (namesP l) t (ns.take (i + 1)) (ns.drop (i + 1))) := hw2
        clear hbd hbn hcs
        cases hd : d.n.dir
        · rw [hd] at hz1
          obtain rfl : E = 3 := by
            have q := hw2.out
            rw [show stepE t (some d.n) = 3 from by unfold stepE; simp [hd], if_pos (by decide)] at q
            rw [← hE.out, q]
            rfl
          clear hw2 hcb hcn
          obtain ⟨W9, hW9, hth9, hk9, hb9, hz9⟩ := hbad (W := W4) (E := 3) (by decide) hM4
          obtain rfl : T = zeroP := hT.out.symm.trans hz9
          clear kf hbad hE0 hT hE
          as_aux_lemma =>
            go_wp2_with (first | (refine wpList_store_row rfl _ _ rfl W3.heap.size rfl cs rfl hth4 hszc hone hW4 ?_) | (refine wpList_store_part rfl _ _ rfl (w.heap.size + 1) 0 rfl zeroP.cs rfl hth9 hsz (pn_one zeroP) hW9 ?_) | fail)
            refine bodyPost_ret (v := .tuple #[.agg zeroP.cs.toArray, .int .i64 3]) (results_row2 rfl _ _ (w.heap.size + 1) rfl (.int .i64 3) rfl zeroP.cs hk9.range hund rfl hsz) rfl ?_
            exact ⟨rfl, hb9⟩
        · rw [hd] at hz1
          have kv := rlover_any t d.n.label W4
          cases hr : rov t d.n.label
          · rw [hr] at kv
            obtain rfl : E = 15 := by
              have q := hw2.out
              rw [show stepE t (some d.n) = 15 from by unfold stepE; simp [hd, hr], if_pos (by decide)] at q
              rw [← hE.out, q]
              rfl
            clear hw2
            go_wp2_with (first | (refine wpList_store_row rfl _ _ rfl W3.heap.size rfl cs rfl hth4 hszc hone hW4 ?_) | (refine wpList_load_at rfl _ rfl ⟨w.heap.size, 1, none⟩ rfl (labM t) hcb hundL rfl hsl ?_) | (refine wpList_load_at rfl _ rfl ⟨W3.heap.size, 2, none⟩ rfl (labM d.n.label) hcn hundL rfl hsl ?_) | fail)
            refine kv.mono ?_
            rintro e W5 ⟨rfl, hB5⟩
            have hM5 := hM4.then hB5
            clear kv hcb hcn hth4 hW4
            obtain ⟨W9, hW9, hth9, hk9, hb9, hz9⟩ := hbad (W := W5) (E := 15) (by decide) hM5
            obtain rfl : T = zeroP := hT.out.symm.trans hz9
            clear kf hbad hE0 hT hE
            as_aux_lemma =>
              go_wp2_with (first | (refine wpList_store_part rfl _ _ rfl (w.heap.size + 1) 0 rfl zeroP.cs rfl hth9 hsz (pn_one zeroP) hW9 ?_) | fail)
              refine bodyPost_ret (v := .tuple #[.agg zeroP.cs.toArray, .int .i64 15]) (results_row2 rfl _ _ (w.heap.size + 1) rfl (.int .i64 15) rfl zeroP.cs hk9.range hund rfl hsz) rfl ?_
              exact ⟨rfl, hb9⟩
          · rw [hr] at kv
            have hw3 : Aside (wayE (namesP l) t [] ns = wayE (namesP l) t (ns.take (i + 1)) (ns.drop (i + 1))) := by
              have q := hw2.out
              rw [show stepE t (some d.n) = 0 from by unfold stepE; simp [hd, hr], if_neg (by simp)] at q
              exact q
            clear hw2
            go_wp2_with (first | (refine wpList_store_row rfl _ _ rfl W3.heap.size rfl cs rfl hth4 hszc hone hW4 ?_) | (refine wpList_load_at rfl _ rfl ⟨w.heap.size, 1, none⟩ rfl (labM t) hcb hundL rfl hsl ?_) | (refine wpList_load_at rfl _ rfl ⟨W3.heap.size, 2, none⟩ rfl (labM d.n.label) hcn hundL rfl hsl ?_) | fail)
            refine kv.mono ?_
            rintro e W5 ⟨rfl, hB5⟩
            have hM5 := hM4.then hB5
            have ho5 := ho4.below hB5
            obtain ⟨g5, c5, hv5, hc5, _, _⟩ := ho5.at hln.out hnm
            injection hv5 with q1 q2 q3
            subst q1 q3
            clear kv hcb hcn hth4 hW4 hM4 ho4
            go_wp2_with fail
            refine (kj W5).mono ?_
            rintro e w6 ⟨rfl, hw6⟩
            replace hw6 := hw6.symm
            subst hw6
            go_wp2_with fail
            exact ⟨⟨i + 1, by omega, by simp, rfl, hw3, hM5, ho5⟩, by simp [Go.RowKit.intOf]; omega⟩
    · obtain rfl : i = ln := by omega
      have hw0 : wayE (namesP l) t [] ns = 0 := by
        have q := hway.out
        rw [List.drop_eq_nil_of_le (by rw [hln.out]; exact Nat.le_refl _)] at q
        rw [q]
        rfl
      have hE2 := hE.out
      rw [hw0, if_neg (by simp), find_names] at hE2
      have kb := kf wr (pathB ns) (h.below hM.bl)
      obtain ⟨fr, hfr⟩ : ∃ fr, findP l (pathB ns) = fr := ⟨_, rfl⟩
      rw [hfr] at kb hE2
      have hTT := hT.out
      unfold toldP at hTT
      rw [hfr] at hTT
      replace hTT : Aside _ := hTT
      obtain ⟨cs, hcs⟩ : ∃ cs, foundCs fr = cs := ⟨_, rfl⟩
      have hlen : cs.length = 16 := by rw [← hcs]; rfl
      have hone : ∀ v ∈ cs, v.oneCell' = true := by rw [← hcs]; exact pn_one _
      have hszc : (Tryd.prog.info? 36).map (·.size) = some cs.length := by rw [hlen]; exact hszN
      rw [hcs] at kb
      obtain ⟨pp, hppe⟩ : ∃ pp, pathB ns = pp := ⟨_, rfl⟩
      rw [hppe] at kb ⊢
      replace hppe : Aside (pathB ns = pp) := hppe
      have i1 : ¬ (i : Int) < (i : Int) := by omega
      clear hway hw0 hfr
      go_wp2_with fail
      refine kb.mono ?_
      rintro e W3 ⟨rfl, hB3⟩
      have hM3 := hM.then hB3
      obtain ⟨W4, hW4, hth4, hbn, hB4⟩ := put_new W3 zN 36 cs (by rw [hlen]; rfl) (by omega)
      have hM4 := hM3.then hB4
      clear kb hM hM3 hB3 hB4 ho
      cases fr with
      | none =>
        obtain rfl : E = 2 := hE2.symm
        clear hcs hE2 hTT
        obtain ⟨W9, hW9, hth9, hk9, hb9, hz9⟩ := hbad (W := W4) (E := 2) (by decide) hM4
        obtain rfl : T = zeroP := hT.out.symm.trans hz9
        clear kf hbad hE0 hT hE
        as_aux_lemma =>
          go_wp2_with (first | (refine wpList_store_row rfl _ _ rfl W3.heap.size rfl cs rfl hth4 hszc hone hW4 ?_) | (refine wpList_store_part rfl _ _ rfl (w.heap.size + 1) 0 rfl zeroP.cs rfl hth9 hsz (pn_one zeroP) hW9 ?_) | fail)
          refine bodyPost_ret (v := .tuple #[.agg zeroP.cs.toArray, .int .i64 2]) (results_row2 rfl _ _ (w.heap.size + 1) rfl (.int .i64 2) rfl zeroP.cs hk9.range hund rfl hsz) rfl ?_
          exact ⟨rfl, hb9⟩
      | some d =>
        obtain rfl : E = 0 := hE2.symm
        obtain rfl : T = d := by
          have q := hTT.out
          rw [if_pos rfl] at q
          exact q.symm
        obtain rfl : T.cs = cs := hcs
        obtain ⟨W9, hW9, hth9, hk9, hb9⟩ := put_res hM4.rs T hM4.bl (by omega)
        have hrn := hbn.range
        clear kf hbad hE0 hT hE hE2 hTT
        as_aux_lemma =>
          go_wp2_with (first | (refine wpList_store_row rfl _ _ rfl W3.heap.size rfl T.cs rfl hth4 hszc hone hW4 ?_) | (refine wpList_load_row rfl _ rfl W3.heap.size rfl T.cs hrn hund rfl hszc ?_) | (refine wpList_store_part rfl _ _ rfl (w.heap.size + 1) 0 rfl T.cs rfl hth9 hszc hone hW9 ?_) | fail)
          refine bodyPost_ret (v := .tuple #[.agg T.cs.toArray, .int .i64 0]) (results_row2 rfl _ _ (w.heap.size + 1) rfl (.int .i64 0) rfl T.cs hk9.range hund rfl hszc) rfl ?_
          exact ⟨rfl, hb9⟩
end Go.Proofs.YtapgjdmnlkedgaaDoor

/-! WHAT A SUBJECT IS TOLD: the document's own May and Change (donjonref13). Written by mk_monref.py. -/
namespace Go.Proofs.YtapgjdmnlkedgaaDoor
open Go.RowKit
set_option maxRecDepth 8000
set_option linter.unusedSimpArgs false
set_option linter.unusedVariables false

theorem acl_sorted {l : List Gr} (h : chkA l = 0) : Sorted l ∧ l.length ≤ 1000 := by
  unfold chkA at h
  by_cases h1 : 4 < l.length
  · rw [if_pos h1] at h; cases h
  · rw [if_neg h1] at h
    by_cases h2 : okAcl ⟨#[]⟩ l = true
    · exact ⟨(okL_sorted l _ h2).1, by omega⟩
    · rw [if_neg h2] at h; cases h
theorem see_find {l : List PN} {t : Lab} {p : ByteArray} (h : seeE (namesP l) t p = 0) : ∃ d, findP l p = some d := by
  obtain ⟨x, hx⟩ := (see_zero.1 h).2.2
  rw [find_names] at hx
  cases hf : findP l p with
  | none => rw [hf] at hx; cases hx
  | some d => exact ⟨d, rfl⟩
set_option maxRecDepth 20000 in
set_option maxHeartbeats 8000000 in
theorem rmay_any (a : Option Addr) (cap : Nat) (l : List PN) (u : ByteArray) (t : Lab) (p : ByteArray) (m : Int) (hl : l.length ≤ 100000) (hp : p.size ≤ 100000) (hA : ∀ x ∈ l, chkA x.n.acl = 0) (w : World) (h : RowN w a l) :
    Calls Tryd.prog 33 #[.slice a l.length cap, .agg (sbL u t).toArray, .string p, .int .i64 m] w fun e w' => e = .returned (.tuple #[.agg (toldP l p (mayE (namesP l) u t p m)).cs.toArray, .int .i64 (mayE (namesP l) u t p m)]) ∧ Below w.heap.size w w' := by
  have hund := Tryd.underlying36
  have hundL := Tryd.underlying25
  have hundS := Tryd.underlying73
  have hsz : (Tryd.prog.info? 36).map (·.size) = some zeroP.cs.length := by kernel_rfl
  have hszN : (Tryd.prog.info? 36).map (·.size) = some 16 := by kernel_rfl
  have hsl : (Tryd.prog.info? 25).map (·.size) = some 4 := by kernel_rfl
  have hss : (Tryd.prog.info? 73).map (·.size) = some 5 := by kernel_rfl
  have ks := fun W (r : RowN W a l) => rsee_any a cap l u t p hl hp W r
  obtain ⟨E, hE⟩ : ∃ E, mayE (namesP l) u t p m = E := ⟨_, rfl⟩
  rw [hE]
  unfold mayE at hE
  obtain ⟨n, hn⟩ : ∃ n, l.length = n := ⟨_, rfl⟩
  rw [hn] at ks ⊢
  replace hn : Aside (l.length = n) := hn
  have h0 := ms_start w u t
  have hbad : ∀ {W : World} {E : Int}, E ≠ 0 → MS w W u t → ∃ W', W.setCells (w.heap.size + 1) 0 zeroP.cs = W' ∧ W.there (w.heap.size + 1) 0 zeroP.cs.length ∧ BlkL (w.heap.size + 1) zeroP.cs W' ∧ Below w.heap.size w W' ∧ toldP l p E = zeroP := fun {W E} hE hM => by
    obtain ⟨W', q1, q2, q3, q4⟩ := put_res hM.rs zeroP hM.bl (by omega)
    exact ⟨W', q1, q2, q3, q4, by unfold toldP; rw [if_neg hE]⟩
  obtain ⟨T, hT⟩ : ∃ T, toldP l p E = T := ⟨_, rfl⟩
  rw [hT]
  replace hT : Aside (toldP l p E = T) := hT
  by_cases hm : m < 1 ∨ 7 < m
  · rw [if_pos hm] at hE
    subst hE
    clear ks
    by_cases hm1 : m < 1
    · go_enter Tryd.func33, Tryd.ntmps33
      go_upto_region 2 with fail
      generalize (w.alloc (.cells (sbL u t).toArray 73)).alloc (.cells zN 36) = W0 at *
      obtain ⟨W9, hW9, hth9, hk9, hb9, hz9⟩ := hbad (W := W0) (E := 1) (by decide) h0
      obtain rfl : T = zeroP := hT.out.symm.trans hz9
      clear hbad hT
      as_aux_lemma =>
        go_wp2_with (first | (refine wpList_store_part rfl _ _ rfl (w.heap.size + 1) 0 rfl zeroP.cs rfl hth9 hsz (pn_one zeroP) hW9 ?_) | fail)
        refine bodyPost_ret (v := .tuple #[.agg zeroP.cs.toArray, .int .i64 1]) (results_row2 rfl _ _ (w.heap.size + 1) rfl (.int .i64 1) rfl zeroP.cs hk9.range hund rfl hsz) rfl ?_
        exact ⟨rfl, hb9⟩
    · have hm7 : 7 < m := by omega
      go_enter Tryd.func33, Tryd.ntmps33
      go_upto_region 2 with fail
      generalize (w.alloc (.cells (sbL u t).toArray 73)).alloc (.cells zN 36) = W0 at *
      obtain ⟨W9, hW9, hth9, hk9, hb9, hz9⟩ := hbad (W := W0) (E := 1) (by decide) h0
      obtain rfl : T = zeroP := hT.out.symm.trans hz9
      clear hbad hT
      as_aux_lemma =>
        go_wp2_with (first | (refine wpList_store_part rfl _ _ rfl (w.heap.size + 1) 0 rfl zeroP.cs rfl hth9 hsz (pn_one zeroP) hW9 ?_) | fail)
        refine bodyPost_ret (v := .tuple #[.agg zeroP.cs.toArray, .int .i64 1]) (results_row2 rfl _ _ (w.heap.size + 1) rfl (.int .i64 1) rfl zeroP.cs hk9.range hund rfl hsz) rfl ?_
        exact ⟨rfl, hb9⟩
  rw [if_neg hm] at hE
  have hm1 : ¬ m < 1 := by omega
  have hm7 : ¬ 7 < m := by omega
  clear hm
  obtain ⟨SE, hSE⟩ : ∃ SE, seeE (namesP l) t p = SE := ⟨_, rfl⟩
  rw [hSE] at hE ks
  obtain ⟨cs, hcs⟩ : ∃ cs, (toldP l p SE).cs = cs := ⟨_, rfl⟩
  have hlen : cs.length = 16 := by rw [← hcs]; rfl
  have hone : ∀ v ∈ cs, v.oneCell' = true := by rw [← hcs]; exact pn_one _
  have hszc : (Tryd.prog.info? 36).map (·.size) = some cs.length := by rw [hlen]; exact hszN
  rw [hcs] at ks
  replace hcs : Aside ((toldP l p SE).cs = cs) := hcs
  have hrs := h0.bx.range
  go_enter Tryd.func33, Tryd.ntmps33
  go_upto_region 3 with fail
  generalize (w.alloc (.cells (sbL u t).toArray 73)).alloc (.cells zN 36) = W0 at *
  go_wp2_with (first | (refine wpList_load_row rfl _ rfl w.heap.size rfl (sbL u t) hrs hundS rfl hss ?_) | fail)
  refine (ks W0 (h.below h0.bl)).mono ?_
  rintro e W2 ⟨rfl, hB2⟩
  have hM2 := h0.then hB2
  obtain ⟨W4, hW4, hth4, hbn, hB4⟩ := put_new W2 zN 36 cs (by rw [hlen]; rfl) (by omega)
  have hM4 := hM2.then hB4
  clear ks h0 hrs hB2 hM2 hB4
  by_cases hs0 : SE = 0
  rotate_left
  · rw [if_pos hs0] at hE
    subst hE
    obtain ⟨W9, hW9, hth9, hk9, hb9, hz9⟩ := hbad (W := W4) (E := SE) hs0 hM4
    obtain rfl : T = zeroP := hT.out.symm.trans hz9
    clear hbad hT
    as_aux_lemma =>
      go_wp2_with (first | (refine wpList_store_row rfl _ _ rfl W2.heap.size rfl cs rfl hth4 hszc hone hW4 ?_) | (refine wpList_store_part rfl _ _ rfl (w.heap.size + 1) 0 rfl zeroP.cs rfl hth9 hsz (pn_one zeroP) hW9 ?_) | fail)
      refine bodyPost_ret (v := .tuple #[.agg zeroP.cs.toArray, .int .i64 SE]) (results_row2 rfl _ _ (w.heap.size + 1) rfl (.int .i64 SE) rfl zeroP.cs hk9.range hund rfl hsz) rfl ?_
      exact ⟨rfl, hb9⟩
  subst hs0
  obtain ⟨d, hfd⟩ := see_find hSE
  rw [if_neg (by simp), find_names, hfd] at hE
  have hTd : Aside (toldP l p 0 = T → T = d) := fun q => by
    unfold toldP at q
    rw [if_pos rfl, hfd] at q
    exact q.symm
  obtain rfl : d.cs = cs := by
    have q := hcs.out
    unfold toldP at q
    rw [if_pos rfl, hfd] at q
    exact q
  have hdm : d ∈ l := by
    unfold findP at hfd
    exact List.mem_of_find?_eq_some hfd
  obtain ⟨hso, hac⟩ := acl_sorted (hA d hdm)
  have hda := (h.p d hdm).below hM4.bl
  simp only [Option.map_some, Option.getD_some] at hE
  unfold modE at hE
  obtain ⟨A5, hA5⟩ : ∃ A5, bits .and .i64 m 5 = A5 := ⟨_, rfl⟩
  obtain ⟨A2, hA2⟩ : ∃ A2, bits .and .i64 m 2 = A2 := ⟨_, rfl⟩
  rw [hA5, hA2] at hE
  go_upto_region 6 with (first | (refine wpList_store_row rfl _ _ rfl W2.heap.size rfl d.cs rfl hth4 hszc hone hW4 ?_) | fail)
  generalize W2.heap.size = bn at *
  clear hth4 hW4 hSE hfd hcs hA h hdm
  have hcb := sb_lab hM4.bx
  have hcn := nd_lab hbn
  cases hq5 : (A5 != 0)
  · rw [hq5, if_neg (fun q => by cases q.1)] at hE
    go_upto_region 8 with fail
    have hcb2 := sb_lab hM4.bx
    have hcn2 := nd_lab hbn
    have hnq : ∀ X, (binOp .neq 25 (.agg (labM t).toArray) (.agg (labM d.n.label).toArray)).run Tryd.prog X = .ok (.bool (!labEq t d.n.label)) X := run_neq_lab t d.n.label
    cases hq2 : (A2 != 0)
    · rw [hq2, if_neg (fun q => by cases q.1)] at hE
      have hz6 := (hbn.1 6 _ rfl).1
      have hz0 := (hM4.bx.1 0 _ rfl).1
      have km := rmodes_any W4 d.aa d.ca d.n.acl u hso hda.g hac
      go_wp2_with fail
      refine km.mono ?_
      rintro e w7 ⟨rfl, hw7⟩
      replace hw7 := hw7.symm
      subst hw7
      clear km
      obtain ⟨MM, hMM⟩ : ∃ MM, modesL d.n.acl u = MM := ⟨_, rfl⟩
      rw [hMM] at hE ⊢
      clear hMM
      obtain ⟨AM, hAM⟩ : ∃ AM, bits .and .i64 MM m = AM := ⟨_, rfl⟩
      rw [hAM] at hE
      cases hq : (AM != m)
      · rw [hq, if_neg (by decide)] at hE
        subst hE
        obtain rfl : T = d := hTd.out hT.out
        obtain ⟨W9, hW9, hth9, hk9, hb9⟩ := put_res hM4.rs T hM4.bl (by omega)
        have hrn := hbn.range
        have hszd : (Tryd.prog.info? 36).map (·.size) = some T.cs.length := by rw [pn_len]; exact hszN
        clear hbad hT hTd
        as_aux_lemma =>
          go_wp2_with (first | (refine wpList_load_row rfl _ rfl bn rfl T.cs hrn hund rfl hszd ?_) | (refine wpList_store_part rfl _ _ rfl (w.heap.size + 1) 0 rfl T.cs rfl hth9 hszd (pn_one T) hW9 ?_) | fail)
          refine bodyPost_ret (v := .tuple #[.agg T.cs.toArray, .int .i64 0]) (results_row2 rfl _ _ (w.heap.size + 1) rfl (.int .i64 0) rfl T.cs hk9.range hund rfl hszd) rfl ?_
          exact ⟨rfl, hb9⟩
      · rw [hq, if_pos rfl] at hE
        subst hE
        obtain ⟨W9, hW9, hth9, hk9, hb9, hz9⟩ := hbad (W := W4) (E := 16) (by decide) hM4
        obtain rfl : T = zeroP := hT.out.symm.trans hz9
        clear hbad hT
        as_aux_lemma =>
          go_wp2_with (first | (refine wpList_store_part rfl _ _ rfl (w.heap.size + 1) 0 rfl zeroP.cs rfl hth9 hsz (pn_one zeroP) hW9 ?_) | fail)
          refine bodyPost_ret (v := .tuple #[.agg zeroP.cs.toArray, .int .i64 16]) (results_row2 rfl _ _ (w.heap.size + 1) rfl (.int .i64 16) rfl zeroP.cs hk9.range hund rfl hsz) rfl ?_
          exact ⟨rfl, hb9⟩
    · cases hle : labEq t d.n.label
      · rw [hle] at hnq
        rw [hq2, hle, if_pos ⟨rfl, rfl⟩] at hE
        subst hE
        obtain ⟨W9, hW9, hth9, hk9, hb9, hz9⟩ := hbad (W := W4) (E := 15) (by decide) hM4
        obtain rfl : T = zeroP := hT.out.symm.trans hz9
        clear hbad hT
        as_aux_lemma =>
          go_wp2_with (first | (refine wpList_load_atg (by rfl) _ rfl ⟨w.heap.size, 1, none⟩ rfl (labM t) hcb2 hundL rfl hsl ?_) | (refine wpList_load_atg (by rfl) _ rfl ⟨bn, 2, none⟩ rfl (labM d.n.label) hcn2 hundL rfl hsl ?_) | (refine wpList_store_part rfl _ _ rfl (w.heap.size + 1) 0 rfl zeroP.cs rfl hth9 hsz (pn_one zeroP) hW9 ?_) | fail)
          refine bodyPost_ret (v := .tuple #[.agg zeroP.cs.toArray, .int .i64 15]) (results_row2 rfl _ _ (w.heap.size + 1) rfl (.int .i64 15) rfl zeroP.cs hk9.range hund rfl hsz) rfl ?_
          exact ⟨rfl, hb9⟩
      · rw [hle] at hnq
        rw [hle, if_neg (fun q => by cases q.2)] at hE
        go_upto_region 10 with (first | (refine wpList_load_atg (by rfl) _ rfl ⟨w.heap.size, 1, none⟩ rfl (labM t) hcb2 hundL rfl hsl ?_) | (refine wpList_load_atg (by rfl) _ rfl ⟨bn, 2, none⟩ rfl (labM d.n.label) hcn2 hundL rfl hsl ?_) |  fail)
        have hz6 := (hbn.1 6 _ rfl).1
        have hz0 := (hM4.bx.1 0 _ rfl).1
        have km := rmodes_any W4 d.aa d.ca d.n.acl u hso hda.g hac
        go_wp2_with fail
        refine km.mono ?_
        rintro e w7 ⟨rfl, hw7⟩
        replace hw7 := hw7.symm
        subst hw7
        clear km
        obtain ⟨MM, hMM⟩ : ∃ MM, modesL d.n.acl u = MM := ⟨_, rfl⟩
        rw [hMM] at hE ⊢
        clear hMM
        obtain ⟨AM, hAM⟩ : ∃ AM, bits .and .i64 MM m = AM := ⟨_, rfl⟩
        rw [hAM] at hE
        cases hq : (AM != m)
        · rw [hq, if_neg (by decide)] at hE
          subst hE
          obtain rfl : T = d := hTd.out hT.out
          obtain ⟨W9, hW9, hth9, hk9, hb9⟩ := put_res hM4.rs T hM4.bl (by omega)
          have hrn := hbn.range
          have hszd : (Tryd.prog.info? 36).map (·.size) = some T.cs.length := by rw [pn_len]; exact hszN
          clear hbad hT hTd
          as_aux_lemma =>
            go_wp2_with (first | (refine wpList_load_row rfl _ rfl bn rfl T.cs hrn hund rfl hszd ?_) | (refine wpList_store_part rfl _ _ rfl (w.heap.size + 1) 0 rfl T.cs rfl hth9 hszd (pn_one T) hW9 ?_) | fail)
            refine bodyPost_ret (v := .tuple #[.agg T.cs.toArray, .int .i64 0]) (results_row2 rfl _ _ (w.heap.size + 1) rfl (.int .i64 0) rfl T.cs hk9.range hund rfl hszd) rfl ?_
            exact ⟨rfl, hb9⟩
        · rw [hq, if_pos rfl] at hE
          subst hE
          obtain ⟨W9, hW9, hth9, hk9, hb9, hz9⟩ := hbad (W := W4) (E := 16) (by decide) hM4
          obtain rfl : T = zeroP := hT.out.symm.trans hz9
          clear hbad hT
          as_aux_lemma =>
            go_wp2_with (first | (refine wpList_store_part rfl _ _ rfl (w.heap.size + 1) 0 rfl zeroP.cs rfl hth9 hsz (pn_one zeroP) hW9 ?_) | fail)
            refine bodyPost_ret (v := .tuple #[.agg zeroP.cs.toArray, .int .i64 16]) (results_row2 rfl _ _ (w.heap.size + 1) rfl (.int .i64 16) rfl zeroP.cs hk9.range hund rfl hsz) rfl ?_
            exact ⟨rfl, hb9⟩
  · have kv := rlover_any t d.n.label W4
    cases hr : rov t d.n.label
    · rw [hr] at kv
      rw [hq5, hr, if_pos ⟨rfl, rfl⟩] at hE
      subst hE
      go_wp2_with (first | (refine wpList_load_atg (by rfl) _ rfl ⟨w.heap.size, 1, none⟩ rfl (labM t) hcb hundL rfl hsl ?_) | (refine wpList_load_atg (by rfl) _ rfl ⟨bn, 2, none⟩ rfl (labM d.n.label) hcn hundL rfl hsl ?_) | fail)
      refine kv.mono ?_
      rintro e W5 ⟨rfl, hB5⟩
      have hM5 := hM4.then hB5
      clear kv hcb hcn
      obtain ⟨W9, hW9, hth9, hk9, hb9, hz9⟩ := hbad (W := W5) (E := 15) (by decide) hM5
      obtain rfl : T = zeroP := hT.out.symm.trans hz9
      clear hbad hT
      as_aux_lemma =>
        go_wp2_with (first | (refine wpList_store_part rfl _ _ rfl (w.heap.size + 1) 0 rfl zeroP.cs rfl hth9 hsz (pn_one zeroP) hW9 ?_) | fail)
        refine bodyPost_ret (v := .tuple #[.agg zeroP.cs.toArray, .int .i64 15]) (results_row2 rfl _ _ (w.heap.size + 1) rfl (.int .i64 15) rfl zeroP.cs hk9.range hund rfl hsz) rfl ?_
        exact ⟨rfl, hb9⟩
    · rw [hr] at kv
      rw [hr, if_neg (fun q => by cases q.2)] at hE
      go_wp2_with (first | (refine wpList_load_atg (by rfl) _ rfl ⟨w.heap.size, 1, none⟩ rfl (labM t) hcb hundL rfl hsl ?_) | (refine wpList_load_atg (by rfl) _ rfl ⟨bn, 2, none⟩ rfl (labM d.n.label) hcn hundL rfl hsl ?_) | fail)
      refine kv.mono ?_
      rintro e W5 ⟨rfl, hB5⟩
      have hM5 := hM4.then hB5
      have hbn5 := stab_blk _ _ _ _ hbn hB5
      have hda5 := hda.below hB5
      clear kv hcb hcn hM4 hbn hda
      go_upto_region 8 with fail
      have hcb2 := sb_lab hM5.bx
      have hcn2 := nd_lab hbn5
      have hnq : ∀ X, (binOp .neq 25 (.agg (labM t).toArray) (.agg (labM d.n.label).toArray)).run Tryd.prog X = .ok (.bool (!labEq t d.n.label)) X := run_neq_lab t d.n.label
      cases hq2 : (A2 != 0)
      · rw [hq2, if_neg (fun q => by cases q.1)] at hE
        have hz6 := (hbn5.1 6 _ rfl).1
        have hz0 := (hM5.bx.1 0 _ rfl).1
        have km := rmodes_any W5 d.aa d.ca d.n.acl u hso hda5.g hac
        go_wp2_with fail
        refine km.mono ?_
        rintro e w7 ⟨rfl, hw7⟩
        replace hw7 := hw7.symm
        subst hw7
        clear km
        obtain ⟨MM, hMM⟩ : ∃ MM, modesL d.n.acl u = MM := ⟨_, rfl⟩
        rw [hMM] at hE ⊢
        clear hMM
        obtain ⟨AM, hAM⟩ : ∃ AM, bits .and .i64 MM m = AM := ⟨_, rfl⟩
        rw [hAM] at hE
        cases hq : (AM != m)
        · rw [hq, if_neg (by decide)] at hE
          subst hE
          obtain rfl : T = d := hTd.out hT.out
          obtain ⟨W9, hW9, hth9, hk9, hb9⟩ := put_res hM5.rs T hM5.bl (by omega)
          have hrn := hbn5.range
          have hszd : (Tryd.prog.info? 36).map (·.size) = some T.cs.length := by rw [pn_len]; exact hszN
          clear hbad hT hTd
          as_aux_lemma =>
            go_wp2_with (first | (refine wpList_load_row rfl _ rfl bn rfl T.cs hrn hund rfl hszd ?_) | (refine wpList_store_part rfl _ _ rfl (w.heap.size + 1) 0 rfl T.cs rfl hth9 hszd (pn_one T) hW9 ?_) | fail)
            refine bodyPost_ret (v := .tuple #[.agg T.cs.toArray, .int .i64 0]) (results_row2 rfl _ _ (w.heap.size + 1) rfl (.int .i64 0) rfl T.cs hk9.range hund rfl hszd) rfl ?_
            exact ⟨rfl, hb9⟩
        · rw [hq, if_pos rfl] at hE
          subst hE
          obtain ⟨W9, hW9, hth9, hk9, hb9, hz9⟩ := hbad (W := W5) (E := 16) (by decide) hM5
          obtain rfl : T = zeroP := hT.out.symm.trans hz9
          clear hbad hT
          as_aux_lemma =>
            go_wp2_with (first | (refine wpList_store_part rfl _ _ rfl (w.heap.size + 1) 0 rfl zeroP.cs rfl hth9 hsz (pn_one zeroP) hW9 ?_) | fail)
            refine bodyPost_ret (v := .tuple #[.agg zeroP.cs.toArray, .int .i64 16]) (results_row2 rfl _ _ (w.heap.size + 1) rfl (.int .i64 16) rfl zeroP.cs hk9.range hund rfl hsz) rfl ?_
            exact ⟨rfl, hb9⟩
      · cases hle : labEq t d.n.label
        · rw [hle] at hnq
          rw [hq2, hle, if_pos ⟨rfl, rfl⟩] at hE
          subst hE
          obtain ⟨W9, hW9, hth9, hk9, hb9, hz9⟩ := hbad (W := W5) (E := 15) (by decide) hM5
          obtain rfl : T = zeroP := hT.out.symm.trans hz9
          clear hbad hT
          as_aux_lemma =>
            go_wp2_with (first | (refine wpList_load_atg (by rfl) _ rfl ⟨w.heap.size, 1, none⟩ rfl (labM t) hcb2 hundL rfl hsl ?_) | (refine wpList_load_atg (by rfl) _ rfl ⟨bn, 2, none⟩ rfl (labM d.n.label) hcn2 hundL rfl hsl ?_) | (refine wpList_store_part rfl _ _ rfl (w.heap.size + 1) 0 rfl zeroP.cs rfl hth9 hsz (pn_one zeroP) hW9 ?_) | fail)
            refine bodyPost_ret (v := .tuple #[.agg zeroP.cs.toArray, .int .i64 15]) (results_row2 rfl _ _ (w.heap.size + 1) rfl (.int .i64 15) rfl zeroP.cs hk9.range hund rfl hsz) rfl ?_
            exact ⟨rfl, hb9⟩
        · rw [hle] at hnq
          rw [hle, if_neg (fun q => by cases q.2)] at hE
          go_upto_region 10 with (first | (refine wpList_load_atg (by rfl) _ rfl ⟨w.heap.size, 1, none⟩ rfl (labM t) hcb2 hundL rfl hsl ?_) | (refine wpList_load_atg (by rfl) _ rfl ⟨bn, 2, none⟩ rfl (labM d.n.label) hcn2 hundL rfl hsl ?_) |  fail)
          have hz6 := (hbn5.1 6 _ rfl).1
          have hz0 := (hM5.bx.1 0 _ rfl).1
          have km := rmodes_any W5 d.aa d.ca d.n.acl u hso hda5.g hac
          go_wp2_with fail
          refine km.mono ?_
          rintro e w7 ⟨rfl, hw7⟩
          replace hw7 := hw7.symm
          subst hw7
          clear km
          obtain ⟨MM, hMM⟩ : ∃ MM, modesL d.n.acl u = MM := ⟨_, rfl⟩
          rw [hMM] at hE ⊢
          clear hMM
          obtain ⟨AM, hAM⟩ : ∃ AM, bits .and .i64 MM m = AM := ⟨_, rfl⟩
          rw [hAM] at hE
          cases hq : (AM != m)
          · rw [hq, if_neg (by decide)] at hE
            subst hE
            obtain rfl : T = d := hTd.out hT.out
            obtain ⟨W9, hW9, hth9, hk9, hb9⟩ := put_res hM5.rs T hM5.bl (by omega)
            have hrn := hbn5.range
            have hszd : (Tryd.prog.info? 36).map (·.size) = some T.cs.length := by rw [pn_len]; exact hszN
            clear hbad hT hTd
            as_aux_lemma =>
              go_wp2_with (first | (refine wpList_load_row rfl _ rfl bn rfl T.cs hrn hund rfl hszd ?_) | (refine wpList_store_part rfl _ _ rfl (w.heap.size + 1) 0 rfl T.cs rfl hth9 hszd (pn_one T) hW9 ?_) | fail)
              refine bodyPost_ret (v := .tuple #[.agg T.cs.toArray, .int .i64 0]) (results_row2 rfl _ _ (w.heap.size + 1) rfl (.int .i64 0) rfl T.cs hk9.range hund rfl hszd) rfl ?_
              exact ⟨rfl, hb9⟩
          · rw [hq, if_pos rfl] at hE
            subst hE
            obtain ⟨W9, hW9, hth9, hk9, hb9, hz9⟩ := hbad (W := W5) (E := 16) (by decide) hM5
            obtain rfl : T = zeroP := hT.out.symm.trans hz9
            clear hbad hT
            as_aux_lemma =>
              go_wp2_with (first | (refine wpList_store_part rfl _ _ rfl (w.heap.size + 1) 0 rfl zeroP.cs rfl hth9 hsz (pn_one zeroP) hW9 ?_) | fail)
              refine bodyPost_ret (v := .tuple #[.agg zeroP.cs.toArray, .int .i64 16]) (results_row2 rfl _ _ (w.heap.size + 1) rfl (.int .i64 16) rfl zeroP.cs hk9.range hund rfl hsz) rfl ?_
              exact ⟨rfl, hb9⟩
end Go.Proofs.YtapgjdmnlkedgaaDoor

/-! LABELS IN BLOCKS OF THE LAW'S OWN, turned where they lie. For every stage from the twelfth on. -/
namespace Go.Proofs.YtapgjdmnlkedgaaDoor
open Go.RowKit
set_option maxRecDepth 8000
set_option linter.unusedSimpArgs false
set_option linter.unusedVariables false

abbrev lab4 (t : Lab) : List Value := [.int .i64 t.s, .int .i64 t.c, .int .i64 t.i, .int .i64 t.k]
theorem lab4_one (t : Lab) : ∀ v ∈ lab4 t, v.oneCell' = true := by
  intro v hv
  simp only [List.mem_cons, List.not_mem_nil, or_false] at hv
  rcases hv with rfl | rfl | rfl | rfl <;> rfl
theorem size_setCells (b : Nat) : ∀ (vs : List Value) (o : Nat) (w : World), (w.setCells b o vs).heap.size = w.heap.size
  | [], _, _ => rfl
  | v :: r, o, w => by
    show ((w.setCell ⟨b, o, none⟩ v).setCells b (o + 1) r).heap.size = _
    rw [size_setCells b r (o + 1)]
    simp
/-- Another block, behind a store. -/
theorem BlkL.other {g b o : Nat} {cs vs : List Value} {W W' : World} (h : BlkL g cs W) (hw : W.setCells b o vs = W') (hne : g ≠ b) : BlkL g cs W' := by
  subst hw
  exact ⟨h.1.same (heap_setCells_other hne vs o W), by rw [size_setCells]; exact h.2⟩
section
variable {ops : Array Oper} {o : Oper} {a : Act} {w : World} {Q : Exit → Act → World → Prop} {T : TypeId} {d : TypeDesc}
theorem step_load_row {K : Act → World → Prop} {E : Prop} (hg : o.guard = none) (x : Operand) (ho : o.op = .load T x) (b : Nat) (hx : a.eval x = .pointer (some ⟨b, 0, none⟩)) (cs : List Value) (hc : w.rangeAt b 0 cs)
    (hu : Tryd.prog.underlying T = some d) (hd : d.isRow = true) (hi : (Tryd.prog.info? T).map (·.size) = some cs.length) (hK : K (a.put o.dst (.agg cs.toArray)) w) :
    if Region.wanted o (yielded ops a.tmps) = true then Oper.wp Tryd.prog o a w K Q else E := by
  have hw : Region.wanted o (yielded ops a.tmps) = true := by simp [Region.wanted, hg]
  rw [if_pos hw]
  exact wp_load_mid T x ho b 0 hx cs d hc hu hd hi hK
end
end Go.Proofs.YtapgjdmnlkedgaaDoor

/-! WHAT A SUBJECT IS TOLD: the document's own Change (donjonref13). Written by mk_monchg.py. -/
namespace Go.Proofs.YtapgjdmnlkedgaaDoor
open Go.RowKit
set_option maxRecDepth 8000
set_option linter.unusedSimpArgs false
set_option linter.unusedVariables false

/-- The node that is told beside it. -/
def chgP (l : List PN) (p : ByteArray) (e : Int) : PN := toldP l (parentOf p) e
set_option maxRecDepth 20000 in
set_option maxHeartbeats 8000000 in
theorem rchg_any (a : Option Addr) (cap : Nat) (l : List PN) (u : ByteArray) (t : Lab) (p : ByteArray) (hl : l.length ≤ 100000) (hp : p.size ≤ 100000) (hA : ∀ x ∈ l, chkA x.n.acl = 0) (w : World) (h : RowN w a l) :
    Calls Tryd.prog 34 #[.slice a l.length cap, .agg (sbL u t).toArray, .string p] w fun e w' => e = .returned (.tuple #[.agg (chgP l p (chgE (namesP l) u t p)).cs.toArray, .int .i64 (chgE (namesP l) u t p)]) ∧ Below w.heap.size w w' := by
  have hund := Tryd.underlying36
  have hundL := Tryd.underlying25
  have hundS := Tryd.underlying73
  have hsz : (Tryd.prog.info? 36).map (·.size) = some zeroP.cs.length := by kernel_rfl
  have hszN : (Tryd.prog.info? 36).map (·.size) = some 16 := by kernel_rfl
  have hss : (Tryd.prog.info? 73).map (·.size) = some 5 := by kernel_rfl
  have kc := rpcheck_any p hp
  have kpar := fun W => rparent_any p (by omega) W
  have hps : (parentOf p).size ≤ 100000 := by
    have h1 := slashTo_le p p.size
    unfold parentOf
    split
    · decide
    · split
      · decide
      · rw [ByteArray.size_extract]
        omega
  have kmay := fun W (r : RowN W a l) => rmay_any a cap l u t (parentOf p) 2 hl hps hA W r
  obtain ⟨E, hE⟩ : ∃ E, chgE (namesP l) u t p = E := ⟨_, rfl⟩
  rw [hE]
  unfold chgE at hE
  obtain ⟨n, hn⟩ : ∃ n, l.length = n := ⟨_, rfl⟩
  rw [hn] at kmay ⊢
  replace hn : Aside (l.length = n) := hn
  have h0 := ms_start w u t
  have hbad : ∀ {W : World} {E : Int}, E ≠ 0 → MS w W u t → ∃ W', W.setCells (w.heap.size + 1) 0 zeroP.cs = W' ∧ W.there (w.heap.size + 1) 0 zeroP.cs.length ∧ BlkL (w.heap.size + 1) zeroP.cs W' ∧ Below w.heap.size w W' ∧ chgP l p E = zeroP := fun {W E} hE hM => by
    obtain ⟨W', q1, q2, q3, q4⟩ := put_res hM.rs zeroP hM.bl (by omega)
    exact ⟨W', q1, q2, q3, q4, by unfold chgP toldP; rw [if_neg hE]⟩
  obtain ⟨T, hT⟩ : ∃ T, chgP l p E = T := ⟨_, rfl⟩
  rw [hT]
  replace hT : Aside (chgP l p E = T) := hT
  generalize checkOf p = ce at *
  go_enter Tryd.func34, Tryd.ntmps34
  go_wp2_with fail
  generalize (w.alloc (.cells (sbL u t).toArray 73)).alloc (.cells zN 36) = W0 at *
  refine (kc W0).mono ?_
  rintro e W1 ⟨rfl, hB1⟩
  have h1 := h0.then hB1
  clear kc h0 hB1
  by_cases hs0 : ce = 0
  rotate_left
  · rw [if_pos hs0] at hE
    subst hE
    clear kmay kpar
    obtain ⟨W9, hW9, hth9, hk9, hb9, hz9⟩ := hbad (W := W1) (E := ce) hs0 h1
    obtain rfl : T = zeroP := hT.out.symm.trans hz9
    clear hbad hT
    as_aux_lemma =>
      go_wp2_with (first | (refine wpList_store_part rfl _ _ rfl (w.heap.size + 1) 0 rfl zeroP.cs rfl hth9 hsz (pn_one zeroP) hW9 ?_) | fail)
      refine bodyPost_ret (v := .tuple #[.agg zeroP.cs.toArray, .int .i64 ce]) (results_row2 rfl _ _ (w.heap.size + 1) rfl (.int .i64 ce) rfl zeroP.cs hk9.range hund rfl hsz) rfl ?_
      exact ⟨rfl, hb9⟩
  subst hs0
  rw [if_neg (by simp)] at hE
  cases hsl : eqs p slashS
  rotate_left
  · have f0 : (p.toList == [47]) = true := by rw [← eqs_lit true hsl]
    rw [hsl, if_pos rfl] at hE
    subst hE
    clear kmay kpar
    obtain ⟨W9, hW9, hth9, hk9, hb9, hz9⟩ := hbad (W := W1) (E := 1) (by decide) h1
    obtain rfl : T = zeroP := hT.out.symm.trans hz9
    clear hbad hT
    as_aux_lemma =>
      go_wp2_with (first | (refine wpList_store_part rfl _ _ rfl (w.heap.size + 1) 0 rfl zeroP.cs rfl hth9 hsz (pn_one zeroP) hW9 ?_) | fail)
      refine bodyPost_ret (v := .tuple #[.agg zeroP.cs.toArray, .int .i64 1]) (results_row2 rfl _ _ (w.heap.size + 1) rfl (.int .i64 1) rfl zeroP.cs hk9.range hund rfl hsz) rfl ?_
      exact ⟨rfl, hb9⟩
  have f0 : (p.toList == [47]) = false := by rw [← eqs_lit false hsl]
  rw [hsl, if_neg (by decide)] at hE
  obtain ⟨pp, hpp⟩ : ∃ pp, parentOf p = pp := ⟨_, rfl⟩
  have hTp : Aside (∀ e, chgP l p e = toldP l pp e) := fun e => by unfold chgP; rw [hpp]
  rw [hpp] at hE kpar kmay
  obtain ⟨ME, hME⟩ : ∃ ME, mayE (namesP l) u t pp 2 = ME := ⟨_, rfl⟩
  rw [hME] at hE kmay
  obtain ⟨cs, hcs⟩ : ∃ cs, (toldP l pp ME).cs = cs := ⟨_, rfl⟩
  have hlen : cs.length = 16 := by rw [← hcs]; rfl
  have hone : ∀ v ∈ cs, v.oneCell' = true := by rw [← hcs]; exact pn_one _
  have hszc : (Tryd.prog.info? 36).map (·.size) = some cs.length := by rw [hlen]; exact hszN
  have hset : Aside (setM zN.toList 0 cs = cs) := by rw [← hcs]; rfl
  rw [hcs] at kmay
  replace hcs : Aside ((toldP l pp ME).cs = cs) := hcs
  clear hpp hsl hps
  go_upto_region 6 with fail
  generalize hZ : W1 = Z at *
  clear hZ
  have hMz := h1
  clear h1
  go_cut [8, 9] from 19 (fun s8 s9 wc => s8 = .int .i64 ME ∧ ∃ bn, s9 = .pointer (some ⟨bn, 0, none⟩) ∧ MS w wc u t ∧ BlkL bn cs wc)
  case first =>
    clear hbad hE hT hTp hME
    refine wp_region_held_drew (S := (fun W => BlkL w.heap.size (sbL u t) W)) (by kernel_rfl) (by exact stab_blk _ _ _ _ hMz.bx (Below.refl Z.heap.size Z).drew) ?_
    intro hHeld
    have hM0 := hMz.then (Below.refl Z.heap.size Z).drew
    generalize Z.drew = w0 at *
    refine wpAnyH_take (i := 0) (v := ?_) (by simp only [gA, gB, gC]; rfl) (by kernel_rfl) (by kernel_rfl) (by kernel_rfl) (by exact fun _ _ _ h => h) (Or.inl ⟨by rfl, ?_⟩) (by assumption) ?_; rotate_left; (focus (intro w hSw; (try dsimp only at hSw); go_simp; try with_reducible rfl)); (try simp only [Act.put, sA, sB, sC])
    refine wpAnyH_take (i := 1) (v := _) (by simp only [gA, gB, gC]; rfl) (by kernel_rfl) (by kernel_rfl) (by kernel_rfl) (by exact fun _ _ _ h => h) (yields_row (by rfl) _ rfl w.heap.size rfl (sbL u t) (fun _ q => q.range) hundS rfl hss) (by assumption) ?_; (try simp only [Act.put, sA, sB, sC])
    refine wpAnyH_take (i := 2) (v := ?_) (by simp only [gA, gB, gC]; rfl) (by kernel_rfl) (by kernel_rfl) (by kernel_rfl) (by exact fun _ _ _ h => h) (Or.inl ⟨by rfl, ?_⟩) (by assumption) ?_; rotate_left; (focus (intro w hSw; (try dsimp only at hSw); go_simp; try with_reducible rfl)); (try simp only [Act.put, sA, sB, sC])
    refine wpAnyH_ready (rs := [3, 8]) (by kernel_rfl) (by simp) ?_
    refine AllReadyH.cons (by simp only [gA, gB, gC]; rfl) (fun K hK => ?_) ?_
    · go_simp
      go_at_call 20
      refine (kpar _).mono ?_
      rintro e w1 ⟨rfl, hww⟩
      have hb : Below w0.heap.size w0 w1 := by rw [hww]; exact Below.refl _ _
      have hM1 := hM0.then hb
      clear hb hww
      refine hK.out _ _ (hM1.bx) ?_
      clear hHeld hK
      intro hHeld
      (try simp only [Act.put, sA, sB, sC])
      refine wpAnyH_ready (rs := [4, 8]) (by kernel_rfl) (by simp) ?_
      refine AllReadyH.cons (by simp only [gA, gB, gC]; rfl) (fun K hK => ?_) ?_
      · go_simp
        go_at_call 33
        refine (kmay _ (h.below hM1.bl)).mono ?_
        rintro e w2 ⟨rfl, hb⟩
        have hM2 := hM1.then hb
        clear hb
        refine hK.out _ _ (hM2.bx) ?_
        clear hHeld hK
        intro hHeld
        (try simp only [Act.put, sA, sB, sC])
        refine wpAnyH_take (i := 5) (v := ?_) (by simp only [gA, gB, gC]; rfl) (by kernel_rfl) (by kernel_rfl) (by kernel_rfl) (by exact fun _ _ _ h => h) (Or.inl ⟨by rfl, ?_⟩) (by assumption) ?_; rotate_left; (focus (intro w hSw; (try dsimp only at hSw); go_simp; try with_reducible rfl)); (try simp only [Act.put, sA, sB, sC])
        refine wpAnyH_take (i := 6) (v := ?_) (by simp only [gA, gB, gC]; rfl) (by kernel_rfl) (by kernel_rfl) (by kernel_rfl) (by exact fun _ _ _ h => h) (Or.inl ⟨by rfl, ?_⟩) (by assumption) ?_; rotate_left; (focus (intro w hSw; (try dsimp only at hSw); go_simp; try with_reducible rfl)); (try simp only [Act.put, sA, sB, sC])
        refine wpAnyH_take (i := 7) (v := ?_) (by simp only [gA, gB, gC]; rfl) (by kernel_rfl) (by kernel_rfl) (by kernel_rfl) (by exact fun _ _ _ h => h) (Or.inl ⟨by rfl, ?_⟩) (by assumption) ?_; rotate_left; (focus (intro w hSw; (try dsimp only at hSw); go_simp; try with_reducible rfl)); (try simp only [Act.put, sA, sB, sC])
        refine wpAnyH_ready (rs := [8]) (by kernel_rfl) (by simp) ?_
        refine AllReadyH.cons (by simp only [gA, gB, gC]; rfl) (fun K hK => ?_) AllReadyH.nil
        go_simp
        refine hK.out _ _ ((hM2.then (alloc_below _ _)).bx) ?_
        clear hHeld hK
        intro hHeld
        have hn3 := blkl_alloc w2 zN 36
        have hM3 := hM2.then (alloc_below w2 (.cells zN 36))
        have hbn : w.heap.size + 2 ≤ w2.heap.size := by have := hM2.rs.2; omega
        generalize hwx : w2.alloc (.cells zN 36) = w3 at *
        clear hwx
        generalize w2.heap.size = bn at *
        (try simp only [Act.put, sA, sB, sC])
        refine wpAnyH_ready (rs := [9]) (by kernel_rfl) (by simp) ?_
        refine AllReadyH.cons (by simp only [gA, gB, gC]; rfl) (fun K hK => ?_) AllReadyH.nil
        obtain ⟨w4, hwz, hthz, hn4, hbz⟩ := put_mid hn3 0 cs (by rw [hlen]; decide) (by decide) hM3.bl (by omega)
        have hsetc : setM zN.toList 0 cs = cs := hset.out
        rw [hsetc] at hn4
        have hM4 : MS w w4 u t := ⟨hbz, hM3.bx.other hwz (by omega), hM3.rs.other hwz (by omega)⟩
        refine step_store_part rfl _ _ rfl bn 0 rfl cs rfl hthz hszc hone hwz ?_
        (try simp only [Act.put, sA, sB, sC])
        refine hK.out _ _ (hM4.bx) ?_
        clear hHeld hK
        intro hHeld
        (try simp only [Act.put, sA, sB, sC])
        refine wpAnyH_take (i := 10) (v := ?_) (by simp only [gA, gB, gC]; rfl) (by kernel_rfl) (by kernel_rfl) (by kernel_rfl) (by exact fun _ _ _ h => h) (Or.inl ⟨by rfl, ?_⟩) (by assumption) ?_; rotate_left; (focus (intro w hSw; (try dsimp only at hSw); go_simp; try with_reducible rfl)); (try simp only [Act.put, sA, sB, sC])
        refine wpAnyH_done (by kernel_rfl) ?_ _
        go_wp2_with fail
        go_meet
        exact ⟨rfl, bn, rfl, hM4, hn4⟩
      refine AllReadyH.cons (by simp only [gA, gB, gC]; rfl) (fun K hK => ?_) AllReadyH.nil
      go_simp
      refine hK.out _ _ ((hM1.then (alloc_below _ _)).bx) ?_
      clear hHeld hK
      intro hHeld
      have hn2 := blkl_alloc w1 zN 36
      have hM2 := hM1.then (alloc_below w1 (.cells zN 36))
      have hbn : w.heap.size + 2 ≤ w1.heap.size := by have := hM1.rs.2; omega
      generalize hwx : w1.alloc (.cells zN 36) = w2 at *
      clear hwx
      generalize w1.heap.size = bn at *
      (try simp only [Act.put, sA, sB, sC])
      refine wpAnyH_ready (rs := [4]) (by kernel_rfl) (by simp) ?_
      refine AllReadyH.cons (by simp only [gA, gB, gC]; rfl) (fun K hK => ?_) AllReadyH.nil
      go_simp
      go_at_call 33
      refine (kmay _ (h.below hM2.bl)).mono ?_
      rintro e w3 ⟨rfl, hb⟩
      have hM3 := hM2.then hb
      have hn3 := stab_blk _ _ _ _ hn2 hb
      clear hb
      refine hK.out _ _ (hM3.bx) ?_
      clear hHeld hK
      intro hHeld
      (try simp only [Act.put, sA, sB, sC])
      refine wpAnyH_take (i := 5) (v := ?_) (by simp only [gA, gB, gC]; rfl) (by kernel_rfl) (by kernel_rfl) (by kernel_rfl) (by exact fun _ _ _ h => h) (Or.inl ⟨by rfl, ?_⟩) (by assumption) ?_; rotate_left; (focus (intro w hSw; (try dsimp only at hSw); go_simp; try with_reducible rfl)); (try simp only [Act.put, sA, sB, sC])
      refine wpAnyH_take (i := 6) (v := ?_) (by simp only [gA, gB, gC]; rfl) (by kernel_rfl) (by kernel_rfl) (by kernel_rfl) (by exact fun _ _ _ h => h) (Or.inl ⟨by rfl, ?_⟩) (by assumption) ?_; rotate_left; (focus (intro w hSw; (try dsimp only at hSw); go_simp; try with_reducible rfl)); (try simp only [Act.put, sA, sB, sC])
      refine wpAnyH_take (i := 7) (v := ?_) (by simp only [gA, gB, gC]; rfl) (by kernel_rfl) (by kernel_rfl) (by kernel_rfl) (by exact fun _ _ _ h => h) (Or.inl ⟨by rfl, ?_⟩) (by assumption) ?_; rotate_left; (focus (intro w hSw; (try dsimp only at hSw); go_simp; try with_reducible rfl)); (try simp only [Act.put, sA, sB, sC])
      refine wpAnyH_ready (rs := [9]) (by kernel_rfl) (by simp) ?_
      refine AllReadyH.cons (by simp only [gA, gB, gC]; rfl) (fun K hK => ?_) AllReadyH.nil
      obtain ⟨w4, hwz, hthz, hn4, hbz⟩ := put_mid hn3 0 cs (by rw [hlen]; decide) (by decide) hM3.bl (by omega)
      have hsetc : setM zN.toList 0 cs = cs := hset.out
      rw [hsetc] at hn4
      have hM4 : MS w w4 u t := ⟨hbz, hM3.bx.other hwz (by omega), hM3.rs.other hwz (by omega)⟩
      refine step_store_part rfl _ _ rfl bn 0 rfl cs rfl hthz hszc hone hwz ?_
      (try simp only [Act.put, sA, sB, sC])
      refine hK.out _ _ (hM4.bx) ?_
      clear hHeld hK
      intro hHeld
      (try simp only [Act.put, sA, sB, sC])
      refine wpAnyH_take (i := 10) (v := ?_) (by simp only [gA, gB, gC]; rfl) (by kernel_rfl) (by kernel_rfl) (by kernel_rfl) (by exact fun _ _ _ h => h) (Or.inl ⟨by rfl, ?_⟩) (by assumption) ?_; rotate_left; (focus (intro w hSw; (try dsimp only at hSw); go_simp; try with_reducible rfl)); (try simp only [Act.put, sA, sB, sC])
      refine wpAnyH_done (by kernel_rfl) ?_ _
      go_wp2_with fail
      go_meet
      exact ⟨rfl, bn, rfl, hM4, hn4⟩
    refine AllReadyH.cons (by simp only [gA, gB, gC]; rfl) (fun K hK => ?_) AllReadyH.nil
    go_simp
    refine hK.out _ _ ((hM0.then (alloc_below _ _)).bx) ?_
    clear hHeld hK
    intro hHeld
    have hn1 := blkl_alloc w0 zN 36
    have hM1 := hM0.then (alloc_below w0 (.cells zN 36))
    have hbn : w.heap.size + 2 ≤ w0.heap.size := by have := hM0.rs.2; omega
    generalize hwx : w0.alloc (.cells zN 36) = w1 at *
    clear hwx
    generalize w0.heap.size = bn at *
    (try simp only [Act.put, sA, sB, sC])
    refine wpAnyH_ready (rs := [3]) (by kernel_rfl) (by simp) ?_
    refine AllReadyH.cons (by simp only [gA, gB, gC]; rfl) (fun K hK => ?_) AllReadyH.nil
    go_simp
    go_at_call 20
    refine (kpar _).mono ?_
    rintro e w2 ⟨rfl, hww⟩
    have hb : Below w1.heap.size w1 w2 := by rw [hww]; exact Below.refl _ _
    have hM2 := hM1.then hb
    have hn2 := stab_blk _ _ _ _ hn1 hb
    clear hb hww
    refine hK.out _ _ (hM2.bx) ?_
    clear hHeld hK
    intro hHeld
    (try simp only [Act.put, sA, sB, sC])
    refine wpAnyH_ready (rs := [4]) (by kernel_rfl) (by simp) ?_
    refine AllReadyH.cons (by simp only [gA, gB, gC]; rfl) (fun K hK => ?_) AllReadyH.nil
    go_simp
    go_at_call 33
    refine (kmay _ (h.below hM2.bl)).mono ?_
    rintro e w3 ⟨rfl, hb⟩
    have hM3 := hM2.then hb
    have hn3 := stab_blk _ _ _ _ hn2 hb
    clear hb
    refine hK.out _ _ (hM3.bx) ?_
    clear hHeld hK
    intro hHeld
    (try simp only [Act.put, sA, sB, sC])
    refine wpAnyH_take (i := 5) (v := ?_) (by simp only [gA, gB, gC]; rfl) (by kernel_rfl) (by kernel_rfl) (by kernel_rfl) (by exact fun _ _ _ h => h) (Or.inl ⟨by rfl, ?_⟩) (by assumption) ?_; rotate_left; (focus (intro w hSw; (try dsimp only at hSw); go_simp; try with_reducible rfl)); (try simp only [Act.put, sA, sB, sC])
    refine wpAnyH_take (i := 6) (v := ?_) (by simp only [gA, gB, gC]; rfl) (by kernel_rfl) (by kernel_rfl) (by kernel_rfl) (by exact fun _ _ _ h => h) (Or.inl ⟨by rfl, ?_⟩) (by assumption) ?_; rotate_left; (focus (intro w hSw; (try dsimp only at hSw); go_simp; try with_reducible rfl)); (try simp only [Act.put, sA, sB, sC])
    refine wpAnyH_take (i := 7) (v := ?_) (by simp only [gA, gB, gC]; rfl) (by kernel_rfl) (by kernel_rfl) (by kernel_rfl) (by exact fun _ _ _ h => h) (Or.inl ⟨by rfl, ?_⟩) (by assumption) ?_; rotate_left; (focus (intro w hSw; (try dsimp only at hSw); go_simp; try with_reducible rfl)); (try simp only [Act.put, sA, sB, sC])
    refine wpAnyH_ready (rs := [9]) (by kernel_rfl) (by simp) ?_
    refine AllReadyH.cons (by simp only [gA, gB, gC]; rfl) (fun K hK => ?_) AllReadyH.nil
    obtain ⟨w4, hwz, hthz, hn4, hbz⟩ := put_mid hn3 0 cs (by rw [hlen]; decide) (by decide) hM3.bl (by omega)
    have hsetc : setM zN.toList 0 cs = cs := hset.out
    rw [hsetc] at hn4
    have hM4 : MS w w4 u t := ⟨hbz, hM3.bx.other hwz (by omega), hM3.rs.other hwz (by omega)⟩
    refine step_store_part rfl _ _ rfl bn 0 rfl cs rfl hthz hszc hone hwz ?_
    (try simp only [Act.put, sA, sB, sC])
    refine hK.out _ _ (hM4.bx) ?_
    clear hHeld hK
    intro hHeld
    (try simp only [Act.put, sA, sB, sC])
    refine wpAnyH_take (i := 10) (v := ?_) (by simp only [gA, gB, gC]; rfl) (by kernel_rfl) (by kernel_rfl) (by kernel_rfl) (by exact fun _ _ _ h => h) (Or.inl ⟨by rfl, ?_⟩) (by assumption) ?_; rotate_left; (focus (intro w hSw; (try dsimp only at hSw); go_simp; try with_reducible rfl)); (try simp only [Act.put, sA, sB, sC])
    refine wpAnyH_done (by kernel_rfl) ?_ _
    go_wp2_with fail
    go_meet
    exact ⟨rfl, bn, rfl, hM4, hn4⟩
  case rest =>
    obtain ⟨rfl, bn, rfl, hM, hbn⟩ := hcut
    clear kmay kpar hMz hset
    by_cases hs0 : ME = 0
    rotate_left
    · rw [if_pos hs0] at hE
      subst hE
      obtain ⟨W9, hW9, hth9, hk9, hb9, hz9⟩ := hbad (W := wc) (E := ME) hs0 hM
      obtain rfl : T = zeroP := hT.out.symm.trans hz9
      clear hbad hT
      as_aux_lemma =>
        go_wp2_with (first | (refine wpList_store_part rfl _ _ rfl (w.heap.size + 1) 0 rfl zeroP.cs rfl hth9 hsz (pn_one zeroP) hW9 ?_) | fail)
        refine bodyPost_ret (v := .tuple #[.agg zeroP.cs.toArray, .int .i64 ME]) (results_row2 rfl _ _ (w.heap.size + 1) rfl (.int .i64 ME) rfl zeroP.cs hk9.range hund rfl hsz) rfl ?_
        exact ⟨rfl, hb9⟩
    subst hs0
    rw [if_neg (by simp)] at hE
    have hse : seeE (namesP l) t pp = 0 := by
      rw [may_in (by decide) (by decide)] at hME
      by_cases q : seeE (namesP l) t pp = 0
      · exact q
      · rw [if_pos q] at hME
        exact hME
    obtain ⟨d, hfd⟩ := see_find hse
    rw [find_names, hfd] at hE
    simp only [Option.map_some, Option.getD_some] at hE
    obtain rfl : d.cs = cs := by
      have q := hcs.out
      unfold toldP at q
      rw [if_pos rfl, hfd] at q
      exact q
    have hTd : Aside (E = 0 → T = d) := fun q => by
      have q2 := hT.out
      rw [hTp.out, q] at q2
      unfold toldP at q2
      rw [if_pos rfl, hfd] at q2
      exact q2.symm
    have hz1 := (hbn.1 1 _ rfl).1
    clear hME hse hfd hcs hTp
    cases hd : d.n.dir
    · rw [hd] at hz1
      rw [if_pos hd] at hE
      subst hE
      clear hTd
      obtain ⟨W9, hW9, hth9, hk9, hb9, hz9⟩ := hbad (W := wc) (E := 3) (by decide) hM
      obtain rfl : T = zeroP := hT.out.symm.trans hz9
      clear hbad hT
      as_aux_lemma =>
        go_wp2_with (first | (refine wpList_store_part rfl _ _ rfl (w.heap.size + 1) 0 rfl zeroP.cs rfl hth9 hsz (pn_one zeroP) hW9 ?_) | fail)
        refine bodyPost_ret (v := .tuple #[.agg zeroP.cs.toArray, .int .i64 3]) (results_row2 rfl _ _ (w.heap.size + 1) rfl (.int .i64 3) rfl zeroP.cs hk9.range hund rfl hsz) rfl ?_
        exact ⟨rfl, hb9⟩
    · rw [hd] at hz1
      rw [if_neg (by rw [hd]; decide)] at hE
      subst hE
      obtain rfl : T = d := hTd.out rfl
      obtain ⟨W9, hW9, hth9, hk9, hb9⟩ := put_res hM.rs T hM.bl (by omega)
      have hrn := hbn.range
      clear hbad hT hTd
      as_aux_lemma =>
        go_wp2_with (first | (refine wpList_load_row rfl _ rfl bn rfl T.cs hrn hund rfl hszc ?_) | (refine wpList_store_part rfl _ _ rfl (w.heap.size + 1) 0 rfl T.cs rfl hth9 hszc hone hW9 ?_) | fail)
        refine bodyPost_ret (v := .tuple #[.agg T.cs.toArray, .int .i64 0]) (results_row2 rfl _ _ (w.heap.size + 1) rfl (.int .i64 0) rfl T.cs hk9.range hund rfl hszc) rfl ?_
        exact ⟨rfl, hb9⟩
end Go.Proofs.YtapgjdmnlkedgaaDoor

/-! Same: the document's own (donjonref10). -/
namespace Go.Proofs.YtapgjdmnlkedgaaDoor
open Go.RowKit
set_option maxRecDepth 8000
set_option linter.unusedSimpArgs false
set_option linter.unusedVariables false

def grEq (x y : Gr) : Bool := eqs x.u y.u && x.m == y.m
theorem grEq_iff {x y : Gr} : grEq x y = true ↔ x = y := by
  cases x; cases y
  unfold grEq
  simp only [Bool.and_eq_true, eqs_iff, beq_iff_eq, Gr.mk.injEq]
/-- Rows alike, place by place. -/
def allEq {α : Type} (f : α → α → Bool) : List α → List α → Bool
  | [], [] => true
  | x :: r, y :: s => f x y && allEq f r s
  | _, _ => false
theorem allEq_iff {α : Type} {f : α → α → Bool} (hf : ∀ x y, f x y = true ↔ x = y) : ∀ l m : List α, allEq f l m = true ↔ l = m
  | [], [] => by simp [allEq]
  | [], _ :: _ => by simp [allEq]
  | _ :: _, [] => by simp [allEq]
  | x :: r, y :: s => by simp [allEq, hf, allEq_iff hf r s]
theorem allEq_drop {α : Type} {f : α → α → Bool} {l m : List α} {i : Nat} {x y : α} (hx : l[i]? = some x) (hy : m[i]? = some y) : allEq f (l.drop i) (m.drop i) = (f x y && allEq f (l.drop (i + 1)) (m.drop (i + 1))) := by
  have h1 := (List.getElem?_eq_some_iff.1 hx)
  have h2 := (List.getElem?_eq_some_iff.1 hy)
  rw [List.drop_eq_getElem_cons h1.1, List.drop_eq_getElem_cons h2.1, h1.2, h2.2]
  rfl
theorem allEq_end {α : Type} {f : α → α → Bool} {l m : List α} {i : Nat} (h1 : l.length ≤ i) (h2 : m.length ≤ i) : allEq f (l.drop i) (m.drop i) = true := by
  rw [List.drop_eq_nil_of_le h1, List.drop_eq_nil_of_le h2]
  rfl
def ringsEq (x y : Nod) : Bool := x.r1 == y.r1 && (x.r2 == y.r2 && (x.r3 == y.r3 && x.gates == y.gates))
/-- What stands outside the rows is alike. -/
def headEq (x y : Nod) : Bool := eqs x.path y.path && x.dir == y.dir && labEq x.label y.label && labEq x.by_ y.by_ && ringsEq x y && (x.acl.length == y.acl.length) && (x.words.length == y.words.length)
def nodEq (x y : Nod) : Bool := headEq x y && allEq grEq x.acl y.acl && allEq (fun a b : Int => a == b) x.words y.words
theorem nodEq_iff {x y : Nod} : nodEq x y = true ↔ x = y := by
  unfold nodEq headEq ringsEq
  simp only [Bool.and_eq_true, allEq_iff (fun _ _ => grEq_iff), allEq_iff (fun a b : Int => beq_iff_eq), eqs_iff, labEq_iff, beq_iff_eq]
  cases x; cases y
  simp only [Nod.mk.injEq]
  constructor
  · rintro ⟨⟨⟨⟨⟨⟨⟨⟨h1, h2⟩, h3⟩, h4⟩, h5, h6, h7, h8⟩, h9⟩, h10⟩, h11⟩, h12⟩
    exact ⟨h1, h2, h3, h11, h5, h6, h7, h8, h12, h4⟩
  · rintro ⟨h1, h2, h3, h11, h5, h6, h7, h8, h12, h4⟩
    exact ⟨⟨⟨⟨⟨⟨⟨⟨h1, h2⟩, h3⟩, h4⟩, h5, h6, h7, h8⟩, by rw [h11]⟩, by rw [h12]⟩, h11⟩, h12⟩
theorem run_neq_gr (x y : Gr) (w : World) : (binOp .neq 80 (.agg #[.string x.u, .int .i64 x.m]) (.agg #[.string y.u, .int .i64 y.m])).run Tryd.prog w = .ok (.bool (!grEq x y)) w := by
  have e : grEq x y = (x.u.toList == y.u.toList && x.m == y.m) := rfl
  rw [e]
  go_simp
  repeat' split
  all_goals simp_all
theorem run_neq_rings (x y : Nod) (w : World) : (binOp .neq 33 (.agg #[.int .i64 x.r1, .int .i64 x.r2, .int .i64 x.r3, .int .i64 x.gates]) (.agg #[.int .i64 y.r1, .int .i64 y.r2, .int .i64 y.r3, .int .i64 y.gates])).run Tryd.prog w = .ok (.bool (!ringsEq x y)) w := by
  have e : ringsEq x y = (x.r1 == y.r1 && (x.r2 == y.r2 && (x.r3 == y.r3 && x.gates == y.gates))) := rfl
  rw [e]
  go_simp
  repeat' split
  all_goals simp_all
/-- Two nodes boxed, and their rows. -/
structure TwoN (w W : World) (x y : Nod) (aa : Option Addr) (ca : Nat) (wa : Option Addr) (cw : Nat) (ab : Option Addr) (cb : Nat) (wb : Option Addr) (cd : Nat) : Prop where
  bx : NBox W w.heap.size x aa ca wa cw
  bz : NBox W (w.heap.size + 1) y ab cb wb cd
  gx : GrsAt W aa x.acl
  gz : GrsAt W ab y.acl
  wx : WrdsAt W wa x.words
  wz : WrdsAt W wb y.words
  bl : Below w.heap.size w W
section
variable {w W : World} {x y : Nod} {aa : Option Addr} {ca : Nat} {wa : Option Addr} {cw : Nat} {ab : Option Addr} {cb : Nat} {wb : Option Addr} {cd : Nat}
theorem TwoN.drew (h : TwoN w W x y aa ca wa cw ab cb wb cd) : TwoN w W.drew x y aa ca wa cw ab cb wb cd := ⟨h.bx, h.bz, h.gx, h.gz, h.wx, h.wz, h.bl.drew⟩
theorem two_alloc (hx : GrsAt w aa x.acl) (hy : GrsAt w ab y.acl) (hw : WrdsAt w wa x.words) (hz : WrdsAt w wb y.words) : TwoN w ((w.alloc (.cells (ncells x aa ca wa cw) 36)).alloc (.cells (ncells y ab cb wb cd) 36)) x y aa ca wa cw ab cb wb cd := by
  have b1 := alloc_below w (.cells (ncells x aa ca wa cw) 36)
  have n1 := nbox_alloc w x aa ca wa cw 36
  have s1 := World.size_alloc w (.cells (ncells x aa ca wa cw) 36)
  generalize w.alloc (.cells (ncells x aa ca wa cw) 36) = W1 at *
  have b2 := alloc_below W1 (.cells (ncells y ab cb wb cd) 36)
  have n2 := nbox_alloc W1 y ab cb wb cd 36
  rw [s1] at n2
  have hB := Below.then b1 b2
  exact ⟨n1.keep (b2.mono (by omega)), n2, hx.below hB, hy.below hB, hw.below hB, hz.below hB, hB⟩
end
theorem gr_at {W : World} {a : Option Addr} {l : List Gr} {i : Nat} {q : Gr} {y : Addr} (h : GrsAt W a l) (hy : a = some y) (hq : l[i]? = some q) : W.cell? (y.add (i * 2)) = some (.string q.u) ∧ W.cell? ⟨(y.add (i * 2)).block, (y.add (i * 2)).off + 1, none⟩ = some (.int .i64 q.m) := by
  obtain ⟨y', hy', h1, h2⟩ := h i q hq
  rw [hy] at hy'
  obtain rfl := Option.some.inj hy'
  exact ⟨h1, h2⟩

set_option maxRecDepth 20000 in
set_option maxHeartbeats 8000000 in
theorem rsame_any (x y : Nod) (aa : Option Addr) (ca : Nat) (wa : Option Addr) (cw : Nat) (ab : Option Addr) (cb : Nat) (wb : Option Addr) (cd : Nat) (hx1 : x.acl.length ≤ 1000000) (hx2 : x.words.length ≤ 1000000) (w : World) (gx : GrsAt w aa x.acl) (gz : GrsAt w ab y.acl) (wx : WrdsAt w wa x.words) (wz : WrdsAt w wb y.words) :
    Calls Tryd.prog 23 #[x.v aa ca wa cw, y.v ab cb wb cd] w fun e w' => e = .returned (.bool (nodEq x y)) ∧ Below w.heap.size w w' := by
  have h := two_alloc (cw := cw) (ca := ca) (cb := cb) (cd := cd) gx gz wx wz
  unfold ncells at h
  clear gx gz wx wz
  obtain ⟨r, hr⟩ : ∃ r, nodEq x y = r := ⟨_, rfl⟩
  rw [hr]
  have kL := run_neq_lab
  have kR := run_neq_rings
  have hno : headEq x y = false → r = false := fun k => by rw [← hr, nodEq, k]; rfl
  have hyes : headEq x y = true → Aside (r = (allEq grEq (x.acl.drop 0) (y.acl.drop 0) && allEq (fun a b : Int => a == b) (x.words.drop 0) (y.words.drop 0))) := fun k => by rw [← hr, nodEq, k]; exact rfl
  have hhead : headEq x y = (eqs x.path y.path && x.dir == y.dir && labEq x.label y.label && labEq x.by_ y.by_ && ringsEq x y && (x.acl.length == y.acl.length) && (x.words.length == y.words.length)) := rfl
  clear hr
  go_enter Tryd.func23, Tryd.ntmps23
  go_upto_region 1 with fail
  generalize ((w.alloc (.cells #[.string x.path, .bool x.dir, .int .i64 x.label.s, .int .i64 x.label.c, .int .i64 x.label.i, .int .i64 x.label.k, .slice aa x.acl.length ca, .int .i64 x.r1, .int .i64 x.r2, .int .i64 x.r3, .int .i64 x.gates, .slice wa x.words.length cw, .int .i64 x.by_.s, .int .i64 x.by_.c, .int .i64 x.by_.i, .int .i64 x.by_.k] 36)).alloc (.cells #[.string y.path, .bool y.dir, .int .i64 y.label.s, .int .i64 y.label.c, .int .i64 y.label.i, .int .i64 y.label.k, .slice ab y.acl.length cb, .int .i64 y.r1, .int .i64 y.r2, .int .i64 y.r3, .int .i64 y.gates, .slice wb y.words.length cd, .int .i64 y.by_.s, .int .i64 y.by_.c, .int .i64 y.by_.i, .int .i64 y.by_.k] 36)) = W at *
  obtain ⟨nb, hnb⟩ : ∃ nb, (!headEq x y) = nb := ⟨_, rfl⟩
  have hnb : Aside ((!headEq x y) = nb) := hnb
  go_cut [57] from 7 (fun s57 wc => s57 = .bool nb ∧ wc = W)
  case first =>
    obtain ⟨⟨a0, a1, a2, a3, a4, a5, a6, a7, a8, a9, a10, a11, a12, a13, a14, a15⟩, ⟨b0, b1, b2, b3, b4, b5, b6, b7, b8, b9, b10, b11, b12, b13, b14, b15⟩, -, -, -, -, -⟩ := h
    clear hno hyes
    cases e0 : eqs x.path y.path
    case false =>
      have f0 : (x.path.toList == y.path.toList) = false := by exact e0
      have hh : Aside (headEq x y = false) := by
        rw [hhead]
        simp only [e0, Bool.and_false, Bool.false_and]
        exact trivial
      clear hhead
      go_wp2_with fail
      go_meet
      exact ⟨by rw [← hnb.out, hh.out]; rfl, rfl⟩
    have f0 : (x.path.toList == y.path.toList) = true := by exact e0
    cases e1 : (x.dir == y.dir)
    case false =>
      have f1 : (x.dir != y.dir) = true := by simp only [bne, e1]; rfl
      have hh : Aside (headEq x y = false) := by
        rw [hhead]
        simp only [e1, Bool.and_false, Bool.false_and]
        exact trivial
      clear hhead
      go_wp2_with fail
      go_meet
      exact ⟨by rw [← hnb.out, hh.out]; rfl, rfl⟩
    have f1 : (x.dir != y.dir) = false := by simp only [bne, e1]; rfl
    cases e2 : labEq x.label y.label
    case false =>
      have hh : Aside (headEq x y = false) := by
        rw [hhead]
        simp only [e2, Bool.and_false, Bool.false_and]
        exact trivial
      clear hhead
      go_wp2_with fail
      go_meet
      exact ⟨by rw [← hnb.out, hh.out]; rfl, rfl⟩
    cases e3 : labEq x.by_ y.by_
    case false =>
      have hh : Aside (headEq x y = false) := by
        rw [hhead]
        simp only [e3, Bool.and_false, Bool.false_and]
        exact trivial
      clear hhead
      go_wp2_with fail
      go_meet
      exact ⟨by rw [← hnb.out, hh.out]; rfl, rfl⟩
    cases e4 : ringsEq x y
    case false =>
      have hh : Aside (headEq x y = false) := by
        rw [hhead]
        simp only [e4, Bool.and_false, Bool.false_and]
        exact trivial
      clear hhead
      go_wp2_with fail
      go_meet
      exact ⟨by rw [← hnb.out, hh.out]; rfl, rfl⟩
    cases e5 : (x.acl.length == y.acl.length)
    case false =>
      have f5 : ((x.acl.length : Int) != (y.acl.length : Int)) = true := by
        simp at e5 ⊢
        omega
      have hh : Aside (headEq x y = false) := by
        rw [hhead]
        simp only [e5, Bool.and_false, Bool.false_and]
        exact trivial
      clear hhead
      go_wp2_with fail
      go_meet
      exact ⟨by rw [← hnb.out, hh.out]; rfl, rfl⟩
    have f5 : ((x.acl.length : Int) != (y.acl.length : Int)) = false := by
      simp at e5 ⊢
      omega
    cases e6 : (x.words.length == y.words.length)
    case false =>
      have f6 : ((x.words.length : Int) != (y.words.length : Int)) = true := by
        simp at e6 ⊢
        omega
      have hh : Aside (headEq x y = false) := by
        rw [hhead]
        simp only [e6, Bool.and_false, Bool.false_and]
        exact trivial
      clear hhead
      go_wp2_with fail
      go_meet
      exact ⟨by rw [← hnb.out, hh.out]; rfl, rfl⟩
    have f6 : ((x.words.length : Int) != (y.words.length : Int)) = false := by
      simp at e6 ⊢
      omega
    have hh : Aside (headEq x y = true) := by
      rw [hhead]
      simp only [e0, e1, e2, e3, e4, e5, e6, Bool.and_true]
      exact trivial
    clear hhead
    go_wp2_with fail
    go_meet
    exact ⟨by rw [← hnb.out, hh.out]; rfl, rfl⟩
  case rest =>
  obtain ⟨rfl, rfl⟩ := hcut
  clear kL kR
  cases nb
  case true =>
    have hh : headEq x y = false := by have := hnb.out; simpa using this
    obtain rfl := hno hh
    clear hno hyes hhead hh hnb
    go_wp2_with fail
    go_ret
    exact ⟨rfl, h.bl⟩
  case false =>
    have hh : headEq x y = true := by have := hnb.out; simpa using this
    have hr0 := hyes hh
    have hl : x.acl.length = y.acl.length ∧ x.words.length = y.words.length := by
      rw [hhead] at hh
      simp only [Bool.and_eq_true, beq_iff_eq] at hh
      exact ⟨hh.1.2, hh.2⟩
    clear hno hyes hhead hh hnb
    obtain ⟨la, hla⟩ : ∃ la, x.acl.length = la := ⟨_, rfl⟩
    obtain ⟨lw, hlw⟩ : ∃ lw, x.words.length = lw := ⟨_, rfl⟩
    have hla2 : y.acl.length = la := by omega
    have hlw2 : y.words.length = lw := by omega
    have hA : Aside (x.acl.length = la ∧ y.acl.length = la ∧ x.words.length = lw ∧ y.words.length = lw) := ⟨hla, hla2, hlw, hlw2⟩
    have hala : la ≤ 1000000 := by omega
    have halw : lw ≤ 1000000 := by omega
    obtain ⟨R2, hR2⟩ : ∃ R2, allEq (fun a b : Int => a == b) (x.words.drop 0) (y.words.drop 0) = R2 := ⟨_, rfl⟩
    rw [hR2] at hr0
    have hR2 : Aside (R2 = allEq (fun a b : Int => a == b) (x.words.drop 0) (y.words.drop 0)) := hR2.symm
    clear hl hla hlw hla2 hlw2 hx1 hx2
    have kG := run_neq_gr
    go_wp2_with fail
    go_loopw [5] (fun t5 wr => ∃ i : Nat, i ≤ la ∧ t5 = .int .i64 (i : Int) ∧ TwoN w wr x y aa ca wa cw ab cb wb cd ∧ Aside (r = (allEq grEq (x.acl.drop i) (y.acl.drop i) && R2))) (fun t5 _ => la - (Go.RowKit.intOf t5).toNat)
    case atStart => exact ⟨0, by omega, rfl, h, hr0⟩
    case round =>
      obtain ⟨i, hi, rfl, h, hall⟩ := hrel
      clear hr0
      have z6 : wr.cell? ⟨w.heap.size, 6, none⟩ = some (.slice aa la ca) := by
        have := h.bx.2.2.2.2.2.2.1
        rw [hA.out.1] at this
        exact this
      have y6 : wr.cell? ⟨w.heap.size + 1, 6, none⟩ = some (.slice ab la cb) := by
        have := h.bz.2.2.2.2.2.2.1
        rw [hA.out.2.1] at this
        exact this
      by_cases hlt : i < la
      · obtain ⟨q, hq⟩ : ∃ q, x.acl[i]? = some q := ⟨_, List.getElem?_eq_getElem (by rw [hA.out.1]; exact hlt)⟩
        obtain ⟨p, hp⟩ : ∃ p, y.acl[i]? = some p := ⟨_, List.getElem?_eq_getElem (by rw [hA.out.2.1]; exact hlt)⟩
        obtain ⟨u, rfl, c1, c2⟩ := h.gx i q hq
        obtain ⟨v, rfl, d1, d2⟩ := h.gz i p hp
        rw [allEq_drop hq hp] at hall
        clear hq hp
        have hi1 : (i : Int) < (la : Int) := by omega
        have hS0 : (fun W : World => W.cell? ⟨w.heap.size, 6, none⟩ = some (.slice (some u) la ca) ∧ W.cell? ⟨w.heap.size + 1, 6, none⟩ = some (.slice (some v) la cb) ∧ W.cell? (u.add (i * 2)) = some (.string q.u) ∧ W.cell? ⟨(u.add (i * 2)).block, (u.add (i * 2)).off + 1, none⟩ = some (.int .i64 q.m) ∧ W.cell? (v.add (i * 2)) = some (.string p.u) ∧ W.cell? ⟨(v.add (i * 2)).block, (v.add (i * 2)).off + 1, none⟩ = some (.int .i64 p.m)) wr.drew := ⟨z6, y6, c1, c2, d1, d2⟩
        have h' := h.drew
        go_wp2_with fail
        clear z6 y6 c1 c2 d1 d2 h
        refine wp_region_held_drew (S := (fun W : World => W.cell? ⟨w.heap.size, 6, none⟩ = some (.slice (some u) la ca) ∧ W.cell? ⟨w.heap.size + 1, 6, none⟩ = some (.slice (some v) la cb) ∧ W.cell? (u.add (i * 2)) = some (.string q.u) ∧ W.cell? ⟨(u.add (i * 2)).block, (u.add (i * 2)).off + 1, none⟩ = some (.int .i64 q.m) ∧ W.cell? (v.add (i * 2)) = some (.string p.u) ∧ W.cell? ⟨(v.add (i * 2)).block, (v.add (i * 2)).off + 1, none⟩ = some (.int .i64 p.m))) (by kernel_rfl) (by exact hS0) ?_
        intro hHeld
        (first | (refine wpAnyH_take (i := 0) (v := ?_) (by simp only [gA, gB, gC]; rfl) (by kernel_rfl) (by kernel_rfl) (by kernel_rfl) (by exact fun _ _ _ h => h) (Or.inl ⟨by rfl, ?_⟩) (by assumption) ?_; rotate_left; (focus (intro w hSw; (try dsimp only at hSw); go_simp; try with_reducible rfl))) | (refine wpAnyH_take (i := 0) (v := undef) (by simp only [gA, gB, gC]; rfl) (by kernel_rfl) (by kernel_rfl) (by kernel_rfl) (by exact fun _ _ _ h => h) (Or.inr ⟨by rfl, rfl⟩) (by assumption) ?_) | fail); simp only [Act.put, sA, sB, sC]
        (first | (refine wpAnyH_take (i := 1) (v := ?_) (by simp only [gA, gB, gC]; rfl) (by kernel_rfl) (by kernel_rfl) (by kernel_rfl) (by exact fun _ _ _ h => h) (Or.inl ⟨by rfl, ?_⟩) (by assumption) ?_; rotate_left; (focus (intro w hSw; (try dsimp only at hSw); go_simp; try with_reducible rfl))) | (refine wpAnyH_take (i := 1) (v := undef) (by simp only [gA, gB, gC]; rfl) (by kernel_rfl) (by kernel_rfl) (by kernel_rfl) (by exact fun _ _ _ h => h) (Or.inr ⟨by rfl, rfl⟩) (by assumption) ?_) | fail); simp only [Act.put, sA, sB, sC]
        (first | (refine wpAnyH_take (i := 2) (v := ?_) (by simp only [gA, gB, gC]; rfl) (by kernel_rfl) (by kernel_rfl) (by kernel_rfl) (by exact fun _ _ _ h => h) (Or.inl ⟨by rfl, ?_⟩) (by assumption) ?_; rotate_left; (focus (intro w hSw; (try dsimp only at hSw); go_simp; try with_reducible rfl))) | (refine wpAnyH_take (i := 2) (v := undef) (by simp only [gA, gB, gC]; rfl) (by kernel_rfl) (by kernel_rfl) (by kernel_rfl) (by exact fun _ _ _ h => h) (Or.inr ⟨by rfl, rfl⟩) (by assumption) ?_) | fail); simp only [Act.put, sA, sB, sC]
        (first | (refine wpAnyH_take (i := 3) (v := ?_) (by simp only [gA, gB, gC]; rfl) (by kernel_rfl) (by kernel_rfl) (by kernel_rfl) (by exact fun _ _ _ h => h) (Or.inl ⟨by rfl, ?_⟩) (by assumption) ?_; rotate_left; (focus (intro w hSw; (try dsimp only at hSw); go_simp; try with_reducible rfl))) | (refine wpAnyH_take (i := 3) (v := undef) (by simp only [gA, gB, gC]; rfl) (by kernel_rfl) (by kernel_rfl) (by kernel_rfl) (by exact fun _ _ _ h => h) (Or.inr ⟨by rfl, rfl⟩) (by assumption) ?_) | fail); simp only [Act.put, sA, sB, sC]
        (first | (refine wpAnyH_take (i := 4) (v := ?_) (by simp only [gA, gB, gC]; rfl) (by kernel_rfl) (by kernel_rfl) (by kernel_rfl) (by exact fun _ _ _ h => h) (Or.inl ⟨by rfl, ?_⟩) (by assumption) ?_; rotate_left; (focus (intro w hSw; (try dsimp only at hSw); go_simp; try with_reducible rfl))) | (refine wpAnyH_take (i := 4) (v := undef) (by simp only [gA, gB, gC]; rfl) (by kernel_rfl) (by kernel_rfl) (by kernel_rfl) (by exact fun _ _ _ h => h) (Or.inr ⟨by rfl, rfl⟩) (by assumption) ?_) | fail); simp only [Act.put, sA, sB, sC]
        (first | (refine wpAnyH_take (i := 5) (v := ?_) (by simp only [gA, gB, gC]; rfl) (by kernel_rfl) (by kernel_rfl) (by kernel_rfl) (by exact fun _ _ _ h => h) (Or.inl ⟨by rfl, ?_⟩) (by assumption) ?_; rotate_left; (focus (intro w hSw; (try dsimp only at hSw); go_simp; try with_reducible rfl))) | (refine wpAnyH_take (i := 5) (v := undef) (by simp only [gA, gB, gC]; rfl) (by kernel_rfl) (by kernel_rfl) (by kernel_rfl) (by exact fun _ _ _ h => h) (Or.inr ⟨by rfl, rfl⟩) (by assumption) ?_) | fail); simp only [Act.put, sA, sB, sC]
        (first | (refine wpAnyH_take (i := 6) (v := ?_) (by simp only [gA, gB, gC]; rfl) (by kernel_rfl) (by kernel_rfl) (by kernel_rfl) (by exact fun _ _ _ h => h) (Or.inl ⟨by rfl, ?_⟩) (by assumption) ?_; rotate_left; (focus (intro w hSw; (try dsimp only at hSw); go_simp; try with_reducible rfl))) | (refine wpAnyH_take (i := 6) (v := undef) (by simp only [gA, gB, gC]; rfl) (by kernel_rfl) (by kernel_rfl) (by kernel_rfl) (by exact fun _ _ _ h => h) (Or.inr ⟨by rfl, rfl⟩) (by assumption) ?_) | fail); simp only [Act.put, sA, sB, sC]
        (first | (refine wpAnyH_take (i := 7) (v := ?_) (by simp only [gA, gB, gC]; rfl) (by kernel_rfl) (by kernel_rfl) (by kernel_rfl) (by exact fun _ _ _ h => h) (Or.inl ⟨by rfl, ?_⟩) (by assumption) ?_; rotate_left; (focus (intro w hSw; (try dsimp only at hSw); go_simp; try with_reducible rfl))) | (refine wpAnyH_take (i := 7) (v := undef) (by simp only [gA, gB, gC]; rfl) (by kernel_rfl) (by kernel_rfl) (by kernel_rfl) (by exact fun _ _ _ h => h) (Or.inr ⟨by rfl, rfl⟩) (by assumption) ?_) | fail); simp only [Act.put, sA, sB, sC]
        (first | (refine wpAnyH_take (i := 8) (v := ?_) (by simp only [gA, gB, gC]; rfl) (by kernel_rfl) (by kernel_rfl) (by kernel_rfl) (by exact fun _ _ _ h => h) (Or.inl ⟨by rfl, ?_⟩) (by assumption) ?_; rotate_left; (focus (intro w hSw; (try dsimp only at hSw); go_simp; try with_reducible rfl))) | (refine wpAnyH_take (i := 8) (v := undef) (by simp only [gA, gB, gC]; rfl) (by kernel_rfl) (by kernel_rfl) (by kernel_rfl) (by exact fun _ _ _ h => h) (Or.inr ⟨by rfl, rfl⟩) (by assumption) ?_) | fail); simp only [Act.put, sA, sB, sC]
        (first | (refine wpAnyH_take (i := 9) (v := ?_) (by simp only [gA, gB, gC]; rfl) (by kernel_rfl) (by kernel_rfl) (by kernel_rfl) (by exact fun _ _ _ h => h) (Or.inl ⟨by rfl, ?_⟩) (by assumption) ?_; rotate_left; (focus (intro w hSw; (try dsimp only at hSw); go_simp; try with_reducible rfl))) | (refine wpAnyH_take (i := 9) (v := undef) (by simp only [gA, gB, gC]; rfl) (by kernel_rfl) (by kernel_rfl) (by kernel_rfl) (by exact fun _ _ _ h => h) (Or.inr ⟨by rfl, rfl⟩) (by assumption) ?_) | fail); simp only [Act.put, sA, sB, sC]
        (first | (refine wpAnyH_take (i := 10) (v := ?_) (by simp only [gA, gB, gC]; rfl) (by kernel_rfl) (by kernel_rfl) (by kernel_rfl) (by exact fun _ _ _ h => h) (Or.inl ⟨by rfl, ?_⟩) (by assumption) ?_; rotate_left; (focus (intro w hSw; (try dsimp only at hSw); go_simp; try with_reducible rfl))) | (refine wpAnyH_take (i := 10) (v := undef) (by simp only [gA, gB, gC]; rfl) (by kernel_rfl) (by kernel_rfl) (by kernel_rfl) (by exact fun _ _ _ h => h) (Or.inr ⟨by rfl, rfl⟩) (by assumption) ?_) | fail); simp only [Act.put, sA, sB, sC]
        refine wpAnyH_done (by kernel_rfl) ?_ _
        cases hg : grEq q p
        · obtain rfl : r = false := by rw [hall.out, hg]; rfl
          go_wp2_with fail
          go_ret
          exact ⟨rfl, h'.bl⟩
        · rw [hg, Bool.true_and] at hall
          go_wp2_with fail
          exact ⟨⟨i + 1, by omega, by simp, h', hall⟩, by simp [Go.RowKit.intOf]; omega⟩
      · obtain rfl : i = la := by omega
        have hr1 : Aside (r = allEq (fun a b : Int => a == b) (x.words.drop 0) (y.words.drop 0)) := by
          have := hall.out
          rw [allEq_end (by rw [hA.out.1]; exact Nat.le_refl _) (by rw [hA.out.2.1]; exact Nat.le_refl _), Bool.true_and] at this
          rw [this, hR2.out]
          exact rfl
        clear hall hR2 kG
        go_wp2_with fail
        clear z6 y6
        go_loopw [6] (fun t6 wr => ∃ j : Nat, j ≤ lw ∧ t6 = .int .i64 (j : Int) ∧ TwoN w wr x y aa ca wa cw ab cb wb cd ∧ Aside (r = allEq (fun a b : Int => a == b) (x.words.drop j) (y.words.drop j))) (fun t6 _ => lw - (Go.RowKit.intOf t6).toNat)
        case atStart => exact ⟨0, by omega, rfl, h, hr1⟩
        case round =>
          obtain ⟨j, hj, rfl, h, hall⟩ := hrel
          clear hr1
          have z11 : wr.cell? ⟨w.heap.size, 11, none⟩ = some (.slice wa lw cw) := by
            have := h.bx.2.2.2.2.2.2.2.2.2.2.2.1
            rw [hA.out.2.2.1] at this
            exact this
          have y11 : wr.cell? ⟨w.heap.size + 1, 11, none⟩ = some (.slice wb lw cd) := by
            have := h.bz.2.2.2.2.2.2.2.2.2.2.2.1
            rw [hA.out.2.2.2] at this
            exact this
          by_cases hlt : j < lw
          · obtain ⟨q, hq⟩ : ∃ q, x.words[j]? = some q := ⟨_, List.getElem?_eq_getElem (by rw [hA.out.2.2.1]; exact hlt)⟩
            obtain ⟨p, hp⟩ : ∃ p, y.words[j]? = some p := ⟨_, List.getElem?_eq_getElem (by rw [hA.out.2.2.2]; exact hlt)⟩
            obtain ⟨u, rfl, c1⟩ := h.wx j q hq
            obtain ⟨v, rfl, d1⟩ := h.wz j p hp
            rw [allEq_drop hq hp] at hall
            clear hq hp
            have hj1 : (j : Int) < (lw : Int) := by omega
            have hS0 : (fun W : World => W.cell? ⟨w.heap.size, 11, none⟩ = some (.slice (some u) lw cw) ∧ W.cell? ⟨w.heap.size + 1, 11, none⟩ = some (.slice (some v) lw cd) ∧ W.cell? (u.add j) = some (.int .i64 q) ∧ W.cell? (v.add j) = some (.int .i64 p)) wr.drew := ⟨z11, y11, c1, d1⟩
            have h' := h.drew
            go_wp2_with fail
            clear z11 y11 c1 d1 h
            refine wp_region_held_drew (S := (fun W : World => W.cell? ⟨w.heap.size, 11, none⟩ = some (.slice (some u) lw cw) ∧ W.cell? ⟨w.heap.size + 1, 11, none⟩ = some (.slice (some v) lw cd) ∧ W.cell? (u.add j) = some (.int .i64 q) ∧ W.cell? (v.add j) = some (.int .i64 p))) (by kernel_rfl) (by exact hS0) ?_
            intro hHeld
            (first | (refine wpAnyH_take (i := 0) (v := ?_) (by simp only [gA, gB, gC]; rfl) (by kernel_rfl) (by kernel_rfl) (by kernel_rfl) (by exact fun _ _ _ h => h) (Or.inl ⟨by rfl, ?_⟩) (by assumption) ?_; rotate_left; (focus (intro w hSw; (try dsimp only at hSw); go_simp; try with_reducible rfl))) | (refine wpAnyH_take (i := 0) (v := undef) (by simp only [gA, gB, gC]; rfl) (by kernel_rfl) (by kernel_rfl) (by kernel_rfl) (by exact fun _ _ _ h => h) (Or.inr ⟨by rfl, rfl⟩) (by assumption) ?_) | fail); simp only [Act.put, sA, sB, sC]
            (first | (refine wpAnyH_take (i := 1) (v := ?_) (by simp only [gA, gB, gC]; rfl) (by kernel_rfl) (by kernel_rfl) (by kernel_rfl) (by exact fun _ _ _ h => h) (Or.inl ⟨by rfl, ?_⟩) (by assumption) ?_; rotate_left; (focus (intro w hSw; (try dsimp only at hSw); go_simp; try with_reducible rfl))) | (refine wpAnyH_take (i := 1) (v := undef) (by simp only [gA, gB, gC]; rfl) (by kernel_rfl) (by kernel_rfl) (by kernel_rfl) (by exact fun _ _ _ h => h) (Or.inr ⟨by rfl, rfl⟩) (by assumption) ?_) | fail); simp only [Act.put, sA, sB, sC]
            (first | (refine wpAnyH_take (i := 2) (v := ?_) (by simp only [gA, gB, gC]; rfl) (by kernel_rfl) (by kernel_rfl) (by kernel_rfl) (by exact fun _ _ _ h => h) (Or.inl ⟨by rfl, ?_⟩) (by assumption) ?_; rotate_left; (focus (intro w hSw; (try dsimp only at hSw); go_simp; try with_reducible rfl))) | (refine wpAnyH_take (i := 2) (v := undef) (by simp only [gA, gB, gC]; rfl) (by kernel_rfl) (by kernel_rfl) (by kernel_rfl) (by exact fun _ _ _ h => h) (Or.inr ⟨by rfl, rfl⟩) (by assumption) ?_) | fail); simp only [Act.put, sA, sB, sC]
            (first | (refine wpAnyH_take (i := 3) (v := ?_) (by simp only [gA, gB, gC]; rfl) (by kernel_rfl) (by kernel_rfl) (by kernel_rfl) (by exact fun _ _ _ h => h) (Or.inl ⟨by rfl, ?_⟩) (by assumption) ?_; rotate_left; (focus (intro w hSw; (try dsimp only at hSw); go_simp; try with_reducible rfl))) | (refine wpAnyH_take (i := 3) (v := undef) (by simp only [gA, gB, gC]; rfl) (by kernel_rfl) (by kernel_rfl) (by kernel_rfl) (by exact fun _ _ _ h => h) (Or.inr ⟨by rfl, rfl⟩) (by assumption) ?_) | fail); simp only [Act.put, sA, sB, sC]
            (first | (refine wpAnyH_take (i := 4) (v := ?_) (by simp only [gA, gB, gC]; rfl) (by kernel_rfl) (by kernel_rfl) (by kernel_rfl) (by exact fun _ _ _ h => h) (Or.inl ⟨by rfl, ?_⟩) (by assumption) ?_; rotate_left; (focus (intro w hSw; (try dsimp only at hSw); go_simp; try with_reducible rfl))) | (refine wpAnyH_take (i := 4) (v := undef) (by simp only [gA, gB, gC]; rfl) (by kernel_rfl) (by kernel_rfl) (by kernel_rfl) (by exact fun _ _ _ h => h) (Or.inr ⟨by rfl, rfl⟩) (by assumption) ?_) | fail); simp only [Act.put, sA, sB, sC]
            (first | (refine wpAnyH_take (i := 5) (v := ?_) (by simp only [gA, gB, gC]; rfl) (by kernel_rfl) (by kernel_rfl) (by kernel_rfl) (by exact fun _ _ _ h => h) (Or.inl ⟨by rfl, ?_⟩) (by assumption) ?_; rotate_left; (focus (intro w hSw; (try dsimp only at hSw); go_simp; try with_reducible rfl))) | (refine wpAnyH_take (i := 5) (v := undef) (by simp only [gA, gB, gC]; rfl) (by kernel_rfl) (by kernel_rfl) (by kernel_rfl) (by exact fun _ _ _ h => h) (Or.inr ⟨by rfl, rfl⟩) (by assumption) ?_) | fail); simp only [Act.put, sA, sB, sC]
            (first | (refine wpAnyH_take (i := 6) (v := ?_) (by simp only [gA, gB, gC]; rfl) (by kernel_rfl) (by kernel_rfl) (by kernel_rfl) (by exact fun _ _ _ h => h) (Or.inl ⟨by rfl, ?_⟩) (by assumption) ?_; rotate_left; (focus (intro w hSw; (try dsimp only at hSw); go_simp; try with_reducible rfl))) | (refine wpAnyH_take (i := 6) (v := undef) (by simp only [gA, gB, gC]; rfl) (by kernel_rfl) (by kernel_rfl) (by kernel_rfl) (by exact fun _ _ _ h => h) (Or.inr ⟨by rfl, rfl⟩) (by assumption) ?_) | fail); simp only [Act.put, sA, sB, sC]
            (first | (refine wpAnyH_take (i := 7) (v := ?_) (by simp only [gA, gB, gC]; rfl) (by kernel_rfl) (by kernel_rfl) (by kernel_rfl) (by exact fun _ _ _ h => h) (Or.inl ⟨by rfl, ?_⟩) (by assumption) ?_; rotate_left; (focus (intro w hSw; (try dsimp only at hSw); go_simp; try with_reducible rfl))) | (refine wpAnyH_take (i := 7) (v := undef) (by simp only [gA, gB, gC]; rfl) (by kernel_rfl) (by kernel_rfl) (by kernel_rfl) (by exact fun _ _ _ h => h) (Or.inr ⟨by rfl, rfl⟩) (by assumption) ?_) | fail); simp only [Act.put, sA, sB, sC]
            (first | (refine wpAnyH_take (i := 8) (v := ?_) (by simp only [gA, gB, gC]; rfl) (by kernel_rfl) (by kernel_rfl) (by kernel_rfl) (by exact fun _ _ _ h => h) (Or.inl ⟨by rfl, ?_⟩) (by assumption) ?_; rotate_left; (focus (intro w hSw; (try dsimp only at hSw); go_simp; try with_reducible rfl))) | (refine wpAnyH_take (i := 8) (v := undef) (by simp only [gA, gB, gC]; rfl) (by kernel_rfl) (by kernel_rfl) (by kernel_rfl) (by exact fun _ _ _ h => h) (Or.inr ⟨by rfl, rfl⟩) (by assumption) ?_) | fail); simp only [Act.put, sA, sB, sC]
            (first | (refine wpAnyH_take (i := 9) (v := ?_) (by simp only [gA, gB, gC]; rfl) (by kernel_rfl) (by kernel_rfl) (by kernel_rfl) (by exact fun _ _ _ h => h) (Or.inl ⟨by rfl, ?_⟩) (by assumption) ?_; rotate_left; (focus (intro w hSw; (try dsimp only at hSw); go_simp; try with_reducible rfl))) | (refine wpAnyH_take (i := 9) (v := undef) (by simp only [gA, gB, gC]; rfl) (by kernel_rfl) (by kernel_rfl) (by kernel_rfl) (by exact fun _ _ _ h => h) (Or.inr ⟨by rfl, rfl⟩) (by assumption) ?_) | fail); simp only [Act.put, sA, sB, sC]
            (first | (refine wpAnyH_take (i := 10) (v := ?_) (by simp only [gA, gB, gC]; rfl) (by kernel_rfl) (by kernel_rfl) (by kernel_rfl) (by exact fun _ _ _ h => h) (Or.inl ⟨by rfl, ?_⟩) (by assumption) ?_; rotate_left; (focus (intro w hSw; (try dsimp only at hSw); go_simp; try with_reducible rfl))) | (refine wpAnyH_take (i := 10) (v := undef) (by simp only [gA, gB, gC]; rfl) (by kernel_rfl) (by kernel_rfl) (by kernel_rfl) (by exact fun _ _ _ h => h) (Or.inr ⟨by rfl, rfl⟩) (by assumption) ?_) | fail); simp only [Act.put, sA, sB, sC]
            refine wpAnyH_done (by kernel_rfl) ?_ _
            cases hg : (q == p)
            · have hg2 : (q != p) = true := by rw [bne, hg]; rfl
              obtain rfl : r = false := by rw [hall.out, hg]; rfl
              go_wp2_with fail
              go_ret
              exact ⟨rfl, h'.bl⟩
            · have hg2 : (q != p) = false := by rw [bne, hg]; rfl
              rw [hg, Bool.true_and] at hall
              clear hg
              go_wp2_with fail
              exact ⟨⟨j + 1, by omega, by simp, h', hall⟩, by simp [Go.RowKit.intOf]; omega⟩
          · obtain rfl : r = true := by
              rw [hall.out]
              exact allEq_end (by have := hA.out.2.2.1; omega) (by have := hA.out.2.2.2; omega)
            go_wp2_with fail
            go_ret
            exact ⟨rfl, h.bl⟩
end Go.Proofs.YtapgjdmnlkedgaaDoor

/-! WHAT CHECK ANSWERS OF TEXTS THAT WERE TURNED, AND OF PATHS THAT ARE TOO DEEP, OR TOO LONG. -/
namespace Go.Proofs.YtapgjdmnlkedgaaDoor
set_option linter.unusedSimpArgs false
set_option linter.unusedVariables false

theorem check_three (u : ByteArray) : checkOf u = 0 ∨ checkOf u = 1 ∨ checkOf u = 5 ∧ 78 < u.size := by
  unfold checkOf
  split
  · rename_i h; exact .inr (.inr ⟨rfl, h⟩)
  · split
    · exact .inl rfl
    · split
      · exact .inr (.inl rfl)
      · split
        · exact .inr (.inl rfl)
        · split
          · exact .inl rfl
          · exact .inr (.inl rfl)
/-- Every byte of a path is a slash, or one that a name may have. -/
theorem body_mem : ∀ (ns : List ByteArray), (∀ n ∈ ns, name n = true) → ∀ c ∈ body ns, c = 47 ∨ okB c = true
  | [], _, c, hc => by cases hc
  | n :: r, h, c, hc => by
    rcases List.mem_cons.1 hc with rfl | hc
    · exact .inl rfl
    · rcases List.mem_append.1 hc with hc | hc
      · have := h n (by simp)
        simp only [name, Bool.and_eq_true, decide_eq_true_eq, List.all_eq_true] at this
        exact .inr (this.2.2 c hc)
      · exact body_mem r (fun x hx => h x (by simp [hx])) c hc
/-- A byte that no name has: no path. -/
theorem check_bad {u : ByteArray} {c : UInt8} (hc : c ∈ bytes u) (h47 : c ≠ 47) (hok : okB c = false) (hs : u.size ≤ 78) : checkOf u = 1 := by
  rcases check_three u with h | h | ⟨_, h⟩
  · obtain ⟨ns, hn, rfl, _⟩ := check_path h
    exfalso
    by_cases h0 : ns = []
    · subst h0
      rw [pathB_nil, bytes_slash] at hc
      simp at hc
      exact h47 hc
    · rw [pathB_bytes h0] at hc
      rcases body_mem ns hn.2 c hc with h | h
      · exact h47 h
      · rw [hok] at h; cases h
  · exact h
  · omega
theorem skip_flat {X B : List UInt8} : ∀ (m : List UInt8), (∀ c ∈ m, c ≠ 47) → (∀ A, X ≠ A ++ 47 :: 47 :: B) → ∀ A, m ++ X = A ++ 47 :: 47 :: B → False
  | [], _, hX, A, e => hX A e
  | c :: t, hf, hX, [], e => by
    simp only [List.nil_append, List.cons_append, List.cons.injEq] at e
    exact hf c (by simp) e.1
  | c :: t, hf, hX, a :: A, e => by
    simp only [List.cons_append, List.cons.injEq] at e
    exact skip_flat t (fun x hx => hf x (by simp [hx])) hX A e.2
/-- No two slashes side by side. -/
theorem body_single : ∀ (ns : List ByteArray), (∀ n ∈ ns, Flat n ∧ 1 ≤ n.size) → ∀ A B : List UInt8, body ns ≠ A ++ 47 :: 47 :: B
  | [], _, A, B => by simp [body]
  | n :: r, h, A, B => by
    obtain ⟨hf, h1⟩ := h n (by simp)
    intro e
    simp only [body] at e
    cases A with
    | nil =>
      simp only [List.nil_append, List.cons.injEq, true_and] at e
      cases hb : bytes n with
      | nil => rw [← bytes_len, hb] at h1; simp at h1
      | cons c t =>
        rw [hb] at e
        simp only [List.cons_append, List.cons.injEq] at e
        exact hf c (by rw [hb]; simp) e.1
    | cons a A =>
      simp only [List.cons_append, List.cons.injEq] at e
      exact skip_flat (bytes n) hf (fun A => body_single r (fun x hx => h x (by simp [hx])) A B) A e.2
theorem check_twice {u : ByteArray} {A B : List UInt8} (h : bytes u = A ++ 47 :: 47 :: B) : checkOf u ≠ 0 := by
  intro h0
  obtain ⟨ns, hn, rfl, _⟩ := check_path h0
  by_cases hne : ns = []
  · subst hne
    rw [pathB_nil, bytes_slash] at h
    have := congrArg List.length h
    simp at this
    omega
  · rw [pathB_bytes hne] at h
    exact body_single ns hn.flat A B h
/-- What Check answers of names one behind the other, whatever they are. -/
theorem check_any_names {ns : List ByteArray} (hf : ∀ n ∈ ns, Flat n ∧ 1 ≤ n.size) (hne : ns ≠ []) : checkOf (pathB ns) = if 78 < (pathB ns).size then 5 else if 6 < ns.length then 1 else if ns.all name = true then 0 else 1 := by
  unfold checkOf
  split
  · rfl
  · rw [if_neg (fun e => hne ((path_root (fun n hn => (hf n hn).2)).1 e)), parts_path hf]
    have hb : bytes (pathB ns) = body ns := pathB_bytes hne
    have h2 : ¬ ((pathB ns).size < 2 ∨ (pathB ns).data.toList.getD 0 0 ≠ 47) := by
      cases ns with
      | nil => exact absurd rfl hne
      | cons n r =>
        have := (hf n (by simp)).2
        rw [not_or]
        constructor
        · rw [← bytes_len, hb]
          simp only [body, List.length_cons, List.length_append]
          rw [bytes_len]
          omega
        · show ¬ (bytes (pathB (n :: r))).getD 0 0 ≠ 47
          rw [hb]
          simp [body]
    rw [if_neg h2]
/-- A byte of a text turned into another text. -/
def turnAt (u : ByteArray) (k : Nat) (t : ByteArray) : ByteArray := u.extract 0 k ++ t ++ u.extract (k + 1) u.size
theorem turn_bytes (u : ByteArray) (k : Nat) (t : ByteArray) : bytes (turnAt u k t) = (bytes u).take k ++ (bytes t ++ (bytes u).drop (k + 1)) := by
  unfold turnAt
  rw [bytes_append, bytes_append, bytes_extract, bytes_extract, List.drop_zero, List.take_of_length_le (Nat.le_of_eq (bytes_len u)), List.append_assoc]
theorem turn_bad {u : ByteArray} {k : Nat} (hk : k < u.size) (hs : u.size ≤ 78) {c : UInt8} (h47 : c ≠ 47) (hok : okB c = false) : checkOf (turnAt u k ⟨#[c]⟩) = 1 := by
  refine check_bad (c := c) ?_ h47 hok ?_
  · rw [turn_bytes]
    simp [bytes]
  · rw [← bytes_len, turn_bytes]
    have := bytes_len u
    simp [bytes] at this ⊢
    omega
theorem turn_twice (u : ByteArray) (k : Nat) : checkOf (turnAt u k ⟨#[47, 47]⟩) ≠ 0 :=
  check_twice (A := (bytes u).take k) (B := (bytes u).drop (k + 1)) (by rw [turn_bytes]; rfl)
end Go.Proofs.YtapgjdmnlkedgaaDoor

/-! PACKAGE path: Name (a range over the text's runes), Join, and the last slash's functions, against the plain functions. -/
namespace Go.Proofs.YtapgjdmnlkedgaaDoor
open Go.RowKit
set_option maxRecDepth 8000
set_option linter.unusedSimpArgs false
set_option linter.unusedVariables false
set_option maxHeartbeats 1000000 in
theorem join_any (p n : ByteArray) (hp : p.size ≤ 1000000) (hn : n.size ≤ 1000000) (w : World) :
    Calls Tryd.prog 42 #[.string p, .string n] w fun e w' => e = .returned (.string (joinOf p n)) ∧ w' = w := by
  have b1 : ¬ 9223372036854775807 < 1 + n.size := by omega
  have b2 : ¬ 9223372036854775807 < p.size + 1 := by omega
  have b3 : ¬ 9223372036854775807 < p.size + 1 + n.size := by omega
  unfold joinOf
  cases h : eqs p slashS
  · have hl := eqs_lit false h
    have hl2 : ¬ p.toList = [47] := by simpa using hl
    rw [if_neg (by simp)]
    go_enter Tryd.func42, Tryd.ntmps42
    go_wp2
    go_ret
    exact ⟨rfl, rfl⟩
  · have hl := eqs_lit true h
    have hl2 : p.toList = [47] := by simpa using hl
    have hp2 : Aside (p = slashS) := eqs_iff.1 h
    rw [if_pos rfl]
    go_enter Tryd.func42, Tryd.ntmps42
    go_wp2
    go_ret
    exact ⟨by rw [hp2.out]; rfl, rfl⟩
end Go.Proofs.YtapgjdmnlkedgaaDoor

/-! WHAT THE LIBRARY'S Split, TrimPrefix, HasPrefix AND LastIndex TELL OF PATHS, IN PLAIN WORDS. -/
namespace Go.Proofs.YtapgjdmnlkedgaaDoor
set_option linter.unusedSimpArgs false
set_option linter.unusedVariables false

theorem occ_slash (l : List UInt8) (j : Nat) : Lib.occAt l [47] j = true ↔ l[j]? = some 47 := by
  have e : l[j]? = (l.drop j)[0]? := by rw [List.getElem?_drop]; rfl
  unfold Lib.occAt
  rw [e]
  cases l.drop j with
  | nil => simp
  | cons a t =>
    simp [List.isPrefixOf]
    exact eq_comm
/-- The pieces of a text that is cut at each slash. -/
theorem split_slash : ∀ (k : Nat) (t : ByteArray), Lib.countB t slashS = k → (∀ x ∈ Lib.splitB slashS 0 k t, Flat x) ∧ body (Lib.splitB slashS 0 k t) = 47 :: bytes t := by
  intro k
  induction k with
  | zero =>
    intro t hk
    rcases Lib.index_spec (bytes t) [47] with ⟨hm, hno⟩ | ⟨i, hi, hle, ho, hno⟩
    · rw [Lib.splitB_zero]
      refine ⟨?_, by rw [body_one]⟩
      intro x hx
      simp at hx
      subst hx
      intro c hc e
      subst e
      obtain ⟨j, hj, he⟩ := List.mem_iff_getElem.1 hc
      have := hno j (by omega)
      rw [(occ_slash _ _).2 (by rw [List.getElem?_eq_getElem hj, he])] at this
      cases this
    · have hx : Lib.indexB t slashS = i := hi
      rw [Lib.countB_hit t slashS i (by decide) hx] at hk
      omega
  | succ k ih =>
    intro t hk
    rcases Lib.index_spec (bytes t) [47] with ⟨hm, hno⟩ | ⟨i, hi, hle, ho, hno⟩
    · have hx : Lib.indexB t slashS = -1 := hm
      rw [Lib.countB_miss t slashS hx] at hk
      omega
    · have hx : Lib.indexB t slashS = i := hi
      have hc := Lib.countB_hit t slashS i (by decide) hx
      rw [Lib.splitB_hit slashS 0 k t i hx]
      obtain ⟨h1, h2⟩ := ih (t.extract (i + slashS.size) t.size) (by omega)
      refine ⟨?_, ?_⟩
      · intro x hx
        rcases List.mem_cons.1 hx with rfl | hx
        · intro c hc e
          subst e
          rw [bytes_extract, List.drop_zero] at hc
          obtain ⟨j, hj, he⟩ := List.mem_iff_getElem.1 hc
          rw [List.length_take] at hj
          rw [List.getElem_take] at he
          have := hno j (by omega)
          rw [(occ_slash _ _).2 (by rw [List.getElem?_eq_getElem (by omega), he])] at this
          cases this
        · exact h1 x hx
      · show 47 :: (bytes (t.extract 0 (i + 0)) ++ body (Lib.splitB slashS 0 k (t.extract (i + slashS.size) t.size))) = _
        rw [h2, bytes_extract, bytes_extract, List.drop_zero, List.take_of_length_le (Nat.le_of_eq (bytes_len t))]
        have hg := (occ_slash _ _).1 ho
        obtain ⟨hlt, hv⟩ := List.getElem?_eq_some_iff.1 hg
        congr 1
        conv => rhs; rw [← List.take_append_drop i (bytes t), List.drop_eq_getElem_cons hlt, hv]
        rfl
theorem head_pos {u : ByteArray} (h0 : (bytes u).getD 0 0 = 47) : ∃ t, bytes u = 47 :: t := by
  cases h : bytes u with
  | nil => rw [h] at h0; cases h0
  | cons a t =>
    rw [h] at h0
    simp at h0
    exact ⟨t, by rw [h0]⟩
theorem prefix_slash (u : ByteArray) : Lib.hasPrefix (bytes u) [47] = decide ((bytes u).getD 0 0 = 47) := by
  unfold Lib.hasPrefix
  cases bytes u with
  | nil => rfl
  | cons a t =>
    simp [List.isPrefixOf]
    by_cases h : a = 47
    · simp [h]
    · simp [h]; exact fun e => h e.symm
def trimS (u : ByteArray) : ByteArray := ⟨(Lib.trimPrefix (bytes u) [47]).toArray⟩
def ppartsOf (u : ByteArray) : List ByteArray := if eqs u slashS = true then [] else Lib.splitB slashS 0 (Lib.countB (trimS u) slashS) (trimS u)
theorem slash_size : slashS.size = 1 := rfl
theorem pparts_eq {u : ByteArray} (h0 : (bytes u).getD 0 0 = 47) : ppartsOf u = partsOf u := by
  obtain ⟨t, ht⟩ := head_pos h0
  unfold ppartsOf
  by_cases e : eqs u slashS = true
  · rw [if_pos e, eqs_iff.1 e]
    rfl
  · rw [if_neg e]
    have hs2 : 2 ≤ u.size := by
      rcases Nat.lt_or_ge u.size 2 with h | h
      · exfalso
        apply e
        rw [eqs_bytes, bytes_slash, ht]
        rw [← bytes_len, ht] at h
        cases t with
        | nil => rfl
        | cons a b => simp at h; omega
      · exact h
    obtain ⟨h1, h2⟩ := split_slash _ (trimS u) rfl
    obtain ⟨h3, _⟩ := parts_whole h0 hs2
    refine body_inj _ _ h1 (parts_flat u) ?_
    rw [h2, h3]
    have : bytes (trimS u) = t := by
      show Lib.trimPrefix (bytes u) [47] = t
      unfold Lib.trimPrefix
      rw [prefix_slash, h0, ht]
      rfl
    rw [this, ht]
theorem trim_size (u : ByteArray) : (trimS u).size ≤ u.size := by
  rw [← bytes_len, ← bytes_len]
  show (Lib.trimPrefix (bytes u) [47]).length ≤ _
  unfold Lib.trimPrefix
  split
  · simp
  · exact Nat.le_refl _
theorem body_mem_size : ∀ (l : List ByteArray) (x : ByteArray), x ∈ l → x.size ≤ (body l).length
  | [], x, h => by cases h
  | n :: r, x, h => by
    simp only [body, List.length_cons, List.length_append]
    rw [bytes_len]
    rcases List.mem_cons.1 h with rfl | h
    · omega
    · have := body_mem_size r x h
      omega
theorem pparts_small (u : ByteArray) : ∀ x ∈ ppartsOf u, x.size ≤ u.size + 1 := by
  intro x hx
  unfold ppartsOf at hx
  split at hx
  · cases hx
  · obtain ⟨_, h2⟩ := split_slash _ (trimS u) rfl
    have := body_mem_size _ x hx
    rw [h2, List.length_cons, bytes_len] at this
    have := trim_size u
    omega
theorem body_count : ∀ (l : List ByteArray), l.length ≤ (body l).length
  | [] => Nat.le_refl _
  | n :: r => by
    have := body_count r
    simp only [body, List.length_cons, List.length_append]
    omega
theorem pparts_count (u : ByteArray) : (ppartsOf u).length ≤ u.size + 1 := by
  unfold ppartsOf
  split
  · simp
  · obtain ⟨_, h2⟩ := split_slash _ (trimS u) rfl
    have := body_count (Lib.splitB slashS 0 (Lib.countB (trimS u) slashS) (trimS u))
    rw [h2, List.length_cons, bytes_len] at this
    have := trim_size u
    omega
/-- What the program's Check answers is the document's. -/
theorem pcheck_eq (u : ByteArray) : (if 78 < u.size then (5 : Int) else if Lib.hasPrefix (bytes u) [47] = false then 1 else if 6 < (ppartsOf u).length then 1 else if (ppartsOf u).all name = true then 0 else 1) = checkOf u := by
  unfold checkOf
  rw [prefix_slash]
  by_cases h78 : 78 < u.size
  · rw [if_pos h78, if_pos h78]
  rw [if_neg h78, if_neg h78]
  by_cases h0 : (bytes u).getD 0 0 = 47
  · rw [if_neg (by rw [h0]; decide), pparts_eq h0]
    by_cases e : eqs u slashS = true
    · rw [if_pos e]
      have hp : partsOf u = [] := by rw [eqs_iff.1 e]; rfl
      rw [hp]
      rfl
    · rw [if_neg e, if_neg (c := u.size < 2 ∨ _)]
      rw [not_or]
      refine ⟨fun h => e ?_, fun h => h h0⟩
      obtain ⟨t, ht⟩ := head_pos h0
      rw [eqs_bytes, bytes_slash, ht]
      rw [← bytes_len, ht] at h
      cases t with
      | nil => rfl
      | cons a b => simp at h; omega
  · rw [if_pos (by simpa using h0), if_neg (c := eqs u slashS = true), if_pos (.inr h0)]
    intro e
    rw [eqs_iff.1 e] at h0
    exact h0 rfl

theorem byte_bang (u : ByteArray) (k : Nat) (h : k < u.size) : u.data[k]! = (bytes u).getD k 0 := by
  have hk : k < u.data.size := h
  rw [List.getD_eq_getElem?_getD, Array.getElem?_toList, getElem!_pos u.data k hk, Array.getElem?_eq_getElem hk]
  rfl
theorem byte_is (c : UInt8) : ((c.toNat : Int) = 47) ↔ c = 47 :=
  ⟨fun h => by apply UInt8.toNat_inj.1; have : c.toNat = 47 := by omega
               rw [this]; rfl, fun h => by rw [h]; rfl⟩
theorem last_slash {u : ByteArray} (h0 : (bytes u).getD 0 0 = 47) : ∀ k, 1 ≤ k → k ≤ u.size → Lib.lastIdx u 47 k = (slashTo u k : Nat)
  | 0, h, _ => by omega
  | 1, _, h => by
    unfold Lib.lastIdx slashTo
    rw [byte_bang u 0 (by omega), if_pos ((byte_is _).2 h0), if_pos h0]
  | k + 2, _, h => by
    unfold Lib.lastIdx slashTo
    rw [byte_bang u (k + 1) (by omega)]
    by_cases hc : (bytes u).getD (k + 1) 0 = 47
    · rw [if_pos ((byte_is _).2 hc), if_pos hc]
    · rw [if_neg (fun e => hc ((byte_is _).1 e)), if_neg hc]
      exact last_slash h0 (k + 1) (by omega) (by omega)
theorem last_index {u : ByteArray} (h0 : (bytes u).getD 0 0 = 47) : Lib.lastIndexByte u 47 = (slashTo u u.size : Nat) := by
  obtain ⟨t, ht⟩ := head_pos h0
  have h1 : 1 ≤ u.size := by rw [← bytes_len, ht]; simp
  exact last_slash h0 _ h1 (Nat.le_refl _)

/-- What the program's In answers. -/
def pinOf (u v : ByteArray) : Bool := decide ((joinOf v ⟨#[]⟩).size < u.size) && Lib.hasPrefix (bytes u) (bytes (joinOf v ⟨#[]⟩))
theorem pin_path {a b : List ByteArray} (ha : ∀ n ∈ a, Flat n ∧ 1 ≤ n.size) (hb : ∀ n ∈ b, Flat n ∧ 1 ≤ n.size) : pinOf (pathB a) (pathB b) = true ↔ ∃ c, a = b ++ c ∧ c ≠ [] := by
  have hj : joinOf (pathB b) ⟨#[]⟩ = pathB (b ++ [⟨#[]⟩]) := join_path _ (fun n hn => (hb n hn).2)
  have hjb : bytes (pathB (b ++ [⟨#[]⟩])) = body b ++ [47] := by
    rw [pathB_bytes (by simp), body_append, body_one]
  unfold pinOf
  rw [hj, hjb, ← bytes_len, ← bytes_len, hjb]
  simp only [Bool.and_eq_true, decide_eq_true_eq, Lib.hasPrefix, List.isPrefixOf_iff_prefix, List.length_append, List.length_cons, List.length_nil]
  constructor
  · rintro ⟨h1, r, h2⟩
    have hane : a ≠ [] := by
      rintro rfl
      rw [pathB_nil, bytes_slash] at h1
      simp at h1
    rw [pathB_bytes hane] at h2
    refine body_prefix b a r (fun n hn => (hb n hn).1) (fun n hn => (ha n hn).1) ?_
    rw [← h2]
    simp
  · rintro ⟨c, rfl, hne⟩
    cases c with
    | nil => exact absurd rfl hne
    | cons n r =>
      have h1 := (ha n (by simp)).2
      rw [pathB_bytes (by simp), body_append]
      refine ⟨?_, bytes n ++ body r, by simp [body]⟩
      rw [List.length_append]
      simp only [body, List.length_cons, List.length_append]
      rw [bytes_len]
      omega
theorem pin_eq {a b : List ByteArray} (ha : ∀ n ∈ a, Flat n ∧ 1 ≤ n.size) (hb : ∀ n ∈ b, Flat n ∧ 1 ≤ n.size) : pinOf (pathB a) (pathB b) = inOf (pathB a) (pathB b) := by
  have h1 := pin_path ha hb
  have h2 := in_path ha hb
  cases h : inOf (pathB a) (pathB b)
  · cases h' : pinOf (pathB a) (pathB b)
    · rfl
    · rw [h2.2 (h1.1 h')] at h; cases h
  · exact h1.2 (h2.1 h)
theorem path_head {ns : List ByteArray} : (bytes (pathB ns)).getD 0 0 = 47 := by
  cases ns with
  | nil => rw [pathB_nil]; rfl
  | cons n r => rw [pathB_bytes (by simp)]; rfl
end Go.Proofs.YtapgjdmnlkedgaaDoor

/-! strings.HasPrefix, TrimPrefix, Split AND LastIndex AT THIS PROGRAM: the library of contracts laid in plain words, and the calls. -/
namespace Go.Proofs.YtapgjdmnlkedgaaDoor
open Go.RowKit Go.Shelf
def laysHas_ren : Go.Shelf.Ren := ⟨fun | 99 => 51 | 206 => 61 | n => n, fun | 9 => 9 | 4 => 4 | 3 => 3 | n => n, fun | n => n⟩
theorem laysHas : Go.Proofs.Lays.n99 Tryd.prog laysHas_ren := {
  mixed := by kernel_rfl
  f99 := Tryd.func51.trans (congrArg some (by kernel_rfl))
  f206 := Tryd.func61.trans (congrArg some (by kernel_rfl))
  t3 := Tryd.underlying3
  a3 := Tryd.isAgg3
  z3 := Tryd.sizeOf3
  v3 := Tryd.zeroValue3
  t4 := Tryd.underlying4
  a4 := Tryd.isAgg4
  z4 := Tryd.sizeOf4
  v4 := Tryd.zeroValue4
  t9 := Tryd.underlying9
  a9 := Tryd.isAgg9
  z9 := Tryd.sizeOf9
  v9 := Tryd.zeroValue9 }
def laysTrim_ren : Go.Shelf.Ren := ⟨fun | 101 => 55 | 208 => 65 | 206 => 61 | n => n, fun | 9 => 9 | 4 => 4 | 3 => 3 | n => n, fun | n => n⟩
theorem laysTrim : Go.Proofs.Lays.n101 Tryd.prog laysTrim_ren := {
  mixed := by kernel_rfl
  f101 := Tryd.func55.trans (congrArg some (by kernel_rfl))
  f206 := Tryd.func61.trans (congrArg some (by kernel_rfl))
  f208 := Tryd.func65.trans (congrArg some (by kernel_rfl))
  t3 := Tryd.underlying3
  a3 := Tryd.isAgg3
  z3 := Tryd.sizeOf3
  v3 := Tryd.zeroValue3
  t4 := Tryd.underlying4
  a4 := Tryd.isAgg4
  z4 := Tryd.sizeOf4
  v4 := Tryd.zeroValue4
  t9 := Tryd.underlying9
  a9 := Tryd.isAgg9
  z9 := Tryd.sizeOf9
  v9 := Tryd.zeroValue9 }
def laysSplit_ren : Go.Shelf.Ren := ⟨fun | 146 => 54 | 221 => 64 | 268 => 74 | 138 => 75 | 143 => 76 | 195 => 78 | 197 => 79 | 218 => 80 | 219 => 81 | 260 => 83 | 217 => 84 | 225 => 85 | 224 => 86 | 267 => 87 | 266 => 88 | 314 => 89 | n => n, fun | 9 => 9 | 31 => 83 | 3 => 3 | 4 => 4 | 0 => 0 | 105 => 108 | 21 => 21 | 5 => 5 | 46 => 107 | 119 => 111 | 139 => 114 | 138 => 113 | 146 => 104 | 51 => 103 | n => n, fun | 1 => 0 | 3 => 1 | 4 => 2 | n => n⟩
theorem laysSplit : Go.Proofs.Lays.n146 Tryd.prog laysSplit_ren := {
  mixed := by kernel_rfl
  f138 := Tryd.func75.trans (congrArg some (by kernel_rfl))
  f143 := Tryd.func76.trans (congrArg some (by kernel_rfl))
  f146 := Tryd.func54.trans (congrArg some (by kernel_rfl))
  f195 := Tryd.func78.trans (congrArg some (by kernel_rfl))
  f197 := Tryd.func79.trans (congrArg some (by kernel_rfl))
  f217 := Tryd.func84.trans (congrArg some (by kernel_rfl))
  f218 := Tryd.func80.trans (congrArg some (by kernel_rfl))
  f219 := Tryd.func81.trans (congrArg some (by kernel_rfl))
  f221 := Tryd.func64.trans (congrArg some (by kernel_rfl))
  f224 := Tryd.func86.trans (congrArg some (by kernel_rfl))
  f225 := Tryd.func85.trans (congrArg some (by kernel_rfl))
  f260 := Tryd.func83.trans (congrArg some (by kernel_rfl))
  f266 := Tryd.func88.trans (congrArg some (by kernel_rfl))
  f267 := Tryd.func87.trans (congrArg some (by kernel_rfl))
  f268 := Tryd.func74.trans (congrArg some (by kernel_rfl))
  f314 := Tryd.func89.trans (congrArg some (by kernel_rfl))
  t0 := Tryd.underlying0
  a0 := Tryd.isAgg0
  z0 := Tryd.sizeOf0
  v0 := Tryd.zeroValue0
  t3 := Tryd.underlying3
  a3 := Tryd.isAgg3
  z3 := Tryd.sizeOf3
  v3 := Tryd.zeroValue3
  t4 := Tryd.underlying4
  a4 := Tryd.isAgg4
  z4 := Tryd.sizeOf4
  v4 := Tryd.zeroValue4
  t5 := Tryd.underlying5
  a5 := Tryd.isAgg5
  z5 := Tryd.sizeOf5
  v5 := Tryd.zeroValue5
  t9 := Tryd.underlying9
  a9 := Tryd.isAgg9
  z9 := Tryd.sizeOf9
  v9 := Tryd.zeroValue9
  t21 := Tryd.underlying21
  a21 := Tryd.isAgg21
  z21 := Tryd.sizeOf21
  v21 := Tryd.zeroValue21
  t31 := Tryd.underlying83
  a31 := Tryd.isAgg83
  z31 := Tryd.sizeOf83
  v31 := Tryd.zeroValue83
  t46 := Tryd.underlying107
  a46 := Tryd.isAgg107
  z46 := Tryd.sizeOf107
  v46 := Tryd.zeroValue107
  t51 := Tryd.underlying103
  a51 := Tryd.isAgg103
  z51 := Tryd.sizeOf103
  v51 := Tryd.zeroValue103
  t105 := Tryd.underlying108
  a105 := Tryd.isAgg108
  z105 := Tryd.sizeOf108
  v105 := Tryd.zeroValue108
  t119 := Tryd.underlying111
  a119 := Tryd.isAgg111
  z119 := Tryd.sizeOf111
  t138 := Tryd.underlying113
  a138 := Tryd.isAgg113
  z138 := Tryd.sizeOf113
  v138 := Tryd.zeroValue113
  t139 := Tryd.underlying114
  a139 := Tryd.isAgg114
  z139 := Tryd.sizeOf114
  v139 := Tryd.zeroValue114
  t146 := Tryd.underlying104
  a146 := Tryd.isAgg104
  z146 := Tryd.sizeOf104
  v146 := Tryd.zeroValue104
  g1 := by kernel_rfl
  g3 := by kernel_rfl
  g4 := by kernel_rfl }
def laysLast_ren : Go.Shelf.Ren := ⟨fun | 148 => 53 | 222 => 62 | 223 => 63 | 269 => 73 | n => n, fun | 9 => 9 | 3 => 3 | 4 => 4 | 5 => 5 | 146 => 104 | 51 => 103 | 46 => 107 | n => n, fun | n => n⟩
theorem laysLast : Go.Proofs.Lays.n148 Tryd.prog laysLast_ren := {
  mixed := by kernel_rfl
  f148 := Tryd.func53.trans (congrArg some (by kernel_rfl))
  f222 := Tryd.func62.trans (congrArg some (by kernel_rfl))
  f223 := Tryd.func63.trans (congrArg some (by kernel_rfl))
  f269 := Tryd.func73.trans (congrArg some (by kernel_rfl))
  t3 := Tryd.underlying3
  a3 := Tryd.isAgg3
  z3 := Tryd.sizeOf3
  v3 := Tryd.zeroValue3
  t4 := Tryd.underlying4
  a4 := Tryd.isAgg4
  z4 := Tryd.sizeOf4
  v4 := Tryd.zeroValue4
  t5 := Tryd.underlying5
  a5 := Tryd.isAgg5
  z5 := Tryd.sizeOf5
  v5 := Tryd.zeroValue5
  t9 := Tryd.underlying9
  a9 := Tryd.isAgg9
  z9 := Tryd.sizeOf9
  v9 := Tryd.zeroValue9
  t46 := Tryd.underlying107
  a46 := Tryd.isAgg107
  z46 := Tryd.sizeOf107
  v46 := Tryd.zeroValue107
  t51 := Tryd.underlying103
  a51 := Tryd.isAgg103
  z51 := Tryd.sizeOf103
  v51 := Tryd.zeroValue103
  t146 := Tryd.underlying104
  a146 := Tryd.isAgg104
  z146 := Tryd.sizeOf104
  v146 := Tryd.zeroValue104 }

theorem has_any (s p : ByteArray) (w : World) : Calls Tryd.prog 51 #[.string s, .string p] w fun e w' => e = .returned (.bool (Lib.hasPrefix (bytes s) (bytes p))) ∧ w' = w :=
  Any.strings_HasPrefix laysHas s p w
theorem trim_any (s : ByteArray) (w : World) : Calls Tryd.prog 55 #[.string s, .string ⟨#[47]⟩] w fun e w' => e = .returned (.string (trimS s)) ∧ w' = w :=
  Any.strings_TrimPrefix laysTrim s ⟨#[47]⟩ w
theorem lastIndex_any (s : ByteArray) (hs : s.size ≤ 1000000) (w : World) : Calls Tryd.prog 53 #[.string s, .string ⟨#[47]⟩] w fun e w' => e = .returned (.int .i64 (Lib.lastIndexByte s 47)) ∧ w' = w :=
  Any.strings_LastIndex_one laysLast s ⟨#[47]⟩ rfl (by omega) w
theorem split_any (s : ByteArray) (m : Int) (w : World) (hs : s.size ≤ 1000000) (hm : w.cell? ⟨0, 0, none⟩ = some (.int .i64 m)) :
    Calls Tryd.prog 54 #[.string s, .string ⟨#[47]⟩] w fun e w' =>
      e = .returned (.slice (some ⟨w.heap.size, 0, none⟩) (Lib.countB s slashS + 1) (Lib.countB s slashS + 1)) ∧ w' = w.alloc (.cells ((Lib.splitB slashS 0 (Lib.countB s slashS) s).map Value.string).toArray 9) :=
  Any.strings_Split laysSplit (by kernel_rfl) s slashS m w (by omega) hm (by decide)
end Go.Proofs.YtapgjdmnlkedgaaDoor

/-! PACKAGE path: Parts, Check, Parent, Last, In, against the plain functions; the chapter's examples. -/
namespace Go.Proofs.YtapgjdmnlkedgaaDoor
open Go.RowKit
set_option maxRecDepth 8000
set_option linter.unusedSimpArgs false
set_option linter.unusedVariables false

/-- The library's variable that its searches read holds an int. -/
def MaxV (w : World) : Prop := ∃ m, w.cell? ⟨0, 0, none⟩ = some (.int .i64 m)
theorem MaxV.below {w w' : World} (h : MaxV w) (b : Below w.heap.size w w') : MaxV w' := by
  obtain ⟨m, hm⟩ := h
  exact ⟨m, (b.cell (World.block_lt_of_cell? _ _ hm)).trans hm⟩
set_option maxHeartbeats 1000000 in
theorem parts_any (u : ByteArray) (hu : u.size ≤ 100000) (w : World) (hV : MaxV w) :
    Calls Tryd.prog 40 #[.string u] w fun e w' => ∃ v, e = .returned v ∧ OwnS w' w.heap.size v (ppartsOf u) ∧ Below w.heap.size w w' := by
  unfold ppartsOf
  cases h : eqs u slashS
  · have hl := eqs_lit false h
    have hl2 : ¬ u.toList = [47] := by simpa using hl
    rw [if_neg (by simp)]
    obtain ⟨m, hm⟩ := hV
    have cT := trim_any u
    have hts := trim_size u
    obtain ⟨t, ht⟩ : ∃ t, trimS u = t := ⟨_, rfl⟩
    rw [ht] at cT hts ⊢
    have hlen := Lib.splitB_all slashS (by decide) 0 _ t rfl
    have hcl := Lib.countB_le slashS (by decide) t.size t (Nat.le_refl _)
    have cS := split_any t m w (by omega) hm
    obtain ⟨k, hk⟩ : ∃ k, Lib.countB t slashS = k := ⟨_, rfl⟩
    rw [hk] at cS hlen hcl ⊢
    obtain ⟨l, hl⟩ : ∃ l, Lib.splitB slashS 0 k t = l := ⟨_, rfl⟩
    rw [hl] at cS hlen ⊢
    have hown : OwnS (w.alloc (.cells (l.map Value.string).toArray 9)) w.heap.size (.slice (some ⟨w.heap.size, 0, none⟩) (k + 1) (k + 1)) l := by
      have := World.ownsRow_lit (base := w.heap.size) (e := 9) (size := 1) w (l.map Value.string).toArray (k + 1) (Nat.le_refl _) (by simp only [maxLen]; omega) (by simp; omega)
      unfold OwnS
      rw [hlen]
      simpa using this
    go_enter Tryd.func40, Tryd.ntmps40
    go_wp2_with fail
    refine (cT _).mono ?_
    rintro e w' ⟨rfl, hw'⟩
    have hw' := hw'.symm
    subst hw'
    go_wp2_with fail
    refine cS.mono ?_
    rintro e w' ⟨rfl, rfl⟩
    go_wp2_with fail
    go_ret
    exact ⟨_, rfl, hown, (Below.refl _ _).alloc (Nat.le_refl _) _⟩
  · have hl := eqs_lit true h
    have hl2 : u.toList = [47] := by simpa using hl
    rw [if_pos rfl]
    go_enter Tryd.func40, Tryd.ntmps40
    go_wp2
    go_ret
    exact ⟨_, rfl, ownS_nil _ _, Below.refl _ _⟩
set_option maxHeartbeats 4000000 in
theorem pcheck_any (u : ByteArray) (hu : u.size ≤ 100000) (w : World) (hV : MaxV w) :
    Calls Tryd.prog 38 #[.string u] w fun e w' => e = .returned (.int .i64 (checkOf u)) ∧ Below w.heap.size w w' := by
  rw [← pcheck_eq]
  by_cases h78 : 78 < u.size
  · rw [if_pos h78]
    have h1 : (78 : Int) < (u.size : Int) := by omega
    go_enter Tryd.func38, Tryd.ntmps38
    go_wp2
    go_ret
    exact ⟨rfl, Below.refl _ _⟩
  rw [if_neg h78]
  have cP := parts_any u (by omega) w hV
  have cH := fun W => has_any u ⟨#[47]⟩ W
  have hsm := pparts_small u
  obtain ⟨ps, hps⟩ : ∃ ps, ppartsOf u = ps := ⟨_, rfl⟩
  rw [hps] at cP hsm ⊢
  obtain ⟨ln, hln⟩ : ∃ ln, ps.length = ln := ⟨_, rfl⟩
  have hpe : bytes ⟨#[47]⟩ = [47] := rfl
  rw [hpe] at cH
  cases hpre : Lib.hasPrefix (bytes u) [47]
  · rw [if_pos rfl]
    rw [hpre] at cH
    go_enter Tryd.func38, Tryd.ntmps38
    go_wp2_with fail
    refine cP.mono ?_
    rintro e w1 ⟨v, rfl, ho, hB⟩
    obtain ⟨a, cap, rfl⟩ := ho.slice hln
    go_wp2_with fail
    refine (cH _).mono ?_
    rintro e w' ⟨rfl, hw'⟩
    have hw' := hw'.symm
    subst hw'
    go_wp2_with fail
    go_ret
    exact ⟨rfl, hB⟩
  · rw [if_neg (by simp)]
    rw [hpre] at cH
    obtain ⟨r, hr⟩ : ∃ r : Int, (if 6 < ps.length then (1 : Int) else if ps.all name = true then 0 else 1) = r := ⟨_, rfl⟩
    rw [hr]
    rw [hln] at hr
    go_enter Tryd.func38, Tryd.ntmps38
    go_wp2_with fail
    refine cP.mono ?_
    rintro e w1 ⟨v, rfl, ho, hB⟩
    obtain ⟨a, cap, rfl⟩ := ho.slice hln
    by_cases h6 : 6 < ln
    · rw [if_pos h6] at hr
      subst hr
      go_wp2_with fail
      refine (cH _).mono ?_
      rintro e w' ⟨rfl, hw'⟩
      have hw' := hw'.symm
      subst hw'
      go_wp2_with fail
      go_ret
      exact ⟨rfl, hB⟩
    · rw [if_neg h6] at hr
      go_wp2_with fail
      refine (cH _).mono ?_
      rintro e w' ⟨rfl, hw'⟩
      have hw' := hw'.symm
      subst hw'
      clear cH cP
      go_wp2_with fail
      go_loopw [21] (fun t21 wr => ∃ i : Nat, i ≤ ln ∧ t21 = .int .i64 (i : Int) ∧ Below w1.heap.size w1 wr ∧ Aside (r = if (ps.drop i).all name = true then 0 else 1)) (fun t21 _ => ln - (Go.RowKit.intOf t21).toNat)
      case atStart => exact ⟨0, by omega, rfl, Below.refl _ _, by rw [Aside, List.drop_zero, hr]⟩
      case round =>
        obtain ⟨i, hi, rfl, hBr, hall⟩ := hrel
        clear hr
        by_cases hlt : i < ln
        · obtain ⟨x, hx⟩ : ∃ x, ps[i]? = some x := ⟨_, List.getElem?_eq_getElem (by omega)⟩
          obtain ⟨g, cap', hv, hc, _, _⟩ := (ho.below hBr).at hln hx
          injection hv with q1 q2 q3
          subst q1 q3
          have hxs := hsm x (List.mem_of_getElem? hx)
          have hd : (ps.drop i).all name = (name x && (ps.drop (i + 1)).all name) := by
            have hil := (List.getElem?_eq_some_iff.1 hx).1
            rw [List.drop_eq_getElem_cons hil, List.all_cons, (List.getElem?_eq_some_iff.1 hx).2]
          rw [hd] at hall
          have cN := name_any x (by omega)
          cases hnx : name x
          · rw [hnx] at hall cN
            obtain rfl : r = 1 := by rw [hall.out]; simp
            as_aux_lemma =>
              go_wp2_with fail
              refine (cN _).mono ?_
              rintro e w' ⟨rfl, hB2⟩
              go_wp2_with fail
              go_ret
              exact ⟨rfl, Below.then (Below.then hB hBr) hB2⟩
          · rw [hnx, Bool.true_and] at hall
            rw [hnx] at cN
            as_aux_lemma =>
              go_wp2_with fail
              refine (cN _).mono ?_
              rintro e w' ⟨rfl, hB2⟩
              go_wp2_with fail
              exact ⟨⟨i + 1, by omega, by simp, Below.then hBr hB2, hall⟩, by simp [Go.RowKit.intOf]; omega⟩
        · obtain rfl : r = 0 := by
            rw [hall.out, List.drop_eq_nil_of_le (by omega)]
            rfl
          as_aux_lemma =>
            go_wp2_with fail
            go_ret
            exact ⟨rfl, Below.then hB hBr⟩
set_option maxHeartbeats 1000000 in
theorem parent_any (u : ByteArray) (hu : u.size ≤ 1000000) (h0 : (bytes u).getD 0 0 = 47) (w : World) :
    Calls Tryd.prog 39 #[.string u] w fun e w' => e = .returned (.string (parentOf u)) ∧ w' = w := by
  have cL := lastIndex_any u hu
  rw [last_index h0] at cL
  have hs := slashTo_le u u.size
  cases h : eqs u slashS
  · have hl := eqs_lit false h
    have hl2 : ¬ u.toList = [47] := by simpa using hl
    have h2 : ¬ u.size < 2 := fun h2 => by
      obtain ⟨t, ht⟩ := head_pos h0
      have : eqs u slashS = true := by
        rw [eqs_bytes, bytes_slash, ht]
        rw [← bytes_len, ht] at h2
        cases t with
        | nil => rfl
        | cons a b => simp at h2; omega
      rw [this] at h
      cases h
    unfold parentOf
    rw [if_neg h2]
    obtain ⟨k, hk⟩ : ∃ k, slashTo u u.size = k := ⟨_, rfl⟩
    rw [hk] at cL hs ⊢
    clear h0 h
    by_cases hk0 : k = 0
    · subst hk0
      rw [if_pos rfl]
      go_enter Tryd.func39, Tryd.ntmps39
      go_wp2_with fail
      refine (cL _).mono ?_
      rintro e w' ⟨rfl, rfl⟩
      go_wp2_with fail
      go_ret
      exact ⟨rfl, rfl⟩
    · rw [if_neg hk0]
      have h1 : ((k : Int) == 0) = false := by simp; omega
      go_enter Tryd.func39, Tryd.ntmps39
      go_wp2_with fail
      refine (cL _).mono ?_
      rintro e w' ⟨rfl, rfl⟩
      go_wp2_with fail
      go_ret
      exact ⟨rfl, rfl⟩
  · have hl := eqs_lit true h
    have hl2 : u.toList = [47] := by simpa using hl
    have e1 : parentOf u = ⟨#[]⟩ := by rw [eqs_iff.1 h]; rfl
    rw [e1]
    obtain ⟨k, hk⟩ : ∃ k, slashTo u u.size = k := ⟨_, rfl⟩
    rw [hk] at cL
    clear h0 h hs hk
    go_enter Tryd.func39, Tryd.ntmps39
    go_wp2_with fail
    refine (cL _).mono ?_
    rintro e w' ⟨rfl, rfl⟩
    go_wp2_with fail
    go_ret
    exact ⟨rfl, rfl⟩
theorem join_empty_size (v : ByteArray) : (joinOf v ⟨#[]⟩).size ≤ v.size + 1 := by
  unfold joinOf
  split
  · simp [ByteArray.size_append]
    have : (⟨#[]⟩ : ByteArray).size = 0 := rfl
    omega
  · have : (⟨#[]⟩ : ByteArray).size = 0 := rfl
    simp [ByteArray.size_append, slash_size, this]
end Go.Proofs.YtapgjdmnlkedgaaDoor

/-! WHAT THE LAWS ASK OF PACKAGE monitor, whatever it is made of; donjonlaw13.ask over it. Written by mk_monask.py. -/
namespace Go.Proofs.YtapgjdmnlkedgaaDoor
open Go.RowKit
set_option maxRecDepth 8000
set_option linter.unusedSimpArgs false
set_option linter.unusedVariables false

/-- Lists that package monitor is asked about: in order, each node such as may be. -/
structure FineL (l : List PN) : Prop where
  len : l.length ≤ 1000
  ord : Ordered (namesP l)
  ok : ∀ x ∈ l, nodC x.n = 0
theorem FineL.acl {l : List PN} (h : FineL l) : ∀ x ∈ l, chkA x.n.acl = 0 := fun x hx => (nodC_zero.1 (h.ok x hx)).2.2.2.1
theorem sbL_one (u : ByteArray) (t : Lab) : ∀ v ∈ sbL u t, v.oneCell' = true := by
  intro v hv
  simp only [List.mem_cons, List.not_mem_nil, or_false] at hv
  rcases hv with rfl | rfl | rfl | rfl | rfl <;> rfl
theorem zero_atM (W : World) : zeroP.At W := ⟨fun j q hq => by simp [zeroP] at hq, fun j q hq => by simp [zeroP] at hq⟩
theorem told_at {W : World} {a : Option Addr} {l : List PN} (h : RowN W a l) (p : ByteArray) (e : Int) : (toldP l p e).At W := by
  unfold toldP
  split
  · cases hf : findP l p with
    | none => exact zero_atM W
    | some d =>
      unfold findP at hf
      exact h.p d (List.mem_of_find?_eq_some hf)
  · exact zero_atM W
theorem told_few {l : List PN} (h : FineL l) (p : ByteArray) (e : Int) : (toldN (namesP l) p e).acl.length ≤ 1000000 ∧ (toldN (namesP l) p e).words.length ≤ 1000000 := by
  have hz : zeroN.acl.length ≤ 1000000 ∧ zeroN.words.length ≤ 1000000 := by decide
  unfold toldN
  split
  · cases hf : findN (namesP l) p with
    | none => exact hz
    | some x =>
      obtain ⟨hx, _⟩ := find_some hf
      obtain ⟨y, hy, rfl⟩ := List.mem_map.1 hx
      obtain ⟨_, _, _, hA, hd, hs⟩ := nodC_zero.1 (h.ok y hy)
      refine ⟨Nat.le_trans (acl_sorted hA).2 (by decide), ?_⟩
      simp only [Option.getD_some]
      cases hq : y.n.dir
      · have := (hs hq).2.2; omega
      · have := (hd hq).2; omega
  · exact hz
/-- The package's three calls. -/
structure MonOk : Prop where
  see : ∀ (a : Option Addr) (cap : Nat) (l : List PN) (u : ByteArray) (t : Lab) (p : ByteArray), FineL l → GL t → p.size ≤ 1000 → ∀ w : World, RowN w a l → MaxV w → Calls Tryd.prog 27 #[.slice a l.length cap, .agg (sbL u t).toArray, .string p] w fun e w' => ∃ f : PN, e = .returned (.tuple #[.agg f.cs.toArray, .int .i64 (seeE (namesP l) t p)]) ∧ f.n = toldN (namesP l) p (seeE (namesP l) t p) ∧ f.At w' ∧ Below w.heap.size w w'
  may : ∀ (a : Option Addr) (cap : Nat) (l : List PN) (u : ByteArray) (t : Lab) (p : ByteArray) (m : Int), FineL l → GL t → p.size ≤ 1000 → ∀ w : World, RowN w a l → MaxV w → Calls Tryd.prog 17 #[.slice a l.length cap, .agg (sbL u t).toArray, .string p, .int .i64 m] w fun e w' => ∃ f : PN, e = .returned (.tuple #[.agg f.cs.toArray, .int .i64 (mayE (namesP l) u t p m)]) ∧ f.n = toldN (namesP l) p (mayE (namesP l) u t p m) ∧ f.At w' ∧ Below w.heap.size w w'
structure MonOk3 : Prop extends MonOk where
  chg : ∀ (a : Option Addr) (cap : Nat) (l : List PN) (u : ByteArray) (t : Lab) (p : ByteArray), FineL l → GL t → p.size ≤ 1000 → ∀ w : World, RowN w a l → MaxV w → Calls Tryd.prog 22 #[.slice a l.length cap, .agg (sbL u t).toArray, .string p] w fun e w' => ∃ f : PN, e = .returned (.tuple #[.agg f.cs.toArray, .int .i64 (chgE (namesP l) u t p)]) ∧ f.n = toldN (namesP l) (parentOf p) (chgE (namesP l) u t p) ∧ f.At w' ∧ Below w.heap.size w w'
set_option maxRecDepth 20000 in
set_option maxHeartbeats 8000000 in
theorem ask_any (K : MonOk3) (a : Option Addr) (cap : Nat) (l : List PN) (u : ByteArray) (t : Lab) (p : ByteArray) (m : Int) (hF : FineL l) (hGt : GL t) (hp : p.size ≤ 1000) (w : World) (h : RowN w a l) (hV : MaxV w) :
    Calls Tryd.prog 13 #[.slice a l.length cap, .string u, t.v, .string p, .int .i64 m] w fun e w' => e = .returned (.bool true) ∧ Below w.heap.size w w' := by
  have hund := Tryd.underlying36
  have hundL := Tryd.underlying25
  have hundS := Tryd.underlying73
  have hundM := Tryd.underlying47
  have hszN : (Tryd.prog.info? 36).map (·.size) = some 16 := by kernel_rfl
  have hsl : (Tryd.prog.info? 25).map (·.size) = some 4 := by kernel_rfl
  have hss : (Tryd.prog.info? 73).map (·.size) = some 5 := by kernel_rfl
  have hsm : (Tryd.prog.info? 47).map (·.size) = some 5 := by kernel_rfl
  have hX := blkl_alloc w (labM t).toArray 25
  have hBz := alloc_below w (.cells (labM t).toArray 25)
  replace hX : BlkL w.heap.size (labM t) (w.alloc (.cells (labM t).toArray 25)) := hX
  obtain ⟨n, hn⟩ : ∃ n, l.length = n := ⟨_, rfl⟩
  have K := K
  replace hn : Aside (l.length = n) := hn
  go_enter Tryd.func13, Tryd.ntmps13
  go_upto_region 1 with fail
  generalize w.alloc (.cells #[.int .i64 t.s, .int .i64 t.c, .int .i64 t.i, .int .i64 t.k] 25) = Z at *
  go_cut [11, 12] from 25 (fun s11 s12 wc => ∃ b6 b7, s11 = .pointer (some ⟨b6, 0, none⟩) ∧ s12 = .pointer (some ⟨b7, 0, none⟩) ∧ Below w.heap.size w wc ∧ BlkL b6 (sbL u t) wc ∧ BlkL b7 (sbL u t) wc)
  case first =>
    refine wp_region_held_drew (S := (fun W => BlkL w.heap.size (labM t) W)) (by kernel_rfl) (by exact stab_blk _ _ _ _ hX (Below.refl Z.heap.size Z).drew) ?_
    intro hHeld
    have hB0 : Below w.heap.size w Z.drew := Below.then hBz (Below.refl Z.heap.size Z).drew
    have hX0 := stab_blk _ _ _ _ hX (Below.refl Z.heap.size Z).drew
    generalize Z.drew = w0 at *
    refine wpAnyH_take (i := 0) (v := ?_) (by simp only [gA, gB, gC]; rfl) (by kernel_rfl) (by kernel_rfl) (by kernel_rfl) (by exact fun _ _ _ h => h) (Or.inl ⟨by rfl, ?_⟩) (by assumption) ?_; rotate_left; (focus (intro w hSw; (try dsimp only at hSw); go_simp; try with_reducible rfl)); (try simp only [Act.put, sA, sB, sC])
    refine wpAnyH_take (i := 1) (v := _) (by simp only [gA, gB, gC]; rfl) (by kernel_rfl) (by kernel_rfl) (by kernel_rfl) (by exact fun _ _ _ h => h) (yields_row (by rfl) _ rfl w.heap.size rfl (labM t) (fun _ q => q.range) hundL rfl hsl) (by assumption) ?_; (try simp only [Act.put, sA, sB, sC])
    refine wpAnyH_take (i := 2) (v := ?_) (by simp only [gA, gB, gC]; rfl) (by kernel_rfl) (by kernel_rfl) (by kernel_rfl) (by exact fun _ _ _ h => h) (Or.inl ⟨by rfl, ?_⟩) (by assumption) ?_; rotate_left; (focus (intro w hSw; (try dsimp only at hSw); go_simp; try with_reducible rfl)); (try simp only [Act.put, sA, sB, sC])
    refine wpAnyH_take (i := 3) (v := ?_) (by simp only [gA, gB, gC]; rfl) (by kernel_rfl) (by kernel_rfl) (by kernel_rfl) (by exact fun _ _ _ h => h) (Or.inl ⟨by rfl, ?_⟩) (by assumption) ?_; rotate_left; (focus (intro w hSw; (try dsimp only at hSw); go_simp; try with_reducible rfl)); (try simp only [Act.put, sA, sB, sC])
    refine wpAnyH_take (i := 4) (v := _) (by simp only [gA, gB, gC]; rfl) (by kernel_rfl) (by kernel_rfl) (by kernel_rfl) (by exact fun _ _ _ h => h) (yields_row (by rfl) _ rfl w.heap.size rfl (labM t) (fun _ q => q.range) hundL rfl hsl) (by assumption) ?_; (try simp only [Act.put, sA, sB, sC])
    refine wpAnyH_take (i := 5) (v := ?_) (by simp only [gA, gB, gC]; rfl) (by kernel_rfl) (by kernel_rfl) (by kernel_rfl) (by exact fun _ _ _ h => h) (Or.inl ⟨by rfl, ?_⟩) (by assumption) ?_; rotate_left; (focus (intro w hSw; (try dsimp only at hSw); go_simp; try with_reducible rfl)); (try simp only [Act.put, sA, sB, sC])
    refine wpAnyH_ready (rs := [6, 7]) (by kernel_rfl) (by simp) ?_
    refine AllReadyH.cons (by simp only [gA, gB, gC]; rfl) (fun K hK => ?_) ?_
    · go_simp
      refine hK.out _ _ (stab_blk _ _ _ _ hX0 (alloc_below _ _)) ?_
      clear hHeld hK
      intro hHeld
      have hb := alloc_below w0 (.cells #[.string ⟨#[]⟩, .int .i64 0, .int .i64 0, .int .i64 0, .int .i64 0] 47)
      have hn6_1 := blkl_alloc w0 #[.string ⟨#[]⟩, .int .i64 0, .int .i64 0, .int .i64 0, .int .i64 0] 47
      have hB1 := Below.then hB0 hb
      have hX1 := stab_blk _ _ _ _ hX0 hb
      have hl6 : w.heap.size + 1 ≤ w0.heap.size := hX0.2
      generalize hwx : w0.alloc (.cells #[.string ⟨#[]⟩, .int .i64 0, .int .i64 0, .int .i64 0, .int .i64 0] 47) = w1 at *
      clear hwx hb
      generalize w0.heap.size = b6 at *
      (try simp only [Act.put, sA, sB, sC])
      refine wpAnyH_ready (rs := [7]) (by kernel_rfl) (by simp) ?_
      refine AllReadyH.cons (by simp only [gA, gB, gC]; rfl) (fun K hK => ?_) AllReadyH.nil
      go_simp
      refine hK.out _ _ (stab_blk _ _ _ _ hX1 (alloc_below _ _)) ?_
      clear hHeld hK
      intro hHeld
      have hb := alloc_below w1 (.cells #[.string ⟨#[]⟩, .int .i64 0, .int .i64 0, .int .i64 0, .int .i64 0] 73)
      have hn7_2 := blkl_alloc w1 #[.string ⟨#[]⟩, .int .i64 0, .int .i64 0, .int .i64 0, .int .i64 0] 73
      have hB2 := Below.then hB1 hb
      have hX2 := stab_blk _ _ _ _ hX1 hb
      have hn6_2 := stab_blk _ _ _ _ hn6_1 hb
      have hl7 : w.heap.size + 1 ≤ w1.heap.size := hX1.2
      have hd7 : b6 < w1.heap.size := hn6_1.2
      generalize hwx : w1.alloc (.cells #[.string ⟨#[]⟩, .int .i64 0, .int .i64 0, .int .i64 0, .int .i64 0] 73) = w2 at *
      clear hwx hb
      generalize w1.heap.size = b7 at *
      (try simp only [Act.put, sA, sB, sC])
      refine wpAnyH_ready (rs := [8]) (by kernel_rfl) (by simp) ?_
      refine AllReadyH.cons (by simp only [gA, gB, gC]; rfl) (fun K hK => ?_) AllReadyH.nil
      obtain ⟨w3, hwz8, hthz8, hq8, hB3⟩ := put_mid hn6_2 0 (sbL u t) (by simp) (by simp) hB2 (by omega)
      have hn6_3 : BlkL b6 (sbL u t) w3 := hq8
      have hn7_3 := hn7_2.other hwz8 (by omega)
      have hX3 := hX2.other hwz8 (by omega)
      refine step_store_part rfl _ _ rfl b6 0 rfl (sbL u t) rfl hthz8 hsm (sbL_one u t) hwz8 ?_
      (try simp only [Act.put, sA, sB, sC])
      refine hK.out _ _ (hX3) ?_
      clear hHeld hK
      intro hHeld
      (try simp only [Act.put, sA, sB, sC])
      refine wpAnyH_ready (rs := [9]) (by kernel_rfl) (by simp) ?_
      refine AllReadyH.cons (by simp only [gA, gB, gC]; rfl) (fun K hK => ?_) AllReadyH.nil
      obtain ⟨w4, hwz9, hthz9, hq9, hB4⟩ := put_mid hn7_3 0 (sbL u t) (by simp) (by simp) hB3 (by omega)
      have hn7_4 : BlkL b7 (sbL u t) w4 := hq9
      have hn6_4 := hn6_3.other hwz9 (by omega)
      have hX4 := hX3.other hwz9 (by omega)
      refine step_store_part rfl _ _ rfl b7 0 rfl (sbL u t) rfl hthz9 hss (sbL_one u t) hwz9 ?_
      (try simp only [Act.put, sA, sB, sC])
      refine hK.out _ _ (hX4) ?_
      clear hHeld hK
      intro hHeld
      (try simp only [Act.put, sA, sB, sC])
      refine wpAnyH_done (by kernel_rfl) ?_ _
      go_wp2_with fail
      go_meet
      exact ⟨b6, b7, rfl, rfl, hB4, hn6_4, hn7_4⟩
    refine AllReadyH.cons (by simp only [gA, gB, gC]; rfl) (fun K hK => ?_) AllReadyH.nil
    go_simp
    refine hK.out _ _ (stab_blk _ _ _ _ hX0 (alloc_below _ _)) ?_
    clear hHeld hK
    intro hHeld
    have hb := alloc_below w0 (.cells #[.string ⟨#[]⟩, .int .i64 0, .int .i64 0, .int .i64 0, .int .i64 0] 73)
    have hn7_1 := blkl_alloc w0 #[.string ⟨#[]⟩, .int .i64 0, .int .i64 0, .int .i64 0, .int .i64 0] 73
    have hB1 := Below.then hB0 hb
    have hX1 := stab_blk _ _ _ _ hX0 hb
    have hl7 : w.heap.size + 1 ≤ w0.heap.size := hX0.2
    generalize hwx : w0.alloc (.cells #[.string ⟨#[]⟩, .int .i64 0, .int .i64 0, .int .i64 0, .int .i64 0] 73) = w1 at *
    clear hwx hb
    generalize w0.heap.size = b7 at *
    (try simp only [Act.put, sA, sB, sC])
    refine wpAnyH_ready (rs := [6]) (by kernel_rfl) (by simp) ?_
    refine AllReadyH.cons (by simp only [gA, gB, gC]; rfl) (fun K hK => ?_) AllReadyH.nil
    go_simp
    refine hK.out _ _ (stab_blk _ _ _ _ hX1 (alloc_below _ _)) ?_
    clear hHeld hK
    intro hHeld
    have hb := alloc_below w1 (.cells #[.string ⟨#[]⟩, .int .i64 0, .int .i64 0, .int .i64 0, .int .i64 0] 47)
    have hn6_2 := blkl_alloc w1 #[.string ⟨#[]⟩, .int .i64 0, .int .i64 0, .int .i64 0, .int .i64 0] 47
    have hB2 := Below.then hB1 hb
    have hX2 := stab_blk _ _ _ _ hX1 hb
    have hn7_2 := stab_blk _ _ _ _ hn7_1 hb
    have hl6 : w.heap.size + 1 ≤ w1.heap.size := hX1.2
    have hd6 : b7 < w1.heap.size := hn7_1.2
    generalize hwx : w1.alloc (.cells #[.string ⟨#[]⟩, .int .i64 0, .int .i64 0, .int .i64 0, .int .i64 0] 47) = w2 at *
    clear hwx hb
    generalize w1.heap.size = b6 at *
    (try simp only [Act.put, sA, sB, sC])
    refine wpAnyH_ready (rs := [8]) (by kernel_rfl) (by simp) ?_
    refine AllReadyH.cons (by simp only [gA, gB, gC]; rfl) (fun K hK => ?_) AllReadyH.nil
    obtain ⟨w3, hwz8, hthz8, hq8, hB3⟩ := put_mid hn6_2 0 (sbL u t) (by simp) (by simp) hB2 (by omega)
    have hn6_3 : BlkL b6 (sbL u t) w3 := hq8
    have hn7_3 := hn7_2.other hwz8 (by omega)
    have hX3 := hX2.other hwz8 (by omega)
    refine step_store_part rfl _ _ rfl b6 0 rfl (sbL u t) rfl hthz8 hsm (sbL_one u t) hwz8 ?_
    (try simp only [Act.put, sA, sB, sC])
    refine hK.out _ _ (hX3) ?_
    clear hHeld hK
    intro hHeld
    (try simp only [Act.put, sA, sB, sC])
    refine wpAnyH_ready (rs := [9]) (by kernel_rfl) (by simp) ?_
    refine AllReadyH.cons (by simp only [gA, gB, gC]; rfl) (fun K hK => ?_) AllReadyH.nil
    obtain ⟨w4, hwz9, hthz9, hq9, hB4⟩ := put_mid hn7_3 0 (sbL u t) (by simp) (by simp) hB3 (by omega)
    have hn7_4 : BlkL b7 (sbL u t) w4 := hq9
    have hn6_4 := hn6_3.other hwz9 (by omega)
    have hX4 := hX3.other hwz9 (by omega)
    refine step_store_part rfl _ _ rfl b7 0 rfl (sbL u t) rfl hthz9 hss (sbL_one u t) hwz9 ?_
    (try simp only [Act.put, sA, sB, sC])
    refine hK.out _ _ (hX4) ?_
    clear hHeld hK
    intro hHeld
    (try simp only [Act.put, sA, sB, sC])
    refine wpAnyH_done (by kernel_rfl) ?_ _
    go_wp2_with fail
    go_meet
    exact ⟨b6, b7, rfl, rfl, hB4, hn6_4, hn7_4⟩
  case rest =>
    obtain ⟨b6, b7, rfl, rfl, hB, hb6, hb7⟩ := hcut
    clear hX hBz
    have hr0 := hb6.range
    go_wp2_with (first | (refine wpList_load_row rfl _ rfl b6 rfl (sbL u t) hr0 hundM rfl hsm ?_) | fail)
    refine (K.see a cap l u t p hF hGt hp wc (h.below hB) (hV.below hB)).mono ?_
    rintro e V0 ⟨x0, rfl, hx0, ha0, hb⟩
    obtain ⟨U0, hU0, hth0, hbk0, hb2⟩ := put_new V0 zN 36 x0.cs (by rw [pn_len]; rfl) (by rw [pn_len]; omega)
    have hb12 := Below.then hb hb2
    replace hB := Below.then hB hb12
    replace ha0 := ha0.below hb2
    replace hb6 := stab_blk _ _ _ _ hb6 hb12
    replace hb7 := stab_blk _ _ _ _ hb7 hb12
    have hszx : (Tryd.prog.info? 36).map (·.size) = some x0.cs.length := by rw [pn_len]; exact hszN
    clear hb hb2 hb12 hr0
    go_upto_region 3 with (first | (refine wpList_store_row rfl _ _ rfl V0.heap.size rfl x0.cs rfl hth0 hszx (pn_one x0) hU0 ?_) | fail)
    generalize V0.heap.size = c0 at *
    clear hth0 hU0 hszx
    have hr1 := hb7.range
    go_wp2_with (first | (refine wpList_load_row rfl _ rfl b7 rfl (sbL u t) hr1 hundS rfl hss ?_) | fail)
    have kk := rsee_any a cap l u t p (by have := hF.len; omega) (by omega) U0 (h.below hB)
    skip
    refine kk.mono ?_
    rintro e V1 ⟨rfl, hb⟩
    clear kk
    obtain ⟨x1, hxe1⟩ : ∃ x, toldP l p (seeE (namesP l) t p) = x := ⟨_, rfl⟩
    have ha1 : x1.At V1 := by rw [← hxe1]; exact told_at (h.below (Below.then hB hb)) _ _
    have hx1 : x1.n = toldN (namesP l) p (seeE (namesP l) t p) := by rw [← hxe1]; exact told_names _ _ _
    rw [hxe1]
    clear hxe1
    obtain ⟨U1, hU1, hth1, hbk1, hb2⟩ := put_new V1 zN 36 x1.cs (by rw [pn_len]; rfl) (by rw [pn_len]; omega)
    have hb12 := Below.then hb hb2
    replace hB := Below.then hB hb12
    replace ha1 := ha1.below hb2
    replace hb6 := stab_blk _ _ _ _ hb6 hb12
    replace hb7 := stab_blk _ _ _ _ hb7 hb12
    replace hbk0 := stab_blk _ _ _ _ hbk0 hb12
    replace ha0 := ha0.below hb12
    have hszx : (Tryd.prog.info? 36).map (·.size) = some x1.cs.length := by rw [pn_len]; exact hszN
    clear hb hb2 hb12 hr1
    go_upto_region 4 with (first | (refine wpList_store_row rfl _ _ rfl V1.heap.size rfl x1.cs rfl hth1 hszx (pn_one x1) hU1 ?_) | fail)
    generalize V1.heap.size = c1 at *
    clear hth1 hU1 hszx
    have hr2 := hb6.range
    go_wp2_with (first | (refine wpList_load_row rfl _ rfl b6 rfl (sbL u t) hr2 hundM rfl hsm ?_) | fail)
    refine (K.may a cap l u t p m hF hGt hp U1 (h.below hB) (hV.below hB)).mono ?_
    rintro e V2 ⟨x2, rfl, hx2, ha2, hb⟩
    obtain ⟨U2, hU2, hth2, hbk2, hb2⟩ := put_new V2 zN 36 x2.cs (by rw [pn_len]; rfl) (by rw [pn_len]; omega)
    have hb12 := Below.then hb hb2
    replace hB := Below.then hB hb12
    replace ha2 := ha2.below hb2
    replace hb6 := stab_blk _ _ _ _ hb6 hb12
    replace hb7 := stab_blk _ _ _ _ hb7 hb12
    replace hbk0 := stab_blk _ _ _ _ hbk0 hb12
    replace ha0 := ha0.below hb12
    replace hbk1 := stab_blk _ _ _ _ hbk1 hb12
    replace ha1 := ha1.below hb12
    have hszx : (Tryd.prog.info? 36).map (·.size) = some x2.cs.length := by rw [pn_len]; exact hszN
    clear hb hb2 hb12 hr2
    go_upto_region 5 with (first | (refine wpList_store_row rfl _ _ rfl V2.heap.size rfl x2.cs rfl hth2 hszx (pn_one x2) hU2 ?_) | fail)
    generalize V2.heap.size = c2 at *
    clear hth2 hU2 hszx
    have hr3 := hb7.range
    go_wp2_with (first | (refine wpList_load_row rfl _ rfl b7 rfl (sbL u t) hr3 hundS rfl hss ?_) | fail)
    have kk := rmay_any a cap l u t p m (by have := hF.len; omega) (by omega) hF.acl U2 (h.below hB)
    skip
    refine kk.mono ?_
    rintro e V3 ⟨rfl, hb⟩
    clear kk
    obtain ⟨x3, hxe3⟩ : ∃ x, toldP l p (mayE (namesP l) u t p m) = x := ⟨_, rfl⟩
    have ha3 : x3.At V3 := by rw [← hxe3]; exact told_at (h.below (Below.then hB hb)) _ _
    have hx3 : x3.n = toldN (namesP l) p (mayE (namesP l) u t p m) := by rw [← hxe3]; exact told_names _ _ _
    rw [hxe3]
    clear hxe3
    obtain ⟨U3, hU3, hth3, hbk3, hb2⟩ := put_new V3 zN 36 x3.cs (by rw [pn_len]; rfl) (by rw [pn_len]; omega)
    have hb12 := Below.then hb hb2
    replace hB := Below.then hB hb12
    replace ha3 := ha3.below hb2
    replace hb6 := stab_blk _ _ _ _ hb6 hb12
    replace hb7 := stab_blk _ _ _ _ hb7 hb12
    replace hbk0 := stab_blk _ _ _ _ hbk0 hb12
    replace ha0 := ha0.below hb12
    replace hbk1 := stab_blk _ _ _ _ hbk1 hb12
    replace ha1 := ha1.below hb12
    replace hbk2 := stab_blk _ _ _ _ hbk2 hb12
    replace ha2 := ha2.below hb12
    have hszx : (Tryd.prog.info? 36).map (·.size) = some x3.cs.length := by rw [pn_len]; exact hszN
    clear hb hb2 hb12 hr3
    go_upto_region 6 with (first | (refine wpList_store_row rfl _ _ rfl V3.heap.size rfl x3.cs rfl hth3 hszx (pn_one x3) hU3 ?_) | fail)
    generalize V3.heap.size = c3 at *
    clear hth3 hU3 hszx
    have hr4 := hb6.range
    go_wp2_with (first | (refine wpList_load_row rfl _ rfl b6 rfl (sbL u t) hr4 hundM rfl hsm ?_) | fail)
    refine (K.chg a cap l u t p hF hGt hp U3 (h.below hB) (hV.below hB)).mono ?_
    rintro e V4 ⟨x4, rfl, hx4, ha4, hb⟩
    obtain ⟨U4, hU4, hth4, hbk4, hb2⟩ := put_new V4 zN 36 x4.cs (by rw [pn_len]; rfl) (by rw [pn_len]; omega)
    have hb12 := Below.then hb hb2
    replace hB := Below.then hB hb12
    replace ha4 := ha4.below hb2
    replace hb6 := stab_blk _ _ _ _ hb6 hb12
    replace hb7 := stab_blk _ _ _ _ hb7 hb12
    replace hbk0 := stab_blk _ _ _ _ hbk0 hb12
    replace ha0 := ha0.below hb12
    replace hbk1 := stab_blk _ _ _ _ hbk1 hb12
    replace ha1 := ha1.below hb12
    replace hbk2 := stab_blk _ _ _ _ hbk2 hb12
    replace ha2 := ha2.below hb12
    replace hbk3 := stab_blk _ _ _ _ hbk3 hb12
    replace ha3 := ha3.below hb12
    have hszx : (Tryd.prog.info? 36).map (·.size) = some x4.cs.length := by rw [pn_len]; exact hszN
    clear hb hb2 hb12 hr4
    go_upto_region 7 with (first | (refine wpList_store_row rfl _ _ rfl V4.heap.size rfl x4.cs rfl hth4 hszx (pn_one x4) hU4 ?_) | fail)
    generalize V4.heap.size = c4 at *
    clear hth4 hU4 hszx
    have hr5 := hb7.range
    go_wp2_with (first | (refine wpList_load_row rfl _ rfl b7 rfl (sbL u t) hr5 hundS rfl hss ?_) | fail)
    have kk := rchg_any a cap l u t p (by have := hF.len; omega) (by omega) hF.acl U4 (h.below hB)
    skip
    refine kk.mono ?_
    rintro e V5 ⟨rfl, hb⟩
    clear kk
    obtain ⟨x5, hxe5⟩ : ∃ x, chgP l p (chgE (namesP l) u t p) = x := ⟨_, rfl⟩
    have ha5 : x5.At V5 := by rw [← hxe5]; exact told_at (h.below (Below.then hB hb)) _ _
    have hx5 : x5.n = toldN (namesP l) (parentOf p) (chgE (namesP l) u t p) := by rw [← hxe5]; exact told_names _ _ _
    rw [hxe5]
    clear hxe5
    obtain ⟨U5, hU5, hth5, hbk5, hb2⟩ := put_new V5 zN 36 x5.cs (by rw [pn_len]; rfl) (by rw [pn_len]; omega)
    have hb12 := Below.then hb hb2
    replace hB := Below.then hB hb12
    replace ha5 := ha5.below hb2
    replace hb6 := stab_blk _ _ _ _ hb6 hb12
    replace hb7 := stab_blk _ _ _ _ hb7 hb12
    replace hbk0 := stab_blk _ _ _ _ hbk0 hb12
    replace ha0 := ha0.below hb12
    replace hbk1 := stab_blk _ _ _ _ hbk1 hb12
    replace ha1 := ha1.below hb12
    replace hbk2 := stab_blk _ _ _ _ hbk2 hb12
    replace ha2 := ha2.below hb12
    replace hbk3 := stab_blk _ _ _ _ hbk3 hb12
    replace ha3 := ha3.below hb12
    replace hbk4 := stab_blk _ _ _ _ hbk4 hb12
    replace ha4 := ha4.below hb12
    have hszx : (Tryd.prog.info? 36).map (·.size) = some x5.cs.length := by rw [pn_len]; exact hszN
    clear hb hb2 hb12 hr5
    go_upto_region 8 with (first | (refine wpList_store_row rfl _ _ rfl V5.heap.size rfl x5.cs rfl hth5 hszx (pn_one x5) hU5 ?_) | fail)
    generalize V5.heap.size = c5 at *
    clear hth5 hU5 hszx
    have hs0 := rsame_any x0.n x1.n x0.aa x0.ca x0.wa x0.cw x1.aa x1.ca x1.wa x1.cw (by rw [hx0]; exact (told_few hF _ _).1) (by rw [hx0]; exact (told_few hF _ _).2) U5 ha0.g ha1.g ha0.w ha1.w
    rw [show nodEq x0.n x1.n = true from nodEq_iff.2 (hx0.trans hx1.symm)] at hs0
    replace hs0 : Calls Tryd.prog 23 #[.agg x0.cs.toArray, .agg x1.cs.toArray] U5 _ := hs0
    have hri := hbk0.range
    have hrj := hbk1.range
    have hzi : (Tryd.prog.info? 36).map (·.size) = some x0.cs.length := by rw [pn_len]; exact hszN
    have hzj : (Tryd.prog.info? 36).map (·.size) = some x1.cs.length := by rw [pn_len]; exact hszN
    go_wp2_with (first | (refine wpList_load_rowg (by rfl) _ rfl c0 rfl x0.cs hri hund rfl hzi ?_) | (refine wpList_load_rowg (by rfl) _ rfl c1 rfl x1.cs hrj hund rfl hzj ?_) | fail)
    refine hs0.mono ?_
    rintro e Y0 ⟨rfl, hSb⟩
    clear hri hrj hzi hzj
    replace hbk0 := stab_blk _ _ _ _ hbk0 hSb
    replace hbk1 := stab_blk _ _ _ _ hbk1 hSb
    replace hbk2 := stab_blk _ _ _ _ hbk2 hSb
    replace hbk3 := stab_blk _ _ _ _ hbk3 hSb
    replace hbk4 := stab_blk _ _ _ _ hbk4 hSb
    replace hbk5 := stab_blk _ _ _ _ hbk5 hSb
    replace ha0 := ha0.below hSb
    replace ha1 := ha1.below hSb
    replace ha2 := ha2.below hSb
    replace ha3 := ha3.below hSb
    replace ha4 := ha4.below hSb
    replace ha5 := ha5.below hSb
    replace hB := Below.then hB hSb
    clear hSb hs0
    have hs1 := rsame_any x2.n x3.n x2.aa x2.ca x2.wa x2.cw x3.aa x3.ca x3.wa x3.cw (by rw [hx2]; exact (told_few hF _ _).1) (by rw [hx2]; exact (told_few hF _ _).2) Y0 ha2.g ha3.g ha2.w ha3.w
    rw [show nodEq x2.n x3.n = true from nodEq_iff.2 (hx2.trans hx3.symm)] at hs1
    replace hs1 : Calls Tryd.prog 23 #[.agg x2.cs.toArray, .agg x3.cs.toArray] Y0 _ := hs1
    have hri := hbk2.range
    have hrj := hbk3.range
    have hzi : (Tryd.prog.info? 36).map (·.size) = some x2.cs.length := by rw [pn_len]; exact hszN
    have hzj : (Tryd.prog.info? 36).map (·.size) = some x3.cs.length := by rw [pn_len]; exact hszN
    go_wp2_with (first | (refine wpList_load_rowg (by rfl) _ rfl c2 rfl x2.cs hri hund rfl hzi ?_) | (refine wpList_load_rowg (by rfl) _ rfl c3 rfl x3.cs hrj hund rfl hzj ?_) | fail)
    refine hs1.mono ?_
    rintro e Y1 ⟨rfl, hSb⟩
    clear hri hrj hzi hzj
    replace hbk0 := stab_blk _ _ _ _ hbk0 hSb
    replace hbk1 := stab_blk _ _ _ _ hbk1 hSb
    replace hbk2 := stab_blk _ _ _ _ hbk2 hSb
    replace hbk3 := stab_blk _ _ _ _ hbk3 hSb
    replace hbk4 := stab_blk _ _ _ _ hbk4 hSb
    replace hbk5 := stab_blk _ _ _ _ hbk5 hSb
    replace ha0 := ha0.below hSb
    replace ha1 := ha1.below hSb
    replace ha2 := ha2.below hSb
    replace ha3 := ha3.below hSb
    replace ha4 := ha4.below hSb
    replace ha5 := ha5.below hSb
    replace hB := Below.then hB hSb
    clear hSb hs1
    have hs2 := rsame_any x4.n x5.n x4.aa x4.ca x4.wa x4.cw x5.aa x5.ca x5.wa x5.cw (by rw [hx4]; exact (told_few hF _ _).1) (by rw [hx4]; exact (told_few hF _ _).2) Y1 ha4.g ha5.g ha4.w ha5.w
    rw [show nodEq x4.n x5.n = true from nodEq_iff.2 (hx4.trans hx5.symm)] at hs2
    replace hs2 : Calls Tryd.prog 23 #[.agg x4.cs.toArray, .agg x5.cs.toArray] Y1 _ := hs2
    have hri := hbk4.range
    have hrj := hbk5.range
    have hzi : (Tryd.prog.info? 36).map (·.size) = some x4.cs.length := by rw [pn_len]; exact hszN
    have hzj : (Tryd.prog.info? 36).map (·.size) = some x5.cs.length := by rw [pn_len]; exact hszN
    go_wp2_with (first | (refine wpList_load_rowg (by rfl) _ rfl c4 rfl x4.cs hri hund rfl hzi ?_) | (refine wpList_load_rowg (by rfl) _ rfl c5 rfl x5.cs hrj hund rfl hzj ?_) | fail)
    refine hs2.mono ?_
    rintro e Y2 ⟨rfl, hSb⟩
    clear hri hrj hzi hzj
    replace hB := Below.then hB hSb
    go_wp2_with fail
    go_ret
    exact ⟨rfl, hB⟩
end Go.Proofs.YtapgjdmnlkedgaaDoor

/-! WHERE A PATH STANDS: package tree's place, as it landed (slices.BinarySearchFunc), of lists that stand by their paths. -/
namespace Go.Proofs.YtapgjdmnlkedgaaDoor
open Go.RowKit
set_option maxRecDepth 8000
set_option linter.unusedSimpArgs false
set_option linter.unusedVariables false

/-- A list, parted at a path. -/
structure PartsN (l : List PN) (u : ByteArray) (A M B : List PN) : Prop where
  eq : l = A ++ (M ++ B)
  ahead : ∀ x ∈ A, lt x.n.path u = true
  mid : M = [] ∨ ∃ x, M = [x] ∧ x.n.path = u
  behind : ∀ x ∈ B, lt u x.n.path = true
def OrdP (l : List PN) : Prop := l.Pairwise fun a b => lt a.n.path b.n.path = true
theorem ordP {l : List PN} : Ordered (namesP l) ↔ OrdP l := by
  unfold Ordered namesP OrdP
  rw [List.pairwise_map]
theorem partsN_of (u : ByteArray) : ∀ (l : List PN), OrdP l → ∃ A M B, PartsN l u A M B
  | [], _ => ⟨[], [], [], rfl, fun x h => (by cases h), .inl rfl, fun x h => (by cases h)⟩
  | a :: r, h => by
    obtain ⟨h1, h2⟩ := List.pairwise_cons.1 h
    rcases lt_total a.n.path u with hl | he | hg
    · obtain ⟨A, M, B, p⟩ := partsN_of u r h2
      refine ⟨a :: A, M, B, by rw [p.eq]; rfl, fun x hx => ?_, p.mid, p.behind⟩
      rcases List.mem_cons.1 hx with rfl | hx
      · exact hl
      · exact p.ahead x hx
    · exact ⟨[], [a], r, rfl, fun x hx => (by cases hx), .inr ⟨a, rfl, he⟩, fun x hx => by rw [← he]; exact h1 x hx⟩
    · refine ⟨[], [], a :: r, rfl, fun x hx => (by cases hx), .inl rfl, fun x hx => ?_⟩
      rcases List.mem_cons.1 hx with rfl | hx
      · exact hg
      · exact lt_trans hg (h1 x hx)
theorem PartsN.len {l A M B : List PN} {u : ByteArray} (p : PartsN l u A M B) : l.length = A.length + (M.length + B.length) := by rw [p.eq]; simp
theorem PartsN.cmp {l A M B : List PN} {u : ByteArray} (p : PartsN l u A M B) {h : Nat} {g : PN} (hg : l[h]? = some g) : (cmpB g.n.path u < 0 ↔ h < A.length) ∧ (cmpB g.n.path u = 0 ↔ (h = A.length ∧ M ≠ [])) := by
  rw [p.eq] at hg
  by_cases h1 : h < A.length
  · rw [List.getElem?_append_left h1] at hg
    have := p.ahead g (List.mem_of_getElem? hg)
    refine ⟨⟨fun _ => h1, fun _ => (cmp_lt _ _).2 this⟩, ⟨fun e => absurd ((cmp_eq0 _ _).1 e) (lt_ne this), fun e => by omega⟩⟩
  · rw [List.getElem?_append_right (by omega)] at hg
    rcases p.mid with hM | ⟨m, hM, hu⟩
    · rw [hM] at hg
      have hb := p.behind g (List.mem_of_getElem? (by simpa using hg))
      refine ⟨⟨fun e => ?_, fun e => absurd e h1⟩, ⟨fun e => absurd ((cmp_eq0 _ _).1 e).symm (lt_ne hb), fun e => absurd hM e.2⟩⟩
      have := (cmp_lt _ _).1 e
      rw [lt_asymm hb] at this
      cases this
    · rw [hM] at hg ⊢
      by_cases h2 : h = A.length
      · subst h2
        simp at hg
        subst hg
        have e0 : cmpB u u = 0 := (cmp_eq0 _ _).2 rfl
        simp [e0, hu]
      · obtain ⟨k, hk⟩ : ∃ k, h - A.length = k + 1 := ⟨h - A.length - 1, by omega⟩
        rw [hk] at hg
        have hb := p.behind g (List.mem_of_getElem? (by simpa using hg))
        refine ⟨⟨fun e => ?_, fun e => absurd e h1⟩, ⟨fun e => absurd ((cmp_eq0 _ _).1 e).symm (lt_ne hb), fun e => absurd e.1 h2⟩⟩
        have := (cmp_lt _ _).1 e
        rw [lt_asymm hb] at this
        cases this
/-! What is found, dropped and put, by its parts. -/
theorem PartsN.find {l A M B : List PN} {u : ByteArray} (p : PartsN l u A M B) : findP l u = M.head? := by
  have hA : A.find? (fun x => eqs x.n.path u) = none := List.find?_eq_none.2 fun x hx => by
    rw [eqs_ne (lt_ne (p.ahead x hx))]; decide
  have hB : B.find? (fun x => eqs x.n.path u) = none := List.find?_eq_none.2 fun x hx => by
    rw [eqs_ne (fun e => lt_ne (p.behind x hx) e.symm)]; decide
  unfold findP
  rw [p.eq, List.find?_append, hA, List.find?_append, hB]
  rcases p.mid with hM | ⟨m, hM, hu⟩
  · rw [hM]; rfl
  · rw [hM]
    have : [m].find? (fun x => eqs x.n.path u) = some m := by rw [List.find?_cons, hu, eqs_self]
    rw [this]
    rfl
theorem PartsN.drop {l A M B : List PN} {u : ByteArray} (p : PartsN l u A M B) : dropP l u = A ++ B := by
  have hA : A.filter (fun x => !eqs x.n.path u) = A := List.filter_eq_self.2 fun x hx => by
    rw [eqs_ne (lt_ne (p.ahead x hx))]; rfl
  have hB : B.filter (fun x => !eqs x.n.path u) = B := List.filter_eq_self.2 fun x hx => by
    rw [eqs_ne (fun e => lt_ne (p.behind x hx) e.symm)]; rfl
  unfold dropP
  rw [p.eq, List.filter_append, hA, List.filter_append, hB]
  rcases p.mid with hM | ⟨m, hM, hu⟩
  · rw [hM]; rfl
  · rw [hM, List.filter_cons, hu, eqs_self]
    rfl
theorem while_parts {α : Type} {f : α → Bool} : ∀ (A B : List α), (∀ x ∈ A, f x = true) → (∀ x ∈ B, f x = false) → (A ++ B).takeWhile f = A ∧ (A ++ B).dropWhile f = B
  | [], [], _, _ => ⟨rfl, rfl⟩
  | [], b :: r, _, h => by
    have := h b List.mem_cons_self
    simp [List.takeWhile_cons, List.dropWhile_cons, this]
  | a :: r, B, h1, h2 => by
    have ih := while_parts r B (fun x hx => h1 x (List.mem_cons_of_mem _ hx)) h2
    have := h1 a List.mem_cons_self
    simp [List.takeWhile_cons, List.dropWhile_cons, this, ih]
theorem PartsN.put {l A M B : List PN} {x : PN} (p : PartsN l x.n.path A M B) : putP l x = A ++ ([x] ++ B) := by
  unfold putP
  rw [p.drop]
  obtain ⟨h1, h2⟩ := while_parts (f := fun y : PN => lt y.n.path x.n.path) A B p.ahead fun y hy => lt_asymm (p.behind y hy)
  rw [h1, h2]
  rfl
set_option maxRecDepth 8000 in
set_option maxHeartbeats 1000000 in
theorem pcmp_any (x : PN) (u : ByteArray) (w : World) :
    Calls Tryd.prog 67 #[.agg x.cs.toArray, .string u] w fun e w' => e = .returned (.int .i64 (cmpB x.n.path u)) ∧ Below w.heap.size w w' := by
  have hb := alloc_below w (.cells x.cs.toArray 36)
  unfold PN.cs nclT at *
  go_enter Tryd.func67, Tryd.ntmps67
  go_wp2_with (go_at_call 68; refine (compare_any _ _ _).mono ?_; rintro e w' ⟨rfl, rfl⟩)
  go_ret
  exact ⟨rfl, hb⟩
set_option maxRecDepth 8000 in
set_option maxHeartbeats 4000000 in
theorem tsearch_any (w : World) (a : Option Addr) (cap : Nat) (l A M B : List PN) (u : ByteArray) (p : PartsN l u A M B) (hG : RowN w a l) (hl : l.length ≤ 100000) :
    Calls Tryd.prog 66 #[.slice a l.length cap, .string u, .func (.func 67) #[] #[]] w fun e w' => e = .returned (.tuple #[.int .i64 (A.length : Nat), .bool (!M.isEmpty)]) ∧ Below w.heap.size w w' := by
  have hund := Tryd.underlying36
  have hsz : (Tryd.prog.info? 36).map (·.size) = some 16 := by kernel_rfl
  have hlen := p.len
  obtain ⟨n, hn⟩ : ∃ n, l.length = n := ⟨_, rfl⟩
  obtain ⟨c, hc⟩ : ∃ c, A.length = c := ⟨_, rfl⟩
  obtain ⟨b, hb⟩ : ∃ b, (!M.isEmpty) = b := ⟨_, rfl⟩
  have hcmp : ∀ (h : Nat) (g : PN), l[h]? = some g → (cmpB g.n.path u < 0 ↔ h < c) ∧ (cmpB g.n.path u = 0 ↔ (h = c ∧ b = true)) := by
    intro h g hg
    have := p.cmp hg
    rw [hc] at this
    refine ⟨this.1, this.2.trans ?_⟩
    rw [← hb]
    cases M <;> simp
  have hcn : c ≤ n := by omega
  have hbn : b = true → c < n := by
    intro h
    rw [← hb] at h
    cases M with
    | nil => simp at h
    | cons x y => simp at hlen; omega
  rw [hn, hc, hb]
  rw [hn] at hl
  clear p hb hc hlen
  replace hn : Aside (l.length = n) := hn
  go_enter Tryd.func66, Tryd.ntmps66
  go_wp2
  go_loopg [9, 10] n (fun kx s9 s10 wr => ∃ lo hi : Nat, s9 = .int .i64 lo ∧ s10 = .int .i64 hi ∧ lo ≤ c ∧ c ≤ hi ∧ hi ≤ n ∧ hi - lo ≤ kx ∧ Below w.heap.size w wr)
  case atStart => exact ⟨0, n, rfl, rfl, Nat.zero_le _, hcn, Nat.le_refl _, by omega, Below.refl _ _⟩
  case round =>
    obtain ⟨lo, hi, rfl, rfl, hlo, hhi, hin, hg, hB⟩ := hrel
    by_cases hlt : lo < hi
    · obtain ⟨y, hy⟩ : ∃ y, l[(lo + hi) / 2]? = some y := ⟨_, List.getElem?_eq_getElem (by rw [hn.out]; omega)⟩
      have hrow := hG.below hB
      obtain ⟨x, rfl⟩ := hG.some_ hy
      have hw := hrow.r.at pn_len hy
      have hcy := hcmp _ _ hy
      have kc := pcmp_any y u wr
      obtain ⟨cs, hcs⟩ : ∃ cs, y.cs = cs := ⟨_, rfl⟩
      have hlen : cs.length = 16 := by rw [← hcs]; rfl
      rw [hcs] at hw kc
      rw [← hlen] at hsz
      clear hcs hy hrow hG
      obtain ⟨cv, hcv⟩ : ∃ cv, cmpB y.n.path u = cv := ⟨_, rfl⟩
      rw [hcv] at hcy kc
      by_cases hyx : cv < 0
      · have hlt2 := hcy.1.1 hyx
        go_wp2_with (first | (refine wpList_load_at rfl _ rfl (x.add ((lo + hi) / 2 * 16)) rfl cs hw hund rfl hsz ?_) | (go_at_call 67; refine kc.mono ?_; rintro e w' ⟨rfl, hBw⟩) | fail)
        go_roundg (hi - ((lo + hi) / 2 + 1))
        case measure => omega
        case rel => exact ⟨(lo + hi) / 2 + 1, hi, by rw [show ((lo : Int) + (hi : Int)) / 2 + 1 = (((lo + hi) / 2 + 1 : Nat) : Int) by omega], rfl, by omega, hhi, hin, Nat.le_refl _, Below.then hB hBw⟩
      · have hge : c ≤ (lo + hi) / 2 := Nat.le_of_not_lt fun h => hyx (hcy.1.2 h)
        go_wp2_with (first | (refine wpList_load_at rfl _ rfl (x.add ((lo + hi) / 2 * 16)) rfl cs hw hund rfl hsz ?_) | (go_at_call 67; refine kc.mono ?_; rintro e w' ⟨rfl, hBw⟩) | fail)
        go_roundg ((lo + hi) / 2 - lo)
        case measure => omega
        case rel => exact ⟨lo, (lo + hi) / 2, rfl, by rw [show ((lo : Int) + (hi : Int)) / 2 = (((lo + hi) / 2 : Nat) : Int) by omega], hlo, hge, by omega, Nat.le_refl _, Below.then hB hBw⟩
    · obtain rfl : lo = c := by omega
      by_cases hln : lo < n
      · obtain ⟨y, hy⟩ : ∃ y, l[lo]? = some y := ⟨_, List.getElem?_eq_getElem (by rw [hn.out]; omega)⟩
        have hrow := hG.below hB
        obtain ⟨x, rfl⟩ := hG.some_ hy
        have hw := hrow.r.at pn_len hy
        have hcy := (hcmp _ _ hy).2
        have kc := pcmp_any y u wr
        obtain ⟨cs, hcs⟩ : ∃ cs, y.cs = cs := ⟨_, rfl⟩
        have hlen : cs.length = 16 := by rw [← hcs]; rfl
        rw [hcs] at hw kc
        rw [← hlen] at hsz
        clear hcs hy hrow hG
        obtain ⟨cv, hcv⟩ : ∃ cv, cmpB y.n.path u = cv := ⟨_, rfl⟩
        rw [hcv] at hcy kc
        by_cases hyx : cv = 0
        · obtain rfl : b = true := (hcy.1 hyx).2
          go_wp2_with (first | (refine wpList_load_atg rfl _ rfl (x.add (lo * 16)) rfl cs hw hund rfl hsz ?_) | (go_at_call 67; refine kc.mono ?_; rintro e w' ⟨rfl, hBw⟩) | fail)
          go_ret2
          exact ⟨by simp, Below.then hB hBw⟩
        · obtain rfl : b = false := by
            cases b
            · rfl
            · exact absurd (hcy.2 ⟨rfl, rfl⟩) hyx
          go_wp2_with (first | (refine wpList_load_atg rfl _ rfl (x.add (lo * 16)) rfl cs hw hund rfl hsz ?_) | (go_at_call 67; refine kc.mono ?_; rintro e w' ⟨rfl, hBw⟩) | fail)
          go_ret2
          exact ⟨by simp [hyx], Below.then hB hBw⟩
      · obtain rfl : b = false := by
          cases b
          · rfl
          · exact absurd (hbn rfl) hln
        go_wp2
        go_ret2
        exact ⟨rfl, hB⟩
set_option maxHeartbeats 1000000 in
theorem place_any (w : World) (a : Option Addr) (cap : Nat) (l A M B : List PN) (u : ByteArray) (p : PartsN l u A M B) (hG : RowN w a l) (hl : l.length ≤ 100000) :
    Calls Tryd.prog 56 #[.slice a l.length cap, .string u] w fun e w' => e = .returned (.tuple #[.int .i64 (A.length : Nat), .bool (!M.isEmpty)]) ∧ Below w.heap.size w w' := by
  have h := tsearch_any w a cap l A M B u p hG hl
  go_enter Tryd.func56, Tryd.ntmps56
  go_wp2_with (go_at_call 66; refine h.mono ?_; rintro e w' ⟨rfl, hB⟩)
  go_ret2
  exact ⟨rfl, hB⟩
end Go.Proofs.YtapgjdmnlkedgaaDoor

/-! ROWS MADE AND COPIED, of whatever elements. For every stage from the eleventh on. -/
namespace Go.Proofs.YtapgjdmnlkedgaaDoor
open Go.RowKit
set_option maxRecDepth 8000
set_option linter.unusedSimpArgs false
set_option linter.unusedVariables false

theorem run_copy_cells_many {P : Program} (w : World) (dT sT ty elem : TypeId) (z b o dLen dCap : Nat) (a : Addr) (sLen sCap : Nat) (cs : List Value)
    (hu : P.underlying dT = some (.slice elem)) (hs : (P.info? elem).map (·.size) = some z) (hn : cs.length = Nat.min sLen dLen * z)
    (hsrc : ∀ j v, cs[j]? = some v → w.cell? (a.add j) = some v) (hc : ∀ j, j < cs.length → (w.cell? ⟨b, o + j, none⟩).isSome = true) (hf : ∀ j, j < cs.length → w.frozen? ⟨b, o + j, none⟩ = false) (h1 : ∀ v ∈ cs, v.oneCell' = true) :
    (Builtin.copy_ #[dT, sT] ty #[.slice (some ⟨b, o, none⟩) dLen dCap, .slice (some a) sLen sCap]).run P w = .ok (goInt (Nat.min sLen dLen)) (w.setCells b o cs) := by
  have hl := run_loadCells_list (P := P) w a cs hsrc
  have hst := run_storeCells_cells (P := P) b o cs 0 w (by simpa using hc) (by simpa using hf) h1
  cases hq : P.info? elem with
  | none => simp [hq] at hs
  | some i =>
    have hi : i.size = z := by simpa [hq] using hs
    simp [Builtin.copy_, run_underlying hu, Builtin.lenOf, Builtin.firstCells, sizeOf, typeInfo, hq, hi, ← hn, hl, hst]
theorem run_copy_none {P : Program} (w : World) (dT sT ty elem : TypeId) (z : Nat) (d a : Option Addr) (dLen dCap sLen sCap : Nat) (hu : P.underlying dT = some (.slice elem)) (hs : (P.info? elem).map (·.size) = some z) (hn : Nat.min sLen dLen = 0) :
    (Builtin.copy_ #[dT, sT] ty #[.slice d dLen dCap, .slice a sLen sCap]).run P w = .ok (goInt 0) w := by
  cases hq : P.info? elem with
  | none => simp [hq] at hs
  | some i =>
    have hl : ∀ (x : Addr), (loadCells x 0).run P w = .ok #[] w := fun x => by simpa using run_loadCells_list (P := P) w x [] (by simp)
    cases d <;> cases a <;> simp [Builtin.copy_, run_underlying hu, Builtin.lenOf, Builtin.firstCells, sizeOf, typeInfo, hq, hn, storeCells, hl]
theorem make_some {α : Type} {e t : TypeId} {sz : Nat} {f : α → List Value} (hE : ElemOk e t sz f) (w : World) (n : Nat) (hn : n ≤ 1000) : ∃ cur : Array Value, cur.size = n * sz ∧ (Instr.makeSlice t (.int .i64 (n : Int)) (.int .i64 (n : Int))).run Tryd.prog w = .ok (.slice (some ⟨w.heap.size, 0, none⟩) n n) (w.alloc (.cells cur e)) := by
  obtain ⟨i, z, b, hi, hz, hs, hb, hzs, hbb⟩ := hE.info
  have hq : b * n ≤ 10000 * 1000 := Nat.mul_le_mul hbb hn
  have h := run_make (P := Tryd.prog) w t e i _ hE.und hi hz .i64 .i64 n n (by omega) (by omega) (by
    rw [hb]
    have : ((b * n : Nat) : Int) ≤ ((10000 * 1000 : Nat) : Int) := by exact_mod_cast hq
    rw [Int.natCast_mul] at this
    omega) (by omega)
  refine ⟨_, ?_, h⟩
  rw [hs]
  simp [madeCells]
/-- A row, made and copied. -/
theorem copied_run {α : Type} {e t : TypeId} {sz : Nat} {f : α → List Value} (hE : ElemOk e t sz f) (l : List α) (n : Nat) (hl : l.length = n) (a : Option Addr) (cap : Nat) (w : World) (hn : n ≤ 1000) (h : RowAt sz f w a l) (ty : TypeId) :
    ∃ W1 W2, (Instr.makeSlice t (.int .i64 (n : Int)) (.int .i64 (n : Int))).run Tryd.prog w = .ok (.slice (some ⟨w.heap.size, 0, none⟩) n n) W1 ∧
      (Builtin.copy_ #[t, t] ty #[.slice (some ⟨w.heap.size, 0, none⟩) n n, .slice a n cap]).run Tryd.prog W1 = .ok (goInt n) W2 ∧ RowAt sz f W2 (some ⟨w.heap.size, 0, none⟩) l ∧ w.heap.size < W2.heap.size ∧ Below w.heap.size w W2 := by
  obtain ⟨cur, hcs, hmk⟩ := make_some hE w n hn
  obtain ⟨i, z, b, hi, hz, hs, hb, hzs, hbb⟩ := hE.info
  have hp := hE.pos
  have hszm : (Tryd.prog.info? e).map (·.size) = some sz := by rw [hi]; simpa using hs
  have hB := alloc_below w (.cells cur e)
  have hbk := blk_alloc w cur e
  cases a with
  | none =>
    have hl0 : l = [] := by
      cases l with
      | nil => rfl
      | cons x r =>
        obtain ⟨y, hy, _⟩ := h 0 x rfl
        cases hy
    subst hl0
    obtain rfl : n = 0 := hl.symm
    exact ⟨_, _, hmk, run_copy_none _ t t ty e sz _ _ _ _ _ _ hE.und hszm (by rfl), fun j x hx => by simp at hx, by simp, hB⟩
  | some y =>
    have hfl : (l.flatMap f).length = n * sz := by rw [flat_length hE.len, hl]
    have hr := (h.below hE.len hB).flat hE.len hp
    have hbl : cur.toList.length = (l.flatMap f).length := by rw [hfl]; simpa using hcs
    have hth := hbk.there
    rw [hbl] at hth
    have hc := run_copy_cells_many (P := Tryd.prog) (w.alloc (.cells cur e)) t t ty e sz w.heap.size 0 n n y n cap (l.flatMap f) hE.und hszm (by rw [show Nat.min n n = n from Nat.min_self n]; exact hfl) hr (fun j hj => (hth j hj).1) (fun j hj => (hth j hj).2) (fun u hu => by
      obtain ⟨x, _, hx⟩ := List.mem_flatMap.1 hu
      exact hE.one x u hx)
    rw [show Nat.min n n = n from Nat.min_self n] at hc
    refine ⟨_, _, hmk, hc, fun j x hx => ⟨_, rfl, fun q hq => ?_⟩, Nat.lt_of_lt_of_le (by simp) (Below.cells (Nat.le_refl w.heap.size) (l.flatMap f) 0 (Below.refl w.heap.size (w.alloc (.cells cur e)))).size, Below.cells (Nat.le_refl _) _ 0 hB⟩
    have hj := (List.getElem?_eq_some_iff.1 hx).1
    have hlt : j * sz + q < (l.flatMap f).length := by
      rw [hfl, ← hl]
      have : (j + 1) * sz ≤ l.length * sz := Nat.mul_le_mul_right _ hj
      rw [Nat.succ_mul] at this
      omega
    have hg := (hbk.setAll hbl).range (j * sz + q) _ (List.getElem?_eq_getElem hlt)
    rw [Nat.zero_add] at hg
    rw [add_at, hg, ← List.getElem?_eq_getElem, flat_at hE.len l j q x hx hq]
end Go.Proofs.YtapgjdmnlkedgaaDoor
