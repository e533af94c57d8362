/-
  PART 6 of what the claims of this seat lean on: TreeFacts TreeFind TreeCheckP TreePutP TreeShelf TreeFirstP TreeKnown TreeLaw.
-/
import Derived.Deep.RegionHeld
import Derived.Shelf.Lays
import Derived.Shelf.Strconv.Itoa3
import Derived.Test.YtacjfbomjglnjaaDoorPt1
import Derived.Test.YtacjfbomjglnjaaDoorPt3
import Derived.Test.YtacjfbomjglnjaaDoorPt4
import Derived.Test.YtacjfbomjglnjaaDoorPt5
/-! WHAT HOLDS OF TREES, in plain words: what directories tell, how labels rise, what a node that may not be there makes wrong. -/
namespace Go.Proofs.YtacjfbomjglnjaaDoor
open Go.RowKit
set_option maxRecDepth 8000
set_option linter.unusedSimpArgs false
set_option linter.unusedVariables false

/-! Paths of a tree's nodes. -/
theorem Tree.names {l : List Nod} (h : Tree l) {x : Nod} (hx : x ∈ l) : ∃ ns, Names ns ∧ x.path = pathB ns := by
  obtain ⟨hp, _⟩ := nodC_zero.1 (h.ok x hx)
  obtain ⟨ns, h1, h2, _⟩ := check_path hp
  exact ⟨ns, h1, h2⟩
theorem names_split {ns : List ByteArray} (hn : Names ns) (hs : pathB ns ≠ slashS) : ∃ ms n, ns = ms ++ [n] ∧ parentOf (pathB ns) = pathB ms ∧ lastOf (pathB ns) = n ∧ Names ms ∧ name n = true := by
  rcases List.eq_nil_or_concat ns with rfl | ⟨ms, n, rfl⟩
  · exact absurd pathB_nil hs
  · rw [List.concat_eq_append] at *
    have hf := hn.flat n (by simp)
    exact ⟨ms, n, rfl, parent_path hf.1 hf.2, last_path hf.1 hf.2, ⟨by have := hn.1; simp at this; omega, fun q hq => hn.2 q (by simp [hq])⟩, hn.2 n (by simp)⟩
theorem under_mem {l : List Nod} {p u : ByteArray} : u ∈ underN l p ↔ ∃ y ∈ l, y.path ≠ slashS ∧ parentOf y.path = p ∧ lastOf y.path = u := by
  unfold underN isUnder
  rw [List.mem_map]
  constructor
  · rintro ⟨y, hy, rfl⟩
    rw [List.mem_filter, Bool.and_eq_true] at hy
    refine ⟨y, hy.1, fun e => ?_, eqs_iff.1 hy.2.2, rfl⟩
    have := hy.2.1
    rw [e, eqs_self] at this
    cases this
  · rintro ⟨y, hy, h1, h2, h3⟩
    refine ⟨y, List.mem_filter.2 ⟨hy, ?_⟩, h3⟩
    rw [eqs_ne h1, eqs_iff.2 h2]
    rfl
/-- What a directory tells is found at its path and that name. -/
theorem Tree.told {l : List Nod} (h : Tree l) {p u : ByteArray} (hu : u ∈ underN l p) : ∃ y ∈ l, findN l (joinOf p u) = some y ∧ parentOf y.path = p := by
  obtain ⟨y, hy, h1, h2, h3⟩ := under_mem.1 hu
  obtain ⟨ns, hn, hp⟩ := h.names hy
  rw [hp] at h1 h2 h3
  obtain ⟨ms, n, rfl, e1, e2, hm, hnn⟩ := names_split hn h1
  refine ⟨y, hy, ?_, by rw [hp]; exact h2⟩
  rw [← h2, ← h3, e1, e2, join_path n (fun q hq => (hm.flat q hq).2), ← hp]
  exact find_mem h.ord hy
theorem Tree.seg {l : List Nod} (h : Tree l) {x : Nod} (hx : x ∈ l) (hd : x.dir = false) : underN l x.path = [] := by
  cases hu : underN l x.path with
  | nil => rfl
  | cons u r =>
    exfalso
    have : u ∈ underN l x.path := by rw [hu]; exact List.mem_cons_self
    obtain ⟨y, hy, h1, h2, h3⟩ := under_mem.1 this
    obtain ⟨p, hp, e, hpd, _⟩ := h.up y hy h1
    rw [h2] at e
    have := h.ord.uniq hp hx e
    subst this
    rw [hd] at hpd
    cases hpd
/-! Names rise. -/
theorem less_prefix (A : List UInt8) : ∀ {x y : List UInt8}, Op.bytesLess (A ++ x) (A ++ y) = Op.bytesLess x y := by
  intro x y
  induction A with
  | nil => rfl
  | cons c r ih =>
    rw [List.cons_append, List.cons_append]
    rw [show Op.bytesLess (c :: (r ++ x)) (c :: (r ++ y)) = Op.bytesLess (r ++ x) (r ++ y) by simp [Op.bytesLess], ih]
theorem last_lt {ms : List ByteArray} {a b : ByteArray} : lt (pathB (ms ++ [a])) (pathB (ms ++ [b])) = lt a b := by
  have e : ∀ n : ByteArray, (pathB (ms ++ [n])).toList = (body ms ++ [47]) ++ n.toList := fun n => by
    rw [toL, toL]
    show bytes _ = _
    rw [pathB_bytes (by simp), body_append, body_one]
    simp
  unfold lt
  rw [e a, e b, less_prefix]
theorem Tree.rise {l : List Nod} (h : Tree l) (p : ByteArray) : (underN l p).Pairwise fun a b => lt a b = true := by
  unfold underN
  rw [List.pairwise_map]
  have ho : (l.filter (isUnder p)).Pairwise fun a b => lt a.path b.path = true := List.Pairwise.filter _ h.ord
  refine List.Pairwise.imp_of_mem (fun {a b} ha hb hab => ?_) ho
  obtain ⟨a1, a2⟩ := List.mem_filter.1 ha
  obtain ⟨b1, b2⟩ := List.mem_filter.1 hb
  unfold isUnder at a2 b2
  rw [Bool.and_eq_true] at a2 b2
  have ha0 : a.path ≠ slashS := fun e => by have := a2.1; rw [e, eqs_self] at this; cases this
  have hb0 : b.path ≠ slashS := fun e => by have := b2.1; rw [e, eqs_self] at this; cases this
  have ap := eqs_iff.1 a2.2
  have bp := eqs_iff.1 b2.2
  obtain ⟨ns, hn, e1⟩ := h.names a1
  obtain ⟨ks, hk, e2⟩ := h.names b1
  rw [e1] at ha0 ap hab ⊢
  rw [e2] at hb0 bp hab ⊢
  obtain ⟨ms, x, rfl, p1, l1, hm, _⟩ := names_split hn ha0
  obtain ⟨qs, y, rfl, p2, l2, hq, _⟩ := names_split hk hb0
  rw [l1, l2]
  have : ms = qs := by
    have e : pathB ms = pathB qs := by rw [← p1, ← p2, ap, bp]
    have h1 := parts_path hm.flat
    rw [e, parts_path hq.flat] at h1
    exact h1.symm
  subst this
  rwa [last_lt] at hab
/-! Each but the root is told once. -/
theorem count_parent {l : List Nod} (h : Tree l) {y : Nod} (hy : y ∈ l) : (l.filter fun x => isUnder x.path y).length = if y.path = slashS then 0 else 1 := by
  classical
  by_cases hs : y.path = slashS
  · rw [if_pos hs]
    have : (l.filter fun x => isUnder x.path y) = [] := by
      rw [List.filter_eq_nil_iff]
      intro x _ hx
      unfold isUnder at hx
      rw [hs, eqs_self] at hx
      simp at hx
    rw [this]
    rfl
  · rw [if_neg hs]
    obtain ⟨p, hp, e, _⟩ := h.up y hy hs
    have key : ∀ m : List Nod, Ordered m → (∀ x ∈ m, x ∈ l) → (m.filter fun x => isUnder x.path y).length = if p ∈ m then 1 else 0 := by
      intro m
      induction m with
      | nil => intro _ _; simp
      | cons a r ih =>
        intro ho hm
        obtain ⟨h1, h2⟩ := List.pairwise_cons.1 ho
        have ih := ih h2 (fun x hx => hm x (List.mem_cons_of_mem _ hx))
        rw [List.filter_cons]
        by_cases ha : isUnder a.path y = true
        · rw [if_pos ha]
          unfold isUnder at ha
          rw [Bool.and_eq_true] at ha
          have hap : a = p := h.ord.uniq (hm a List.mem_cons_self) hp (by rw [e]; exact (eqs_iff.1 ha.2).symm)
          have hnr : p ∉ r := fun hpr => by
            have := h1 p hpr
            rw [hap, lt_irrefl] at this
            cases this
          rw [List.length_cons, ih, if_neg hnr, if_pos (by rw [hap]; exact List.mem_cons_self)]
        · rw [if_neg ha, ih]
          have hne : p ≠ a := fun q => ha (by
            unfold isUnder
            rw [eqs_ne hs, ← q, e, eqs_self]
            rfl)
          simp [hne]
    rw [key l h.ord (fun _ hx => hx), if_pos hp]
def sumL : List Nat → Nat
  | [] => 0
  | x :: r => x + sumL r
theorem sum_add {α : Type} (f g : α → Nat) : ∀ l : List α, sumL (l.map fun x => f x + g x) = sumL (l.map f) + sumL (l.map g)
  | [] => rfl
  | x :: r => by simp only [List.map_cons, sumL]; rw [sum_add f g r]; omega
theorem sum_ind {α : Type} (f : α → Bool) : ∀ l : List α, sumL (l.map fun x => if f x = true then 1 else 0) = (l.filter f).length
  | [] => rfl
  | x :: r => by
    simp only [List.map_cons, sumL]
    rw [sum_ind f r, List.filter_cons]
    split
    · rw [List.length_cons]; omega
    · omega
theorem sum_zero {α : Type} : ∀ l : List α, sumL (l.map fun _ => 0) = 0
  | [] => rfl
  | x :: r => by simp only [List.map_cons, sumL]; rw [sum_zero r]
theorem told_all {l : List Nod} (h : Tree l) : ∀ m : List Nod, (∀ x ∈ m, x ∈ l) → sumL (l.map fun x => (m.filter (isUnder x.path)).length) = (m.filter fun y => !eqs y.path slashS).length
  | [], _ => by simpa using sum_zero l
  | y :: r, hm => by
    have ih := told_all h r fun x hx => hm x (List.mem_cons_of_mem _ hx)
    have e : (fun x : Nod => ((y :: r).filter (isUnder x.path)).length) = fun x => (if isUnder x.path y = true then 1 else 0) + (r.filter (isUnder x.path)).length := by
      funext x
      rw [List.filter_cons]
      split
      · rw [List.length_cons]; omega
      · omega
    rw [e, sum_add, ih, sum_ind, count_parent h (hm y List.mem_cons_self), List.filter_cons]
    by_cases hs : y.path = slashS
    · rw [if_pos hs, hs, eqs_self]
      simp
    · rw [if_neg hs, eqs_ne hs]
      simp
      omega
theorem not_root {l : List Nod} (h : Tree l) : (l.filter fun y => !eqs y.path slashS).length + 1 = l.length := by
  classical
  obtain ⟨r, hr, e, _⟩ := h.root
  have key : ∀ m : List Nod, Ordered m → (∀ x ∈ m, x ∈ l) → (m.filter fun y => !eqs y.path slashS).length + (if r ∈ m then 1 else 0) = m.length := by
    intro m
    induction m with
    | nil => intro _ _; simp
    | cons a q ih =>
      intro ho hm
      obtain ⟨h1, h2⟩ := List.pairwise_cons.1 ho
      have ih := ih h2 (fun x hx => hm x (List.mem_cons_of_mem _ hx))
      rw [List.filter_cons]
      by_cases ha : a.path = slashS
      · have har : a = r := h.ord.uniq (hm a List.mem_cons_self) hr (by rw [ha, e])
        have hnr : r ∉ q := fun hrq => by
          have := h1 r hrq
          rw [har, lt_irrefl] at this
          cases this
        rw [if_neg hnr] at ih
        rw [ha, eqs_self, if_neg (by decide), if_pos (by rw [har]; exact List.mem_cons_self), List.length_cons]
        omega
      · rw [eqs_ne ha, if_pos (by decide), List.length_cons, List.length_cons]
        have hne : r ≠ a := fun q => ha (by rw [← q, e])
        have : (if r ∈ a :: q then 1 else 0) = if r ∈ q then 1 else 0 := by simp [hne]
        rw [this]
        omega
  have := key l h.ord (fun _ hx => hx)
  rw [if_pos hr] at this
  exact this
theorem Tree.count {l : List Nod} (h : Tree l) : sumL (l.map fun x => (underN l x.path).length) + 1 = l.length := by
  have := told_all h l (fun _ hx => hx)
  have e : (fun x : Nod => (underN l x.path).length) = fun x => (l.filter (isUnder x.path)).length := by
    funext x
    simp [underN]
  rw [← not_root h, ← this, e]
/-! Labels rise. -/
theorem rov_trans {a b c : Lab} (ha : GL a) (hb : GL b) (hc : GL c) (h : rov a b = true) (k : rov b c = true) : rov a c = true := by
  obtain ⟨x, rfl, hx⟩ := ha.nl
  obtain ⟨y, rfl, hy⟩ := hb.nl
  obtain ⟨z, rfl, hz⟩ := hc.nl
  rw [rov_ov hx hy, ov_iff hx hy] at h
  rw [rov_ov hy hz, ov_iff hy hz] at k
  rw [rov_ov hx hz, ov_iff hx hz]
  exact over_trans h k
/-- A node on the way up. -/
def OnWay (l : List Nod) (x : Nod) (p : ByteArray) : Prop := p = ⟨#[]⟩ ∨ ∃ d ∈ l, d.path = p ∧ d.dir = true ∧ rov x.label d.label = true
theorem Tree.way {l : List Nod} (h : Tree l) {x : Nod} (hx : x ∈ l) : OnWay l x (parentOf x.path) := by
  by_cases hs : x.path = slashS
  · left
    rw [hs, ← pathB_nil]
    exact parent_root
  · obtain ⟨p, hp, e, hd, hov, _⟩ := h.up x hx hs
    exact .inr ⟨p, hp, e, hd, hov⟩
theorem Tree.way_up {l : List Nod} (h : Tree l) {x d : Nod} (hx : x ∈ l) (hd : d ∈ l) (hov : rov x.label d.label = true) : OnWay l x (parentOf d.path) := by
  rcases h.way hd with e | ⟨p, hp, e, hpd, hov2⟩
  · exact .inl e
  · obtain ⟨_, g1, _⟩ := nodC_zero.1 (h.ok x hx)
    obtain ⟨_, g2, _⟩ := nodC_zero.1 (h.ok d hd)
    obtain ⟨_, g3, _⟩ := nodC_zero.1 (h.ok p hp)
    exact .inr ⟨p, hp, e, hpd, rov_trans g1 g2 g3 hov hov2⟩
/-! A node that may not be there. -/
def upErr (n : Nod) : Option Nod → Int
  | none => 2
  | some d => if d.dir = false then 3 else if (!rov n.label d.label || (!n.dir && !labEq n.label d.label)) = true then 15 else 0
theorem find_put {l : List Nod} (h : Ordered l) {n : Nod} (hnew : ∀ x ∈ l, x.path ≠ n.path) {p : ByteArray} (hp : p ≠ n.path) : findN (putN l n) p = findN l p := by
  have ho := put_ordered h n
  cases hf : findN l p with
  | none =>
    cases hg : findN (putN l n) p with
    | none => rfl
    | some y =>
      obtain ⟨hy, e⟩ := find_some hg
      rcases put_mem.1 hy with rfl | ⟨hy, _⟩
      · exact absurd e.symm hp
      · exact absurd e (find_none hf y hy)
  | some x =>
    obtain ⟨hx, e⟩ := find_some hf
    have hm : x ∈ putN l n := put_mem.2 (.inr ⟨hx, hnew x hx⟩)
    have := find_mem ho hm
    rw [e] at this
    exact this
theorem up_put {l : List Nod} (h : Tree l) {n : Nod} (hnew : ∀ x ∈ l, x.path ≠ n.path) (hs : n.path ≠ slashS) (hpar : parentOf n.path ≠ n.path) : ∀ m : List Nod, (∀ x ∈ m, x = n ∨ x ∈ l) → m.Pairwise (fun a b => lt a.path b.path = true) → (n ∈ m → upC (putN l n) m = upErr n (findN l (parentOf n.path))) ∧ (n ∉ m → upC (putN l n) m = 0)
  | [], _, _ => ⟨fun q => (by cases q), fun _ => rfl⟩
  | x :: r, hm, ho => by
    obtain ⟨h1, h2⟩ := List.pairwise_cons.1 ho
    obtain ⟨i1, i2⟩ := up_put h hnew hs hpar r (fun y hy => hm y (List.mem_cons_of_mem _ hy)) h2
    have hxn : x = n → n ∉ r := fun e hr => by
      have := h1 n hr
      rw [e, lt_irrefl] at this
      cases this
    have hpass : x ∈ l → upC (putN l n) (x :: r) = upC (putN l n) r := fun hx => by
      rw [upC]
      by_cases hxs : eqs x.path slashS = true
      · rw [if_pos hxs]
      · rw [if_neg hxs]
        obtain ⟨p, hp, e, hd, hov, hseg⟩ := h.up x hx (fun q => hxs (eqs_iff.2 q))
        have hpm : p ∈ putN l n := put_mem.2 (.inr ⟨hp, hnew p hp⟩)
        rw [← e, find_mem (put_ordered h.ord n) hpm]
        simp only [hd, hov]
        rw [if_neg (by simp), if_neg]
        cases hxd : x.dir
        · rw [(labEq_iff _ _).2 (hseg hxd)]
          simp
        · simp
    rcases hm x List.mem_cons_self with e | hx
    · subst e
      refine ⟨fun _ => ?_, fun q => absurd List.mem_cons_self q⟩
      have i2' := i2 (hxn rfl)
      rw [upC, if_neg (fun q => hs (eqs_iff.1 q)), find_put h.ord hnew hpar]
      cases findN l (parentOf x.path) with
      | none => rfl
      | some d =>
        show (if d.dir = false then 3 else if (!rov x.label d.label || (!x.dir && !labEq x.label d.label)) = true then 15 else upC (putN l x) r) = upErr x (some d)
        rw [i2']
        rfl
    · have hne : n ≠ x := fun q => hnew x hx (by rw [q])
      rw [hpass hx]
      refine ⟨fun q => i1 ?_, fun q => i2 fun hr => q (List.mem_cons_of_mem _ hr)⟩
      rcases List.mem_cons.1 q with q | q
      · exact absurd q hne
      · exact q
/-- What is told of a tree upon which such a node was put. -/
theorem Tree.wrong {l : List Nod} (h : Tree l) {n : Nod} (hn : nodC n = 0) (hnew : ∀ x ∈ l, x.path ≠ n.path) (hs : n.path ≠ slashS) (hpar : parentOf n.path ≠ n.path) : treeC (putN l n) = upErr n (findN l (parentOf n.path)) := by
  have ho := put_ordered h.ord n
  have h1 := seq_ok (putN l n) none (fun x hx => by
    rcases put_mem.1 hx with rfl | ⟨hx, _⟩
    · exact hn
    · exact h.ok x hx) ho (fun q' x e => by cases e)
  obtain ⟨r, hr, e, hl⟩ := h.root
  have hrm : r ∈ putN l n := put_mem.2 (.inr ⟨hr, hnew r hr⟩)
  have h2 := find_mem ho hrm
  rw [e] at h2
  have h3 := (up_put h hnew hs hpar (putN l n) (fun x hx => by
    rcases put_mem.1 hx with q | ⟨q, _⟩
    · exact .inl q
    · exact .inr q) ho).1 (put_mem.2 (.inl rfl))
  unfold treeC
  rw [if_neg (by rw [h1]; simp), h2]
  simp only
  rw [h3, hl, if_pos ((labEq_iff _ _).2 rfl)]
  by_cases hz : upErr n (findN l (parentOf n.path)) = 0
  · rw [if_neg (by rw [hz]; simp), hz]
  · rw [if_pos hz]
end Go.Proofs.YtacjfbomjglnjaaDoor

/-! NODES FOUND, AND ROWS OF ONE'S OWN: package tree's Find and row, as they landed. -/
namespace Go.Proofs.YtacjfbomjglnjaaDoor
open Go.RowKit
set_option maxRecDepth 8000
set_option linter.unusedSimpArgs false
set_option linter.unusedVariables false

theorem zero_at (W : World) : zeroP.At W := ⟨fun j g hg => by simp [zeroP] at hg, fun j g hg => by simp [zeroP] at hg⟩
theorem PartsN.at {l A M B : List PN} {u : ByteArray} (p : PartsN l u A M B) {x : PN} (hx : findP l u = some x) : l[A.length]? = some x ∧ (!M.isEmpty) = true := by
  rw [p.find] at hx
  cases M with
  | nil => cases hx
  | cons m r =>
    obtain rfl : m = x := by simpa using hx
    rw [p.eq, List.getElem?_append_right (Nat.le_refl _)]
    simp
theorem PartsN.not {l A M B : List PN} {u : ByteArray} (p : PartsN l u A M B) (hx : findP l u = none) : (!M.isEmpty) = false := by
  rw [p.find] at hx
  cases M with
  | nil => rfl
  | cons m r => cases hx
set_option maxRecDepth 8000 in
set_option maxHeartbeats 2000000 in
theorem tfind_any (a : Option Addr) (cap : Nat) (l : List PN) (p : ByteArray) (hl : l.length ≤ 100000) (ho : OrdP l) (hf : ∀ x ∈ l, x.Few) (w : World) (h : RowN w a l) :
    Calls Tryd.prog 22 #[.slice a l.length cap, .string p] w fun e w' => ∃ y : PN, e = .returned (.tuple #[.agg y.cs.toArray, .bool (findP l p).isSome]) ∧ y.n = ((findP l p).getD zeroP).n ∧ y.At w' ∧ Below w.heap.size w w' := by
  have hund := Tryd.underlying32
  have hsz : (Tryd.prog.info? 32).map (·.size) = some 16 := by kernel_rfl
  obtain ⟨A, M, B, hP⟩ := partsN_of p l ho
  obtain ⟨fr, hfr⟩ : ∃ fr, findP l p = fr := ⟨_, rfl⟩
  rw [hfr]
  have hb0 := blkl_alloc w zeroP.cs.toArray 32
  have hB0 := alloc_below w (.cells zeroP.cs.toArray 32)
  have hz0 : zeroP.cs = [.string ⟨#[]⟩, .bool false, .int .i64 0, .int .i64 0, .int .i64 0, .int .i64 0, .slice none 0 0, .int .i64 0, .int .i64 0, .int .i64 0, .int .i64 0, .slice none 0 0, .int .i64 0, .int .i64 0, .int .i64 0, .int .i64 0] := rfl
  rw [hz0] at hb0 hB0
  have hrow := h.below hB0
  have kp := fun W (q : RowN W a l) => place_any W a cap l A M B p hP q hl
  obtain ⟨n, hn⟩ : ∃ n, l.length = n := ⟨_, rfl⟩
  rw [hn] at kp ⊢
  replace hn : Aside (l.length = n) := hn
  go_enter Tryd.func22, Tryd.ntmps22
  go_wp2_with fail
  generalize w.alloc (.cells #[.string ⟨#[]⟩, .bool false, .int .i64 0, .int .i64 0, .int .i64 0, .int .i64 0, .slice none 0 0, .int .i64 0, .int .i64 0, .int .i64 0, .int .i64 0, .slice none 0 0, .int .i64 0, .int .i64 0, .int .i64 0, .int .i64 0] 32) = W at *
  refine (kp W hrow).mono ?_
  rintro e W1 ⟨rfl, hB1⟩
  have hB01 := Below.then hB0 hB1
  have hb1 := stab_blk _ _ _ _ hb0 hB1
  have hrow1 := hrow.below hB1
  have hlt1 : w.heap.size < W1.heap.size := hb1.2
  clear kp hb0 hB0 hrow hB1
  cases fr with
  | none =>
    rw [hP.not hfr]
    have hk := hb1.1.setAll (cs := zeroP.cs) rfl
    have hBz : Below w.heap.size w (W1.setCells w.heap.size 0 zeroP.cs) := Below.cells (Nat.le_refl _) zeroP.cs 0 hB01
    have ht : W1.there w.heap.size 0 zeroP.cs.length := hb1.1.there
    obtain ⟨W2, hW2⟩ : ∃ W', W1.setCells w.heap.size 0 zeroP.cs = W' := ⟨_, rfl⟩
    rw [hW2] at hk hBz
    clear hb1 hP hfr
    go_wp2_with (first | (refine wpList_store_row rfl _ _ rfl w.heap.size rfl zeroP.cs rfl ht hsz (pn_one zeroP) hW2 ?_) | fail)
    refine bodyPost_ret (v := .tuple #[.agg zeroP.cs.toArray, .bool false]) (results_row2 rfl _ _ w.heap.size rfl (.bool false) rfl zeroP.cs hk.range hund rfl hsz) rfl ?_
    exact ⟨zeroP, rfl, rfl, zero_at _, hBz⟩
  | some x =>
    obtain ⟨hx, hm⟩ := hP.at hfr
    rw [hm]
    have hxm := List.mem_of_getElem? hx
    have hlt := (List.getElem?_eq_some_iff.1 hx).1
    rw [hn.out] at hlt
    obtain ⟨y0, rfl⟩ := h.some_ hx
    have hw := hrow1.r.at pn_len hx
    have ko := own_any x (hf x hxm) W1 (hrow1.p x hxm)
    obtain ⟨cs, hcs⟩ : ∃ cs, x.cs = cs := ⟨_, rfl⟩
    have hlen : cs.length = 16 := by rw [← hcs]; rfl
    rw [hcs] at hw ko
    have hsz1 : (Tryd.prog.info? 32).map (·.size) = some cs.length := by rw [hlen]; exact hsz
    obtain ⟨k, hk⟩ : ∃ k, A.length = k := ⟨_, rfl⟩
    rw [hk] at hw hlt ⊢
    clear hcs hk hx hfr hm hP h
    go_wp2_with (first | (refine wpList_load_at rfl _ rfl (y0.add (k * 16)) rfl cs hw hund rfl hsz1 ?_) | fail)
    refine ko.mono ?_
    rintro e W2 ⟨y, rfl, hyn, hya, hyo, hB2⟩
    have hb2 := stab_blk _ _ _ _ hb1 hB2
    have hB02 := Below.then hB01 hB2
    clear ko hw hb1
    have hk := hb2.1.setAll (cs := y.cs) rfl
    have hBz : Below w.heap.size w (W2.setCells w.heap.size 0 y.cs) := Below.cells (Nat.le_refl _) y.cs 0 hB02
    have ht : W2.there w.heap.size 0 y.cs.length := hb2.1.there
    have hyz := hya.cells hyo hlt1 0 y.cs
    obtain ⟨W3, hW3⟩ : ∃ W', W2.setCells w.heap.size 0 y.cs = W' := ⟨_, rfl⟩
    rw [hW3] at hk hBz hyz
    clear hb2 hya hB2
    go_wp2_with (first | (refine wpList_store_row rfl _ _ rfl w.heap.size rfl y.cs rfl ht hsz (pn_one y) hW3 ?_) | fail)
    refine bodyPost_ret (v := .tuple #[.agg y.cs.toArray, .bool true]) (results_row2 rfl _ _ w.heap.size rfl (.bool true) rfl y.cs hk.range hund rfl hsz) rfl ?_
    exact ⟨y, rfl, hyn, hyz, hBz⟩
/-- A piece of a row. -/
structure Pc where
  a : Option Addr
  c : Nat
  l : List PN
def Pc.cs (x : Pc) : List Value := [.slice x.a x.l.length x.c]
theorem pc_len (x : Pc) : x.cs.length = 1 := rfl
def pcsN (ps : List Pc) : List Nod := ps.flatMap fun x => namesP x.l
theorem pcs_take {ps : List Pc} {i : Nat} {x : Pc} (h : ps[i]? = some x) : pcsN (ps.take (i + 1)) = pcsN (ps.take i) ++ namesP x.l := by
  unfold pcsN
  rw [List.take_add_one, h, List.flatMap_append]
  simp
theorem names_take {l : List PN} {j : Nat} {x : PN} (h : l[j]? = some x) : namesP (l.take (j + 1)) = namesP (l.take j) ++ [x.n] := by
  unfold namesP
  rw [List.take_add_one, h, List.map_append]
  rfl
set_option maxRecDepth 8000 in
set_option maxHeartbeats 4000000 in
theorem trow_any (pa : Option Addr) (pc : Nat) (ps : List Pc) (hl : (pcsN ps).length ≤ 100000) (hps : ps.length ≤ 1000) (hf : ∀ p ∈ ps, ∀ x ∈ p.l, x.Few) (w : World) (h : RowAt 1 Pc.cs w pa ps) (hr : ∀ p ∈ ps, RowN w p.a p.l) :
    Calls Tryd.prog 44 #[.slice pa ps.length pc] w fun e w' => ∃ v l', e = .returned v ∧ OwnN w' w.heap.size v l' ∧ namesP l' = pcsN ps ∧ (∀ x ∈ l', x.At w') ∧ Below w.heap.size w w' := by
  have hund := Tryd.underlying32
  have hsz : (Tryd.prog.info? 32).map (·.size) = some 16 := by kernel_rfl
  obtain ⟨n, hn⟩ : ∃ n, ps.length = n := ⟨_, rfl⟩
  rw [hn] at hps ⊢
  replace hn : Aside (ps.length = n) := hn
  obtain ⟨R, hR⟩ : ∃ R, pcsN ps = R := ⟨_, rfl⟩
  rw [hR] at hl ⊢
  replace hR : Aside (pcsN ps = R) := hR
  have hsub : ∀ i, (pcsN (ps.take i)).length ≤ R.length := fun i => by
    rw [← hR.out]
    conv => rhs; rw [← List.take_append_drop i ps]
    unfold pcsN
    rw [List.flatMap_append, List.length_append]
    omega
  go_enter Tryd.func44, Tryd.ntmps44
  go_wp2_with fail
  go_loopw [3, 10] (fun t3 t10 wr => ∃ (i : Nat) (l' : List PN), i ≤ n ∧ t10 = .int .i64 (i : Int) ∧ OwnN wr w.heap.size t3 l' ∧ Aside (namesP l' = pcsN (ps.take i)) ∧ (∀ x ∈ l', x.At wr ∧ x.Apart wr t3) ∧ Below w.heap.size w wr) (fun _ t10 _ => n - (Go.RowKit.intOf t10).toNat)
  case atStart => exact ⟨0, [], by omega, rfl, OwnR.nil _ _ _ _ _, rfl, fun x hx => (by cases hx), Below.refl _ _⟩
  case round =>
    obtain ⟨i, l', hi, rfl, ho, hnm, hat, hB⟩ := hrel
    by_cases hlt : i < n
    · obtain ⟨p, hp⟩ : ∃ p, ps[i]? = some p := ⟨_, List.getElem?_eq_getElem (by rw [hn.out]; exact hlt)⟩
      obtain ⟨y, rfl, hc⟩ := (h.below pc_len hB) i p hp
      have hc0 := hc 0 (by decide)
      rw [Nat.mul_one, Nat.add_zero] at hc0
      replace hc0 : wr.cell? (y.add i) = some (.slice p.a p.l.length p.c) := hc0
      have hpm := List.mem_of_getElem? hp
      have hrp := hr p hpm
      have hfp := hf p hpm
      have htk := pcs_take hp
      have hs1 := hsub (i + 1)
      rw [htk, List.length_append] at hs1
      have hml : (namesP p.l).length = p.l.length := by simp [namesP]
      obtain ⟨m, hm⟩ : ∃ m, p.l.length = m := ⟨_, rfl⟩
      rw [hml, hm] at hs1
      rw [hm] at hc0
      clear hml hc hp
      have hnl : l'.length = (pcsN (ps.take i)).length := by rw [← hnm.out]; simp [namesP]
      replace hm : Aside (p.l.length = m) := hm
      replace htk : Aside _ := htk
      generalize pcsN (ps.take i) = N0 at *
      go_wp2_with fail
      go_loopw [3, 16] (fun t3 t16 wq => ∃ (j : Nat) (l2 : List PN), j ≤ m ∧ t16 = .int .i64 (j : Int) ∧ OwnN wq w.heap.size t3 l2 ∧ Aside (namesP l2 = N0 ++ namesP (p.l.take j)) ∧ (∀ x ∈ l2, x.At wq ∧ x.Apart wq t3) ∧ Below w.heap.size w wq) (fun _ t16 _ => m - (Go.RowKit.intOf t16).toNat)
      case atStart => exact ⟨0, l', by omega, rfl, ho, by rw [hnm.out]; simp [namesP, Aside], hat, hB⟩
      case round =>
        clear ho hat hc0
        obtain ⟨j, l2, hj, rfl, ho, hn2, hat, hB2⟩ := hrel
        by_cases hlj : j < m
        · obtain ⟨x, hx⟩ : ∃ x, p.l[j]? = some x := ⟨_, List.getElem?_eq_getElem (by rw [hm.out]; exact hlj)⟩
          have hxm := List.mem_of_getElem? hx
          have hrw := hrp.below hB2
          obtain ⟨ya, hya⟩ := hrp.some_ hx
          rw [hya] at hrw ⊢
          have hw := hrw.r.at pn_len hx
          have hxa := hrw.p x hxm
          have hnt := names_take hx
          have hl2 : l2.length ≤ 100000 := by
            have := congrArg List.length hn2.out
            simp [namesP] at this
            omega
          have ko := fun W (q : x.At W) => own_any x (hfp x hxm) W q
          obtain ⟨cs, hcs⟩ : ∃ cs, x.cs = cs := ⟨_, rfl⟩
          have hlen : cs.length = 16 := by rw [← hcs]; rfl
          have hone : ∀ v ∈ cs, v.oneCell' = true := by rw [← hcs]; exact pn_one x
          have hsz1 : (Tryd.prog.info? 32).map (·.size) = some cs.length := by rw [hlen]; exact hsz
          rw [hcs] at hw ko
          obtain ⟨W1, hW1, hth, hbk, hB1⟩ := put_new wr ndz 32 cs hlen (by omega)
          replace ko := ko W1 (hxa.below hB1)
          have hrg := hbk.range
          clear hcs hx hrw
          go_wp2_with (first | (refine wpList_load_at rfl _ rfl (ya.add (j * 16)) rfl cs hw hund rfl hsz1 ?_) | (refine wpList_store_row rfl _ _ rfl wr.heap.size rfl cs rfl hth hsz1 hone hW1 ?_) | (refine wpList_load_row rfl _ rfl wr.heap.size rfl cs hrg hund rfl hsz1 ?_) | fail)
          refine ko.mono ?_
          rintro e W2 ⟨y2, rfl, hyn, hy2, hyo, hB3⟩
          have hb12 := Below.then hB1 hB3
          have hBw := Below.then hB2 hb12
          obtain ⟨v3, W3, hap, ho3, hg3⟩ := OwnR.push pn_ok (ho.below hb12) hBw.size y2 y2.cs.toArray rfl 32 (by omega)
          have hb3 := (ho.below hb12).grew_below hBw.size hg3
          have hat3 : ∀ z ∈ l2 ++ [y2], z.At W3 ∧ z.Apart W3 v3 := fun z hz => by
            rcases List.mem_append.1 hz with hz | hz
            · obtain ⟨q1, q2⟩ := hat z hz
              exact (((q2.size hb12.size).grew (q1.below hb12) hg3)).symm
            · obtain rfl := List.mem_singleton.1 hz
              exact ((hyo.apart (W' := W2) fun k hk => Nat.lt_of_lt_of_le (ho.lt hk).2 hB1.size).grew hy2 hg3).symm
          have hn3 : Aside (namesP (l2 ++ [y2]) = N0 ++ namesP (p.l.take (j + 1))) := by
            show namesP (l2 ++ [y2]) = _
            rw [hnt, ← List.append_assoc, ← hn2.out]
            simp [namesP, hyn]
          clear hat ho hn2 hnt hbk hrg hth hone
          go_wp2_with (first | (refine wpList_build1 pn_ok (by decide) rfl _ rfl y2.cs rfl rfl ?_) | (refine wpList_append rfl _ _ rfl rfl rfl rfl hap ?_) | fail)
          exact ⟨⟨j + 1, l2 ++ [y2], by omega, by simp, ho3, hn3, hat3, hBw.trans hb3⟩, by simp [Go.RowKit.intOf]; omega⟩
        · obtain rfl : j = m := by omega
          have hn3 : Aside (namesP l2 = pcsN (ps.take (i + 1))) := by
            rw [htk.out, hn2.out, List.take_of_length_le (by rw [hm.out]; exact Nat.le_refl _)]
            exact rfl
          go_wp2_with fail
          exact ⟨⟨i + 1, l2, by omega, by simp, ho, hn3, hat, hB2⟩, by simp [Go.RowKit.intOf]; omega⟩
    · obtain rfl : i = n := by omega
      have hn3 : namesP l' = R := by
        rw [hnm.out, List.take_of_length_le (by rw [hn.out]; exact Nat.le_refl _)]
        exact hR.out
      go_wp2_with fail
      go_ret
      exact ⟨_, l', rfl, ho, hn3, fun x hx => (hat x hx).1, hB⟩
end Go.Proofs.YtacjfbomjglnjaaDoor

/-! TREES CHECKED: package tree's checkRow, checkPlace and Check, as they landed. -/
namespace Go.Proofs.YtacjfbomjglnjaaDoor
open Go.RowKit
set_option maxRecDepth 8000
set_option linter.unusedSimpArgs false
set_option linter.unusedVariables false

theorem path_slashed {ns : List ByteArray} : (bytes (pathB ns)).getD 0 0 = 47 := by
  cases ns with
  | nil => rw [pathB_nil]; rfl
  | cons a r =>
    rw [pathB_bytes (by simp)]
    simp [body]
theorem check_slashed {p : ByteArray} (h : checkOf p = 0) : Slashed p := by
  obtain ⟨ns, _, e, hs⟩ := check_path h
  exact ⟨by rw [e]; exact path_slashed, by omega⟩
theorem slashed_lt {p : ByteArray} (h : Slashed p) : lt ⟨#[]⟩ p = true := by
  unfold lt
  rw [toL, toL]
  have h1 := h.1
  unfold bytes at h1
  cases hb : p.data.toList with
  | nil => rw [hb] at h1; cases h1
  | cons a r => rfl
theorem over_eq {a b : Lab} (ha : GL a) (hb : GL b) : labEq (joinL a b) a = rov a b := by
  obtain ⟨x, rfl, hx⟩ := ha.nl
  obtain ⟨y, rfl, hy⟩ := hb.nl
  rw [rov_ov hx hy]
  rfl
theorem seq_zero : ∀ (L : List Nod) (q : Option ByteArray), seqC q L = 0 → (∀ x ∈ L, nodC x = 0) ∧ Ordered L ∧ ∀ q', q = some q' → ∀ x ∈ L, lt q' x.path = true
  | [], _, _ => ⟨fun x h => (by cases h), List.Pairwise.nil, fun q' _ x h => (by cases h)⟩
  | x :: r, q, h => by
    rw [seqC] at h
    by_cases h0 : nodC x = 0
    · rw [if_neg (by simp [h0])] at h
      by_cases hb : behind q x.path = false
      · rw [if_pos hb] at h; cases h
      · rw [if_neg hb] at h
        obtain ⟨i1, i2, i3⟩ := seq_zero r (some x.path) h
        refine ⟨fun y hy => ?_, List.pairwise_cons.2 ⟨i3 x.path rfl, i2⟩, fun q' e y hy => ?_⟩
        · rcases List.mem_cons.1 hy with rfl | hy
          · exact h0
          · exact i1 y hy
        · subst e
          have hx : lt q' x.path = true := by simpa [behind] using hb
          rcases List.mem_cons.1 hy with rfl | hy
          · exact hx
          · exact lt_trans hx (i3 x.path rfl y hy)
    · rw [if_pos h0] at h
      exact absurd h h0
def aheadS (L : List Nod) (i : Nat) : ByteArray := (prevOf L i).getD ⟨#[]⟩
theorem behind_ahead {L : List Nod} {i : Nat} {x : Nod} (h : Slashed x.path) : behind (prevOf L i) x.path = lt (aheadS L i) x.path := by
  unfold aheadS
  cases prevOf L i with
  | none => rw [show (none : Option ByteArray).getD ⟨#[]⟩ = ⟨#[]⟩ from rfl, slashed_lt h]; rfl
  | some q => rfl
set_option maxRecDepth 8000 in
set_option maxHeartbeats 4000000 in
theorem checkRow_any (a : Option Addr) (cap : Nat) (l : List PN) (hl : l.length ≤ 100000) (hsm : SmallN l) (w : World) (h : RowN w a l) (hm : MaxV w) :
    Calls Tryd.prog 33 #[.slice a l.length cap] w fun e w' => e = .returned (.int .i64 (seqC none (namesP l))) ∧ Below w.heap.size w w' := by
  have hund := Tryd.underlying32
  have hsz : (Tryd.prog.info? 32).map (·.size) = some 16 := by kernel_rfl
  obtain ⟨R, hR⟩ : ∃ R, seqC none (namesP l) = R := ⟨_, rfl⟩
  rw [hR]
  obtain ⟨n, hn⟩ : ∃ n, l.length = n := ⟨_, rfl⟩
  rw [hn] at hl ⊢
  replace hn : Aside (l.length = n) := hn
  replace hR : Aside (seqC none (namesP l) = R) := hR
  go_enter Tryd.func33, Tryd.ntmps33
  go_wp2_with fail
  go_loopw [3, 9] (fun t3 t9 wr => ∃ i : Nat, i ≤ n ∧ t9 = .int .i64 (i : Int) ∧ t3 = .string (aheadS (namesP l) i) ∧ Aside (R = seqC (prevOf (namesP l) i) ((namesP l).drop i)) ∧ Below w.heap.size w wr) (fun _ t9 _ => n - (Go.RowKit.intOf t9).toNat)
  case atStart => exact ⟨0, by omega, rfl, rfl, hR.out.symm, Below.refl _ _⟩
  case round =>
    obtain ⟨i, hi, rfl, rfl, hseq, hB⟩ := hrel
    by_cases hlt : i < n
    · obtain ⟨x, hx⟩ : ∃ x, l[i]? = some x := ⟨_, List.getElem?_eq_getElem (by rw [hn.out]; exact hlt)⟩
      have hxm := List.mem_of_getElem? hx
      have hrow := h.below hB
      obtain ⟨y, rfl⟩ := h.some_ hx
      have hw := hrow.r.at pn_len hx
      have hsx := hsm x hxm
      have hseq1 := hseq.out
      rw [seq_drop (names_at hx)] at hseq1
      have hah : aheadS (namesP l) (i + 1) = x.n.path := by unfold aheadS; rw [prev_succ (names_at hx)]; rfl
      have hpv := prev_succ (names_at hx)
      obtain ⟨W1, hW1, hth, hbk, hB1⟩ := put_new wr ndz 32 x.cs rfl (by rw [pn_len]; omega)
      have hc0 := (hbk.1 0 _ rfl).1
      have kc := ncheck_any x.n x.aa x.ca x.wa x.cw hsx.1 hsx.2.1 W1 ((hrow.p x hxm).g.below hB1) ((hm.below hB).below hB1)
      rw [show x.n.v x.aa x.ca x.wa x.cw = .agg x.cs.toArray from rfl] at kc
      have hrg := hbk.range
      obtain ⟨cs, hcs⟩ : ∃ cs, x.cs = cs := ⟨_, rfl⟩
      have hlen : cs.length = 16 := by rw [← hcs]; rfl
      have hone : ∀ v ∈ cs, v.oneCell' = true := by rw [← hcs]; exact pn_one x
      have hsz1 : (Tryd.prog.info? 32).map (·.size) = some cs.length := by rw [hlen]; exact hsz
      rw [hcs] at hw hth hW1 kc hrg
      have hsl : nodC x.n = 0 → behind (prevOf (namesP l) i) x.n.path = lt (aheadS (namesP l) i) x.n.path := fun q => behind_ahead (check_slashed (nodC_zero.1 q).1)
      have hBw := Below.then hB hB1
      obtain ⟨pv, hpv0⟩ : ∃ pv, aheadS (namesP l) i = pv := ⟨_, rfl⟩
      rw [hpv0] at hsl ⊢
      generalize hcv : nodC x.n = cv at *
      replace hseq1 : Aside _ := hseq1
      replace hah : Aside _ := hah
      replace hpv : Aside _ := hpv
      clear hcs hx hrow hcv hseq hbk hpv0
      go_wp2_with (first | (refine wpList_load_at rfl _ rfl (y.add (i * 16)) rfl cs hw hund rfl hsz1 ?_) | (refine wpList_store_row rfl _ _ rfl wr.heap.size rfl cs rfl hth hsz1 hone hW1 ?_) | (refine wpList_load_row rfl _ rfl wr.heap.size rfl cs hrg hund rfl hsz1 ?_) | fail)
      refine kc.mono ?_
      rintro e W2 ⟨rfl, hB2⟩
      have hB02 := Below.then hBw hB2
      have hc2 := (hB2.cell (World.block_lt_of_cell? _ _ hc0)).trans hc0
      clear kc hw hrg hth
      by_cases h0 : cv = 0
      · subst h0
        have hb := hsl rfl
        have hs2 := hseq1.out
        rw [if_neg (by simp), hb] at hs2
        cases hq : lt pv x.n.path
        · have f0 := leq_of hq
          rw [hq, if_pos rfl] at hs2
          clear hsl hb hseq1
          subst hs2
          go_wp2_with fail
          go_ret
          exact ⟨rfl, hB02⟩
        · have f0 := leq_not hq
          rw [hq, if_neg (by simp)] at hs2
          replace hs2 : Aside _ := hs2
          clear hsl hb hseq1
          go_wp2_with fail
          exact ⟨⟨i + 1, by omega, by simp, by rw [hah.out], by rw [hpv.out]; exact hs2, hB02⟩, by simp [Go.RowKit.intOf]; omega⟩
      · have hs2 := hseq1.out
        rw [if_pos h0] at hs2
        clear hsl hseq1
        subst hs2
        go_wp2_with fail
        go_ret
        exact ⟨rfl, hB02⟩
    · obtain rfl : i = n := by omega
      have hs2 := hseq.out
      rw [List.drop_eq_nil_of_le (by rw [show (namesP l).length = l.length from by simp [namesP], hn.out]; exact Nat.le_refl _)] at hs2
      obtain rfl : R = 0 := hs2
      clear hseq
      go_wp2_with fail
      go_ret
      exact ⟨rfl, hB⟩
def placeC (L : List Nod) (x : Nod) : Int := if eqs x.path slashS = true then 0 else upErr x (findN L (parentOf x.path))
theorem up_place {L : List Nod} {i : Nat} {x : Nod} (hx : L[i]? = some x) : upC L (L.drop i) = if placeC L x ≠ 0 then placeC L x else upC L (L.drop (i + 1)) := by
  rw [up_drop hx]
  unfold placeC
  by_cases he : eqs x.path slashS = true
  · rw [if_pos he, if_pos he, if_neg (by simp)]
  · rw [if_neg he, if_neg he]
    cases findN L (parentOf x.path) with
    | none => rfl
    | some p =>
      unfold upErr
      by_cases hd : p.dir = false
      · simp [hd]
      · by_cases hc : (!rov x.label p.label || (!x.dir && !labEq x.label p.label)) = true
        · simp only [if_neg hd, if_pos hc]
          rw [if_pos (by decide)]
        · simp only [if_neg hd, if_neg hc]
          rw [if_neg (by simp)]
set_option maxRecDepth 8000 in
set_option maxHeartbeats 4000000 in
theorem checkPlace_any (a : Option Addr) (cap : Nat) (l : List PN) (x : PN) (hl : l.length ≤ 100000) (ho : OrdP l) (hok : ∀ y ∈ l, nodC y.n = 0) (hx : nodC x.n = 0) (w : World) (h : RowN w a l) :
    Calls Tryd.prog 35 #[.slice a l.length cap, .agg x.cs.toArray] w fun e w' => e = .returned (.int .i64 (placeC (namesP l) x.n)) ∧ Below w.heap.size w w' := by
  have hund := Tryd.underlying32
  have hsz : (Tryd.prog.info? 32).map (·.size) = some 16 := by kernel_rfl
  have hsl : (Tryd.prog.info? 26).map (·.size) = some 4 := by kernel_rfl
  obtain ⟨hps0, hps⟩ := check_slashed (nodC_zero.1 hx).1
  have hgx := (nodC_zero.1 hx).2.1
  obtain ⟨R, hR⟩ : ∃ R, placeC (namesP l) x.n = R := ⟨_, rfl⟩
  rw [hR]
  unfold placeC at hR
  have hb0 := blkl_alloc w x.cs.toArray 32
  have hB0 := alloc_below w (.cells x.cs.toArray 32)
  have hcs : x.cs = [.string x.n.path, .bool x.n.dir, .int .i64 x.n.label.s, .int .i64 x.n.label.c, .int .i64 x.n.label.i, .int .i64 x.n.label.k, .slice x.aa x.n.acl.length x.ca, .int .i64 x.n.r1, .int .i64 x.n.r2, .int .i64 x.n.r3, .int .i64 x.n.gates, .slice x.wa x.n.words.length x.cw, .int .i64 x.n.by_.s, .int .i64 x.n.by_.c, .int .i64 x.n.by_.i, .int .i64 x.n.by_.k] := rfl
  have hrow := h.below hB0
  rw [hcs] at hB0 hb0 hrow ⊢
  have hc0 := (hb0.1 0 _ rfl).1
  cases he : eqs x.n.path slashS
  · rw [if_neg (by rw [he]; decide)] at hR
    have f0 : (x.n.path.toList == [47]) = false := by rw [← slash_lit]; exact he
    have kp := parent_any x.n.path (by omega) hps0
    obtain ⟨pp, hpp⟩ : ∃ pp, parentOf x.n.path = pp := ⟨_, rfl⟩
    rw [hpp] at hR kp
    clear hpp
    obtain ⟨A, M, B, hP⟩ := partsN_of pp l ho
    have kf := fun W (q : RowN W a l) => place_any W a cap l A M B pp hP q hl
    obtain ⟨fr, hfr⟩ : ∃ fr, findP l pp = fr := ⟨_, rfl⟩
    rw [find_names, hfr] at hR
    obtain ⟨n, hn⟩ : ∃ n, l.length = n := ⟨_, rfl⟩
    rw [hn] at kf ⊢
    replace hn : Aside (l.length = n) := hn
    go_enter Tryd.func35, Tryd.ntmps35
    go_wp2_with fail
    generalize w.alloc (.cells ([.string x.n.path, .bool x.n.dir, .int .i64 x.n.label.s, .int .i64 x.n.label.c, .int .i64 x.n.label.i, .int .i64 x.n.label.k, .slice x.aa x.n.acl.length x.ca, .int .i64 x.n.r1, .int .i64 x.n.r2, .int .i64 x.n.r3, .int .i64 x.n.gates, .slice x.wa x.n.words.length x.cw, .int .i64 x.n.by_.s, .int .i64 x.n.by_.c, .int .i64 x.n.by_.i, .int .i64 x.n.by_.k]).toArray 32) = W at *
    refine (kp W).mono ?_
    rintro e W1 ⟨rfl, hW1⟩
    subst hW1
    clear kp
    go_wp2_with fail
    refine (kf W1 hrow).mono ?_
    rintro e W2 ⟨rfl, hB2⟩
    have hB02 := Below.then hB0 hB2
    have hb2 := stab_blk _ _ _ _ hb0 hB2
    have hrow2 := hrow.below hB2
    clear kf hb0 hB0 hrow hc0
    cases fr with
    | none =>
      rw [hP.not hfr]
      obtain rfl : R = 2 := hR.symm
      clear hP
      go_wp2_with fail
      go_ret
      exact ⟨rfl, hB02⟩
    | some d =>
      obtain ⟨hd, hmm⟩ := hP.at hfr
      rw [hmm]
      have hdm := List.mem_of_getElem? hd
      have hgd := (nodC_zero.1 (hok d hdm)).2.1
      have hltk := (List.getElem?_eq_some_iff.1 hd).1
      rw [hn.out] at hltk
      obtain ⟨y0, rfl⟩ := h.some_ hd
      have hw := hrow2.r.at pn_len hd
      obtain ⟨W3, hW3, hth, hbk, hB3⟩ := put_new W2 ndz 32 d.cs rfl (by rw [pn_len]; omega)
      have hd1 := (hbk.1 1 _ rfl).1
      have hB03 := Below.then hB02 hB3
      have hb3 := stab_blk _ _ _ _ hb2 hB3
      obtain ⟨ds, hds⟩ : ∃ ds, d.cs = ds := ⟨_, rfl⟩
      have hlen : ds.length = 16 := by rw [← hds]; rfl
      have hone : ∀ v ∈ ds, v.oneCell' = true := by rw [← hds]; exact pn_one d
      have hsz1 : (Tryd.prog.info? 32).map (·.size) = some ds.length := by rw [hlen]; exact hsz
      obtain ⟨k, hk⟩ : ∃ k, A.length = k := ⟨_, rfl⟩
      rw [hk] at hw hltk ⊢
      rw [hds] at hw hth hW3
      have hL1 : CellsAt W3 ⟨w.heap.size, 2, none⟩ [.int .i64 x.n.label.s, .int .i64 x.n.label.c, .int .i64 x.n.label.i, .int .i64 x.n.label.k] := by
        have q := pn_lab (p := x) (show CellsAt W3 ⟨w.heap.size, 0, none⟩ x.cs from by rw [hcs]; exact hb3.at)
        simpa using q
      have hL2 : CellsAt W3 ⟨W2.heap.size, 2, none⟩ [.int .i64 d.n.label.s, .int .i64 d.n.label.c, .int .i64 d.n.label.i, .int .i64 d.n.label.k] := by
        have q := pn_lab (p := d) hbk.at
        simpa using q
      have kv := lover_any x.n.label d.n.label W3
      rw [over_eq hgx hgd] at kv
      have hx1 := (hb3.1 1 _ rfl).1
      have hR' : (if d.n.dir = false then 3 else if (!rov x.n.label d.n.label || (!x.n.dir && !labEq x.n.label d.n.label)) = true then 15 else 0) = R := hR
      clear hds hk hd hfr hmm hP h hb2 hrow2 hR
      cases hdd : d.n.dir
      · rw [hdd] at hd1
        rw [hdd, if_pos rfl] at hR'
        subst hR'
        go_wp2_with (first | (refine wpList_load_at rfl _ rfl (y0.add (k * 16)) rfl ds hw hund rfl hsz1 ?_) | (refine wpList_store_row rfl _ _ rfl W2.heap.size rfl ds rfl hth hsz1 hone hW3 ?_) | fail)
        go_ret
        exact ⟨rfl, hB03⟩
      · rw [hdd] at hd1
        rw [hdd, if_neg (by simp)] at hR'
        generalize hrv : rov x.n.label d.n.label = rv at *
        clear hrv
        go_wp2_with (first | (refine wpList_load_at rfl _ rfl (y0.add (k * 16)) rfl ds hw hund rfl hsz1 ?_) | (refine wpList_store_row rfl _ _ rfl W2.heap.size rfl ds rfl hth hsz1 hone hW3 ?_) | (refine wpList_load_at rfl _ rfl ⟨w.heap.size, 2, none⟩ rfl [.int .i64 x.n.label.s, .int .i64 x.n.label.c, .int .i64 x.n.label.i, .int .i64 x.n.label.k] hL1 Tryd.underlying26 rfl hsl ?_) | (refine wpList_load_at rfl _ rfl ⟨W2.heap.size, 2, none⟩ rfl [.int .i64 d.n.label.s, .int .i64 d.n.label.c, .int .i64 d.n.label.i, .int .i64 d.n.label.k] hL2 Tryd.underlying26 rfl hsl ?_) | fail)
        refine kv.mono ?_
        rintro e W4 ⟨rfl, hB4⟩
        have hB04 := Below.then hB03 hB4
        have hM1 := hL1.below hB4
        have hM2 := hL2.below hB4
        have hx4 := (hB4.cell (World.block_lt_of_cell? _ _ hx1)).trans hx1
        have hnq := run_neq_lab x.n.label d.n.label
        replace hnq : ∀ W, (binOp .neq 26 (.agg #[.int .i64 x.n.label.s, .int .i64 x.n.label.c, .int .i64 x.n.label.i, .int .i64 x.n.label.k]) (.agg #[.int .i64 d.n.label.s, .int .i64 d.n.label.c, .int .i64 d.n.label.i, .int .i64 d.n.label.k])).run Tryd.prog W = .ok (.bool (!labEq x.n.label d.n.label)) W := hnq
        clear kv hL1 hL2 hx1 hw hth
        cases rv
        · obtain rfl : R = 15 := by simpa using hR'.symm
          clear hR' hM1 hM2
          go_wp2_with fail
          go_ret
          exact ⟨rfl, hB04⟩
        · cases hxd : x.n.dir
          · rw [hxd] at hx4 hR'
            cases hle : labEq x.n.label d.n.label
            · rw [hle] at hnq hR'
              obtain rfl : R = 15 := by simpa using hR'.symm
              clear hR'
              go_wp2_with (first | (refine wpList_load_atg rfl _ rfl ⟨w.heap.size, 2, none⟩ rfl [.int .i64 x.n.label.s, .int .i64 x.n.label.c, .int .i64 x.n.label.i, .int .i64 x.n.label.k] hM1 Tryd.underlying26 rfl hsl ?_) | (refine wpList_load_atg rfl _ rfl ⟨W2.heap.size, 2, none⟩ rfl [.int .i64 d.n.label.s, .int .i64 d.n.label.c, .int .i64 d.n.label.i, .int .i64 d.n.label.k] hM2 Tryd.underlying26 rfl hsl ?_) | fail)
              go_ret
              exact ⟨rfl, hB04⟩
            · rw [hle] at hnq hR'
              obtain rfl : R = 0 := by simpa using hR'.symm
              clear hR'
              go_wp2_with (first | (refine wpList_load_atg rfl _ rfl ⟨w.heap.size, 2, none⟩ rfl [.int .i64 x.n.label.s, .int .i64 x.n.label.c, .int .i64 x.n.label.i, .int .i64 x.n.label.k] hM1 Tryd.underlying26 rfl hsl ?_) | (refine wpList_load_atg rfl _ rfl ⟨W2.heap.size, 2, none⟩ rfl [.int .i64 d.n.label.s, .int .i64 d.n.label.c, .int .i64 d.n.label.i, .int .i64 d.n.label.k] hM2 Tryd.underlying26 rfl hsl ?_) | fail)
              go_ret
              exact ⟨rfl, hB04⟩
          · rw [hxd] at hx4 hR'
            obtain rfl : R = 0 := by simpa using hR'.symm
            clear hR' hM1 hM2
            go_wp2_with fail
            go_ret
            exact ⟨rfl, hB04⟩
  · rw [if_pos he] at hR
    have f0 : (x.n.path.toList == [47]) = true := by rw [← slash_lit]; exact he
    subst hR
    go_enter Tryd.func35, Tryd.ntmps35
    go_wp2_with fail
    go_ret
    exact ⟨rfl, hB0⟩
set_option maxRecDepth 8000 in
set_option maxHeartbeats 4000000 in
theorem tcheck_any (a : Option Addr) (cap : Nat) (l : List PN) (hl : l.length ≤ 100000) (hsm : SmallN l) (w : World) (h : RowN w a l) (hm : MaxV w) :
    Calls Tryd.prog 10 #[.slice a l.length cap] w fun e w' => e = .returned (.int .i64 (treeC (namesP l))) ∧ Below w.heap.size w w' := by
  have hund := Tryd.underlying32
  have hsz : (Tryd.prog.info? 32).map (·.size) = some 16 := by kernel_rfl
  have hsl : (Tryd.prog.info? 26).map (·.size) = some 4 := by kernel_rfl
  obtain ⟨R, hR⟩ : ∃ R, treeC (namesP l) = R := ⟨_, rfl⟩
  rw [hR]
  unfold treeC at hR
  have kr := checkRow_any a cap l hl hsm w h hm
  obtain ⟨sq, hsq⟩ : ∃ sq, seqC none (namesP l) = sq := ⟨_, rfl⟩
  rw [hsq] at hR kr
  obtain ⟨n, hn⟩ : ∃ n, l.length = n := ⟨_, rfl⟩
  rw [hn] at kr ⊢
  have hln : n ≤ 100000 := by rw [← hn]; exact hl
  replace hn : Aside (l.length = n) := hn
  replace hsq : Aside (seqC none (namesP l) = sq) := hsq
  replace hR : Aside _ := hR
  go_enter Tryd.func10, Tryd.ntmps10
  go_wp2_with fail
  refine kr.mono ?_
  rintro e W1 ⟨rfl, hB1⟩
  clear kr
  by_cases hs0 : sq = 0
  · subst hs0
    obtain ⟨hok, hord, -⟩ := seq_zero _ none hsq.out
    have hokp : ∀ y ∈ l, nodC y.n = 0 := fun y hy => hok y.n (List.mem_map.2 ⟨y, hy, rfl⟩)
    have ho := ordP.1 hord
    replace hR := hR.out
    rw [if_neg (by simp)] at hR
    obtain ⟨A, M, B, hP⟩ := partsN_of slashS l ho
    have kp := place_any W1 a cap l A M B slashS hP (h.below hB1) hl
    obtain ⟨fr, hfr⟩ : ∃ fr, findP l slashS = fr := ⟨_, rfl⟩
    rw [find_names, hfr] at hR
    rw [hn.out] at kp
    replace kp : Calls Tryd.prog 34 #[.slice a n cap, .string ⟨#[47]⟩] W1 _ := kp
    go_wp2_with fail
    refine kp.mono ?_
    rintro e W2 ⟨rfl, hB2⟩
    have hB02 := Below.then hB1 hB2
    clear kp
    cases fr with
    | none =>
      rw [hP.not hfr]
      obtain rfl : R = 2 := hR.symm
      clear hP
      go_wp2_with fail
      go_ret
      exact ⟨rfl, hB02⟩
    | some r =>
      obtain ⟨hr, hmm⟩ := hP.at hfr
      rw [hmm]
      obtain ⟨k, hk⟩ : ∃ k, A.length = k := ⟨_, rfl⟩
      rw [hk] at hr ⊢
      have hltk := (List.getElem?_eq_some_iff.1 hr).1
      rw [hn.out] at hltk
      obtain ⟨y0, rfl⟩ := h.some_ hr
      obtain ⟨U, hU⟩ : ∃ U, upC (namesP l) (namesP l) = U := ⟨_, rfl⟩
      replace hR : (if U ≠ 0 then U else if labEq r.n.label bottomL = true then 0 else 15) = R := by rw [← hU]; exact hR
      replace hR : Aside _ := hR
      have hU0 : Aside (U = upC (namesP l) ((namesP l).drop 0)) := hU.symm
      clear hP hfr hmm hk hU
      go_wp2_with fail
      go_loopw [23] (fun t23 wr => ∃ i : Nat, i ≤ n ∧ t23 = .int .i64 (i : Int) ∧ Aside (U = upC (namesP l) ((namesP l).drop i)) ∧ Below w.heap.size w wr) (fun t23 _ => n - (Go.RowKit.intOf t23).toNat)
      case atStart => exact ⟨0, by omega, rfl, hU0, hB02⟩
      case round =>
        clear hU0 hB02 hB2
        obtain ⟨i, hi, rfl, hUi, hB⟩ := hrel
        by_cases hlt : i < n
        · obtain ⟨x, hx⟩ : ∃ x, l[i]? = some x := ⟨_, List.getElem?_eq_getElem (by rw [hn.out]; exact hlt)⟩
          have hxm := List.mem_of_getElem? hx
          have hrow := h.below hB
          have hw := hrow.r.at pn_len hx
          have hU1 := hUi.out
          rw [up_place (names_at hx)] at hU1
          obtain ⟨W3, hW3, hth, hbk, hB3⟩ := put_new wr ndz 32 x.cs rfl (by rw [pn_len]; omega)
          have kc := checkPlace_any (some y0) cap l x hl ho hokp (hokp x hxm) W3 (hrow.below hB3)
          rw [hn.out] at kc
          have hrg := hbk.range
          have hBw := Below.then hB hB3
          obtain ⟨cs, hcs⟩ : ∃ cs, x.cs = cs := ⟨_, rfl⟩
          have hlen : cs.length = 16 := by rw [← hcs]; rfl
          have hone : ∀ v ∈ cs, v.oneCell' = true := by rw [← hcs]; exact pn_one x
          have hsz1 : (Tryd.prog.info? 32).map (·.size) = some cs.length := by rw [hlen]; exact hsz
          rw [hcs] at hw hth hW3 kc hrg
          generalize hpc : placeC (namesP l) x.n = pc at *
          replace hU1 : Aside _ := hU1
          clear hcs hx hrow hbk hUi hpc
          go_wp2_with (first | (refine wpList_load_at rfl _ rfl (y0.add (i * 16)) rfl cs hw hund rfl hsz1 ?_) | (refine wpList_store_row rfl _ _ rfl wr.heap.size rfl cs rfl hth hsz1 hone hW3 ?_) | (refine wpList_load_row rfl _ rfl wr.heap.size rfl cs hrg hund rfl hsz1 ?_) | fail)
          refine kc.mono ?_
          rintro e W4 ⟨rfl, hB4⟩
          have hB04 := Below.then hBw hB4
          clear kc hw hth hrg
          by_cases hp0 : pc = 0
          · subst hp0
            have hU2 := hU1.out
            rw [if_neg (by simp)] at hU2
            replace hU2 : Aside _ := hU2
            clear hU1
            go_wp2_with fail
            exact ⟨⟨i + 1, by omega, by simp, hU2, hB04⟩, by simp [Go.RowKit.intOf]; omega⟩
          · have hU2 := hU1.out
            rw [if_pos hp0] at hU2
            subst hU2
            have hR2 := hR.out
            rw [if_pos hp0] at hR2
            subst hR2
            clear hU1 hR
            go_wp2_with fail
            go_ret
            exact ⟨rfl, hB04⟩
        · obtain rfl : i = n := by omega
          have hs2 := hUi.out
          rw [List.drop_eq_nil_of_le (by rw [show (namesP l).length = l.length from by simp [namesP], hn.out]; exact Nat.le_refl _)] at hs2
          obtain rfl : U = 0 := hs2
          have hR2 := hR.out
          rw [if_neg (by simp)] at hR2
          have hcr := (h.below hB.drew).r.at pn_len hr
          have hL : CellsAt wr.drew ⟨(y0.add (k * 16)).block, (y0.add (k * 16)).off + 2, none⟩ [.int .i64 r.n.label.s, .int .i64 r.n.label.c, .int .i64 r.n.label.i, .int .i64 r.n.label.k] := pn_lab hcr
          have hnq := run_neq_lab r.n.label bottomL
          replace hnq : ∀ W, (binOp .neq 26 (.agg #[.int .i64 r.n.label.s, .int .i64 r.n.label.c, .int .i64 r.n.label.i, .int .i64 r.n.label.k]) bottomL.v).run Tryd.prog W = .ok (.bool (!labEq r.n.label bottomL)) W := hnq
          have hS : (fun W => CellsAt W ⟨(y0.add (k * 16)).block, (y0.add (k * 16)).off + 2, none⟩ [.int .i64 r.n.label.s, .int .i64 r.n.label.c, .int .i64 r.n.label.i, .int .i64 r.n.label.k]) wr.drew := hL
          have kb := lbottom_any wr.drew
          clear hUi hR hcr hL
          cases hle : labEq r.n.label bottomL
          · rw [hle] at hnq hR2
            obtain rfl : R = 15 := by simpa using hR2.symm
            clear hR2
            go_wp2_with fail
            refine wp_region_held_drew (S := (fun W => CellsAt W ⟨(y0.add (k * 16)).block, (y0.add (k * 16)).off + 2, none⟩ [.int .i64 r.n.label.s, .int .i64 r.n.label.c, .int .i64 r.n.label.i, .int .i64 r.n.label.k])) (by kernel_rfl) (by first | exact hS1 | exact hS) ?_
            intro hHeld
            (first | (refine wpAnyH_take (i := 0) (v := ?_) (by simp only [gA, gB, gC]; rfl) (by kernel_rfl) (by kernel_rfl) (by kernel_rfl) (by exact fun _ _ _ h => h) (Or.inl ⟨by rfl, ?_⟩) (by assumption) ?_; rotate_left; (focus (intro w hSw; (try dsimp only at hSw); go_simp; try with_reducible rfl))) | (refine wpAnyH_take (i := 0) (v := undef) (by simp only [gA, gB, gC]; rfl) (by kernel_rfl) (by kernel_rfl) (by kernel_rfl) (by exact fun _ _ _ h => h) (Or.inr ⟨by rfl, rfl⟩) (by assumption) ?_) | fail); simp only [Act.put, sA, sB, sC]
            (first | (refine wpAnyH_take (i := 1) (v := ?_) (by simp only [gA, gB, gC]; rfl) (by kernel_rfl) (by kernel_rfl) (by kernel_rfl) (by exact fun _ _ _ h => h) (Or.inl ⟨by rfl, ?_⟩) (by assumption) ?_; rotate_left; (focus (intro w hSw; (try dsimp only at hSw); go_simp; try with_reducible rfl))) | (refine wpAnyH_take (i := 1) (v := undef) (by simp only [gA, gB, gC]; rfl) (by kernel_rfl) (by kernel_rfl) (by kernel_rfl) (by exact fun _ _ _ h => h) (Or.inr ⟨by rfl, rfl⟩) (by assumption) ?_) | fail); simp only [Act.put, sA, sB, sC]
            (first | (refine wpAnyH_take (i := 2) (v := ?_) (by simp only [gA, gB, gC]; rfl) (by kernel_rfl) (by kernel_rfl) (by kernel_rfl) (by exact fun _ _ _ h => h) (Or.inl ⟨by rfl, ?_⟩) (by assumption) ?_; rotate_left; (focus (intro w hSw; (try dsimp only at hSw); go_simp; try with_reducible rfl))) | (refine wpAnyH_take (i := 2) (v := undef) (by simp only [gA, gB, gC]; rfl) (by kernel_rfl) (by kernel_rfl) (by kernel_rfl) (by exact fun _ _ _ h => h) (Or.inr ⟨by rfl, rfl⟩) (by assumption) ?_) | fail); simp only [Act.put, sA, sB, sC]
            (first | (refine wpAnyH_take (i := 3) (v := ?_) (by simp only [gA, gB, gC]; rfl) (by kernel_rfl) (by kernel_rfl) (by kernel_rfl) (by exact fun _ _ _ h => h) (Or.inl ⟨by rfl, ?_⟩) (by assumption) ?_; rotate_left; (focus (intro w hSw; (try dsimp only at hSw); go_simp; try with_reducible rfl))) | (refine wpAnyH_take (i := 3) (v := undef) (by simp only [gA, gB, gC]; rfl) (by kernel_rfl) (by kernel_rfl) (by kernel_rfl) (by exact fun _ _ _ h => h) (Or.inr ⟨by rfl, rfl⟩) (by assumption) ?_) | fail); simp only [Act.put, sA, sB, sC]
            (first | (refine wpAnyH_take (i := 4) (v := _) (by simp only [gA, gB, gC]; rfl) (by kernel_rfl) (by kernel_rfl) (by kernel_rfl) (by exact fun _ _ _ h => h) (yields_at (by rfl) _ rfl _ rfl [.int .i64 r.n.label.s, .int .i64 r.n.label.c, .int .i64 r.n.label.i, .int .i64 r.n.label.k] (fun _ q => q) Tryd.underlying26 rfl hsl) (by assumption) ?_) | (refine wpAnyH_take (i := 4) (v := undef) (by simp only [gA, gB, gC]; rfl) (by kernel_rfl) (by kernel_rfl) (by kernel_rfl) (by exact fun _ _ _ h => h) (Or.inr ⟨by rfl, rfl⟩) (by assumption) ?_) | fail); simp only [Act.put, sA, sB, sC]
            first | (refine wpAnyH_take (i := 5) (v := undef) (by simp only [gA, gB, gC]; rfl) (by kernel_rfl) (by kernel_rfl) (by kernel_rfl) (by exact fun _ _ _ h => h) (Or.inr ⟨by rfl, rfl⟩) (by assumption) ?_; simp only [Act.put, sA, sB, sC]) | (refine wpAnyH_ready (rs := [5]) (by kernel_rfl) (by simp) ?_; refine AllReadyH.cons (by simp only [gA, gB, gC]; rfl) (fun K hK => ?_) AllReadyH.nil; go_simp; (first | (go_at_call 36; refine kb.mono ?_; rintro e W5 ⟨rfl, hB5⟩; have hS1 := hS.below hB5)); refine hK.out _ _ (by first | exact hS1 | exact hS) ?_; clear hHeld hK; intro hHeld; (try simp only [Act.put, sA, sB, sC])) | fail
            (first | (refine wpAnyH_take (i := 6) (v := ?_) (by simp only [gA, gB, gC]; rfl) (by kernel_rfl) (by kernel_rfl) (by kernel_rfl) (by exact fun _ _ _ h => h) (Or.inl ⟨by rfl, ?_⟩) (by assumption) ?_; rotate_left; (focus (intro w hSw; (try dsimp only at hSw); go_simp; try with_reducible rfl))) | (refine wpAnyH_take (i := 6) (v := undef) (by simp only [gA, gB, gC]; rfl) (by kernel_rfl) (by kernel_rfl) (by kernel_rfl) (by exact fun _ _ _ h => h) (Or.inr ⟨by rfl, rfl⟩) (by assumption) ?_) | fail); simp only [Act.put, sA, sB, sC]
            refine wpAnyH_done (by kernel_rfl) ?_ _
            go_wp2_with fail
            go_ret
            exact ⟨rfl, Below.then hB.drew hB5⟩
          · rw [hle] at hnq hR2
            obtain rfl : R = 0 := by simpa using hR2.symm
            clear hR2
            go_wp2_with fail
            refine wp_region_held_drew (S := (fun W => CellsAt W ⟨(y0.add (k * 16)).block, (y0.add (k * 16)).off + 2, none⟩ [.int .i64 r.n.label.s, .int .i64 r.n.label.c, .int .i64 r.n.label.i, .int .i64 r.n.label.k])) (by kernel_rfl) (by first | exact hS1 | exact hS) ?_
            intro hHeld
            (first | (refine wpAnyH_take (i := 0) (v := ?_) (by simp only [gA, gB, gC]; rfl) (by kernel_rfl) (by kernel_rfl) (by kernel_rfl) (by exact fun _ _ _ h => h) (Or.inl ⟨by rfl, ?_⟩) (by assumption) ?_; rotate_left; (focus (intro w hSw; (try dsimp only at hSw); go_simp; try with_reducible rfl))) | (refine wpAnyH_take (i := 0) (v := undef) (by simp only [gA, gB, gC]; rfl) (by kernel_rfl) (by kernel_rfl) (by kernel_rfl) (by exact fun _ _ _ h => h) (Or.inr ⟨by rfl, rfl⟩) (by assumption) ?_) | fail); simp only [Act.put, sA, sB, sC]
            (first | (refine wpAnyH_take (i := 1) (v := ?_) (by simp only [gA, gB, gC]; rfl) (by kernel_rfl) (by kernel_rfl) (by kernel_rfl) (by exact fun _ _ _ h => h) (Or.inl ⟨by rfl, ?_⟩) (by assumption) ?_; rotate_left; (focus (intro w hSw; (try dsimp only at hSw); go_simp; try with_reducible rfl))) | (refine wpAnyH_take (i := 1) (v := undef) (by simp only [gA, gB, gC]; rfl) (by kernel_rfl) (by kernel_rfl) (by kernel_rfl) (by exact fun _ _ _ h => h) (Or.inr ⟨by rfl, rfl⟩) (by assumption) ?_) | fail); simp only [Act.put, sA, sB, sC]
            (first | (refine wpAnyH_take (i := 2) (v := ?_) (by simp only [gA, gB, gC]; rfl) (by kernel_rfl) (by kernel_rfl) (by kernel_rfl) (by exact fun _ _ _ h => h) (Or.inl ⟨by rfl, ?_⟩) (by assumption) ?_; rotate_left; (focus (intro w hSw; (try dsimp only at hSw); go_simp; try with_reducible rfl))) | (refine wpAnyH_take (i := 2) (v := undef) (by simp only [gA, gB, gC]; rfl) (by kernel_rfl) (by kernel_rfl) (by kernel_rfl) (by exact fun _ _ _ h => h) (Or.inr ⟨by rfl, rfl⟩) (by assumption) ?_) | fail); simp only [Act.put, sA, sB, sC]
            (first | (refine wpAnyH_take (i := 3) (v := ?_) (by simp only [gA, gB, gC]; rfl) (by kernel_rfl) (by kernel_rfl) (by kernel_rfl) (by exact fun _ _ _ h => h) (Or.inl ⟨by rfl, ?_⟩) (by assumption) ?_; rotate_left; (focus (intro w hSw; (try dsimp only at hSw); go_simp; try with_reducible rfl))) | (refine wpAnyH_take (i := 3) (v := undef) (by simp only [gA, gB, gC]; rfl) (by kernel_rfl) (by kernel_rfl) (by kernel_rfl) (by exact fun _ _ _ h => h) (Or.inr ⟨by rfl, rfl⟩) (by assumption) ?_) | fail); simp only [Act.put, sA, sB, sC]
            (first | (refine wpAnyH_take (i := 4) (v := _) (by simp only [gA, gB, gC]; rfl) (by kernel_rfl) (by kernel_rfl) (by kernel_rfl) (by exact fun _ _ _ h => h) (yields_at (by rfl) _ rfl _ rfl [.int .i64 r.n.label.s, .int .i64 r.n.label.c, .int .i64 r.n.label.i, .int .i64 r.n.label.k] (fun _ q => q) Tryd.underlying26 rfl hsl) (by assumption) ?_) | (refine wpAnyH_take (i := 4) (v := undef) (by simp only [gA, gB, gC]; rfl) (by kernel_rfl) (by kernel_rfl) (by kernel_rfl) (by exact fun _ _ _ h => h) (Or.inr ⟨by rfl, rfl⟩) (by assumption) ?_) | fail); simp only [Act.put, sA, sB, sC]
            first | (refine wpAnyH_take (i := 5) (v := undef) (by simp only [gA, gB, gC]; rfl) (by kernel_rfl) (by kernel_rfl) (by kernel_rfl) (by exact fun _ _ _ h => h) (Or.inr ⟨by rfl, rfl⟩) (by assumption) ?_; simp only [Act.put, sA, sB, sC]) | (refine wpAnyH_ready (rs := [5]) (by kernel_rfl) (by simp) ?_; refine AllReadyH.cons (by simp only [gA, gB, gC]; rfl) (fun K hK => ?_) AllReadyH.nil; go_simp; (first | (go_at_call 36; refine kb.mono ?_; rintro e W5 ⟨rfl, hB5⟩; have hS1 := hS.below hB5)); refine hK.out _ _ (by first | exact hS1 | exact hS) ?_; clear hHeld hK; intro hHeld; (try simp only [Act.put, sA, sB, sC])) | fail
            (first | (refine wpAnyH_take (i := 6) (v := ?_) (by simp only [gA, gB, gC]; rfl) (by kernel_rfl) (by kernel_rfl) (by kernel_rfl) (by exact fun _ _ _ h => h) (Or.inl ⟨by rfl, ?_⟩) (by assumption) ?_; rotate_left; (focus (intro w hSw; (try dsimp only at hSw); go_simp; try with_reducible rfl))) | (refine wpAnyH_take (i := 6) (v := undef) (by simp only [gA, gB, gC]; rfl) (by kernel_rfl) (by kernel_rfl) (by kernel_rfl) (by exact fun _ _ _ h => h) (Or.inr ⟨by rfl, rfl⟩) (by assumption) ?_) | fail); simp only [Act.put, sA, sB, sC]
            refine wpAnyH_done (by kernel_rfl) ?_ _
            go_wp2_with fail
            go_ret
            exact ⟨rfl, Below.then hB.drew hB5⟩
  · have hR2 := hR.out
    rw [if_pos hs0] at hR2
    subst hR2
    clear hR hsq
    go_wp2_with fail
    go_ret
    exact ⟨rfl, hB1⟩
end Go.Proofs.YtacjfbomjglnjaaDoor

/-! NODES PUT AND DROPPED: package tree's Put and Drop, as they landed, of lists that stand by their paths. -/
namespace Go.Proofs.YtacjfbomjglnjaaDoor
open Go.RowKit
set_option maxRecDepth 8000
set_option linter.unusedSimpArgs false
set_option linter.unusedVariables false

theorem pieces_row (W : World) (T : TypeId) (ps : List Pc) (vs : Array Value) (hv : vs.toList = ps.map fun p => .slice p.a p.l.length p.c) : RowAt 1 Pc.cs (W.alloc (.cells vs T)) (some ⟨W.heap.size, 0, none⟩) ps := fun j x hx => by
  refine ⟨_, rfl, fun i hi => ?_⟩
  obtain rfl : i = 0 := by omega
  rw [add_at, World.cell?_alloc_at _ _ _ _ rfl, ← Array.getElem?_toList, hv]
  simp [hx, Pc.cs]
theorem rowN_one (W : World) (x : PN) (h : x.At W) : RowN (W.alloc (.cells x.cs.toArray 32)) (some ⟨W.heap.size, 0, none⟩) [x] := ⟨row_made pn_len W x x.cs.toArray rfl _, fun y hy => by
  obtain rfl := List.mem_singleton.1 hy
  exact h.below (alloc_below _ _)⟩
theorem RowN.sub {W : World} {a b : Option Addr} {l m : List PN} (h : RowN W a l) (hr : RowAt 16 PN.cs W b m) (hs : ∀ x ∈ m, x ∈ l) : RowN W b m := ⟨hr, fun x hx => h.p x (hs x hx)⟩
theorem PartsN.takeA {l A M B : List PN} {u : ByteArray} (p : PartsN l u A M B) : l.take A.length = A := by rw [p.eq]; simp
theorem PartsN.dropA {l A M B : List PN} {u : ByteArray} (p : PartsN l u A M B) : l.drop A.length = M ++ B := by rw [p.eq]; simp
theorem PartsN.put_names {l A M B : List PN} {x : PN} (p : PartsN l x.n.path A M B) : putN (namesP l) x.n = namesP A ++ ([x.n] ++ namesP B) := by
  rw [← Go.Proofs.YtacjfbomjglnjaaDoor.put_names, p.put]
  simp [namesP]
theorem PartsN.drop_names {l A M B : List PN} {u : ByteArray} (p : PartsN l u A M B) : dropN (namesP l) u = namesP A ++ namesP B := by
  rw [← Go.Proofs.YtacjfbomjglnjaaDoor.drop_names, p.drop]
  simp [namesP]
theorem PartsN.mem {l A M B : List PN} {u : ByteArray} (p : PartsN l u A M B) : (∀ x ∈ A, x ∈ l) ∧ (∀ x ∈ B, x ∈ l) := by
  rw [p.eq]
  exact ⟨fun x hx => by simp [hx], fun x hx => by simp [hx]⟩
set_option maxRecDepth 8000 in
set_option maxHeartbeats 4000000 in
theorem tput_any (a : Option Addr) (cap : Nat) (l : List PN) (x : PN) (hl : l.length ≤ 10000) (hc : l.length ≤ cap) (ho : OrdP l) (hf : ∀ x ∈ l, x.Few) (hx : x.Few) (w : World) (h : RowN w a l) (hxa : x.At w) :
    Calls Tryd.prog 17 #[.slice a l.length cap, .agg x.cs.toArray] w fun e w' => ∃ v l', e = .returned v ∧ OwnN w' w.heap.size v l' ∧ namesP l' = putN (namesP l) x.n ∧ (∀ y ∈ l', y.At w') ∧ Below w.heap.size w w' := by
  have hund := Tryd.underlying32
  have hsz : (Tryd.prog.info? 32).map (·.size) = some 16 := by kernel_rfl
  obtain ⟨A, M, B, hP⟩ := partsN_of x.n.path l ho
  have hb0 := blkl_alloc w x.cs.toArray 32
  have hB0 := alloc_below w (.cells x.cs.toArray 32)
  have hcs : x.cs = [.string x.n.path, .bool x.n.dir, .int .i64 x.n.label.s, .int .i64 x.n.label.c, .int .i64 x.n.label.i, .int .i64 x.n.label.k, .slice x.aa x.n.acl.length x.ca, .int .i64 x.n.r1, .int .i64 x.n.r2, .int .i64 x.n.r3, .int .i64 x.n.gates, .slice x.wa x.n.words.length x.cw, .int .i64 x.n.by_.s, .int .i64 x.n.by_.c, .int .i64 x.n.by_.i, .int .i64 x.n.by_.k] := rfl
  rw [hcs] at hb0 hB0 ⊢
  have hrow := h.below hB0
  have hxa0 := hxa.below hB0
  have kp := fun W (q : RowN W a l) => place_any W a cap l A M B x.n.path hP q (by omega)
  have hlen := hP.len
  rw [hP.put_names]
  obtain ⟨n, hn⟩ : ∃ n, l.length = n := ⟨_, rfl⟩
  obtain ⟨k, hk⟩ : ∃ k, A.length = k := ⟨_, rfl⟩
  rw [hn] at kp hl hc hlen ⊢
  rw [hk] at kp hlen
  obtain ⟨A1, hs1, -, hr1⟩ := rows_take pn_ok (by kernel_rfl) a n cap k (by omega) hc
  obtain ⟨A2, hs2, -, hr2⟩ := rows_drop pn_ok (by kernel_rfl) a n cap k (by omega) hc
  have htk := hP.takeA
  have hdk := hP.dropA
  rw [hk] at htk hdk
  have hmem := hP.mem
  have hkn : k ≤ n := by omega
  replace hlen : Aside _ := hlen
  replace hn : Aside _ := hn
  replace hk : Aside _ := hk
  replace htk : Aside _ := htk
  replace hdk : Aside _ := hdk
  go_enter Tryd.func17, Tryd.ntmps17
  go_wp2_with fail
  generalize w.alloc (.cells ([.string x.n.path, .bool x.n.dir, .int .i64 x.n.label.s, .int .i64 x.n.label.c, .int .i64 x.n.label.i, .int .i64 x.n.label.k, .slice x.aa x.n.acl.length x.ca, .int .i64 x.n.r1, .int .i64 x.n.r2, .int .i64 x.n.r3, .int .i64 x.n.gates, .slice x.wa x.n.words.length x.cw, .int .i64 x.n.by_.s, .int .i64 x.n.by_.c, .int .i64 x.n.by_.i, .int .i64 x.n.by_.k]).toArray 32) = W at *
  refine (kp W hrow).mono ?_
  rintro e W1 ⟨rfl, hB1⟩
  have hB01 := Below.then hB0 hB1
  have hb1 := stab_blk _ _ _ _ hb0 hB1
  have hrow1 := hrow.below hB1
  have hxa1 := hxa0.below hB1
  have hR1 : RowN W1 A1 A := hrow1.sub (by have := hr1 W1 l hrow1.r; rwa [htk.out] at this) hmem.1
  have hR2 : RowAt 16 PN.cs W1 A2 (M ++ B) := by have := hr2 W1 l hn.out hrow1.r; rwa [hdk.out] at this
  clear kp hb0 hB0 hrow hxa0 hB1 hr1 hr2
  rw [← hcs] at hb1
  rcases hP.mid with rfl | ⟨m, rfl, hm⟩
  · have hBl : Aside (B.length = n - k) := by have h0 := hlen.out; simp at h0; show B.length = _; omega
    obtain ⟨A3, hA3⟩ : ∃ A3, A3 = A2 := ⟨_, rfl⟩
    subst hA3
    have hR3 : RowN W1 A3 B := hrow1.sub (by simpa using hR2) hmem.2
    obtain ⟨Wd, hWd⟩ : ∃ Wd, W1.drew = Wd := ⟨_, rfl⟩
    have hBd : Below W1.heap.size W1 Wd := by rw [← hWd]; exact (Below.refl _ _).drew
    have hfew : ∀ p ∈ [(⟨A1, cap, A⟩ : Pc), ⟨some ⟨Wd.heap.size, 0, none⟩, 1, [x]⟩, ⟨A3, (cap - k), B⟩], ∀ y ∈ p.l, y.Few := fun p hp y hy => by
      simp only [List.mem_cons, List.not_mem_nil, or_false] at hp
      rcases hp with rfl | rfl | rfl
      · exact hf y (hmem.1 y hy)
      · obtain rfl := List.mem_singleton.1 hy
        exact hx
      · exact hf y (hmem.2 y hy)
    have hB2 := alloc_below Wd (.cells x.cs.toArray 32)
    have hR2' := rowN_one Wd x (hxa1.below hBd)
    have hR1' : RowN Wd A1 A := hR1.below hBd
    have hR3' : RowN Wd A3 B := hR3.below hBd
    obtain ⟨X2, hX2⟩ : ∃ X2, Wd.alloc (.cells x.cs.toArray 32) = X2 := ⟨_, rfl⟩
    have hz2 : X2.heap.size = Wd.heap.size + 1 := by rw [← hX2]; simp
    have hB3 := alloc_below X2 (.cells #[.slice A1 k cap, .slice (some ⟨Wd.heap.size, 0, none⟩) 1 1, .slice A3 (n - k) (cap - k)] 22)
    rw [hX2] at hB2 hR2'
    have hrows : ∀ p ∈ [(⟨A1, cap, A⟩ : Pc), ⟨some ⟨Wd.heap.size, 0, none⟩, 1, [x]⟩, ⟨A3, (cap - k), B⟩], RowN (X2.alloc (.cells #[.slice A1 k cap, .slice (some ⟨Wd.heap.size, 0, none⟩) 1 1, .slice A3 (n - k) (cap - k)] 22)) p.a p.l := fun p hp => by
      simp only [List.mem_cons, List.not_mem_nil, or_false] at hp
      rcases hp with rfl | rfl | rfl
      · exact (hR1'.below hB2).below hB3
      · exact hR2'.below hB3
      · exact (hR3'.below hB2).below hB3
    have hpr := pieces_row X2 22 [(⟨A1, cap, A⟩ : Pc), ⟨some ⟨Wd.heap.size, 0, none⟩, 1, [x]⟩, ⟨A3, (cap - k), B⟩] #[.slice A1 k cap, .slice (some ⟨Wd.heap.size, 0, none⟩) 1 1, .slice A3 (n - k) (cap - k)] (by simp [hk.out, hBl.out])
    have kr := trow_any _ 3 _ (by have h1 := hlen.out; have h2 := hBl.out; have h3 := hk.out; simp [pcsN, namesP]; omega) (by simp) hfew _ hpr hrows
    rw [hz2, show pcsN [(⟨A1, cap, A⟩ : Pc), ⟨some ⟨Wd.heap.size, 0, none⟩, 1, [x]⟩, ⟨A3, (cap - k), B⟩] = namesP A ++ ([x.n] ++ namesP B) from by simp [pcsN, namesP]] at kr
    obtain ⟨X3, hX3⟩ : ∃ X3, X2.alloc (.cells #[.slice A1 k cap, .slice (some ⟨Wd.heap.size, 0, none⟩) 1 1, .slice A3 (n - k) (cap - k)] 22) = X3 := ⟨_, rfl⟩
    have hS : (fun W => BlkL w.heap.size x.cs W) W1.drew := by rw [hWd]; exact stab_blk _ _ _ _ hb1 hBd
    have hSd : BlkL w.heap.size x.cs Wd := stab_blk _ _ _ _ hb1 hBd
    have hS2 : BlkL w.heap.size x.cs X2 := stab_blk _ _ _ _ hSd hB2
    have hS3 : BlkL w.heap.size x.cs X3 := by rw [← hX3]; exact stab_blk _ _ _ _ hS2 hB3
    have hB03 : Below w.heap.size w X3 := by rw [← hX3]; exact Below.then (Below.then (Below.then hB01 hBd) hB2) hB3
    rw [hX3] at kr
    replace kr : Calls Tryd.prog 44 #[.slice (some ⟨Wd.heap.size + 1, 0, none⟩) 3 3] X3 _ := kr
    have hS2' : BlkL w.heap.size x.cs (W1.drew.alloc (.cells x.cs.toArray 32)) := by rw [hWd, hX2]; exact hS2
    rw [← hX2] at hX3
    clear hfew hrows hpr hR1 hR1' hR2 hR2' hR3 hR3' hB2 hB3 hz2 hX2 hBd hcs
    go_wp2_with fail
    refine wp_region_held_drew (S := (fun W => BlkL w.heap.size x.cs W)) (by kernel_rfl) (by first | exact hS9 | exact hS3 | exact hS2' | exact hS) ?_
    intro hHeld
    (first | (refine wpAnyH_take (i := 0) (v := ?_) (by simp only [gA, gB, gC]; rfl) (by kernel_rfl) (by kernel_rfl) (by kernel_rfl) (by exact fun _ _ _ h => h) (Or.inl ⟨by rfl, ?_⟩) (by assumption) ?_; rotate_left; (focus (intro w hSw; (try dsimp only at hSw); go_simp; try with_reducible rfl))) | (refine wpAnyH_take (i := 0) (v := undef) (by simp only [gA, gB, gC]; rfl) (by kernel_rfl) (by kernel_rfl) (by kernel_rfl) (by exact fun _ _ _ h => h) (Or.inr ⟨by rfl, rfl⟩) (by assumption) ?_) | fail); simp only [Act.put, sA, sB, sC]
    (first | (refine wpAnyH_take (i := 1) (v := ?_) (by simp only [gA, gB, gC]; rfl) (by kernel_rfl) (by kernel_rfl) (by kernel_rfl) (by exact fun _ _ _ h => h) (Or.inl ⟨by rfl, ?_⟩) (by assumption) ?_; rotate_left; (focus (intro w hSw; (try dsimp only at hSw); go_simp; try with_reducible rfl))) | (refine wpAnyH_take (i := 1) (v := undef) (by simp only [gA, gB, gC]; rfl) (by kernel_rfl) (by kernel_rfl) (by kernel_rfl) (by exact fun _ _ _ h => h) (Or.inr ⟨by rfl, rfl⟩) (by assumption) ?_) | fail); simp only [Act.put, sA, sB, sC]
    (first | (refine wpAnyH_take (i := 2) (v := ?_) (by simp only [gA, gB, gC]; rfl) (by kernel_rfl) (by kernel_rfl) (by kernel_rfl) (by exact fun _ _ _ h => h) (Or.inl ⟨by rfl, ?_⟩) (by assumption) ?_; rotate_left; (focus (intro w hSw; (try dsimp only at hSw); go_simp; try with_reducible rfl))) | (refine wpAnyH_take (i := 2) (v := undef) (by simp only [gA, gB, gC]; rfl) (by kernel_rfl) (by kernel_rfl) (by kernel_rfl) (by exact fun _ _ _ h => h) (Or.inr ⟨by rfl, rfl⟩) (by assumption) ?_) | fail); simp only [Act.put, sA, sB, sC]
    (first | (refine wpAnyH_take (i := 3) (v := _) (by simp only [gA, gB, gC]; rfl) (by kernel_rfl) (by kernel_rfl) (by kernel_rfl) (by exact fun _ _ _ h => h) (yields_row (by rfl) _ rfl w.heap.size rfl x.cs (fun _ q => q.range) hund rfl hsz) (by assumption) ?_) | (refine wpAnyH_take (i := 3) (v := undef) (by simp only [gA, gB, gC]; rfl) (by kernel_rfl) (by kernel_rfl) (by kernel_rfl) (by exact fun _ _ _ h => h) (Or.inr ⟨by rfl, rfl⟩) (by assumption) ?_) | fail); simp only [Act.put, sA, sB, sC]
    (first | (refine wpAnyH_take (i := 5) (v := ?_) (by simp only [gA, gB, gC]; rfl) (by kernel_rfl) (by kernel_rfl) (by kernel_rfl) (by exact fun _ _ _ h => h) (Or.inl ⟨by rfl, ?_⟩) (by assumption) ?_; rotate_left; (focus (intro w hSw; (try dsimp only at hSw); go_simp; try with_reducible rfl))) | (refine wpAnyH_take (i := 5) (v := undef) (by simp only [gA, gB, gC]; rfl) (by kernel_rfl) (by kernel_rfl) (by kernel_rfl) (by exact fun _ _ _ h => h) (Or.inr ⟨by rfl, rfl⟩) (by assumption) ?_) | fail); simp only [Act.put, sA, sB, sC]
    refine wpAnyH_ready (rs := [4]) (by kernel_rfl) (by simp) ?_; refine AllReadyH.cons (by simp only [gA, gB, gC]; rfl) (fun K hK => ?_) AllReadyH.nil; refine step_build1 pn_ok (by decide) rfl _ rfl x.cs rfl rfl ?_; (try simp only [Act.put, sA, sB, sC]); refine hK.out _ _ (by first | exact hS9 | exact hS3 | exact hS2' | exact hS) ?_; clear hHeld hK; intro hHeld; (try simp only [Act.put, sA, sB, sC])
    refine wpAnyH_ready (rs := [6]) (by kernel_rfl) (by simp) ?_; refine AllReadyH.cons (by simp only [gA, gB, gC]; rfl) (fun K hK => ?_) AllReadyH.nil; go_simp; (try rw [hX3]); (try simp only [Act.put, sA, sB, sC]); refine hK.out _ _ (by first | exact hS9 | exact hS3 | exact hS2' | exact hS) ?_; clear hHeld hK; intro hHeld; (try simp only [Act.put, sA, sB, sC])
    first | (refine wpAnyH_take (i := 7) (v := undef) (by simp only [gA, gB, gC]; rfl) (by kernel_rfl) (by kernel_rfl) (by kernel_rfl) (by exact fun _ _ _ h => h) (Or.inr ⟨by rfl, rfl⟩) (by assumption) ?_; simp only [Act.put, sA, sB, sC]) | (refine wpAnyH_ready (rs := [7]) (by kernel_rfl) (by simp) ?_; refine AllReadyH.cons (by simp only [gA, gB, gC]; rfl) (fun K hK => ?_) AllReadyH.nil; go_simp; (first | (go_at_call 44; refine kr.mono ?_; rintro e W9 ⟨v9, l9, rfl, ho9, hn9, ha9, hb9⟩; have hS9 := stab_blk _ _ _ _ hS3 hb9)); refine hK.out _ _ (by first | exact hS9 | exact hS3 | exact hS2' | exact hS) ?_; clear hHeld hK; intro hHeld; (try simp only [Act.put, sA, sB, sC])) | fail
    (first | (refine wpAnyH_take (i := 8) (v := ?_) (by simp only [gA, gB, gC]; rfl) (by kernel_rfl) (by kernel_rfl) (by kernel_rfl) (by exact fun _ _ _ h => h) (Or.inl ⟨by rfl, ?_⟩) (by assumption) ?_; rotate_left; (focus (intro w hSw; (try dsimp only at hSw); go_simp; try with_reducible rfl))) | (refine wpAnyH_take (i := 8) (v := undef) (by simp only [gA, gB, gC]; rfl) (by kernel_rfl) (by kernel_rfl) (by kernel_rfl) (by exact fun _ _ _ h => h) (Or.inr ⟨by rfl, rfl⟩) (by assumption) ?_) | fail); simp only [Act.put, sA, sB, sC]
    refine wpAnyH_done (by kernel_rfl) ?_ _
    go_wp2_with fail
    go_ret
    exact ⟨v9, l9, rfl, ho9.lower hB03.size, hn9, ha9, Below.then hB03 hb9⟩
  · have hl3 : 1 + B.length = n - k := by have h0 := hlen.out; simp at h0; omega
    have hBl : Aside (B.length = n - k - 1) := by show B.length = _; omega
    obtain ⟨A3, hs3, -, hr3⟩ := rows_drop pn_ok (by kernel_rfl) A2 (n - k) (cap - k) 1 (by omega) (by omega)
    replace hl3 : Aside _ := hl3
    replace hs3 : ∀ W, (Instr.slice 22 (.slice A2 (n - k) (cap - k)) (some (.int .i64 1)) none none).run Tryd.prog W = .ok (.slice A3 (n - k - 1) (cap - k - 1)) W := hs3
    have hR3 : RowN W1 A3 B := hrow1.sub (by have := hr3 W1 ([m] ++ B) (by have := hl3.out; simp; omega) hR2; simpa using this) hmem.2
    obtain ⟨Wd, hWd⟩ : ∃ Wd, W1.drew = Wd := ⟨_, rfl⟩
    have hBd : Below W1.heap.size W1 Wd := by rw [← hWd]; exact (Below.refl _ _).drew
    have hfew : ∀ p ∈ [(⟨A1, cap, A⟩ : Pc), ⟨some ⟨Wd.heap.size, 0, none⟩, 1, [x]⟩, ⟨A3, (cap - k - 1), B⟩], ∀ y ∈ p.l, y.Few := fun p hp y hy => by
      simp only [List.mem_cons, List.not_mem_nil, or_false] at hp
      rcases hp with rfl | rfl | rfl
      · exact hf y (hmem.1 y hy)
      · obtain rfl := List.mem_singleton.1 hy
        exact hx
      · exact hf y (hmem.2 y hy)
    have hB2 := alloc_below Wd (.cells x.cs.toArray 32)
    have hR2' := rowN_one Wd x (hxa1.below hBd)
    have hR1' : RowN Wd A1 A := hR1.below hBd
    have hR3' : RowN Wd A3 B := hR3.below hBd
    obtain ⟨X2, hX2⟩ : ∃ X2, Wd.alloc (.cells x.cs.toArray 32) = X2 := ⟨_, rfl⟩
    have hz2 : X2.heap.size = Wd.heap.size + 1 := by rw [← hX2]; simp
    have hB3 := alloc_below X2 (.cells #[.slice A1 k cap, .slice (some ⟨Wd.heap.size, 0, none⟩) 1 1, .slice A3 (n - k - 1) (cap - k - 1)] 22)
    rw [hX2] at hB2 hR2'
    have hrows : ∀ p ∈ [(⟨A1, cap, A⟩ : Pc), ⟨some ⟨Wd.heap.size, 0, none⟩, 1, [x]⟩, ⟨A3, (cap - k - 1), B⟩], RowN (X2.alloc (.cells #[.slice A1 k cap, .slice (some ⟨Wd.heap.size, 0, none⟩) 1 1, .slice A3 (n - k - 1) (cap - k - 1)] 22)) p.a p.l := fun p hp => by
      simp only [List.mem_cons, List.not_mem_nil, or_false] at hp
      rcases hp with rfl | rfl | rfl
      · exact (hR1'.below hB2).below hB3
      · exact hR2'.below hB3
      · exact (hR3'.below hB2).below hB3
    have hpr := pieces_row X2 22 [(⟨A1, cap, A⟩ : Pc), ⟨some ⟨Wd.heap.size, 0, none⟩, 1, [x]⟩, ⟨A3, (cap - k - 1), B⟩] #[.slice A1 k cap, .slice (some ⟨Wd.heap.size, 0, none⟩) 1 1, .slice A3 (n - k - 1) (cap - k - 1)] (by simp [hk.out, hBl.out])
    have kr := trow_any _ 3 _ (by have h1 := hlen.out; have h2 := hBl.out; have h3 := hk.out; simp [pcsN, namesP]; omega) (by simp) hfew _ hpr hrows
    rw [hz2, show pcsN [(⟨A1, cap, A⟩ : Pc), ⟨some ⟨Wd.heap.size, 0, none⟩, 1, [x]⟩, ⟨A3, (cap - k - 1), B⟩] = namesP A ++ ([x.n] ++ namesP B) from by simp [pcsN, namesP]] at kr
    obtain ⟨X3, hX3⟩ : ∃ X3, X2.alloc (.cells #[.slice A1 k cap, .slice (some ⟨Wd.heap.size, 0, none⟩) 1 1, .slice A3 (n - k - 1) (cap - k - 1)] 22) = X3 := ⟨_, rfl⟩
    have hS : (fun W => BlkL w.heap.size x.cs W) W1.drew := by rw [hWd]; exact stab_blk _ _ _ _ hb1 hBd
    have hSd : BlkL w.heap.size x.cs Wd := stab_blk _ _ _ _ hb1 hBd
    have hS2 : BlkL w.heap.size x.cs X2 := stab_blk _ _ _ _ hSd hB2
    have hS3 : BlkL w.heap.size x.cs X3 := by rw [← hX3]; exact stab_blk _ _ _ _ hS2 hB3
    have hB03 : Below w.heap.size w X3 := by rw [← hX3]; exact Below.then (Below.then (Below.then hB01 hBd) hB2) hB3
    rw [hX3] at kr
    replace kr : Calls Tryd.prog 44 #[.slice (some ⟨Wd.heap.size + 1, 0, none⟩) 3 3] X3 _ := kr
    have hS2' : BlkL w.heap.size x.cs (W1.drew.alloc (.cells x.cs.toArray 32)) := by rw [hWd, hX2]; exact hS2
    rw [← hX2] at hX3
    clear hfew hrows hpr hR1 hR1' hR2 hR2' hR3 hR3' hB2 hB3 hz2 hX2 hBd hcs
    go_wp2_with fail
    refine wp_region_held_drew (S := (fun W => BlkL w.heap.size x.cs W)) (by kernel_rfl) (by first | exact hS9 | exact hS3 | exact hS2' | exact hS) ?_
    intro hHeld
    (first | (refine wpAnyH_take (i := 0) (v := ?_) (by simp only [gA, gB, gC]; rfl) (by kernel_rfl) (by kernel_rfl) (by kernel_rfl) (by exact fun _ _ _ h => h) (Or.inl ⟨by rfl, ?_⟩) (by assumption) ?_; rotate_left; (focus (intro w hSw; (try dsimp only at hSw); go_simp; try with_reducible rfl))) | (refine wpAnyH_take (i := 0) (v := undef) (by simp only [gA, gB, gC]; rfl) (by kernel_rfl) (by kernel_rfl) (by kernel_rfl) (by exact fun _ _ _ h => h) (Or.inr ⟨by rfl, rfl⟩) (by assumption) ?_) | fail); simp only [Act.put, sA, sB, sC]
    (first | (refine wpAnyH_take (i := 1) (v := ?_) (by simp only [gA, gB, gC]; rfl) (by kernel_rfl) (by kernel_rfl) (by kernel_rfl) (by exact fun _ _ _ h => h) (Or.inl ⟨by rfl, ?_⟩) (by assumption) ?_; rotate_left; (focus (intro w hSw; (try dsimp only at hSw); go_simp; try with_reducible rfl))) | (refine wpAnyH_take (i := 1) (v := undef) (by simp only [gA, gB, gC]; rfl) (by kernel_rfl) (by kernel_rfl) (by kernel_rfl) (by exact fun _ _ _ h => h) (Or.inr ⟨by rfl, rfl⟩) (by assumption) ?_) | fail); simp only [Act.put, sA, sB, sC]
    (first | (refine wpAnyH_take (i := 2) (v := ?_) (by simp only [gA, gB, gC]; rfl) (by kernel_rfl) (by kernel_rfl) (by kernel_rfl) (by exact fun _ _ _ h => h) (Or.inl ⟨by rfl, ?_⟩) (by assumption) ?_; rotate_left; (focus (intro w hSw; (try dsimp only at hSw); go_simp; try with_reducible rfl))) | (refine wpAnyH_take (i := 2) (v := undef) (by simp only [gA, gB, gC]; rfl) (by kernel_rfl) (by kernel_rfl) (by kernel_rfl) (by exact fun _ _ _ h => h) (Or.inr ⟨by rfl, rfl⟩) (by assumption) ?_) | fail); simp only [Act.put, sA, sB, sC]
    (first | (refine wpAnyH_take (i := 3) (v := _) (by simp only [gA, gB, gC]; rfl) (by kernel_rfl) (by kernel_rfl) (by kernel_rfl) (by exact fun _ _ _ h => h) (yields_row (by rfl) _ rfl w.heap.size rfl x.cs (fun _ q => q.range) hund rfl hsz) (by assumption) ?_) | (refine wpAnyH_take (i := 3) (v := undef) (by simp only [gA, gB, gC]; rfl) (by kernel_rfl) (by kernel_rfl) (by kernel_rfl) (by exact fun _ _ _ h => h) (Or.inr ⟨by rfl, rfl⟩) (by assumption) ?_) | fail); simp only [Act.put, sA, sB, sC]
    (first | (refine wpAnyH_take (i := 5) (v := ?_) (by simp only [gA, gB, gC]; rfl) (by kernel_rfl) (by kernel_rfl) (by kernel_rfl) (by exact fun _ _ _ h => h) (Or.inl ⟨by rfl, ?_⟩) (by assumption) ?_; rotate_left; (focus (intro w hSw; (try dsimp only at hSw); go_simp; try with_reducible rfl))) | (refine wpAnyH_take (i := 5) (v := undef) (by simp only [gA, gB, gC]; rfl) (by kernel_rfl) (by kernel_rfl) (by kernel_rfl) (by exact fun _ _ _ h => h) (Or.inr ⟨by rfl, rfl⟩) (by assumption) ?_) | fail); simp only [Act.put, sA, sB, sC]
    refine wpAnyH_ready (rs := [4]) (by kernel_rfl) (by simp) ?_; refine AllReadyH.cons (by simp only [gA, gB, gC]; rfl) (fun K hK => ?_) AllReadyH.nil; refine step_build1 pn_ok (by decide) rfl _ rfl x.cs rfl rfl ?_; (try simp only [Act.put, sA, sB, sC]); refine hK.out _ _ (by first | exact hS9 | exact hS3 | exact hS2' | exact hS) ?_; clear hHeld hK; intro hHeld; (try simp only [Act.put, sA, sB, sC])
    refine wpAnyH_ready (rs := [6]) (by kernel_rfl) (by simp) ?_; refine AllReadyH.cons (by simp only [gA, gB, gC]; rfl) (fun K hK => ?_) AllReadyH.nil; go_simp; (try rw [hX3]); (try simp only [Act.put, sA, sB, sC]); refine hK.out _ _ (by first | exact hS9 | exact hS3 | exact hS2' | exact hS) ?_; clear hHeld hK; intro hHeld; (try simp only [Act.put, sA, sB, sC])
    first | (refine wpAnyH_take (i := 7) (v := undef) (by simp only [gA, gB, gC]; rfl) (by kernel_rfl) (by kernel_rfl) (by kernel_rfl) (by exact fun _ _ _ h => h) (Or.inr ⟨by rfl, rfl⟩) (by assumption) ?_; simp only [Act.put, sA, sB, sC]) | (refine wpAnyH_ready (rs := [7]) (by kernel_rfl) (by simp) ?_; refine AllReadyH.cons (by simp only [gA, gB, gC]; rfl) (fun K hK => ?_) AllReadyH.nil; go_simp; (first | (go_at_call 44; refine kr.mono ?_; rintro e W9 ⟨v9, l9, rfl, ho9, hn9, ha9, hb9⟩; have hS9 := stab_blk _ _ _ _ hS3 hb9)); refine hK.out _ _ (by first | exact hS9 | exact hS3 | exact hS2' | exact hS) ?_; clear hHeld hK; intro hHeld; (try simp only [Act.put, sA, sB, sC])) | fail
    (first | (refine wpAnyH_take (i := 8) (v := ?_) (by simp only [gA, gB, gC]; rfl) (by kernel_rfl) (by kernel_rfl) (by kernel_rfl) (by exact fun _ _ _ h => h) (Or.inl ⟨by rfl, ?_⟩) (by assumption) ?_; rotate_left; (focus (intro w hSw; (try dsimp only at hSw); go_simp; try with_reducible rfl))) | (refine wpAnyH_take (i := 8) (v := undef) (by simp only [gA, gB, gC]; rfl) (by kernel_rfl) (by kernel_rfl) (by kernel_rfl) (by exact fun _ _ _ h => h) (Or.inr ⟨by rfl, rfl⟩) (by assumption) ?_) | fail); simp only [Act.put, sA, sB, sC]
    refine wpAnyH_done (by kernel_rfl) ?_ _
    go_wp2_with fail
    go_ret
    exact ⟨v9, l9, rfl, ho9.lower hB03.size, hn9, ha9, Below.then hB03 hb9⟩
set_option maxRecDepth 8000 in
set_option maxHeartbeats 4000000 in
theorem tdrop_any (a : Option Addr) (cap : Nat) (l : List PN) (u : ByteArray) (hl : l.length ≤ 10000) (hc : l.length ≤ cap) (ho : OrdP l) (hf : ∀ x ∈ l, x.Few) (w : World) (h : RowN w a l) :
    Calls Tryd.prog 20 #[.slice a l.length cap, .string u] w fun e w' => ∃ v l', e = .returned v ∧ OwnN w' w.heap.size v l' ∧ namesP l' = dropN (namesP l) u ∧ (∀ y ∈ l', y.At w') ∧ Below w.heap.size w w' := by
  obtain ⟨A, M, B, hP⟩ := partsN_of u l ho
  have kp := place_any w a cap l A M B u hP h (by omega)
  have hlen := hP.len
  rw [hP.drop_names]
  obtain ⟨n, hn⟩ : ∃ n, l.length = n := ⟨_, rfl⟩
  obtain ⟨k, hk⟩ : ∃ k, A.length = k := ⟨_, rfl⟩
  rw [hn] at kp hl hc hlen ⊢
  rw [hk] at kp hlen
  have htk := hP.takeA
  rw [hk] at htk
  have hmem := hP.mem
  replace hlen : Aside _ := hlen
  replace hn : Aside _ := hn
  replace hk : Aside _ := hk
  replace htk : Aside _ := htk
  go_enter Tryd.func20, Tryd.ntmps20
  go_wp2_with fail
  refine kp.mono ?_
  rintro e W1 ⟨rfl, hB1⟩
  have hrow1 := h.below hB1
  clear kp
  rcases hP.mid with rfl | ⟨m, rfl, hm⟩
  · have heq : l = A ++ B := by have := hP.eq; simpa using this
    have hnm : pcsN [(⟨a, cap, l⟩ : Pc)] = namesP A ++ namesP B := by rw [heq]; simp [pcsN, namesP]
    replace hnm : Aside _ := hnm
    have hB3 := alloc_below W1 (.cells #[.slice a n cap] 22)
    have hpr := pieces_row W1 22 [(⟨a, cap, l⟩ : Pc)] #[.slice a n cap] (by simp [hn.out])
    have kr := trow_any _ 1 _ (by rw [show pcsN [(⟨a, cap, l⟩ : Pc)] = namesP l from by simp [pcsN]]; simp [namesP, hn.out]; omega) (by simp) (fun p hp y hy => by
      obtain rfl := List.mem_singleton.1 hp
      exact hf y hy) _ hpr (fun p hp => by
      obtain rfl := List.mem_singleton.1 hp
      exact hrow1.below hB3)
    rw [hnm.out] at kr
    replace kr : Calls Tryd.prog 44 #[.slice (some ⟨W1.heap.size, 0, none⟩) 1 1] (W1.alloc (.cells #[.slice a n cap] 22)) _ := kr
    clear hpr heq
    go_wp2_with fail
    refine kr.mono ?_
    rintro e W9 ⟨v9, l9, rfl, ho9, hn9, ha9, hb9⟩
    have hB03 := Below.then hB1 hB3
    clear kr hB3
    generalize W1.alloc (.cells #[.slice a n cap] 22) = X3 at *
    go_wp2_with fail
    go_ret
    exact ⟨v9, l9, rfl, ho9.lower hB03.size, hn9, ha9, Below.then hB03 hb9⟩
  · have hl3 : k + 1 + B.length = n := by have h0 := hlen.out; simp at h0; omega
    have hkn : k + 1 ≤ n := by omega
    obtain ⟨A1, hs1, -, hr1⟩ := rows_take pn_ok (by kernel_rfl) a n cap k (by omega) hc
    obtain ⟨A3, hs3, -, hr3⟩ := rows_drop pn_ok (by kernel_rfl) a n cap (k + 1) (by omega) hc
    replace hs3 : ∀ W, (Instr.slice 22 (.slice a n cap) (some (.int .i64 ((k : Int) + 1))) none none).run Tryd.prog W = .ok (.slice A3 (n - (k + 1)) (cap - (k + 1))) W := hs3
    have hBl : Aside (B.length = n - (k + 1)) := by show B.length = _; omega
    replace hl3 : Aside _ := hl3
    have hdk : l.drop (k + 1) = B := by
      have e := hP.eq
      rw [e, ← hk.out, show A ++ ([m] ++ B) = (A ++ [m]) ++ B by simp, List.drop_append_of_le_length (by simp)]
      simp
    obtain ⟨Wd, hWd⟩ : ∃ Wd, W1.drew = Wd := ⟨_, rfl⟩
    have hBd : Below W1.heap.size W1 Wd := by rw [← hWd]; exact (Below.refl _ _).drew
    have hrd := hrow1.below hBd
    have hR1 : RowN Wd A1 A := hrd.sub (by have := hr1 Wd l hrd.r; rwa [htk.out] at this) hmem.1
    have hR3 : RowN Wd A3 B := hrd.sub (by have := hr3 Wd l hn.out hrd.r; rwa [hdk] at this) hmem.2
    have hB3 := alloc_below Wd (.cells #[.slice A1 k cap, .slice A3 (n - (k + 1)) (cap - (k + 1))] 22)
    have hpr := pieces_row Wd 22 [(⟨A1, cap, A⟩ : Pc), ⟨A3, cap - (k + 1), B⟩] #[.slice A1 k cap, .slice A3 (n - (k + 1)) (cap - (k + 1))] (by simp [hk.out, hBl.out])
    have kr := trow_any _ 2 _ (by have h1 := hlen.out; have h2 := hBl.out; have h3 := hk.out; simp [pcsN, namesP]; omega) (by simp) (fun p hp y hy => by
      simp only [List.mem_cons, List.not_mem_nil, or_false] at hp
      rcases hp with rfl | rfl
      · exact hf y (hmem.1 y hy)
      · exact hf y (hmem.2 y hy)) _ hpr (fun p hp => by
      simp only [List.mem_cons, List.not_mem_nil, or_false] at hp
      rcases hp with rfl | rfl
      · exact hR1.below hB3
      · exact hR3.below hB3)
    rw [show pcsN [(⟨A1, cap, A⟩ : Pc), ⟨A3, cap - (k + 1), B⟩] = namesP A ++ namesP B from by simp [pcsN]] at kr
    have hB03 := Below.then (Below.then hB1 hBd) hB3
    obtain ⟨X3, hX3⟩ : ∃ X3, Wd.alloc (.cells #[.slice A1 k cap, .slice A3 (n - (k + 1)) (cap - (k + 1))] 22) = X3 := ⟨_, rfl⟩
    rw [hX3] at kr hB03
    replace kr : Calls Tryd.prog 44 #[.slice (some ⟨Wd.heap.size, 0, none⟩) 2 2] X3 _ := kr
    clear hpr hR1 hR3 hB3 hrd hr1 hr3 hdk
    go_wp2_with fail
    have hwr : IntKind.i64.wrap ((k : Int) + 1) = (k : Int) + 1 := by rw [IntKind.wrap_i64]; omega
    refine wp_region_held_drew (S := (fun W => True)) (by kernel_rfl) (by trivial) ?_
    intro hHeld
    (first | (refine wpAnyH_take (i := 0) (v := ?_) (by simp only [gA, gB, gC]; rfl) (by kernel_rfl) (by kernel_rfl) (by kernel_rfl) (by exact fun _ _ _ h => h) (Or.inl ⟨by rfl, ?_⟩) (by assumption) ?_; rotate_left; (focus (intro w hSw; (try dsimp only at hSw); go_simp; try with_reducible rfl))) | (refine wpAnyH_take (i := 0) (v := undef) (by simp only [gA, gB, gC]; rfl) (by kernel_rfl) (by kernel_rfl) (by kernel_rfl) (by exact fun _ _ _ h => h) (Or.inr ⟨by rfl, rfl⟩) (by assumption) ?_) | fail); simp only [Act.put, sA, sB, sC, hwr]
    (first | (refine wpAnyH_take (i := 1) (v := ?_) (by simp only [gA, gB, gC]; rfl) (by kernel_rfl) (by kernel_rfl) (by kernel_rfl) (by exact fun _ _ _ h => h) (Or.inl ⟨by rfl, ?_⟩) (by assumption) ?_; rotate_left; (focus (intro w hSw; (try dsimp only at hSw); go_simp; try with_reducible rfl))) | (refine wpAnyH_take (i := 1) (v := undef) (by simp only [gA, gB, gC]; rfl) (by kernel_rfl) (by kernel_rfl) (by kernel_rfl) (by exact fun _ _ _ h => h) (Or.inr ⟨by rfl, rfl⟩) (by assumption) ?_) | fail); simp only [Act.put, sA, sB, sC, hwr]
    (first | (refine wpAnyH_take (i := 2) (v := ?_) (by simp only [gA, gB, gC]; rfl) (by kernel_rfl) (by kernel_rfl) (by kernel_rfl) (by exact fun _ _ _ h => h) (Or.inl ⟨by rfl, ?_⟩) (by assumption) ?_; rotate_left; (focus (intro w hSw; (try dsimp only at hSw); go_simp; try with_reducible rfl))) | (refine wpAnyH_take (i := 2) (v := undef) (by simp only [gA, gB, gC]; rfl) (by kernel_rfl) (by kernel_rfl) (by kernel_rfl) (by exact fun _ _ _ h => h) (Or.inr ⟨by rfl, rfl⟩) (by assumption) ?_) | fail); simp only [Act.put, sA, sB, sC, hwr]
    (first | (refine wpAnyH_take (i := 3) (v := ?_) (by simp only [gA, gB, gC]; rfl) (by kernel_rfl) (by kernel_rfl) (by kernel_rfl) (by exact fun _ _ _ h => h) (Or.inl ⟨by rfl, ?_⟩) (by assumption) ?_; rotate_left; (focus (intro w hSw; (try dsimp only at hSw); go_simp; try with_reducible rfl))) | (refine wpAnyH_take (i := 3) (v := undef) (by simp only [gA, gB, gC]; rfl) (by kernel_rfl) (by kernel_rfl) (by kernel_rfl) (by exact fun _ _ _ h => h) (Or.inr ⟨by rfl, rfl⟩) (by assumption) ?_) | fail); simp only [Act.put, sA, sB, sC, hwr]
    (first | (refine wpAnyH_take (i := 4) (v := ?_) (by simp only [gA, gB, gC]; rfl) (by kernel_rfl) (by kernel_rfl) (by kernel_rfl) (by exact fun _ _ _ h => h) (Or.inl ⟨by rfl, ?_⟩) (by assumption) ?_; rotate_left; (focus (intro w hSw; (try dsimp only at hSw); go_simp; try with_reducible rfl))) | (refine wpAnyH_take (i := 4) (v := undef) (by simp only [gA, gB, gC]; rfl) (by kernel_rfl) (by kernel_rfl) (by kernel_rfl) (by exact fun _ _ _ h => h) (Or.inr ⟨by rfl, rfl⟩) (by assumption) ?_) | fail); simp only [Act.put, sA, sB, sC, hwr]
    (first | (refine wpAnyH_take (i := 5) (v := ?_) (by simp only [gA, gB, gC]; rfl) (by kernel_rfl) (by kernel_rfl) (by kernel_rfl) (by exact fun _ _ _ h => h) (Or.inl ⟨by rfl, ?_⟩) (by assumption) ?_; rotate_left; (focus (intro w hSw; (try dsimp only at hSw); go_simp; try with_reducible rfl))) | (refine wpAnyH_take (i := 5) (v := undef) (by simp only [gA, gB, gC]; rfl) (by kernel_rfl) (by kernel_rfl) (by kernel_rfl) (by exact fun _ _ _ h => h) (Or.inr ⟨by rfl, rfl⟩) (by assumption) ?_) | fail); simp only [Act.put, sA, sB, sC, hwr]
    (first | (refine wpAnyH_take (i := 6) (v := ?_) (by simp only [gA, gB, gC]; rfl) (by kernel_rfl) (by kernel_rfl) (by kernel_rfl) (by exact fun _ _ _ h => h) (Or.inl ⟨by rfl, ?_⟩) (by assumption) ?_; rotate_left; (focus (intro w hSw; (try dsimp only at hSw); go_simp; try with_reducible rfl))) | (refine wpAnyH_take (i := 6) (v := undef) (by simp only [gA, gB, gC]; rfl) (by kernel_rfl) (by kernel_rfl) (by kernel_rfl) (by exact fun _ _ _ h => h) (Or.inr ⟨by rfl, rfl⟩) (by assumption) ?_) | fail); simp only [Act.put, sA, sB, sC, hwr]
    refine wpAnyH_ready (rs := [7]) (by kernel_rfl) (by simp) ?_; refine AllReadyH.cons (by simp only [gA, gB, gC]; rfl) (fun K hK => ?_) AllReadyH.nil; go_simp; (try rw [hX3]); (try simp only [Act.put, sA, sB, sC, hwr]); refine hK.out _ _ (by trivial) ?_; clear hHeld hK; intro hHeld; (try simp only [Act.put, sA, sB, sC, hwr])
    first | (refine wpAnyH_take (i := 8) (v := undef) (by simp only [gA, gB, gC]; rfl) (by kernel_rfl) (by kernel_rfl) (by kernel_rfl) (by exact fun _ _ _ h => h) (Or.inr ⟨by rfl, rfl⟩) (by assumption) ?_; simp only [Act.put, sA, sB, sC, hwr]) | (refine wpAnyH_ready (rs := [8]) (by kernel_rfl) (by simp) ?_; refine AllReadyH.cons (by simp only [gA, gB, gC]; rfl) (fun K hK => ?_) AllReadyH.nil; go_simp; (first | (go_at_call 44; refine kr.mono ?_; rintro e W9 ⟨v9, l9, rfl, ho9, hn9, ha9, hb9⟩)); refine hK.out _ _ (by trivial) ?_; clear hHeld hK; intro hHeld; (try simp only [Act.put, sA, sB, sC, hwr])) | fail
    (first | (refine wpAnyH_take (i := 9) (v := ?_) (by simp only [gA, gB, gC]; rfl) (by kernel_rfl) (by kernel_rfl) (by kernel_rfl) (by exact fun _ _ _ h => h) (Or.inl ⟨by rfl, ?_⟩) (by assumption) ?_; rotate_left; (focus (intro w hSw; (try dsimp only at hSw); go_simp; try with_reducible rfl))) | (refine wpAnyH_take (i := 9) (v := undef) (by simp only [gA, gB, gC]; rfl) (by kernel_rfl) (by kernel_rfl) (by kernel_rfl) (by exact fun _ _ _ h => h) (Or.inr ⟨by rfl, rfl⟩) (by assumption) ?_) | fail); simp only [Act.put, sA, sB, sC, hwr]
    refine wpAnyH_done (by kernel_rfl) ?_ _
    go_wp2_with fail
    go_ret
    exact ⟨v9, l9, rfl, ho9.lower hB03.size, hn9, ha9, Below.then hB03 hb9⟩
end Go.Proofs.YtacjfbomjglnjaaDoor

/-! strconv.Itoa (SMALL NUMBERS) AT THIS PROGRAM: the library of contracts laid in plain words, and the calls. -/
namespace Go.Proofs.YtacjfbomjglnjaaDoor
open Go.RowKit Go.Shelf
def laysItoa_ren : Go.Shelf.Ren := ⟨fun | 171 => 51 | 243 => 68 | 246 => 79 | 283 => 89 | 284 => 90 | 285 => 91 | 286 => 92 | 129 => 98 | 317 => 97 | 318 => 99 | 319 => 100 | 320 => 101 | 337 => 104 | 338 => 105 | n => n, fun | 3 => 3 | 9 => 9 | 2 => 2 | 4 => 4 | 171 => 106 | 0 => 0 | 53 => 107 | 37 => 74 | 5 => 5 | 173 => 110 | 212 => 115 | 51 => 103 | 20 => 20 | 213 => 116 | 46 => 97 | 232 => 122 | 233 => 123 | n => n, fun | 17 => 1 | 18 => 2 | 19 => 3 | n => n⟩
theorem laysItoa : Go.Proofs.Lays.n171 Tryd.prog laysItoa_ren := {
  mixed := by kernel_rfl
  f129 := Tryd.func98.trans (congrArg some (by kernel_rfl))
  f171 := Tryd.func51.trans (congrArg some (by kernel_rfl))
  f243 := Tryd.func68.trans (congrArg some (by kernel_rfl))
  f246 := Tryd.func79.trans (congrArg some (by kernel_rfl))
  f283 := Tryd.func89.trans (congrArg some (by kernel_rfl))
  f284 := Tryd.func90.trans (congrArg some (by kernel_rfl))
  f285 := Tryd.func91.trans (congrArg some (by kernel_rfl))
  f286 := Tryd.func92.trans (congrArg some (by kernel_rfl))
  f317 := Tryd.func97.trans (congrArg some (by kernel_rfl))
  f318 := Tryd.func99.trans (congrArg some (by kernel_rfl))
  f319 := Tryd.func100.trans (congrArg some (by kernel_rfl))
  f320 := Tryd.func101.trans (congrArg some (by kernel_rfl))
  f337 := Tryd.func104.trans (congrArg some (by kernel_rfl))
  f338 := Tryd.func105.trans (congrArg some (by kernel_rfl))
  t0 := Tryd.underlying0
  a0 := Tryd.isAgg0
  z0 := Tryd.sizeOf0
  v0 := Tryd.zeroValue0
  t2 := Tryd.underlying2
  a2 := Tryd.isAgg2
  z2 := Tryd.sizeOf2
  v2 := Tryd.zeroValue2
  t3 := Tryd.underlying3
  a3 := Tryd.isAgg3
  z3 := Tryd.sizeOf3
  v3 := Tryd.zeroValue3
  t4 := Tryd.underlying4
  a4 := Tryd.isAgg4
  z4 := Tryd.sizeOf4
  v4 := Tryd.zeroValue4
  t5 := Tryd.underlying5
  a5 := Tryd.isAgg5
  z5 := Tryd.sizeOf5
  v5 := Tryd.zeroValue5
  t9 := Tryd.underlying9
  a9 := Tryd.isAgg9
  z9 := Tryd.sizeOf9
  v9 := Tryd.zeroValue9
  t20 := Tryd.underlying20
  a20 := Tryd.isAgg20
  z20 := Tryd.sizeOf20
  v20 := Tryd.zeroValue20
  t37 := Tryd.underlying74
  a37 := Tryd.isAgg74
  z37 := Tryd.sizeOf74
  v37 := Tryd.zeroValue74
  t46 := Tryd.underlying97
  a46 := Tryd.isAgg97
  z46 := Tryd.sizeOf97
  v46 := Tryd.zeroValue97
  t51 := Tryd.underlying103
  a51 := Tryd.isAgg103
  z51 := Tryd.sizeOf103
  v51 := Tryd.zeroValue103
  t53 := Tryd.underlying107
  a53 := Tryd.isAgg107
  z53 := Tryd.sizeOf107
  v53 := Tryd.zeroValue107
  t171 := Tryd.underlying106
  a171 := Tryd.isAgg106
  z171 := Tryd.sizeOf106
  v171 := Tryd.zeroValue106
  t173 := Tryd.underlying110
  a173 := Tryd.isAgg110
  z173 := Tryd.sizeOf110
  v173 := Tryd.zeroValue110
  t212 := Tryd.underlying115
  a212 := Tryd.isAgg115
  z212 := Tryd.sizeOf115
  v212 := Tryd.zeroValue115
  t213 := Tryd.underlying116
  a213 := Tryd.isAgg116
  z213 := Tryd.sizeOf116
  t232 := Tryd.underlying122
  a232 := Tryd.isAgg122
  z232 := Tryd.sizeOf122
  v232 := Tryd.zeroValue122
  t233 := Tryd.underlying123
  a233 := Tryd.isAgg123
  z233 := Tryd.sizeOf123
  v233 := Tryd.zeroValue123
  g17 := by kernel_rfl
  g18 := by kernel_rfl
  g19 := by kernel_rfl }

theorem itoa_small (i : Nat) (hi : i < 100) (w : World) : Calls Tryd.prog 51 #[.int .i64 (i : Int)] w fun e w' => e = .returned (.string ⟨(Lib.decDigits i).toArray⟩) ∧ w' = w :=
  Any.strconv_Itoa_small laysItoa i hi w
end Go.Proofs.YtacjfbomjglnjaaDoor

/-! THE FIRST NODES: package tree's common and First, as they landed. Written by mk_tfirstp.py. -/
namespace Go.Proofs.YtacjfbomjglnjaaDoor
open Go.RowKit
set_option maxRecDepth 8000
set_option linter.unusedSimpArgs false
set_option linter.unusedVariables false

theorem all_made (w : World) : GrsAt (w.alloc (.cells [.string ⟨#[42]⟩, .int .i64 7].toArray 77)) (some ⟨w.heap.size, 0, none⟩) allG := row_grs (row_made (f := gcl) (fun _ => rfl) w ⟨starS, 7⟩ _ rfl _)
/-- A directory in which every one may do all. -/
def commN (p : ByteArray) (t : Lab) : Nod := ⟨p, true, t, allG, 0, 0, 0, 0, [], bottomL⟩
set_option maxRecDepth 8000 in
set_option maxHeartbeats 4000000 in
theorem common_any (p : ByteArray) (t : Lab) (w : World) :
    Calls Tryd.prog 49 #[.string p, t.v] w fun e w' => ∃ y : PN, e = .returned (.agg y.cs.toArray) ∧ y.n = commN p t ∧ y.At w' ∧ y.Own w.heap.size w' ∧ Below w.heap.size w w' := by
  have hund := Tryd.underlying32
  have hszN : (Tryd.prog.info? 32).map (·.size) = some 16 := by kernel_rfl
  have hsl : (Tryd.prog.info? 26).map (·.size) = some 4 := by kernel_rfl
  have hb0 := blkl_alloc w #[.int .i64 t.s, .int .i64 t.c, .int .i64 t.i, .int .i64 t.k] 26
  have hB0 := alloc_below w (.cells #[.int .i64 t.s, .int .i64 t.c, .int .i64 t.i, .int .i64 t.k] 26)
  have hz0 := World.size_alloc w (.cells #[.int .i64 t.s, .int .i64 t.c, .int .i64 t.i, .int .i64 t.k] 26)
  have hb1 := blkl_alloc (w.alloc (.cells #[.int .i64 t.s, .int .i64 t.c, .int .i64 t.i, .int .i64 t.k] 26)) #[.string ⟨#[]⟩, .bool false, .int .i64 0, .int .i64 0, .int .i64 0, .int .i64 0, .slice none 0 0, .int .i64 0, .int .i64 0, .int .i64 0, .int .i64 0, .slice none 0 0, .int .i64 0, .int .i64 0, .int .i64 0, .int .i64 0] 32
  have hB1 := alloc_below (w.alloc (.cells #[.int .i64 t.s, .int .i64 t.c, .int .i64 t.i, .int .i64 t.k] 26)) (.cells #[.string ⟨#[]⟩, .bool false, .int .i64 0, .int .i64 0, .int .i64 0, .int .i64 0, .slice none 0 0, .int .i64 0, .int .i64 0, .int .i64 0, .int .i64 0, .slice none 0 0, .int .i64 0, .int .i64 0, .int .i64 0, .int .i64 0] 32)
  rw [hz0] at hb1
  have hb0' := stab_blk _ _ _ _ hb0 hB1
  have hB01 := Below.then hB0 hB1
  clear hb0 hB0 hz0 hB1
  go_enter Tryd.func49, Tryd.ntmps49
  go_wp2_with fail
  generalize (w.alloc (.cells #[.int .i64 t.s, .int .i64 t.c, .int .i64 t.i, .int .i64 t.k] 26)).alloc (.cells #[.string ⟨#[]⟩, .bool false, .int .i64 0, .int .i64 0, .int .i64 0, .int .i64 0, .slice none 0 0, .int .i64 0, .int .i64 0, .int .i64 0, .int .i64 0, .slice none 0 0, .int .i64 0, .int .i64 0, .int .i64 0, .int .i64 0] 32) = W at *
  have hS0 : BlkL w.heap.size [.int .i64 t.s, .int .i64 t.c, .int .i64 t.i, .int .i64 t.k] W.drew := hb0'
  have hm0 : BlkL (w.heap.size + 1) [.string ⟨#[]⟩, .bool false, .int .i64 0, .int .i64 0, .int .i64 0, .int .i64 0, .slice none 0 0, .int .i64 0, .int .i64 0, .int .i64 0, .int .i64 0, .slice none 0 0, .int .i64 0, .int .i64 0, .int .i64 0, .int .i64 0] W.drew := hb1
  have hB0 : Below w.heap.size w W.drew := hB01.drew
  clear hb0' hb1 hB01
  refine wp_region_held_drew (S := (fun W => BlkL w.heap.size [.int .i64 t.s, .int .i64 t.c, .int .i64 t.i, .int .i64 t.k] W)) (by kernel_rfl) (by exact hS0) ?_
  intro hHeld
  generalize W.drew = w0 at *
  refine wpAnyH_take (i := 0) (v := ?_) (by simp only [gA, gB, gC]; rfl) (by kernel_rfl) (by kernel_rfl) (by kernel_rfl) (by exact fun _ _ _ h => h) (Or.inl ⟨by rfl, ?_⟩) (by assumption) ?_; rotate_left; (focus (intro w hSw; (try dsimp only at hSw); go_simp; try with_reducible rfl)); (try simp only [Act.put, sA, sB, sC])
  refine wpAnyH_take (i := 1) (v := _) (by simp only [gA, gB, gC]; rfl) (by kernel_rfl) (by kernel_rfl) (by kernel_rfl) (by exact fun _ _ _ h => h) (yields_row (by rfl) _ rfl w.heap.size rfl [.int .i64 t.s, .int .i64 t.c, .int .i64 t.i, .int .i64 t.k] (fun _ q => q.range) Tryd.underlying26 rfl hsl) (by assumption) ?_; (try simp only [Act.put, sA, sB, sC])
  refine wpAnyH_take (i := 3) (v := ?_) (by simp only [gA, gB, gC]; rfl) (by kernel_rfl) (by kernel_rfl) (by kernel_rfl) (by exact fun _ _ _ h => h) (Or.inl ⟨by rfl, ?_⟩) (by assumption) ?_; rotate_left; (focus (intro w hSw; (try dsimp only at hSw); go_simp; try with_reducible rfl)); (try simp only [Act.put, sA, sB, sC])
  refine wpAnyH_ready (rs := [2, 4]) (by kernel_rfl) (by simp) ?_
  refine AllReadyH.cons (by simp only [gA, gB, gC]; rfl) (fun K hK => ?_) ?_
  · go_simp
    go_at_call 36
    refine (lbottom_any _).mono ?_
    rintro e w1 ⟨rfl, hb⟩
    have hS1 := stab_blk _ _ _ _ hS0 hb
    have hm1 := stab_blk _ _ _ _ hm0 hb
    have hB1 := Below.then hB0 hb
    refine hK.out _ _ (hS1) ?_
    clear hHeld hK
    intro hHeld
    (try simp only [Act.put, sA, sB, sC])
    refine wpAnyH_ready (rs := [4]) (by kernel_rfl) (by simp) ?_
    refine AllReadyH.cons (by simp only [gA, gB, gC]; rfl) (fun K hK => ?_) AllReadyH.nil
    refine step_build1 gr_okT (by decide) rfl _ rfl [.string ⟨#[42]⟩, .int .i64 7] rfl rfl ?_
    (try simp only [Act.put, sA, sB, sC])
    refine hK.out _ _ (stab_blk _ _ _ _ hS1 (alloc_below _ _)) ?_
    clear hHeld hK
    intro hHeld
    have hb := alloc_below w1 (.cells [.string ⟨#[42]⟩, .int .i64 7].toArray 77)
    have hG2 := all_made w1
    have hga0 : w.heap.size + 2 ≤ w1.heap.size := by have := hm1.2; omega
    have hga2 : w.heap.size + 2 ≤ w1.heap.size ∧ w1.heap.size < (w1.alloc (.cells [.string ⟨#[42]⟩, .int .i64 7].toArray 77)).heap.size := ⟨hga0, by simp⟩
    have hS2 := stab_blk _ _ _ _ hS1 hb
    have hm2 := stab_blk _ _ _ _ hm1 hb
    have hB2 := Below.then hB1 hb
    generalize hwx : w1.alloc (.cells [.string ⟨#[42]⟩, .int .i64 7].toArray 77) = w2 at *
    clear hwx hb
    obtain ⟨ga, hgx⟩ : ∃ ga, w1.heap.size = ga := ⟨_, rfl⟩
    rw [hgx] at hG2 hga2 ⊢
    (try simp only [Act.put, sA, sB, sC])
    refine wpAnyH_take (i := 5) (v := ?_) (by simp only [gA, gB, gC]; rfl) (by kernel_rfl) (by kernel_rfl) (by kernel_rfl) (by exact fun _ _ _ h => h) (Or.inl ⟨by rfl, ?_⟩) (by assumption) ?_; rotate_left; (focus (intro w hSw; (try dsimp only at hSw); go_simp; try with_reducible rfl)); (try simp only [Act.put, sA, sB, sC])
    refine wpAnyH_ready (rs := [6]) (by kernel_rfl) (by simp) ?_
    refine AllReadyH.cons (by simp only [gA, gB, gC]; rfl) (fun K hK => ?_) AllReadyH.nil
    obtain ⟨wz, hwz, hth, hmz, hBz⟩ := put_mid hm2 0 [.string p, .bool true, .int .i64 t.s, .int .i64 t.c, .int .i64 t.i, .int .i64 t.k, .slice (some ⟨ga, 0, none⟩) 1 1, .int .i64 0, .int .i64 0, .int .i64 0, .int .i64 0, .slice none 0 0, .int .i64 bottomL.s, .int .i64 bottomL.c, .int .i64 bottomL.i, .int .i64 bottomL.k] (by simp) (by simp) hB2 (by omega)
    have hGz : GrsAt wz (some ⟨ga, 0, none⟩) allG := by rw [← hwz]; exact hG2.same (heap_setCells_other (b := w.heap.size + 1) (k := ga) (by omega) _ 0 _)
    have hgaz : w.heap.size + 2 ≤ ga ∧ ga < wz.heap.size := ⟨hga2.1, Nat.lt_of_lt_of_le hga2.2 (by rw [← hwz]; exact (Below.cells (Nat.zero_le _) [.string p, .bool true, .int .i64 t.s, .int .i64 t.c, .int .i64 t.i, .int .i64 t.k, .slice (some ⟨ga, 0, none⟩) 1 1, .int .i64 0, .int .i64 0, .int .i64 0, .int .i64 0, .slice none 0 0, .int .i64 bottomL.s, .int .i64 bottomL.c, .int .i64 bottomL.i, .int .i64 bottomL.k] 0 (Below.refl 0 w2)).size)⟩
    have hSz : BlkL w.heap.size [.int .i64 t.s, .int .i64 t.c, .int .i64 t.i, .int .i64 t.k] wz := by rw [← hwz]; exact ⟨hS2.1.same (heap_setCells_other (b := w.heap.size + 1) (k := w.heap.size) (by omega) _ 0 _), Nat.lt_of_lt_of_le hS2.2 (Below.cells (Nat.zero_le _) [.string p, .bool true, .int .i64 t.s, .int .i64 t.c, .int .i64 t.i, .int .i64 t.k, .slice (some ⟨ga, 0, none⟩) 1 1, .int .i64 0, .int .i64 0, .int .i64 0, .int .i64 0, .slice none 0 0, .int .i64 bottomL.s, .int .i64 bottomL.c, .int .i64 bottomL.i, .int .i64 bottomL.k] 0 (Below.refl 0 w2)).size⟩
    refine step_store_part rfl _ _ rfl (w.heap.size + 1) 0 rfl [.string p, .bool true, .int .i64 t.s, .int .i64 t.c, .int .i64 t.i, .int .i64 t.k, .slice (some ⟨ga, 0, none⟩) 1 1, .int .i64 0, .int .i64 0, .int .i64 0, .int .i64 0, .slice none 0 0, .int .i64 bottomL.s, .int .i64 bottomL.c, .int .i64 bottomL.i, .int .i64 bottomL.k] rfl hth hszN (by intro v hv; simp at hv; rcases hv with rfl | rfl | rfl | rfl | rfl | rfl | rfl | rfl | rfl | rfl | rfl | rfl | rfl | rfl | rfl | rfl <;> rfl) hwz ?_
    (try simp only [Act.put, sA, sB, sC])
    refine hK.out _ _ (hSz) ?_
    clear hHeld hK
    intro hHeld
    (try simp only [Act.put, sA, sB, sC])
    refine wpAnyH_done (by kernel_rfl) ?_ _
    go_wp2_with fail
    replace hmz : BlkL (w.heap.size + 1) [.string p, .bool true, .int .i64 t.s, .int .i64 t.c, .int .i64 t.i, .int .i64 t.k, .slice (some ⟨ga, 0, none⟩) 1 1, .int .i64 0, .int .i64 0, .int .i64 0, .int .i64 0, .slice none 0 0, .int .i64 bottomL.s, .int .i64 bottomL.c, .int .i64 bottomL.i, .int .i64 bottomL.k] wz := hmz
    refine bodyPost_ret (v := .agg [.string p, .bool true, .int .i64 t.s, .int .i64 t.c, .int .i64 t.i, .int .i64 t.k, .slice (some ⟨ga, 0, none⟩) 1 1, .int .i64 0, .int .i64 0, .int .i64 0, .int .i64 0, .slice none 0 0, .int .i64 bottomL.s, .int .i64 bottomL.c, .int .i64 bottomL.i, .int .i64 bottomL.k].toArray) (results_row1 rfl _ _ (w.heap.size + 1) rfl [.string p, .bool true, .int .i64 t.s, .int .i64 t.c, .int .i64 t.i, .int .i64 t.k, .slice (some ⟨ga, 0, none⟩) 1 1, .int .i64 0, .int .i64 0, .int .i64 0, .int .i64 0, .slice none 0 0, .int .i64 bottomL.s, .int .i64 bottomL.c, .int .i64 bottomL.i, .int .i64 bottomL.k] hmz.range hund rfl hszN) rfl ?_
    exact ⟨⟨commN p t, some ⟨ga, 0, none⟩, 1, none, 0⟩, rfl, rfl, ⟨hGz, fun j q hq => by simp [commN] at hq⟩, ⟨.inr ⟨ga, rfl, by omega, hgaz.2⟩, .inl rfl⟩, hBz⟩
  refine AllReadyH.cons (by simp only [gA, gB, gC]; rfl) (fun K hK => ?_) AllReadyH.nil
  refine step_build1 gr_okT (by decide) rfl _ rfl [.string ⟨#[42]⟩, .int .i64 7] rfl rfl ?_
  (try simp only [Act.put, sA, sB, sC])
  refine hK.out _ _ (stab_blk _ _ _ _ hS0 (alloc_below _ _)) ?_
  clear hHeld hK
  intro hHeld
  have hb := alloc_below w0 (.cells [.string ⟨#[42]⟩, .int .i64 7].toArray 77)
  have hG1 := all_made w0
  have hga0 : w.heap.size + 2 ≤ w0.heap.size := by have := hm0.2; omega
  have hga1 : w.heap.size + 2 ≤ w0.heap.size ∧ w0.heap.size < (w0.alloc (.cells [.string ⟨#[42]⟩, .int .i64 7].toArray 77)).heap.size := ⟨hga0, by simp⟩
  have hS1 := stab_blk _ _ _ _ hS0 hb
  have hm1 := stab_blk _ _ _ _ hm0 hb
  have hB1 := Below.then hB0 hb
  generalize hwx : w0.alloc (.cells [.string ⟨#[42]⟩, .int .i64 7].toArray 77) = w1 at *
  clear hwx hb
  obtain ⟨ga, hgx⟩ : ∃ ga, w0.heap.size = ga := ⟨_, rfl⟩
  rw [hgx] at hG1 hga1 ⊢
  (try simp only [Act.put, sA, sB, sC])
  refine wpAnyH_ready (rs := [2]) (by kernel_rfl) (by simp) ?_
  refine AllReadyH.cons (by simp only [gA, gB, gC]; rfl) (fun K hK => ?_) AllReadyH.nil
  go_simp
  go_at_call 36
  refine (lbottom_any _).mono ?_
  rintro e w2 ⟨rfl, hb⟩
  have hS2 := stab_blk _ _ _ _ hS1 hb
  have hm2 := stab_blk _ _ _ _ hm1 hb
  have hB2 := Below.then hB1 hb
  have hG2 := hG1.below hb
  have hga2 : w.heap.size + 2 ≤ ga ∧ ga < w2.heap.size := ⟨hga1.1, Nat.lt_of_lt_of_le hga1.2 hb.size⟩
  refine hK.out _ _ (hS2) ?_
  clear hHeld hK
  intro hHeld
  (try simp only [Act.put, sA, sB, sC])
  refine wpAnyH_take (i := 5) (v := ?_) (by simp only [gA, gB, gC]; rfl) (by kernel_rfl) (by kernel_rfl) (by kernel_rfl) (by exact fun _ _ _ h => h) (Or.inl ⟨by rfl, ?_⟩) (by assumption) ?_; rotate_left; (focus (intro w hSw; (try dsimp only at hSw); go_simp; try with_reducible rfl)); (try simp only [Act.put, sA, sB, sC])
  refine wpAnyH_ready (rs := [6]) (by kernel_rfl) (by simp) ?_
  refine AllReadyH.cons (by simp only [gA, gB, gC]; rfl) (fun K hK => ?_) AllReadyH.nil
  obtain ⟨wz, hwz, hth, hmz, hBz⟩ := put_mid hm2 0 [.string p, .bool true, .int .i64 t.s, .int .i64 t.c, .int .i64 t.i, .int .i64 t.k, .slice (some ⟨ga, 0, none⟩) 1 1, .int .i64 0, .int .i64 0, .int .i64 0, .int .i64 0, .slice none 0 0, .int .i64 bottomL.s, .int .i64 bottomL.c, .int .i64 bottomL.i, .int .i64 bottomL.k] (by simp) (by simp) hB2 (by omega)
  have hGz : GrsAt wz (some ⟨ga, 0, none⟩) allG := by rw [← hwz]; exact hG2.same (heap_setCells_other (b := w.heap.size + 1) (k := ga) (by omega) _ 0 _)
  have hgaz : w.heap.size + 2 ≤ ga ∧ ga < wz.heap.size := ⟨hga2.1, Nat.lt_of_lt_of_le hga2.2 (by rw [← hwz]; exact (Below.cells (Nat.zero_le _) [.string p, .bool true, .int .i64 t.s, .int .i64 t.c, .int .i64 t.i, .int .i64 t.k, .slice (some ⟨ga, 0, none⟩) 1 1, .int .i64 0, .int .i64 0, .int .i64 0, .int .i64 0, .slice none 0 0, .int .i64 bottomL.s, .int .i64 bottomL.c, .int .i64 bottomL.i, .int .i64 bottomL.k] 0 (Below.refl 0 w2)).size)⟩
  have hSz : BlkL w.heap.size [.int .i64 t.s, .int .i64 t.c, .int .i64 t.i, .int .i64 t.k] wz := by rw [← hwz]; exact ⟨hS2.1.same (heap_setCells_other (b := w.heap.size + 1) (k := w.heap.size) (by omega) _ 0 _), Nat.lt_of_lt_of_le hS2.2 (Below.cells (Nat.zero_le _) [.string p, .bool true, .int .i64 t.s, .int .i64 t.c, .int .i64 t.i, .int .i64 t.k, .slice (some ⟨ga, 0, none⟩) 1 1, .int .i64 0, .int .i64 0, .int .i64 0, .int .i64 0, .slice none 0 0, .int .i64 bottomL.s, .int .i64 bottomL.c, .int .i64 bottomL.i, .int .i64 bottomL.k] 0 (Below.refl 0 w2)).size⟩
  refine step_store_part rfl _ _ rfl (w.heap.size + 1) 0 rfl [.string p, .bool true, .int .i64 t.s, .int .i64 t.c, .int .i64 t.i, .int .i64 t.k, .slice (some ⟨ga, 0, none⟩) 1 1, .int .i64 0, .int .i64 0, .int .i64 0, .int .i64 0, .slice none 0 0, .int .i64 bottomL.s, .int .i64 bottomL.c, .int .i64 bottomL.i, .int .i64 bottomL.k] rfl hth hszN (by intro v hv; simp at hv; rcases hv with rfl | rfl | rfl | rfl | rfl | rfl | rfl | rfl | rfl | rfl | rfl | rfl | rfl | rfl | rfl | rfl <;> rfl) hwz ?_
  (try simp only [Act.put, sA, sB, sC])
  refine hK.out _ _ (hSz) ?_
  clear hHeld hK
  intro hHeld
  (try simp only [Act.put, sA, sB, sC])
  refine wpAnyH_done (by kernel_rfl) ?_ _
  go_wp2_with fail
  replace hmz : BlkL (w.heap.size + 1) [.string p, .bool true, .int .i64 t.s, .int .i64 t.c, .int .i64 t.i, .int .i64 t.k, .slice (some ⟨ga, 0, none⟩) 1 1, .int .i64 0, .int .i64 0, .int .i64 0, .int .i64 0, .slice none 0 0, .int .i64 bottomL.s, .int .i64 bottomL.c, .int .i64 bottomL.i, .int .i64 bottomL.k] wz := hmz
  refine bodyPost_ret (v := .agg [.string p, .bool true, .int .i64 t.s, .int .i64 t.c, .int .i64 t.i, .int .i64 t.k, .slice (some ⟨ga, 0, none⟩) 1 1, .int .i64 0, .int .i64 0, .int .i64 0, .int .i64 0, .slice none 0 0, .int .i64 bottomL.s, .int .i64 bottomL.c, .int .i64 bottomL.i, .int .i64 bottomL.k].toArray) (results_row1 rfl _ _ (w.heap.size + 1) rfl [.string p, .bool true, .int .i64 t.s, .int .i64 t.c, .int .i64 t.i, .int .i64 t.k, .slice (some ⟨ga, 0, none⟩) 1 1, .int .i64 0, .int .i64 0, .int .i64 0, .int .i64 0, .slice none 0 0, .int .i64 bottomL.s, .int .i64 bottomL.c, .int .i64 bottomL.i, .int .i64 bottomL.k] hmz.range hund rfl hszN) rfl ?_
  exact ⟨⟨commN p t, some ⟨ga, 0, none⟩, 1, none, 0⟩, rfl, rfl, ⟨hGz, fun j q hq => by simp [commN] at hq⟩, ⟨.inr ⟨ga, rfl, by omega, hgaz.2⟩, .inl rfl⟩, hBz⟩
set_option maxRecDepth 8000 in
set_option maxHeartbeats 4000000 in
theorem lindex_any (ts : List Lab) (a : Option Addr) (cap : Nat) (t : Lab) (i n : Nat) (hn : ts.length = n) (hi : ts[i]? = some t) (hn9 : n ≤ 1000) (w : World) (h : RowAt 4 lrow w a ts) :
    Calls Tryd.prog 50 #[.slice a n cap, t.v] w fun e w' => ∃ k : Nat, e = .returned (.int .i64 (k : Int)) ∧ k ≤ i ∧ (k < i ↔ (ts.take i).any (fun u => labEq u t) = true) ∧ Below w.heap.size w w' := by
  have hsl : (Tryd.prog.info? 26).map (·.size) = some 4 := by kernel_rfl
  have hin : i < n := by rw [← hn]; exact (List.getElem?_eq_some_iff.1 hi).1
  have hb0 := blkl_alloc w #[.int .i64 t.s, .int .i64 t.c, .int .i64 t.i, .int .i64 t.k] 26
  have hB0 := alloc_below w (.cells #[.int .i64 t.s, .int .i64 t.c, .int .i64 t.i, .int .i64 t.k] 26)
  replace hn : Aside (ts.length = n) := hn
  go_enter Tryd.func50, Tryd.ntmps50
  go_wp2_with fail
  generalize w.alloc (.cells #[.int .i64 t.s, .int .i64 t.c, .int .i64 t.i, .int .i64 t.k] 26) = W at *
  go_loopw [8] (fun t8 wr => ∃ j : Nat, j ≤ i ∧ t8 = .int .i64 (j : Int) ∧ Aside ((ts.take j).any (fun u => labEq u t) = false) ∧ BlkL w.heap.size [.int .i64 t.s, .int .i64 t.c, .int .i64 t.i, .int .i64 t.k] wr ∧ Below w.heap.size w wr) (fun t8 _ => n - (Go.RowKit.intOf t8).toNat)
  case atStart => exact ⟨0, by omega, rfl, rfl, hb0, hB0⟩
  case round =>
    clear hb0 hB0
    obtain ⟨j, hj, rfl, hno, hk, hB⟩ := hrel
    have hjn : j < n := by omega
    obtain ⟨u, hu⟩ : ∃ u, ts[j]? = some u := ⟨_, List.getElem?_eq_getElem (by rw [hn.out]; exact hjn)⟩
    obtain ⟨y, rfl, -⟩ := h j u hu
    have hc := (h.below lab_ok.len hB).at lab_ok.len hu
    replace hc : CellsAt wr (y.add (j * 4)) [.int .i64 u.s, .int .i64 u.c, .int .i64 u.i, .int .i64 u.k] := hc
    have hat := any_take hu (fun u => labEq u t)
    have hS : (fun W => BlkL w.heap.size [.int .i64 t.s, .int .i64 t.c, .int .i64 t.i, .int .i64 t.k] W ∧ CellsAt W (y.add (j * 4)) [.int .i64 u.s, .int .i64 u.c, .int .i64 u.i, .int .i64 u.k]) wr.drew := ⟨hk, hc⟩
    have heq := run_eql_lab t u
    have i1 : (j : Int) < (n : Int) := by omega
    obtain ⟨bb, hbb⟩ : ∃ bb, labEq t u = bb := ⟨_, rfl⟩
    rw [hbb] at heq
    have hsym : labEq u t = bb := by
      rw [← hbb]
      cases h1 : labEq u t <;> cases h2 : labEq t u <;> first | rfl | (exfalso; first | (rw [(labEq_iff _ _).1 h1] at h2; rw [(labEq_iff _ _).2 rfl] at h2; cases h2) | (rw [(labEq_iff _ _).1 h2] at h1; rw [(labEq_iff _ _).2 rfl] at h1; cases h1))
    rw [hno.out, hsym, Bool.false_or] at hat
    have hne : bb = false → j ≠ i := fun q e => by
      subst e
      rw [hi] at hu
      obtain rfl := Option.some.inj hu
      rw [(labEq_iff _ _).2 rfl] at hbb
      rw [← hbb] at q
      cases q
    have hlt : j < i → bb = true → (ts.take i).any (fun u => labEq u t) = true := fun q e => by
      refine List.any_eq_true.2 ⟨u, List.mem_of_getElem? (i := j) ?_, by rw [hsym]; exact e⟩
      rw [List.getElem?_take, if_pos q]
      exact hu
    replace hat : Aside _ := hat
    replace heq : ∀ W, (binOp .eql 26 (.agg #[.int .i64 t.s, .int .i64 t.c, .int .i64 t.i, .int .i64 t.k]) (.agg #[.int .i64 u.s, .int .i64 u.c, .int .i64 u.i, .int .i64 u.k])).run Tryd.prog W = .ok (.bool bb) W := heq
    clear hu hbb hsym hk hc
    cases bb
    · have hij := hne rfl
      clear hne hlt
      go_wp2_with fail
      refine wp_region_held_drew (S := (fun W => BlkL w.heap.size [.int .i64 t.s, .int .i64 t.c, .int .i64 t.i, .int .i64 t.k] W ∧ CellsAt W (y.add (j * 4)) [.int .i64 u.s, .int .i64 u.c, .int .i64 u.i, .int .i64 u.k])) (by kernel_rfl) (by exact hS) ?_
      intro hHeld
      (first | (refine wpAnyH_take (i := 0) (v := _) (by simp only [gA, gB, gC]; rfl) (by kernel_rfl) (by kernel_rfl) (by kernel_rfl) (by exact fun _ _ _ h => h) (yields_row (by rfl) _ rfl w.heap.size rfl [.int .i64 t.s, .int .i64 t.c, .int .i64 t.i, .int .i64 t.k] (fun _ q => q.1.range) Tryd.underlying26 rfl hsl) (by assumption) ?_) | (refine wpAnyH_take (i := 0) (v := undef) (by simp only [gA, gB, gC]; rfl) (by kernel_rfl) (by kernel_rfl) (by kernel_rfl) (by exact fun _ _ _ h => h) (Or.inr ⟨by rfl, rfl⟩) (by assumption) ?_) | fail); simp only [Act.put, sA, sB, sC]
      (first | (refine wpAnyH_take (i := 1) (v := ?_) (by simp only [gA, gB, gC]; rfl) (by kernel_rfl) (by kernel_rfl) (by kernel_rfl) (by exact fun _ _ _ h => h) (Or.inl ⟨by rfl, ?_⟩) (by assumption) ?_; rotate_left; (focus (intro w hSw; (try dsimp only at hSw); go_simp; try with_reducible rfl))) | (refine wpAnyH_take (i := 1) (v := undef) (by simp only [gA, gB, gC]; rfl) (by kernel_rfl) (by kernel_rfl) (by kernel_rfl) (by exact fun _ _ _ h => h) (Or.inr ⟨by rfl, rfl⟩) (by assumption) ?_) | fail); simp only [Act.put, sA, sB, sC]
      (first | (refine wpAnyH_take (i := 2) (v := ?_) (by simp only [gA, gB, gC]; rfl) (by kernel_rfl) (by kernel_rfl) (by kernel_rfl) (by exact fun _ _ _ h => h) (Or.inl ⟨by rfl, ?_⟩) (by assumption) ?_; rotate_left; (focus (intro w hSw; (try dsimp only at hSw); go_simp; try with_reducible rfl))) | (refine wpAnyH_take (i := 2) (v := undef) (by simp only [gA, gB, gC]; rfl) (by kernel_rfl) (by kernel_rfl) (by kernel_rfl) (by exact fun _ _ _ h => h) (Or.inr ⟨by rfl, rfl⟩) (by assumption) ?_) | fail); simp only [Act.put, sA, sB, sC]
      (first | (refine wpAnyH_take (i := 3) (v := ?_) (by simp only [gA, gB, gC]; rfl) (by kernel_rfl) (by kernel_rfl) (by kernel_rfl) (by exact fun _ _ _ h => h) (Or.inl ⟨by rfl, ?_⟩) (by assumption) ?_; rotate_left; (focus (intro w hSw; (try dsimp only at hSw); go_simp; try with_reducible rfl))) | (refine wpAnyH_take (i := 3) (v := undef) (by simp only [gA, gB, gC]; rfl) (by kernel_rfl) (by kernel_rfl) (by kernel_rfl) (by exact fun _ _ _ h => h) (Or.inr ⟨by rfl, rfl⟩) (by assumption) ?_) | fail); simp only [Act.put, sA, sB, sC]
      (first | (refine wpAnyH_take (i := 4) (v := _) (by simp only [gA, gB, gC]; rfl) (by kernel_rfl) (by kernel_rfl) (by kernel_rfl) (by exact fun _ _ _ h => h) (yields_at (by rfl) _ rfl _ rfl [.int .i64 u.s, .int .i64 u.c, .int .i64 u.i, .int .i64 u.k] (fun _ q => q.2) Tryd.underlying26 rfl hsl) (by assumption) ?_) | (refine wpAnyH_take (i := 4) (v := undef) (by simp only [gA, gB, gC]; rfl) (by kernel_rfl) (by kernel_rfl) (by kernel_rfl) (by exact fun _ _ _ h => h) (Or.inr ⟨by rfl, rfl⟩) (by assumption) ?_) | fail); simp only [Act.put, sA, sB, sC]
      (first | (refine wpAnyH_take (i := 5) (v := ?_) (by simp only [gA, gB, gC]; rfl) (by kernel_rfl) (by kernel_rfl) (by kernel_rfl) (by exact fun _ _ _ h => h) (Or.inl ⟨by rfl, ?_⟩) (by assumption) ?_; rotate_left; (focus (intro w hSw; (try dsimp only at hSw); go_simp; try with_reducible rfl))) | (refine wpAnyH_take (i := 5) (v := undef) (by simp only [gA, gB, gC]; rfl) (by kernel_rfl) (by kernel_rfl) (by kernel_rfl) (by exact fun _ _ _ h => h) (Or.inr ⟨by rfl, rfl⟩) (by assumption) ?_) | fail); simp only [Act.put, sA, sB, sC]
      refine wpAnyH_done (by kernel_rfl) ?_ _
      go_wp2_with fail
      exact ⟨⟨j + 1, by omega, by simp, hat, hS.1, hB.drew⟩, by simp [Go.RowKit.intOf]; omega⟩
    · have hiff : (j < i ↔ (ts.take i).any (fun u => labEq u t) = true) := ⟨fun q => hlt q rfl, fun q => by
        rcases Nat.lt_or_ge j i with r | r
        · exact r
        · obtain rfl : j = i := by omega
          rw [hno.out] at q
          cases q⟩
      go_wp2_with fail
      refine wp_region_held_drew (S := (fun W => BlkL w.heap.size [.int .i64 t.s, .int .i64 t.c, .int .i64 t.i, .int .i64 t.k] W ∧ CellsAt W (y.add (j * 4)) [.int .i64 u.s, .int .i64 u.c, .int .i64 u.i, .int .i64 u.k])) (by kernel_rfl) (by exact hS) ?_
      intro hHeld
      (first | (refine wpAnyH_take (i := 0) (v := _) (by simp only [gA, gB, gC]; rfl) (by kernel_rfl) (by kernel_rfl) (by kernel_rfl) (by exact fun _ _ _ h => h) (yields_row (by rfl) _ rfl w.heap.size rfl [.int .i64 t.s, .int .i64 t.c, .int .i64 t.i, .int .i64 t.k] (fun _ q => q.1.range) Tryd.underlying26 rfl hsl) (by assumption) ?_) | (refine wpAnyH_take (i := 0) (v := undef) (by simp only [gA, gB, gC]; rfl) (by kernel_rfl) (by kernel_rfl) (by kernel_rfl) (by exact fun _ _ _ h => h) (Or.inr ⟨by rfl, rfl⟩) (by assumption) ?_) | fail); simp only [Act.put, sA, sB, sC]
      (first | (refine wpAnyH_take (i := 1) (v := ?_) (by simp only [gA, gB, gC]; rfl) (by kernel_rfl) (by kernel_rfl) (by kernel_rfl) (by exact fun _ _ _ h => h) (Or.inl ⟨by rfl, ?_⟩) (by assumption) ?_; rotate_left; (focus (intro w hSw; (try dsimp only at hSw); go_simp; try with_reducible rfl))) | (refine wpAnyH_take (i := 1) (v := undef) (by simp only [gA, gB, gC]; rfl) (by kernel_rfl) (by kernel_rfl) (by kernel_rfl) (by exact fun _ _ _ h => h) (Or.inr ⟨by rfl, rfl⟩) (by assumption) ?_) | fail); simp only [Act.put, sA, sB, sC]
      (first | (refine wpAnyH_take (i := 2) (v := ?_) (by simp only [gA, gB, gC]; rfl) (by kernel_rfl) (by kernel_rfl) (by kernel_rfl) (by exact fun _ _ _ h => h) (Or.inl ⟨by rfl, ?_⟩) (by assumption) ?_; rotate_left; (focus (intro w hSw; (try dsimp only at hSw); go_simp; try with_reducible rfl))) | (refine wpAnyH_take (i := 2) (v := undef) (by simp only [gA, gB, gC]; rfl) (by kernel_rfl) (by kernel_rfl) (by kernel_rfl) (by exact fun _ _ _ h => h) (Or.inr ⟨by rfl, rfl⟩) (by assumption) ?_) | fail); simp only [Act.put, sA, sB, sC]
      (first | (refine wpAnyH_take (i := 3) (v := ?_) (by simp only [gA, gB, gC]; rfl) (by kernel_rfl) (by kernel_rfl) (by kernel_rfl) (by exact fun _ _ _ h => h) (Or.inl ⟨by rfl, ?_⟩) (by assumption) ?_; rotate_left; (focus (intro w hSw; (try dsimp only at hSw); go_simp; try with_reducible rfl))) | (refine wpAnyH_take (i := 3) (v := undef) (by simp only [gA, gB, gC]; rfl) (by kernel_rfl) (by kernel_rfl) (by kernel_rfl) (by exact fun _ _ _ h => h) (Or.inr ⟨by rfl, rfl⟩) (by assumption) ?_) | fail); simp only [Act.put, sA, sB, sC]
      (first | (refine wpAnyH_take (i := 4) (v := _) (by simp only [gA, gB, gC]; rfl) (by kernel_rfl) (by kernel_rfl) (by kernel_rfl) (by exact fun _ _ _ h => h) (yields_at (by rfl) _ rfl _ rfl [.int .i64 u.s, .int .i64 u.c, .int .i64 u.i, .int .i64 u.k] (fun _ q => q.2) Tryd.underlying26 rfl hsl) (by assumption) ?_) | (refine wpAnyH_take (i := 4) (v := undef) (by simp only [gA, gB, gC]; rfl) (by kernel_rfl) (by kernel_rfl) (by kernel_rfl) (by exact fun _ _ _ h => h) (Or.inr ⟨by rfl, rfl⟩) (by assumption) ?_) | fail); simp only [Act.put, sA, sB, sC]
      (first | (refine wpAnyH_take (i := 5) (v := ?_) (by simp only [gA, gB, gC]; rfl) (by kernel_rfl) (by kernel_rfl) (by kernel_rfl) (by exact fun _ _ _ h => h) (Or.inl ⟨by rfl, ?_⟩) (by assumption) ?_; rotate_left; (focus (intro w hSw; (try dsimp only at hSw); go_simp; try with_reducible rfl))) | (refine wpAnyH_take (i := 5) (v := undef) (by simp only [gA, gB, gC]; rfl) (by kernel_rfl) (by kernel_rfl) (by kernel_rfl) (by exact fun _ _ _ h => h) (Or.inr ⟨by rfl, rfl⟩) (by assumption) ?_) | fail); simp only [Act.put, sA, sB, sC]
      refine wpAnyH_done (by kernel_rfl) ?_ _
      go_wp2_with fail
      go_ret
      exact ⟨j, rfl, hj, hiff, hB.drew⟩
theorem l_name (q : Nat) : (⟨#[108]⟩ : ByteArray) ++ ⟨#[UInt8.ofNat (48 + q)]⟩ = nmK q := by
  apply bytes_inj
  rw [bytes_append]
  rfl
theorem dec_small {q : Nat} (h : q < 10) : Lib.decDigits q = [UInt8.ofNat (48 + q)] := by
  rw [Lib.decDigits]
  rw [dif_pos h]
theorem join_nm (q : Nat) (t : Lab) : joinOf slashS (nmK q) = (dirN q t).path := by
  have := join_path (ns := []) (nmK q) (fun n hn => by cases hn)
  rw [pathB_nil] at this
  rw [this, dir_path]
  rfl
abbrev lbz : Array Value := #[.int .i64 0, .int .i64 0, .int .i64 0, .int .i64 0]
set_option maxRecDepth 8000 in
set_option maxHeartbeats 4000000 in
theorem tfirst_any (ta : Option Addr) (ct : Nat) (ts : List Lab) (ua ra : Option Addr) (nu cu nr cr : Nat) (hn9 : ts.length ≤ 9) (w : World) (hl : RowAt 4 lrow w ta ts) :
    Calls Tryd.prog 26 #[.agg #[.slice ta ts.length ct, .slice ua nu cu, .slice ra nr cr]] w fun e w' => ∃ v l, e = .returned v ∧ OwnN w' w.heap.size v l ∧ namesP l = firstN ts ∧ (∀ x ∈ l, x.At w') ∧ Below w.heap.size w w' := by
  have hund := Tryd.underlying32
  have hszN : (Tryd.prog.info? 32).map (·.size) = some 16 := by kernel_rfl
  have hsl : (Tryd.prog.info? 26).map (·.size) = some 4 := by kernel_rfl
  unfold firstN
  obtain ⟨n, hn⟩ : ∃ n, ts.length = n := ⟨_, rfl⟩
  rw [hn] at hn9 ⊢
  replace hn : Aside (ts.length = n) := hn
  have hb0 := blkl_alloc w #[.slice ta n ct, .slice ua nu cu, .slice ra nr cr] 58
  have hB0 := alloc_below w (.cells #[.slice ta n ct, .slice ua nu cu, .slice ra nr cr] 58)
  go_enter Tryd.func26, Tryd.ntmps26
  go_wp2_with fail
  generalize w.alloc (.cells #[.slice ta n ct, .slice ua nu cu, .slice ra nr cr] 58) = W at *
  refine (lbottom_any W).mono ?_
  rintro e W1 ⟨rfl, hB1⟩
  have hb1 := stab_blk _ _ _ _ hb0 hB1
  have hB01 := Below.then hB0 hB1
  clear hb0 hB0 hB1
  go_wp2_with fail
  refine (common_any slashS bottomL W1).mono ?_
  rintro e W2 ⟨y, rfl, hyn, hya, hyo, hB2⟩
  have hb2 := stab_blk _ _ _ _ hb1 hB2
  have hB02 := Below.then hB01 hB2
  have hlt1 := hb1.2
  have hsz2 := hb2.2
  have ho3 := own_one y W2 (base := w.heap.size + 1) (by omega)
  have hB3 := alloc_below W2 (.cells y.cs.toArray 32)
  have hy3 := hya.below hB3
  have hap3 : y.Apart (W2.alloc (.cells y.cs.toArray 32)) (.slice (some ⟨W2.heap.size, 0, none⟩) 1 1) := by
    refine ⟨hyo.1.imp fun g hg => ⟨Nat.lt_of_lt_of_le hg.2 hB3.size, ?_⟩, hyo.2.imp fun g hg => ⟨Nat.lt_of_lt_of_le hg.2 hB3.size, ?_⟩⟩ <;> · intro e; simp [Value.ownBlock] at e; omega
  have hb3 := stab_blk _ _ _ _ hb2 hB3
  have hB03 := Below.then hB02 hB3
  have hy0 : y.n = rootN := hyn
  have hc0 := (hb3.1 0 _ rfl).1
  clear hb1 hB01 hb2 hB02 hB2 hya hyo
  go_wp2_with (first | (refine wpList_build1 pn_ok (by decide) rfl _ rfl y.cs rfl rfl ?_) | fail)
  generalize W2.alloc (.cells y.cs.toArray 32) = W3 at *
  generalize W2.heap.size = rb at *
  go_loopw [3, 13] (fun t3 t13 wr => ∃ (i : Nat) (l : List PN), i ≤ n ∧ t13 = .int .i64 (i : Int) ∧ OwnN wr (w.heap.size + 1) t3 l ∧ Aside (namesP l = firstTo ts i) ∧ (∀ x ∈ l, x.At wr ∧ x.Apart wr t3) ∧ BlkL w.heap.size [.slice ta n ct, .slice ua nu cu, .slice ra nr cr] wr ∧ Below w.heap.size w wr) (fun _ t13 _ => n - (Go.RowKit.intOf t13).toNat)
  case atStart => exact ⟨0, [y], by omega, rfl, ho3, by show namesP [y] = _; simp [namesP, hy0, firstTo, distTo], fun x hx => by obtain rfl := List.mem_singleton.1 hx; exact ⟨hy3, hap3⟩, hb3, hB03⟩
  case round =>
    clear ho3 hB03 hb3 hap3 hy3 hc0 hB3
    obtain ⟨i, l, hi, rfl, ho, hnm, hat, hb, hB⟩ := hrel
    have hdl := dist_len ts i
    have hll : l.length = (distTo ts i).length + 1 := by
      have := congrArg List.length hnm.out
      simpa [namesP, firstTo] using this
    obtain ⟨oa, oc, hov, -, -, -⟩ := OwnR.slice pn_len ho
    subst hov
    obtain ⟨q, hq⟩ : ∃ q, (distTo ts i).length = q := ⟨_, rfl⟩
    rw [hq] at hll hdl
    rw [hll] at ho hat ⊢
    replace hll : Aside _ := hll
    by_cases hlt : i < n
    · obtain ⟨tt, hti⟩ : ∃ tt, ts[i]? = some tt := ⟨_, List.getElem?_eq_getElem (by rw [hn.out]; exact hlt)⟩
      have hgd : ts.getD i bottomL = tt := by rw [List.getD_eq_getElem?_getD, hti]; rfl
      have hfs := first_succ ts i
      rw [hgd, hq] at hfs
      replace hq : Aside _ := hq
      clear hgd
      obtain ⟨ya, rfl, -⟩ := hl i tt hti
      have hlr := hl.below lab_ok.len hB
      have hcx : CellsAt wr (ya.add (i * 4)) [.int .i64 tt.s, .int .i64 tt.c, .int .i64 tt.i, .int .i64 tt.k] := hlr.at lab_ok.len hti
      obtain ⟨W4, hW4, hth, hbk, hB4⟩ := put_new wr lbz 26 [.int .i64 tt.s, .int .i64 tt.c, .int .i64 tt.i, .int .i64 tt.k] rfl (by simp)
      have hone : ∀ v ∈ ([.int .i64 tt.s, .int .i64 tt.c, .int .i64 tt.i, .int .i64 tt.k] : List Value), v.oneCell' = true := lab_ok.one tt
      have hb4 := stab_blk _ _ _ _ hb hB4
      have hc4 := (hb4.1 0 _ rfl).1
      have ho4 := ho.below hB4
      have hBw4 := Below.then hB hB4
      have hrg := hbk.range
      have kx := lindex_any ts (some ya) ct tt i n hn.out hti (by omega) W4 (hlr.below lab_ok.len hB4)
      have i1 : (i : Int) < (n : Int) := by omega
      have hlt4 : w.heap.size + 1 ≤ wr.heap.size := hb.2
      replace hfs : Aside _ := hfs
      clear hti hlr
      go_wp2_with (first | (refine wpList_load_at rfl _ rfl (ya.add (i * 4)) rfl [.int .i64 tt.s, .int .i64 tt.c, .int .i64 tt.i, .int .i64 tt.k] hcx Tryd.underlying26 rfl hsl ?_) | (refine wpList_store_row rfl _ _ rfl wr.heap.size rfl [.int .i64 tt.s, .int .i64 tt.c, .int .i64 tt.i, .int .i64 tt.k] rfl hth hsl hone hW4 ?_) | (refine wpList_load_row rfl _ rfl wr.heap.size rfl [.int .i64 tt.s, .int .i64 tt.c, .int .i64 tt.i, .int .i64 tt.k] hrg Tryd.underlying26 rfl hsl ?_) | fail)
      refine kx.mono ?_
      rintro e W5 ⟨k, rfl, hki, hiff, hB5⟩
      have hb5 := stab_blk _ _ _ _ hb4 hB5
      have hk5 := stab_blk _ _ _ _ hbk hB5
      have ho5 := ho4.below hB5
      have hBw5 := Below.then hBw4 hB5
      have hb45 := Below.then hB4 hB5
      have hat5 : ∀ x ∈ l, x.At W5 ∧ x.Apart W5 (.slice oa (q + 1) oc) := fun x hx => ⟨(hat x hx).1.below hb45, (hat x hx).2.size hb45.size⟩
      have hne : some wr.heap.size ≠ (Value.slice oa (q + 1) oc).ownBlock := fun e => by have := (ho.lt e.symm).2; omega
      clear kx hb4 hbk ho4 hBw4 hrg hth hcx hc4 hB4 hB5 hat ho hb
      by_cases hki2 : k < i
      · have hfs := hfs.out
        rw [if_pos (hiff.1 hki2)] at hfs
        have hnm2 : Aside (namesP l = firstTo ts (i + 1)) := by rw [hfs]; exact hnm
        clear hfs hiff
        go_wp2_with fail
        exact ⟨⟨i + 1, l, by omega, by simp, ho5, hnm2, hat5, hb5, hBw5⟩, by simp [Go.RowKit.intOf]; omega⟩
      · have hfs := hfs.out
        rw [if_neg (fun e => hki2 (hiff.2 e))] at hfs
        have ki := itoa_small q (by omega) W5
        rw [dec_small (by omega)] at ki
        replace ki : Calls Tryd.prog 51 #[.int .i64 (q : Int)] W5 fun e w' => e = .returned (.string ⟨#[UInt8.ofNat (48 + q)]⟩) ∧ w' = W5 := ki
        replace hfs : Aside _ := hfs
        have hln := l_name q
        obtain ⟨cc, hcc⟩ : ∃ cc : ByteArray, (⟨#[UInt8.ofNat (48 + q)]⟩ : ByteArray) = cc := ⟨_, rfl⟩
        have hcs : cc.size = 1 := by rw [← hcc]; rfl
        rw [hcc] at ki hln
        have kj : ∀ W, Calls Tryd.prog 52 #[.string ⟨#[47]⟩, .string ((⟨#[108]⟩ : ByteArray) ++ cc)] W fun e w' => e = .returned (.string (dirN q tt).path) ∧ w' = W := fun W => by
          have h := join_any slashS ((⟨#[108]⟩ : ByteArray) ++ cc) (by decide) (by rw [ByteArray.size_append, hcs]; decide) W
          rw [show joinOf slashS ((⟨#[108]⟩ : ByteArray) ++ cc) = (dirN q tt).path from by rw [hln]; exact join_nm q tt] at h
          exact h
        have kc := common_any (dirN q tt).path tt
        have hcn : commN (dirN q tt).path tt = dirN q tt := rfl
        rw [hcn] at kc
        obtain ⟨pp, hpp⟩ : ∃ pp, (dirN q tt).path = pp := ⟨_, rfl⟩
        rw [hpp] at kj kc
        replace hln : Aside _ := hln
        clear hiff hcc hpp hcn
        go_wp2_with fail
        refine ki.mono ?_
        rintro e W6 ⟨rfl, hW6⟩
        subst hW6
        clear ki
        go_wp2_with fail
        have hS : (fun W => BlkL wr.heap.size [.int .i64 tt.s, .int .i64 tt.c, .int .i64 tt.i, .int .i64 tt.k] W) W6.drew := hk5
        have hll2 := hll.out
        refine wp_region_held_drew (S := (fun W => BlkL wr.heap.size [.int .i64 tt.s, .int .i64 tt.c, .int .i64 tt.i, .int .i64 tt.k] W)) (by kernel_rfl) (by first | exact hS9 | exact hS8 | exact hS | exact stab_blk _ _ _ _ hS8 (alloc_below _ _)) ?_
        intro hHeld
        (first | (refine wpAnyH_take (i := 0) (v := ?_) (by simp only [gA, gB, gC]; rfl) (by kernel_rfl) (by kernel_rfl) (by kernel_rfl) (by exact fun _ _ _ h => h) (Or.inl ⟨by rfl, ?_⟩) (by assumption) ?_; rotate_left; (focus (intro w hSw; (try dsimp only at hSw); go_simp; try with_reducible rfl))) | (refine wpAnyH_take (i := 0) (v := undef) (by simp only [gA, gB, gC]; rfl) (by kernel_rfl) (by kernel_rfl) (by kernel_rfl) (by exact fun _ _ _ h => h) (Or.inr ⟨by rfl, rfl⟩) (by assumption) ?_) | fail); simp only [Act.put, sA, sB, sC]
        (first | (refine wpAnyH_take (i := 1) (v := ?_) (by simp only [gA, gB, gC]; rfl) (by kernel_rfl) (by kernel_rfl) (by kernel_rfl) (by exact fun _ _ _ h => h) (Or.inl ⟨by rfl, ?_⟩) (by assumption) ?_; rotate_left; (focus (intro w hSw; (try dsimp only at hSw); go_simp; try with_reducible rfl))) | (refine wpAnyH_take (i := 1) (v := undef) (by simp only [gA, gB, gC]; rfl) (by kernel_rfl) (by kernel_rfl) (by kernel_rfl) (by exact fun _ _ _ h => h) (Or.inr ⟨by rfl, rfl⟩) (by assumption) ?_) | fail); simp only [Act.put, sA, sB, sC]
        (first | (refine wpAnyH_take (i := 3) (v := _) (by simp only [gA, gB, gC]; rfl) (by kernel_rfl) (by kernel_rfl) (by kernel_rfl) (by exact fun _ _ _ h => h) (yields_row (by rfl) _ rfl wr.heap.size rfl [.int .i64 tt.s, .int .i64 tt.c, .int .i64 tt.i, .int .i64 tt.k] (fun _ q => q.range) Tryd.underlying26 rfl hsl) (by assumption) ?_) | (refine wpAnyH_take (i := 3) (v := undef) (by simp only [gA, gB, gC]; rfl) (by kernel_rfl) (by kernel_rfl) (by kernel_rfl) (by exact fun _ _ _ h => h) (Or.inr ⟨by rfl, rfl⟩) (by assumption) ?_) | fail); simp only [Act.put, sA, sB, sC]
        first | (refine wpAnyH_take (i := 2) (v := undef) (by simp only [gA, gB, gC]; rfl) (by kernel_rfl) (by kernel_rfl) (by kernel_rfl) (by exact fun _ _ _ h => h) (Or.inr ⟨by rfl, rfl⟩) (by assumption) ?_; simp only [Act.put, sA, sB, sC]) | (refine wpAnyH_ready (rs := [2]) (by kernel_rfl) (by simp) ?_; refine AllReadyH.cons (by simp only [gA, gB, gC]; rfl) (fun K hK => ?_) AllReadyH.nil; go_simp; (first | (go_at_call 52; refine (kj _).mono ?_; rintro e W7 ⟨rfl, rfl⟩) | (go_at_call 49; refine (kc _).mono ?_; rintro e W8 ⟨y2, rfl, hyn2, hya2, hyo2, hB8⟩; have hS8 := stab_blk _ _ _ _ hS hB8; have hb68 : Below W6.heap.size W6 W8 := Below.then (Below.refl _ _).drew hB8; have hBw8 := Below.then hBw5 hb68; obtain ⟨v9, W9, hap9, ho9, hg9⟩ := OwnR.push pn_ok (ho5.below hb68) (Nat.le_trans hb5.2 hb68.size) y2 y2.cs.toArray rfl 32 (by omega); have hS9 : BlkL wr.heap.size [.int .i64 tt.s, .int .i64 tt.c, .int .i64 tt.i, .int .i64 tt.k] W9 := ⟨hS8.1.same (hg9.by_.block _ hS8.2 hne), Nat.lt_of_lt_of_le hS8.2 hg9.by_.size⟩)); refine hK.out _ _ (by first | exact hS9 | exact hS8 | exact hS | exact stab_blk _ _ _ _ hS8 (alloc_below _ _)) ?_; clear hHeld hK; intro hHeld; (try simp only [Act.put, sA, sB, sC])) | fail
        first | (refine wpAnyH_take (i := 4) (v := undef) (by simp only [gA, gB, gC]; rfl) (by kernel_rfl) (by kernel_rfl) (by kernel_rfl) (by exact fun _ _ _ h => h) (Or.inr ⟨by rfl, rfl⟩) (by assumption) ?_; simp only [Act.put, sA, sB, sC]) | (refine wpAnyH_ready (rs := [4]) (by kernel_rfl) (by simp) ?_; refine AllReadyH.cons (by simp only [gA, gB, gC]; rfl) (fun K hK => ?_) AllReadyH.nil; go_simp; (first | (go_at_call 52; refine (kj _).mono ?_; rintro e W7 ⟨rfl, rfl⟩) | (go_at_call 49; refine (kc _).mono ?_; rintro e W8 ⟨y2, rfl, hyn2, hya2, hyo2, hB8⟩; have hS8 := stab_blk _ _ _ _ hS hB8; have hb68 : Below W6.heap.size W6 W8 := Below.then (Below.refl _ _).drew hB8; have hBw8 := Below.then hBw5 hb68; obtain ⟨v9, W9, hap9, ho9, hg9⟩ := OwnR.push pn_ok (ho5.below hb68) (Nat.le_trans hb5.2 hb68.size) y2 y2.cs.toArray rfl 32 (by omega); have hS9 : BlkL wr.heap.size [.int .i64 tt.s, .int .i64 tt.c, .int .i64 tt.i, .int .i64 tt.k] W9 := ⟨hS8.1.same (hg9.by_.block _ hS8.2 hne), Nat.lt_of_lt_of_le hS8.2 hg9.by_.size⟩)); refine hK.out _ _ (by first | exact hS9 | exact hS8 | exact hS | exact stab_blk _ _ _ _ hS8 (alloc_below _ _)) ?_; clear hHeld hK; intro hHeld; (try simp only [Act.put, sA, sB, sC])) | fail
        refine wpAnyH_ready (rs := [5]) (by kernel_rfl) (by simp) ?_; refine AllReadyH.cons (by simp only [gA, gB, gC]; rfl) (fun K hK => ?_) AllReadyH.nil; refine step_build1 pn_ok (by decide) rfl _ rfl y2.cs rfl rfl ?_; (try simp only [Act.put, sA, sB, sC]); refine hK.out _ _ (by first | exact hS9 | exact hS8 | exact hS | exact stab_blk _ _ _ _ hS8 (alloc_below _ _)) ?_; clear hHeld hK; intro hHeld; (try simp only [Act.put, sA, sB, sC])
        refine wpAnyH_ready (rs := [6]) (by kernel_rfl) (by simp) ?_; refine AllReadyH.cons (by simp only [gA, gB, gC]; rfl) (fun K hK => ?_) AllReadyH.nil; refine step_append rfl _ _ rfl rfl rfl rfl hap9 ?_; (try simp only [Act.put, sA, sB, sC]); refine hK.out _ _ (by first | exact hS9 | exact hS8 | exact hS | exact stab_blk _ _ _ _ hS8 (alloc_below _ _)) ?_; clear hHeld hK; intro hHeld; (try simp only [Act.put, sA, sB, sC])
        (first | (refine wpAnyH_take (i := 7) (v := ?_) (by simp only [gA, gB, gC]; rfl) (by kernel_rfl) (by kernel_rfl) (by kernel_rfl) (by exact fun _ _ _ h => h) (Or.inl ⟨by rfl, ?_⟩) (by assumption) ?_; rotate_left; (focus (intro w hSw; (try dsimp only at hSw); go_simp; try with_reducible rfl))) | (refine wpAnyH_take (i := 7) (v := undef) (by simp only [gA, gB, gC]; rfl) (by kernel_rfl) (by kernel_rfl) (by kernel_rfl) (by exact fun _ _ _ h => h) (Or.inr ⟨by rfl, rfl⟩) (by assumption) ?_) | fail); simp only [Act.put, sA, sB, sC]
        refine wpAnyH_done (by kernel_rfl) ?_ _
        have hb9 := (ho5.below hb68).grew_below (Nat.le_trans hb5.2 hb68.size) hg9
        have hc8 := stab_blk _ _ _ _ hb5 hb68
        have hc9 : BlkL w.heap.size _ W9 := ⟨hc8.1.same (hb9.block _ (Nat.lt_succ_self _)), Nat.lt_of_lt_of_le hc8.2 hb9.size⟩
        have hat9 : ∀ z ∈ l ++ [y2], z.At W9 ∧ z.Apart W9 v9 := fun z hz => by
          rcases List.mem_append.1 hz with hz | hz
          · obtain ⟨q1, q2⟩ := hat5 z hz
            exact ((q2.size hb68.size).grew (q1.below hb68) hg9).symm
          · obtain rfl := List.mem_singleton.1 hz
            exact ((hyo2.apart (W' := W8) fun k hk => (ho5.lt hk).2).grew hya2 hg9).symm
        have hnm9 : Aside (namesP (l ++ [y2]) = firstTo ts (i + 1)) := by
          show namesP (l ++ [y2]) = _
          rw [hfs.out, ← hnm.out]
          simp [namesP, hyn2]
        have hBw9 := hBw8.trans (hb9.mono (Nat.le_succ _))
        clear hat5 hfs hnm
        go_wp2_with fail
        exact ⟨⟨i + 1, l ++ [y2], by omega, by simp, ho9, hnm9, hat9, hc9, hBw9⟩, by simp [Go.RowKit.intOf]; omega⟩
    · rw [show firstTo ts i = firstTo ts n from by rw [show i = n by omega]] at hnm
      obtain rfl : i = n := by omega
      have hnm := hnm.out
      clear hll
      go_wp2_with fail
      go_ret
      exact ⟨_, l, rfl, ho.lower (by omega), hnm, fun x hx => (hat x hx).1, hB⟩
end Go.Proofs.YtacjfbomjglnjaaDoor

/-! THE CHAPTER'S EXAMPLE: the law's known (donjonlaw11). -/
namespace Go.Proofs.YtacjfbomjglnjaaDoor
open Go.RowKit
set_option maxRecDepth 8000
set_option linter.unusedSimpArgs false
set_option linter.unusedVariables false

def knownL : List Lab := [⟨0, 0, 3, 255⟩, ⟨0, 0, 3, 255⟩, ⟨1, 0, 3, 255⟩]
theorem known_first : firstN knownL = [rootN, dirN 0 ⟨0, 0, 3, 255⟩, dirN 1 ⟨1, 0, 3, 255⟩] := by rfl
theorem names_three {l : List PN} {a b c : Nod} (h : namesP l = [a, b, c]) : ∃ x y z, l = [x, y, z] ∧ x.n = a ∧ y.n = b ∧ z.n = c := by
  rcases l with _ | ⟨x, _ | ⟨y, _ | ⟨z, _ | ⟨u, r⟩⟩⟩⟩
  · cases h
  · simp [namesP] at h
  · simp [namesP] at h
  · simp only [namesP, List.map_cons, List.map_nil] at h
    injection h with h1 h
    injection h with h2 h
    injection h with h3 h
    exact ⟨x, y, z, rfl, h1, h2, h3⟩
  · simp [namesP] at h
theorem known_row (w : World) : RowAt 4 lrow (w.alloc (.cells #[.int .i64 0, .int .i64 0, .int .i64 3, .int .i64 255, .int .i64 0, .int .i64 0, .int .i64 3, .int .i64 255, .int .i64 1, .int .i64 0, .int .i64 3, .int .i64 255] 26)) (some ⟨w.heap.size, 0, none⟩) knownL := fun j x hx => by
  refine ⟨_, rfl, fun i hi => ?_⟩
  rw [add_at, World.cell?_alloc_at _ _ _ _ rfl]
  match j, hx with
  | 0, hx =>
    obtain rfl := Option.some.inj hx
    match i, hi with
    | 0, _ => rfl
    | 1, _ => rfl
    | 2, _ => rfl
    | 3, _ => rfl
  | 1, hx =>
    obtain rfl := Option.some.inj hx
    match i, hi with
    | 0, _ => rfl
    | 1, _ => rfl
    | 2, _ => rfl
    | 3, _ => rfl
  | 2, hx =>
    obtain rfl := Option.some.inj hx
    match i, hi with
    | 0, _ => rfl
    | 1, _ => rfl
    | 2, _ => rfl
    | 3, _ => rfl
  | j + 3, hx => simp [knownL] at hx
set_option maxRecDepth 8000 in
set_option maxHeartbeats 4000000 in
theorem tknown_any (w : World) : Calls Tryd.prog 9 #[] w fun e w' => e = .returned (.bool true) ∧ Below w.heap.size w w' := by
  have kf := tfirst_any _ 3 knownL none none 0 0 0 0 (by decide) _ (known_row w)
  have hB0 := alloc_below w (.cells #[.int .i64 0, .int .i64 0, .int .i64 3, .int .i64 255, .int .i64 0, .int .i64 0, .int .i64 3, .int .i64 255, .int .i64 1, .int .i64 0, .int .i64 3, .int .i64 255] 26)
  rw [known_first, show knownL.length = 3 from rfl] at kf
  go_enter Tryd.func9, Tryd.ntmps9
  go_wp2_with fail
  refine kf.mono ?_
  rintro e W2 ⟨v, l, rfl, ho, hn, -, hB⟩
  have hB2 := Below.then hB0 hB
  obtain ⟨x, y, z, rfl, hx, hy, hz⟩ := names_three hn
  obtain ⟨a, cap, rfl, -, -, hr⟩ := OwnR.slice pn_len ho
  obtain ⟨ya, rfl, -⟩ := hr 0 x rfl
  have c0 := hr.at pn_len (j := 0) (x := x) rfl 0 _ rfl
  have c1 := hr.at pn_len (j := 1) (x := y) rfl 0 _ rfl
  have c2 := hr.at pn_len (j := 2) (x := z) rfl 0 _ rfl
  have c3 := hr.at pn_len (j := 2) (x := z) rfl 2 _ rfl
  rw [hx] at c0
  rw [hy] at c1
  rw [hz] at c2 c3
  rw [Addr.add_add] at c0 c1 c2 c3
  replace c0 : W2.cell? (ya.add 0) = some (.string ⟨#[47]⟩) := c0
  rw [show ya.add 0 = ya from by simp [Addr.add]] at c0
  replace c1 : W2.cell? ⟨ya.block, ya.off + 16, none⟩ = some (.string ⟨#[47, 108, 48]⟩) := c1
  replace c2 : W2.cell? ⟨ya.block, ya.off + 32, none⟩ = some (.string ⟨#[47, 108, 49]⟩) := c2
  replace c3 : W2.cell? ⟨ya.block, ya.off + 34, none⟩ = some (.int .i64 1) := c3
  clear kf ho hr hn hx hy hz hB0 hB
  rw [show [x, y, z].length = 3 from rfl]
  go_wp2_with fail
  go_ret
  exact ⟨rfl, hB2⟩
end Go.Proofs.YtacjfbomjglnjaaDoor

/-! WHAT THE LAWS HOLD OF A TREE THAT WAS GROWN. -/
namespace Go.Proofs.YtacjfbomjglnjaaDoor
open Go.RowKit
set_option maxRecDepth 8000
set_option linter.unusedSimpArgs false
set_option linter.unusedVariables false

theorem may_size {u : ByteArray} (h : may u = true) : u.size ≤ 12 := by
  simp only [may, Bool.or_eq_true] at h
  rcases h with h | h
  · rw [eqs_iff.1 h]; decide
  · exact (name_size h).2
theorem okAcl_size : ∀ (l : List Gr) (a : ByteArray), okAcl a l = true → ∀ g ∈ l, g.u.size ≤ 12
  | [], _, _, g, hg => by cases hg
  | x :: r, a, h, g, hg => by
    simp only [okAcl, Bool.and_eq_true] at h
    rcases List.mem_cons.1 hg with rfl | hg
    · exact may_size h.1.1
    · exact okAcl_size r x.u h.2 g hg
theorem chkA_few {l : List Gr} (h : chkA l = 0) : l.length ≤ 4 ∧ ∀ g ∈ l, g.u.size ≤ 12 := by
  unfold chkA at h
  by_cases h1 : 4 < l.length
  · rw [if_pos h1] at h; cases h
  · rw [if_neg h1] at h
    by_cases h2 : okAcl ⟨#[]⟩ l = true
    · exact ⟨by omega, okAcl_size l _ h2⟩
    · rw [if_neg h2] at h; cases h
theorem putN_len (l : List Nod) (x : Nod) : (putN l x).length ≤ l.length + 1 := by
  unfold putN
  have h1 : (dropN l x.path).length ≤ l.length := List.length_filter_le _ _
  have h2 := congrArg List.length (List.takeWhile_append_dropWhile (p := fun y : Nod => lt y.path x.path) (l := dropN l x.path))
  rw [List.length_append] at h2 ⊢
  rw [List.length_cons]
  omega
theorem step_len (l : List Nod) (m : Mk) : (growStep l m).length ≤ l.length + 1 := by
  unfold growStep
  split
  · omega
  · split
    · omega
    · split
      · exact putN_len l _
      · omega
theorem fold_len : ∀ (ms : List Mk) (l : List Nod), (ms.foldl growStep l).length ≤ l.length + ms.length
  | [], l => by simp
  | m :: r, l => by
    have h1 := fold_len r (growStep l m)
    have h2 := step_len l m
    simp only [List.foldl_cons, List.length_cons]
    omega
theorem grow_len (ts : List Lab) (ms : List Mk) : (growN ts ms).length ≤ 19 := by
  unfold growN
  have h1 := fold_len (ms.take 14) (firstN ((ts.take 4).map goodL))
  have h2 : (ms.take 14).length ≤ 14 := by rw [List.length_take]; omega
  have h3 := dist_len ((ts.take 4).map goodL) ((ts.take 4).map goodL).length
  have h4 : ((ts.take 4).map goodL).length ≤ 4 := by rw [List.length_map, List.length_take]; omega
  have h5 : (firstN ((ts.take 4).map goodL)).length = (distTo ((ts.take 4).map goodL) ((ts.take 4).map goodL).length).length + 1 := by simp [firstN, firstTo]
  omega
/-- A list of nodes that may be, each. -/
structure Fine (l : List PN) : Prop where
  ok : ∀ x ∈ l, nodC x.n = 0
theorem Fine.few {l : List PN} (h : Fine l) : ∀ x ∈ l, x.Few := fun x hx => by
  obtain ⟨_, _, _, hA, hd, hs⟩ := nodC_zero.1 (h.ok x hx)
  refine ⟨by have := (chkA_few hA).1; omega, ?_⟩
  cases hq : x.n.dir
  · have := (hs hq).2.2; omega
  · have := (hd hq).2; omega
theorem Fine.small {l : List PN} (h : Fine l) : SmallN l := fun x hx => by
  obtain ⟨hp, _, _, hA, hd, hs⟩ := nodC_zero.1 (h.ok x hx)
  obtain ⟨_, _, _, h78⟩ := check_path hp
  refine ⟨by omega, ?_, fun g hg => ?_⟩
  · have := (h.few x hx).2; omega
  · have := (chkA_few hA).2 g hg; omega
theorem Fine.slashed {l : List PN} (h : Fine l) : ∀ x ∈ l, Slashed x.n.path := fun x hx => check_slashed (nodC_zero.1 (h.ok x hx)).1
theorem tree_fine {l : List PN} (h : Tree (namesP l)) : Fine l := ⟨fun x hx => h.ok x.n (List.mem_map.2 ⟨x, hx, rfl⟩)⟩
/-- A tree that was grown, where it lies. -/
structure Grown (W : World) (a : Option Addr) (c : Nat) (l : List PN) : Prop where
  row : RowN W a l
  cap : l.length ≤ c
  no : a = none → c = 0
  tree : Tree (namesP l)
  len : l.length ≤ 19
theorem Grown.below {W W' : World} {a : Option Addr} {c : Nat} {l : List PN} (h : Grown W a c l) (b : Below W.heap.size W W') : Grown W' a c l := ⟨h.row.below b, h.cap, h.no, h.tree, h.len⟩
theorem Grown.fine {W : World} {a : Option Addr} {c : Nat} {l : List PN} (h : Grown W a c l) : Fine l := tree_fine h.tree
theorem grown_of {W : World} {b : Nat} {v : Value} {l : List PN} {ts : List Lab} {ms : List Mk} (ho : OwnN W b v l) (hp : ∀ x ∈ l, x.At W) (hn : namesP l = growN ts ms) : ∃ a c, v = .slice a l.length c ∧ Grown W a c l := by
  obtain ⟨a, c, hv, h1, h2, h3⟩ := OwnR.slice pn_len ho
  refine ⟨a, c, hv, ⟨h3, hp⟩, h1, h2, by rw [hn]; exact grow_tree ts ms, ?_⟩
  have := grow_len ts ms
  rw [← hn] at this
  simpa [namesP] using this
theorem Grown.pos {W : World} {a : Option Addr} {c : Nat} {l : List PN} (h : Grown W a c l) : 0 < l.length := by
  obtain ⟨r, hr, _⟩ := h.tree.root
  cases l with
  | nil => simp [namesP] at hr
  | cons x r => simp
theorem mem_names {l : List PN} {d : Nod} (h : d ∈ namesP l) : ∃ x ∈ l, x.n = d := List.mem_map.1 h
theorem findP_mem {l : List PN} (h : OrdP l) {x : PN} (hx : x ∈ l) : ∃ y, findP l x.n.path = some y ∧ y.n = x.n := by
  have h1 := find_mem (ordP.2 h) (List.mem_map.2 ⟨x, hx, rfl⟩ : x.n ∈ namesP l)
  rw [find_names] at h1
  cases hf : findP l x.n.path with
  | none => rw [hf] at h1; cases h1
  | some y =>
    rw [hf] at h1
    exact ⟨y, rfl, Option.some.inj h1⟩
def strL : Value → Nat
  | .string s => s.size
  | _ => 0
theorem pathB_size_lt {ms : List ByteArray} {n : ByteArray} (h : 1 ≤ n.size) : (pathB ms).size < (pathB (ms ++ [n])).size := by
  have e : ∀ q : ByteArray, q.size = (bytes q).length := fun q => by unfold bytes; rw [Array.length_toList]; rfl
  rw [e, e, pathB_bytes (ns := ms ++ [n]) (by simp), body_append, body_one]
  rw [e] at h
  by_cases hm : ms = []
  · subst hm
    rw [pathB_nil]
    simp [bytes, slashS, body]
    simp [bytes] at h
    exact h
  · rw [pathB_bytes hm]
    simp
theorem parent_lt {p : ByteArray} (h : checkOf p = 0) : (parentOf p).size < p.size := by
  obtain ⟨ns, hn, e, _⟩ := check_path h
  by_cases hs : pathB ns = slashS
  · rw [e, hs, ← pathB_nil, parent_root]
    decide
  · obtain ⟨ms, n, rfl, h1, h2, h3, h4⟩ := names_split hn hs
    rw [e, h1]
    exact pathB_size_lt (name_size h4).1
end Go.Proofs.YtacjfbomjglnjaaDoor
