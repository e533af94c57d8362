/-
  Same: the document's own (donjonref10).
-/
import Derived.Test.YtajondkpdgiolaaNodeRefEnc
import Derived.Test.YtajondkpdgiolaaNames
import Derived.Deep.CutBlock
namespace Go.Proofs.Ytajondkpdgiolaa
open Go.RowKit
set_option maxRecDepth 8000
set_option linter.unusedSimpArgs false
set_option linter.unusedVariables false

def grEq (x y : Gr) : Bool := eqs x.u y.u && x.m == y.m
theorem grEq_iff {x y : Gr} : grEq x y = true ↔ x = y := by
  cases x; cases y
  unfold grEq
  simp only [Bool.and_eq_true, eqs_iff, beq_iff_eq, Gr.mk.injEq]
/-- Rows alike, place by place. -/
def allEq {α : Type} (f : α → α → Bool) : List α → List α → Bool
  | [], [] => true
  | x :: r, y :: s => f x y && allEq f r s
  | _, _ => false
theorem allEq_iff {α : Type} {f : α → α → Bool} (hf : ∀ x y, f x y = true ↔ x = y) : ∀ l m : List α, allEq f l m = true ↔ l = m
  | [], [] => by simp [allEq]
  | [], _ :: _ => by simp [allEq]
  | _ :: _, [] => by simp [allEq]
  | x :: r, y :: s => by simp [allEq, hf, allEq_iff hf r s]
theorem allEq_drop {α : Type} {f : α → α → Bool} {l m : List α} {i : Nat} {x y : α} (hx : l[i]? = some x) (hy : m[i]? = some y) : allEq f (l.drop i) (m.drop i) = (f x y && allEq f (l.drop (i + 1)) (m.drop (i + 1))) := by
  have h1 := (List.getElem?_eq_some_iff.1 hx)
  have h2 := (List.getElem?_eq_some_iff.1 hy)
  rw [List.drop_eq_getElem_cons h1.1, List.drop_eq_getElem_cons h2.1, h1.2, h2.2]
  rfl
theorem allEq_end {α : Type} {f : α → α → Bool} {l m : List α} {i : Nat} (h1 : l.length ≤ i) (h2 : m.length ≤ i) : allEq f (l.drop i) (m.drop i) = true := by
  rw [List.drop_eq_nil_of_le h1, List.drop_eq_nil_of_le h2]
  rfl
def ringsEq (x y : Nod) : Bool := x.r1 == y.r1 && (x.r2 == y.r2 && (x.r3 == y.r3 && x.gates == y.gates))
/-- What stands outside the rows is alike. -/
def headEq (x y : Nod) : Bool := eqs x.path y.path && x.dir == y.dir && labEq x.label y.label && labEq x.by_ y.by_ && ringsEq x y && (x.acl.length == y.acl.length) && (x.words.length == y.words.length)
def nodEq (x y : Nod) : Bool := headEq x y && allEq grEq x.acl y.acl && allEq (fun a b : Int => a == b) x.words y.words
theorem nodEq_iff {x y : Nod} : nodEq x y = true ↔ x = y := by
  unfold nodEq headEq ringsEq
  simp only [Bool.and_eq_true, allEq_iff (fun _ _ => grEq_iff), allEq_iff (fun a b : Int => beq_iff_eq), eqs_iff, labEq_iff, beq_iff_eq]
  cases x; cases y
  simp only [Nod.mk.injEq]
  constructor
  · rintro ⟨⟨⟨⟨⟨⟨⟨⟨h1, h2⟩, h3⟩, h4⟩, h5, h6, h7, h8⟩, h9⟩, h10⟩, h11⟩, h12⟩
    exact ⟨h1, h2, h3, h11, h5, h6, h7, h8, h12, h4⟩
  · rintro ⟨h1, h2, h3, h11, h5, h6, h7, h8, h12, h4⟩
    exact ⟨⟨⟨⟨⟨⟨⟨⟨h1, h2⟩, h3⟩, h4⟩, h5, h6, h7, h8⟩, by rw [h11]⟩, by rw [h12]⟩, h11⟩, h12⟩
theorem run_neq_gr (x y : Gr) (w : World) : (binOp .neq 77 (.agg #[.string x.u, .int .i64 x.m]) (.agg #[.string y.u, .int .i64 y.m])).run Try.prog w = .ok (.bool (!grEq x y)) w := by
  have e : grEq x y = (x.u.toList == y.u.toList && x.m == y.m) := rfl
  rw [e]
  go_simp
  repeat' split
  all_goals simp_all
theorem run_neq_rings (x y : Nod) (w : World) : (binOp .neq 33 (.agg #[.int .i64 x.r1, .int .i64 x.r2, .int .i64 x.r3, .int .i64 x.gates]) (.agg #[.int .i64 y.r1, .int .i64 y.r2, .int .i64 y.r3, .int .i64 y.gates])).run Try.prog w = .ok (.bool (!ringsEq x y)) w := by
  have e : ringsEq x y = (x.r1 == y.r1 && (x.r2 == y.r2 && (x.r3 == y.r3 && x.gates == y.gates))) := rfl
  rw [e]
  go_simp
  repeat' split
  all_goals simp_all
/-- Two nodes boxed, and their rows. -/
structure TwoN (w W : World) (x y : Nod) (aa : Option Addr) (ca : Nat) (wa : Option Addr) (cw : Nat) (ab : Option Addr) (cb : Nat) (wb : Option Addr) (cd : Nat) : Prop where
  bx : NBox W w.heap.size x aa ca wa cw
  bz : NBox W (w.heap.size + 1) y ab cb wb cd
  gx : GrsAt W aa x.acl
  gz : GrsAt W ab y.acl
  wx : WrdsAt W wa x.words
  wz : WrdsAt W wb y.words
  bl : Below w.heap.size w W
section
variable {w W : World} {x y : Nod} {aa : Option Addr} {ca : Nat} {wa : Option Addr} {cw : Nat} {ab : Option Addr} {cb : Nat} {wb : Option Addr} {cd : Nat}
theorem TwoN.drew (h : TwoN w W x y aa ca wa cw ab cb wb cd) : TwoN w W.drew x y aa ca wa cw ab cb wb cd := ⟨h.bx, h.bz, h.gx, h.gz, h.wx, h.wz, h.bl.drew⟩
theorem two_alloc (hx : GrsAt w aa x.acl) (hy : GrsAt w ab y.acl) (hw : WrdsAt w wa x.words) (hz : WrdsAt w wb y.words) : TwoN w ((w.alloc (.cells (ncells x aa ca wa cw) 36)).alloc (.cells (ncells y ab cb wb cd) 36)) x y aa ca wa cw ab cb wb cd := by
  have b1 := alloc_below w (.cells (ncells x aa ca wa cw) 36)
  have n1 := nbox_alloc w x aa ca wa cw 36
  have s1 := World.size_alloc w (.cells (ncells x aa ca wa cw) 36)
  generalize w.alloc (.cells (ncells x aa ca wa cw) 36) = W1 at *
  have b2 := alloc_below W1 (.cells (ncells y ab cb wb cd) 36)
  have n2 := nbox_alloc W1 y ab cb wb cd 36
  rw [s1] at n2
  have hB := Below.then b1 b2
  exact ⟨n1.keep (b2.mono (by omega)), n2, hx.below hB, hy.below hB, hw.below hB, hz.below hB, hB⟩
end
theorem gr_at {W : World} {a : Option Addr} {l : List Gr} {i : Nat} {q : Gr} {y : Addr} (h : GrsAt W a l) (hy : a = some y) (hq : l[i]? = some q) : W.cell? (y.add (i * 2)) = some (.string q.u) ∧ W.cell? ⟨(y.add (i * 2)).block, (y.add (i * 2)).off + 1, none⟩ = some (.int .i64 q.m) := by
  obtain ⟨y', hy', h1, h2⟩ := h i q hq
  rw [hy] at hy'
  obtain rfl := Option.some.inj hy'
  exact ⟨h1, h2⟩

end Go.Proofs.Ytajondkpdgiolaa
