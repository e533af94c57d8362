/-
  Same: the document's own (donjonref10).
-/
import Derived.Test.YtecleampjeebaaaNodeNst
import Derived.Test.YtecleampjeebaaaNames
import Derived.Deep.CutBlock
namespace Go.Proofs.Ytecleampjeebaaa
open Go.RowKit
set_option linter.unusedSimpArgs false
set_option linter.unusedVariables false

def grEq (x y : Gr) : Bool := eqs x.u y.u && x.m == y.m
theorem grEq_iff {x y : Gr} : grEq x y = true ↔ x = y := by
  cases x; cases y
  unfold grEq
  simp only [Bool.and_eq_true, eqs_iff, beq_iff_eq, Gr.mk.injEq]
/-- Rows alike, place by place. -/
def allEq {α : Type} (f : α → α → Bool) : List α → List α → Bool
  | [], [] => true
  | x :: r, y :: s => f x y && allEq f r s
  | _, _ => false
theorem allEq_iff {α : Type} {f : α → α → Bool} (hf : ∀ x y, f x y = true ↔ x = y) : ∀ l m : List α, allEq f l m = true ↔ l = m
  | [], [] => by simp [allEq]
  | [], _ :: _ => by simp [allEq]
  | _ :: _, [] => by simp [allEq]
  | x :: r, y :: s => by simp [allEq, hf, allEq_iff hf r s]
theorem allEq_drop {α : Type} {f : α → α → Bool} {l m : List α} {i : Nat} {x y : α} (hx : l[i]? = some x) (hy : m[i]? = some y) : allEq f (l.drop i) (m.drop i) = (f x y && allEq f (l.drop (i + 1)) (m.drop (i + 1))) := by
  have h1 := (List.getElem?_eq_some_iff.1 hx)
  have h2 := (List.getElem?_eq_some_iff.1 hy)
  rw [List.drop_eq_getElem_cons h1.1, List.drop_eq_getElem_cons h2.1, h1.2, h2.2]
  rfl
theorem allEq_end {α : Type} {f : α → α → Bool} {l m : List α} {i : Nat} (h1 : l.length ≤ i) (h2 : m.length ≤ i) : allEq f (l.drop i) (m.drop i) = true := by
  rw [List.drop_eq_nil_of_le h1, List.drop_eq_nil_of_le h2]
  rfl
def ringsEq (x y : Nod) : Bool := x.r1 == y.r1 && (x.r2 == y.r2 && (x.r3 == y.r3 && x.gates == y.gates))
/-- What stands outside the rows is alike. -/
def headEq (x y : Nod) : Bool := eqs x.path y.path && x.dir == y.dir && labEq x.label y.label && labEq x.by_ y.by_ && ringsEq x y && (x.acl.length == y.acl.length) && (x.words.length == y.words.length)
def nodEq (x y : Nod) : Bool := headEq x y && allEq grEq x.acl y.acl && allEq (fun a b : Int => a == b) x.words y.words
theorem nodEq_iff {x y : Nod} : nodEq x y = true ↔ x = y := by
  unfold nodEq headEq ringsEq
  simp only [Bool.and_eq_true, allEq_iff (fun _ _ => grEq_iff), allEq_iff (fun a b : Int => beq_iff_eq), eqs_iff, labEq_iff, beq_iff_eq]
  cases x; cases y
  simp only [Nod.mk.injEq]
  constructor
  · rintro ⟨⟨⟨⟨⟨⟨⟨⟨h1, h2⟩, h3⟩, h4⟩, h5, h6, h7, h8⟩, h9⟩, h10⟩, h11⟩, h12⟩
    exact ⟨h1, h2, h3, h11, h5, h6, h7, h8, h12, h4⟩
  · rintro ⟨h1, h2, h3, h11, h5, h6, h7, h8, h12, h4⟩
    exact ⟨⟨⟨⟨⟨⟨⟨⟨h1, h2⟩, h3⟩, h4⟩, h5, h6, h7, h8⟩, by rw [h11]⟩, by rw [h12]⟩, h11⟩, h12⟩
theorem run_neq_gr (x y : Gr) (w : World) : (binOp .neq 60 (.agg #[.string x.u, .int .i64 x.m]) (.agg #[.string y.u, .int .i64 y.m])).run Try.prog w = .ok (.bool (!grEq x y)) w := by
  have e : grEq x y = (x.u.toList == y.u.toList && x.m == y.m) := rfl
  rw [e]
  go_simp
  repeat' split
  all_goals simp_all
theorem run_neq_rings (x y : Nod) (w : World) : (binOp .neq 26 (.agg #[.int .i64 x.r1, .int .i64 x.r2, .int .i64 x.r3, .int .i64 x.gates]) (.agg #[.int .i64 y.r1, .int .i64 y.r2, .int .i64 y.r3, .int .i64 y.gates])).run Try.prog w = .ok (.bool (!ringsEq x y)) w := by
  have e : ringsEq x y = (x.r1 == y.r1 && (x.r2 == y.r2 && (x.r3 == y.r3 && x.gates == y.gates))) := rfl
  rw [e]
  go_simp
  repeat' split
  all_goals simp_all
/-- Two nodes boxed, and their rows. -/
structure TwoN (w W : World) (x y : Nod) (aa : Option Addr) (ca : Nat) (wa : Option Addr) (cw : Nat) (ab : Option Addr) (cb : Nat) (wb : Option Addr) (cd : Nat) : Prop where
  bx : NBox W w.heap.size x aa ca wa cw
  bz : NBox W (w.heap.size + 1) y ab cb wb cd
  gx : GrsAt W aa x.acl
  gz : GrsAt W ab y.acl
  wx : WrdsAt W wa x.words
  wz : WrdsAt W wb y.words
  bl : Below w.heap.size w W
section
variable {w W : World} {x y : Nod} {aa : Option Addr} {ca : Nat} {wa : Option Addr} {cw : Nat} {ab : Option Addr} {cb : Nat} {wb : Option Addr} {cd : Nat}
theorem TwoN.drew (h : TwoN w W x y aa ca wa cw ab cb wb cd) : TwoN w W.drew x y aa ca wa cw ab cb wb cd := ⟨h.bx, h.bz, h.gx, h.gz, h.wx, h.wz, h.bl.drew⟩
theorem two_alloc (hx : GrsAt w aa x.acl) (hy : GrsAt w ab y.acl) (hw : WrdsAt w wa x.words) (hz : WrdsAt w wb y.words) : TwoN w ((w.alloc (.cells (ncells x aa ca wa cw) 29)).alloc (.cells (ncells y ab cb wb cd) 29)) x y aa ca wa cw ab cb wb cd := by
  have b1 := alloc_below w (.cells (ncells x aa ca wa cw) 29)
  have n1 := nbox_alloc w x aa ca wa cw 29
  have s1 := World.size_alloc w (.cells (ncells x aa ca wa cw) 29)
  generalize w.alloc (.cells (ncells x aa ca wa cw) 29) = W1 at *
  have b2 := alloc_below W1 (.cells (ncells y ab cb wb cd) 29)
  have n2 := nbox_alloc W1 y ab cb wb cd 29
  rw [s1] at n2
  have hB := Below.then b1 b2
  exact ⟨n1.keep (b2.mono (by omega)), n2, hx.below hB, hy.below hB, hw.below hB, hz.below hB, hB⟩
end
theorem gr_at {W : World} {a : Option Addr} {l : List Gr} {i : Nat} {q : Gr} {y : Addr} (h : GrsAt W a l) (hy : a = some y) (hq : l[i]? = some q) : W.cell? (y.add (i * 2)) = some (.string q.u) ∧ W.cell? ⟨(y.add (i * 2)).block, (y.add (i * 2)).off + 1, none⟩ = some (.int .i64 q.m) := by
  obtain ⟨y', hy', h1, h2⟩ := h i q hq
  rw [hy] at hy'
  obtain rfl := Option.some.inj hy'
  exact ⟨h1, h2⟩

set_option maxRecDepth 20000 in
set_option maxHeartbeats 8000000 in
theorem rsame_any (x y : Nod) (aa : Option Addr) (ca : Nat) (wa : Option Addr) (cw : Nat) (ab : Option Addr) (cb : Nat) (wb : Option Addr) (cd : Nat) (hx1 : x.acl.length ≤ 1000000) (hx2 : x.words.length ≤ 1000000) (w : World) (gx : GrsAt w aa x.acl) (gz : GrsAt w ab y.acl) (wx : WrdsAt w wa x.words) (wz : WrdsAt w wb y.words) :
    Calls Try.prog 11 #[x.v aa ca wa cw, y.v ab cb wb cd] w fun e w' => e = .returned (.bool (nodEq x y)) ∧ Below w.heap.size w w' := by
  have h := two_alloc (cw := cw) (ca := ca) (cb := cb) (cd := cd) gx gz wx wz
  unfold ncells at h
  clear gx gz wx wz
  obtain ⟨r, hr⟩ : ∃ r, nodEq x y = r := ⟨_, rfl⟩
  rw [hr]
  have kL := run_neq_lab
  have kR := run_neq_rings
  have hno : headEq x y = false → r = false := fun k => by rw [← hr, nodEq, k]; rfl
  have hyes : headEq x y = true → Aside (r = (allEq grEq (x.acl.drop 0) (y.acl.drop 0) && allEq (fun a b : Int => a == b) (x.words.drop 0) (y.words.drop 0))) := fun k => by rw [← hr, nodEq, k]; exact rfl
  have hhead : headEq x y = (eqs x.path y.path && x.dir == y.dir && labEq x.label y.label && labEq x.by_ y.by_ && ringsEq x y && (x.acl.length == y.acl.length) && (x.words.length == y.words.length)) := rfl
  clear hr
  go_enter Try.func11, Try.ntmps11
  go_upto_region 1 with fail
  generalize ((w.alloc (.cells #[.string x.path, .bool x.dir, .int .i64 x.label.s, .int .i64 x.label.c, .int .i64 x.label.i, .int .i64 x.label.k, .slice aa x.acl.length ca, .int .i64 x.r1, .int .i64 x.r2, .int .i64 x.r3, .int .i64 x.gates, .slice wa x.words.length cw, .int .i64 x.by_.s, .int .i64 x.by_.c, .int .i64 x.by_.i, .int .i64 x.by_.k] 29)).alloc (.cells #[.string y.path, .bool y.dir, .int .i64 y.label.s, .int .i64 y.label.c, .int .i64 y.label.i, .int .i64 y.label.k, .slice ab y.acl.length cb, .int .i64 y.r1, .int .i64 y.r2, .int .i64 y.r3, .int .i64 y.gates, .slice wb y.words.length cd, .int .i64 y.by_.s, .int .i64 y.by_.c, .int .i64 y.by_.i, .int .i64 y.by_.k] 29)) = W at *
  obtain ⟨nb, hnb⟩ : ∃ nb, (!headEq x y) = nb := ⟨_, rfl⟩
  have hnb : Aside ((!headEq x y) = nb) := hnb
  go_cut [57] from 7 (fun s57 wc => s57 = .bool nb ∧ wc = W)
  case first =>
    obtain ⟨⟨a0, a1, a2, a3, a4, a5, a6, a7, a8, a9, a10, a11, a12, a13, a14, a15⟩, ⟨b0, b1, b2, b3, b4, b5, b6, b7, b8, b9, b10, b11, b12, b13, b14, b15⟩, -, -, -, -, -⟩ := h
    clear hno hyes
    cases e0 : eqs x.path y.path
    case false =>
      have f0 : (x.path.toList == y.path.toList) = false := by exact e0
      have hh : Aside (headEq x y = false) := by
        rw [hhead]
        simp only [e0, Bool.and_false, Bool.false_and]
        exact trivial
      clear hhead
      go_wp2_with fail
      go_meet
      exact ⟨by rw [← hnb.out, hh.out]; rfl, rfl⟩
    have f0 : (x.path.toList == y.path.toList) = true := by exact e0
    cases e1 : (x.dir == y.dir)
    case false =>
      have f1 : (x.dir != y.dir) = true := by simp only [bne, e1]; rfl
      have hh : Aside (headEq x y = false) := by
        rw [hhead]
        simp only [e1, Bool.and_false, Bool.false_and]
        exact trivial
      clear hhead
      go_wp2_with fail
      go_meet
      exact ⟨by rw [← hnb.out, hh.out]; rfl, rfl⟩
    have f1 : (x.dir != y.dir) = false := by simp only [bne, e1]; rfl
    cases e2 : labEq x.label y.label
    case false =>
      have hh : Aside (headEq x y = false) := by
        rw [hhead]
        simp only [e2, Bool.and_false, Bool.false_and]
        exact trivial
      clear hhead
      go_wp2_with fail
      go_meet
      exact ⟨by rw [← hnb.out, hh.out]; rfl, rfl⟩
    cases e3 : labEq x.by_ y.by_
    case false =>
      have hh : Aside (headEq x y = false) := by
        rw [hhead]
        simp only [e3, Bool.and_false, Bool.false_and]
        exact trivial
      clear hhead
      go_wp2_with fail
      go_meet
      exact ⟨by rw [← hnb.out, hh.out]; rfl, rfl⟩
    cases e4 : ringsEq x y
    case false =>
      have hh : Aside (headEq x y = false) := by
        rw [hhead]
        simp only [e4, Bool.and_false, Bool.false_and]
        exact trivial
      clear hhead
      go_wp2_with fail
      go_meet
      exact ⟨by rw [← hnb.out, hh.out]; rfl, rfl⟩
    cases e5 : (x.acl.length == y.acl.length)
    case false =>
      have f5 : ((x.acl.length : Int) != (y.acl.length : Int)) = true := by
        simp at e5 ⊢
        omega
      have hh : Aside (headEq x y = false) := by
        rw [hhead]
        simp only [e5, Bool.and_false, Bool.false_and]
        exact trivial
      clear hhead
      go_wp2_with fail
      go_meet
      exact ⟨by rw [← hnb.out, hh.out]; rfl, rfl⟩
    have f5 : ((x.acl.length : Int) != (y.acl.length : Int)) = false := by
      simp at e5 ⊢
      omega
    cases e6 : (x.words.length == y.words.length)
    case false =>
      have f6 : ((x.words.length : Int) != (y.words.length : Int)) = true := by
        simp at e6 ⊢
        omega
      have hh : Aside (headEq x y = false) := by
        rw [hhead]
        simp only [e6, Bool.and_false, Bool.false_and]
        exact trivial
      clear hhead
      go_wp2_with fail
      go_meet
      exact ⟨by rw [← hnb.out, hh.out]; rfl, rfl⟩
    have f6 : ((x.words.length : Int) != (y.words.length : Int)) = false := by
      simp at e6 ⊢
      omega
    have hh : Aside (headEq x y = true) := by
      rw [hhead]
      simp only [e0, e1, e2, e3, e4, e5, e6, Bool.and_true]
      exact trivial
    clear hhead
    go_wp2_with fail
    go_meet
    exact ⟨by rw [← hnb.out, hh.out]; rfl, rfl⟩
  case rest =>
  obtain ⟨rfl, rfl⟩ := hcut
  clear kL kR
  cases nb
  case true =>
    have hh : headEq x y = false := by have := hnb.out; simpa using this
    obtain rfl := hno hh
    clear hno hyes hhead hh hnb
    go_wp2_with fail
    go_ret
    exact ⟨rfl, h.bl⟩
  case false =>
    have hh : headEq x y = true := by have := hnb.out; simpa using this
    have hr0 := hyes hh
    have hl : x.acl.length = y.acl.length ∧ x.words.length = y.words.length := by
      rw [hhead] at hh
      simp only [Bool.and_eq_true, beq_iff_eq] at hh
      exact ⟨hh.1.2, hh.2⟩
    clear hno hyes hhead hh hnb
    obtain ⟨la, hla⟩ : ∃ la, x.acl.length = la := ⟨_, rfl⟩
    obtain ⟨lw, hlw⟩ : ∃ lw, x.words.length = lw := ⟨_, rfl⟩
    have hla2 : y.acl.length = la := by omega
    have hlw2 : y.words.length = lw := by omega
    have hA : Aside (x.acl.length = la ∧ y.acl.length = la ∧ x.words.length = lw ∧ y.words.length = lw) := ⟨hla, hla2, hlw, hlw2⟩
    have hala : la ≤ 1000000 := by omega
    have halw : lw ≤ 1000000 := by omega
    obtain ⟨R2, hR2⟩ : ∃ R2, allEq (fun a b : Int => a == b) (x.words.drop 0) (y.words.drop 0) = R2 := ⟨_, rfl⟩
    rw [hR2] at hr0
    have hR2 : Aside (R2 = allEq (fun a b : Int => a == b) (x.words.drop 0) (y.words.drop 0)) := hR2.symm
    clear hl hla hlw hla2 hlw2 hx1 hx2
    have kG := run_neq_gr
    go_wp2_with fail
    go_loopw [5] (fun t5 wr => ∃ i : Nat, i ≤ la ∧ t5 = .int .i64 (i : Int) ∧ TwoN w wr x y aa ca wa cw ab cb wb cd ∧ Aside (r = (allEq grEq (x.acl.drop i) (y.acl.drop i) && R2))) (fun t5 _ => la - (Go.RowKit.intOf t5).toNat)
    case atStart => exact ⟨0, by omega, rfl, h, hr0⟩
    case round =>
      obtain ⟨i, hi, rfl, h, hall⟩ := hrel
      clear hr0
      have z6 : wr.cell? ⟨w.heap.size, 6, none⟩ = some (.slice aa la ca) := by
        have := h.bx.2.2.2.2.2.2.1
        rw [hA.out.1] at this
        exact this
      have y6 : wr.cell? ⟨w.heap.size + 1, 6, none⟩ = some (.slice ab la cb) := by
        have := h.bz.2.2.2.2.2.2.1
        rw [hA.out.2.1] at this
        exact this
      by_cases hlt : i < la
      · obtain ⟨q, hq⟩ : ∃ q, x.acl[i]? = some q := ⟨_, List.getElem?_eq_getElem (by rw [hA.out.1]; exact hlt)⟩
        obtain ⟨p, hp⟩ : ∃ p, y.acl[i]? = some p := ⟨_, List.getElem?_eq_getElem (by rw [hA.out.2.1]; exact hlt)⟩
        obtain ⟨u, rfl, c1, c2⟩ := h.gx i q hq
        obtain ⟨v, rfl, d1, d2⟩ := h.gz i p hp
        rw [allEq_drop hq hp] at hall
        clear hq hp
        have hi1 : (i : Int) < (la : Int) := by omega
        have hS0 : (fun W : World => W.cell? ⟨w.heap.size, 6, none⟩ = some (.slice (some u) la ca) ∧ W.cell? ⟨w.heap.size + 1, 6, none⟩ = some (.slice (some v) la cb) ∧ W.cell? (u.add (i * 2)) = some (.string q.u) ∧ W.cell? ⟨(u.add (i * 2)).block, (u.add (i * 2)).off + 1, none⟩ = some (.int .i64 q.m) ∧ W.cell? (v.add (i * 2)) = some (.string p.u) ∧ W.cell? ⟨(v.add (i * 2)).block, (v.add (i * 2)).off + 1, none⟩ = some (.int .i64 p.m)) wr.drew := ⟨z6, y6, c1, c2, d1, d2⟩
        have h' := h.drew
        go_wp2_with fail
        clear z6 y6 c1 c2 d1 d2 h
        refine wp_region_held_drew (S := (fun W : World => W.cell? ⟨w.heap.size, 6, none⟩ = some (.slice (some u) la ca) ∧ W.cell? ⟨w.heap.size + 1, 6, none⟩ = some (.slice (some v) la cb) ∧ W.cell? (u.add (i * 2)) = some (.string q.u) ∧ W.cell? ⟨(u.add (i * 2)).block, (u.add (i * 2)).off + 1, none⟩ = some (.int .i64 q.m) ∧ W.cell? (v.add (i * 2)) = some (.string p.u) ∧ W.cell? ⟨(v.add (i * 2)).block, (v.add (i * 2)).off + 1, none⟩ = some (.int .i64 p.m))) (by kernel_rfl) (by exact hS0) ?_
        intro hHeld
        first | (refine wpAnyH_take (i := 0) (v := ?_) (by simp only [List.getElem?_toArray, List.getElem?_cons_zero, List.getElem?_cons_succ]; rfl) (by kernel_rfl) (by kernel_rfl) (by kernel_rfl) (by exact fun _ _ _ h => h) (Or.inl ⟨by rfl, ?_⟩) (by assumption) ?_; rotate_left; (focus (intro w hSw; (try dsimp only at hSw); go_simp; try with_reducible rfl)); simp only [Act.put, List.setIfInBounds_toArray, List.set_cons_zero, List.set_cons_succ]) | (refine wpAnyH_take (i := 0) (v := undef) (by simp only [List.getElem?_toArray, List.getElem?_cons_zero, List.getElem?_cons_succ]; rfl) (by kernel_rfl) (by kernel_rfl) (by kernel_rfl) (by exact fun _ _ _ h => h) (Or.inr ⟨by rfl, rfl⟩) (by assumption) ?_; simp only [Act.put, List.setIfInBounds_toArray, List.set_cons_zero, List.set_cons_succ]) | fail
        first | (refine wpAnyH_take (i := 1) (v := ?_) (by simp only [List.getElem?_toArray, List.getElem?_cons_zero, List.getElem?_cons_succ]; rfl) (by kernel_rfl) (by kernel_rfl) (by kernel_rfl) (by exact fun _ _ _ h => h) (Or.inl ⟨by rfl, ?_⟩) (by assumption) ?_; rotate_left; (focus (intro w hSw; (try dsimp only at hSw); go_simp; try with_reducible rfl)); simp only [Act.put, List.setIfInBounds_toArray, List.set_cons_zero, List.set_cons_succ]) | (refine wpAnyH_take (i := 1) (v := undef) (by simp only [List.getElem?_toArray, List.getElem?_cons_zero, List.getElem?_cons_succ]; rfl) (by kernel_rfl) (by kernel_rfl) (by kernel_rfl) (by exact fun _ _ _ h => h) (Or.inr ⟨by rfl, rfl⟩) (by assumption) ?_; simp only [Act.put, List.setIfInBounds_toArray, List.set_cons_zero, List.set_cons_succ]) | fail
        first | (refine wpAnyH_take (i := 2) (v := ?_) (by simp only [List.getElem?_toArray, List.getElem?_cons_zero, List.getElem?_cons_succ]; rfl) (by kernel_rfl) (by kernel_rfl) (by kernel_rfl) (by exact fun _ _ _ h => h) (Or.inl ⟨by rfl, ?_⟩) (by assumption) ?_; rotate_left; (focus (intro w hSw; (try dsimp only at hSw); go_simp; try with_reducible rfl)); simp only [Act.put, List.setIfInBounds_toArray, List.set_cons_zero, List.set_cons_succ]) | (refine wpAnyH_take (i := 2) (v := undef) (by simp only [List.getElem?_toArray, List.getElem?_cons_zero, List.getElem?_cons_succ]; rfl) (by kernel_rfl) (by kernel_rfl) (by kernel_rfl) (by exact fun _ _ _ h => h) (Or.inr ⟨by rfl, rfl⟩) (by assumption) ?_; simp only [Act.put, List.setIfInBounds_toArray, List.set_cons_zero, List.set_cons_succ]) | fail
        first | (refine wpAnyH_take (i := 3) (v := ?_) (by simp only [List.getElem?_toArray, List.getElem?_cons_zero, List.getElem?_cons_succ]; rfl) (by kernel_rfl) (by kernel_rfl) (by kernel_rfl) (by exact fun _ _ _ h => h) (Or.inl ⟨by rfl, ?_⟩) (by assumption) ?_; rotate_left; (focus (intro w hSw; (try dsimp only at hSw); go_simp; try with_reducible rfl)); simp only [Act.put, List.setIfInBounds_toArray, List.set_cons_zero, List.set_cons_succ]) | (refine wpAnyH_take (i := 3) (v := undef) (by simp only [List.getElem?_toArray, List.getElem?_cons_zero, List.getElem?_cons_succ]; rfl) (by kernel_rfl) (by kernel_rfl) (by kernel_rfl) (by exact fun _ _ _ h => h) (Or.inr ⟨by rfl, rfl⟩) (by assumption) ?_; simp only [Act.put, List.setIfInBounds_toArray, List.set_cons_zero, List.set_cons_succ]) | fail
        first | (refine wpAnyH_take (i := 4) (v := ?_) (by simp only [List.getElem?_toArray, List.getElem?_cons_zero, List.getElem?_cons_succ]; rfl) (by kernel_rfl) (by kernel_rfl) (by kernel_rfl) (by exact fun _ _ _ h => h) (Or.inl ⟨by rfl, ?_⟩) (by assumption) ?_; rotate_left; (focus (intro w hSw; (try dsimp only at hSw); go_simp; try with_reducible rfl)); simp only [Act.put, List.setIfInBounds_toArray, List.set_cons_zero, List.set_cons_succ]) | (refine wpAnyH_take (i := 4) (v := undef) (by simp only [List.getElem?_toArray, List.getElem?_cons_zero, List.getElem?_cons_succ]; rfl) (by kernel_rfl) (by kernel_rfl) (by kernel_rfl) (by exact fun _ _ _ h => h) (Or.inr ⟨by rfl, rfl⟩) (by assumption) ?_; simp only [Act.put, List.setIfInBounds_toArray, List.set_cons_zero, List.set_cons_succ]) | fail
        first | (refine wpAnyH_take (i := 5) (v := ?_) (by simp only [List.getElem?_toArray, List.getElem?_cons_zero, List.getElem?_cons_succ]; rfl) (by kernel_rfl) (by kernel_rfl) (by kernel_rfl) (by exact fun _ _ _ h => h) (Or.inl ⟨by rfl, ?_⟩) (by assumption) ?_; rotate_left; (focus (intro w hSw; (try dsimp only at hSw); go_simp; try with_reducible rfl)); simp only [Act.put, List.setIfInBounds_toArray, List.set_cons_zero, List.set_cons_succ]) | (refine wpAnyH_take (i := 5) (v := undef) (by simp only [List.getElem?_toArray, List.getElem?_cons_zero, List.getElem?_cons_succ]; rfl) (by kernel_rfl) (by kernel_rfl) (by kernel_rfl) (by exact fun _ _ _ h => h) (Or.inr ⟨by rfl, rfl⟩) (by assumption) ?_; simp only [Act.put, List.setIfInBounds_toArray, List.set_cons_zero, List.set_cons_succ]) | fail
        first | (refine wpAnyH_take (i := 6) (v := ?_) (by simp only [List.getElem?_toArray, List.getElem?_cons_zero, List.getElem?_cons_succ]; rfl) (by kernel_rfl) (by kernel_rfl) (by kernel_rfl) (by exact fun _ _ _ h => h) (Or.inl ⟨by rfl, ?_⟩) (by assumption) ?_; rotate_left; (focus (intro w hSw; (try dsimp only at hSw); go_simp; try with_reducible rfl)); simp only [Act.put, List.setIfInBounds_toArray, List.set_cons_zero, List.set_cons_succ]) | (refine wpAnyH_take (i := 6) (v := undef) (by simp only [List.getElem?_toArray, List.getElem?_cons_zero, List.getElem?_cons_succ]; rfl) (by kernel_rfl) (by kernel_rfl) (by kernel_rfl) (by exact fun _ _ _ h => h) (Or.inr ⟨by rfl, rfl⟩) (by assumption) ?_; simp only [Act.put, List.setIfInBounds_toArray, List.set_cons_zero, List.set_cons_succ]) | fail
        first | (refine wpAnyH_take (i := 7) (v := ?_) (by simp only [List.getElem?_toArray, List.getElem?_cons_zero, List.getElem?_cons_succ]; rfl) (by kernel_rfl) (by kernel_rfl) (by kernel_rfl) (by exact fun _ _ _ h => h) (Or.inl ⟨by rfl, ?_⟩) (by assumption) ?_; rotate_left; (focus (intro w hSw; (try dsimp only at hSw); go_simp; try with_reducible rfl)); simp only [Act.put, List.setIfInBounds_toArray, List.set_cons_zero, List.set_cons_succ]) | (refine wpAnyH_take (i := 7) (v := undef) (by simp only [List.getElem?_toArray, List.getElem?_cons_zero, List.getElem?_cons_succ]; rfl) (by kernel_rfl) (by kernel_rfl) (by kernel_rfl) (by exact fun _ _ _ h => h) (Or.inr ⟨by rfl, rfl⟩) (by assumption) ?_; simp only [Act.put, List.setIfInBounds_toArray, List.set_cons_zero, List.set_cons_succ]) | fail
        first | (refine wpAnyH_take (i := 8) (v := ?_) (by simp only [List.getElem?_toArray, List.getElem?_cons_zero, List.getElem?_cons_succ]; rfl) (by kernel_rfl) (by kernel_rfl) (by kernel_rfl) (by exact fun _ _ _ h => h) (Or.inl ⟨by rfl, ?_⟩) (by assumption) ?_; rotate_left; (focus (intro w hSw; (try dsimp only at hSw); go_simp; try with_reducible rfl)); simp only [Act.put, List.setIfInBounds_toArray, List.set_cons_zero, List.set_cons_succ]) | (refine wpAnyH_take (i := 8) (v := undef) (by simp only [List.getElem?_toArray, List.getElem?_cons_zero, List.getElem?_cons_succ]; rfl) (by kernel_rfl) (by kernel_rfl) (by kernel_rfl) (by exact fun _ _ _ h => h) (Or.inr ⟨by rfl, rfl⟩) (by assumption) ?_; simp only [Act.put, List.setIfInBounds_toArray, List.set_cons_zero, List.set_cons_succ]) | fail
        first | (refine wpAnyH_take (i := 9) (v := ?_) (by simp only [List.getElem?_toArray, List.getElem?_cons_zero, List.getElem?_cons_succ]; rfl) (by kernel_rfl) (by kernel_rfl) (by kernel_rfl) (by exact fun _ _ _ h => h) (Or.inl ⟨by rfl, ?_⟩) (by assumption) ?_; rotate_left; (focus (intro w hSw; (try dsimp only at hSw); go_simp; try with_reducible rfl)); simp only [Act.put, List.setIfInBounds_toArray, List.set_cons_zero, List.set_cons_succ]) | (refine wpAnyH_take (i := 9) (v := undef) (by simp only [List.getElem?_toArray, List.getElem?_cons_zero, List.getElem?_cons_succ]; rfl) (by kernel_rfl) (by kernel_rfl) (by kernel_rfl) (by exact fun _ _ _ h => h) (Or.inr ⟨by rfl, rfl⟩) (by assumption) ?_; simp only [Act.put, List.setIfInBounds_toArray, List.set_cons_zero, List.set_cons_succ]) | fail
        first | (refine wpAnyH_take (i := 10) (v := ?_) (by simp only [List.getElem?_toArray, List.getElem?_cons_zero, List.getElem?_cons_succ]; rfl) (by kernel_rfl) (by kernel_rfl) (by kernel_rfl) (by exact fun _ _ _ h => h) (Or.inl ⟨by rfl, ?_⟩) (by assumption) ?_; rotate_left; (focus (intro w hSw; (try dsimp only at hSw); go_simp; try with_reducible rfl)); simp only [Act.put, List.setIfInBounds_toArray, List.set_cons_zero, List.set_cons_succ]) | (refine wpAnyH_take (i := 10) (v := undef) (by simp only [List.getElem?_toArray, List.getElem?_cons_zero, List.getElem?_cons_succ]; rfl) (by kernel_rfl) (by kernel_rfl) (by kernel_rfl) (by exact fun _ _ _ h => h) (Or.inr ⟨by rfl, rfl⟩) (by assumption) ?_; simp only [Act.put, List.setIfInBounds_toArray, List.set_cons_zero, List.set_cons_succ]) | fail
        refine wpAnyH_done (by kernel_rfl) ?_ _
        cases hg : grEq q p
        · obtain rfl : r = false := by rw [hall.out, hg]; rfl
          go_wp2_with fail
          go_ret
          exact ⟨rfl, h'.bl⟩
        · rw [hg, Bool.true_and] at hall
          go_wp2_with fail
          exact ⟨⟨i + 1, by omega, by simp, h', hall⟩, by simp [Go.RowKit.intOf]; omega⟩
      · obtain rfl : i = la := by omega
        have hr1 : Aside (r = allEq (fun a b : Int => a == b) (x.words.drop 0) (y.words.drop 0)) := by
          have := hall.out
          rw [allEq_end (by rw [hA.out.1]; exact Nat.le_refl _) (by rw [hA.out.2.1]; exact Nat.le_refl _), Bool.true_and] at this
          rw [this, hR2.out]
          exact rfl
        clear hall hR2 kG
        go_wp2_with fail
        clear z6 y6
        go_loopw [6] (fun t6 wr => ∃ j : Nat, j ≤ lw ∧ t6 = .int .i64 (j : Int) ∧ TwoN w wr x y aa ca wa cw ab cb wb cd ∧ Aside (r = allEq (fun a b : Int => a == b) (x.words.drop j) (y.words.drop j))) (fun t6 _ => lw - (Go.RowKit.intOf t6).toNat)
        case atStart => exact ⟨0, by omega, rfl, h, hr1⟩
        case round =>
          obtain ⟨j, hj, rfl, h, hall⟩ := hrel
          clear hr1
          have z11 : wr.cell? ⟨w.heap.size, 11, none⟩ = some (.slice wa lw cw) := by
            have := h.bx.2.2.2.2.2.2.2.2.2.2.2.1
            rw [hA.out.2.2.1] at this
            exact this
          have y11 : wr.cell? ⟨w.heap.size + 1, 11, none⟩ = some (.slice wb lw cd) := by
            have := h.bz.2.2.2.2.2.2.2.2.2.2.2.1
            rw [hA.out.2.2.2] at this
            exact this
          by_cases hlt : j < lw
          · obtain ⟨q, hq⟩ : ∃ q, x.words[j]? = some q := ⟨_, List.getElem?_eq_getElem (by rw [hA.out.2.2.1]; exact hlt)⟩
            obtain ⟨p, hp⟩ : ∃ p, y.words[j]? = some p := ⟨_, List.getElem?_eq_getElem (by rw [hA.out.2.2.2]; exact hlt)⟩
            obtain ⟨u, rfl, c1⟩ := h.wx j q hq
            obtain ⟨v, rfl, d1⟩ := h.wz j p hp
            rw [allEq_drop hq hp] at hall
            clear hq hp
            have hj1 : (j : Int) < (lw : Int) := by omega
            have hS0 : (fun W : World => W.cell? ⟨w.heap.size, 11, none⟩ = some (.slice (some u) lw cw) ∧ W.cell? ⟨w.heap.size + 1, 11, none⟩ = some (.slice (some v) lw cd) ∧ W.cell? (u.add j) = some (.int .i64 q) ∧ W.cell? (v.add j) = some (.int .i64 p)) wr.drew := ⟨z11, y11, c1, d1⟩
            have h' := h.drew
            go_wp2_with fail
            clear z11 y11 c1 d1 h
            refine wp_region_held_drew (S := (fun W : World => W.cell? ⟨w.heap.size, 11, none⟩ = some (.slice (some u) lw cw) ∧ W.cell? ⟨w.heap.size + 1, 11, none⟩ = some (.slice (some v) lw cd) ∧ W.cell? (u.add j) = some (.int .i64 q) ∧ W.cell? (v.add j) = some (.int .i64 p))) (by kernel_rfl) (by exact hS0) ?_
            intro hHeld
            first | (refine wpAnyH_take (i := 0) (v := ?_) (by simp only [List.getElem?_toArray, List.getElem?_cons_zero, List.getElem?_cons_succ]; rfl) (by kernel_rfl) (by kernel_rfl) (by kernel_rfl) (by exact fun _ _ _ h => h) (Or.inl ⟨by rfl, ?_⟩) (by assumption) ?_; rotate_left; (focus (intro w hSw; (try dsimp only at hSw); go_simp; try with_reducible rfl)); simp only [Act.put, List.setIfInBounds_toArray, List.set_cons_zero, List.set_cons_succ]) | (refine wpAnyH_take (i := 0) (v := undef) (by simp only [List.getElem?_toArray, List.getElem?_cons_zero, List.getElem?_cons_succ]; rfl) (by kernel_rfl) (by kernel_rfl) (by kernel_rfl) (by exact fun _ _ _ h => h) (Or.inr ⟨by rfl, rfl⟩) (by assumption) ?_; simp only [Act.put, List.setIfInBounds_toArray, List.set_cons_zero, List.set_cons_succ]) | fail
            first | (refine wpAnyH_take (i := 1) (v := ?_) (by simp only [List.getElem?_toArray, List.getElem?_cons_zero, List.getElem?_cons_succ]; rfl) (by kernel_rfl) (by kernel_rfl) (by kernel_rfl) (by exact fun _ _ _ h => h) (Or.inl ⟨by rfl, ?_⟩) (by assumption) ?_; rotate_left; (focus (intro w hSw; (try dsimp only at hSw); go_simp; try with_reducible rfl)); simp only [Act.put, List.setIfInBounds_toArray, List.set_cons_zero, List.set_cons_succ]) | (refine wpAnyH_take (i := 1) (v := undef) (by simp only [List.getElem?_toArray, List.getElem?_cons_zero, List.getElem?_cons_succ]; rfl) (by kernel_rfl) (by kernel_rfl) (by kernel_rfl) (by exact fun _ _ _ h => h) (Or.inr ⟨by rfl, rfl⟩) (by assumption) ?_; simp only [Act.put, List.setIfInBounds_toArray, List.set_cons_zero, List.set_cons_succ]) | fail
            first | (refine wpAnyH_take (i := 2) (v := ?_) (by simp only [List.getElem?_toArray, List.getElem?_cons_zero, List.getElem?_cons_succ]; rfl) (by kernel_rfl) (by kernel_rfl) (by kernel_rfl) (by exact fun _ _ _ h => h) (Or.inl ⟨by rfl, ?_⟩) (by assumption) ?_; rotate_left; (focus (intro w hSw; (try dsimp only at hSw); go_simp; try with_reducible rfl)); simp only [Act.put, List.setIfInBounds_toArray, List.set_cons_zero, List.set_cons_succ]) | (refine wpAnyH_take (i := 2) (v := undef) (by simp only [List.getElem?_toArray, List.getElem?_cons_zero, List.getElem?_cons_succ]; rfl) (by kernel_rfl) (by kernel_rfl) (by kernel_rfl) (by exact fun _ _ _ h => h) (Or.inr ⟨by rfl, rfl⟩) (by assumption) ?_; simp only [Act.put, List.setIfInBounds_toArray, List.set_cons_zero, List.set_cons_succ]) | fail
            first | (refine wpAnyH_take (i := 3) (v := ?_) (by simp only [List.getElem?_toArray, List.getElem?_cons_zero, List.getElem?_cons_succ]; rfl) (by kernel_rfl) (by kernel_rfl) (by kernel_rfl) (by exact fun _ _ _ h => h) (Or.inl ⟨by rfl, ?_⟩) (by assumption) ?_; rotate_left; (focus (intro w hSw; (try dsimp only at hSw); go_simp; try with_reducible rfl)); simp only [Act.put, List.setIfInBounds_toArray, List.set_cons_zero, List.set_cons_succ]) | (refine wpAnyH_take (i := 3) (v := undef) (by simp only [List.getElem?_toArray, List.getElem?_cons_zero, List.getElem?_cons_succ]; rfl) (by kernel_rfl) (by kernel_rfl) (by kernel_rfl) (by exact fun _ _ _ h => h) (Or.inr ⟨by rfl, rfl⟩) (by assumption) ?_; simp only [Act.put, List.setIfInBounds_toArray, List.set_cons_zero, List.set_cons_succ]) | fail
            first | (refine wpAnyH_take (i := 4) (v := ?_) (by simp only [List.getElem?_toArray, List.getElem?_cons_zero, List.getElem?_cons_succ]; rfl) (by kernel_rfl) (by kernel_rfl) (by kernel_rfl) (by exact fun _ _ _ h => h) (Or.inl ⟨by rfl, ?_⟩) (by assumption) ?_; rotate_left; (focus (intro w hSw; (try dsimp only at hSw); go_simp; try with_reducible rfl)); simp only [Act.put, List.setIfInBounds_toArray, List.set_cons_zero, List.set_cons_succ]) | (refine wpAnyH_take (i := 4) (v := undef) (by simp only [List.getElem?_toArray, List.getElem?_cons_zero, List.getElem?_cons_succ]; rfl) (by kernel_rfl) (by kernel_rfl) (by kernel_rfl) (by exact fun _ _ _ h => h) (Or.inr ⟨by rfl, rfl⟩) (by assumption) ?_; simp only [Act.put, List.setIfInBounds_toArray, List.set_cons_zero, List.set_cons_succ]) | fail
            first | (refine wpAnyH_take (i := 5) (v := ?_) (by simp only [List.getElem?_toArray, List.getElem?_cons_zero, List.getElem?_cons_succ]; rfl) (by kernel_rfl) (by kernel_rfl) (by kernel_rfl) (by exact fun _ _ _ h => h) (Or.inl ⟨by rfl, ?_⟩) (by assumption) ?_; rotate_left; (focus (intro w hSw; (try dsimp only at hSw); go_simp; try with_reducible rfl)); simp only [Act.put, List.setIfInBounds_toArray, List.set_cons_zero, List.set_cons_succ]) | (refine wpAnyH_take (i := 5) (v := undef) (by simp only [List.getElem?_toArray, List.getElem?_cons_zero, List.getElem?_cons_succ]; rfl) (by kernel_rfl) (by kernel_rfl) (by kernel_rfl) (by exact fun _ _ _ h => h) (Or.inr ⟨by rfl, rfl⟩) (by assumption) ?_; simp only [Act.put, List.setIfInBounds_toArray, List.set_cons_zero, List.set_cons_succ]) | fail
            first | (refine wpAnyH_take (i := 6) (v := ?_) (by simp only [List.getElem?_toArray, List.getElem?_cons_zero, List.getElem?_cons_succ]; rfl) (by kernel_rfl) (by kernel_rfl) (by kernel_rfl) (by exact fun _ _ _ h => h) (Or.inl ⟨by rfl, ?_⟩) (by assumption) ?_; rotate_left; (focus (intro w hSw; (try dsimp only at hSw); go_simp; try with_reducible rfl)); simp only [Act.put, List.setIfInBounds_toArray, List.set_cons_zero, List.set_cons_succ]) | (refine wpAnyH_take (i := 6) (v := undef) (by simp only [List.getElem?_toArray, List.getElem?_cons_zero, List.getElem?_cons_succ]; rfl) (by kernel_rfl) (by kernel_rfl) (by kernel_rfl) (by exact fun _ _ _ h => h) (Or.inr ⟨by rfl, rfl⟩) (by assumption) ?_; simp only [Act.put, List.setIfInBounds_toArray, List.set_cons_zero, List.set_cons_succ]) | fail
            first | (refine wpAnyH_take (i := 7) (v := ?_) (by simp only [List.getElem?_toArray, List.getElem?_cons_zero, List.getElem?_cons_succ]; rfl) (by kernel_rfl) (by kernel_rfl) (by kernel_rfl) (by exact fun _ _ _ h => h) (Or.inl ⟨by rfl, ?_⟩) (by assumption) ?_; rotate_left; (focus (intro w hSw; (try dsimp only at hSw); go_simp; try with_reducible rfl)); simp only [Act.put, List.setIfInBounds_toArray, List.set_cons_zero, List.set_cons_succ]) | (refine wpAnyH_take (i := 7) (v := undef) (by simp only [List.getElem?_toArray, List.getElem?_cons_zero, List.getElem?_cons_succ]; rfl) (by kernel_rfl) (by kernel_rfl) (by kernel_rfl) (by exact fun _ _ _ h => h) (Or.inr ⟨by rfl, rfl⟩) (by assumption) ?_; simp only [Act.put, List.setIfInBounds_toArray, List.set_cons_zero, List.set_cons_succ]) | fail
            first | (refine wpAnyH_take (i := 8) (v := ?_) (by simp only [List.getElem?_toArray, List.getElem?_cons_zero, List.getElem?_cons_succ]; rfl) (by kernel_rfl) (by kernel_rfl) (by kernel_rfl) (by exact fun _ _ _ h => h) (Or.inl ⟨by rfl, ?_⟩) (by assumption) ?_; rotate_left; (focus (intro w hSw; (try dsimp only at hSw); go_simp; try with_reducible rfl)); simp only [Act.put, List.setIfInBounds_toArray, List.set_cons_zero, List.set_cons_succ]) | (refine wpAnyH_take (i := 8) (v := undef) (by simp only [List.getElem?_toArray, List.getElem?_cons_zero, List.getElem?_cons_succ]; rfl) (by kernel_rfl) (by kernel_rfl) (by kernel_rfl) (by exact fun _ _ _ h => h) (Or.inr ⟨by rfl, rfl⟩) (by assumption) ?_; simp only [Act.put, List.setIfInBounds_toArray, List.set_cons_zero, List.set_cons_succ]) | fail
            first | (refine wpAnyH_take (i := 9) (v := ?_) (by simp only [List.getElem?_toArray, List.getElem?_cons_zero, List.getElem?_cons_succ]; rfl) (by kernel_rfl) (by kernel_rfl) (by kernel_rfl) (by exact fun _ _ _ h => h) (Or.inl ⟨by rfl, ?_⟩) (by assumption) ?_; rotate_left; (focus (intro w hSw; (try dsimp only at hSw); go_simp; try with_reducible rfl)); simp only [Act.put, List.setIfInBounds_toArray, List.set_cons_zero, List.set_cons_succ]) | (refine wpAnyH_take (i := 9) (v := undef) (by simp only [List.getElem?_toArray, List.getElem?_cons_zero, List.getElem?_cons_succ]; rfl) (by kernel_rfl) (by kernel_rfl) (by kernel_rfl) (by exact fun _ _ _ h => h) (Or.inr ⟨by rfl, rfl⟩) (by assumption) ?_; simp only [Act.put, List.setIfInBounds_toArray, List.set_cons_zero, List.set_cons_succ]) | fail
            first | (refine wpAnyH_take (i := 10) (v := ?_) (by simp only [List.getElem?_toArray, List.getElem?_cons_zero, List.getElem?_cons_succ]; rfl) (by kernel_rfl) (by kernel_rfl) (by kernel_rfl) (by exact fun _ _ _ h => h) (Or.inl ⟨by rfl, ?_⟩) (by assumption) ?_; rotate_left; (focus (intro w hSw; (try dsimp only at hSw); go_simp; try with_reducible rfl)); simp only [Act.put, List.setIfInBounds_toArray, List.set_cons_zero, List.set_cons_succ]) | (refine wpAnyH_take (i := 10) (v := undef) (by simp only [List.getElem?_toArray, List.getElem?_cons_zero, List.getElem?_cons_succ]; rfl) (by kernel_rfl) (by kernel_rfl) (by kernel_rfl) (by exact fun _ _ _ h => h) (Or.inr ⟨by rfl, rfl⟩) (by assumption) ?_; simp only [Act.put, List.setIfInBounds_toArray, List.set_cons_zero, List.set_cons_succ]) | fail
            refine wpAnyH_done (by kernel_rfl) ?_ _
            cases hg : (q == p)
            · have hg2 : (q != p) = true := by rw [bne, hg]; rfl
              obtain rfl : r = false := by rw [hall.out, hg]; rfl
              go_wp2_with fail
              go_ret
              exact ⟨rfl, h'.bl⟩
            · have hg2 : (q != p) = false := by rw [bne, hg]; rfl
              rw [hg, Bool.true_and] at hall
              clear hg
              go_wp2_with fail
              exact ⟨⟨j + 1, by omega, by simp, h', hall⟩, by simp [Go.RowKit.intOf]; omega⟩
          · obtain rfl : r = true := by
              rw [hall.out]
              exact allEq_end (by have := hA.out.2.2.1; omega) (by have := hA.out.2.2.2; omega)
            go_wp2_with fail
            go_ret
            exact ⟨rfl, h.bl⟩
end Go.Proofs.Ytecleampjeebaaa
