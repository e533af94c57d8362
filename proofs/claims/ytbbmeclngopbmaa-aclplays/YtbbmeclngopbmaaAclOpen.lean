/-
  LISTS THAT CAME IN: slices of structs of a text and a number, as the walk is told of them; texts.
-/
import Derived.Test.YtbbmeclngopbmaaRows
import Derived.Test.YtbbmeclngopbmaaAclBase
import Derived.WalkKit
import Derived.ProofKit
import Derived.OpenShut
import Derived.ChangeSame
import Derived.Deep.Slices
import Derived.Deep.Strs
import Derived.Lib.SmallJoins
namespace Go.Proofs.Ytbbmeclngopbmaa
open Go.ChangeShapes Go.WideShapes Go.ChangeAt Go.RowKit

theorem pick_list {len : Nat} {p : Nat → Gr → Prop} (h : ∀ i, i < len → ∃ g, p i g) : ∃ l : List Gr, l.length = len ∧ ∀ j g, l[j]? = some g → p j g := by
  by_cases h0 : len = 0
  · subst h0
    exact ⟨[], rfl, fun j g q => by cases q⟩
  have h' : ∀ i, ∃ g, i < len → p i g := fun i => by
    by_cases hi : i < len
    · obtain ⟨g, hg⟩ := h i hi; exact ⟨g, fun _ => hg⟩
    · exact ⟨zGr, fun k => absurd k hi⟩
  obtain ⟨f, hf⟩ := Classical.axiomOfChoice h'
  refine ⟨(List.range len).map f, by simp, fun j g hg => ?_⟩
  have hj : j < len := by
    have := (List.getElem?_eq_some_iff.1 hg).1
    simpa using this
  simp [List.getElem?_range hj] at hg
  subst hg
  exact hf j hj
theorem open_two {H : Type} {enc : TypeId × Value → H} {W : World} {fuel : Nat} {a : Option Addr} {len cap : Nat} {x : DataW H × List MemPlace} {t e : TypeId} {f0 f1 : Field} (ht : Try.prog.underlying t = some (.slice e)) (he : Try.prog.underlying e = some (.struct #[f0, f1])) (ce : Try.prog.cellsOf e = 2) (h0 : f0.type = 9 ∧ f0.offset = 0) (h1 : f1.type = 3 ∧ f1.offset = 1) (h : DataW.trod enc Try.prog W 0 (fun _ => true) true fuel t [.slice a len cap] = some x) :
    ∃ l : List Gr, l.length = len ∧ GAt W a l ∧ (∀ g ∈ l, g.u.size ≤ 9223372036854775807 ∧ (Lit.int .i64 g.m).wf = true) ∧ len ≤ maxLen := by
  rcases Go.Deep.open_slice ht h with ⟨hcs, _⟩ | ⟨ad, l, c, m, n, Dd, Pl, hcs, _, hl, hm, hmm, _, hx⟩
  · simp at hcs
    obtain ⟨rfl, rfl, _⟩ := hcs
    exact ⟨[], rfl, fun j g hg => by simp at hg, by simp, by simp [maxLen]⟩
  · simp at hcs
    obtain ⟨rfl, rfl, rfl⟩ := hcs
    simp only [if_true] at hmm
    have each : ∀ i, i < len → ∃ g : Gr, W.cell? (ad.add (i * 2)) = some (.string g.u) ∧ W.cell? (ad.add (i * 2 + 1)) = some (.int .i64 g.m) ∧ g.u.size ≤ 9223372036854775807 ∧ (Lit.int .i64 g.m).wf = true := by
      intro i hi
      obtain ⟨cs', h2, h3⟩ := hx i (by omega)
      have c9 : Try.prog.cellsOf 9 = 1 := by kernel_rfl
      have c3 : Try.prog.cellsOf 3 = 1 := by kernel_rfl
      rw [ce] at h2
      obtain ⟨_, hlen, hcell⟩ := World.cells?_some h2
      obtain ⟨y0, y1, k, _, _, g0, g1⟩ := trod_struct2 he h3
      match cs', hlen with
      | [v0, v1], _ =>
        rw [h0.1, h0.2, c9] at g0
        rw [h1.1, h1.2, c3] at g1
        simp at g0 g1
        have e0 := hcell 0 (by omega)
        have e1 := hcell 1 (by omega)
        rw [Go.Deep.add_add] at e0 e1
        simp at e0 e1
        obtain ⟨s, q0, _, hs⟩ := DataW.trod_string Try.underlying9 g0
        obtain ⟨nm, q1, _, w1⟩ := DataW.trod_int Try.underlying3 g1
        simp at q0 q1
        subst q0 q1
        exact ⟨⟨s, nm⟩, e0, e1, by simpa [maxLen] using hs, w1⟩
    obtain ⟨L, hL, hp⟩ := pick_list each
    refine ⟨L, hL, fun j g hg => ?_, fun g hg => ?_, by omega⟩
    · obtain ⟨k0, k1, _, _⟩ := hp j g hg
      refine ⟨ad, rfl, k0, ?_⟩
      have : ad.add (j * 2 + 1) = ⟨(ad.add (j * 2)).block, (ad.add (j * 2)).off + 1, none⟩ := by
        unfold Addr.add
        by_cases h : j * 2 = 0 <;> simp [h, Nat.add_assoc]
      rw [← this]
      exact k1
    · obtain ⟨j, hj, rfl⟩ := List.getElem_of_mem hg
      obtain ⟨_, _, k2, k3⟩ := hp j L[j] (List.getElem?_eq_getElem hj)
      exact ⟨k2, k3⟩
end Go.Proofs.Ytbbmeclngopbmaa
