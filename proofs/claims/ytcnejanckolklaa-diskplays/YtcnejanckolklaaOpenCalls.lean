/-
  CALLS THAT CAME IN: a slice of structs of two numbers, bytes and numbers, as the walk is told of it.
-/
import Derived.Test.YtcnejanckolklaaRows
import Derived.Test.YtcnejanckolklaaLastBase
import Derived.WalkKit
import Derived.ProofKit
import Derived.OpenShut
import Derived.Deep.Slices
import Derived.Lib.SmallJoins
namespace Go.Proofs.Ytcnejanckolklaa
open Go.ChangeShapes Go.WideShapes Go.ChangeAt Go.RowKit

def IsInts (w : World) (a : Option Addr) (len cap : Nat) (zs : List Int) : Prop :=
  (a = none ∧ len = 0 ∧ cap = 0 ∧ zs = []) ∨
  ∃ x, a = some x ∧ len ≤ cap ∧ cap ≤ maxLen ∧ zs.length = cap ∧ (∀ i, i < zs.length → w.cell? (x.add i) = some (.int .i64 (zs.getD i 0))) ∧ ∀ n ∈ zs, (Lit.int .i64 n).wf = true

/-- One call of the law's row. -/
def CallAt (w : World) (x : Addr) (i : Nat) : Prop :=
  ∃ (kind n : Int) (ba : Option Addr) (bl bc : Nat) (z : List Int) (pa : Option Addr) (pn pc : Nat) (q : List Int),
    w.cell? (x.add (i * 4)) = some (.int .i64 kind) ∧ w.cell? (x.add (i * 4 + 1)) = some (.int .i64 n) ∧ w.cell? (x.add (i * 4 + 2)) = some (.slice ba bl bc) ∧ w.cell? (x.add (i * 4 + 3)) = some (.slice pa pn pc) ∧
    (Lit.int .i64 kind).wf = true ∧ (Lit.int .i64 n).wf = true ∧ IsBytes w ba bl bc z ∧ IsInts w pa pn pc q

def CallsAt (w : World) (a : Option Addr) (len : Nat) : Prop := (a = none ∧ len = 0) ∨ ∃ x, a = some x ∧ len ≤ maxLen ∧ ∀ i, i < len → CallAt w x i

theorem open_calls {H : Type} {enc : TypeId × Value → H} {W : World} {fuel : Nat} {a : Option Addr} {len cap : Nat} {x : DataW H × List MemPlace} (h : DataW.trod enc Try.prog W 0 (fun _ => true) true fuel 22 [.slice a len cap] = some x) : CallsAt W a len := by
  rcases Go.Deep.open_slice Try.underlying22 h with ⟨hcs, _⟩ | ⟨ad, l, c, m, n, Dd, Pl, hcs, _, hl, hm, hmm, _, hx⟩
  · simp at hcs
    obtain ⟨rfl, rfl, _⟩ := hcs
    exact .inl ⟨rfl, rfl⟩
  · simp at hcs
    obtain ⟨rfl, rfl, rfl⟩ := hcs
    simp only [if_true] at hmm
    refine .inr ⟨ad, rfl, by omega, fun i hi => ?_⟩
    obtain ⟨cs', h1, h2⟩ := hx i (by omega)
    have ce : Try.prog.cellsOf 34 = 4 := by kernel_rfl
    have c3 : Try.prog.cellsOf 3 = 1 := by kernel_rfl
    have c31 : Try.prog.cellsOf 31 = 1 := by kernel_rfl
    have c32 : Try.prog.cellsOf 32 = 1 := by kernel_rfl
    rw [ce] at h1
    obtain ⟨_, hlen, hcell⟩ := World.cells?_some h1
    obtain ⟨y0, y1, y2, y3, k, _, _, g0, g1, g2, g3⟩ := Go.Joins.trod_struct4 Try.underlying34 h2
    match cs', hlen with
    | [v0, v1, v2, v3], _ =>
      simp [c3, c31, c32] at g0 g1 g2 g3
      have e0 := hcell 0 (by omega)
      have e1 := hcell 1 (by omega)
      have e2 := hcell 2 (by omega)
      have e3 := hcell 3 (by omega)
      rw [Go.Deep.add_add] at e0 e1 e2 e3
      obtain ⟨kd, q0, _, w0⟩ := DataW.trod_int Try.underlying3 g0
      obtain ⟨nm, q1, _, w1⟩ := DataW.trod_int Try.underlying3 g1
      simp at q0 q1 e0 e1 e2 e3
      subst q0 q1
      obtain ⟨ba, bl, bc, z, rfl, hB⟩ : ∃ ba bl bc z, v2 = .slice ba bl bc ∧ IsBytes W ba bl bc z := by
        rcases open_ints Try.underlying31 Try.underlying5 (by kernel_rfl) g2 with ⟨hcs, _⟩ | ⟨x, l, c, zs, hcs, _, hl, hm, hz, _, hcell, hwz⟩
        · simp at hcs
          exact ⟨none, 0, 0, [], hcs, .inl ⟨rfl, rfl, rfl, rfl⟩⟩
        · simp at hcs
          exact ⟨some x, l, c, zs, hcs, .inr ⟨_, rfl, hl, hm, by simpa using hz, hcell, hwz⟩⟩
      obtain ⟨pa, pn, pc, q, rfl, hQ⟩ : ∃ pa pn pc q, v3 = .slice pa pn pc ∧ IsInts W pa pn pc q := by
        rcases open_ints Try.underlying32 Try.underlying3 (by kernel_rfl) g3 with ⟨hcs, _⟩ | ⟨x, l, c, zs, hcs, _, hl, hm, hz, _, hcell, hwz⟩
        · simp at hcs
          exact ⟨none, 0, 0, [], hcs, .inl ⟨rfl, rfl, rfl, rfl⟩⟩
        · simp at hcs
          exact ⟨some x, l, c, zs, hcs, .inr ⟨_, rfl, hl, hm, by simpa using hz, hcell, hwz⟩⟩
      exact ⟨kd, nm, ba, bl, bc, z, pa, pn, pc, q, e0, e1, e2, e3, w0, w1, hB, hQ⟩
end Go.Proofs.Ytcnejanckolklaa
