/-
  GROUPS THAT CAME IN: a slice of structs of numbers, bytes and bytes, as the walk is told of it; and bools.
-/
import Derived.Test.YtgjnlocokkjejaaRows
import Derived.Test.YtgjnlocokkjejaaWalHolds
import Derived.WalkKit
import Derived.ProofKit
import Derived.OpenShut
import Derived.Deep.Slices
import Derived.Deep.Strs
import Derived.Lib.SmallJoins
namespace Go.Proofs.Ytgjnlocokkjejaa
open Go.ChangeShapes Go.WideShapes Go.ChangeAt Go.RowKit

/-- One group. -/
def GroupAt (w : World) (x : Addr) (i : Nat) : Prop :=
  ∃ (na fa ra : Option Addr) (nl nc fl fc rl rc : Nat) (Ns Fs R : List Int),
    w.cell? (x.add (i * 3)) = some (.slice na nl nc) ∧ w.cell? (x.add (i * 3 + 1)) = some (.slice fa fl fc) ∧ w.cell? (x.add (i * 3 + 2)) = some (.slice ra rl rc) ∧
    NumsAt w na nl Ns ∧ RawAt w fa fl Fs ∧ RawAt w ra rl R ∧ nl ≤ maxLen ∧ fl ≤ maxLen ∧ rl ≤ maxLen
def GroupsAt (w : World) (a : Option Addr) (len : Nat) : Prop := (a = none ∧ len = 0) ∨ ∃ x, a = some x ∧ len ≤ maxLen ∧ ∀ i, i < len → GroupAt w x i

theorem u8_ok {n : Int} (h : (Lit.int .u8 n).wf = true) : 0 ≤ n ∧ n < 256 := by
  have h2 : (decide (IntKind.u8.min ≤ n) && decide (n ≤ IntKind.u8.max)) = true := h
  have e1 : IntKind.u8.min = 0 := by decide
  have e2 : IntKind.u8.max = 255 := by decide
  rw [e1, e2] at h2
  simp at h2
  omega
theorem raw_of {w : World} {x : Addr} {l c : Nat} {zs : List Int} (hl : l ≤ c) (hz : zs.length = c) (hcell : ∀ i, i < zs.length → w.cell? (x.add i) = some (.int .u8 (zs.getD i 0))) (hw : ∀ n ∈ zs, (Lit.int .u8 n).wf = true) : RawAt w (some x) l (zs.take l) :=
  ⟨by simp; omega, fun y hy => u8_ok (hw y (List.mem_of_mem_take hy)), fun _ => ⟨x, rfl, fun j hj => by
    rw [hcell j (by omega)]
    simp [List.getD, hj]⟩⟩
theorem nums_of {w : World} {x : Addr} {l c : Nat} {zs : List Int} (hl : l ≤ c) (hz : zs.length = c) (hcell : ∀ i, i < zs.length → w.cell? (x.add i) = some (.int .i64 (zs.getD i 0))) : NumsAt w (some x) l (zs.take l) :=
  ⟨by simp; omega, fun _ => ⟨x, rfl, fun j hj => by
    rw [hcell j (by omega)]
    simp [List.getD, hj]⟩⟩

set_option maxRecDepth 8000 in
theorem open_groups {H : Type} {enc : TypeId × Value → H} {W : World} {fuel : Nat} {a : Option Addr} {len cap : Nat} {x : DataW H × List MemPlace} (h : DataW.trod enc Try.prog W 0 (fun _ => true) true fuel 52 [.slice a len cap] = some x) : GroupsAt W a len := by
  rcases Go.Deep.open_slice Try.underlying52 h with ⟨hcs, _⟩ | ⟨ad, l, c, m, n, Dd, Pl, hcs, _, hl, hm, hmm, _, hx⟩
  · simp at hcs
    obtain ⟨rfl, rfl, _⟩ := hcs
    exact .inl ⟨rfl, rfl⟩
  · simp at hcs
    obtain ⟨rfl, rfl, rfl⟩ := hcs
    simp only [if_true] at hmm
    refine .inr ⟨ad, rfl, by omega, fun i hi => ?_⟩
    obtain ⟨cs', h1, h2⟩ := hx i (by omega)
    have ce : Try.prog.cellsOf 60 = 3 := by kernel_rfl
    have c31 : Try.prog.cellsOf 31 = 1 := by kernel_rfl
    have c32 : Try.prog.cellsOf 32 = 1 := by kernel_rfl
    rw [ce] at h1
    obtain ⟨_, hlen, hcell⟩ := World.cells?_some h1
    obtain ⟨y0, y1, y2, k, _, _, g0, g1, g2⟩ := Go.Deep.trod_struct3 Try.underlying60 h2
    match cs', hlen with
    | [v0, v1, v2], _ =>
      simp [c31, c32] at g0 g1 g2
      have e0 := hcell 0 (by omega)
      have e1 := hcell 1 (by omega)
      have e2 := hcell 2 (by omega)
      rw [Go.Deep.add_add] at e0 e1 e2
      simp at e0 e1 e2
      have bytes : ∀ {v : Value} {k : Nat} {y}, DataW.trod enc Try.prog W 0 (fun _ => true) true k 31 [v] = some y → ∃ ba bl bc z, v = .slice ba bl bc ∧ RawAt W ba bl z ∧ bl ≤ maxLen := by
        intro v k y hg
        rcases open_ints Try.underlying31 Try.underlying5 (by kernel_rfl) hg with ⟨hcs, _⟩ | ⟨x, l, c, zs, hcs, _, hl, hm, hz, _, hcell, hwz⟩
        · simp at hcs
          exact ⟨none, 0, 0, [], hcs, ⟨rfl, by simp, fun h => absurd h (by decide)⟩, by omega⟩
        · simp at hcs
          exact ⟨some x, l, c, _, hcs, raw_of hl (by simpa using hz) hcell hwz, by omega⟩
      obtain ⟨na, nl, nc, Ns, rfl, hN, hn⟩ : ∃ na nl nc Ns, v0 = .slice na nl nc ∧ NumsAt W na nl Ns ∧ nl ≤ maxLen := by
        rcases open_ints Try.underlying32 Try.underlying3 (by kernel_rfl) g0 with ⟨hcs, _⟩ | ⟨x, l, c, zs, hcs, _, hl, hm, hz, _, hcell, hwz⟩
        · simp at hcs
          exact ⟨none, 0, 0, [], hcs, ⟨rfl, fun h => absurd h (by decide)⟩, by omega⟩
        · simp at hcs
          exact ⟨some x, l, c, _, hcs, nums_of hl (by simpa using hz) hcell, by omega⟩
      obtain ⟨fa, fl, fc, Fs, rfl, hF, hf⟩ := bytes g1
      obtain ⟨ra, rl, rc, R, rfl, hR, hr⟩ := bytes g2
      exact ⟨na, fa, ra, nl, nc, fl, fc, rl, rc, Ns, Fs, R, e0, e1, e2, hN, hF, hR, hn, hf, hr⟩
end Go.Proofs.Ytgjnlocokkjejaa
