/-
  COUNTS, whatever they are made of: what the laws ask of them; the laws' small functions.
-/
import Derived.Test.YtajondkpdgiolaaQuotaRef
namespace Go.Proofs.Ytajondkpdgiolaa
open Go.RowKit
set_option maxRecDepth 8000
set_option linter.unusedSimpArgs false
set_option linter.unusedVariables false

/-- Nothing has turned but blocks of S. -/
structure Turned (S : List Nat) (w w' : World) : Prop where
  os : w'.os = w.os
  tape : w'.tape = w.tape
  output : w'.output = w.output
  size : w.heap.size ≤ w'.heap.size
  block : ∀ k, k < w.heap.size → k ∉ S → w'.heap[k]? = w.heap[k]?
theorem Turned.below {S : List Nat} {w w' : World} (h : Turned S w w') {B : Nat} (hS : ∀ k ∈ S, B ≤ k) (hB : B ≤ w.heap.size) : Below B w w' :=
  ⟨h.os, h.tape, h.output, h.size, fun k hk => h.block k (by omega) fun q => by have := hS k q; omega⟩
theorem Turned.blk {S : List Nat} {w w' : World} (h : Turned S w w') {g : Nat} {cs : List Value} (hb : BlkL g cs w) (hg : g ∉ S) : BlkL g cs w' := ⟨hb.1.same (h.block g hb.2 hg), Nat.lt_of_lt_of_le hb.2 h.size⟩
theorem Turned.own {α : Type} {S : List Nat} {w w' : World} (h : Turned S w w') {e : TypeId} {sz : Nat} {f : α → List Value} {b : Nat} {v : Value} {l : List α} (ho : OwnR e sz f w b v l) (hb : ∀ k ∈ S, k < b) : OwnR e sz f w' b v l :=
  ho.keep fun k hk => h.block k (ho.lt hk).2 fun q => by have := hb k q; have := (ho.lt hk).1; omega
theorem Turned.own' {α : Type} {S : List Nat} {w w' : World} (h : Turned S w w') {e : TypeId} {sz : Nat} {f : α → List Value} {b : Nat} {v : Value} {l : List α} (ho : OwnR e sz f w b v l) (hb : ∀ k, v.ownBlock = some k → k ∉ S) : OwnR e sz f w' b v l :=
  ho.keep fun k hk => h.block k (ho.lt hk).2 (hb k hk)
theorem Turned.then {S : List Nat} {w w' w'' : World} (h : Turned S w w') (k : Below w'.heap.size w' w'') : Turned S w w'' :=
  ⟨k.os.trans h.os, k.tape.trans h.tape, k.output.trans h.output, Nat.le_trans h.size k.size, fun j hj hn => (k.block j (Nat.lt_of_lt_of_le hj h.size)).trans (h.block j hj hn)⟩
/-- Q w S p ls: at p lie counts of the labels ls, in the blocks S. -/
structure Cnts3 (Q : World → List Nat → Addr → List Lab → Prop) : Prop where
  keep : ∀ {w w' : World} {S : List Nat} {p : Addr} {ls : List Lab}, Q w S p ls → (∀ k ∈ S, w'.heap[k]? = w.heap[k]?) → Q w' S p ls
  lt : ∀ {w : World} {S : List Nat} {p : Addr} {ls : List Lab}, Q w S p ls → ∀ k ∈ S, k < w.heap.size
  new : ∀ w, Calls Try.prog 14 #[] w fun e w' => ∃ p S, e = .returned (.pointer (some p)) ∧ Q w' S p [] ∧ (∀ k ∈ S, w.heap.size ≤ k) ∧ Below w.heap.size w w'
  add : ∀ {S p ls} (x : Lab) (_ : GL x) (w : World), Q w S p ls → ls.length ≤ 1000 → Calls Try.prog 16 #[.pointer (some p), x.v] w fun e w' => e = .returned (.int .i64 ((cntL ls x + 1 : Nat) : Int)) ∧ ∃ S', Q w' S' p (x :: ls) ∧ Turned S w w' ∧ ∀ k ∈ S', k ∈ S ∨ w.heap.size ≤ k
  of_ : ∀ {S p ls} (x : Lab) (_ : GL x) (w : World), Q w S p ls → Calls Try.prog 18 #[.pointer (some p), x.v] w fun e w' => e = .returned (.int .i64 ((cntL ls x : Nat) : Int)) ∧ Below w.heap.size w w'
structure Cnts (Q : World → List Nat → Addr → List Lab → Prop) : Prop extends Cnts3 Q where
  all : ∀ {S p ls} (w : World), Q w S p ls → ls.length ≤ 1000 → Calls Try.prog 19 #[.pointer (some p)] w fun e w' => ∃ v r, e = .returned v ∧ OwnR 25 4 lrow w' w.heap.size v r ∧ SortL r ∧ (∀ x, cntL r x = cntL ls x) ∧ Below w.heap.size w w'
theorem Cnts3.below {Q : World → List Nat → Addr → List Lab → Prop} (C : Cnts3 Q) {w w' : World} {S : List Nat} {p : Addr} {ls : List Lab} (h : Q w S p ls) (b : Below w.heap.size w w') : Q w' S p ls := C.keep h fun k hk => b.block k (C.lt h k hk)
set_option maxRecDepth 8000 in
set_option maxHeartbeats 2000000 in
theorem qknown_any {Q : World → List Nat → Addr → List Lab → Prop} (C : Cnts3 Q) (w : World) : Calls Try.prog 7 #[] w fun e w' => e = .returned (.bool true) ∧ Below w.heap.size w w' := by
  have g0 : GL ⟨0, 0, 0, 0⟩ := by constructor <;> decide
  have g1 : GL ⟨1, 0, 0, 0⟩ := by constructor <;> decide
  have e2 : cntL [⟨0, 0, 0, 0⟩] ⟨0, 0, 0, 0⟩ = 1 := by decide +kernel
  have e3 : cntL [⟨0, 0, 0, 0⟩, ⟨0, 0, 0, 0⟩] ⟨1, 0, 0, 0⟩ = 0 := by decide +kernel
  go_enter Try.func7, Try.ntmps7
  go_wp2_with fail
  refine (C.new w).mono ?_
  rintro e W1 ⟨p, S, rfl, hq1, hS, hB1⟩
  go_wp2_with fail
  refine (C.add ⟨0, 0, 0, 0⟩ g0 W1 hq1 (by simp)).mono ?_
  rintro e W2 ⟨rfl, S2, hq2, hT2, hS2⟩
  have hB2 := hB1.trans (hT2.below hS hB1.size)
  replace hS2 : ∀ k ∈ S2, w.heap.size ≤ k := fun k hk => (hS2 k hk).elim (hS k) (Nat.le_trans hB1.size)
  have ka := C.add ⟨0, 0, 0, 0⟩ g0 W2 hq2 (by simp)
  rw [e2] at ka
  go_wp2_with fail
  refine ka.mono ?_
  rintro e W3 ⟨rfl, S3, hq3, hT3, -⟩
  have hB3 := hB2.trans (hT3.below hS2 hB2.size)
  have ko := C.of_ ⟨1, 0, 0, 0⟩ g1 W3 hq3
  rw [e3] at ko
  clear ka
  go_wp2_with fail
  refine ko.mono ?_
  rintro e W4 ⟨rfl, hB4⟩
  go_wp2_with fail
  go_ret
  exact ⟨rfl, Below.then hB3 hB4⟩
set_option maxHeartbeats 400000 in
theorem w12_any (k m : Int) (h0 : 0 < m) (h1 : m < 1000000) (w : World) :
    Calls Try.prog 21 #[.int .i64 k, .int .i64 m] w fun e w' => e = .returned (.int .i64 (k % m)) ∧ w' = w := by
  have b1 := Int.lt_tmod_of_pos k h0
  have b2 := Int.tmod_lt_of_pos k h0
  have hm0 : ¬ m = 0 := by omega
  have hm1 : ¬ m = -1 := by omega
  by_cases hn : k.tmod m < 0
  · have e1 : k % m = k.tmod m + m := by
      rw [Int.tmod_eq_emod] at hn ⊢
      split at hn
      · have := Int.emod_nonneg k (by omega : m ≠ 0); omega
      · rename_i hc; rw [if_neg hc]; rw [Int.natAbs_of_nonneg (by omega)]; omega
    rw [e1]
    clear e1
    go_enter Try.func21, Try.ntmps21
    go_wp2
    go_ret
    exact ⟨rfl, rfl⟩
  · have e1 : k % m = k.tmod m := by
      rw [Int.tmod_eq_emod] at hn ⊢
      split
      · simp
      · rename_i hc
        rw [if_neg hc] at hn
        have := Int.emod_lt_of_pos k h0
        rw [Int.natAbs_of_nonneg (by omega)] at *
        omega
    rw [e1]
    clear e1
    go_enter Try.func21, Try.ntmps21
    go_wp2
    go_ret
    exact ⟨rfl, rfl⟩
end Go.Proofs.Ytajondkpdgiolaa
