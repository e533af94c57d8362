/-
  WHAT THE LAWS OF CHAPTER 15 ASK OF PACKAGE isa, whatever it is made of; the laws' small functions.
-/
import Derived.Test.YtolccbdogfmcaaaDoorIsaRef

namespace Go.Proofs.YtolccbdogfmcaaaDoor
open Go.RowKit
set_option maxRecDepth 8000
set_option linter.unusedSimpArgs false
set_option linter.unusedVariables false

section
variable {ops : Array Oper} {o : Oper} {a : Act} {S : World → Prop}
theorem yields_cellI {T : TypeId} (hw : Region.wanted o (yielded ops a.tmps) = true) (x : Operand) (ho : o.op = .load T x) (y : Addr) (hx : a.eval x = .pointer (some y)) (v : Value) (hS : ∀ w, S w → w.cell? y = some v) (hl : ∀ w y v, w.cell? y = some v → (Instr.loadAt T (.pointer (some y))).run Tryd.prog w = .ok v w) : YieldsIf Tryd.prog ops S o v a :=
  .inl ⟨hw, fun w hw' => by
    unfold execOp
    simp only [ho, hx, Sem.run_bind, hl w y v (hS w hw'), Result.andThen_ok]
    rfl⟩
end
theorem intI_load (w : World) (y : Addr) (v : Value) (h : w.cell? y = some v) : (Instr.loadAt 3 (.pointer (some y))).run Tryd.prog w = .ok v w := by
  have h1 := Tryd.underlying3
  go_simp
/-- What a text is read as: the instruction whose text it is, or none. -/
def ParR (s : ByteArray) (j : Ins) (f : Int) : Prop := (f = 0 ∧ IsT s j) ∨ (f = 6 ∧ j = ⟨0, 0, 0⟩ ∧ ∀ i, ¬ IsT s i)
theorem ParR.same {s : ByteArray} {j k : Ins} {f g : Int} (h : ParR s j f) (h2 : ParR s k g) : j = k ∧ f = g := by
  rcases h with ⟨rfl, h⟩ | ⟨rfl, rfl, h⟩
  · rcases h2 with ⟨rfl, h2⟩ | ⟨rfl, rfl, h2⟩
    · exact ⟨h.uniq h2, rfl⟩
    · exact absurd h (h2 j)
  · rcases h2 with ⟨rfl, h2⟩ | ⟨rfl, rfl, h2⟩
    · exact absurd h2 (h k)
    · exact ⟨rfl, rfl⟩
theorem ParR.of {s : ByteArray} {i j : Ins} {f : Int} (h : ParR s j f) (hi : IsT s i) : j = i ∧ f = 0 := h.same (.inl ⟨rfl, hi⟩)
theorem ParR.bad {s : ByteArray} {j : Ins} {f : Int} (h : ParR s j f) (hn : ∀ i, ¬ IsT s i) : f = 6 := by
  rcases h with ⟨rfl, h⟩ | ⟨rfl, rfl, h⟩
  · exact absurd h (hn j)
  · rfl
theorem ins3_one (i : Ins) : ∀ v ∈ ins3 i, v.oneCell' = true := fun v hv => by simp [ins3] at hv; rcases hv with rfl | rfl | rfl <;> rfl
/-- A box of one's own, put anew. -/
theorem put_box {W : World} {g : Nat} {i : Ins} (h : BlkL g (ins3 i) W) (j : Ins) : ∃ W', W.setCells g 0 (ins3 j) = W' ∧ W.there g 0 (ins3 j).length ∧ BlkL g (ins3 j) W' ∧ ∀ B W0, B ≤ g → Below B W0 W → Below B W0 W' := by
  have h1 : Blk (W.setCells g 0 (ins3 j)) g (ins3 j) := h.1.setAll rfl
  exact ⟨_, rfl, h.1.there, ⟨h1, h1.lt rfl⟩, fun B W0 hB h => Below.cells hB _ 0 h⟩
def fit64 (x : Int) : Prop := -9223372036854775808 ≤ x ∧ x ≤ 9223372036854775807
theorem insW_fit (i : Ins) : fit64 (insW i) := by
  have := insW_range (i := i)
  unfold fit64
  omega
theorem ptrW_fit (p : Ptr) : fit64 (ptrW p) := by
  unfold fit64 ptrW
  omega
/-- I w: what the calls lean on of the library's variables. -/
structure IsaOk (I : World → Prop) : Prop where
  enc : ∀ (i : Ins) (w : World), I w → Calls Tryd.prog 13 #[i.v] w fun e w' => e = .returned (.tuple #[.int .i64 (insW i), .int .i64 (insE i)]) ∧ Below w.heap.size w w'
  text : ∀ (i : Ins) (_ : insE i = 0) (w : World), I w → Calls Tryd.prog 8 #[i.v] w fun e w' => e = .returned (.string (insB i)) ∧ Below w.heap.size w w'
  parse : ∀ (s : ByteArray) (_ : s.size ≤ 1000) (w : World), I w → Calls Tryd.prog 9 #[.string s] w fun e w' => ∃ j f, e = .returned (.tuple #[j.v, .int .i64 f]) ∧ ParR s j f ∧ Below w.heap.size w w'
set_option maxHeartbeats 1000000 in
theorem iknown_any {I : World → Prop} (C : IsaOk I) (w : World) (hI : I w) : Calls Tryd.prog 6 #[] w fun e w' => e = .returned (.bool true) ∧ Below w.heap.size w w' := by
  have ke := C.enc ⟨1, 1, -1⟩ w hI
  have h1 : insW ⟨1, 1, -1⟩ = 72339073309605887 := by decide +kernel
  have h2 : insE ⟨1, 1, -1⟩ = 0 := by decide +kernel
  rw [h1, h2] at ke
  go_enter Tryd.func6, Tryd.ntmps6
  go_wp2_with fail
  refine ke.mono ?_
  rintro e W1 ⟨rfl, hB⟩
  go_wp2_with fail
  go_ret
  exact ⟨rfl, hB⟩
set_option maxHeartbeats 400000 in
theorem w15_any (k m : Int) (h0 : 0 < m) (h1 : m < 1000000000000) (w : World) :
    Calls Tryd.prog 12 #[.int .i64 k, .int .i64 m] w fun e w' => e = .returned (.int .i64 (k % m)) ∧ w' = w := by
  have b1 := Int.lt_tmod_of_pos k h0
  have b2 := Int.tmod_lt_of_pos k h0
  have hm0 : ¬ m = 0 := by omega
  have hm1 : ¬ m = -1 := by omega
  by_cases hn : k.tmod m < 0
  · have e1 : k % m = k.tmod m + m := by
      rw [Int.tmod_eq_emod] at hn ⊢
      split at hn
      · have := Int.emod_nonneg k (by omega : m ≠ 0); omega
      · rename_i hc; rw [if_neg hc]; rw [Int.natAbs_of_nonneg (by omega)]; omega
    rw [e1]
    clear e1
    go_enter Tryd.func12, Tryd.ntmps12
    go_wp2
    go_ret
    exact ⟨rfl, rfl⟩
  · have e1 : k % m = k.tmod m := by
      rw [Int.tmod_eq_emod] at hn ⊢
      split
      · simp
      · rename_i hc
        rw [if_neg hc] at hn
        have := Int.emod_lt_of_pos k h0
        rw [Int.natAbs_of_nonneg (by omega)] at *
        omega
    rw [e1]
    clear e1
    go_enter Tryd.func12, Tryd.ntmps12
    go_wp2
    go_ret
    exact ⟨rfl, rfl⟩
set_option maxHeartbeats 2000000 in
theorem igood_any (i : Ins) (w : World) : Calls Tryd.prog 7 #[i.v] w fun e w' => e = .returned (goodI i).v ∧ Below w.heap.size w w' := by
  have hw : IntKind.i64.wrap (i.n % 4294967296 - 2147483648) = i.n % 4294967296 - 2147483648 := by rw [IntKind.wrap_i64]; omega
  go_enter Tryd.func7, Tryd.ntmps7
  go_wp2_with fail
  go_region_held (fun W => W.cell? ⟨w.heap.size, 0, none⟩ = some (.int .i64 i.o) ∧ W.cell? ⟨w.heap.size, 1, none⟩ = some (.int .i64 i.p) ∧ W.cell? ⟨w.heap.size, 2, none⟩ = some (.int .i64 i.n)) (go_keep)
    (first | (go_at_call 12; refine (w15_any _ _ (by decide) (by decide) _).mono ?_; rintro e w' ⟨rfl, rfl⟩) | fail)
  go_wp2
  exact bodyPost_ret (v := (goodI i).v) (by simp [results, Tryd.results7, go_sem, goodI, hw]) rfl ⟨rfl, (below2 _ _ _).drew⟩
def insQ (x y : Ins) : Bool := x.o == y.o && (x.p == y.p && x.n == y.n)
theorem insQ_self (x : Ins) : insQ x x = true := by simp [insQ]
theorem run_eql_ins (x y : Ins) (w : World) : (binOp .eql 23 x.v y.v).run Tryd.prog w = .ok (.bool (insQ x y)) w := by
  have h1 := Tryd.underlying23
  unfold insQ
  go_simp
  repeat' split
  all_goals simp_all
theorem run_neq_ins (x y : Ins) (w : World) : (binOp .neq 23 x.v y.v).run Tryd.prog w = .ok (.bool (!insQ x y)) w := by
  have h1 := Tryd.underlying23
  unfold insQ
  go_simp
  repeat' split
  all_goals simp_all
def ptrQ (x y : Ptr) : Bool := x.s == y.s && (x.f == y.f && x.r == y.r)
theorem ptrQ_self (x : Ptr) : ptrQ x x = true := by simp [ptrQ]
end Go.Proofs.YtolccbdogfmcaaaDoor
