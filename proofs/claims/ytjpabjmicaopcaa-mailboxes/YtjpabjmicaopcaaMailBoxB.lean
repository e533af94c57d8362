/-
  LAW MailBoxes: what its walk wants beside the package's contracts.
-/
import Derived.Test.YtjpabjmicaopcaaMailTake
import Derived.Test.YtjpabjmicaopcaaMailFns
import Derived.Test.YtjpabjmicaopcaaWas
import Derived.Test.YtjpabjmicaopcaaMailOpen
namespace Go.Proofs.Ytjpabjmicaopcaa
open Go.RowKit
set_option maxRecDepth 8000
set_option linter.unusedSimpArgs false
set_option linter.unusedVariables false

theorem intM_load (w : World) (y : Addr) (v : Value) (h : w.cell? y = some v) : (Instr.loadAt 3 (.pointer (some y))).run Try.prog w = .ok v w := by
  have h1 := Try.underlying3
  go_simp
theorem run_neq_msM (x : Msg) (w : World) : (binOp .neq 26 (.agg x.cs.toArray) (.agg x.cs.toArray)).run Try.prog w = .ok (.bool false) w := by
  have h1 := Try.underlying26
  have h2 := Try.underlying24
  unfold Msg.cs
  go_simp
theorem run_eql_msM (x : Msg) (w : World) : (binOp .eql 26 (.agg x.cs.toArray) (.agg x.cs.toArray)).run Try.prog w = .ok (.bool true) w := by
  have h1 := Try.underlying26
  have h2 := Try.underlying24
  unfold Msg.cs
  go_simp
theorem run_neq_lbM (x : Lab) (w : World) : (binOp .neq 24 (.agg (lab4 x).toArray) (.agg (lab4 x).toArray)).run Try.prog w = .ok (.bool false) w := by
  have h := run_neq_lab x x w
  rw [(labEq_iff x x).2 rfl] at h
  exact h
theorem eqs_eqM {s t : ByteArray} (h : eqs s t = true) : s = t := by
  unfold eqs at h
  rw [beq_iff_eq] at h
  rw [toL, toL] at h
  cases s
  cases t
  simp only [ByteArray.mk.injEq]
  exact Array.toList_inj.1 h
theorem inP_self {u : ByteArray} {b : Lab} {m : Msg} (h : inP u b m = true) : m.rc = u ∧ m.box = b := by
  unfold inP at h
  rw [Bool.and_eq_true] at h
  exact ⟨eqs_eqM h.1, (labEq_iff _ _).1 h.2⟩
/-- The n-th of a box, and whether there is one. -/
theorem fnd_in (u : ByteArray) (b : Lab) (n : Int) : ∀ (l : List Msg) (k : Nat), match fndK u b n k l with
    | none => ¬ ((k : Int) + 1 ≤ n ∧ n ≤ (k : Int) + ((l.filter (inP u b)).length : Int))
    | some m => (k : Int) + 1 ≤ n ∧ n ≤ (k : Int) + ((l.filter (inP u b)).length : Int) ∧ (l.filter (inP u b))[(n - 1 - (k : Int)).toNat]? = some m
  | [], k => by
    show ¬ _
    rw [List.filter_nil, List.length_nil]
    omega
  | x :: r, k => by
    rw [fndK, List.filter_cons]
    by_cases hp : inP u b x = true
    · rw [if_pos hp, if_pos hp]
      by_cases hk : (k : Int) + 1 = n
      · rw [if_pos hk]
        refine ⟨by omega, by rw [List.length_cons]; omega, ?_⟩
        rw [show (n - 1 - (k : Int)).toNat = 0 by omega]
        rfl
      · rw [if_neg hk]
        have h := fnd_in u b n r (k + 1)
        cases ho : fndK u b n (k + 1) r with
        | none =>
          rw [ho] at h
          show ¬ _
          replace h : ¬ (((k + 1 : Nat) : Int) + 1 ≤ n ∧ n ≤ ((k + 1 : Nat) : Int) + ((r.filter (inP u b)).length : Int)) := h
          rw [List.length_cons]
          omega
        | some m =>
          rw [ho] at h
          obtain ⟨h1, h2, h3⟩ := h
          refine ⟨by omega, by rw [List.length_cons]; omega, ?_⟩
          rw [show (n - 1 - (k : Int)).toNat = (n - 1 - ((k + 1 : Nat) : Int)).toNat + 1 by omega]
          exact h3
    · rw [if_neg hp, if_neg hp]
      exact fnd_in u b n r k
def tkL (u : ByteArray) (b : Lab) (n : Int) (l : List Msg) : List Msg := match fndK u b n 0 l with
  | none => []
  | some _ => remK u b n 0 l
def tkM (u : ByteArray) (b : Lab) (n : Int) (l : List Msg) : Msg := (fndK u b n 0 l).getD zeroM
def tkE (u : ByteArray) (b : Lab) (n : Int) (l : List Msg) : Int := if (fndK u b n 0 l).isSome then 0 else 2
theorem tk_len (u : ByteArray) (b : Lab) (n : Int) (l : List Msg) : (tkL u b n l).length ≤ l.length := by
  unfold tkL
  split
  · exact Nat.zero_le _
  · exact rem_len u b n l 0
theorem TakeR.flat {u : ByteArray} {b : Lab} {n : Int} {l : List Msg} {w w' : World} {e : Ending} (h : TakeR u b n l w e w') : ∃ v, e = .returned (.tuple #[v, .agg (tkM u b n l).cs.toArray, .int .i64 (tkE u b n l)]) ∧ OwnR 26 11 Msg.cs w' w.heap.size v (tkL u b n l) ∧ Below w.heap.size w w' := by
  unfold TakeR at h
  unfold tkM tkE tkL
  obtain ⟨hB, h⟩ := h
  cases ho : fndK u b n 0 l with
  | none =>
    rw [ho] at h
    exact ⟨_, h, OwnR.nil _ _ _ _ _, hB⟩
  | some m =>
    rw [ho] at h
    obtain ⟨v, h1, h2⟩ := h
    exact ⟨v, h1, h2, hB⟩
theorem ptake_flat (a : Option Addr) (cap : Nat) (l : List Msg) (u : ByteArray) (b : Lab) (j : Int) (hl : l.length ≤ 1000) (hcap : l.length ≤ cap) (w : World) (h : RowAt 11 Msg.cs w a l) :
    Calls Try.prog 23 #[.slice a l.length cap, .string u, .agg (lab4 b).toArray, .int .i64 j] w fun e w' => ∃ v, e = .returned (.tuple #[v, .agg (tkM u b j l).cs.toArray, .int .i64 (tkE u b j l)]) ∧ OwnR 26 11 Msg.cs w' w.heap.size v (tkL u b j l) ∧ Below w.heap.size w w' := (ptake_any a cap l u b j hl hcap w h).mono fun _ _ q => q.flat
theorem rtake_flat (a : Option Addr) (cap : Nat) (l : List Msg) (u : ByteArray) (b : Lab) (j : Int) (hl : l.length ≤ 100000) (w : World) (h : RowAt 11 Msg.cs w a l) :
    Calls Try.prog 24 #[.slice a l.length cap, .string u, .agg (lab4 b).toArray, .int .i64 j] w fun e w' => ∃ v, e = .returned (.tuple #[v, .agg (tkM u b j l).cs.toArray, .int .i64 (tkE u b j l)]) ∧ OwnR 26 11 Msg.cs w' w.heap.size v (tkL u b j l) ∧ Below w.heap.size w w' := (rtake_any a cap l u b j hl w h).mono fun _ _ q => q.flat
/-! Numbers that came in, in a row. -/
def icell (x : Int) : List Value := [.int .i64 x]
theorem ic_lenM (x : Int) : (icell x).length = 1 := rfl
section
open Go.ChangeShapes Go.WideShapes Go.ChangeAt
variable {H : Type} {enc : TypeId × Value → H} {W : World}
theorem reads_ic {base : Nat} {sp : Nat → Bool} {held : Bool} : Reads enc W base sp held 3 fun cs => ∃ x : Int, cs = icell x ∧ (-9223372036854775808 ≤ x ∧ x ≤ 9223372036854775807) := fun n cs x h => by
  obtain ⟨m, e, hw⟩ := reads_int Try.underlying3 n cs x h
  exact ⟨m, e, int_fits hw⟩
theorem open_is {n : Nat} {a : Option Addr} {len cap : Nat} {x : DataW H × List MemPlace} (h : DataW.trod enc Try.prog W 0 (fun _ => true) true n 47 [.slice a len cap] = some x) : ∃ l : List Int, l.length = len ∧ RowAt 1 icell W a l ∧ ∀ q ∈ l, -9223372036854775808 ≤ q ∧ q ≤ 9223372036854775807 := by
  obtain ⟨l, hl, hc, hf, _⟩ := open_rows (f := icell) (q := fun q => -9223372036854775808 ≤ q ∧ q ≤ 9223372036854775807) Try.underlying47 cInt reads_ic h
  exact ⟨l, hl, hc, hf⟩
end
end Go.Proofs.Ytjpabjmicaopcaa
