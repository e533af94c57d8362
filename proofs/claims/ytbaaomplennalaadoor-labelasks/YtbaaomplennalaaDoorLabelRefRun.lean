/-
  THE DOCUMENT's OWN Parse, AS A PLAIN FUNCTION; it reads what the program's Parse reads.
-/
import Derived.Test.YtbaaomplennalaaDoorLabelRefText
namespace Go.Proofs.YtbaaomplennalaaDoor
open Go.RowKit

/-- Which number, how many digits of it, the numbers. -/
structure PS where
  k : Nat
  d : Nat
  v : Nat → Int
def upd (v : Nat → Int) (k : Nat) (x : Int) : Nat → Int := fun j => if j = k then x else v j
def stepP (p : PS) (b : Nat) : Option PS :=
  if b = 46 ∧ p.k < 3 then some ⟨p.k + 1, 0, p.v⟩
  else if 48 ≤ b ∧ b ≤ 57 ∧ p.d < 3 then some ⟨p.k, p.d + 1, upd p.v p.k (10 * p.v p.k + ((b : Int) - 48))⟩
  else none
def runP : List UInt8 → PS → Option PS
  | [], p => some p
  | b :: l, p => match stepP p b.toNat with | some p' => runP l p' | none => none
def startP : PS := ⟨0, 0, fun _ => 0⟩
def labP (p : PS) : Lab := ⟨p.v 0, p.v 1, p.v 2, p.v 3⟩
def rparseL (s : ByteArray) : Option Lab :=
  match runP s.data.toList startP with
  | some p => if okL (labP p) = true ∧ (⟨(textL (labP p)).toArray⟩ : ByteArray) = s then some (labP p) else none
  | none => none

theorem run_append (x y : List UInt8) (p : PS) : runP (x ++ y) p = (runP x p).bind (runP y) := by
  induction x generalizing p with
  | nil => rfl
  | cons b l ih =>
    rw [List.cons_append]
    unfold runP
    cases stepP p b.toNat with
    | none => rfl
    | some p' => exact ih p'
theorem upd_upd (v : Nat → Int) (k : Nat) (x y : Int) : upd (upd v k x) k y = upd v k y := by
  funext j; unfold upd; split <;> rfl
theorem upd_at (v : Nat → Int) (k : Nat) (x : Int) : upd v k x k = x := by simp [upd]
theorem byte_of (n : Int) (h0 : 0 ≤ n) (h1 : n < 10) : (UInt8.ofNat (48 + n).toNat).toNat = 48 + n.toNat := by simp; omega
theorem step_digit (k d : Nat) (v : Nat → Int) (n : Int) (h0 : 0 ≤ n) (h1 : n < 10) (hd : d < 3) : stepP ⟨k, d, v⟩ (UInt8.ofNat (48 + n).toNat).toNat = some ⟨k, d + 1, upd v k (10 * v k + n)⟩ := by
  rw [byte_of n h0 h1]
  unfold stepP
  rw [if_neg (by intro h; omega), if_pos ⟨by omega, by omega, hd⟩]
  simp only [Option.some.injEq, PS.mk.injEq, true_and]
  congr 2; omega
theorem run_one (k d : Nat) (v : Nat → Int) (n : Int) (h0 : 0 ≤ n) (h1 : n < 10) (hd : d < 3) : runP (Lib.itoa n) ⟨k, d, v⟩ = some ⟨k, d + 1, upd v k (10 * v k + n)⟩ := by
  rw [itoa_low n h0 h1]
  show (match stepP ⟨k, d, v⟩ (UInt8.ofNat (48 + n).toNat).toNat with | some p' => runP [] p' | none => none) = _
  rw [step_digit k d v n h0 h1 hd]
  rfl
theorem run_num (k : Nat) (v : Nat → Int) (hv : v k = 0) (n : Int) (h0 : 0 ≤ n) (h1 : n ≤ 255) : ∃ d, runP (Lib.itoa n) ⟨k, 0, v⟩ = some ⟨k, d, upd v k n⟩ := by
  by_cases a : n < 10
  · exact ⟨1, by rw [run_one k 0 v n h0 a (by decide), hv]; simp⟩
  · by_cases b : n < 100
    · refine ⟨2, ?_⟩
      rw [itoa_next n (by omega), run_append, run_one k 0 v (n / 10) (by omega) (by omega) (by decide), hv]
      simp only [Option.bind_some]
      rw [run_one k 1 _ (n % 10) (by omega) (by omega) (by decide), upd_at, upd_upd]
      congr 3; omega
    · refine ⟨3, ?_⟩
      rw [itoa_next n (by omega), itoa_next (n / 10) (by omega), run_append, run_append, run_one k 0 v (n / 10 / 10) (by omega) (by omega) (by decide), hv]
      simp only [Option.bind_some]
      rw [run_one k 1 _ (n / 10 % 10) (by omega) (by omega) (by decide), upd_at, upd_upd]
      simp only [Option.bind_some]
      rw [run_one k 2 _ (n % 10) (by omega) (by omega) (by decide), upd_at, upd_upd]
      congr 3; omega
theorem run_dot (k d : Nat) (v : Nat → Int) (l : List UInt8) (hk : k < 3) : runP (46 :: l) ⟨k, d, v⟩ = runP l ⟨k + 1, 0, v⟩ := by
  show (match stepP ⟨k, d, v⟩ (46 : UInt8).toNat with | some p' => runP l p' | none => none) = _
  have : stepP ⟨k, d, v⟩ (46 : UInt8).toNat = some ⟨k + 1, 0, v⟩ := by
    unfold stepP
    rw [if_pos ⟨rfl, hk⟩]
  rw [this]
theorem run_text {l : Lab} (h : GL l) : ∃ d, runP (textL l) startP = some ⟨3, d, upd (upd (upd (upd (fun _ => 0) 0 l.s) 1 l.c) 2 l.i) 3 l.k⟩ := by
  obtain ⟨x0, x1, x2, x3, x4, x5, x6, x7⟩ := h
  obtain ⟨d0, e0⟩ := run_num 0 (fun _ => 0) rfl l.s x0 (by omega)
  obtain ⟨d1, e1⟩ := run_num 1 (upd (fun _ => 0) 0 l.s) (by simp [upd]) l.c x2 x3
  obtain ⟨d2, e2⟩ := run_num 2 (upd (upd (fun _ => 0) 0 l.s) 1 l.c) (by simp [upd]) l.i x4 (by omega)
  obtain ⟨d3, e3⟩ := run_num 3 (upd (upd (upd (fun _ => 0) 0 l.s) 1 l.c) 2 l.i) (by simp [upd]) l.k x6 x7
  refine ⟨d3, ?_⟩
  rw [text_shape, run_append, startP, e0]
  simp only [Option.bind_some]
  rw [run_dot 0 d0 _ _ (by decide), run_append, e1]
  simp only [Option.bind_some]
  rw [run_dot 1 d1 _ _ (by decide), run_append, e2]
  simp only [Option.bind_some]
  rw [run_dot 2 d2 _ _ (by decide), e3]
theorem rparse_eq (s : ByteArray) : rparseL s = parseL s := by
  have h1 : ∀ l, rparseL s = some l → parseL s = some l := fun l h => by
    unfold rparseL at h
    split at h
    · split at h
      · rename_i hc
        cases h
        rw [← hc.2]
        exact parse_text (ok_GL _ hc.1)
      · cases h
    · cases h
  have h2 : ∀ l, parseL s = some l → rparseL s = some l := fun l h => by
    obtain ⟨g, ht⟩ := parse_back h
    obtain ⟨d, e⟩ := run_text g
    have hd : s.data.toList = textL l := by rw [← ht]
    unfold rparseL
    rw [hd, e]
    have hl : labP ⟨3, d, upd (upd (upd (upd (fun _ => 0) 0 l.s) 1 l.c) 2 l.i) 3 l.k⟩ = l := by cases l; simp [labP, upd]
    simp only [hl]
    have ho : okL l = true := by
      obtain ⟨a, b, c, d, e, f, g, i⟩ := g
      simp only [okL, inB, Bool.and_eq_true, decide_eq_true_eq]; exact ⟨⟨⟨⟨a, b⟩, c, d⟩, e, f⟩, g, i⟩
    rw [if_pos ⟨ho, ht⟩]
  cases h : parseL s with
  | some l => exact h2 l h
  | none => cases h' : rparseL s with
    | none => rfl
    | some l => rw [h1 l h'] at h; cases h
end Go.Proofs.YtbaaomplennalaaDoor
