/-
  A TEXT OF AN INSTRUCTION, CUT AT ITS BLANKS; decimals read again. No program.
-/
import Derived.Test.YtolccbdogfmcaaaDoorIsaText
import Derived.Lib.AtoiAll
import Derived.Lib.Split
namespace Go.Proofs.YtolccbdogfmcaaaDoor
open Go.RowKit
set_option maxRecDepth 8000
set_option linter.unusedSimpArgs false
set_option linter.unusedVariables false

theorem index32_skip (X Y : List UInt8) (h : (32 : UInt8) ∉ X) : Lib.index (X ++ 32 :: Y) [32] = (X.length : Int) := by
  induction X with
  | nil => simp [Lib.index, List.isPrefixOf]
  | cons b l ih =>
    simp only [List.mem_cons, not_or] at h
    have e := ih h.2
    rw [List.cons_append, Lib.index]
    have hb : ([32] : List UInt8).isPrefixOf (b :: (l ++ 32 :: Y)) = false := by
      simp [List.isPrefixOf]; exact h.1
    rw [hb, e]
    simp
theorem index32_none (X : List UInt8) (h : (32 : UInt8) ∉ X) : Lib.index X [32] = -1 := by
  induction X with
  | nil => simp [Lib.index]
  | cons b l ih =>
    simp only [List.mem_cons, not_or] at h
    have e := ih h.2
    rw [Lib.index]
    have hb : ([32] : List UInt8).isPrefixOf (b :: l) = false := by
      simp [List.isPrefixOf]; exact h.1
    rw [hb, e]
    simp
theorem split32_skip (k : Nat) (X Y : List UInt8) (h : (32 : UInt8) ∉ X) : Lib.splitK [32] 0 (k + 1) (X ++ 32 :: Y) = X :: Lib.splitK [32] 0 k Y := by
  rw [Lib.splitK, index32_skip X Y h, if_neg (by simp)]
  simp
theorem split32_none (k : Nat) (X : List UInt8) (h : (32 : UInt8) ∉ X) : Lib.splitK [32] 0 k X = [X] := by
  cases k with
  | zero => rfl
  | succ k => rw [Lib.splitK, index32_none X h, if_pos (by simp)]
theorem bytesI_inj {x y : List ByteArray} (h : x.map (·.data.toList) = y.map (·.data.toList)) : x = y := by
  induction x generalizing y with
  | nil => cases y with
    | nil => rfl
    | cons b l => simp at h
  | cons a l ih => cases y with
    | nil => simp at h
    | cons b m =>
      simp only [List.map_cons, List.cons.injEq] at h
      rw [ih h.2]
      congr 1
      cases a; cases b
      simp only [ByteArray.mk.injEq]
      exact Array.toList_inj.1 h.1
def blank : ByteArray := ⟨#[32]⟩
def partsI (s : ByteArray) : List ByteArray := Lib.splitB blank 0 (min 4 (s.size + 1) - 1) s
theorem dig_pos (n : Nat) : 1 ≤ (Lib.decDigits n).length := by
  by_cases h : n < 10
  · rw [dig_one n h]; simp
  · rw [dig_step n (by omega), dig_one (n % 10) (Nat.mod_lt _ (by decide))]; simp
theorem itoaI_pos (n : Int) : 1 ≤ (Lib.itoa n).length := by
  rw [itoa_def]
  split
  · simp
  · exact dig_pos _
theorem partsI_text {s : ByteArray} {i : Ins} (h : IsT s i) : partsI s = [opB i.o, itoaB i.p, itoaB i.n] := by
  obtain ⟨⟨a0, a1⟩, a2, a3, a4, a5⟩ := insE_zero.1 h.1
  have hs := h.2
  subst hs
  apply bytesI_inj
  unfold partsI
  rw [Lib.splitB_data]
  have hk : min 4 ((insB i).size + 1) - 1 = 3 := by
    have h2 := itoaI_pos i.p
    have h3 := itoaI_pos i.n
    have : (insB i).size = (insT i).length := by show (insT i).toArray.size = _; simp
    rw [this]
    unfold insT
    simp
    omega
  rw [hk]
  show Lib.splitK [32] 0 3 (insT i) = _
  unfold insT
  rw [split32_skip _ _ _ (op_no32 a0 a1), split32_skip _ _ _ (itoa_no32 _), split32_none _ _ (itoa_no32 _)]
  rfl
theorem partsI_len (s : ByteArray) : (partsI s).length ≤ 4 := by
  have := Lib.splitB_length_le blank 0 (min 4 (s.size + 1) - 1) s
  unfold partsI; omega
theorem partI_le (sep : ByteArray) (save : Nat) : ∀ (k : Nat) (s p : ByteArray), p ∈ Lib.splitB sep save k s → p.size ≤ s.size
  | 0, s, p, h => by simp [Lib.splitB] at h; rw [h]; exact Nat.le_refl _
  | k + 1, s, p, h => by
    unfold Lib.splitB at h
    split at h
    · simp at h; rw [h]; exact Nat.le_refl _
    · rcases List.mem_cons.1 h with rfl | h
      · simp [ByteArray.size_extract]; omega
      · have := partI_le sep save k _ p h
        simp [ByteArray.size_extract] at this; omega
/-! Decimals read again. -/
theorem fold_ge : ∀ (l : List UInt8) (acc : Nat), acc ≤ l.foldl (fun a c => a * 10 + (c.toNat - 48)) acc
  | [], acc => Nat.le_refl _
  | c :: r, acc => by
    have := fold_ge r (acc * 10 + (c.toNat - 48))
    simp only [List.foldl_cons]
    omega
theorem uint_digits : ∀ (l : List UInt8) (acc : Nat), (∀ c ∈ l, 48 ≤ c.toNat ∧ c.toNat ≤ 57) → l.foldl (fun a c => a * 10 + (c.toNat - 48)) acc < 1000000000000000000 → Lib.parseUint10 acc l = .ok (l.foldl (fun a c => a * 10 + (c.toNat - 48)) acc)
  | [], acc, _, _ => rfl
  | c :: r, acc, hd, hb => by
    have hc := hd c List.mem_cons_self
    simp only [List.foldl_cons] at hb ⊢
    have hg := fold_ge r (acc * 10 + (c.toNat - 48))
    rw [Lib.parseUint10, if_pos hc, if_neg (by omega), if_neg (by omega)]
    exact uint_digits r _ (fun x hx => hd x (List.mem_cons_of_mem _ hx)) hb
theorem mag_digits {n : Nat} (h : n < 1000000000000000000) : Lib.parseMag (Lib.decDigits n) = .ok n := by
  have hp := dig_pos n
  unfold Lib.parseMag
  rw [if_neg (by intro e; rw [e] at hp; simp at hp)]
  have hv := dig_val n
  unfold dval at hv
  have := uint_digits (Lib.decDigits n) 0 (dig_mem n) (by rw [hv]; exact h)
  rw [hv] at this
  exact this
theorem atoi_itoa {n : Int} (h0 : -1000000000000 ≤ n) (h1 : n ≤ 1000000000000) : Lib.atoiAll (Lib.itoa n) = .ok n := by
  rw [itoa_def]
  split
  · rename_i hn
    show (match Lib.parseMag (if (45 : UInt8).toNat = 43 ∨ (45 : UInt8).toNat = 45 then Lib.decDigits n.natAbs else 45 :: Lib.decDigits n.natAbs) with
      | .syntax => Lib.NumEnd.syntax
      | .range => .range
      | .ok u => if ¬ (45 : UInt8).toNat = 45 ∧ 9223372036854775808 ≤ u then .range else if (45 : UInt8).toNat = 45 ∧ 9223372036854775808 < u then .range else .ok (if (45 : UInt8).toNat = 45 then -(u : Int) else u)) = _
    rw [if_pos (by decide), mag_digits (by omega)]
    simp only
    rw [if_neg (by intro h; exact absurd rfl h.1), if_neg (by intro h; omega), if_pos (by decide)]
    congr 1
    omega
  · rename_i hn
    have hp := dig_pos n.toNat
    have hm := dig_mem n.toNat
    have hg := mag_digits (n := n.toNat) (by omega)
    generalize Lib.decDigits n.toNat = l at *
    match l with
    | [] => simp at hp
    | c :: r =>
      have hc := hm c List.mem_cons_self
      unfold Lib.atoiAll
      simp only
      rw [if_neg (by omega), hg]
      simp only
      rw [if_neg (by intro h; omega), if_neg (by intro h; omega), if_neg (by omega)]
      congr 1
      omega
end Go.Proofs.YtolccbdogfmcaaaDoor
