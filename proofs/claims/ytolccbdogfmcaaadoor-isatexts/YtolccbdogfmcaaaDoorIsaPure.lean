/-
  INSTRUCTIONS AND POINTERS, in plain words (chapter 15): as words, and as texts. No program.
-/
import Derived.Test.YtolccbdogfmcaaaDoorCommon
import Derived.Lib.ItoaLen
namespace Go.Proofs.YtolccbdogfmcaaaDoor
open Go.RowKit
set_option maxRecDepth 8000
set_option linter.unusedSimpArgs false
set_option linter.unusedVariables false

/-- An instruction. -/
structure Ins where
  o : Int
  p : Int
  n : Int
abbrev Ins.v (i : Ins) : Value := .agg #[.int .i64 i.o, .int .i64 i.p, .int .i64 i.n]
abbrev ins3 (i : Ins) : List Value := [.int .i64 i.o, .int .i64 i.p, .int .i64 i.n]
def insE (i : Ins) : Int := if i.o < 0 ∨ 22 < i.o then 3 else if i.p < 0 ∨ 3 < i.p ∨ i.n < -2147483648 ∨ 2147483647 < i.n then 1 else 0
def insW (i : Ins) : Int := if insE i = 0 then i.o * 72057594037927936 + i.p * 281474976710656 + i.n % 4294967296 else 0
def u64 (w : Int) : Int := w % 18446744073709551616
def wOp (w : Int) : Int := u64 w / 72057594037927936
def wP (w : Int) : Int := u64 w / 281474976710656 % 256
def wMid (w : Int) : Int := u64 w / 4294967296 % 65536
def wLow (w : Int) : Int := u64 w % 4294967296
def wN (w : Int) : Int := if wLow w < 2147483648 then wLow w else wLow w - 4294967296
def decE (w : Int) : Int := if 22 < wOp w then 3 else if 3 < wP w then 1 else if wMid w ≠ 0 then 11 else 0
def decI (w : Int) : Ins := if decE w = 0 then ⟨wOp w, wP w, wN w⟩ else ⟨0, 0, 0⟩
def goodI (i : Ins) : Ins := ⟨i.o % 23, i.p % 4, i.n % 4294967296 - 2147483648⟩
theorem insE_zero {i : Ins} : insE i = 0 ↔ (0 ≤ i.o ∧ i.o ≤ 22) ∧ 0 ≤ i.p ∧ i.p ≤ 3 ∧ -2147483648 ≤ i.n ∧ i.n ≤ 2147483647 := by
  unfold insE
  constructor
  · intro h
    split at h
    · cases h
    · split at h
      · cases h
      · omega
  · intro h
    rw [if_neg (by omega), if_neg (by omega)]
theorem decE_zero {w : Int} : decE w = 0 ↔ wOp w ≤ 22 ∧ wP w ≤ 3 ∧ wMid w = 0 := by
  unfold decE
  constructor
  · intro h
    split at h
    · cases h
    · split at h
      · cases h
      · split at h
        · cases h
        · omega
  · rintro ⟨h1, h2, h3⟩
    rw [if_neg (by omega), if_neg (by omega), if_neg (by omega)]
theorem good_ins (i : Ins) : insE (goodI i) = 0 := insE_zero.2 ⟨⟨by show 0 ≤ i.o % 23; omega, by show i.o % 23 ≤ 22; omega⟩, by show 0 ≤ i.p % 4; omega, by show i.p % 4 ≤ 3; omega, by show -2147483648 ≤ i.n % 4294967296 - 2147483648; omega, by show i.n % 4294967296 - 2147483648 ≤ 2147483647; omega⟩
theorem insW_eq {i : Ins} (h : insE i = 0) : insW i = i.o * 72057594037927936 + i.p * 281474976710656 + i.n % 4294967296 := by unfold insW; rw [if_pos h]
theorem insW_range {i : Ins} : 0 ≤ insW i ∧ insW i < 1657324662872342528 := by
  unfold insW
  split
  · rename_i h
    have := insE_zero.1 h
    omega
  · omega
theorem w_parts {i : Ins} (h : insE i = 0) : wOp (insW i) = i.o ∧ wP (insW i) = i.p ∧ wMid (insW i) = 0 ∧ wN (insW i) = i.n := by
  have hw := insW_eq h
  have hz := insE_zero.1 h
  have hr := insW_range (i := i)
  have hu : u64 (insW i) = insW i := by unfold u64; omega
  refine ⟨?_, ?_, ?_, ?_⟩
  · unfold wOp; rw [hu]; omega
  · unfold wP; rw [hu]; omega
  · unfold wMid; rw [hu]; omega
  · unfold wN wLow; rw [hu]; split <;> omega
theorem dec_enc {i : Ins} (h : insE i = 0) : decE (insW i) = 0 ∧ decI (insW i) = i := by
  obtain ⟨h1, h2, h3, h4⟩ := w_parts h
  have hz := insE_zero.1 h
  have h0 : decE (insW i) = 0 := decE_zero.2 ⟨by omega, by omega, h3⟩
  refine ⟨h0, ?_⟩
  unfold decI
  rw [if_pos h0, h1, h2, h4]
theorem enc_dec {w : Int} (hw : -9223372036854775808 ≤ w ∧ w ≤ 9223372036854775807) (h : decE w = 0) : insE (decI w) = 0 ∧ insW (decI w) = w := by
  obtain ⟨h1, h2, h3⟩ := decE_zero.1 h
  have hd : decI w = ⟨wOp w, wP w, wN w⟩ := by unfold decI; rw [if_pos h]
  have hu0 : 0 ≤ u64 w := by unfold u64; omega
  have hn : -2147483648 ≤ wN w ∧ wN w ≤ 2147483647 ∧ wN w % 4294967296 = wLow w := by
    unfold wN wLow
    split <;> omega
  have hz : insE (decI w) = 0 := by
    rw [hd]
    exact insE_zero.2 ⟨⟨by show 0 ≤ wOp w; unfold wOp; omega, h1⟩, by show 0 ≤ wP w; unfold wP; omega, h2, hn.1, hn.2.1⟩
  refine ⟨hz, ?_⟩
  rw [insW_eq hz, hd]
  show wOp w * 72057594037927936 + wP w * 281474976710656 + wN w % 4294967296 = w
  rw [hn.2.2]
  unfold wLow wMid wP wOp u64 at *
  omega
/-! Pointers. -/
structure Ptr where
  s : Int
  f : Int
  r : Int
abbrev Ptr.v (p : Ptr) : Value := .agg #[.int .i64 p.s, .int .i64 p.f, .int .i64 p.r]
abbrev ptr3 (p : Ptr) : List Value := [.int .i64 p.s, .int .i64 p.f, .int .i64 p.r]
def ptrW (p : Ptr) : Int := (p.r % 8) * 281474976710656 + (p.s % 65536) * 4294967296 + p.f % 4294967296
def wPtr (w : Int) : Ptr := ⟨wMid w, wLow w, u64 w / 281474976710656 % 8⟩
def goodP (p : Ptr) : Ptr := ⟨p.s % 65536, p.f % 4294967296, p.r % 8⟩
theorem ptr_back (p : Ptr) : wPtr (ptrW (goodP p)) = goodP p := by
  unfold wPtr ptrW goodP wMid wLow u64
  simp only [Ptr.mk.injEq]
  omega
/-! Texts. -/
def opNames : List (List UInt8) := [[104, 97, 108, 116], [108, 100, 97], [115, 116, 97], [108, 100, 105], [97, 100, 100], [115, 117, 98], [109, 117, 108], [102, 97, 100, 100], [102, 115, 117, 98], [102, 109, 117, 108], [102, 100, 105, 118], [102, 108, 101, 115, 115], [102, 108, 116], [102, 105, 120], [106, 109, 112], [106, 122], [106, 110], [115, 101, 116, 112], [108, 100, 112], [103, 101, 116, 112], [99, 97, 108, 108], [114, 101, 116], [111, 117, 116]]
def opL (o : Int) : List UInt8 := opNames.getD o.toNat []
def insT (i : Ins) : List UInt8 := opL i.o ++ 32 :: (Lib.itoa i.p ++ 32 :: Lib.itoa i.n)
def insB (i : Ins) : ByteArray := ⟨(insT i).toArray⟩
theorem opL_fin : ∀ k : Fin 23, (32 : UInt8) ∉ opL ((k : Nat) : Int) ∧ (opL ((k : Nat) : Int)).length ≤ 5 := by decide +kernel
theorem opL_inj : ∀ j k : Fin 23, opL ((j : Nat) : Int) = opL ((k : Nat) : Int) → j = k := by decide +kernel
theorem op_fin {o : Int} (h0 : 0 ≤ o) (h1 : o ≤ 22) : ∃ k : Fin 23, o = ((k : Nat) : Int) := ⟨⟨o.toNat, by omega⟩, by show o = ((o.toNat : Nat) : Int); omega⟩
theorem op_no32 {o : Int} (h0 : 0 ≤ o) (h1 : o ≤ 22) : (32 : UInt8) ∉ opL o := by
  obtain ⟨k, rfl⟩ := op_fin h0 h1
  exact (opL_fin k).1
theorem op_len {o : Int} (h0 : 0 ≤ o) (h1 : o ≤ 22) : (opL o).length ≤ 5 := by
  obtain ⟨k, rfl⟩ := op_fin h0 h1
  exact (opL_fin k).2
theorem dig_step (n : Nat) (h : 10 ≤ n) : Lib.decDigits n = Lib.decDigits (n / 10) ++ Lib.decDigits (n % 10) := by
  have h2 : n % 10 < 10 := Nat.mod_lt _ (by decide)
  rw [Lib.decDigits, dif_neg (by omega), Lib.decDigits.eq_def (n % 10), dif_pos h2]
theorem dig_one (n : Nat) (h : n < 10) : Lib.decDigits n = [UInt8.ofNat (48 + n)] := by
  rw [Lib.decDigits, dif_pos h]
def dval (l : List UInt8) : Nat := l.foldl (fun a c => a * 10 + (c.toNat - 48)) 0
theorem dval_snoc (l : List UInt8) (c : UInt8) : dval (l ++ [c]) = dval l * 10 + (c.toNat - 48) := by
  unfold dval
  rw [List.foldl_append]
  rfl
theorem dig_val : ∀ n : Nat, dval (Lib.decDigits n) = n := fun n => by
  induction n using Nat.strongRecOn with
  | ind n ih =>
    by_cases h : n < 10
    · rw [dig_one n h]
      have : (UInt8.ofNat (48 + n)).toNat = 48 + n := by simp; omega
      show 0 * 10 + ((UInt8.ofNat (48 + n)).toNat - 48) = n
      rw [this]
      omega
    · rw [dig_step n (by omega), dig_one (n % 10) (Nat.mod_lt _ (by decide)), dval_snoc, ih (n / 10) (by omega)]
      have : (UInt8.ofNat (48 + n % 10)).toNat = 48 + n % 10 := by simp; omega
      rw [this]
      omega
theorem dig_mem : ∀ n : Nat, ∀ c ∈ Lib.decDigits n, 48 ≤ c.toNat ∧ c.toNat ≤ 57 := fun n => by
  induction n using Nat.strongRecOn with
  | ind n ih =>
    intro c hc
    by_cases h : n < 10
    · rw [dig_one n h] at hc
      have hc := List.mem_singleton.1 hc
      subst hc
      have : (UInt8.ofNat (48 + n)).toNat = 48 + n := by simp; omega
      omega
    · rw [dig_step n (by omega), List.mem_append] at hc
      rcases hc with hc | hc
      · exact ih _ (by omega) c hc
      · exact ih _ (by omega) c hc
theorem dig_inj {m n : Nat} (h : Lib.decDigits m = Lib.decDigits n) : m = n := by rw [← dig_val m, h, dig_val]
theorem itoa_def (n : Int) : Lib.itoa n = if n < 0 then 45 :: Lib.decDigits n.natAbs else Lib.decDigits n.toNat := rfl
theorem dig_no {n : Nat} {c : UInt8} (hc : c.toNat < 48) : c ∉ Lib.decDigits n := fun h => by
  have := (dig_mem n c h).1
  omega
theorem itoa_no32 (n : Int) : (32 : UInt8) ∉ Lib.itoa n := by
  rw [itoa_def]
  split
  · intro h
    rcases List.mem_cons.1 h with h | h
    · cases h
    · exact dig_no (by decide) h
  · exact dig_no (by decide)
theorem itoa_inj {m n : Int} (h : Lib.itoa m = Lib.itoa n) : m = n := by
  rw [itoa_def, itoa_def] at h
  by_cases hm : m < 0
  · rw [if_pos hm] at h
    by_cases hn : n < 0
    · rw [if_pos hn] at h
      have := dig_inj (List.cons.inj h).2
      omega
    · rw [if_neg hn] at h
      exact absurd (h ▸ List.mem_cons_self) (dig_no (c := 45) (by decide))
  · rw [if_neg hm] at h
    by_cases hn : n < 0
    · rw [if_pos hn] at h
      exact absurd (h.symm ▸ List.mem_cons_self) (dig_no (c := 45) (by decide))
    · rw [if_neg hn] at h
      have := dig_inj h
      omega
theorem cut32 : ∀ {a b a' b' : List UInt8}, (32 : UInt8) ∉ a → (32 : UInt8) ∉ a' → a ++ 32 :: b = a' ++ 32 :: b' → a = a' ∧ b = b'
  | [], b, [], b', _, _, h => ⟨rfl, (List.cons.inj h).2⟩
  | [], b, x :: a', b', _, h2, h => absurd ((List.cons.inj h).1 ▸ List.mem_cons_self) h2
  | x :: a, b, [], b', h1, _, h => absurd ((List.cons.inj h).1 ▸ List.mem_cons_self) h1
  | x :: a, b, y :: a', b', h1, h2, h => by
    obtain ⟨e, h⟩ := List.cons.inj h
    obtain ⟨e1, e2⟩ := cut32 (fun q => h1 (List.mem_cons_of_mem _ q)) (fun q => h2 (List.mem_cons_of_mem _ q)) h
    exact ⟨by rw [e, e1], e2⟩
theorem ins_inj {i j : Ins} (hi : 0 ≤ i.o ∧ i.o ≤ 22) (hj : 0 ≤ j.o ∧ j.o ≤ 22) (h : insT i = insT j) : i = j := by
  obtain ⟨e1, h2⟩ := cut32 (op_no32 hi.1 hi.2) (op_no32 hj.1 hj.2) h
  obtain ⟨e2, e3⟩ := cut32 (itoa_no32 _) (itoa_no32 _) h2
  have h4 := itoa_inj e2
  have h5 := itoa_inj e3
  obtain ⟨k1, q1⟩ := op_fin hi.1 hi.2
  obtain ⟨k2, q2⟩ := op_fin hj.1 hj.2
  rw [q1, q2] at e1
  have := opL_inj _ _ e1
  cases i; cases j
  simp only at q1 q2 h4 h5
  rw [q1, q2, h4, h5, this]
theorem no_count {l : List UInt8} (h : (32 : UInt8) ∉ l) : l.count 32 = 0 := List.count_eq_zero.2 h
theorem ins_count {i : Ins} (hi : 0 ≤ i.o ∧ i.o ≤ 22) : (insT i).count 32 = 2 := by
  unfold insT
  rw [List.count_append, List.count_cons, List.count_append, List.count_cons, no_count (op_no32 hi.1 hi.2), no_count (itoa_no32 _), no_count (itoa_no32 _)]
  rfl
/-- The text of that instruction. -/
def IsT (s : ByteArray) (i : Ins) : Prop := insE i = 0 ∧ insB i = s
theorem IsT.uniq {s : ByteArray} {i j : Ins} (h : IsT s i) (k : IsT s j) : i = j := by
  refine ins_inj (insE_zero.1 h.1).1 (insE_zero.1 k.1).1 ?_
  have := h.2.trans k.2.symm
  unfold insB at this
  have := congrArg (fun b : ByteArray => b.data.toList) this
  simpa using this
theorem IsT.count {s : ByteArray} {i : Ins} (h : IsT s i) : s.data.toList.count 32 = 2 := by
  rw [← h.2]
  unfold insB
  simpa using ins_count (insE_zero.1 h.1).1
end Go.Proofs.YtolccbdogfmcaaaDoor
