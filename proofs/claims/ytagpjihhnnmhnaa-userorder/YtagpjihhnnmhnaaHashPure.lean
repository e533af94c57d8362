/-
  WHAT FOLLOWS OF CHAINS: a last byte that was turned, a salt of which the last byte was turned.
-/
import Derived.Test.YtagpjihhnnmhnaaHashOf
namespace Go.Proofs.Ytagpjihhnnmhnaa
set_option linter.unusedSimpArgs false
set_option linter.unusedVariables false

theorem byte_ext {c d : UInt8} (h : c.toNat = d.toNat) : c = d := UInt8.toNat_inj.1 h
theorem chain_last {h : Nat} (hh : h < 18446744073709551616) (l : List UInt8) {c d : UInt8} (hne : c ≠ d) : chain h (l ++ [c]) ≠ chain h (l ++ [d]) := by
  rw [chain_append, chain_append, chain_one, chain_one]
  intro e
  have h1 := c.toNat_lt
  have h2 := d.toNat_lt
  exact hne (byte_ext (st_inj (chain_lt hh l) (by omega) (by omega) e))
theorem ofN_empty (x : Int) (l : List UInt8) : ofN x l = chain (ofN x []) l := by
  unfold ofN
  rw [chain_nil]
theorem ofN_last (x : Int) (l : List UInt8) {c d : UInt8} (hne : c ≠ d) : ofN x (l ++ [c]) ≠ ofN x (l ++ [d]) := chain_last (chain_lt start_lt _) l hne
theorem wrap_i64_nat (n : Int) : (IntKind.i64.wrap n) % 18446744073709551616 = n % 18446744073709551616 := by
  simp only [IntKind.wrap, IntKind.bits, IntKind.signed]
  simp
  omega
theorem ofInt_salt (x : Int) : (BitVec.ofInt 64 x).toNat = saltN x := by
  rw [BitVec.toNat_ofInt]
  rfl
theorem saltN_xor (x : Int) (c : Nat) (hc : c < 256) : saltN (bits .xor .i64 x (c : Int)) = saltN x ^^^ c := by
  have hx := saltN_lt x
  have hlt : saltN x ^^^ c < 18446744073709551616 := Nat.xor_lt_two_pow (n := 64) hx (by omega)
  have e : bits .xor .i64 x (c : Int) = IntKind.i64.wrap (((BitVec.ofInt 64 x ^^^ BitVec.ofInt 64 (c : Int)).toNat : Nat) : Int) := rfl
  have hcn : saltN (c : Int) = c := by unfold saltN; omega
  rw [e, BitVec.toNat_xor, ofInt_salt, ofInt_salt, hcn]
  show ((IntKind.i64.wrap ((saltN x ^^^ c : Nat) : Int)) % 18446744073709551616).toNat = _
  rw [wrap_i64_nat]
  omega
theorem xor_high (s c k : Nat) (hc : c < 256) (hk : 8 ≤ k) : (s ^^^ c) / 2 ^ k = s / 2 ^ k := by
  rw [← Nat.shiftRight_eq_div_pow, ← Nat.shiftRight_eq_div_pow, Nat.shiftRight_xor_distrib]
  have : c >>> k = 0 := by
    rw [Nat.shiftRight_eq_div_pow]
    have h8 : 2 ^ 8 ≤ 2 ^ k := Nat.pow_le_pow_right (n := 2) (by decide) hk
    exact Nat.div_eq_of_lt (by omega)
  rw [this, Nat.xor_zero]
theorem salt_turned (s c : Nat) (hc : c < 256) : saltTo (s ^^^ c) 7 = saltTo s 7 := by
  unfold saltTo
  apply List.map_congr_left
  intro j hj
  rw [List.mem_range] at hj
  rw [xor_high s c _ hc (by omega)]
theorem salt_unlike (x : Int) {c : Nat} (hc : c < 256) (h0 : c ≠ 0) : ofN (bits .xor .i64 x (c : Int)) [] ≠ ofN x [] := by
  unfold ofN
  rw [saltN_xor x c hc, chain_nil, chain_nil, saltTo_succ (saltN x ^^^ c) 7, saltTo_succ (saltN x) 7, salt_turned _ _ hc]
  refine chain_last start_lt _ fun e => h0 ?_
  have e1 := congrArg UInt8.toNat e
  simp only [Nat.sub_self, Nat.mul_zero, Nat.pow_zero, Nat.div_one, UInt8.toNat_ofNat'] at e1
  rw [Nat.xor_mod_two_pow] at e1
  have e2 : c % 2 ^ 8 = c := Nat.mod_eq_of_lt (by omega)
  rw [e2] at e1
  have e3 : saltN x % 2 ^ 8 ^^^ (saltN x % 2 ^ 8 ^^^ c) = saltN x % 2 ^ 8 ^^^ (saltN x % 2 ^ 8) := by rw [e1]
  rwa [← Nat.xor_assoc, Nat.xor_self, Nat.zero_xor] at e3
theorem xor_fits (x y : Int) : -9223372036854775808 ≤ bits .xor .i64 x y ∧ bits .xor .i64 x y ≤ 9223372036854775807 := by
  have e : bits .xor .i64 x y = IntKind.i64.wrap (((BitVec.ofInt 64 x ^^^ BitVec.ofInt 64 y).toNat : Nat) : Int) := rfl
  rw [e]
  simp only [IntKind.wrap, IntKind.bits, IntKind.signed]
  simp
  omega
end Go.Proofs.Ytagpjihhnnmhnaa
