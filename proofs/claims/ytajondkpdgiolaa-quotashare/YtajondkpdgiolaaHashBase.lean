/-
  THE CHAIN OF BYTES, IN PLAIN WORDS, AND THE DOCUMENT'S OWN FUNCTIONS (donjonref8).
-/
import Derived.Test.YtajondkpdgiolaaCommon
import Derived.Laws.Bits64
import Derived.Lib.ConvBytes
namespace Go.Proofs.Ytajondkpdgiolaa
open Go.RowKit
set_option maxRecDepth 8000
set_option linter.unusedSimpArgs false
set_option linter.unusedVariables false

/-- One byte more. -/
def st (h c : Nat) : Nat := (1099511628211 * (h ^^^ c)) % 18446744073709551616
def chain (h : Nat) (l : List UInt8) : Nat := l.foldl (fun h c => st h c.toNat) h
theorem st_lt (h c : Nat) : st h c < 18446744073709551616 := Nat.mod_lt _ (by decide)
theorem chain_nil (h : Nat) : chain h [] = h := by
  unfold chain
  rw [List.foldl_nil]
theorem chain_append (h : Nat) (a b : List UInt8) : chain h (a ++ b) = chain (chain h a) b := by
  unfold chain
  rw [List.foldl_append]
theorem chain_one (h : Nat) (c : UInt8) : chain h [c] = st h c.toNat := by
  unfold chain
  rw [List.foldl_cons, List.foldl_nil]
theorem chain_lt {h : Nat} (hh : h < 18446744073709551616) (l : List UInt8) : chain h l < 18446744073709551616 := by
  rcases List.eq_nil_or_concat l with rfl | ⟨r, c, rfl⟩
  · rw [chain_nil]; exact hh
  · rw [List.concat_eq_append, chain_append, chain_one]
    exact st_lt _ _
theorem mul_back {x : Nat} (hx : x < 18446744073709551616) : (x * 1099511628211 % 18446744073709551616) * 14886173955864302971 % 18446744073709551616 = x := by
  rw [Nat.mod_mul_mod, Nat.mul_assoc, Nat.mul_mod, show (1099511628211 * 14886173955864302971) % 18446744073709551616 = 1 by decide, Nat.mul_one, Nat.mod_mod]
  exact Nat.mod_eq_of_lt hx
theorem st_inj {h a b : Nat} (hh : h < 18446744073709551616) (ha : a < 18446744073709551616) (hb : b < 18446744073709551616) (e : st h a = st h b) : a = b := by
  have x1 : h ^^^ a < 18446744073709551616 := Nat.xor_lt_two_pow (n := 64) hh ha
  have x2 : h ^^^ b < 18446744073709551616 := Nat.xor_lt_two_pow (n := 64) hh hb
  have e2 : h ^^^ a = h ^^^ b := by
    unfold st at e
    rw [Nat.mul_comm, Nat.mul_comm 1099511628211] at e
    rw [← mul_back x1, e, mul_back x2]
  have e3 : h ^^^ (h ^^^ a) = h ^^^ (h ^^^ b) := by rw [e2]
  rwa [← Nat.xor_assoc, ← Nat.xor_assoc, Nat.xor_self, Nat.zero_xor, Nat.zero_xor] at e3
theorem st_run {h c : Nat} (hh : h < 18446744073709551616) (hc : c < 256) : IntKind.u64.wrap (bits .xor .u64 (h : Int) (c : Int) * 1099511628211) = (st h c : Int) := by
  rw [bits_xor_u64_nat h c hh (by omega), IntKind.wrap_u64]
  unfold st
  rw [Nat.mul_comm, Int.natCast_emod, Int.natCast_mul]
  rfl

/-- Bytes in memory. -/
def BytesAt (w : World) (a : Option Addr) (n : Nat) (l : List UInt8) : Prop :=
  l.length = n ∧ ∀ j, j < n → ∃ y, a = some y ∧ w.cell? (y.add j) = some (.int .u8 ((l.getD j 0).toNat : Int))
theorem BytesAt.below {w w' : World} {a : Option Addr} {n : Nat} {l : List UInt8} (h : BytesAt w a n l) (b : Below w.heap.size w w') : BytesAt w' a n l := by
  refine ⟨h.1, fun j hj => ?_⟩
  obtain ⟨y, hy, hc⟩ := h.2 j hj
  exact ⟨y, hy, (b.cell (World.block_lt_of_cell? _ _ hc)).trans hc⟩
theorem chain_take (h : Nat) (l : List UInt8) {i : Nat} (hi : i < l.length) : chain h (l.take (i + 1)) = st (chain h (l.take i)) (l.getD i 0).toNat := by
  rw [List.take_add_one, List.getElem?_eq_getElem hi, List.getD_eq_getElem?_getD, List.getElem?_eq_getElem hi]
  rw [show (some l[i]).toList = [l[i]] from rfl, chain_append, chain_one, Option.getD_some]

end Go.Proofs.Ytajondkpdgiolaa
