/-
  A WORD AS BYTES, ONE OF THEM TURNED; who is found among a law's own users.
-/
import Derived.Test.YtagpjihhnnmhnaaUserBoxes
import Derived.Test.YtagpjihhnnmhnaaHashPure
import Derived.Laws.BitsAllLaws
namespace Go.Proofs.Ytagpjihhnnmhnaa
open Go.RowKit
set_option linter.unusedSimpArgs false
set_option linter.unusedVariables false

theorem bytes_free (w : World) (e : TypeId) (s : ByteArray) (j : Nat) (hj : j < s.size) : (Lib.bytesWorld w e s).frozen? ⟨w.heap.size, j, none⟩ = false := by
  simp [World.frozen?, Lib.bytesWorld_at_new, Lib.bytesCells]
  omega
/-- A text as bytes, in a row of its own that may be written. -/
theorem conv_own (w : World) (u : ByteArray) : ∃ cap W, (convert 9 50 (.string u)).run Try.prog w = .ok (.slice (some ⟨w.heap.size, 0, none⟩) u.size cap) W ∧ (∀ j, j < u.size → W.cell? ⟨w.heap.size, j, none⟩ = some (.int .u8 ((u.data.toList.getD j 0).toNat : Int)) ∧ W.frozen? ⟨w.heap.size, j, none⟩ = false) ∧ Below w.heap.size w W := by
  have hr := Go.Lib.run_convert_string_bytes (P := Try.prog) w 9 50 5 u Try.underlying9 Try.underlying50 Try.underlying5
  exact ⟨_, _, hr, fun j hj => ⟨Go.Lib.bytesWorld_cell w _ _ j hj, bytes_free w _ u j hj⟩, ⟨rfl, rfl, rfl, by rw [Go.Lib.bytesWorld_size]; omega, fun k hk => Go.Lib.bytesWorld_at_old w _ _ k hk⟩⟩
/-- Two bytes as a text. -/
theorem back_two (W : World) (g cap : Nat) (c d : UInt8) (h0 : W.cell? ⟨g, 0, none⟩ = some (.int .u8 (c.toNat : Int))) (h1 : W.cell? ⟨g, 1, none⟩ = some (.int .u8 (d.toNat : Int))) :
    (convert 50 9 (.slice (some ⟨g, 0, none⟩) 2 cap)).run Try.prog W = .ok (.string ⟨#[c, d]⟩) W := by
  refine run_convert_bytes_back W _ _ 5 ⟨g, 0, none⟩ cap [c, d] Try.underlying50 Try.underlying5 Try.underlying9 fun j hj => ?_
  rw [add_at]
  match j, hj with
  | 0, _ => exact h0
  | 1, _ => exact h1
theorem letter_eq {i j : Nat} (hi : i < 26) (hj : j < 26) (h : chr (97 + i) = chr (97 + j)) : i = j := by
  have h2 := congrArg (fun b : ByteArray => (b.data.toList.getD 0 0).toNat) h
  have e : ∀ k, k < 26 → ((chr (97 + k)).data.toList.getD 0 0).toNat = 97 + k := fun k hk => by
    show (UInt8.ofNat (97 + k)).toNat = 97 + k
    simp [UInt8.toNat_ofNat']
    omega
  simp only [e i hi, e j hj] at h2
  omega
theorem find_right {l : List Lab} {j : Nat} {x : Lab} (hj : j < 8) (hx : l[j]? = some x) : findU (someTo l 8) (chr (97 + j)) = some (someAt j x) := by
  have hmem : someAt j x ∈ someTo l 8 := by
    unfold someTo
    rw [List.mem_iff_getElem?]
    refine ⟨j, ?_⟩
    rw [List.getElem?_mapIdx, List.getElem?_take, if_pos hj, hx]
    rfl
  unfold findU
  cases hf : (someTo l 8).find? fun u => eqs u.name (chr (97 + j)) with
  | none =>
    have := List.find?_eq_none.1 hf _ hmem
    exact absurd (eqs_self _) this
  | some v =>
    have hv := List.find?_some hf
    obtain ⟨i, z, hi, hz, rfl⟩ := some_mem (List.mem_of_find?_eq_some hf)
    have := letter_eq (by omega) (by omega) (eqs_iff.1 hv)
    subst this
    rw [hx] at hz
    injection hz with hz
    rw [hz]
theorem find_wrong (l : List Lab) {n : ByteArray} (h : n.size ≠ 1) : findU (someTo l 8) n = Option.none := by
  unfold findU
  rw [List.find?_eq_none]
  intro u hu he
  obtain ⟨i, x, _, _, rfl⟩ := some_mem hu
  have := eqs_iff.1 he
  apply h
  rw [← this]
  rfl
theorem rov_self {A : Lab} (h : GL A) : rov A A = true := by
  obtain ⟨n, rfl, ok⟩ := h.nl
  rw [rov_ov ok ok, ov_iff ok ok]
  exact over_refl n
theorem enter_right {l : List Lab} {j : Nat} {x : Lab} (hj : j < 8) (hx : l[j]? = some x) : enterR (someTo l 8) (chr (97 + j)) [UInt8.ofNat (97 + j), UInt8.ofNat (97 + j)] (goodL x) = 0 := by
  unfold enterR
  rw [find_right hj hx]
  show (if ofN ((j : Int) * 7) _ = ofN ((j : Int) * 7) _ ∧ rov (goodL x) (goodL x) = true then (0 : Int) else 21) = 0
  rw [if_pos ⟨rfl, rov_self (good_GL x)⟩]
theorem enter_turned {l : List Lab} {j : Nat} {x : Lab} (hj : j < 8) (hx : l[j]? = some x) {d : UInt8} (hd : d ≠ UInt8.ofNat (97 + j)) : enterR (someTo l 8) (chr (97 + j)) [UInt8.ofNat (97 + j), d] (goodL x) = 21 := by
  unfold enterR
  rw [find_right hj hx]
  show (if ofN ((j : Int) * 7) _ = ofN ((j : Int) * 7) _ ∧ rov (goodL x) (goodL x) = true then (0 : Int) else 21) = 21
  rw [if_neg]
  intro h
  exact ofN_last ((j : Int) * 7) [UInt8.ofNat (97 + j)] hd h.1
theorem enter_nobody (l : List Lab) {n : ByteArray} (h : n.size ≠ 1) (word : List UInt8) (A : Lab) : enterR (someTo l 8) n word A = 21 := by
  unfold enterR
  rw [find_wrong l h]
theorem turn_byte (d : UInt8) {c : Nat} (hc : c < 256) (h0 : c ≠ 0) : ∃ d' : UInt8, (d'.toNat : Int) = bits .xor .u8 (d.toNat : Int) (c : Int) ∧ d' ≠ d := by
  have hx : d.toNat ^^^ c < 256 := Nat.xor_lt_two_pow (n := 8) d.toNat_lt hc
  refine ⟨UInt8.ofNat (d.toNat ^^^ c), ?_, ?_⟩
  · rw [u8_xor_nat _ _ d.toNat_lt hc, UInt8.toNat_ofNat', Nat.mod_eq_of_lt hx]
  · intro e
    have e2 := congrArg UInt8.toNat e
    rw [UInt8.toNat_ofNat', Nat.mod_eq_of_lt hx] at e2
    have e3 : d.toNat ^^^ (d.toNat ^^^ c) = d.toNat ^^^ d.toNat := by rw [e2]
    rw [← Nat.xor_assoc, Nat.xor_self, Nat.zero_xor] at e3
    exact h0 e3
end Go.Proofs.Ytagpjihhnnmhnaa
