/-
  INSTRUCTIONS AS TEXTS: the document's own decimal, name, Text (donjonref15).
-/
import Derived.Test.YtolccbdogfmcaaaDoorIsaOk
import Derived.Test.YtolccbdogfmcaaaDoorLText
namespace Go.Proofs.YtolccbdogfmcaaaDoor
open Go.RowKit
set_option maxRecDepth 8000
set_option linter.unusedSimpArgs false
set_option linter.unusedVariables false

set_option maxHeartbeats 1000000 in
theorem idec_low (n : Nat) (h : n < 10) (w : World) :
    Calls Tryd.prog 22 #[.int .i64 (n : Int)] w fun e w' => e = .returned (.string (dgB n)) ∧ Below w.heap.size w w' := by
  rw [dg_low n h]
  have hbt := chr_made2 w n (by omega)
  have hcv := hbt.conv
  have e1 : IntKind.u8.wrap (48 + (n : Int)) = 48 + (n : Int) := by rw [IntKind.wrap_u8]; omega
  have hB := alloc_below w (.cells #[.int .u8 (48 + (n : Int))] 5)
  have i1 : ¬ (10 : Int) ≤ (n : Int) := by omega
  have i2 : ¬ (n : Int) < 0 := by omega
  obtain ⟨c, hc⟩ : ∃ c, chr (48 + n) = c := ⟨_, rfl⟩
  rw [hc] at hcv ⊢
  clear hbt hc
  go_enter Tryd.func22, Tryd.ntmps22
  go_wp2_with fail
  go_ret
  exact ⟨rfl, hB⟩
set_option maxHeartbeats 1000000 in
theorem idec_pos : ∀ (n : Nat), n < 9223372036854775808 → ∀ (w : World), Calls Tryd.prog 22 #[.int .i64 (n : Int)] w fun e w' => e = .returned (.string (dgB n)) ∧ Below w.heap.size w w' := by
  intro n
  induction n using Nat.strongRecOn with
  | ind n ih =>
    intro hn w
    by_cases h10 : n < 10
    · exact idec_low n h10 w
    · have k1 := ih (n / 10) (by omega) (by omega)
      have k2 := idec_low (n % 10) (Nat.mod_lt _ (by decide))
      have s1 := dg_20 (n := n / 10) (by omega)
      have s2 := dg_20 (n := n % 10) (by omega)
      rw [dg_next n (by omega)]
      obtain ⟨x, hx⟩ : ∃ x, dgB (n / 10) = x := ⟨_, rfl⟩
      obtain ⟨y, hy⟩ : ∃ y, dgB (n % 10) = y := ⟨_, rfl⟩
      rw [hx] at k1 s1 ⊢
      rw [hy] at k2 s2 ⊢
      have i1 : (10 : Int) ≤ (n : Int) := by omega
      have i2 : ¬ (n : Int) < 0 := by omega
      have s3 : ¬ 9223372036854775807 < x.size + y.size := by omega
      have e1 : (n : Int) / 10 = ((n / 10 : Nat) : Int) := by omega
      have e2 : (n : Int) % 10 = ((n % 10 : Nat) : Int) := by omega
      rw [← e1] at k1
      rw [← e2] at k2
      clear hx hy ih e1 e2
      go_enter Tryd.func22, Tryd.ntmps22
      go_wp2_with fail
      refine (k1 w).mono ?_
      rintro e W1 ⟨rfl, hB1⟩
      go_wp2_with fail
      refine (k2 W1).mono ?_
      rintro e W2 ⟨rfl, hB2⟩
      have hB := Below.then hB1 hB2
      go_wp2_with fail
      go_ret
      exact ⟨rfl, hB⟩
set_option maxHeartbeats 1000000 in
theorem idec_any (n : Int) (h0 : -9223372036854775807 ≤ n) (h1 : n ≤ 9223372036854775807) (w : World) : Calls Tryd.prog 22 #[.int .i64 n] w fun e w' => e = .returned (.string (itoaB n)) ∧ Below w.heap.size w w' := by
  by_cases hn : 0 ≤ n
  · obtain ⟨k, rfl⟩ := Int.eq_ofNat_of_zero_le hn
    rw [itoa_pos]
    exact idec_pos k (by omega) w
  · obtain ⟨k, rfl⟩ : ∃ k : Nat, n = -(k : Int) := ⟨n.natAbs, by omega⟩
    rw [itoa_neg k (by omega)]
    have k1 := idec_pos k (by omega)
    have s1 := dg_20 (n := k) (by omega)
    obtain ⟨x, hx⟩ : ∃ x, dgB k = x := ⟨_, rfl⟩
    rw [hx] at k1 s1 ⊢
    have s3 : ¬ 9223372036854775807 < 1 + x.size := by omega
    obtain ⟨m, hm⟩ : ∃ m : Int, -(k : Int) = m := ⟨_, rfl⟩
    have i1 : m < 0 := by omega
    have e1 : IntKind.i64.wrap (0 - m) = (k : Int) := by rw [IntKind.wrap_i64]; omega
    have e2 : IntKind.i64.wrap (-m) = (k : Int) := by rw [IntKind.wrap_i64]; omega
    have e3 : -m = (k : Int) := by omega
    rw [hm]
    clear hx hm
    go_enter Tryd.func22, Tryd.ntmps22
    go_wp2_with fail
    refine (k1 w).mono ?_
    rintro e W1 ⟨rfl, hB1⟩
    go_wp2_with fail
    go_ret
    exact ⟨rfl, hB1⟩
def opB (o : Int) : ByteArray := ⟨(opL o).toArray⟩
set_option maxRecDepth 8000 in
set_option maxHeartbeats 2000000 in
theorem iname_any (o : Int) (h0 : 0 ≤ o) (h1 : o ≤ 22) (w : World) : Calls Tryd.prog 21 #[.int .i64 o] w fun e w' => e = .returned (.string (opB o)) ∧ Below w.heap.size w w' := by
  obtain ⟨k, rfl⟩ := op_fin h0 h1
  have hn : ∀ j : Fin 23, (opNames.map fun z => Value.string ⟨z.toArray⟩)[(j : Nat)]? = some (.string (opB ((j : Nat) : Int))) := by
    intro j
    rw [List.getElem?_map]
    have hj : (j : Nat) < opNames.length := j.2
    rw [List.getElem?_eq_getElem hj]
    unfold opB opL
    rw [List.getD_eq_getElem?_getD, show ((j : Nat) : Int).toNat = (j : Nat) from rfl, List.getElem?_eq_getElem hj]
    rfl
  have hb := blk_alloc w (opNames.map fun z => Value.string ⟨z.toArray⟩).toArray 9
  have hB := alloc_below w (.cells (opNames.map fun z => Value.string ⟨z.toArray⟩).toArray 9)
  have hc := (hb k _ (by rw [List.toList_toArray]; exact hn k)).1
  have hk : ((k : Nat) : Int) < 23 := by have := k.2; omega
  generalize opB ((k : Nat) : Int) = x at *
  obtain ⟨m, hm⟩ : ∃ m : Nat, (k : Nat) = m := ⟨_, rfl⟩
  rw [hm] at hc hk ⊢
  clear hn hb hm h0 h1
  simp only [opNames, List.map_cons, List.map_nil] at hc hB
  go_enter Tryd.func21, Tryd.ntmps21
  go_wp2_with fail
  go_ret
  exact ⟨rfl, hB⟩
end Go.Proofs.YtolccbdogfmcaaaDoor
