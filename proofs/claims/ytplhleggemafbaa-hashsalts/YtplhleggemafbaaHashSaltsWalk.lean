/-
  HashSalts: the walk.
-/
import Derived.Test.YtplhleggemafbaaHashFns
import Derived.Test.YtplhleggemafbaaHashPure
namespace Go.Proofs.Ytplhleggemafbaa
open Go.RowKit
set_option linter.unusedSimpArgs false
set_option linter.unusedVariables false

set_option maxHeartbeats 2000000 in
theorem hashSalts_walk (x : Int) (hx : -9223372036854775808 ≤ x ∧ x ≤ 9223372036854775807) (c : Nat) (hc : c < 256) (u : ByteArray) (hu : u.size ≤ 140737488355328) (w : World) :
    Calls Try.prog 5 #[.int .i64 x, .int .u8 (c : Int), .string u] w fun e w' => e = .returned (.bool true) ∧ Below w.heap.size w w' := by
  have cK := hknown_any w
  by_cases h5 : 1000 < u.size
  · have s5 : (1000 : Int) < (u.size : Int) := by omega
    go_enter Try.func5, Try.ntmps5
    go_wp2_with fail
    refine (cK).mono ?_
    rintro e w1 ⟨rfl, hB1⟩
    go_wp2_with fail
    go_ret
    exact ⟨rfl, hB1⟩
  · have s5 : ¬ (1000 : Int) < (u.size : Int) := by omega
    have c1 := of_any x hx ⟨#[]⟩ (by show (0 : Nat) ≤ _; omega)
    have c2 := of_any x hx u (by omega)
    have c3 := of_any (bits .xor .i64 x (c : Int)) (xor_fits _ _) ⟨#[]⟩ (by show (0 : Nat) ≤ _; omega)
    have za : (u ++ ⟨#[97]⟩).size = u.size + 1 := by rw [ByteArray.size_append]; rfl
    have zb : (u ++ ⟨#[98]⟩).size = u.size + 1 := by rw [ByteArray.size_append]; rfl
    have c4 := of_any x hx (u ++ ⟨#[97]⟩) (by omega)
    have c5 := of_any x hx (u ++ ⟨#[98]⟩) (by omega)
    have hne := ofN_last x u.data.toList (c := 97) (d := 98) (by decide)
    have ea : (u ++ ⟨#[97]⟩).data.toList = u.data.toList ++ [97] := by rw [ByteArray.toList_data_append]
    have eb : (u ++ ⟨#[98]⟩).data.toList = u.data.toList ++ [98] := by rw [ByteArray.toList_data_append]
    rw [ea] at c4
    rw [eb] at c5
    rw [ofN_empty x u.data.toList] at c2
    have hH := ofN_lt x []
    have cC := fun W W2 cap (h : BytesAt W2 (some ⟨W, 0, none⟩) u.size u.data.toList) => chain_any (some ⟨W, 0, none⟩) u.data.toList u.size cap (ofN x []) (by omega) hH W2 h
    have hun : c ≠ 0 → ofN (bits .xor .i64 x (c : Int)) [] ≠ ofN x [] := salt_unlike x hc
    have e0 : (⟨#[]⟩ : ByteArray).data.toList = [] := rfl
    rw [e0] at c1 c3
    obtain ⟨H, hHe⟩ : ∃ H, ofN x [] = H := ⟨_, rfl⟩
    obtain ⟨r, hr⟩ : ∃ r, chain H u.data.toList = r := ⟨_, rfl⟩
    obtain ⟨ra, hra⟩ : ∃ r, ofN x (u.data.toList ++ [97]) = r := ⟨_, rfl⟩
    obtain ⟨rb, hrb⟩ : ∃ r, ofN x (u.data.toList ++ [98]) = r := ⟨_, rfl⟩
    obtain ⟨y, hy⟩ : ∃ y, bits .xor .i64 x (c : Int) = y := ⟨_, rfl⟩
    obtain ⟨rc, hrc⟩ : ∃ r, ofN y [] = r := ⟨_, rfl⟩
    rw [hHe] at c1 c2 hun
    simp only [hHe] at cC
    rw [hr] at c2
    simp only [hr] at cC
    rw [hra] at c4 hne
    rw [hrb] at c5 hne
    rw [hy, hrc] at c3 hun
    have hneb : ((ra : Int) != (rb : Int)) = true := by simp; omega
    clear ea eb e0 hHe hr hra hrb hrc hne hH
    have b1 : ¬ 9223372036854775807 < u.size + 1 := by omega
    have hcv : ∀ W, ∃ cap W2, (convert 9 23 (.string u)).run Try.prog W = .ok (.slice (some ⟨W.heap.size, 0, none⟩) u.size cap) W2 ∧ BytesAt W2 (some ⟨W.heap.size, 0, none⟩) u.size u.data.toList ∧ Below W.heap.size W W2 := fun W => conv_str W u
    go_enter Try.func5, Try.ntmps5
    go_wp2_with fail
    refine (cK).mono ?_
    rintro e w1 ⟨rfl, hB1⟩
    go_wp2_with fail
    refine (c1 _).mono ?_
    rintro e w2 ⟨rfl, hB2⟩
    go_wp2_with fail
    refine (c2 _).mono ?_
    rintro e w3 ⟨rfl, hB3⟩
    have hB4 := Below.then (Below.then hB1 hB2) hB3
    obtain ⟨cap, w4, hcr, hba, hB5⟩ := hcv w3
    have cC' := cC _ _ cap hba
    clear hcv cC
    have hB6 := Below.then hB4 hB5
    go_wp2_with fail
    refine (cC').mono ?_
    rintro e w5 ⟨rfl, hB7⟩
    have hB8 := Below.then hB6 hB7
    clear cC'
    by_cases h0 : c = 0
    · have d0 : ((c : Int) == 0) = true := by simp; omega
      subst h0
      go_wp2_with fail
      refine (c4 _).mono ?_
      rintro e w6 ⟨rfl, hB9⟩
      go_wp2_with fail
      refine (c5 _).mono ?_
      rintro e w7 ⟨rfl, hB10⟩
      go_wp2_with fail
      go_ret
      exact ⟨by simp, Below.then (Below.then hB8 hB9) hB10⟩
    · have d0 : ((c : Int) == 0) = false := by simp; omega
      have hu2 := hun h0
      have hu3 : ((rc : Int) != (H : Int)) = true := by simp; omega
      clear hun hu2
      go_wp2_with fail
      refine (c3 _).mono ?_
      rintro e w8 ⟨rfl, hB11⟩
      have hB12 := Below.then hB8 hB11
      go_wp2_with fail
      refine (c4 _).mono ?_
      rintro e w6 ⟨rfl, hB9⟩
      go_wp2_with fail
      refine (c5 _).mono ?_
      rintro e w7 ⟨rfl, hB10⟩
      go_wp2_with fail
      go_ret
      exact ⟨by simp, Below.then (Below.then hB12 hB9) hB10⟩
end Go.Proofs.Ytplhleggemafbaa
