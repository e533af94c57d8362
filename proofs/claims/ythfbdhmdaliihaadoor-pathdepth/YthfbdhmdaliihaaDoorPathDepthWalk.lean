/-
  PathDepth: the walk.
-/
import Derived.Test.YthfbdhmdaliihaaDoorPathInWalk
namespace Go.Proofs.YthfbdhmdaliihaaDoor
open Go.RowKit
set_option linter.unusedSimpArgs false
set_option linter.unusedVariables false

/-- A name of one letter, so many times. -/
def runS (z j : Nat) : ByteArray := ⟨(List.replicate z (UInt8.ofNat (97 + j))).toArray⟩
def runs (z n : Nat) : List ByteArray := (List.range n).map (runS z)
theorem runs_succ (z n : Nat) : runs z (n + 1) = runs z n ++ [runS z n] := by simp [runs, List.range_succ]
theorem runs_len (z n : Nat) : (runs z n).length = n := by simp [runs]
theorem runS_size (z j : Nat) : (runS z j).size = z := by simp [runS, ByteArray.size]
theorem letter_nat {j : Nat} (h : j < 26) : (UInt8.ofNat (97 + j)).toNat = 97 + j := by simp; omega
theorem runS_ok {z j : Nat} (h : j < 26) : (runS z j).data.toList.all okB = true := by
  simp only [runS, List.all_eq_true]
  intro c hc
  have := List.eq_of_mem_replicate hc
  subst this
  simp [okB, letter_nat h]
  omega
theorem runS_name {z j : Nat} (h : j < 26) : name (runS z j) = (decide (1 ≤ z) && decide (z ≤ 12)) := by
  rw [name, runS_size, runS_ok h, Bool.and_true]
theorem runS_flat {z j : Nat} (h : j < 26) : Flat (runS z j) := by
  intro c hc e
  have := List.all_eq_true.1 (runS_ok (z := z) h) c hc
  rw [e] at this
  revert this
  decide
theorem runs_flat {z n : Nat} (hz : 1 ≤ z) (h : n ≤ 26) : ∀ x ∈ runs z n, Flat x ∧ 1 ≤ x.size := by
  intro x hx
  obtain ⟨j, hj, rfl⟩ := List.mem_map.1 hx
  rw [List.mem_range] at hj
  exact ⟨runS_flat (by omega), by rw [runS_size]; exact hz⟩
theorem runs_body (z : Nat) : ∀ n, (body (runs z n)).length = n * (z + 1)
  | 0 => by simp [runs, body]
  | n + 1 => by
    rw [runs_succ, body_append, List.length_append, runs_body z n, body_one, List.length_cons, bytes_len, runS_size, Nat.succ_mul]
theorem runs_all {z n : Nat} (hz : 1 ≤ z) (hn : 1 ≤ n) (h : n ≤ 26) : (runs z n).all name = decide (z ≤ 12) := by
  by_cases hle : z ≤ 12
  · rw [decide_eq_true hle, List.all_eq_true]
    intro x hx
    obtain ⟨j, hj, rfl⟩ := List.mem_map.1 hx
    rw [List.mem_range] at hj
    rw [runS_name (by omega)]
    simp [hz, hle]
  · rw [decide_eq_false hle]
    obtain ⟨m, rfl⟩ : ∃ m, n = m + 1 := ⟨n - 1, by omega⟩
    rw [runs_succ, List.all_append, Bool.and_eq_false_iff]
    right
    simp [runS_name (z := z) (j := m) (by omega), hle]
theorem runs_ne {z n : Nat} (hn : 1 ≤ n) : runs z n ≠ [] := fun e => by
  have := congrArg List.length e
  rw [runs_len] at this
  simp at this
  omega
theorem runs_check {z n : Nat} (hz : 1 ≤ z) (hn : 1 ≤ n) (h : n ≤ 26) : checkOf (pathB (runs z n)) = if 78 < (pathB (runs z n)).size then 5 else if 6 < n then 1 else if z ≤ 12 then 0 else 1 := by
  rw [check_any_names (runs_flat hz h) (runs_ne hn), runs_len, runs_all hz hn h]
  simp
theorem runs_names {z n : Nat} (hz : 1 ≤ z) (hz2 : z ≤ 12) (hn : n ≤ 6) : Names (runs z n) := by
  refine ⟨by rw [runs_len]; exact hn, fun x hx => ?_⟩
  obtain ⟨j, hj, rfl⟩ := List.mem_map.1 hx
  rw [List.mem_range] at hj
  rw [runS_name (by omega)]
  simp [hz, hz2]
theorem runs_take (z n : Nat) {k : Nat} (h : k ≤ n) : (runs z n).take k = runs z k := by
  unfold runs
  rw [← List.map_take, List.take_range, Nat.min_eq_left h]
theorem up_last {z n k : Nat} (hz : 1 ≤ z) (h26 : n ≤ 26) (h : k < n) : ∃ j, lastOf (upOf (runs z n) k) = runS z j := by
  obtain ⟨m, hm⟩ : ∃ m, n - k = m + 1 := ⟨n - k - 1, by omega⟩
  refine ⟨m, ?_⟩
  rw [up_path (by rw [runs_len]; omega), runs_len, runs_take z n (by omega), hm, runs_succ]
  exact last_path (runS_flat (by omega)) (by rw [runS_size]; exact hz)

set_option maxRecDepth 8000 in
set_option maxHeartbeats 1000000 in
theorem pathDepth_walk (x y : Int) (w : World) (hV : MaxV w) :
    Calls Tryd.prog 6 #[.int .i64 x, .int .i64 y] w fun e w' => e = .returned (.bool true) ∧ Below w.heap.size w w' := by
  have cK := known_any
  obtain ⟨p, hp⟩ : ∃ p : Nat, x % 8 = (p : Int) := ⟨(x % 8).toNat, by omega⟩
  obtain ⟨z, hz⟩ : ∃ z : Nat, y % 14 = (z : Int) := ⟨(y % 14).toNat, by omega⟩
  have hp8 : p < 8 := by omega
  have hz14 : z < 14 := by omega
  have cW1 := fun W => within_any x 8 (by omega) (by omega) W
  have cW2 := fun W => within_any y 14 (by omega) (by omega) W
  rw [hp] at cW1
  rw [hz] at cW2
  clear hp hz
  go_enter Tryd.func6, Tryd.ntmps6
  go_wp2_with fail
  refine (cK _).mono ?_
  rintro e w' ⟨rfl, hw'⟩
  have hw' := hw'.symm
  subst hw'
  go_wp2_with fail
  refine (cW1 _).mono ?_
  rintro e w' ⟨rfl, hw'⟩
  have hw' := hw'.symm
  subst hw'
  go_wp2_with fail
  refine (cW2 _).mono ?_
  rintro e w' ⟨rfl, hw'⟩
  have hw' := hw'.symm
  subst hw'
  clear cK cW1 cW2
  go_wp2_with fail
  go_loopw [5, 6] (fun t5 t6 wr => ∃ (k : Nat) (S : ByteArray), k ≤ p + 1 ∧ t6 = .int .i64 (k : Int) ∧ t5 = .string S ∧ bytes S = body (runs (z + 1) k) ∧ Below w.heap.size w wr) (fun _ t6 _ => p + 1 - (Go.RowKit.intOf t6).toNat)
  case atStart => exact ⟨0, ⟨#[]⟩, by omega, rfl, rfl, rfl, Below.refl _ _⟩
  case round =>
    obtain ⟨k, S, hk, rfl, rfl, hS, hB⟩ := hrel
    have hSl : S.size = k * (z + 2) := by rw [← bytes_len, hS, runs_body]
    have hSb : S.size ≤ 200 := by
      rw [hSl]
      have : k * (z + 2) ≤ 8 * 15 := Nat.mul_le_mul (by omega) (by omega)
      omega
    by_cases hlt : k < p + 1
    · have i1 : (k : Int) < 1 + (p : Int) := by omega
      have hnext : body (runs (z + 1) (k + 1)) = bytes S ++ 47 :: List.replicate (z + 1) (UInt8.ofNat (97 + k)) := by
        rw [runs_succ, body_append, body_one, hS]
        rfl
      have b1 : ¬ 9223372036854775807 < S.size + 1 := by omega
      clear hSl
      go_wp2_with fail
      go_loopw [5, 7] (fun t5 t7 wq => ∃ (i : Nat) (S2 : ByteArray), i ≤ z + 1 ∧ t7 = .int .i64 (i : Int) ∧ t5 = .string S2 ∧ bytes S2 = bytes S ++ 47 :: List.replicate i (UInt8.ofNat (97 + k)) ∧ Below w.heap.size w wq) (fun _ t7 _ => z + 1 - (Go.RowKit.intOf t7).toNat)
      case atStart => exact ⟨0, _, by omega, rfl, rfl, by rw [bytes_append]; rfl, hB⟩
      case round =>
        obtain ⟨i, S2, hi, rfl, rfl, hS2, hB2⟩ := hrel
        by_cases hilt : i < z + 1
        · have i2 : (i : Int) < 1 + (z : Int) := by omega
          have hcv := conv_chr wr (97 + k) (by omega)
          have b2 : ¬ 9223372036854775807 < S2.size + 1 := by
            have := congrArg List.length hS2
            rw [bytes_len, List.length_append, bytes_len] at this
            simp at this
            omega
          have hwr : IntKind.u8.wrap (97 + (k : Int)) = 97 + (k : Int) := Go.IntWalk.u8_in _ (by omega)
          rw [show ((97 + k : Nat) : Int) = 97 + (k : Int) by omega] at hcv
          have hsz1 : (chr (97 + k)).size = 1 := rfl
          have hBn : Below w.heap.size w (wr.alloc (.cells #[.int .u8 (97 + (k : Int))] 5)) := hB2.alloc hB2.size _
          go_wp2_with fail
          go_roundw
          case rel => exact ⟨i + 1, S2 ++ chr (97 + k), by omega, by simp, rfl, by rw [bytes_append, hS2, List.replicate_succ']; simp [chr, bytes], hBn⟩
          case measure => simp [Go.RowKit.intOf]; omega
        · obtain rfl : i = z + 1 := by omega
          have i2 : ¬ ((z : Int) + 1) < 1 + (z : Int) := by omega
          have hfin : bytes S2 = body (runs (z + 1) (k + 1)) := by rw [hS2, hnext]
          go_wp2_with fail
          go_roundw
          case rel => exact ⟨k + 1, S2, by omega, by simp, rfl, hfin, hB2⟩
          case measure => simp [Go.RowKit.intOf]; omega
    · obtain rfl : k = p + 1 := by omega
      have i1 : ¬ ((p : Int) + 1) < 1 + (p : Int) := by omega
      have hSe : S = pathB (runs (z + 1) (p + 1)) := bytes_inj (by rw [hS, pathB_bytes (runs_ne (by omega))])
      have hck := runs_check (z := z + 1) (n := p + 1) (by omega) (by omega) (by omega)
      rw [← hSe] at hck
      have cC := check_any S (by omega) wr (hV.below hB)
      obtain ⟨r, hr⟩ : ∃ r, checkOf S = r := ⟨_, rfl⟩
      rw [hr] at cC hck
      by_cases h78 : 78 < S.size
      · rw [if_pos h78] at hck
        subst hck
        have i3 : (78 : Int) < (S.size : Int) := by omega
        clear hr hSe hS hSl hlt
        as_aux_lemma =>
          go_wp2_with fail
          refine (cC).mono ?_
          rintro e w2 ⟨rfl, hB2⟩
          go_wp2_with fail
          go_ret
          exact ⟨rfl, Below.then hB hB2⟩
      rw [if_neg h78] at hck
      have i3 : ¬ (78 : Int) < (S.size : Int) := by omega
      by_cases h6 : 6 < p + 1
      · rw [if_pos h6] at hck
        subst hck
        have i4 : (6 : Int) < 1 + (p : Int) := by omega
        clear hr hSe hS hSl hlt h6
        as_aux_lemma =>
          go_wp2_with fail
          refine (cC).mono ?_
          rintro e w2 ⟨rfl, hB2⟩
          go_wp2_with fail
          go_ret
          exact ⟨rfl, Below.then hB hB2⟩
      rw [if_neg h6] at hck
      have i4 : ¬ (6 : Int) < 1 + (p : Int) := by omega
      by_cases h12 : z + 1 ≤ 12
      case neg =>
        rw [if_neg h12] at hck
        subst hck
        have i5 : (12 : Int) < 1 + (z : Int) := by omega
        clear hr hSe hS hSl hlt h6 h12
        as_aux_lemma =>
          go_wp2_with fail
          refine (cC).mono ?_
          rintro e w2 ⟨rfl, hB2⟩
          go_wp2_with fail
          go_ret
          exact ⟨rfl, Below.then hB hB2⟩
      rw [if_pos h12] at hck
      subst hck
      have i5 : ¬ (12 : Int) < 1 + (z : Int) := by omega
      have hA := runs_names (z := z + 1) (n := p + 1) (by omega) h12 (by omega)
      have hAl := runs_len (z + 1) (p + 1)
      have cT := fun W hW => parts_any S (by omega) W hW
      have hpp : ppartsOf S = runs (z + 1) (p + 1) := by rw [hSe, pparts_eq path_head, parts_path hA.flat]
      rw [hpp] at cT
      have hU0 : S = upOf (runs (z + 1) (p + 1)) 0 := by rw [up_zero, hSe]
      have hus : ∀ k, k ≤ p + 1 → (upOf (runs (z + 1) (p + 1)) k).size ≤ 78 := fun k hk => by rw [up_path (by omega)]; exact names_size (hA.take _)
      have cP : ∀ k, k ≤ p + 1 → ∀ W, Calls Tryd.prog 15 #[.string (upOf (runs (z + 1) (p + 1)) k)] W fun e w' => e = .returned (.string (upOf (runs (z + 1) (p + 1)) (k + 1))) ∧ w' = W := fun k hk W => by
        have := parent_any (upOf (runs (z + 1) (p + 1)) k) (by have := hus k hk; omega) (by rw [up_path (by omega)]; exact path_head) W
        rw [up_parent hA (by omega)] at this
        exact this
      have cL : ∀ k, k < p + 1 → ∃ d : ByteArray, (d.size : Int) = 1 + (z : Int) ∧ ∀ W, Calls Tryd.prog 17 #[.string (upOf (runs (z + 1) (p + 1)) k)] W fun e w' => e = .returned (.string d) ∧ w' = W := fun k hk => by
        obtain ⟨j, hj⟩ := up_last (z := z + 1) (n := p + 1) (by omega) (by omega) hk
        refine ⟨runS (z + 1) j, by rw [runS_size]; omega, fun W => ?_⟩
        have := last_any (upOf (runs (z + 1) (p + 1)) k) (by have := hus k (by omega); omega) (by rw [up_path (by omega)]; exact path_head) W
        rw [hj] at this
        exact this
      have hroot : upOf (runs (z + 1) (p + 1)) (p + 1) = ⟨#[47]⟩ := by
        rw [up_path (by omega), hAl, Nat.sub_self, List.take_zero, pathB_nil]
        rfl
      have cRp := parent_any ⟨#[47]⟩ (by decide) rfl
      have cRl := last_any ⟨#[47]⟩ (by decide) rfl
      have cRt := fun W hW => parts_any ⟨#[47]⟩ (by decide) W hW
      rw [show parentOf ⟨#[47]⟩ = ⟨#[]⟩ by decide +kernel] at cRp
      rw [show lastOf ⟨#[47]⟩ = ⟨#[]⟩ by decide +kernel] at cRl
      have hpr : ppartsOf ⟨#[47]⟩ = [] := by rw [ppartsOf, if_pos (by decide +kernel)]
      rw [hpr] at cRt
      obtain ⟨A, hAe⟩ : ∃ A, runs (z + 1) (p + 1) = A := ⟨_, rfl⟩
      rw [hAe] at cT hU0 cP hAl hroot
      simp only [hAe] at cL
      obtain ⟨U, hU⟩ : ∃ U, upOf A = U := ⟨_, rfl⟩
      rw [hU] at cP hU0 hroot
      simp only [hU] at cL
      obtain ⟨ln, hln⟩ : ∃ ln, A.length = ln := ⟨_, rfl⟩
      have hlp : (ln : Int) = 1 + (p : Int) := by omega
      have hU0' : Aside (U 0 = S) := hU0.symm
      clear hr hSe hS hSl hlt h6 h12 hA hpp hus hAe hU hpr hU0
      go_wp2_with fail
      refine (cC).mono ?_
      rintro e w2 ⟨rfl, hB2⟩
      have hB3 := Below.then hB hB2
      go_wp2_with fail
      refine (cT _ (hV.below hB3)).mono ?_
      rintro e w3 ⟨v, rfl, ho, hB4⟩
      obtain ⟨av, cap, rfl⟩ := ho.slice hln
      have hB5 := Below.then hB3 hB4
      clear hB hB2 hB3 hB4 cC cT
      go_wp2_with fail
      go_loopw [5, 9] (fun t5 t9 wr => ∃ k : Nat, k ≤ p + 1 ∧ t9 = .int .i64 (k : Int) ∧ t5 = .string (U k) ∧ wr = w3) (fun _ t9 _ => p + 1 - (Go.RowKit.intOf t9).toNat)
      case atStart => exact ⟨0, by omega, rfl, by rw [hU0'.out], rfl⟩
      case round =>
        obtain ⟨k, hk, rfl, rfl, rfl⟩ := hrel
        by_cases hlt : k < p + 1
        · have i6 : (k : Int) < 1 + (p : Int) := by omega
          obtain ⟨d, hd, cLk⟩ := cL k hlt
          have cPk := cP k (by omega)
          clear cL cP cRp cRl cRt hroot hU0' i1
          as_aux_lemma =>
            go_wp2_with fail
            refine (cLk _).mono ?_
            rintro e w' ⟨rfl, hw'⟩
            have hw' := hw'.symm
            subst hw'
            go_wp2_with fail
            refine (cPk _).mono ?_
            rintro e w' ⟨rfl, hw'⟩
            have hw' := hw'.symm
            subst hw'
            go_wp2_with fail
            go_roundw
            case rel => exact ⟨k + 1, by omega, by simp, rfl, trivial⟩
            case measure => simp [Go.RowKit.intOf]; omega
        · obtain rfl : k = p + 1 := by omega
          rw [hroot]
          clear cL cP hroot hU0' hlt
          as_aux_lemma =>
            go_wp2_with fail
            refine (cRp _).mono ?_
            rintro e w' ⟨rfl, hw'⟩
            have hw' := hw'.symm
            subst hw'
            go_wp2_with fail
            refine (cRl _).mono ?_
            rintro e w' ⟨rfl, hw'⟩
            have hw' := hw'.symm
            subst hw'
            go_wp2_with fail
            refine (cRt _ (hV.below hB5)).mono ?_
            rintro e w4 ⟨v, rfl, ho4, hB6⟩
            obtain ⟨av4, cap4, rfl⟩ := ho4.slice (n := 0) rfl
            go_wp2_with fail
            go_ret
            exact ⟨rfl, Below.then hB5 hB6⟩
end Go.Proofs.YthfbdhmdaliihaaDoor
