/-
  PathIn: the walk.
-/
import Derived.Test.YthfbdhmdaliihaaDoorPathDoor
namespace Go.Proofs.YthfbdhmdaliihaaDoor
open Go.RowKit
set_option linter.unusedSimpArgs false
set_option linter.unusedVariables false

/-- The paths that a path goes through, from below: itself, the one above, and so on; behind the root, the empty text. -/
def upOf (A : List ByteArray) (k : Nat) : ByteArray := if k ≤ A.length then pathB (A.take (A.length - k)) else ⟨#[]⟩
/-- Whether one of the first k above is b. -/
def seen (U : Nat → ByteArray) (b : ByteArray) : Nat → Bool
  | 0 => false
  | k + 1 => seen U b k || eqs (U (k + 1)) b
theorem seen_iff (U : Nat → ByteArray) (b : ByteArray) : ∀ k, seen U b k = true ↔ ∃ j, 1 ≤ j ∧ j ≤ k ∧ U j = b
  | 0 => by
    constructor
    · intro h; cases h
    · rintro ⟨j, h1, h2, _⟩; omega
  | k + 1 => by
    unfold seen
    rw [Bool.or_eq_true, seen_iff U b k, eqs_iff]
    constructor
    · rintro (⟨j, h1, h2, h3⟩ | h)
      · exact ⟨j, h1, by omega, h3⟩
      · exact ⟨k + 1, by omega, by omega, h⟩
    · rintro ⟨j, h1, h2, h3⟩
      by_cases e : j = k + 1
      · subst e; exact .inr h3
      · exact .inl ⟨j, h1, by omega, h3⟩
theorem Names.take {A : List ByteArray} (h : Names A) (k : Nat) : Names (A.take k) := ⟨by have := h.1; rw [List.length_take]; omega, fun m hm => h.2 m (List.mem_of_mem_take hm)⟩
theorem up_path {A : List ByteArray} {k : Nat} (h : k ≤ A.length) : upOf A k = pathB (A.take (A.length - k)) := by rw [upOf, if_pos h]
theorem up_zero (A : List ByteArray) : upOf A 0 = pathB A := by rw [up_path (by omega), Nat.sub_zero, List.take_length]
theorem up_root (A : List ByteArray) : upOf A (A.length + 1) = ⟨#[]⟩ := by rw [upOf, if_neg (by omega)]
theorem up_parent {A : List ByteArray} (hA : Names A) {k : Nat} (h : k ≤ A.length) : parentOf (upOf A k) = upOf A (k + 1) := by
  rw [up_path h]
  by_cases e : k = A.length
  · subst e
    rw [up_root, Nat.sub_self, List.take_zero, parent_root]
  · rw [up_path (by omega)]
    obtain ⟨x, hx⟩ : ∃ x, A[A.length - (k + 1)]? = some x := ⟨_, List.getElem?_eq_getElem (by omega)⟩
    have hm := hA.flat x (List.mem_of_getElem? hx)
    rw [show A.length - k = (A.length - (k + 1)) + 1 by omega, List.take_add_one, hx]
    exact parent_path hm.1 hm.2
theorem path_inj {A B : List ByteArray} (hA : Names A) (hB : Names B) (h : pathB A = pathB B) : A = B := by
  rw [← parts_path hA.flat, h, parts_path hB.flat]
theorem up_below {A : List ByteArray} (hA : Names A) {k : Nat} (h1 : 1 ≤ k) (h : k ≤ A.length) : pinOf (pathB A) (upOf A k) = true := by
  rw [up_path h]
  refine (pin_path hA.flat (hA.take _).flat).2 ⟨A.drop (A.length - k), (List.take_append_drop _ _).symm, fun e => ?_⟩
  have := congrArg List.length e
  rw [List.length_drop] at this
  simp at this
  omega
theorem up_above {A : List ByteArray} (hA : Names A) {k : Nat} (h : k ≤ A.length) : pinOf (upOf A k) (pathB A) = false := by
  rw [up_path h]
  cases e : pinOf (pathB (A.take (A.length - k))) (pathB A)
  · rfl
  · obtain ⟨c, hc, hne⟩ := (pin_path (hA.take _).flat hA.flat).1 e
    have := congrArg List.length hc
    rw [List.length_take, List.length_append] at this
    cases c with
    | nil => exact absurd rfl hne
    | cons x y => simp at this; omega
theorem up_seen {A B : List ByteArray} (hA : Names A) (hB : Names B) : pinOf (pathB A) (pathB B) = seen (upOf A) (pathB B) A.length := by
  have h : pinOf (pathB A) (pathB B) = true ↔ seen (upOf A) (pathB B) A.length = true := by
    rw [pin_path hA.flat hB.flat, seen_iff]
    constructor
    · rintro ⟨c, rfl, hne⟩
      have hl : (B ++ c).length = B.length + c.length := List.length_append
      refine ⟨c.length, ?_, by omega, ?_⟩
      · cases c with
        | nil => exact absurd rfl hne
        | cons x y => simp
      · rw [up_path (by omega), hl, Nat.add_sub_cancel, List.take_left]
    · rintro ⟨j, h1, h2, h3⟩
      rw [up_path h2] at h3
      have := path_inj (hA.take _) hB h3
      refine ⟨A.drop (A.length - j), by rw [← this, List.take_append_drop], fun e => ?_⟩
      have := congrArg List.length e
      rw [List.length_drop] at this
      simp at this
      omega
  cases h1 : pinOf (pathB A) (pathB B)
  · cases h2 : seen (upOf A) (pathB B) A.length
    · rfl
    · rw [h.2 h2] at h1; cases h1
  · exact (h.1 h1).symm
theorem up_filled (A : List ByteArray) {k : Nat} (h : k ≤ A.length) : ¬ (upOf A k).toList = [] := by
  rw [up_path h, toL]
  intro e
  obtain ⟨t, ht⟩ := head_pos (path_head (ns := A.take (A.length - k)))
  have e2 : bytes (pathB (A.take (A.length - k))) = [] := e
  rw [e2] at ht
  cases ht

theorem up_less {A : List ByteArray} (hA : Names A) {k : Nat} (h : k ≤ A.length) : (upOf A (k + 1)).size < (upOf A k).size := by
  rw [up_path h]
  by_cases e : k = A.length
  · subst e
    rw [up_root, Nat.sub_self, List.take_zero, pathB_nil]
    decide
  · rw [up_path (by omega)]
    obtain ⟨x, hx⟩ : ∃ x, A[A.length - (k + 1)]? = some x := ⟨_, List.getElem?_eq_getElem (by omega)⟩
    have hm := hA.flat x (List.mem_of_getElem? hx)
    rw [show A.length - k = (A.length - (k + 1)) + 1 by omega, List.take_add_one, hx]
    show _ < (pathB (A.take (A.length - (k + 1)) ++ [x])).size
    rw [path_size]
    by_cases e0 : A.take (A.length - (k + 1)) = []
    · rw [e0, pathB_nil, slash_size]
      omega
    · rw [← bytes_len, pathB_bytes e0]
      omega
def strLen : Value → Nat
  | .string s => s.size
  | _ => 0
theorem strLen_string (s : ByteArray) : strLen (.string s) = s.size := rfl

set_option maxRecDepth 8000 in
set_option maxHeartbeats 4000000 in
theorem pathIn_walk (al am : Option Addr) (l m : List Int) (nl cl nm cm : Nat) (w : World) (hl : IntsAt w al nl l) (hm : IntsAt w am nm m) (hV : MaxV w) :
    Calls Tryd.prog 5 #[.slice al nl cl, .slice am nm cm] w fun e w' => e = .returned (.bool true) ∧ Below w.heap.size w w' := by
  have cK := known_any
  have cO1 := of_any al l nl cl w hl.1 hl.2.1 hl.2.2
  have cO2 := fun W (hW : Below w.heap.size w W) => of_any am m nm cm W (hm.below hW).1 (hm.below hW).2.1 (hm.below hW).2.2
  have hA := namesOf_names l
  have hB := namesOf_names m
  obtain ⟨A, hAe⟩ : ∃ A, namesOf l = A := ⟨_, rfl⟩
  obtain ⟨B, hBe⟩ : ∃ B, namesOf m = B := ⟨_, rfl⟩
  rw [hAe] at cO1 hA
  rw [hBe] at cO2 hB
  have ha78 := names_size hA
  have hb78 := names_size hB
  have cC1 := check_any (pathB A) (by omega)
  have cC2 := check_any (pathB B) (by omega)
  rw [check_names hA] at cC1
  rw [check_names hB] at cC2
  have hus : ∀ k, k ≤ A.length → (upOf A k).size ≤ 78 := fun k hk => by rw [up_path hk]; exact names_size (hA.take _)
  have cP : ∀ k, k ≤ A.length → ∀ W, Calls Tryd.prog 15 #[.string (upOf A k)] W fun e w' => e = .returned (.string (upOf A (k + 1))) ∧ w' = W := fun k hk W => by
    have := parent_any (upOf A k) (by have := hus k hk; omega) (by rw [up_path hk]; exact path_head) W
    rw [up_parent hA hk] at this
    exact this
  have cI1 : ∀ k, 1 ≤ k → k ≤ A.length → ∀ W, Calls Tryd.prog 21 #[.string (pathB A), .string (upOf A k)] W fun e w' => e = .returned (.bool true) ∧ w' = W := fun k h1 hk W => by
    have := in_any (pathB A) (upOf A k) (by omega) (by have := hus k hk; omega) W
    rw [up_below hA h1 hk] at this
    exact this
  have cI2 : ∀ k, k ≤ A.length → ∀ W, Calls Tryd.prog 21 #[.string (upOf A k), .string (pathB A)] W fun e w' => e = .returned (.bool false) ∧ w' = W := fun k hk W => by
    have := in_any (upOf A k) (pathB A) (by have := hus k hk; omega) (by omega) W
    rw [up_above hA hk] at this
    exact this
  have cAB := in_any (pathB A) (pathB B) (by omega) (by omega)
  rw [up_seen hA hB] at cAB
  have cAA := cI2 0 (by omega)
  have cP0 := cP 0 (by omega)
  rw [up_zero] at cAA cP0
  have hfill := fun k => up_filled A (k := k)
  have hless := fun k => up_less hA (k := k)
  have hroot := up_root A
  have hl6 := hA.1
  obtain ⟨U, hU⟩ : ∃ U, upOf A = U := ⟨_, rfl⟩
  rw [hU] at cP cI1 cI2 cAB cP0 hroot
  simp only [hU] at hfill hless
  obtain ⟨a, ha⟩ : ∃ a, pathB A = a := ⟨_, rfl⟩
  obtain ⟨b, hb⟩ : ∃ b, pathB B = b := ⟨_, rfl⟩
  obtain ⟨ln, hln⟩ : ∃ ln, A.length = ln := ⟨_, rfl⟩
  rw [ha] at cO1 cC1 cI1 cI2 cAB cAA cP0
  rw [hb] at cO2 cC2 cAB
  rw [hln] at cP cI1 cI2 cAB hroot hl6
  simp only [hln] at hfill hless
  have hs0 : seen U b 0 = false := rfl
  have hsn : ∀ k, seen U b (k + 1) = (seen U b k || ((U (k + 1)).toList == b.toList)) := fun _ => rfl
  obtain ⟨I, hI⟩ : ∃ I, seen U b = I := ⟨_, rfl⟩
  rw [hI] at hs0 cAB
  simp only [hI] at hsn
  clear hI ha hb hln hU hus ha78 hb78 hAe hBe hA hB
  go_enter Tryd.func5, Tryd.ntmps5
  go_wp2_with fail
  refine (cK _).mono ?_
  rintro e w' ⟨rfl, hw'⟩
  have hw' := hw'.symm
  subst hw'
  go_wp2_with fail
  refine (cO1).mono ?_
  rintro e w1 ⟨rfl, hB1⟩
  go_wp2_with fail
  refine (cO2 _ hB1).mono ?_
  rintro e w2 ⟨rfl, hB2⟩
  have hB12 := Below.then hB1 hB2
  go_wp2_with fail
  refine (cC1 _ (hV.below hB12)).mono ?_
  rintro e w3 ⟨rfl, hB3⟩
  have hB123 := Below.then hB12 hB3
  go_wp2_with fail
  refine (cC2 _ (hV.below hB123)).mono ?_
  rintro e w4 ⟨rfl, hB4⟩
  have hBe := Below.then hB123 hB4
  clear hB1 hB2 hB12 hB3 hB123 hB4 cC1 cC2 cO1 cO2 hl hm cK hV
  go_wp2_with fail
  refine (cP0 _).mono ?_
  rintro e w' ⟨rfl, hw'⟩
  have hw' := hw'.symm
  subst hw'
  go_wp2_with fail
  go_loopw [7, 8] (fun t7 t8 wr => ∃ k : Nat, k ≤ ln ∧ t7 = .bool (I k) ∧ t8 = .string (U (k + 1)) ∧ wr = w4) (fun _ t8 _ => strLen t8)
  case atStart => exact ⟨0, by omega, by rw [hs0], rfl, rfl⟩
  case round =>
    obtain ⟨k, hk, rfl, rfl, rfl⟩ := hrel
    by_cases hlt : k < ln
    · have c1 := cI1 (k + 1) (by omega) (by omega)
      have c2 := cI2 (k + 1) (by omega)
      have c3 := cP (k + 1) (by omega)
      have hf := hfill (k + 1) (by omega)
      have hf2 : (U (k + 1)).toList.isEmpty = false := by simpa using hf
      have hless := hless (k + 1) (by omega)
      have hn := hsn k
      obtain ⟨p, hp⟩ : ∃ p, U (k + 1) = p := ⟨_, rfl⟩
      rw [hp] at c1 c2 c3 hf hf2 hn hless ⊢
      clear hf
      obtain ⟨i0, hi0⟩ : ∃ i0, I k = i0 := ⟨_, rfl⟩
      rw [hi0] at hn ⊢
      clear cI1 cI2 cP hfill hsn cAB cAA cP0 hs0 hroot hi0
      cases i0
      · rw [Bool.false_or] at hn
        as_aux_lemma =>
          go_wp2_with fail
          refine (c1 _).mono ?_
          rintro e w' ⟨rfl, hw'⟩
          have hw' := hw'.symm
          subst hw'
          go_wp2_with fail
          refine (c2 _).mono ?_
          rintro e w' ⟨rfl, hw'⟩
          have hw' := hw'.symm
          subst hw'
          go_wp2_with fail
          refine (c3 _).mono ?_
          rintro e w' ⟨rfl, hw'⟩
          have hw' := hw'.symm
          subst hw'
          go_wp2_with fail
          go_roundw
          case rel => exact ⟨k + 1, by omega, by rw [hn], rfl, trivial⟩
          case measure => simp only [strLen_string]; exact hless
      · rw [Bool.true_or] at hn
        as_aux_lemma =>
          go_wp2_with fail
          refine (c1 _).mono ?_
          rintro e w' ⟨rfl, hw'⟩
          have hw' := hw'.symm
          subst hw'
          go_wp2_with fail
          refine (c2 _).mono ?_
          rintro e w' ⟨rfl, hw'⟩
          have hw' := hw'.symm
          subst hw'
          go_wp2_with fail
          refine (c3 _).mono ?_
          rintro e w' ⟨rfl, hw'⟩
          have hw' := hw'.symm
          subst hw'
          go_wp2_with fail
          go_roundw
          case rel => exact ⟨k + 1, by omega, by rw [hn], rfl, trivial⟩
          case measure => simp only [strLen_string]; exact hless
    · obtain rfl : k = ln := by omega
      rw [hroot]
      clear cI1 cI2 cP hfill hless hsn cP0 hs0 hroot
      as_aux_lemma =>
        go_wp2_with fail
        refine (cAB _).mono ?_
        rintro e w' ⟨rfl, hw'⟩
        have hw' := hw'.symm
        subst hw'
        go_wp2_with fail
        refine (cAA _).mono ?_
        rintro e w' ⟨rfl, hw'⟩
        have hw' := hw'.symm
        subst hw'
        go_wp2_with fail
        go_ret
        exact ⟨by simp, hBe⟩
end Go.Proofs.YthfbdhmdaliihaaDoor
