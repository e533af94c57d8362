/-
  PathParts: the walk.
-/
import Derived.Test.YthfbdhmdaliihaaDoorPathFns
import Derived.Deep.RegionHeld
namespace Go.Proofs.YthfbdhmdaliihaaDoor
open Go.RowKit
set_option linter.unusedSimpArgs false
set_option linter.unusedVariables false

theorem Names.both {ns : List ByteArray} (h : Names ns) : ∀ n ∈ ns, Flat n ∧ 1 ≤ n.size := fun n hn => ⟨name_flat (h.2 n hn), (name_size (h.2 n hn)).1⟩
theorem path_short {ns : List ByteArray} (h : Names ns) : (pathB ns).size ≤ 78 := by
  by_cases h0 : ns = []
  · subst h0; rw [pathB_nil]; decide
  · rw [← bytes_len, pathB_bytes h0]
    have := body_len ns h.2
    have := h.1
    omega
theorem list_back {α : Type} {l : List α} (h : l ≠ []) : ∃ r x, l = r ++ [x] := ⟨l.dropLast, l.getLast h, (List.dropLast_concat_getLast h).symm⟩

set_option maxRecDepth 8000 in
set_option maxHeartbeats 4000000 in
/-- Where all three may be. -/
theorem parts_good (A B : List ByteArray) (n : ByteArray) (hA : Names A) (hB : Names B) (hn : name n = true) (ha78 : (pathB A).size ≤ 78) (hb78 : (pathB B).size ≤ 78) (hca : checkOf (pathB A) = 0) (hcb : checkOf (pathB B) = 0) (w : World) (hV : MaxV w) :
    Calls Tryd.prog 4 #[.string (pathB A), .string (pathB B), .string n] w fun e w' => e = .returned (.bool true) ∧ Below w.heap.size w w' := by
  obtain ⟨hn1, hn12⟩ := name_size hn
  have cK := known_any w
  have c1 := rcheck_any (pathB A) (by omega)
  have c2 := rcheck_any (pathB B) (by omega)
  have c3 := rname_any n (by omega)
  rw [hca] at c1
  rw [hcb] at c2
  rw [hn] at c3
  have c4 := parts_any (pathB A) (by omega)
  have c5 := rparts_any (pathB A) (by omega)
  rw [pparts_eq path_head, parts_path hA.both] at c4
  rw [parts_path hA.both] at c5
  have c6 := parent_any (pathB A) (by omega) path_head
  have c7 := rparent_any (pathB A) (by omega)
  have c8 := last_any (pathB A) (by omega) path_head
  have c9 := rlast_any (pathB A) (by omega)
  have c10 := join_any (pathB A) n (by omega) (by omega)
  have c11 := rjoin_any (pathB A) n (by omega) (by omega)
  have c12 := in_any (pathB A) (pathB B) (by omega) (by omega)
  have c13 := rin_any (pathB A) (pathB B) (by omega) (by omega)
  rw [pin_eq hA.both hB.both] at c12
  rw [join_path n (fun x hx => (hA.both x hx).2)] at c10 c11
  have hJs : (pathB (A ++ [n])).size ≤ 1000 := by
    rw [← bytes_len, pathB_bytes (by simp), body_append, body_one, List.length_append, List.length_cons, bytes_len]
    have := body_len A hA.2
    have := hA.1
    omega
  have c14 := parent_any (pathB (A ++ [n])) (by omega) path_head
  have c15 := last_any (pathB (A ++ [n])) (by omega) path_head
  rw [parent_path (name_flat hn) hn1] at c14
  rw [last_path (name_flat hn) hn1] at c15
  -- the parts joined again
  obtain ⟨T, hT⟩ : ∃ T : Nat → ByteArray, ∀ i, T i = pathB (A.take i) := ⟨_, fun _ => rfl⟩
  have hT0 : T 0 = ⟨#[47]⟩ := by rw [hT, List.take_zero, pathB_nil]; rfl
  have hTn : T A.length = pathB A := by rw [hT, List.take_length]
  have cJ : ∀ i x, A[i]? = some x → ∀ W, Calls Tryd.prog 19 #[.string (T i), .string x] W fun e w' => e = .returned (.string (T (i + 1))) ∧ w' = W := fun i x hx W => by
    have hN : Names (A.take i) := ⟨by have := hA.1; rw [List.length_take]; omega, fun m hm => hA.2 m (List.mem_of_mem_take hm)⟩
    have hxs := name_size (hA.2 x (List.mem_of_getElem? hx))
    have h1 := path_short hN
    have := join_any (T i) x (by rw [hT]; omega) (by omega) W
    rw [hT i, join_path x (fun y hy => (hN.both y hy).2)] at this
    rw [hT i, hT (i + 1), List.take_add_one, hx]
    exact this
  -- Parent and Last joined
  have hPL : eqs (pathB A) slashS = false → ∃ p l, parentOf (pathB A) = p ∧ lastOf (pathB A) = l ∧ ∀ W, Calls Tryd.prog 19 #[.string p, .string l] W fun e w' => e = .returned (.string (pathB A)) ∧ w' = W := fun hne => by
    have hA0 : A ≠ [] := fun e => by
      rw [(path_root (fun x hx => (hA.both x hx).2)).2 e] at hne
      cases hne
    obtain ⟨r, x, rfl⟩ := list_back hA0
    have hx := hA.both x (by simp)
    have hN : Names r := ⟨by have := hA.1; rw [List.length_append] at this; omega, fun m hm => hA.2 m (by simp [hm])⟩
    refine ⟨_, _, parent_path hx.1 hx.2, last_path hx.1 hx.2, fun W => ?_⟩
    have h1 := path_short hN
    have h2 := name_size (hA.2 x (by simp))
    have := join_any (pathB r) x (by omega) (by omega) W
    rw [join_path x (fun y hy => (hN.both y hy).2)] at this
    exact this
  obtain ⟨pa, hpa⟩ : ∃ pa, parentOf (pathB A) = pa := ⟨_, rfl⟩
  obtain ⟨la, hla⟩ : ∃ la, lastOf (pathB A) = la := ⟨_, rfl⟩
  obtain ⟨bi, hbi⟩ : ∃ bi, inOf (pathB A) (pathB B) = bi := ⟨_, rfl⟩
  have hPL2 : eqs (pathB A) slashS = false → ∀ W, Calls Tryd.prog 19 #[.string pa, .string la] W fun e w' => e = .returned (.string (pathB A)) ∧ w' = W := fun h => by
    obtain ⟨p, l, h1, h2, h3⟩ := hPL h
    rw [hpa] at h1
    rw [hla] at h2
    subst h1 h2
    exact h3
  rw [hpa] at c6 c7
  rw [hla] at c8 c9
  rw [hbi] at c12 c13
  clear hPL hpa hla hbi hT
  obtain ⟨a, ha⟩ : ∃ a, pathB A = a := ⟨_, rfl⟩
  obtain ⟨b, hb⟩ : ∃ b, pathB B = b := ⟨_, rfl⟩
  obtain ⟨j, hj⟩ : ∃ j, pathB (A ++ [n]) = j := ⟨_, rfl⟩
  rw [ha] at c1 c4 c5 c6 c7 c8 c9 c10 c11 c12 c13 c14 hPL2 hTn ha78 ⊢
  rw [hb] at c2 c12 c13 hb78 ⊢
  rw [hj] at c10 c11 c14 c15
  have hl6 := hA.1
  clear ha hb hj hca hcb hJs hn hB hA
  obtain ⟨ln, hln⟩ : ∃ ln, A.length = ln := ⟨_, rfl⟩
  rw [hln] at hl6
  rw [hln] at hTn
  have s500 : ¬ (500 : Int) < (a.size : Int) + (b.size : Int) := by omega
  go_enter Tryd.func4, Tryd.ntmps4
  go_wp2_with fail
  refine cK.mono ?_
  rintro e w' ⟨rfl, hw'⟩
  have hw' := hw'.symm
  subst hw'
  go_wp2_with fail
  refine (c1 _).mono ?_
  rintro e w1 ⟨rfl, hB1⟩
  go_wp2_with fail
  refine (c2 _).mono ?_
  rintro e w2 ⟨rfl, hB2⟩
  go_wp2_with fail
  refine (c3 _).mono ?_
  rintro e w3 ⟨rfl, hw'⟩
  have hw' := hw'.symm
  subst hw'
  have hB12 := Below.then hB1 hB2
  go_wp2_with fail
  refine (c4 _ (hV.below hB12)).mono ?_
  rintro e w4 ⟨v4, rfl, ho4, hB4⟩
  go_wp2_with fail
  refine (c5 _).mono ?_
  rintro e w5 ⟨v5, rfl, ho5, hB5⟩
  have ho4' := ho4.below hB5
  have hB45 := Below.then (Below.then hB12 hB4) hB5
  obtain ⟨a4, cap4, rfl⟩ := ho4.slice hln
  obtain ⟨a5, cap5, rfl⟩ := ho5.slice hln
  clear hB1 hB2 hB12 hB4 hB5 c1 c2 c3 c4 c5 ho4
  go_wp2_with fail
  refine (c6 _).mono ?_
  rintro e w' ⟨rfl, hw'⟩
  have hw' := hw'.symm
  subst hw'
  go_wp2_with fail
  refine (c7 _).mono ?_
  rintro e w' ⟨rfl, hw'⟩
  have hw' := hw'.symm
  subst hw'
  go_wp2_with fail
  refine (c8 _).mono ?_
  rintro e w' ⟨rfl, hw'⟩
  have hw' := hw'.symm
  subst hw'
  go_wp2_with fail
  refine (c9 _).mono ?_
  rintro e w' ⟨rfl, hw'⟩
  have hw' := hw'.symm
  subst hw'
  go_wp2_with fail
  refine (c10 _).mono ?_
  rintro e w' ⟨rfl, hw'⟩
  have hw' := hw'.symm
  subst hw'
  go_wp2_with fail
  refine (c11 _).mono ?_
  rintro e w' ⟨rfl, hw'⟩
  have hw' := hw'.symm
  subst hw'
  go_wp2_with fail
  refine (c12 _).mono ?_
  rintro e w' ⟨rfl, hw'⟩
  have hw' := hw'.symm
  subst hw'
  go_wp2_with fail
  refine (c13 _).mono ?_
  rintro e w' ⟨rfl, hw'⟩
  have hw' := hw'.symm
  subst hw'
  clear c7 c9 c11 c12 c13
  go_wp2_with fail
  go_loopw [9, 10] (fun t9 t10 wr => ∃ i : Nat, i ≤ ln ∧ t10 = .int .i64 (i : Int) ∧ t9 = .string (T i) ∧ Below w5.heap.size w5 wr) (fun _ t10 _ => ln - (Go.RowKit.intOf t10).toNat)
  case atStart => exact ⟨0, by omega, rfl, by rw [hT0], Below.refl _ _⟩
  case round =>
    obtain ⟨i, hi, rfl, rfl, hBr⟩ := hrel
    by_cases hlt : i < ln
    · obtain ⟨x, hx⟩ : ∃ x, A[i]? = some x := ⟨_, List.getElem?_eq_getElem (by omega)⟩
      obtain ⟨g4, cap4', hv4, hc4, _, _⟩ := (ho4'.below hBr.drew).at hln hx
      obtain ⟨g5, cap5', hv5, hc5, _, _⟩ := (ho5.below hBr.drew).at hln hx
      injection hv4 with q1 q2 q3
      injection hv5 with q4 q5 q6
      subst q1 q3 q4 q6
      have cJi := cJ i x hx
      have hS0 : (fun W => W.cell? ⟨g4, i, none⟩ = some (.string x) ∧ W.cell? ⟨g5, i, none⟩ = some (.string x)) wr.drew := ⟨hc4, hc5⟩
      clear cJ hT0 hTn c6 c8 c10 c14 c15 hPL2 cK
      as_aux_lemma =>
        go_wp2_with fail
        refine wp_region_held_drew (S := (fun W => W.cell? ⟨g4, i, none⟩ = some (.string x) ∧ W.cell? ⟨g5, i, none⟩ = some (.string x))) (by kernel_rfl) (by first | exact hS0 | assumption) ?_
        intro hHeld
        first | (refine wpAnyH_take (i := 0) (v := ?_) (by simp only [List.getElem?_toArray, List.getElem?_cons_zero, List.getElem?_cons_succ]; rfl) (by kernel_rfl) (by kernel_rfl) (by kernel_rfl) (by exact fun _ _ _ h => h) (Or.inl ⟨by rfl, ?_⟩) (by assumption) ?_; rotate_left; (focus (intro w hSw; (try dsimp only at hSw); go_simp; try with_reducible rfl)); simp only [Act.put, List.setIfInBounds_toArray, List.set_cons_zero, List.set_cons_succ]) | (refine wpAnyH_take (i := 0) (v := undef) (by simp only [List.getElem?_toArray, List.getElem?_cons_zero, List.getElem?_cons_succ]; rfl) (by kernel_rfl) (by kernel_rfl) (by kernel_rfl) (by exact fun _ _ _ h => h) (Or.inr ⟨by rfl, rfl⟩) (by assumption) ?_; simp only [Act.put, List.setIfInBounds_toArray, List.set_cons_zero, List.set_cons_succ]) | fail
        first | (refine wpAnyH_take (i := 1) (v := ?_) (by simp only [List.getElem?_toArray, List.getElem?_cons_zero, List.getElem?_cons_succ]; rfl) (by kernel_rfl) (by kernel_rfl) (by kernel_rfl) (by exact fun _ _ _ h => h) (Or.inl ⟨by rfl, ?_⟩) (by assumption) ?_; rotate_left; (focus (intro w hSw; (try dsimp only at hSw); go_simp; try with_reducible rfl)); simp only [Act.put, List.setIfInBounds_toArray, List.set_cons_zero, List.set_cons_succ]) | (refine wpAnyH_take (i := 1) (v := undef) (by simp only [List.getElem?_toArray, List.getElem?_cons_zero, List.getElem?_cons_succ]; rfl) (by kernel_rfl) (by kernel_rfl) (by kernel_rfl) (by exact fun _ _ _ h => h) (Or.inr ⟨by rfl, rfl⟩) (by assumption) ?_; simp only [Act.put, List.setIfInBounds_toArray, List.set_cons_zero, List.set_cons_succ]) | fail
        first | (refine wpAnyH_take (i := 2) (v := ?_) (by simp only [List.getElem?_toArray, List.getElem?_cons_zero, List.getElem?_cons_succ]; rfl) (by kernel_rfl) (by kernel_rfl) (by kernel_rfl) (by exact fun _ _ _ h => h) (Or.inl ⟨by rfl, ?_⟩) (by assumption) ?_; rotate_left; (focus (intro w hSw; (try dsimp only at hSw); go_simp; try with_reducible rfl)); simp only [Act.put, List.setIfInBounds_toArray, List.set_cons_zero, List.set_cons_succ]) | (refine wpAnyH_take (i := 2) (v := undef) (by simp only [List.getElem?_toArray, List.getElem?_cons_zero, List.getElem?_cons_succ]; rfl) (by kernel_rfl) (by kernel_rfl) (by kernel_rfl) (by exact fun _ _ _ h => h) (Or.inr ⟨by rfl, rfl⟩) (by assumption) ?_; simp only [Act.put, List.setIfInBounds_toArray, List.set_cons_zero, List.set_cons_succ]) | fail
        first | (refine wpAnyH_take (i := 3) (v := ?_) (by simp only [List.getElem?_toArray, List.getElem?_cons_zero, List.getElem?_cons_succ]; rfl) (by kernel_rfl) (by kernel_rfl) (by kernel_rfl) (by exact fun _ _ _ h => h) (Or.inl ⟨by rfl, ?_⟩) (by assumption) ?_; rotate_left; (focus (intro w hSw; (try dsimp only at hSw); go_simp; try with_reducible rfl)); simp only [Act.put, List.setIfInBounds_toArray, List.set_cons_zero, List.set_cons_succ]) | (refine wpAnyH_take (i := 3) (v := undef) (by simp only [List.getElem?_toArray, List.getElem?_cons_zero, List.getElem?_cons_succ]; rfl) (by kernel_rfl) (by kernel_rfl) (by kernel_rfl) (by exact fun _ _ _ h => h) (Or.inr ⟨by rfl, rfl⟩) (by assumption) ?_; simp only [Act.put, List.setIfInBounds_toArray, List.set_cons_zero, List.set_cons_succ]) | fail
        first | (refine wpAnyH_take (i := 4) (v := ?_) (by simp only [List.getElem?_toArray, List.getElem?_cons_zero, List.getElem?_cons_succ]; rfl) (by kernel_rfl) (by kernel_rfl) (by kernel_rfl) (by exact fun _ _ _ h => h) (Or.inl ⟨by rfl, ?_⟩) (by assumption) ?_; rotate_left; (focus (intro w hSw; (try dsimp only at hSw); go_simp; try with_reducible rfl)); simp only [Act.put, List.setIfInBounds_toArray, List.set_cons_zero, List.set_cons_succ]) | (refine wpAnyH_take (i := 4) (v := undef) (by simp only [List.getElem?_toArray, List.getElem?_cons_zero, List.getElem?_cons_succ]; rfl) (by kernel_rfl) (by kernel_rfl) (by kernel_rfl) (by exact fun _ _ _ h => h) (Or.inr ⟨by rfl, rfl⟩) (by assumption) ?_; simp only [Act.put, List.setIfInBounds_toArray, List.set_cons_zero, List.set_cons_succ]) | fail
        first | (refine wpAnyH_take (i := 5) (v := ?_) (by simp only [List.getElem?_toArray, List.getElem?_cons_zero, List.getElem?_cons_succ]; rfl) (by kernel_rfl) (by kernel_rfl) (by kernel_rfl) (by exact fun _ _ _ h => h) (Or.inl ⟨by rfl, ?_⟩) (by assumption) ?_; rotate_left; (focus (intro w hSw; (try dsimp only at hSw); go_simp; try with_reducible rfl)); simp only [Act.put, List.setIfInBounds_toArray, List.set_cons_zero, List.set_cons_succ]) | (refine wpAnyH_take (i := 5) (v := undef) (by simp only [List.getElem?_toArray, List.getElem?_cons_zero, List.getElem?_cons_succ]; rfl) (by kernel_rfl) (by kernel_rfl) (by kernel_rfl) (by exact fun _ _ _ h => h) (Or.inr ⟨by rfl, rfl⟩) (by assumption) ?_; simp only [Act.put, List.setIfInBounds_toArray, List.set_cons_zero, List.set_cons_succ]) | fail
        first | (refine wpAnyH_take (i := 6) (v := ?_) (by simp only [List.getElem?_toArray, List.getElem?_cons_zero, List.getElem?_cons_succ]; rfl) (by kernel_rfl) (by kernel_rfl) (by kernel_rfl) (by exact fun _ _ _ h => h) (Or.inl ⟨by rfl, ?_⟩) (by assumption) ?_; rotate_left; (focus (intro w hSw; (try dsimp only at hSw); go_simp; try with_reducible rfl)); simp only [Act.put, List.setIfInBounds_toArray, List.set_cons_zero, List.set_cons_succ]) | (refine wpAnyH_take (i := 6) (v := undef) (by simp only [List.getElem?_toArray, List.getElem?_cons_zero, List.getElem?_cons_succ]; rfl) (by kernel_rfl) (by kernel_rfl) (by kernel_rfl) (by exact fun _ _ _ h => h) (Or.inr ⟨by rfl, rfl⟩) (by assumption) ?_; simp only [Act.put, List.setIfInBounds_toArray, List.set_cons_zero, List.set_cons_succ]) | fail
        first | (refine wpAnyH_take (i := 7) (v := ?_) (by simp only [List.getElem?_toArray, List.getElem?_cons_zero, List.getElem?_cons_succ]; rfl) (by kernel_rfl) (by kernel_rfl) (by kernel_rfl) (by exact fun _ _ _ h => h) (Or.inl ⟨by rfl, ?_⟩) (by assumption) ?_; rotate_left; (focus (intro w hSw; (try dsimp only at hSw); go_simp; try with_reducible rfl)); simp only [Act.put, List.setIfInBounds_toArray, List.set_cons_zero, List.set_cons_succ]) | (refine wpAnyH_take (i := 7) (v := undef) (by simp only [List.getElem?_toArray, List.getElem?_cons_zero, List.getElem?_cons_succ]; rfl) (by kernel_rfl) (by kernel_rfl) (by kernel_rfl) (by exact fun _ _ _ h => h) (Or.inr ⟨by rfl, rfl⟩) (by assumption) ?_; simp only [Act.put, List.setIfInBounds_toArray, List.set_cons_zero, List.set_cons_succ]) | fail
        first | (refine wpAnyH_take (i := 8) (v := ?_) (by simp only [List.getElem?_toArray, List.getElem?_cons_zero, List.getElem?_cons_succ]; rfl) (by kernel_rfl) (by kernel_rfl) (by kernel_rfl) (by exact fun _ _ _ h => h) (Or.inl ⟨by rfl, ?_⟩) (by assumption) ?_; rotate_left; (focus (intro w hSw; (try dsimp only at hSw); go_simp; try with_reducible rfl)); simp only [Act.put, List.setIfInBounds_toArray, List.set_cons_zero, List.set_cons_succ]) | (refine wpAnyH_take (i := 8) (v := undef) (by simp only [List.getElem?_toArray, List.getElem?_cons_zero, List.getElem?_cons_succ]; rfl) (by kernel_rfl) (by kernel_rfl) (by kernel_rfl) (by exact fun _ _ _ h => h) (Or.inr ⟨by rfl, rfl⟩) (by assumption) ?_; simp only [Act.put, List.setIfInBounds_toArray, List.set_cons_zero, List.set_cons_succ]) | fail
        refine wpAnyH_done (by kernel_rfl) ?_ _
        go_wp2_with fail
        refine (cJi _).mono ?_
        rintro e w' ⟨rfl, hw'⟩
        have hw' := hw'.symm
        subst hw'
        go_wp2_with fail
        exact ⟨⟨i + 1, by omega, by simp, rfl, hBr.drew⟩, by simp [Go.RowKit.intOf]; omega⟩
    · obtain rfl : i = ln := by omega
      have hBe := Below.then hB45 hBr
      rw [hTn]
      clear cJ hTn hT0
      cases hsl : eqs a slashS
      · have hl := eqs_lit false hsl
        have hl2 : ¬ a.toList = [47] := by simpa using hl
        have cPL := hPL2 hsl
        clear hPL2
        as_aux_lemma =>
          go_wp2_with fail
          refine (c6 _).mono ?_
          rintro e w' ⟨rfl, hw'⟩
          have hw' := hw'.symm
          subst hw'
          go_wp2_with fail
          refine (c8 _).mono ?_
          rintro e w' ⟨rfl, hw'⟩
          have hw' := hw'.symm
          subst hw'
          go_wp2_with fail
          refine (cPL _).mono ?_
          rintro e w' ⟨rfl, hw'⟩
          have hw' := hw'.symm
          subst hw'
          go_wp2_with fail
          refine (c10 _).mono ?_
          rintro e w' ⟨rfl, hw'⟩
          have hw' := hw'.symm
          subst hw'
          go_wp2_with fail
          refine (c14 _).mono ?_
          rintro e w' ⟨rfl, hw'⟩
          have hw' := hw'.symm
          subst hw'
          go_wp2_with fail
          refine (c10 _).mono ?_
          rintro e w' ⟨rfl, hw'⟩
          have hw' := hw'.symm
          subst hw'
          go_wp2_with fail
          refine (c15 _).mono ?_
          rintro e w' ⟨rfl, hw'⟩
          have hw' := hw'.symm
          subst hw'
          go_wp2_with fail
          go_ret
          exact ⟨by simp, hBe⟩
      · have hl := eqs_lit true hsl
        have hl2 : a.toList = [47] := by simpa using hl
        clear hPL2
        as_aux_lemma =>
          go_wp2_with fail
          refine (c10 _).mono ?_
          rintro e w' ⟨rfl, hw'⟩
          have hw' := hw'.symm
          subst hw'
          go_wp2_with fail
          refine (c14 _).mono ?_
          rintro e w' ⟨rfl, hw'⟩
          have hw' := hw'.symm
          subst hw'
          go_wp2_with fail
          refine (c10 _).mono ?_
          rintro e w' ⟨rfl, hw'⟩
          have hw' := hw'.symm
          subst hw'
          go_wp2_with fail
          refine (c15 _).mono ?_
          rintro e w' ⟨rfl, hw'⟩
          have hw' := hw'.symm
          subst hw'
          go_wp2_with fail
          go_ret
          exact ⟨by simp, hBe⟩
set_option maxRecDepth 8000 in
set_option maxHeartbeats 4000000 in
theorem pathParts_walk (a b n : ByteArray) (ha : a.size ≤ 140737488355328) (hb : b.size ≤ 140737488355328) (hn : n.size ≤ 140737488355328) (w : World) (hV : MaxV w) :
    Calls Tryd.prog 4 #[.string a, .string b, .string n] w fun e w' => e = .returned (.bool true) ∧ Below w.heap.size w w' := by
  have cK := known_any
  by_cases h500 : 500 < a.size + b.size
  · have s500 : (500 : Int) < (a.size : Int) + (b.size : Int) := by omega
    go_enter Tryd.func4, Tryd.ntmps4
    go_wp2_with fail
    refine (cK _).mono ?_
    rintro e w' ⟨rfl, hw'⟩
    have hw' := hw'.symm
    subst hw'
    go_wp2_with fail
    go_ret
    exact ⟨rfl, Below.refl _ _⟩
  have s500 : ¬ (500 : Int) < (a.size : Int) + (b.size : Int) := by omega
  have c1 := rcheck_any a (by omega)
  have c2 := rcheck_any b (by omega)
  have c3 := rname_any n (by omega)
  by_cases h1 : checkOf a = 0
  case neg =>
    obtain ⟨k, hk⟩ : ∃ k, checkOf a = k := ⟨_, rfl⟩
    rw [hk] at c1 h1
    have h1b : (k != 0) = true := by simpa using h1
    clear hk
    as_aux_lemma =>
      go_enter Tryd.func4, Tryd.ntmps4
      go_wp2_with fail
      refine (cK _).mono ?_
      rintro e w' ⟨rfl, hw'⟩
      have hw' := hw'.symm
      subst hw'
      go_wp2_with fail
      refine (c1 _).mono ?_
      rintro e w1 ⟨rfl, hB1⟩
      go_wp2_with fail
      go_ret
      exact ⟨rfl, hB1⟩
  by_cases h2 : checkOf b = 0
  case neg =>
    obtain ⟨k, hk⟩ : ∃ k, checkOf b = k := ⟨_, rfl⟩
    rw [hk] at c2 h2
    rw [h1] at c1
    have h1b : (k != 0) = true := by simpa using h2
    clear hk h1
    as_aux_lemma =>
      go_enter Tryd.func4, Tryd.ntmps4
      go_wp2_with fail
      refine (cK _).mono ?_
      rintro e w' ⟨rfl, hw'⟩
      have hw' := hw'.symm
      subst hw'
      go_wp2_with fail
      refine (c1 _).mono ?_
      rintro e w1 ⟨rfl, hB1⟩
      go_wp2_with fail
      refine (c2 _).mono ?_
      rintro e w2 ⟨rfl, hB2⟩
      go_wp2_with fail
      go_ret
      exact ⟨rfl, Below.then hB1 hB2⟩
  cases h3 : name n
  case false =>
    rw [h1] at c1
    rw [h2] at c2
    rw [h3] at c3
    clear h1 h2 h3
    as_aux_lemma =>
      go_enter Tryd.func4, Tryd.ntmps4
      go_wp2_with fail
      refine (cK _).mono ?_
      rintro e w' ⟨rfl, hw'⟩
      have hw' := hw'.symm
      subst hw'
      go_wp2_with fail
      refine (c1 _).mono ?_
      rintro e w1 ⟨rfl, hB1⟩
      go_wp2_with fail
      refine (c2 _).mono ?_
      rintro e w2 ⟨rfl, hB2⟩
      go_wp2_with fail
      refine (c3 _).mono ?_
      rintro e w' ⟨rfl, hw'⟩
      have hw' := hw'.symm
      subst hw'
      go_wp2_with fail
      go_ret
      exact ⟨rfl, Below.then hB1 hB2⟩
  obtain ⟨A, hA, rfl, ha78⟩ := check_path h1
  obtain ⟨B, hB, rfl, hb78⟩ := check_path h2
  exact parts_good A B n hA hB h3 ha78 hb78 h1 h2 w hV
end Go.Proofs.YthfbdhmdaliihaaDoor
