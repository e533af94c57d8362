/-
  UserLower: the walk.
-/
import Derived.Test.YtagpjihhnnmhnaaUserBoxes
namespace Go.Proofs.Ytagpjihhnnmhnaa
open Go.RowKit
set_option linter.unusedSimpArgs false
set_option linter.unusedVariables false

set_option maxRecDepth 8000 in
set_option maxHeartbeats 4000000 in
theorem userLower_walk (a : Option Addr) (l : List Lab) (n cap : Nat) (hn : l.length = n) (k : Int) (hk : -9223372036854775808 ≤ k ∧ k ≤ 9223372036854775807) (A B : Lab) (w : World) (hL : LabsAt w a l) :
    Calls Try.prog 5 #[.slice a n cap, .int .i64 k, A.v, B.v] w fun e w' => e = .returned (.bool true) ∧ Below w.heap.size w w' := by
  have h0 := two_alloc w A B
  have hz0 : ((w.alloc (.cells #[.int .i64 A.s, .int .i64 A.c, .int .i64 A.i, .int .i64 A.k] 35)).alloc (.cells #[.int .i64 B.s, .int .i64 B.c, .int .i64 B.i, .int .i64 B.k] 35)).heap.size = w.heap.size + 2 := by simp
  have cK := uknown_any ((w.alloc (.cells #[.int .i64 A.s, .int .i64 A.c, .int .i64 A.i, .int .i64 A.k] 35)).alloc (.cells #[.int .i64 B.s, .int .i64 B.c, .int .i64 B.i, .int .i64 B.k] 35))
  have cS := fun W hW => some_any a l n cap hn W hW
  have hus := some_ok l (k := 8) (by omega)
  have hfit := some_fit l (k := 8) (by omega)
  have hlen := someTo_len l 8
  have hget := fun i u => some_get (l := l) (k := 8) (i := i) (u := u)
  obtain ⟨us, hu⟩ : ∃ us, someTo l 8 = us := ⟨_, rfl⟩
  have hlow := fun nm word (h : enterR us nm word (goodL A) = 0) => enter_lower (l := l) (n := nm) (word := word) (good_GL A) (good_GL B) (by rw [hu]; exact h)
  rw [hu] at hus hfit hlen
  simp only [hu] at cS hget hlow
  clear hu
  go_enter Try.func5, Try.ntmps5
  go_wp2_with fail
  refine (cK).mono ?_
  rintro e w1 ⟨rfl, hB1⟩
  have h1 := h0.keep hB1
  go_wp2_with fail
  refine (cS _ (hL.below h1.below)).mono ?_
  rintro e w2 ⟨v, rfl, ho, hB2⟩
  have h2 := h1.keep hB2
  have hg1 : w.heap.size + 1 < w1.heap.size := by have := hB1.size; rw [hz0] at this; omega
  obtain ⟨av, cv, rfl, hcv, hUs⟩ := ho.slice
  obtain ⟨ln, hln⟩ : ∃ ln, us.length = ln := ⟨_, rfl⟩
  rw [hln] at ho hcv hlen ⊢
  have hln8 : ln ≤ 8 := by omega
  clear hlen
  clear cK cS hB1 hB2 h1 h0 hz0
  by_cases hl0 : ln = 0
  · subst hl0
    clear hlow hget hfit
    as_aux_lemma =>
      go_wp2_with fail
      go_ret
      exact ⟨rfl, h2.below⟩
  have i0 : ¬ (ln : Int) = 0 := by omega
  have i0' : ((ln : Int) == 0) = false := by simpa using i0
  by_cases hk0 : k < 0
  · clear hlow hget hfit
    as_aux_lemma =>
      go_wp2_with fail
      go_ret
      exact ⟨rfl, h2.below⟩
  obtain ⟨j, hj⟩ : ∃ j : Nat, k % (ln : Int) = (j : Int) := ⟨(k % (ln : Int)).toNat, by have := Int.emod_nonneg k (show (ln : Int) ≠ 0 by omega); omega⟩
  have hjl : j < ln := by have := Int.emod_lt_of_pos k (show (0 : Int) < (ln : Int) by omega); omega
  obtain ⟨u, hu⟩ : ∃ u, us[j]? = some u := ⟨_, List.getElem?_eq_getElem (by omega)⟩
  obtain ⟨y, rfl, hU⟩ := hUs j u hu
  have c0 := hU.c0
  clear hUs
  obtain ⟨x0, x1, x2, x3⟩ := h2.a
  go_wp2_with fail
  refine (good_any A _).mono ?_
  rintro e w3 ⟨rfl, hB3⟩
  have h3 := h2.keep hB3
  have ho3 := ho.below hB3
  obtain ⟨hB4, hA4, hL4, hF4⟩ := h3.putA (goodL A)
  have ho4 := ho3.put4 (g := w.heap.size) (l := goodL A) (by omega)
  obtain ⟨fa0, fa1, fa2, fa3⟩ := h3.fa
  obtain ⟨ab0, ab1, ab2, ab3⟩ := h3.a
  clear hB3 h2 c0 ho x0 x1 x2 x3 ho3 h3 hL
  go_wp2_with fail
  obtain ⟨W4, hW4⟩ : ∃ W4, ((((w3.setCell ⟨w.heap.size, 0, none⟩ (.int .i64 (goodL A).s)).setCell ⟨w.heap.size, 1, none⟩ (.int .i64 (goodL A).c)).setCell ⟨w.heap.size, 2, none⟩ (.int .i64 (goodL A).i)).setCell ⟨w.heap.size, 3, none⟩ (.int .i64 (goodL A).k)) = W4 := ⟨_, rfl⟩
  have hW4' : put4 w3 w.heap.size (goodL A) = W4 := hW4
  rw [hW4'] at hB4 hA4 hL4 hF4 ho4
  rw [hW4]
  clear hW4 hW4' fa0 fa1 fa2 fa3 ab0 ab1 ab2 ab3
  have hS0 : (fun W => Boxed W w.heap.size (goodL A)) W4.drew := hA4.keep (Below.refl _ _).drew
  have hq5 : Boxed W4.drew (w.heap.size + 1) B := hL4.keep (Below.refl _ _).drew
  have hf5 : Free W4.drew (w.heap.size + 1) := hF4.keep (World.block_lt_of_cell? _ _ hL4.1) (Below.refl _ _).drew
  have hB5 := hB4.drew
  have ho5 := ho4.below (Below.refl _ _).drew
  obtain ⟨z0, z1, z2, z3⟩ := id hq5
  clear hA4 hL4 hF4 hB4 ho4
  refine wp_region_held_drew (S := (fun W => Boxed W w.heap.size (goodL A))) (by kernel_rfl) (by first | exact hS3 | exact hS2 | exact hS1 | exact hS0) ?_
  intro hHeld
  first | (refine wpAnyH_take (i := 0) (v := ?_) (by simp only [List.getElem?_toArray, List.getElem?_cons_zero, List.getElem?_cons_succ]; rfl) (by kernel_rfl) (by kernel_rfl) (by kernel_rfl) (by exact fun _ _ _ h => h) (Or.inl ⟨by rfl, ?_⟩) (by assumption) ?_; rotate_left; (focus (intro w hSw; (try dsimp only at hSw); go_simp; try with_reducible rfl)); simp only [Act.put, List.setIfInBounds_toArray, List.set_cons_zero, List.set_cons_succ]) | (refine wpAnyH_take (i := 0) (v := undef) (by simp only [List.getElem?_toArray, List.getElem?_cons_zero, List.getElem?_cons_succ]; rfl) (by kernel_rfl) (by kernel_rfl) (by kernel_rfl) (by exact fun _ _ _ h => h) (Or.inr ⟨by rfl, rfl⟩) (by assumption) ?_; simp only [Act.put, List.setIfInBounds_toArray, List.set_cons_zero, List.set_cons_succ]) | fail
  refine wpAnyH_ready (rs := [1]) (by kernel_rfl) (by simp) ?_; refine AllReadyH.cons (by simp only [List.getElem?_toArray, List.getElem?_cons_zero, List.getElem?_cons_succ]; rfl) (fun K hK => ?_) AllReadyH.nil; go_simp; refine hK.out _ _ (by first | exact hS3 | exact hS2 | exact hS1 | exact hS0) ?_; clear hHeld hK; intro hHeld; (try simp only [Act.put, List.setIfInBounds_toArray, List.set_cons_zero, List.set_cons_succ])
  first | (refine wpAnyH_take (i := 2) (v := undef) (by simp only [List.getElem?_toArray, List.getElem?_cons_zero, List.getElem?_cons_succ]; rfl) (by kernel_rfl) (by kernel_rfl) (by kernel_rfl) (by exact fun _ _ _ h => h) (Or.inr ⟨by rfl, rfl⟩) (by assumption) ?_; simp only [Act.put, List.setIfInBounds_toArray, List.set_cons_zero, List.set_cons_succ]) | (refine wpAnyH_ready (rs := [2]) (by kernel_rfl) (by simp) ?_; refine AllReadyH.cons (by simp only [List.getElem?_toArray, List.getElem?_cons_zero, List.getElem?_cons_succ]; rfl) (fun K hK => ?_) AllReadyH.nil; go_simp; (first | (go_at_call 21; refine (rlmeet_any (goodL A) (goodL B) _).mono ?_; rintro e w7 ⟨rfl, hB7⟩; have hS2 : (fun W => Boxed W w.heap.size (goodL A)) w7 := hS1.keep hB7; have hq7 := (hq5.keep hB6).keep hB7; have hf7 := (hf5.keep (World.block_lt_of_cell? _ _ hq5.1) hB6).keep (World.block_lt_of_cell? _ _ (hq5.keep hB6).1) hB7; obtain ⟨f0, f1, f2, f3⟩ := id hf7; obtain ⟨p0, p1, p2, p3⟩ := id hq7; have hS3 : (fun W => Boxed W w.heap.size (goodL A)) ((((w7.setCell ⟨w.heap.size + 1, 0, none⟩ (.int .i64 (meetL (goodL A) (goodL B)).s)).setCell ⟨w.heap.size + 1, 1, none⟩ (.int .i64 (meetL (goodL A) (goodL B)).c)).setCell ⟨w.heap.size + 1, 2, none⟩ (.int .i64 (meetL (goodL A) (goodL B)).i)).setCell ⟨w.heap.size + 1, 3, none⟩ (.int .i64 (meetL (goodL A) (goodL B)).k)) := put4_other hS2 (by omega)) | (go_at_call 14; refine (good_any B _).mono ?_; rintro e w6 ⟨rfl, hB6⟩; have hS1 : (fun W => Boxed W w.heap.size (goodL A)) w6 := hS0.keep hB6)); refine hK.out _ _ (by first | exact hS3 | exact hS2 | exact hS1 | exact hS0) ?_; clear hHeld hK; intro hHeld; (try simp only [Act.put, List.setIfInBounds_toArray, List.set_cons_zero, List.set_cons_succ])) | fail
  first | (refine wpAnyH_take (i := 3) (v := undef) (by simp only [List.getElem?_toArray, List.getElem?_cons_zero, List.getElem?_cons_succ]; rfl) (by kernel_rfl) (by kernel_rfl) (by kernel_rfl) (by exact fun _ _ _ h => h) (Or.inr ⟨by rfl, rfl⟩) (by assumption) ?_; simp only [Act.put, List.setIfInBounds_toArray, List.set_cons_zero, List.set_cons_succ]) | (refine wpAnyH_ready (rs := [3]) (by kernel_rfl) (by simp) ?_; refine AllReadyH.cons (by simp only [List.getElem?_toArray, List.getElem?_cons_zero, List.getElem?_cons_succ]; rfl) (fun K hK => ?_) AllReadyH.nil; go_simp; (first | (go_at_call 21; refine (rlmeet_any (goodL A) (goodL B) _).mono ?_; rintro e w7 ⟨rfl, hB7⟩; have hS2 : (fun W => Boxed W w.heap.size (goodL A)) w7 := hS1.keep hB7; have hq7 := (hq5.keep hB6).keep hB7; have hf7 := (hf5.keep (World.block_lt_of_cell? _ _ hq5.1) hB6).keep (World.block_lt_of_cell? _ _ (hq5.keep hB6).1) hB7; obtain ⟨f0, f1, f2, f3⟩ := id hf7; obtain ⟨p0, p1, p2, p3⟩ := id hq7; have hS3 : (fun W => Boxed W w.heap.size (goodL A)) ((((w7.setCell ⟨w.heap.size + 1, 0, none⟩ (.int .i64 (meetL (goodL A) (goodL B)).s)).setCell ⟨w.heap.size + 1, 1, none⟩ (.int .i64 (meetL (goodL A) (goodL B)).c)).setCell ⟨w.heap.size + 1, 2, none⟩ (.int .i64 (meetL (goodL A) (goodL B)).i)).setCell ⟨w.heap.size + 1, 3, none⟩ (.int .i64 (meetL (goodL A) (goodL B)).k)) := put4_other hS2 (by omega)) | (go_at_call 14; refine (good_any B _).mono ?_; rintro e w6 ⟨rfl, hB6⟩; have hS1 : (fun W => Boxed W w.heap.size (goodL A)) w6 := hS0.keep hB6)); refine hK.out _ _ (by first | exact hS3 | exact hS2 | exact hS1 | exact hS0) ?_; clear hHeld hK; intro hHeld; (try simp only [Act.put, List.setIfInBounds_toArray, List.set_cons_zero, List.set_cons_succ])) | fail
  refine wpAnyH_ready (rs := [4]) (by kernel_rfl) (by simp) ?_; refine AllReadyH.cons (by simp only [List.getElem?_toArray, List.getElem?_cons_zero, List.getElem?_cons_succ]; rfl) (fun K hK => ?_) AllReadyH.nil; go_simp; refine hK.out _ _ (by first | exact hS3 | exact hS2 | exact hS1 | exact hS0) ?_; clear hHeld hK; intro hHeld; (try simp only [Act.put, List.setIfInBounds_toArray, List.set_cons_zero, List.set_cons_succ])
  refine wpAnyH_done (by kernel_rfl) ?_ _
  have hB8 : Below w.heap.size w (put4 w7 (w.heap.size + 1) (meetL (goodL A) (goodL B))) := put4_below (Below.then (Below.then hB5 hB6) hB7) (by omega)
  have hA8 : Boxed (put4 w7 (w.heap.size + 1) (meetL (goodL A) (goodL B))) w.heap.size (goodL A) := hS3
  have hM8 : Boxed (put4 w7 (w.heap.size + 1) (meetL (goodL A) (goodL B))) (w.heap.size + 1) (meetL (goodL A) (goodL B)) := put4_at hq7
  have ho8 := ((ho5.below hB6).below hB7).put4 (g := w.heap.size + 1) (l := (meetL (goodL A) (goodL B))) (by omega)
  obtain ⟨W8, hW8⟩ : ∃ W8, ((((w7.setCell ⟨w.heap.size + 1, 0, none⟩ (.int .i64 (meetL (goodL A) (goodL B)).s)).setCell ⟨w.heap.size + 1, 1, none⟩ (.int .i64 (meetL (goodL A) (goodL B)).c)).setCell ⟨w.heap.size + 1, 2, none⟩ (.int .i64 (meetL (goodL A) (goodL B)).i)).setCell ⟨w.heap.size + 1, 3, none⟩ (.int .i64 (meetL (goodL A) (goodL B)).k)) = W8 := ⟨_, rfl⟩
  have hW8' : put4 w7 (w.heap.size + 1) (meetL (goodL A) (goodL B)) = W8 := hW8
  rw [hW8'] at hB8 hA8 hM8 ho8
  rw [hW8]
  clear hW8 hW8' hS0 hS1 hS2 hS3 hq5 hf5 hB5 ho5 z0 z1 z2 z3 hB6 hB7 hq7 hf7 f0 f1 f2 f3 p0 p1 p2 p3
  obtain ⟨xl, hxl, hj8, hua⟩ := hget j u hu
  have hns : u.name.size = 1 := by rw [hua]; rfl
  have hnn : (u.name ++ u.name).size = 2 := by rw [ByteArray.size_append, hns]
  obtain ⟨a8, cap8, hv8, hc8, hU8⟩ := ho8.slice
  rw [hln] at hv8
  injection hv8 with e1 _ e3
  subst e1 e3
  have cE1 := uenter_any (some y) us ln cv hln (by omega) hus u.name (u.name ++ u.name) (by omega) (by omega) (goodL A) (good_GL A) hfit W8 hU8
  have cE2 := fun W hW => uenter_any (some y) us ln cv hln (by omega) hus u.name (u.name ++ u.name) (by omega) (by omega) (meetL (goodL A) (goodL B)) (meet_GL (good_GL A) (good_GL B)) hfit W hW
  have hlw := hlow u.name (u.name ++ u.name).data.toList
  have htwo := enter_two us u.name (u.name ++ u.name).data.toList (goodL A)
  obtain ⟨r, hr⟩ : ∃ r, enterR us u.name (u.name ++ u.name).data.toList (goodL A) = r := ⟨_, rfl⟩
  rw [hr] at cE1 hlw htwo
  clear hr hlow hget hxl hua hnn
  obtain ⟨A0, A1, A2, A3⟩ := id hA8
  have b1 : ¬ 9223372036854775807 < 1 + 1 := by decide
  rcases htwo with rfl | rfl
  · have hM := hlw rfl
    simp only [hM] at cE2
    go_wp2_with fail
    refine (cE1).mono ?_
    rintro e w9 ⟨rfl, hB9⟩
    obtain ⟨M0, M1, M2, M3⟩ := hM8.keep hB9
    go_wp2_with fail
    refine (cE2 _ (hU8.below hB9)).mono ?_
    rintro e w10 ⟨rfl, hB10⟩
    go_wp2_with fail
    go_ret
    exact ⟨by simp, Below.then (Below.then hB8 hB9) hB10⟩
  · clear cE2 hlw
    go_wp2_with fail
    refine (cE1).mono ?_
    rintro e w9 ⟨rfl, hB9⟩
    go_wp2_with fail
    go_ret
    exact ⟨by simp, Below.then hB8 hB9⟩
end Go.Proofs.Ytagpjihhnnmhnaa
