/-
  PACKAGE node AS IT LANDED: Same; slices.Equal of grants and of words.
-/
import Derived.Test.YtecleampjeebaaaNodeSame
import Derived.Test.YtecleampjeebaaaNodeParse
namespace Go.Proofs.Ytecleampjeebaaa
open Go.RowKit
set_option linter.unusedSimpArgs false
set_option linter.unusedVariables false

set_option maxHeartbeats 4000000 in
theorem eqG_any (x y : List Gr) (aa : Option Addr) (ca : Nat) (ab : Option Addr) (cb : Nat) (hx1 : x.length ≤ 1000000) (hy1 : y.length ≤ 1000000) (w : World) (gx : GrsAt w aa x) (gz : GrsAt w ab y) :
    Calls Try.prog 27 #[.slice aa x.length ca, .slice ab y.length cb] w fun e w' => e = .returned (.bool (x.length == y.length && allEq grEq x y)) ∧ Below w.heap.size w w' := by
  obtain ⟨r, hr⟩ : ∃ r, (x.length == y.length && allEq grEq x y) = r := ⟨_, rfl⟩
  rw [hr]
  have kG := run_neq_gr
  by_cases hl : x.length = y.length
  · have hr0 : Aside (r = allEq grEq (x.drop 0) (y.drop 0)) := by
      rw [← hr, hl, beq_self_eq_true, Bool.true_and]
      exact rfl
    clear hr
    obtain ⟨la, hla⟩ : ∃ la, x.length = la := ⟨_, rfl⟩
    have hla2 : y.length = la := by omega
    rw [hla, hla2]
    have hA : Aside (x.length = la ∧ y.length = la) := ⟨hla, hla2⟩
    have hala : la ≤ 1000000 := by omega
    clear hl hla hla2 hx1 hy1
    go_enter Try.func27, Try.ntmps27
    go_wp2_with fail
    go_loopw [13] (fun t13 wr => ∃ i : Nat, i ≤ la ∧ t13 = .int .i64 (i : Int) ∧ Below w.heap.size w wr ∧ Aside (r = allEq grEq (x.drop i) (y.drop i))) (fun t13 _ => la - (Go.RowKit.intOf t13).toNat)
    case atStart => exact ⟨0, by omega, rfl, Below.refl _ _, hr0⟩
    case round =>
      clear hr0
      obtain ⟨i, hi, rfl, hB, hall⟩ := hrel
      by_cases hlt : i < la
      · obtain ⟨q, hq⟩ : ∃ q, x[i]? = some q := ⟨_, List.getElem?_eq_getElem (by rw [hA.out.1]; exact hlt)⟩
        obtain ⟨p, hp⟩ : ∃ p, y[i]? = some p := ⟨_, List.getElem?_eq_getElem (by rw [hA.out.2]; exact hlt)⟩
        obtain ⟨u, rfl, c1, c2⟩ := gx.below hB i q hq
        obtain ⟨v, rfl, d1, d2⟩ := gz.below hB i p hp
        rw [allEq_drop hq hp] at hall
        clear hq hp
        have hi1 : (i : Int) < (la : Int) := by omega
        have hS0 : (fun W : World => W.cell? (u.add (i * 2)) = some (.string q.u) ∧ W.cell? ⟨(u.add (i * 2)).block, (u.add (i * 2)).off + 1, none⟩ = some (.int .i64 q.m) ∧ W.cell? (v.add (i * 2)) = some (.string p.u) ∧ W.cell? ⟨(v.add (i * 2)).block, (v.add (i * 2)).off + 1, none⟩ = some (.int .i64 p.m)) wr.drew := ⟨c1, c2, d1, d2⟩
        have hB' := hB.drew
        go_wp2_with fail
        clear c1 c2 d1 d2 gx gz
        refine wp_region_held_drew (S := (fun W : World => W.cell? (u.add (i * 2)) = some (.string q.u) ∧ W.cell? ⟨(u.add (i * 2)).block, (u.add (i * 2)).off + 1, none⟩ = some (.int .i64 q.m) ∧ W.cell? (v.add (i * 2)) = some (.string p.u) ∧ W.cell? ⟨(v.add (i * 2)).block, (v.add (i * 2)).off + 1, none⟩ = some (.int .i64 p.m))) (by kernel_rfl) (by exact hS0) ?_
        intro hHeld
        first | (refine wpAnyH_take (i := 0) (v := ?_) (by simp only [List.getElem?_toArray, List.getElem?_cons_zero, List.getElem?_cons_succ]; rfl) (by kernel_rfl) (by kernel_rfl) (by kernel_rfl) (by exact fun _ _ _ h => h) (Or.inl ⟨by rfl, ?_⟩) (by assumption) ?_; rotate_left; (focus (intro w hSw; (try dsimp only at hSw); go_simp; try with_reducible rfl)); simp only [Act.put, List.setIfInBounds_toArray, List.set_cons_zero, List.set_cons_succ]) | (refine wpAnyH_take (i := 0) (v := undef) (by simp only [List.getElem?_toArray, List.getElem?_cons_zero, List.getElem?_cons_succ]; rfl) (by kernel_rfl) (by kernel_rfl) (by kernel_rfl) (by exact fun _ _ _ h => h) (Or.inr ⟨by rfl, rfl⟩) (by assumption) ?_; simp only [Act.put, List.setIfInBounds_toArray, List.set_cons_zero, List.set_cons_succ]) | fail
        first | (refine wpAnyH_take (i := 1) (v := ?_) (by simp only [List.getElem?_toArray, List.getElem?_cons_zero, List.getElem?_cons_succ]; rfl) (by kernel_rfl) (by kernel_rfl) (by kernel_rfl) (by exact fun _ _ _ h => h) (Or.inl ⟨by rfl, ?_⟩) (by assumption) ?_; rotate_left; (focus (intro w hSw; (try dsimp only at hSw); go_simp; try with_reducible rfl)); simp only [Act.put, List.setIfInBounds_toArray, List.set_cons_zero, List.set_cons_succ]) | (refine wpAnyH_take (i := 1) (v := undef) (by simp only [List.getElem?_toArray, List.getElem?_cons_zero, List.getElem?_cons_succ]; rfl) (by kernel_rfl) (by kernel_rfl) (by kernel_rfl) (by exact fun _ _ _ h => h) (Or.inr ⟨by rfl, rfl⟩) (by assumption) ?_; simp only [Act.put, List.setIfInBounds_toArray, List.set_cons_zero, List.set_cons_succ]) | fail
        first | (refine wpAnyH_take (i := 2) (v := ?_) (by simp only [List.getElem?_toArray, List.getElem?_cons_zero, List.getElem?_cons_succ]; rfl) (by kernel_rfl) (by kernel_rfl) (by kernel_rfl) (by exact fun _ _ _ h => h) (Or.inl ⟨by rfl, ?_⟩) (by assumption) ?_; rotate_left; (focus (intro w hSw; (try dsimp only at hSw); go_simp; try with_reducible rfl)); simp only [Act.put, List.setIfInBounds_toArray, List.set_cons_zero, List.set_cons_succ]) | (refine wpAnyH_take (i := 2) (v := undef) (by simp only [List.getElem?_toArray, List.getElem?_cons_zero, List.getElem?_cons_succ]; rfl) (by kernel_rfl) (by kernel_rfl) (by kernel_rfl) (by exact fun _ _ _ h => h) (Or.inr ⟨by rfl, rfl⟩) (by assumption) ?_; simp only [Act.put, List.setIfInBounds_toArray, List.set_cons_zero, List.set_cons_succ]) | fail
        first | (refine wpAnyH_take (i := 3) (v := ?_) (by simp only [List.getElem?_toArray, List.getElem?_cons_zero, List.getElem?_cons_succ]; rfl) (by kernel_rfl) (by kernel_rfl) (by kernel_rfl) (by exact fun _ _ _ h => h) (Or.inl ⟨by rfl, ?_⟩) (by assumption) ?_; rotate_left; (focus (intro w hSw; (try dsimp only at hSw); go_simp; try with_reducible rfl)); simp only [Act.put, List.setIfInBounds_toArray, List.set_cons_zero, List.set_cons_succ]) | (refine wpAnyH_take (i := 3) (v := undef) (by simp only [List.getElem?_toArray, List.getElem?_cons_zero, List.getElem?_cons_succ]; rfl) (by kernel_rfl) (by kernel_rfl) (by kernel_rfl) (by exact fun _ _ _ h => h) (Or.inr ⟨by rfl, rfl⟩) (by assumption) ?_; simp only [Act.put, List.setIfInBounds_toArray, List.set_cons_zero, List.set_cons_succ]) | fail
        first | (refine wpAnyH_take (i := 4) (v := ?_) (by simp only [List.getElem?_toArray, List.getElem?_cons_zero, List.getElem?_cons_succ]; rfl) (by kernel_rfl) (by kernel_rfl) (by kernel_rfl) (by exact fun _ _ _ h => h) (Or.inl ⟨by rfl, ?_⟩) (by assumption) ?_; rotate_left; (focus (intro w hSw; (try dsimp only at hSw); go_simp; try with_reducible rfl)); simp only [Act.put, List.setIfInBounds_toArray, List.set_cons_zero, List.set_cons_succ]) | (refine wpAnyH_take (i := 4) (v := undef) (by simp only [List.getElem?_toArray, List.getElem?_cons_zero, List.getElem?_cons_succ]; rfl) (by kernel_rfl) (by kernel_rfl) (by kernel_rfl) (by exact fun _ _ _ h => h) (Or.inr ⟨by rfl, rfl⟩) (by assumption) ?_; simp only [Act.put, List.setIfInBounds_toArray, List.set_cons_zero, List.set_cons_succ]) | fail
        first | (refine wpAnyH_take (i := 5) (v := ?_) (by simp only [List.getElem?_toArray, List.getElem?_cons_zero, List.getElem?_cons_succ]; rfl) (by kernel_rfl) (by kernel_rfl) (by kernel_rfl) (by exact fun _ _ _ h => h) (Or.inl ⟨by rfl, ?_⟩) (by assumption) ?_; rotate_left; (focus (intro w hSw; (try dsimp only at hSw); go_simp; try with_reducible rfl)); simp only [Act.put, List.setIfInBounds_toArray, List.set_cons_zero, List.set_cons_succ]) | (refine wpAnyH_take (i := 5) (v := undef) (by simp only [List.getElem?_toArray, List.getElem?_cons_zero, List.getElem?_cons_succ]; rfl) (by kernel_rfl) (by kernel_rfl) (by kernel_rfl) (by exact fun _ _ _ h => h) (Or.inr ⟨by rfl, rfl⟩) (by assumption) ?_; simp only [Act.put, List.setIfInBounds_toArray, List.set_cons_zero, List.set_cons_succ]) | fail
        first | (refine wpAnyH_take (i := 6) (v := ?_) (by simp only [List.getElem?_toArray, List.getElem?_cons_zero, List.getElem?_cons_succ]; rfl) (by kernel_rfl) (by kernel_rfl) (by kernel_rfl) (by exact fun _ _ _ h => h) (Or.inl ⟨by rfl, ?_⟩) (by assumption) ?_; rotate_left; (focus (intro w hSw; (try dsimp only at hSw); go_simp; try with_reducible rfl)); simp only [Act.put, List.setIfInBounds_toArray, List.set_cons_zero, List.set_cons_succ]) | (refine wpAnyH_take (i := 6) (v := undef) (by simp only [List.getElem?_toArray, List.getElem?_cons_zero, List.getElem?_cons_succ]; rfl) (by kernel_rfl) (by kernel_rfl) (by kernel_rfl) (by exact fun _ _ _ h => h) (Or.inr ⟨by rfl, rfl⟩) (by assumption) ?_; simp only [Act.put, List.setIfInBounds_toArray, List.set_cons_zero, List.set_cons_succ]) | fail
        first | (refine wpAnyH_take (i := 7) (v := ?_) (by simp only [List.getElem?_toArray, List.getElem?_cons_zero, List.getElem?_cons_succ]; rfl) (by kernel_rfl) (by kernel_rfl) (by kernel_rfl) (by exact fun _ _ _ h => h) (Or.inl ⟨by rfl, ?_⟩) (by assumption) ?_; rotate_left; (focus (intro w hSw; (try dsimp only at hSw); go_simp; try with_reducible rfl)); simp only [Act.put, List.setIfInBounds_toArray, List.set_cons_zero, List.set_cons_succ]) | (refine wpAnyH_take (i := 7) (v := undef) (by simp only [List.getElem?_toArray, List.getElem?_cons_zero, List.getElem?_cons_succ]; rfl) (by kernel_rfl) (by kernel_rfl) (by kernel_rfl) (by exact fun _ _ _ h => h) (Or.inr ⟨by rfl, rfl⟩) (by assumption) ?_; simp only [Act.put, List.setIfInBounds_toArray, List.set_cons_zero, List.set_cons_succ]) | fail
        first | (refine wpAnyH_take (i := 8) (v := ?_) (by simp only [List.getElem?_toArray, List.getElem?_cons_zero, List.getElem?_cons_succ]; rfl) (by kernel_rfl) (by kernel_rfl) (by kernel_rfl) (by exact fun _ _ _ h => h) (Or.inl ⟨by rfl, ?_⟩) (by assumption) ?_; rotate_left; (focus (intro w hSw; (try dsimp only at hSw); go_simp; try with_reducible rfl)); simp only [Act.put, List.setIfInBounds_toArray, List.set_cons_zero, List.set_cons_succ]) | (refine wpAnyH_take (i := 8) (v := undef) (by simp only [List.getElem?_toArray, List.getElem?_cons_zero, List.getElem?_cons_succ]; rfl) (by kernel_rfl) (by kernel_rfl) (by kernel_rfl) (by exact fun _ _ _ h => h) (Or.inr ⟨by rfl, rfl⟩) (by assumption) ?_; simp only [Act.put, List.setIfInBounds_toArray, List.set_cons_zero, List.set_cons_succ]) | fail
        refine wpAnyH_done (by kernel_rfl) ?_ _
        cases hg : grEq q p
        · obtain rfl : r = false := by rw [hall.out, hg]; rfl
          go_wp2_with fail
          go_ret
          exact ⟨rfl, hB'⟩
        · rw [hg, Bool.true_and] at hall
          go_wp2_with fail
          exact ⟨⟨i + 1, by omega, by simp, hB', hall⟩, by simp [Go.RowKit.intOf]; omega⟩
      · obtain rfl : i = la := by omega
        obtain rfl : r = true := by rw [hall.out, allEq_end (by rw [hA.out.1]; exact Nat.le_refl _) (by rw [hA.out.2]; exact Nat.le_refl _)]
        clear hall kG
        go_wp2_with fail
        go_ret
        exact ⟨rfl, hB⟩
  · obtain rfl : r = false := by rw [← hr, beq_eq_false_iff_ne.2 hl]; rfl
    have i1 : ((x.length : Int) != (y.length : Int)) = true := by simp; omega
    clear hr kG gx gz
    go_enter Try.func27, Try.ntmps27
    go_wp2_with fail
    go_ret
    exact ⟨rfl, Below.refl _ _⟩
set_option maxHeartbeats 4000000 in
theorem eqW_any (x y : List Int) (aa : Option Addr) (ca : Nat) (ab : Option Addr) (cb : Nat) (hx1 : x.length ≤ 1000000) (hy1 : y.length ≤ 1000000) (w : World) (gx : WrdsAt w aa x) (gz : WrdsAt w ab y) :
    Calls Try.prog 28 #[.slice aa x.length ca, .slice ab y.length cb] w fun e w' => e = .returned (.bool (x.length == y.length && allEq (fun a b : Int => a == b) x y)) ∧ Below w.heap.size w w' := by
  obtain ⟨r, hr⟩ : ∃ r, (x.length == y.length && allEq (fun a b : Int => a == b) x y) = r := ⟨_, rfl⟩
  rw [hr]
  by_cases hl : x.length = y.length
  · have hr0 : Aside (r = allEq (fun a b : Int => a == b) (x.drop 0) (y.drop 0)) := by
      rw [← hr, hl, beq_self_eq_true, Bool.true_and]
      exact rfl
    clear hr
    obtain ⟨la, hla⟩ : ∃ la, x.length = la := ⟨_, rfl⟩
    have hla2 : y.length = la := by omega
    rw [hla, hla2]
    have hA : Aside (x.length = la ∧ y.length = la) := ⟨hla, hla2⟩
    have hala : la ≤ 1000000 := by omega
    clear hl hla hla2 hx1 hy1
    go_enter Try.func28, Try.ntmps28
    go_wp2_with fail
    go_loopw [13] (fun t13 wr => ∃ i : Nat, i ≤ la ∧ t13 = .int .i64 (i : Int) ∧ Below w.heap.size w wr ∧ Aside (r = allEq (fun a b : Int => a == b) (x.drop i) (y.drop i))) (fun t13 _ => la - (Go.RowKit.intOf t13).toNat)
    case atStart => exact ⟨0, by omega, rfl, Below.refl _ _, hr0⟩
    case round =>
      clear hr0
      obtain ⟨i, hi, rfl, hB, hall⟩ := hrel
      by_cases hlt : i < la
      · obtain ⟨q, hq⟩ : ∃ q, x[i]? = some q := ⟨_, List.getElem?_eq_getElem (by rw [hA.out.1]; exact hlt)⟩
        obtain ⟨p, hp⟩ : ∃ p, y[i]? = some p := ⟨_, List.getElem?_eq_getElem (by rw [hA.out.2]; exact hlt)⟩
        obtain ⟨u, rfl, c1⟩ := gx.below hB i q hq
        obtain ⟨v, rfl, d1⟩ := gz.below hB i p hp
        rw [allEq_drop hq hp] at hall
        clear hq hp
        have hi1 : (i : Int) < (la : Int) := by omega
        have hS0 : (fun W : World => W.cell? (u.add i) = some (.int .i64 q) ∧ W.cell? (v.add i) = some (.int .i64 p)) wr.drew := ⟨c1, d1⟩
        have hB' := hB.drew
        go_wp2_with fail
        clear c1 d1 gx gz
        refine wp_region_held_drew (S := (fun W : World => W.cell? (u.add i) = some (.int .i64 q) ∧ W.cell? (v.add i) = some (.int .i64 p))) (by kernel_rfl) (by exact hS0) ?_
        intro hHeld
        first | (refine wpAnyH_take (i := 0) (v := ?_) (by simp only [List.getElem?_toArray, List.getElem?_cons_zero, List.getElem?_cons_succ]; rfl) (by kernel_rfl) (by kernel_rfl) (by kernel_rfl) (by exact fun _ _ _ h => h) (Or.inl ⟨by rfl, ?_⟩) (by assumption) ?_; rotate_left; (focus (intro w hSw; (try dsimp only at hSw); go_simp; try with_reducible rfl)); simp only [Act.put, List.setIfInBounds_toArray, List.set_cons_zero, List.set_cons_succ]) | (refine wpAnyH_take (i := 0) (v := undef) (by simp only [List.getElem?_toArray, List.getElem?_cons_zero, List.getElem?_cons_succ]; rfl) (by kernel_rfl) (by kernel_rfl) (by kernel_rfl) (by exact fun _ _ _ h => h) (Or.inr ⟨by rfl, rfl⟩) (by assumption) ?_; simp only [Act.put, List.setIfInBounds_toArray, List.set_cons_zero, List.set_cons_succ]) | fail
        first | (refine wpAnyH_take (i := 1) (v := ?_) (by simp only [List.getElem?_toArray, List.getElem?_cons_zero, List.getElem?_cons_succ]; rfl) (by kernel_rfl) (by kernel_rfl) (by kernel_rfl) (by exact fun _ _ _ h => h) (Or.inl ⟨by rfl, ?_⟩) (by assumption) ?_; rotate_left; (focus (intro w hSw; (try dsimp only at hSw); go_simp; try with_reducible rfl)); simp only [Act.put, List.setIfInBounds_toArray, List.set_cons_zero, List.set_cons_succ]) | (refine wpAnyH_take (i := 1) (v := undef) (by simp only [List.getElem?_toArray, List.getElem?_cons_zero, List.getElem?_cons_succ]; rfl) (by kernel_rfl) (by kernel_rfl) (by kernel_rfl) (by exact fun _ _ _ h => h) (Or.inr ⟨by rfl, rfl⟩) (by assumption) ?_; simp only [Act.put, List.setIfInBounds_toArray, List.set_cons_zero, List.set_cons_succ]) | fail
        first | (refine wpAnyH_take (i := 2) (v := ?_) (by simp only [List.getElem?_toArray, List.getElem?_cons_zero, List.getElem?_cons_succ]; rfl) (by kernel_rfl) (by kernel_rfl) (by kernel_rfl) (by exact fun _ _ _ h => h) (Or.inl ⟨by rfl, ?_⟩) (by assumption) ?_; rotate_left; (focus (intro w hSw; (try dsimp only at hSw); go_simp; try with_reducible rfl)); simp only [Act.put, List.setIfInBounds_toArray, List.set_cons_zero, List.set_cons_succ]) | (refine wpAnyH_take (i := 2) (v := undef) (by simp only [List.getElem?_toArray, List.getElem?_cons_zero, List.getElem?_cons_succ]; rfl) (by kernel_rfl) (by kernel_rfl) (by kernel_rfl) (by exact fun _ _ _ h => h) (Or.inr ⟨by rfl, rfl⟩) (by assumption) ?_; simp only [Act.put, List.setIfInBounds_toArray, List.set_cons_zero, List.set_cons_succ]) | fail
        first | (refine wpAnyH_take (i := 3) (v := ?_) (by simp only [List.getElem?_toArray, List.getElem?_cons_zero, List.getElem?_cons_succ]; rfl) (by kernel_rfl) (by kernel_rfl) (by kernel_rfl) (by exact fun _ _ _ h => h) (Or.inl ⟨by rfl, ?_⟩) (by assumption) ?_; rotate_left; (focus (intro w hSw; (try dsimp only at hSw); go_simp; try with_reducible rfl)); simp only [Act.put, List.setIfInBounds_toArray, List.set_cons_zero, List.set_cons_succ]) | (refine wpAnyH_take (i := 3) (v := undef) (by simp only [List.getElem?_toArray, List.getElem?_cons_zero, List.getElem?_cons_succ]; rfl) (by kernel_rfl) (by kernel_rfl) (by kernel_rfl) (by exact fun _ _ _ h => h) (Or.inr ⟨by rfl, rfl⟩) (by assumption) ?_; simp only [Act.put, List.setIfInBounds_toArray, List.set_cons_zero, List.set_cons_succ]) | fail
        first | (refine wpAnyH_take (i := 4) (v := ?_) (by simp only [List.getElem?_toArray, List.getElem?_cons_zero, List.getElem?_cons_succ]; rfl) (by kernel_rfl) (by kernel_rfl) (by kernel_rfl) (by exact fun _ _ _ h => h) (Or.inl ⟨by rfl, ?_⟩) (by assumption) ?_; rotate_left; (focus (intro w hSw; (try dsimp only at hSw); go_simp; try with_reducible rfl)); simp only [Act.put, List.setIfInBounds_toArray, List.set_cons_zero, List.set_cons_succ]) | (refine wpAnyH_take (i := 4) (v := undef) (by simp only [List.getElem?_toArray, List.getElem?_cons_zero, List.getElem?_cons_succ]; rfl) (by kernel_rfl) (by kernel_rfl) (by kernel_rfl) (by exact fun _ _ _ h => h) (Or.inr ⟨by rfl, rfl⟩) (by assumption) ?_; simp only [Act.put, List.setIfInBounds_toArray, List.set_cons_zero, List.set_cons_succ]) | fail
        first | (refine wpAnyH_take (i := 5) (v := ?_) (by simp only [List.getElem?_toArray, List.getElem?_cons_zero, List.getElem?_cons_succ]; rfl) (by kernel_rfl) (by kernel_rfl) (by kernel_rfl) (by exact fun _ _ _ h => h) (Or.inl ⟨by rfl, ?_⟩) (by assumption) ?_; rotate_left; (focus (intro w hSw; (try dsimp only at hSw); go_simp; try with_reducible rfl)); simp only [Act.put, List.setIfInBounds_toArray, List.set_cons_zero, List.set_cons_succ]) | (refine wpAnyH_take (i := 5) (v := undef) (by simp only [List.getElem?_toArray, List.getElem?_cons_zero, List.getElem?_cons_succ]; rfl) (by kernel_rfl) (by kernel_rfl) (by kernel_rfl) (by exact fun _ _ _ h => h) (Or.inr ⟨by rfl, rfl⟩) (by assumption) ?_; simp only [Act.put, List.setIfInBounds_toArray, List.set_cons_zero, List.set_cons_succ]) | fail
        first | (refine wpAnyH_take (i := 6) (v := ?_) (by simp only [List.getElem?_toArray, List.getElem?_cons_zero, List.getElem?_cons_succ]; rfl) (by kernel_rfl) (by kernel_rfl) (by kernel_rfl) (by exact fun _ _ _ h => h) (Or.inl ⟨by rfl, ?_⟩) (by assumption) ?_; rotate_left; (focus (intro w hSw; (try dsimp only at hSw); go_simp; try with_reducible rfl)); simp only [Act.put, List.setIfInBounds_toArray, List.set_cons_zero, List.set_cons_succ]) | (refine wpAnyH_take (i := 6) (v := undef) (by simp only [List.getElem?_toArray, List.getElem?_cons_zero, List.getElem?_cons_succ]; rfl) (by kernel_rfl) (by kernel_rfl) (by kernel_rfl) (by exact fun _ _ _ h => h) (Or.inr ⟨by rfl, rfl⟩) (by assumption) ?_; simp only [Act.put, List.setIfInBounds_toArray, List.set_cons_zero, List.set_cons_succ]) | fail
        first | (refine wpAnyH_take (i := 7) (v := ?_) (by simp only [List.getElem?_toArray, List.getElem?_cons_zero, List.getElem?_cons_succ]; rfl) (by kernel_rfl) (by kernel_rfl) (by kernel_rfl) (by exact fun _ _ _ h => h) (Or.inl ⟨by rfl, ?_⟩) (by assumption) ?_; rotate_left; (focus (intro w hSw; (try dsimp only at hSw); go_simp; try with_reducible rfl)); simp only [Act.put, List.setIfInBounds_toArray, List.set_cons_zero, List.set_cons_succ]) | (refine wpAnyH_take (i := 7) (v := undef) (by simp only [List.getElem?_toArray, List.getElem?_cons_zero, List.getElem?_cons_succ]; rfl) (by kernel_rfl) (by kernel_rfl) (by kernel_rfl) (by exact fun _ _ _ h => h) (Or.inr ⟨by rfl, rfl⟩) (by assumption) ?_; simp only [Act.put, List.setIfInBounds_toArray, List.set_cons_zero, List.set_cons_succ]) | fail
        first | (refine wpAnyH_take (i := 8) (v := ?_) (by simp only [List.getElem?_toArray, List.getElem?_cons_zero, List.getElem?_cons_succ]; rfl) (by kernel_rfl) (by kernel_rfl) (by kernel_rfl) (by exact fun _ _ _ h => h) (Or.inl ⟨by rfl, ?_⟩) (by assumption) ?_; rotate_left; (focus (intro w hSw; (try dsimp only at hSw); go_simp; try with_reducible rfl)); simp only [Act.put, List.setIfInBounds_toArray, List.set_cons_zero, List.set_cons_succ]) | (refine wpAnyH_take (i := 8) (v := undef) (by simp only [List.getElem?_toArray, List.getElem?_cons_zero, List.getElem?_cons_succ]; rfl) (by kernel_rfl) (by kernel_rfl) (by kernel_rfl) (by exact fun _ _ _ h => h) (Or.inr ⟨by rfl, rfl⟩) (by assumption) ?_; simp only [Act.put, List.setIfInBounds_toArray, List.set_cons_zero, List.set_cons_succ]) | fail
        refine wpAnyH_done (by kernel_rfl) ?_ _
        by_cases hg : q = p
        · subst hg
          rw [beq_self_eq_true, Bool.true_and] at hall
          go_wp2_with fail
          exact ⟨⟨i + 1, by omega, by simp, hB', hall⟩, by simp [Go.RowKit.intOf]; omega⟩
        · obtain rfl : r = false := by rw [hall.out, beq_eq_false_iff_ne.2 hg]; rfl
          have i2 : (q != p) = true := by simp [hg]
          go_wp2_with fail
          go_ret
          exact ⟨rfl, hB'⟩
      · obtain rfl : i = la := by omega
        obtain rfl : r = true := by rw [hall.out, allEq_end (by rw [hA.out.1]; exact Nat.le_refl _) (by rw [hA.out.2]; exact Nat.le_refl _)]
        clear hall
        go_wp2_with fail
        go_ret
        exact ⟨rfl, hB⟩
  · obtain rfl : r = false := by rw [← hr, beq_eq_false_iff_ne.2 hl]; rfl
    have i1 : ((x.length : Int) != (y.length : Int)) = true := by simp; omega
    clear hr gx gz
    go_enter Try.func28, Try.ntmps28
    go_wp2_with fail
    go_ret
    exact ⟨rfl, Below.refl _ _⟩
theorem run_eql_rings (x y : Nod) (w : World) : (binOp .eql 26 (.agg #[.int .i64 x.r1, .int .i64 x.r2, .int .i64 x.r3, .int .i64 x.gates]) (.agg #[.int .i64 y.r1, .int .i64 y.r2, .int .i64 y.r3, .int .i64 y.gates])).run Try.prog w = .ok (.bool (ringsEq x y)) w := by
  have e : ringsEq x y = (x.r1 == y.r1 && (x.r2 == y.r2 && (x.r3 == y.r3 && x.gates == y.gates))) := rfl
  rw [e]
  go_simp
  repeat' split
  all_goals simp_all
theorem nodEq_two (x y : Nod) : nodEq x y = (eqs x.path y.path && x.dir == y.dir && labEq x.label y.label && labEq x.by_ y.by_ && ringsEq x y && (x.acl.length == y.acl.length && allEq grEq x.acl y.acl) && (x.words.length == y.words.length && allEq (fun a b : Int => a == b) x.words y.words)) := by
  unfold nodEq headEq
  cases eqs x.path y.path <;> cases (x.dir == y.dir) <;> cases labEq x.label y.label <;> cases labEq x.by_ y.by_ <;> cases ringsEq x y <;> cases (x.acl.length == y.acl.length) <;> cases (x.words.length == y.words.length) <;> cases allEq grEq x.acl y.acl <;> rfl
set_option maxRecDepth 20000 in
set_option maxHeartbeats 8000000 in
theorem nsame_any (x y : Nod) (aa : Option Addr) (ca : Nat) (wa : Option Addr) (cw : Nat) (ab : Option Addr) (cb : Nat) (wb : Option Addr) (cd : Nat) (hx1 : x.acl.length ≤ 1000000) (hx2 : x.words.length ≤ 1000000) (hy1 : y.acl.length ≤ 1000000) (hy2 : y.words.length ≤ 1000000) (w : World) (gx : GrsAt w aa x.acl) (gz : GrsAt w ab y.acl) (wx : WrdsAt w wa x.words) (wz : WrdsAt w wb y.words) :
    Calls Try.prog 10 #[x.v aa ca wa cw, y.v ab cb wb cd] w fun e w' => e = .returned (.bool (nodEq x y)) ∧ Below w.heap.size w w' := by
  have h := two_alloc (cw := cw) (ca := ca) (cb := cb) (cd := cd) gx gz wx wz
  unfold ncells at h
  clear gx gz wx wz
  rw [nodEq_two]
  have kL := run_eql_lab
  have kR := run_eql_rings
  have c1 := fun W (a : GrsAt W aa x.acl) (b : GrsAt W ab y.acl) => eqG_any x.acl y.acl aa ca ab cb hx1 hy1 W a b
  have c2 := fun W (a : WrdsAt W wa x.words) (b : WrdsAt W wb y.words) => eqW_any x.words y.words wa cw wb cd hx2 hy2 W a b
  obtain ⟨rA, hrA⟩ : ∃ r, (x.acl.length == y.acl.length && allEq grEq x.acl y.acl) = r := ⟨_, rfl⟩
  obtain ⟨rW, hrW⟩ : ∃ r, (x.words.length == y.words.length && allEq (fun a b : Int => a == b) x.words y.words) = r := ⟨_, rfl⟩
  rw [hrA] at c1 ⊢
  rw [hrW] at c2 ⊢
  clear hrA hrW hx1 hx2 hy1 hy2
  obtain ⟨r, hr⟩ : ∃ r, (eqs x.path y.path && x.dir == y.dir && labEq x.label y.label && labEq x.by_ y.by_ && ringsEq x y && rA && rW) = r := ⟨_, rfl⟩
  rw [hr]
  replace hr : Aside ((eqs x.path y.path && x.dir == y.dir && labEq x.label y.label && labEq x.by_ y.by_ && ringsEq x y && rA && rW) = r) := hr
  go_enter Try.func10, Try.ntmps10
  go_upto_region 1 with fail
  generalize ((w.alloc (.cells #[.string x.path, .bool x.dir, .int .i64 x.label.s, .int .i64 x.label.c, .int .i64 x.label.i, .int .i64 x.label.k, .slice aa x.acl.length ca, .int .i64 x.r1, .int .i64 x.r2, .int .i64 x.r3, .int .i64 x.gates, .slice wa x.words.length cw, .int .i64 x.by_.s, .int .i64 x.by_.c, .int .i64 x.by_.i, .int .i64 x.by_.k] 29)).alloc (.cells #[.string y.path, .bool y.dir, .int .i64 y.label.s, .int .i64 y.label.c, .int .i64 y.label.i, .int .i64 y.label.k, .slice ab y.acl.length cb, .int .i64 y.r1, .int .i64 y.r2, .int .i64 y.r3, .int .i64 y.gates, .slice wb y.words.length cd, .int .i64 y.by_.s, .int .i64 y.by_.c, .int .i64 y.by_.i, .int .i64 y.by_.k] 29)) = W at *
  have hbl := h.bl
  obtain ⟨⟨a0, a1, a2, a3, a4, a5, a6, a7, a8, a9, a10, a11, a12, a13, a14, a15⟩, ⟨b0, b1, b2, b3, b4, b5, b6, b7, b8, b9, b10, b11, b12, b13, b14, b15⟩, -, -, -, -, -⟩ := id h
  cases e0 : eqs x.path y.path
  case false =>
    have f0 : (x.path.toList == y.path.toList) = false := by exact e0
    obtain rfl : r = false := by rw [← hr.out, e0]; rfl
    go_wp2_with fail
    go_ret
    exact ⟨rfl, hbl⟩
  have f0 : (x.path.toList == y.path.toList) = true := by exact e0
  cases e1 : (x.dir == y.dir)
  case false =>
    obtain rfl : r = false := by rw [← hr.out, e1]; simp
    go_wp2_with fail
    go_ret
    exact ⟨rfl, hbl⟩
  cases e2 : labEq x.label y.label
  case false =>
    obtain rfl : r = false := by rw [← hr.out, e2]; simp
    go_wp2_with fail
    go_ret
    exact ⟨rfl, hbl⟩
  cases e3 : labEq x.by_ y.by_
  case false =>
    obtain rfl : r = false := by rw [← hr.out, e3]; simp
    go_wp2_with fail
    go_ret
    exact ⟨rfl, hbl⟩
  cases e4 : ringsEq x y
  case false =>
    obtain rfl : r = false := by rw [← hr.out, e4]; simp
    go_wp2_with fail
    go_ret
    exact ⟨rfl, hbl⟩
  rw [e0, e1, e2, e3, e4] at hr
  go_wp2_with fail
  refine (c1 W h.gx h.gz).mono ?_
  rintro e W1 ⟨rfl, hB1⟩
  have hk : ∀ k v, W.cell? ⟨w.heap.size, k, none⟩ = some v → W1.cell? ⟨w.heap.size, k, none⟩ = some v := fun k v hv => (hB1.cell (World.block_lt_of_cell? _ _ hv)).trans hv
  have hk2 : ∀ k v, W.cell? ⟨w.heap.size + 1, k, none⟩ = some v → W1.cell? ⟨w.heap.size + 1, k, none⟩ = some v := fun k v hv => (hB1.cell (World.block_lt_of_cell? _ _ hv)).trans hv
  have p11 := hk 11 _ a11
  have q11 := hk2 11 _ b11
  have hw1 := h.wx.below hB1
  have hw2 := h.wz.below hB1
  have hbl1 := Below.then hbl hB1
  clear a0 a1 a2 a3 a4 a5 a6 a7 a8 a9 a10 a11 a12 a13 a14 a15 b0 b1 b2 b3 b4 b5 b6 b7 b8 b9 b10 b11 b12 b13 b14 b15 hk hk2 kL kR c1 h
  cases rA
  case false =>
    obtain rfl : r = false := hr.out.symm
    go_wp2_with fail
    go_ret
    exact ⟨rfl, hbl1⟩
  obtain rfl : rW = r := hr.out
  go_wp2_with fail
  refine (c2 W1 hw1 hw2).mono ?_
  rintro e W2 ⟨rfl, hB2⟩
  go_wp2_with fail
  go_ret
  exact ⟨rfl, Below.then hbl1 hB2⟩
end Go.Proofs.Ytecleampjeebaaa
