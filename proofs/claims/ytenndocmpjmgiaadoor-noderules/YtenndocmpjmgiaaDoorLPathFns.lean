/-
  PACKAGE path: Parts, Check, Parent, Last, In, against the plain functions; the chapter's examples.
-/
import Derived.Test.YtenndocmpjmgiaaDoorLPathShelf
namespace Go.Proofs.YtenndocmpjmgiaaDoor
open Go.RowKit
set_option linter.unusedSimpArgs false
set_option linter.unusedVariables false

/-- The library's variable that its searches read holds an int. -/
def MaxV (w : World) : Prop := ∃ m, w.cell? ⟨0, 0, none⟩ = some (.int .i64 m)
theorem MaxV.below {w w' : World} (h : MaxV w) (b : Below w.heap.size w w') : MaxV w' := by
  obtain ⟨m, hm⟩ := h
  exact ⟨m, (b.cell (World.block_lt_of_cell? _ _ hm)).trans hm⟩
set_option maxHeartbeats 1000000 in
theorem parts_any (u : ByteArray) (hu : u.size ≤ 100000) (w : World) (hV : MaxV w) :
    Calls Tryd.prog 24 #[.string u] w fun e w' => ∃ v, e = .returned v ∧ OwnS w' w.heap.size v (ppartsOf u) ∧ Below w.heap.size w w' := by
  unfold ppartsOf
  cases h : eqs u slashS
  · have hl := eqs_lit false h
    have hl2 : ¬ u.toList = [47] := by simpa using hl
    rw [if_neg (by simp)]
    obtain ⟨m, hm⟩ := hV
    have cT := trim_any u
    have hts := trim_size u
    obtain ⟨t, ht⟩ : ∃ t, trimS u = t := ⟨_, rfl⟩
    rw [ht] at cT hts ⊢
    have hlen := Lib.splitB_all slashS (by decide) 0 _ t rfl
    have hcl := Lib.countB_le slashS (by decide) t.size t (Nat.le_refl _)
    have cS := split_any t m w (by omega) hm
    obtain ⟨k, hk⟩ : ∃ k, Lib.countB t slashS = k := ⟨_, rfl⟩
    rw [hk] at cS hlen hcl ⊢
    obtain ⟨l, hl⟩ : ∃ l, Lib.splitB slashS 0 k t = l := ⟨_, rfl⟩
    rw [hl] at cS hlen ⊢
    have hown : OwnS (w.alloc (.cells (l.map Value.string).toArray 9)) w.heap.size (.slice (some ⟨w.heap.size, 0, none⟩) (k + 1) (k + 1)) l := by
      have := World.ownsRow_lit (base := w.heap.size) (e := 9) (size := 1) w (l.map Value.string).toArray (k + 1) (Nat.le_refl _) (by simp only [maxLen]; omega) (by simp; omega)
      unfold OwnS
      rw [hlen]
      simpa using this
    go_enter Tryd.func24, Tryd.ntmps24
    go_wp2_with fail
    refine (cT _).mono ?_
    rintro e w' ⟨rfl, hw'⟩
    have hw' := hw'.symm
    subst hw'
    go_wp2_with fail
    refine cS.mono ?_
    rintro e w' ⟨rfl, rfl⟩
    go_wp2_with fail
    go_ret
    exact ⟨_, rfl, hown, (Below.refl _ _).alloc (Nat.le_refl _) _⟩
  · have hl := eqs_lit true h
    have hl2 : u.toList = [47] := by simpa using hl
    rw [if_pos rfl]
    go_enter Tryd.func24, Tryd.ntmps24
    go_wp2
    go_ret
    exact ⟨_, rfl, ownS_nil _ _, Below.refl _ _⟩
set_option maxHeartbeats 4000000 in
theorem pcheck_any (u : ByteArray) (hu : u.size ≤ 100000) (w : World) (hV : MaxV w) :
    Calls Tryd.prog 12 #[.string u] w fun e w' => e = .returned (.int .i64 (checkOf u)) ∧ Below w.heap.size w w' := by
  rw [← pcheck_eq]
  by_cases h78 : 78 < u.size
  · rw [if_pos h78]
    have h1 : (78 : Int) < (u.size : Int) := by omega
    go_enter Tryd.func12, Tryd.ntmps12
    go_wp2
    go_ret
    exact ⟨rfl, Below.refl _ _⟩
  rw [if_neg h78]
  have cP := parts_any u (by omega) w hV
  have cH := fun W => has_any u ⟨#[47]⟩ W
  have hsm := pparts_small u
  obtain ⟨ps, hps⟩ : ∃ ps, ppartsOf u = ps := ⟨_, rfl⟩
  rw [hps] at cP hsm ⊢
  obtain ⟨ln, hln⟩ : ∃ ln, ps.length = ln := ⟨_, rfl⟩
  have hpe : bytes ⟨#[47]⟩ = [47] := rfl
  rw [hpe] at cH
  cases hpre : Lib.hasPrefix (bytes u) [47]
  · rw [if_pos rfl]
    rw [hpre] at cH
    go_enter Tryd.func12, Tryd.ntmps12
    go_wp2_with fail
    refine cP.mono ?_
    rintro e w1 ⟨v, rfl, ho, hB⟩
    obtain ⟨a, cap, rfl⟩ := ho.slice hln
    go_wp2_with fail
    refine (cH _).mono ?_
    rintro e w' ⟨rfl, hw'⟩
    have hw' := hw'.symm
    subst hw'
    go_wp2_with fail
    go_ret
    exact ⟨rfl, hB⟩
  · rw [if_neg (by simp)]
    rw [hpre] at cH
    obtain ⟨r, hr⟩ : ∃ r : Int, (if 6 < ps.length then (1 : Int) else if ps.all name = true then 0 else 1) = r := ⟨_, rfl⟩
    rw [hr]
    rw [hln] at hr
    go_enter Tryd.func12, Tryd.ntmps12
    go_wp2_with fail
    refine cP.mono ?_
    rintro e w1 ⟨v, rfl, ho, hB⟩
    obtain ⟨a, cap, rfl⟩ := ho.slice hln
    by_cases h6 : 6 < ln
    · rw [if_pos h6] at hr
      subst hr
      go_wp2_with fail
      refine (cH _).mono ?_
      rintro e w' ⟨rfl, hw'⟩
      have hw' := hw'.symm
      subst hw'
      go_wp2_with fail
      go_ret
      exact ⟨rfl, hB⟩
    · rw [if_neg h6] at hr
      go_wp2_with fail
      refine (cH _).mono ?_
      rintro e w' ⟨rfl, hw'⟩
      have hw' := hw'.symm
      subst hw'
      clear cH cP
      go_wp2_with fail
      go_loopw [21] (fun t21 wr => ∃ i : Nat, i ≤ ln ∧ t21 = .int .i64 (i : Int) ∧ Below w1.heap.size w1 wr ∧ Aside (r = if (ps.drop i).all name = true then 0 else 1)) (fun t21 _ => ln - (Go.RowKit.intOf t21).toNat)
      case atStart => exact ⟨0, by omega, rfl, Below.refl _ _, by rw [Aside, List.drop_zero, hr]⟩
      case round =>
        obtain ⟨i, hi, rfl, hBr, hall⟩ := hrel
        clear hr
        by_cases hlt : i < ln
        · obtain ⟨x, hx⟩ : ∃ x, ps[i]? = some x := ⟨_, List.getElem?_eq_getElem (by omega)⟩
          obtain ⟨g, cap', hv, hc, _, _⟩ := (ho.below hBr).at hln hx
          injection hv with q1 q2 q3
          subst q1 q3
          have hxs := hsm x (List.mem_of_getElem? hx)
          have hd : (ps.drop i).all name = (name x && (ps.drop (i + 1)).all name) := by
            have hil := (List.getElem?_eq_some_iff.1 hx).1
            rw [List.drop_eq_getElem_cons hil, List.all_cons, (List.getElem?_eq_some_iff.1 hx).2]
          rw [hd] at hall
          have cN := name_any x (by omega)
          cases hnx : name x
          · rw [hnx] at hall cN
            obtain rfl : r = 1 := by rw [hall.out]; simp
            as_aux_lemma =>
              go_wp2_with fail
              refine (cN _).mono ?_
              rintro e w' ⟨rfl, hB2⟩
              go_wp2_with fail
              go_ret
              exact ⟨rfl, Below.then (Below.then hB hBr) hB2⟩
          · rw [hnx, Bool.true_and] at hall
            rw [hnx] at cN
            as_aux_lemma =>
              go_wp2_with fail
              refine (cN _).mono ?_
              rintro e w' ⟨rfl, hB2⟩
              go_wp2_with fail
              exact ⟨⟨i + 1, by omega, by simp, Below.then hBr hB2, hall⟩, by simp [Go.RowKit.intOf]; omega⟩
        · obtain rfl : r = 0 := by
            rw [hall.out, List.drop_eq_nil_of_le (by omega)]
            rfl
          as_aux_lemma =>
            go_wp2_with fail
            go_ret
            exact ⟨rfl, Below.then hB hBr⟩
theorem join_empty_size (v : ByteArray) : (joinOf v ⟨#[]⟩).size ≤ v.size + 1 := by
  unfold joinOf
  split
  · simp [ByteArray.size_append]
    have : (⟨#[]⟩ : ByteArray).size = 0 := rfl
    omega
  · have : (⟨#[]⟩ : ByteArray).size = 0 := rfl
    simp [ByteArray.size_append, slash_size, this]
end Go.Proofs.YtenndocmpjmgiaaDoor
