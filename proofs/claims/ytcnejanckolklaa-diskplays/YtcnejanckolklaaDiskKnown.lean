/-
  THE LAWS' OWN SMALL FUNCTIONS: within, known (the chapter's example).
-/
import Derived.Test.YtcnejanckolklaaDiskRows
import Derived.Test.YtcnejanckolklaaDiskCrash
namespace Go.Proofs.Ytcnejanckolklaa
open Go.RowKit Go.Maps

set_option maxHeartbeats 400000 in
theorem within_any (k m : Int) (h0 : 0 < m) (h1 : m < 1000000) (w : World) :
    Calls Try.prog 7 #[.int .i64 k, .int .i64 m] w fun e w' => e = .returned (.int .i64 (k % m)) ∧ w' = w := by
  have b1 := Int.lt_tmod_of_pos k h0
  have b2 := Int.tmod_lt_of_pos k h0
  have hm0 : ¬ m = 0 := by omega
  have hm1 : ¬ m = -1 := by omega
  by_cases hn : k.tmod m < 0
  · have e1 : k % m = k.tmod m + m := by
      rw [Int.tmod_eq_emod] at hn ⊢
      split at hn
      · have := Int.emod_nonneg k (by omega : m ≠ 0); omega
      · rename_i hc; rw [if_neg hc]; rw [Int.natAbs_of_nonneg (by omega)]; omega
    rw [e1]
    clear e1
    go_enter Try.func7, Try.ntmps7
    go_wp2
    go_ret
    exact ⟨rfl, rfl⟩
  · have e1 : k % m = k.tmod m := by
      rw [Int.tmod_eq_emod] at hn ⊢
      split
      · simp
      · rename_i hc
        rw [if_neg hc] at hn
        have h3 := Int.emod_lt_of_pos k h0
        rw [Int.natAbs_of_nonneg (by omega)] at hn
        omega
    rw [e1]
    clear e1
    go_enter Try.func7, Try.ntmps7
    go_wp2
    go_ret
    exact ⟨rfl, rfl⟩

theorem known_keys : intKeys ((DataW.map ([] : List (Lit × DataW (List Int)))).put (.int .i64 1) (.held (List.replicate 128 7))) = [1] := by rfl
theorem known_calc : newestOf (.map []) (crashTo ((DataW.map []).put (.int .i64 1) (.held (List.replicate 128 7))) [3] [1] (fun _ => zeros) 1) 1 = List.replicate 3 7 ++ List.replicate 125 0 := by decide +kernel

set_option maxHeartbeats 1000000 in
theorem known_any (w : World) : Calls Try.prog 4 #[] w fun e w' => e = .returned (.bool true) ∧ Kept [] w w' := by
  have cN := new_ex 2 (by decide) (by decide) w
  have hmk := make_bytes
  go_enter Try.func4, Try.ntmps4
  go_wp2_with fail
  refine cN.mono ?_
  rintro e w1 ⟨db, pb, mb, rfl, hD, hdb, hpb, hmb, hK⟩
  clear cN
  go_wp2_with fail
  clear hmk
  have hg0 : (w1.alloc (.cells (rowOf zeros) 5)).heap[w1.heap.size]? = some (.cells (rowOf zeros) 5 (0, 0)) := heap_alloc_new w1 _
  have d0 := hD.alloc (.cells (rowOf zeros) 5)
  have k0 : Kept [] w (w1.alloc (.cells (rowOf zeros) 5)) := hK.alloc _
  have hgd : w1.heap.size ≠ db := by have := hD.dbl; omega
  have hgp : w1.heap.size ≠ pb := by have := hD.pbl; omega
  have hgm : w1.heap.size ≠ mb := by have := hD.mbl; omega
  have hgw := hK.size
  generalize w1.alloc (.cells (rowOf zeros) 5) = w2 at hg0 d0 k0 ⊢
  generalize w1.heap.size = g at hg0 hgd hgp hgm hgw ⊢
  clear hD hK
  go_loopw [4] (fun t wr => ∃ i : Nat, i ≤ 128 ∧ t = .int .i64 (i : Int) ∧ wr.heap[g]? = some (.cells (rowOf (fillTo 7 i)) 5 (0, 0)) ∧ Kept [g] w2 wr)
    (fun t _ => 128 - (Go.RowKit.intOf t).toNat)
  case atStart => exact ⟨0, by omega, rfl, by rw [fill_start]; exact hg0, Kept.refl _ _⟩
  case round =>
    obtain ⟨i, hi, rfl, hg, hkr⟩ := hrel
    rcases Nat.lt_or_ge i 128 with hlt | hge
    · have c := row_cell hg i (by rw [fill_len 7 i hi]; exact hlt)
      have f := row_frozen hg i
      have hg' : (wr.setCell ⟨g, i, none⟩ (.int .u8 7)).heap[g]? = some (.cells (rowOf (fillTo 7 (i + 1))) 5 (0, 0)) := by
        rw [heap_setCell_at _ hg, row_set, fill_step 7 i hlt]
      have hk' : Kept [g] w2 (wr.setCell ⟨g, i, none⟩ (.int .u8 7)) := hkr.setCell (by simp) _
      have hi' : (i : Int) < 128 := by omega
      clear hg hkr hg0 d0 k0
      go_wp2_with fail
      go_roundw
      case rel => exact ⟨i + 1, by omega, by go_num, hg', hk'⟩
      case measure => simp [Go.RowKit.intOf]; omega
    · obtain rfl : i = 128 := by omega
      rw [fill_end] at hg
      have d := d0.kept hkr (by simpa using hgd.symm) (by simpa using hgp.symm) (by simpa using hgm.symm)
      have hkw : Kept [] w wr := ⟨hkr.os.trans k0.os, hkr.tape.trans k0.tape, hkr.output.trans k0.output, Nat.le_trans k0.size hkr.size, fun k hk hs => (hkr.block k (Nat.lt_of_lt_of_le hk k0.size) (by simp; omega)).trans (k0.block k hk hs)⟩
      have cW := write_any d 1 (List.replicate 128 7) (rep_sec 7 (by decide) (by decide)) g 0 128 (row_range hg) hgd (by decide) (by decide) (by decide) (by decide) (by decide) (by decide) (by decide)
      clear hg0 d0 k0
      go_wp2_with fail
      refine cW.mono ?_
      rintro e w3 ⟨rfl, d3, hk3⟩
      clear cW hg d
      have d3' := d3.alloc (.cells #[.int .i64 3] 3)
      have cC := crash_any d3' (by decide) [3] (some ⟨w3.heap.size, 0, none⟩) 1 (Or.inr ⟨w3.heap.size, 0, rfl, fun j v hv => by
        cases j with
        | zero => simp at hv; subst hv; rw [cell_of_row _ _ _ #[.int .i64 3] 3 (0, 0) (heap_alloc_new w3 _)]; rfl
        | succ j => simp at hv, by have := d3.pbl; omega, by simp⟩)
      go_wp2_with fail
      refine cC.mono ?_
      rintro e w4 ⟨ks, hperm, hsrt, rfl, d4, hk4⟩
      clear cC d3 d3'
      rw [known_keys] at hperm
      obtain rfl : ks = [1] := List.perm_singleton.1 hperm
      have cR := read_any d4 1 (by decide) (by decide)
      have ecalc : newestOf (.map []) (crashTo ((DataW.map []).put (.int .i64 1) (.held (List.replicate 128 7))) [3] [1] (fun _ => zeros) ([1] : List Int).length) 1 = List.replicate 3 7 ++ List.replicate 125 0 := known_calc
      rw [ecalc] at cR
      clear ecalc
      go_wp2_with fail
      refine cR.mono ?_
      rintro e w5 ⟨g5, rfl, hg5, hr5, hk5⟩
      have x2 := row_cell hr5 2 (by simp)
      have x3 := row_cell hr5 3 (by simp)
      have e2 : (List.replicate 3 7 ++ List.replicate 125 (0 : Int)).getD 2 0 = 7 := by decide +kernel
      have e3 : (List.replicate 3 7 ++ List.replicate 125 (0 : Int)).getD 3 0 = 0 := by decide +kernel
      rw [e2] at x2
      rw [e3] at x3
      have hfin : Kept [] w w5 := by
        have k1 : Kept [db, pb, mb] wr w5 := ((((hk3.mono (by simp)).alloc _).trans hk4)).trans (hk5.mono (by simp))
        exact ⟨k1.os.trans hkw.os, k1.tape.trans hkw.tape, k1.output.trans hkw.output, Nat.le_trans hkw.size k1.size, fun k hk hs => (k1.block k (Nat.lt_of_lt_of_le hk hkw.size) (by simp; omega)).trans (hkw.block k hk hs)⟩
      clear cR hr5 hk5 hk4 d4 hk3 hkr hkw e2 e3
      go_wp2
      go_ret
      exact ⟨rfl, hfin⟩
end Go.Proofs.Ytcnejanckolklaa
