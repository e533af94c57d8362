/-
  THE LAWS' OWN SMALL FUNCTIONS: within, known (the chapter's example).
-/
import Derived.Test.YtinelibfnnnbdaaDiskFlush
import Derived.Test.YtinelibfnnnbdaaDiskCrash
namespace Go.Proofs.Ytinelibfnnnbdaa
open Go.RowKit Go.Maps

set_option maxHeartbeats 400000 in
theorem within_any (k m : Int) (h0 : 0 < m) (h1 : m < 1000000) (w : World) :
    Calls Try.prog 11 #[.int .i64 k, .int .i64 m] w fun e w' => e = .returned (.int .i64 (k % m)) ∧ w' = w := by
  have b1 := Int.lt_tmod_of_pos k h0
  have b2 := Int.tmod_lt_of_pos k h0
  have hm0 : ¬ m = 0 := by omega
  have hm1 : ¬ m = -1 := by omega
  by_cases hn : k.tmod m < 0
  · have e1 : k % m = k.tmod m + m := by
      rw [Int.tmod_eq_emod] at hn ⊢
      split at hn
      · have := Int.emod_nonneg k (by omega : m ≠ 0); omega
      · rename_i hc; rw [if_neg hc]; rw [Int.natAbs_of_nonneg (by omega)]; omega
    rw [e1]
    clear e1
    go_enter Try.func11, Try.ntmps11
    go_wp2
    go_ret
    exact ⟨rfl, rfl⟩
  · have e1 : k % m = k.tmod m := by
      rw [Int.tmod_eq_emod] at hn ⊢
      split
      · simp
      · rename_i hc
        rw [if_neg hc] at hn
        have h3 := Int.emod_lt_of_pos k h0
        rw [Int.natAbs_of_nonneg (by omega)] at hn
        omega
    rw [e1]
    clear e1
    go_enter Try.func11, Try.ntmps11
    go_wp2
    go_ret
    exact ⟨rfl, rfl⟩

theorem new_ex (n : Nat) (h1 : 1 ≤ n) (h2 : n ≤ 4096) (w : World) :
    Calls Try.prog 9 #[.int .i64 (n : Int)] w fun e w' => ∃ db pb mb, e = .returned (.tuple #[.pointer (some ⟨db, 0, none⟩), .int .i64 0]) ∧ DiskAt w' db pb mb n 0 (fun _ => zeros) (.map []) 0 0 false ∧
      w.heap.size ≤ db ∧ w.heap.size ≤ pb ∧ w.heap.size ≤ mb ∧ Kept [] w w' :=
  (new_any n h1 h2 w).mono fun _ _ ⟨he, hD, hK⟩ => ⟨_, _, _, he, hD, by omega, by omega, by omega, hK⟩

/-- A row that is being filled with one byte. -/
def fillTo (v : Int) (i : Nat) : List Int := List.replicate i v ++ List.replicate (128 - i) 0
theorem fill_start (v : Int) : fillTo v 0 = zeros := by simp [fillTo, zeros]
theorem fill_end (v : Int) : fillTo v 128 = List.replicate 128 v := by simp [fillTo]
theorem fill_len (v : Int) (i : Nat) (h : i ≤ 128) : (fillTo v i).length = 128 := by simp [fillTo]; omega
theorem fill_step (v : Int) (i : Nat) (h : i < 128) : (fillTo v i).set i v = fillTo v (i + 1) := by
  apply List.ext_getElem?
  intro j
  simp only [fillTo, List.getElem?_set, List.getElem?_append, List.length_replicate, List.getElem?_replicate, List.length_append]
  by_cases e : i = j
  · subst e
    simp
    omega
  · simp only [e, if_false]
    by_cases h1 : j < i
    · simp [h1, show j < i + 1 by omega]
    · have h2 : ¬ j < i + 1 := by omega
      simp only [h1, h2, if_false]
      by_cases h3 : j < 128
      · rw [if_pos (by omega), if_pos (by omega)]
      · rw [if_neg (by omega), if_neg (by omega)]
theorem row_set (l : List Int) (i : Nat) (v : Int) : (rowOf l).setIfInBounds i (.int .u8 v) = rowOf (l.set i v) := by
  simp [rowOf, cellsOf, List.map_set]
theorem rep_sec (v : Int) (h0 : 0 ≤ v) (h1 : v < 256) : Sec (List.replicate 128 v) := ⟨by simp, fun x hx => by rw [List.eq_of_mem_replicate hx]; exact ⟨h0, h1⟩⟩

theorem row_cell {w : World} {g : Nat} {l : List Int} {t : TypeId} (hb : w.heap[g]? = some (.cells (rowOf l) t (0, 0))) (i : Nat) (hi : i < l.length) : w.cell? ⟨g, i, none⟩ = some (.int .u8 (l.getD i 0)) := by
  rw [cell_of_row w g i _ t (0, 0) hb]
  simp [rowOf, cellsOf, hi]
theorem row_frozen {w : World} {g : Nat} {c : Array Value} {t : TypeId} (hb : w.heap[g]? = some (.cells c t (0, 0))) (i : Nat) : w.frozen? ⟨g, i, none⟩ = false := by
  unfold World.frozen?
  simp only [hb]
  simp
theorem row_range {w : World} {g : Nat} {l : List Int} {t : TypeId} (hb : w.heap[g]? = some (.cells (rowOf l) t (0, 0))) : w.rangeAt g 0 (cellsOf l) := fun j v hv => by
  rw [cell_of_row w g (0 + j) _ t (0, 0) hb]
  simpa [rowOf] using hv

theorem known_keys : intKeys ((DataW.map ([] : List (Lit × DataW (List Int)))).put (.int .i64 1) (.held (List.replicate 128 7))) = [1] := by rfl
theorem known_calc : newestOf (.map []) (crashTo ((DataW.map []).put (.int .i64 1) (.held (List.replicate 128 7))) [3] [1] (fun _ => zeros) 1) 1 = List.replicate 3 7 ++ List.replicate 125 0 := by decide +kernel

set_option maxHeartbeats 1000000 in
theorem known_any (w : World) : Calls Try.prog 8 #[] w fun e w' => e = .returned (.bool true) ∧ Kept [] w w' := by
  have cN := new_ex 2 (by decide) (by decide) w
  have hmk := make_bytes
  go_enter Try.func8, Try.ntmps8
  go_wp2_with fail
  refine cN.mono ?_
  rintro e w1 ⟨db, pb, mb, rfl, hD, hdb, hpb, hmb, hK⟩
  clear cN
  go_wp2_with fail
  clear hmk
  have hg0 : (w1.alloc (.cells (rowOf zeros) 5)).heap[w1.heap.size]? = some (.cells (rowOf zeros) 5 (0, 0)) := heap_alloc_new w1 _
  have d0 := hD.alloc (.cells (rowOf zeros) 5)
  have k0 : Kept [] w (w1.alloc (.cells (rowOf zeros) 5)) := hK.alloc _
  have hgd : w1.heap.size ≠ db := by have := hD.dbl; omega
  have hgp : w1.heap.size ≠ pb := by have := hD.pbl; omega
  have hgm : w1.heap.size ≠ mb := by have := hD.mbl; omega
  have hgw := hK.size
  generalize w1.alloc (.cells (rowOf zeros) 5) = w2 at hg0 d0 k0 ⊢
  generalize w1.heap.size = g at hg0 hgd hgp hgm hgw ⊢
  clear hD hK
  go_loopw [4] (fun t wr => ∃ i : Nat, i ≤ 128 ∧ t = .int .i64 (i : Int) ∧ wr.heap[g]? = some (.cells (rowOf (fillTo 7 i)) 5 (0, 0)) ∧ Kept [g] w2 wr)
    (fun t _ => 128 - (Go.RowKit.intOf t).toNat)
  case atStart => exact ⟨0, by omega, rfl, by rw [fill_start]; exact hg0, Kept.refl _ _⟩
  case round =>
    obtain ⟨i, hi, rfl, hg, hkr⟩ := hrel
    rcases Nat.lt_or_ge i 128 with hlt | hge
    · have c := row_cell hg i (by rw [fill_len 7 i hi]; exact hlt)
      have f := row_frozen hg i
      have hg' : (wr.setCell ⟨g, i, none⟩ (.int .u8 7)).heap[g]? = some (.cells (rowOf (fillTo 7 (i + 1))) 5 (0, 0)) := by
        rw [heap_setCell_at _ hg, row_set, fill_step 7 i hlt]
      have hk' : Kept [g] w2 (wr.setCell ⟨g, i, none⟩ (.int .u8 7)) := hkr.setCell (by simp) _
      have hi' : (i : Int) < 128 := by omega
      clear hg hkr hg0 d0 k0
      go_wp2_with fail
      go_roundw
      case rel => exact ⟨i + 1, by omega, by go_num, hg', hk'⟩
      case measure => simp [Go.RowKit.intOf]; omega
    · obtain rfl : i = 128 := by omega
      rw [fill_end] at hg
      have d := d0.kept hkr (by simpa using hgd.symm) (by simpa using hgp.symm) (by simpa using hgm.symm)
      have hkw : Kept [] w wr := ⟨hkr.os.trans k0.os, hkr.tape.trans k0.tape, hkr.output.trans k0.output, Nat.le_trans k0.size hkr.size, fun k hk hs => (hkr.block k (Nat.lt_of_lt_of_le hk k0.size) (by simp; omega)).trans (k0.block k hk hs)⟩
      have cW := write_any d 1 (List.replicate 128 7) (rep_sec 7 (by decide) (by decide)) g 0 128 (row_range hg) hgd (by decide) (by decide) (by decide) (by decide) (by decide) (by decide) (by decide)
      clear hg0 d0 k0
      go_wp2_with fail
      refine cW.mono ?_
      rintro e w3 ⟨rfl, d3, hk3⟩
      clear cW hg d
      have d3' := d3.alloc (.cells #[.int .i64 3] 3)
      have cC := crash_any d3' (by decide) [3] (some ⟨w3.heap.size, 0, none⟩) 1 (Or.inr ⟨w3.heap.size, 0, rfl, fun j v hv => by
        cases j with
        | zero => simp at hv; subst hv; rw [cell_of_row _ _ _ #[.int .i64 3] 3 (0, 0) (heap_alloc_new w3 _)]; rfl
        | succ j => simp at hv, by have := d3.pbl; omega, by simp⟩)
      go_wp2_with fail
      refine cC.mono ?_
      rintro e w4 ⟨ks, hperm, hsrt, rfl, d4, hk4⟩
      clear cC d3 d3'
      rw [known_keys] at hperm
      obtain rfl : ks = [1] := List.perm_singleton.1 hperm
      have cR := read_any d4 1 (by decide) (by decide)
      have ecalc : newestOf (.map []) (crashTo ((DataW.map []).put (.int .i64 1) (.held (List.replicate 128 7))) [3] [1] (fun _ => zeros) ([1] : List Int).length) 1 = List.replicate 3 7 ++ List.replicate 125 0 := known_calc
      rw [ecalc] at cR
      clear ecalc
      go_wp2_with fail
      refine cR.mono ?_
      rintro e w5 ⟨g5, rfl, hg5, hr5, hk5⟩
      have x2 := row_cell hr5 2 (by simp)
      have x3 := row_cell hr5 3 (by simp)
      have e2 : (List.replicate 3 7 ++ List.replicate 125 (0 : Int)).getD 2 0 = 7 := by decide +kernel
      have e3 : (List.replicate 3 7 ++ List.replicate 125 (0 : Int)).getD 3 0 = 0 := by decide +kernel
      rw [e2] at x2
      rw [e3] at x3
      have hfin : Kept [] w w5 := by
        have k1 : Kept [db, pb, mb] wr w5 := ((((hk3.mono (by simp)).alloc _).trans hk4)).trans (hk5.mono (by simp))
        exact ⟨k1.os.trans hkw.os, k1.tape.trans hkw.tape, k1.output.trans hkw.output, Nat.le_trans hkw.size k1.size, fun k hk hs => (k1.block k (Nat.lt_of_lt_of_le hk hkw.size) (by simp; omega)).trans (hkw.block k hk hs)⟩
      clear cR hr5 hk5 hk4 d4 hk3 hkr hkw e2 e3
      go_wp2
      go_ret
      exact ⟨rfl, hfin⟩
end Go.Proofs.Ytinelibfnnnbdaa
