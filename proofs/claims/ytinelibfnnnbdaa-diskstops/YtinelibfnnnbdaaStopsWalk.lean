/-
  A DISK THAT IS TO STOP AT THE N-th OPERATION, OPERATION BY OPERATION.
-/
import Derived.Test.YtinelibfnnnbdaaDiskKnown
namespace Go.Proofs.Ytinelibfnnnbdaa
open Go.RowKit Go.Maps

/-- The disk ahead of operation j. -/
def StopAt (w : World) (db pb mb : Nat) (N j : Int) : Prop :=
  ∃ (nn : Nat) (pl : Nat → List Int) (D : DataW (List Int)), (nn : Int) ≤ j ∧ DiskAt w db pb mb 4 nn pl D (if j ≤ N then j - 1 else N - 1) (if j ≤ N then N - (j - 1) else 0) (decide (N < j))

section
variable {w : World} {db pb mb : Nat} {N j : Int}
theorem StopAt.kept {w' : World} (h : StopAt w db pb mb N j) (k : Kept [] w w') : StopAt w' db pb mb N j := by
  obtain ⟨nn, pl, D, hn, d⟩ := h
  exact ⟨nn, pl, D, hn, d.kept k (by simp) (by simp) (by simp)⟩

theorem StopAt.of {nn : Nat} {pl : Nat → List Int} {D : DataW (List Int)} {ops left : Int} {dead : Bool} (d : DiskAt w db pb mb 4 nn pl D ops left dead) (hn : (nn : Int) ≤ j)
    (h1 : ops = if j ≤ N then j - 1 else N - 1) (h2 : left = if j ≤ N then N - (j - 1) else 0) (h3 : dead = decide (N < j)) : StopAt w db pb mb N j := by
  subst h1 h2 h3
  exact ⟨nn, pl, D, hn, d⟩

theorem stops_flush (h : StopAt w db pb mb N j) (h1 : 1 ≤ j) (h2 : j ≤ 100) (hN : 1 ≤ N) (hN2 : N ≤ 20) :
    Calls Try.prog 17 #[.pointer (some ⟨db, 0, none⟩)] w fun e w' => e = .returned (.int .i64 (if j < N then 0 else 12)) ∧ StopAt w' db pb mb N (j + 1) ∧ Kept [db, pb, mb] w w' := by
  obtain ⟨nn, pl, D, hn, d⟩ := h
  rcases Int.lt_trichotomy j N with hlt | rfl | hgt
  · rw [if_pos (by omega), if_pos (by omega), decide_eq_false (by omega)] at d
    refine (flush_any d (by omega) (by omega) (by omega) (by omega)).mono fun e w' ⟨he, d', hk⟩ => ⟨by rw [he, if_pos hlt], StopAt.of d' (by omega) (by rw [if_pos (by omega)]; omega) (by rw [if_pos (by omega), if_pos (by omega)]; omega) (by rw [decide_eq_false (by omega)]), hk⟩
  · rw [if_pos (by omega), if_pos (by omega), decide_eq_false (by omega)] at d
    refine (flush_stops d (by omega)).mono fun e w' ⟨he, d', hk⟩ => ⟨by rw [he, if_neg (by omega)], StopAt.of d' (by omega) (by rw [if_neg (by omega)]) (by rw [if_neg (by omega)]) (by rw [decide_eq_true (by omega)]), hk.mono (by simp)⟩
  · rw [if_neg (by omega), if_neg (by omega), decide_eq_true (by omega)] at d
    refine (flush_dead d).mono fun e w' ⟨he, hw⟩ => ⟨by rw [he, if_neg (by omega)], by rw [hw]; exact StopAt.of d (by omega) (by rw [if_neg (by omega)]) (by rw [if_neg (by omega)]) (by rw [decide_eq_true (by omega)]), by rw [hw]; exact Kept.refl _ _⟩

theorem stops_write (h : StopAt w db pb mb N j) (h1 : 1 ≤ j) (h2 : j ≤ 100) (hN : 1 ≤ N) (hN2 : N ≤ 20) (k : Int) (hk0 : 0 ≤ k) (hk1 : k < 4) (g : Nat) (hg : w.heap[g]? = some (.cells (rowOf zeros) 5 (0, 0))) (hgd : g ≠ db) :
    Calls Try.prog 13 #[.pointer (some ⟨db, 0, none⟩), .int .i64 k, .slice (some ⟨g, 0, none⟩) 128 128] w fun e w' => e = .returned (.int .i64 (if j < N then 0 else 12)) ∧ StopAt w' db pb mb N (j + 1) ∧ Kept [db, pb, mb] w w' := by
  obtain ⟨nn, pl, D, hn, d⟩ := h
  rcases Int.lt_trichotomy j N with hlt | rfl | hgt
  · rw [if_pos (by omega), if_pos (by omega), decide_eq_false (by omega)] at d
    refine (write_any d k zeros zeros_sec g 0 128 (row_range hg) hgd hk0 (by omega) (by omega) (by omega) (by omega) (by omega) (by omega)).mono fun e w' ⟨he, d', hk⟩ => ⟨by rw [he, if_pos hlt], StopAt.of d' (by omega) (by rw [if_pos (by omega)]; omega) (by rw [if_pos (by omega), if_pos (by omega)]; omega) (by rw [decide_eq_false (by omega)]), hk.mono (by simp)⟩
  · rw [if_pos (by omega), if_pos (by omega), decide_eq_false (by omega)] at d
    refine (write_stops d k _ _ hk0 (by omega) (by omega)).mono fun e w' ⟨he, d', hk⟩ => ⟨by rw [he, if_neg (by omega)], StopAt.of d' (by omega) (by rw [if_neg (by omega)]) (by rw [if_neg (by omega)]) (by rw [decide_eq_true (by omega)]), hk.mono (by simp)⟩
  · rw [if_neg (by omega), if_neg (by omega), decide_eq_true (by omega)] at d
    refine (write_dead d k _).mono fun e w' ⟨he, hw⟩ => ⟨by rw [he, if_neg (by omega)], by rw [hw]; exact StopAt.of d (by omega) (by rw [if_neg (by omega)]) (by rw [if_neg (by omega)]) (by rw [decide_eq_true (by omega)]), by rw [hw]; exact Kept.refl _ _⟩

theorem stops_dead (h : StopAt w db pb mb N (j + 1)) :
    Calls Try.prog 23 #[.pointer (some ⟨db, 0, none⟩)] w fun e w' => e = .returned (.bool (decide (N ≤ j))) ∧ w' = w := by
  obtain ⟨nn, pl, D, hn, d⟩ := h
  refine (dead_any d).mono fun e w' ⟨he, hw⟩ => ⟨?_, hw⟩
  rw [he]
  congr 2
  exact decide_eq_decide.2 (by omega)
theorem stops_ops (h : StopAt w db pb mb N (j + 1)) :
    Calls Try.prog 24 #[.pointer (some ⟨db, 0, none⟩)] w fun e w' => e = .returned (.int .i64 (min j (N - 1))) ∧ w' = w := by
  obtain ⟨nn, pl, D, hn, d⟩ := h
  refine (ops_any d).mono fun e w' ⟨he, hw⟩ => ⟨?_, hw⟩
  rw [he]
  congr 2
  split <;> omega
end

/-- Bools that came in. -/
def IsBools (w : World) (a : Option Addr) (len cap : Nat) (B : Nat → Bool) : Prop :=
  (a = none ∧ len = 0 ∧ cap = 0) ∨ ∃ x, a = some x ∧ len ≤ cap ∧ cap ≤ maxLen ∧ ∀ i, i < cap → w.cell? (x.add i) = some (.bool (B i))

set_option maxHeartbeats 2000000 in
theorem stops_walk (n : Int) (a0 : Option Addr) (len0 cap0 : Nat) (B : Nat → Bool) (w : World) (hB : IsBools w a0 len0 cap0 B) :
    Calls Try.prog 5 #[.int .i64 n, .slice a0 len0 cap0] w fun e w' => e = .returned (.bool true) ∧ Below w.heap.size w w' := by
  have hlen : len0 ≤ maxLen := by
    rcases hB with ⟨_, h, _⟩ | ⟨x, _, h1, h2, _⟩
    · rw [h]; exact Nat.zero_le _
    · omega
  have hlm : (len0 : Int) ≤ 9223372036854775807 := by unfold maxLen at hlen; omega
  have hcell : ∀ (wr : World) (j : Int), Below w.heap.size w wr → 0 ≤ j → j < len0 → ∃ x, a0 = some x ∧ wr.cell? (x.add j.toNat) = some (.bool (B j.toNat)) := by
    intro wr j hb h0 h1
    rcases hB with ⟨_, h, _⟩ | ⟨x, e, h2, h3, h4⟩
    · omega
    · have := h4 j.toNat (by omega)
      exact ⟨x, e, (hb.cell (World.block_lt_of_cell? w _ this)).trans this⟩
  clear hB hlen
  have cK := known_any w
  go_enter Try.func5, Try.ntmps5
  go_wp2_with fail
  refine cK.mono ?_
  rintro e w1 ⟨rfl, hk1⟩
  clear cK
  have hb1 : Below w.heap.size w w1 := hk1.to_below (Nat.le_refl _) (by simp)
  have cN := new_ex 4 (by decide) (by decide) w1
  go_wp2_with fail
  refine cN.mono ?_
  rintro e w2 ⟨db, pb, mb, rfl, hD, hdb, hpb, hmb, hk2⟩
  clear cN
  have hs1 := hk1.size
  have hb2 : Below w.heap.size w w2 := hb1.trans (hk2.to_below hs1 (by simp))
  have cV := within_any n 20 (by decide) (by decide) w2
  go_wp2_with fail
  refine cV.mono ?_
  rintro e w2' ⟨rfl, rfl⟩
  clear cV
  have hN0 : 0 ≤ n % 20 := by omega
  have hN1 : n % 20 < 20 := by omega
  generalize n % 20 = r at hN0 hN1 ⊢
  have cS := stop_any hD (1 + r)
  go_wp2_with fail
  refine cS.mono ?_
  rintro e w3 ⟨rfl, d3, hk3⟩
  clear cS hD
  have hb3 : Below w.heap.size w w3 := hb2.trans (hk3.to_below hb2.size (by simp; omega))
  have hS3 : StopAt w3 db pb mb (1 + r) 1 := by
    exact StopAt.of d3 (by omega) (by rw [if_pos (by omega)]; omega) (by rw [if_pos (by omega)]; omega) (by rw [decide_eq_false (by omega)])
  clear d3 hk3 hk2 hk1 hb1 hb2
  obtain ⟨N, hN⟩ : ∃ N, N = 1 + r := ⟨_, rfl⟩
  rw [← hN] at hS3 ⊢
  have hNlo : 1 ≤ N := by omega
  have hNhi : N ≤ 20 := by omega
  clear hN hN0 hN1
  go_wp2_with fail
  go_loopw [7] (fun t wr => ∃ j : Int, 1 ≤ j ∧ j ≤ 26 ∧ t = .int .i64 j ∧ StopAt wr db pb mb N j ∧ Below w.heap.size w wr) (fun t _ => 26 - (Go.RowKit.intOf t).toNat)
  case atStart => exact ⟨1, by omega, by omega, rfl, hS3, hb3⟩
  case round =>
    obtain ⟨j, hj1, hj2, rfl, hS, hb⟩ := hrel
    clear hS3 hb3
    by_cases hlast : j ≤ 25
    · have hbs := hb.size
      rcases Int.lt_or_le j N with hj3 | hj3
      · by_cases hjl : j < len0
        · obtain ⟨x, rfl, hc⟩ := hcell wr j hb (by omega) hjl
          cases hBv : B j.toNat with
          | true =>
            rw [hBv] at hc
            have cF := stops_flush hS hj1 (by omega) hNlo hNhi
            go_wp2_with fail
            refine cF.mono ?_
            rintro e w4 ⟨he, hS4, hk4⟩
            rw [if_pos (by omega)] at he
            subst he
            have hb4 : Below w.heap.size w w4 := hb.trans (hk4.to_below hbs (by simp; omega))
            clear cF
            have cD := stops_dead hS4
            have cO := stops_ops hS4
            rw [decide_eq_false (show ¬ N ≤ j by omega)] at cD
            clear hS hcell
            go_wp2_with fail
            refine cD.mono ?_
            rintro e w5 ⟨rfl, rfl⟩
            go_wp2_with fail
            refine cO.mono ?_
            rintro e w6 ⟨rfl, rfl⟩
            clear cD cO
            go_wp2_with fail
            go_roundw
            case rel => exact ⟨j + 1, by omega, by omega, by first | rfl | go_num, hS4, hb4⟩
            case measure => simp [Go.RowKit.intOf]; omega
          | false =>
            rw [hBv] at hc
            have hg := heap_alloc_new wr (.cells (rowOf zeros) 5)
            have hS' := hS.kept (Kept.of_alloc [] wr (.cells (rowOf zeros) 5))
            have hgd : wr.heap.size ≠ db := by
              obtain ⟨_, _, _, _, d⟩ := hS
              have := d.dbl
              omega
            have hmk := make_bytes
            go_wp2_with fail
            refine (stops_write hS' hj1 (by omega) hNlo hNhi _ (by first | omega | exact Int.tmod_nonneg _ (by omega)) (by first | omega | exact Int.tmod_lt_of_pos _ (by decide)) _ hg hgd).mono ?_
            rintro e w4 ⟨he, hS4, hk4⟩
            rw [if_pos (by omega)] at he
            subst he
            have hb4 : Below w.heap.size w w4 := hb.trans (((Kept.of_alloc [db, pb, mb] wr _).trans hk4).to_below hbs (by simp; omega))
            clear hg hS' hmk
            have cD := stops_dead hS4
            have cO := stops_ops hS4
            rw [decide_eq_false (show ¬ N ≤ j by omega)] at cD
            clear hS hcell
            go_wp2_with fail
            refine cD.mono ?_
            rintro e w5 ⟨rfl, rfl⟩
            go_wp2_with fail
            refine cO.mono ?_
            rintro e w6 ⟨rfl, rfl⟩
            clear cD cO
            go_wp2_with fail
            go_roundw
            case rel => exact ⟨j + 1, by omega, by omega, by first | rfl | go_num, hS4, hb4⟩
            case measure => simp [Go.RowKit.intOf]; omega
        · have hjl' : ¬ j < (len0 : Int) := hjl
          have hg := heap_alloc_new wr (.cells (rowOf zeros) 5)
          have hS' := hS.kept (Kept.of_alloc [] wr (.cells (rowOf zeros) 5))
          have hgd : wr.heap.size ≠ db := by
            obtain ⟨_, _, _, _, d⟩ := hS
            have := d.dbl
            omega
          have hmk := make_bytes
          go_wp2_with fail
          refine (stops_write hS' hj1 (by omega) hNlo hNhi _ (by first | omega | exact Int.tmod_nonneg _ (by omega)) (by first | omega | exact Int.tmod_lt_of_pos _ (by decide)) _ hg hgd).mono ?_
          rintro e w4 ⟨he, hS4, hk4⟩
          rw [if_pos (by omega)] at he
          subst he
          have hb4 : Below w.heap.size w w4 := hb.trans (((Kept.of_alloc [db, pb, mb] wr _).trans hk4).to_below hbs (by simp; omega))
          clear hg hS' hmk
          have cD := stops_dead hS4
          have cO := stops_ops hS4
          rw [decide_eq_false (show ¬ N ≤ j by omega)] at cD
          clear hS hcell
          go_wp2_with fail
          refine cD.mono ?_
          rintro e w5 ⟨rfl, rfl⟩
          go_wp2_with fail
          refine cO.mono ?_
          rintro e w6 ⟨rfl, rfl⟩
          clear cD cO
          go_wp2_with fail
          go_roundw
          case rel => exact ⟨j + 1, by omega, by omega, by first | rfl | go_num, hS4, hb4⟩
          case measure => simp [Go.RowKit.intOf]; omega
      · by_cases hjl : j < len0
        · obtain ⟨x, rfl, hc⟩ := hcell wr j hb (by omega) hjl
          cases hBv : B j.toNat with
          | true =>
            rw [hBv] at hc
            have cF := stops_flush hS hj1 (by omega) hNlo hNhi
            go_wp2_with fail
            refine cF.mono ?_
            rintro e w4 ⟨he, hS4, hk4⟩
            rw [if_neg (by omega)] at he
            subst he
            have hb4 : Below w.heap.size w w4 := hb.trans (hk4.to_below hbs (by simp; omega))
            clear cF
            have cD := stops_dead hS4
            have cO := stops_ops hS4
            rw [decide_eq_true (show N ≤ j by omega)] at cD
            clear hS hcell
            go_wp2_with fail
            refine cD.mono ?_
            rintro e w5 ⟨rfl, rfl⟩
            go_wp2_with fail
            refine cO.mono ?_
            rintro e w6 ⟨rfl, rfl⟩
            clear cD cO
            go_wp2_with fail
            go_roundw
            case rel => exact ⟨j + 1, by omega, by omega, by first | rfl | go_num, hS4, hb4⟩
            case measure => simp [Go.RowKit.intOf]; omega
          | false =>
            rw [hBv] at hc
            have hg := heap_alloc_new wr (.cells (rowOf zeros) 5)
            have hS' := hS.kept (Kept.of_alloc [] wr (.cells (rowOf zeros) 5))
            have hgd : wr.heap.size ≠ db := by
              obtain ⟨_, _, _, _, d⟩ := hS
              have := d.dbl
              omega
            have hmk := make_bytes
            go_wp2_with fail
            refine (stops_write hS' hj1 (by omega) hNlo hNhi _ (by first | omega | exact Int.tmod_nonneg _ (by omega)) (by first | omega | exact Int.tmod_lt_of_pos _ (by decide)) _ hg hgd).mono ?_
            rintro e w4 ⟨he, hS4, hk4⟩
            rw [if_neg (by omega)] at he
            subst he
            have hb4 : Below w.heap.size w w4 := hb.trans (((Kept.of_alloc [db, pb, mb] wr _).trans hk4).to_below hbs (by simp; omega))
            clear hg hS' hmk
            have cD := stops_dead hS4
            have cO := stops_ops hS4
            rw [decide_eq_true (show N ≤ j by omega)] at cD
            clear hS hcell
            go_wp2_with fail
            refine cD.mono ?_
            rintro e w5 ⟨rfl, rfl⟩
            go_wp2_with fail
            refine cO.mono ?_
            rintro e w6 ⟨rfl, rfl⟩
            clear cD cO
            go_wp2_with fail
            go_roundw
            case rel => exact ⟨j + 1, by omega, by omega, by first | rfl | go_num, hS4, hb4⟩
            case measure => simp [Go.RowKit.intOf]; omega
        · have hjl' : ¬ j < (len0 : Int) := hjl
          have hg := heap_alloc_new wr (.cells (rowOf zeros) 5)
          have hS' := hS.kept (Kept.of_alloc [] wr (.cells (rowOf zeros) 5))
          have hgd : wr.heap.size ≠ db := by
            obtain ⟨_, _, _, _, d⟩ := hS
            have := d.dbl
            omega
          have hmk := make_bytes
          go_wp2_with fail
          refine (stops_write hS' hj1 (by omega) hNlo hNhi _ (by first | omega | exact Int.tmod_nonneg _ (by omega)) (by first | omega | exact Int.tmod_lt_of_pos _ (by decide)) _ hg hgd).mono ?_
          rintro e w4 ⟨he, hS4, hk4⟩
          rw [if_neg (by omega)] at he
          subst he
          have hb4 : Below w.heap.size w w4 := hb.trans (((Kept.of_alloc [db, pb, mb] wr _).trans hk4).to_below hbs (by simp; omega))
          clear hg hS' hmk
          have cD := stops_dead hS4
          have cO := stops_ops hS4
          rw [decide_eq_true (show N ≤ j by omega)] at cD
          clear hS hcell
          go_wp2_with fail
          refine cD.mono ?_
          rintro e w5 ⟨rfl, rfl⟩
          go_wp2_with fail
          refine cO.mono ?_
          rintro e w6 ⟨rfl, rfl⟩
          clear cD cO
          go_wp2_with fail
          go_roundw
          case rel => exact ⟨j + 1, by omega, by omega, by first | rfl | go_num, hS4, hb4⟩
          case measure => simp [Go.RowKit.intOf]; omega
    · obtain rfl : j = 26 := by omega
      obtain ⟨nn, pl, D, hnn, d⟩ := hS
      rw [if_neg (by omega), if_neg (by omega), decide_eq_true (by omega)] at d
      have cR := read_dead d 0
      have cC := crash_any d (by omega) [] none 0 (Or.inl rfl)
      have hbs := hb.size
      go_wp2_with fail
      refine cR.mono ?_
      rintro e w4 ⟨rfl, rfl⟩
      go_wp2_with fail
      refine cC.mono ?_
      rintro e w5 ⟨ks, _, _, rfl, d5, hk5⟩
      clear cR cC d
      have hb5 : Below w.heap.size w w5 := hb.trans (hk5.to_below hbs (by simp; omega))
      have cR := read_any d5 0 (by decide) (by decide)
      go_wp2_with fail
      refine cR.mono ?_
      rintro e w6 ⟨g6, rfl, _, _, hk6⟩
      have d6 := d5.kept hk6 (by simp) (by simp) (by simp)
      have hb6 : Below w.heap.size w w6 := hb5.trans (hk6.to_below hb5.size (by simp))
      clear cR d5
      have cF := flush_any d6 (by omega) (by omega) (by omega) (by omega)
      go_wp2_with fail
      refine cF.mono ?_
      rintro e w7 ⟨rfl, _, hk7⟩
      have hb7 : Below w.heap.size w w7 := hb6.trans (hk7.to_below hb6.size (by simp; omega))
      clear cF d6
      go_wp2
      go_ret
      exact ⟨rfl, hb7⟩
end Go.Proofs.Ytinelibfnnnbdaa
