/-
  ONE SECTOR THAT IS WRITTEN MORE THAN ONCE, AND A CRASH: the law's walk (more than twenty bytes).
-/
import Derived.Test.YtinelibfnnnbdaaLastBase
namespace Go.Proofs.Ytinelibfnnnbdaa
open Go.RowKit Go.Maps

set_option maxRecDepth 20000 in
set_option maxHeartbeats 6000000 in
theorem last_long (a0 : Option Addr) (len0 cap0 : Nat) (z : List Int) (pick : Int) (w : World) (hB : IsBytes w a0 len0 cap0 z) (hl20 : 20 < len0) :
    Calls Try.prog 7 #[.slice a0 len0 cap0, .int .i64 pick] w fun e w' => e = .returned (.bool true) ∧ Below w.heap.size w w' := by
  have hlm : (len0 : Int) ≤ 9223372036854775807 := by
    rcases hB with ⟨_, h, _⟩ | ⟨x, _, h1, h2, _⟩
    · omega
    · unfold maxLen at h2; omega
  have hcell : ∀ (wr : World) (i : Nat), Below w.heap.size w wr → i < len0 → ∃ x, a0 = some x ∧ wr.cell? (x.add i) = some (.int .u8 (z.getD i 0)) ∧ 0 ≤ z.getD i 0 ∧ z.getD i 0 < 256 := by
    intro wr i hb h1
    rcases hB with ⟨_, h, _⟩ | ⟨x, e, h2, h3, h4, h5, h6⟩
    · omega
    · have := h5 i (by omega)
      have hm : z.getD i 0 ∈ z := by
        rw [show z.getD i 0 = z[i]'(by omega) by simp [show i < z.length by omega]]
        exact List.getElem_mem _
      have hw := h6 _ hm
      have hw' := byte_wf hw
      exact ⟨x, e, (hb.cell (World.block_lt_of_cell? w _ this)).trans this, hw'.1, hw'.2⟩
  clear hB
  have cK := known_any w
  go_enter Try.func7, Try.ntmps7
  go_wp2_with fail
  refine cK.mono ?_
  rintro e w1 ⟨rfl, hk1⟩
  clear cK
  have hb1 : Below w.heap.size w w1 := hk1.to_below (Nat.le_refl _) (by simp)
  have cN := new_ex 3 (by decide) (by decide) w1
  go_wp2_with fail
  refine cN.mono ?_
  rintro e w2 ⟨db, pb, mb, rfl, hD, hdb, hpb, hmb, hk2⟩
  clear cN
  have hs1 := hk1.size
  have hb2 : Below w.heap.size w w2 := hb1.trans (hk2.to_below hs1 (by simp))
  clear hk1 hk2 hb1
  go_wp2_with fail
  go_loopw [7, 8] (fun t7 t8 wr => ∃ i : Nat, i ≤ 20 ∧ i ≤ len0 ∧ t7 = .int .u8 (lastOf z i) ∧ t8 = .int .i64 (i : Int) ∧ DiskAt wr db pb mb 3 i (fun _ => zeros) (LastD z i) (i : Int) 0 false ∧ Below w.heap.size w wr)
    (fun _ t8 _ => 20 - (Go.RowKit.intOf t8).toNat)
  case atStart => exact ⟨0, by omega, by omega, rfl, rfl, hD, hb2⟩
  case round =>
    obtain ⟨i, hi, hil, rfl, rfl, d, hb⟩ := hrel
    clear hD hb2
    have hbs := hb.size
    by_cases hgo : i < 20
    · have hg1 : i < len0 := by omega
      have hg2 : i < 20 := hgo
      obtain ⟨x, rfl, hc, hv0, hv1⟩ := hcell wr i hb hg1
      obtain ⟨v, hv⟩ : ∃ v, z.getD i 0 = v := ⟨_, rfl⟩
      rw [hv] at hc hv0 hv1
      have hlo : lastOf z (i + 1) = v := hv
      have hLD : LastD z (i + 1) = (DataW.map []).put (.int .i64 1) (.held (List.replicate 128 v)) := by rw [← hv]; rfl
      have hxw : (x.add i).block < w.heap.size := by
        have h1 := World.block_lt_of_cell? wr _ hc
        obtain ⟨x2, e2, h2, _⟩ := hcell w i (Below.refl _ _) hg1
        cases e2
        exact World.block_lt_of_cell? w _ h2
      have hcw : w.cell? (x.add i) = some (.int .u8 v) := (hb.cell hxw).symm.trans hc
      clear hcell hv
      have hg1' : (i : Int) < (len0 : Int) := by omega
      have hg2' : (i : Int) < 20 := by omega
      have hmk := make_bytes
      go_wp2_with fail
      have hg0 : (wr.alloc (.cells (rowOf zeros) 5)).heap[wr.heap.size]? = some (.cells (rowOf zeros) 5 (0, 0)) := heap_alloc_new wr _
      have d0 := d.alloc (.cells (rowOf zeros) 5)
      have hb0 : Below w.heap.size w (wr.alloc (.cells (rowOf zeros) 5)) := hb.alloc hbs _
      have hgd : wr.heap.size ≠ db := by have := d.dbl; omega
      have hgp : wr.heap.size ≠ pb := by have := d.pbl; omega
      have hgm : wr.heap.size ≠ mb := by have := d.mbl; omega
      generalize wr.alloc (.cells (rowOf zeros) 5) = W0 at hg0 d0 hb0 ⊢
      generalize wr.heap.size = g at hg0 hgd hgp hgm hbs ⊢
      clear hmk d hb hc
      go_loopw [10] (fun t wr => ∃ q : Nat, q ≤ 128 ∧ t = .int .i64 (q : Int) ∧ wr.heap[g]? = some (.cells (rowOf (fillTo v q)) 5 (0, 0)) ∧ Kept [g] W0 wr)
        (fun t _ => 128 - (Go.RowKit.intOf t).toNat)
      case atStart => exact ⟨0, by omega, rfl, by rw [fill_start]; exact hg0, Kept.refl _ _⟩
      case round =>
        obtain ⟨q, hq, rfl, hg, hks⟩ := hrel
        have hbq : Below w.heap.size w wr := hb0.trans (hks.to_below hb0.size (by simpa using hbs))
        have hcq : wr.cell? (x.add i) = some (.int .u8 v) := (hbq.cell hxw).trans hcw
        rcases Nat.lt_or_ge q 128 with hlt | hge
        · have c := row_cell hg q (by rw [fill_len v q hq]; exact hlt)
          have f := row_frozen hg q
          have hg' : (wr.setCell ⟨g, q, none⟩ (.int .u8 v)).heap[g]? = some (.cells (rowOf (fillTo v (q + 1))) 5 (0, 0)) := by
            rw [heap_setCell_at _ hg, row_set, fill_step v q hlt]
          have hk' : Kept [g] W0 (wr.setCell ⟨g, q, none⟩ (.int .u8 v)) := hks.setCell (by simp) _
          have hq' : (q : Int) < 128 := by omega
          clear hg hks hg0 d0 hb0 hbq hlo hLD
          go_wp2_with fail
          go_roundw
          case rel => exact ⟨q + 1, by omega, by go_num, hg', hk'⟩
          case measure => simp [Go.RowKit.intOf]; omega
        · obtain rfl : q = 128 := by omega
          rw [fill_end] at hg
          have d2 := d0.kept hks (by simpa using hgd.symm) (by simpa using hgp.symm) (by simpa using hgm.symm)
          have cW := write_any d2 1 (List.replicate 128 v) (rep_sec v hv0 hv1) g 0 128 (row_range hg) hgd (by decide) (by decide) (by omega) (by omega) (by omega) (by decide) (by decide)
          rw [last_put, ← hLD] at cW
          clear hg0 d0 hb0 hcq
          go_wp2_with fail
          refine cW.mono ?_
          rintro e w4 ⟨rfl, d4, hk4⟩
          clear cW hg d2
          have hb4 : Below w.heap.size w w4 := hbq.trans (hk4.to_below hbq.size (by simp; omega))
          have hc4 : w4.cell? (x.add i) = some (.int .u8 v) := (hb4.cell hxw).trans hcw
          have d4' : DiskAt w4 db pb mb 3 (i + 1) (fun _ => zeros) (LastD z (i + 1)) ((i + 1 : Nat) : Int) 0 false := d4
          clear hLD d4
          go_wp2_with fail
          go_roundw
          case rel => exact ⟨i + 1, by omega, by omega, by rw [hlo], by go_num, d4', hb4⟩
          case measure => simp [Go.RowKit.intOf]; omega
    · obtain rfl : i = 20 := by omega
      have hg1' : ((20 : Nat) : Int) < (len0 : Int) := by omega
      have dA := d.alloc (.cells #[.int .i64 pick] 3)
      have cC := crash_any dA (by omega) [pick] (some ⟨wr.heap.size, 0, none⟩) 1 (Or.inr ⟨wr.heap.size, 0, rfl, fun j v hv => by
        cases j with
        | zero => simp at hv; subst hv; rw [cell_of_row _ _ _ #[.int .i64 pick] 3 (0, 0) (heap_alloc_new wr _)]; rfl
        | succ j => simp at hv, by have := d.pbl; omega, by simp⟩)
      go_wp2_with fail
      refine cC.mono ?_
      rintro e w5 ⟨ks, hperm, _, rfl, d5, hk5⟩
      clear cC dA hcell
      have hb5 : Below w.heap.size w w5 := (hb.alloc hbs _).trans (hk5.to_below (by simp; omega) (by simp; omega))
      have hmin : (ks.length : Int) = min (len0 : Int) 1 := by
        have h1 := hperm.length_eq
        rw [last_keys] at h1
        split at h1
        · simp only [List.length_nil] at h1
          omega
        · simp only [List.length_cons, List.length_nil] at h1
          omega
      have hval : ∀ k, k < 128 → (newestOf (.map []) (crashTo (LastD z 20) [pick] ks (fun _ => zeros) ks.length) 1).getD k 0 = if (k : Int) < pick % 129 then lastOf z 20 else 0 := by
        intro k hk
        have hf0 := frontOf_lo pick
        have hf1 := frontOf_hi pick
        have hfe := frontOf_eq pick
        rcases last_read z 20 pick ks hperm with h1 | ⟨h0, h1⟩
        · rw [h1, last_at _ _ _ hk (by omega)]
          by_cases hc : (k : Int) < pick % 129
          · rw [if_pos hc, if_pos (by omega)]
          · rw [if_neg hc, if_neg (by omega)]
        · rw [h1, h0]
          rw [zeros_at k hk]
          simp [lastOf]
      have hln : (newestOf (.map []) (crashTo (LastD z 20) [pick] ks (fun _ => zeros) ks.length) 1).length = 128 := (d5.newest_sec 1 (by decide) (by decide)).1
      have cR := read_any d5 1 (by decide) (by decide)
      generalize newestOf (.map []) (crashTo (LastD z 20) [pick] ks (fun _ => zeros) ks.length) 1 = l at hval hln cR
      go_wp2_with fail
      refine cR.mono ?_
      rintro e w6 ⟨g6, rfl, hg6, hr6, hk6⟩
      have d6 := d5.kept hk6 (by simp) (by simp) (by simp)
      have hb6 : Below w.heap.size w w6 := hb5.trans (hk6.to_below hb5.size (by simp))
      generalize crashTo (LastD z 20) [pick] ks (fun _ => zeros) ks.length = pl6 at d6
      clear cR d5 hk5 hk6 hb5 d hb hperm
      go_wp2_with fail
      clear hmin
      go_loopw [14] (fun t wr => ∃ k : Nat, k ≤ 128 ∧ t = .int .i64 (k : Int) ∧ wr = w6) (fun t _ => 128 - (Go.RowKit.intOf t).toNat)
      case atStart => exact ⟨0, by omega, rfl, rfl⟩
      case round =>
        obtain ⟨k, hk, rfl, rfl⟩ := hrel
        rcases Nat.lt_or_ge k 128 with hlt | hge
        · have hk' : (k : Int) < 128 := by omega
          have cV := within_any pick 129 (by decide) (by decide) wr
          have c := row_cell hr6 k (by omega)
          rw [hval k hlt] at c
          by_cases hkf : (k : Int) < pick % 129
          · rw [if_pos hkf] at c
            generalize pick % 129 = f at cV hkf
            clear hval
            go_wp2_with fail
            refine cV.mono ?_
            rintro e w7 ⟨rfl, rfl⟩
            clear cV
            go_wp2_with fail
            go_roundw
            case rel => exact ⟨k + 1, by omega, by go_num, by first | rfl | trivial⟩
            case measure => simp [Go.RowKit.intOf]; omega
          · rw [if_neg hkf] at c
            generalize pick % 129 = f at cV hkf
            have hkd : decide ((k : Int) < f) = false := decide_eq_false hkf
            clear hkf
            clear hval
            go_wp2_with fail
            refine cV.mono ?_
            rintro e w7 ⟨rfl, rfl⟩
            clear cV
            go_wp2_with fail
            go_roundw
            case rel => exact ⟨k + 1, by omega, by go_num, by first | rfl | trivial⟩
            case measure => simp [Go.RowKit.intOf]; omega
        · obtain rfl : k = 128 := by omega
          have dB := d6.alloc (.cells #[.int .i64 5] 3)
          have cC := crash_any dB (by decide) [5] (some ⟨wr.heap.size, 0, none⟩) 1 (Or.inr ⟨wr.heap.size, 0, rfl, fun j v hv => by
            cases j with
            | zero => simp at hv; subst hv; rw [cell_of_row _ _ _ #[.int .i64 5] 3 (0, 0) (heap_alloc_new wr _)]; rfl
            | succ j => simp at hv, by have := d6.pbl; omega, by simp⟩)
          clear hval
          go_wp2_with fail
          refine cC.mono ?_
          rintro e w7 ⟨kz, hpz, _, rfl, _, hk7⟩
          obtain rfl : kz = [] := List.Perm.eq_nil hpz
          have hb7 : Below w.heap.size w w7 := (hb6.alloc hb6.size _).trans (hk7.to_below (by have := hb6.size; simp; omega) (by simp; omega))
          clear cC dB
          go_wp2
          go_ret
          exact ⟨rfl, hb7⟩
end Go.Proofs.Ytinelibfnnnbdaa
