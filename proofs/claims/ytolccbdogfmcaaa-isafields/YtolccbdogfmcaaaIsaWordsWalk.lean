/-
  P1501, P1504: any instruction is encoded, or refused, any word is decoded, or refused, as the document says; there and back it is the same: the law's walk.
-/
import Derived.Test.YtolccbdogfmcaaaIsaOk
namespace Go.Proofs.Ytolccbdogfmcaaa
open Go.RowKit
set_option maxRecDepth 8000
set_option linter.unusedSimpArgs false
set_option linter.unusedVariables false

set_option maxRecDepth 8000 in
set_option maxHeartbeats 8000000 in
theorem isaWords_walk {I : World → Prop} (C : IsaOk I) (i0 : Ins) (x : Int) (hx : fit64 x) (w : World) (hI : ∀ W, Below w.heap.size w W → I W) :
    Calls Try.prog 3 #[i0.v, .int .i64 x] w fun r w' => r = .returned (.bool true) ∧ Below w.heap.size w w' := by
  have hund := Try.underlying23
  have hsz : (Try.prog.info? 23).map (·.size) = some 3 := by kernel_rfl
  have hb0 := blkl_alloc w (ins3 i0).toArray 23
  have hB0 := alloc_below w (.cells (ins3 i0).toArray 23)
  replace hb0 : BlkL w.heap.size (ins3 i0) (w.alloc (.cells (ins3 i0).toArray 23)) := hb0
  go_enter Try.func3, Try.ntmps3
  go_upto_region 1 with fail
  generalize w.alloc (.cells #[.int .i64 i0.o, .int .i64 i0.p, .int .i64 i0.n] 23) = W0 at *
  go_wp2_with fail
  refine (iknown_any C W0 (hI _ hB0)).mono ?_
  rintro e W1 ⟨rfl, hB1⟩
  replace hb0 := stab_blk _ _ _ _ hb0 hB1
  replace hB0 := Below.then hB0 hB1
  clear hB1
  go_wp2_with fail
  go_loopw [5] (fun t5 wr => ∃ (k : Nat) (i : Ins), k ≤ 2 ∧ t5 = .int .i64 (k : Int) ∧ BlkL w.heap.size (ins3 i) wr ∧ Below w.heap.size w wr) (fun t5 _ => 2 - (Go.RowKit.intOf t5).toNat)
  case atStart => exact ⟨0, i0, by omega, rfl, hb0, hB0⟩
  case round =>
  clear hb0 hB0
  obtain ⟨k, i, hk, rfl, hb, hB⟩ := hrel
  by_cases hk2 : k < 2
  · have i1 : (k : Int) < 2 := by omega
    have hr := hb.range
    go_wp2_with (first | (refine wpList_load_row rfl _ rfl w.heap.size rfl (ins3 i) hr hund rfl hsz ?_) | fail)
    refine (C.enc i wr (hI _ hB)).mono ?_
    rintro e W2 ⟨rfl, hB2⟩
    have hb2 := stab_blk _ _ _ _ hb hB2
    have hB02 := Below.then hB hB2
    have hr2 := hb2.range
    clear hr hb hB hB2
    go_wp2_with (first | (refine wpList_load_row rfl _ rfl w.heap.size rfl (ins3 i) hr2 hund rfl hsz ?_) | fail)
    refine (riEnc_any i W2).mono ?_
    rintro e W3 ⟨rfl, hB3⟩
    have hb3 := stab_blk _ _ _ _ hb2 hB3
    have hB03 := Below.then hB02 hB3
    clear hr2 hb2 hB02 hB3
    have hde := fun (h : insE i = 0) => dec_enc h
    have hfit := insW_fit i
    obtain ⟨E, hE⟩ : ∃ E, insE i = E := ⟨_, rfl⟩
    obtain ⟨V, hV⟩ : ∃ V, insW i = V := ⟨_, rfl⟩
    rw [hE, hV] at hde ⊢
    rw [hV] at hfit
    replace hE : Aside (insE i = E) := hE
    replace hV : Aside (insW i = V) := hV
    go_upto_if 43 with fail
    go_cut [] from 42 to 57 (fun wc => BlkL w.heap.size (ins3 i) wc ∧ Below w.heap.size w wc)
    case first =>
      by_cases hE0 : E = 0
      · subst hE0
        obtain ⟨d1, d2⟩ := hde rfl
        have kd := C.dec V hfit W3 (hI _ hB03)
        rw [d1, d2] at kd
        have hnq := run_neq_ins i i
        rw [insQ_self] at hnq
        clear hde d1 d2
        go_wp2_with fail
        refine kd.mono ?_
        rintro e W4 ⟨rfl, hB4⟩
        have hb4 := stab_blk _ _ _ _ hb3 hB4
        have hB04 := Below.then hB03 hB4
        have hn5 := blkl_alloc W4 (ins3 i).toArray 23
        have hB5 := alloc_below W4 (.cells (ins3 i).toArray 23)
        replace hn5 : BlkL W4.heap.size (ins3 i) (W4.alloc (.cells (ins3 i).toArray 23)) := hn5
        have hb5 := stab_blk _ _ _ _ hb4 hB5
        have hB05 := Below.then hB04 hB5
        clear kd hb4 hB04 hB4 hB5 hb3 hB03
        go_upto_region 12 with fail
        generalize W4.alloc (.cells #[.int .i64 i.o, .int .i64 i.p, .int .i64 i.n] 23) = W5 at *
        have hr5 := hn5.range
        have hr6 := hb5.range
        go_wp2_with (first | (refine wpList_load_rowg (by rfl) _ rfl W4.heap.size rfl (ins3 i) hr5 hund rfl hsz ?_) | (refine wpList_load_rowg (by rfl) _ rfl w.heap.size rfl (ins3 i) hr6 hund rfl hsz ?_) | fail)
        go_meet
        exact ⟨hb5, hB05⟩
      · replace hE0 : (E == 0) = false := by simpa using hE0
        go_wp2_with fail
        go_meet
        exact ⟨hb3, hB03⟩
    case rest =>
      clear hb3 hB03 hde
      obtain ⟨hb4, hB4⟩ := hcut
      obtain ⟨X, hX⟩ : ∃ X, X = wc := ⟨_, rfl⟩
      subst hX
      have hr4 := hb4.range
      go_wp2_with (first | (refine wpList_load_row rfl _ rfl w.heap.size rfl (ins3 i) hr4 hund rfl hsz ?_) | fail)
      refine (igood_any i X).mono ?_
      rintro e W5 ⟨rfl, hB5⟩
      have hb5 := stab_blk _ _ _ _ hb4 hB5
      have hB05 := Below.then hB4 hB5
      obtain ⟨W6, hW6, hth6, hb6, hk6⟩ := put_box hb5 (goodI i)
      have hB06 := hk6 _ _ (Nat.le_refl _) hB05
      clear hr4 hb4 hB4 hB5 hb5 hB05 hk6
      go_wp2_with (first | (refine wpList_store_row rfl _ _ rfl w.heap.size rfl (ins3 (goodI i)) rfl hth6 hsz (ins3_one _) hW6 ?_) | fail)
      exact ⟨⟨k + 1, goodI i, by omega, by simp, hb6, hB06⟩, by simp [Go.RowKit.intOf]; omega⟩
  · have i1 : ¬ (k : Int) < 2 := by omega
    have hed := fun (h : decE x = 0) => enc_dec hx h
    have ke := fun (W : World) (q : Below w.heap.size w W) => C.enc (decI x) W (hI _ q)
    have kd := C.dec x hx wr (hI _ hB)
    have kr := fun W => riDec_any x hx W
    obtain ⟨D, hD⟩ : ∃ D, decI x = D := ⟨_, rfl⟩
    obtain ⟨F, hF⟩ : ∃ F, decE x = F := ⟨_, rfl⟩
    rw [hD, hF] at hed kd
    simp only [hD] at ke
    simp only [hD, hF] at kr
    clear hD hF
    have hnq := run_neq_ins D D
    rw [insQ_self] at hnq
    go_wp2_with fail
    refine kd.mono ?_
    rintro e W2 ⟨rfl, hB2⟩
    have hn3 := blkl_alloc W2 (ins3 D).toArray 23
    have hB3 := alloc_below W2 (.cells (ins3 D).toArray 23)
    replace hn3 : BlkL W2.heap.size (ins3 D) (W2.alloc (.cells (ins3 D).toArray 23)) := hn3
    have hB03 := Below.then (Below.then hB hB2) hB3
    clear kd
    go_upto_region 16 with fail
    generalize W2.alloc (.cells #[.int .i64 D.o, .int .i64 D.p, .int .i64 D.n] 23) = W3 at *
    generalize W2.heap.size = g3 at *
    go_wp2_with fail
    refine (kr W3).mono ?_
    rintro e W4 ⟨rfl, hB4⟩
    have hn4 := stab_blk _ _ _ _ hn3 hB4
    have hm5 := blkl_alloc W4 (ins3 D).toArray 23
    have hB5 := alloc_below W4 (.cells (ins3 D).toArray 23)
    replace hm5 : BlkL W4.heap.size (ins3 D) (W4.alloc (.cells (ins3 D).toArray 23)) := hm5
    have hn5 := stab_blk _ _ _ _ hn4 hB5
    have hB05 := Below.then (Below.then hB03 hB4) hB5
    clear kr hn3 hn4
    go_upto_region 17 with fail
    generalize W4.alloc (.cells #[.int .i64 D.o, .int .i64 D.p, .int .i64 D.n] 23) = W5 at *
    generalize W4.heap.size = g5 at *
    have hr3 := hn5.range
    have hr5 := hm5.range
    clear hB hB2 hB3 hB4 hB5 hB03
    by_cases hF0 : F = 0
    · subst hF0
      obtain ⟨e1, e2⟩ := hed rfl
      have ke5 := ke W5 hB05
      rw [e1, e2] at ke5
      clear ke hed e1 e2
      go_wp2_with (first | (refine wpList_load_row rfl _ rfl g3 rfl (ins3 D) hr3 hund rfl hsz ?_) | (refine wpList_load_row rfl _ rfl g5 rfl (ins3 D) hr5 hund rfl hsz ?_) | fail)
      refine ke5.mono ?_
      rintro e W6 ⟨rfl, hB6⟩
      have hfin := Below.then hB05 hB6
      clear ke5
      go_wp2_with fail
      go_ret
      exact ⟨rfl, hfin⟩
    · replace hF0 : (F == 0) = false := by simpa using hF0
      clear ke hed
      go_wp2_with (first | (refine wpList_load_row rfl _ rfl g3 rfl (ins3 D) hr3 hund rfl hsz ?_) | (refine wpList_load_row rfl _ rfl g5 rfl (ins3 D) hr5 hund rfl hsz ?_) | fail)
      go_ret
      exact ⟨rfl, hB05⟩
end Go.Proofs.Ytolccbdogfmcaaa
