/-
  A WORD AS THE LAWS OF CHAPTER 16 ARE HANDED IT.
-/
import Derived.Test.YtinibccphecdfaaWCpuPcs
namespace Go.Proofs.Ytinibccphecdfaa
open Go.RowKit
set_option maxRecDepth 8000
set_option linter.unusedSimpArgs false
set_option linter.unusedVariables false

theorem w16_b (k m : Int) (h0 : 0 < m) (h1 : m < 1000000000000) (w : World) :
    Calls Try.prog 16 #[.int .i64 k, .int .i64 m] w fun e w' => e = .returned (.int .i64 (k % m)) ∧ Below w.heap.size w w' := by
  refine (w16_any k m h0 h1 w).mono ?_
  rintro e w' ⟨rfl, rfl⟩
  exact ⟨rfl, Below.refl _ _⟩
theorem BlkL.mid {b k : Nat} {cs ds : List Value} {W : World} (h : BlkL b cs W) (hd : ∀ j u, ds[j]? = some u → cs[k + j]? = some u) : W.rangeAt b k ds := fun j u hu => (h.1 _ u (hd j u hu)).1
set_option maxRecDepth 8000 in
set_option maxHeartbeats 4000000 in
theorem word_ins (x : WdX) (kk : Int) (hk : x.k % 4 = kk) (h : kk = 0 ∨ kk = 1) (w : World) :
    Calls Try.prog 31 #[.agg (wd8 x).toArray] w fun e w' => e = .returned (.int .i64 (insW (wdI x))) ∧ Below w.heap.size w w' := by
  have hundI := Try.underlying64
  have hszI : (Try.prog.info? 64).map (·.size) = some 3 := by kernel_rfl
  have k2 := fun W : World => w16_any x.i.n 9 (by decide) (by decide) W
  obtain ⟨q, hq⟩ : ∃ q, x.i.n % 9 = q := ⟨_, rfl⟩
  have hq0 : 0 ≤ q := by omega
  have hq1 : q < 9 := by omega
  have hw9 : IntKind.i64.wrap (q - 2) = q - 2 := by rw [IntKind.wrap_i64]; omega
  simp only [hq] at k2
  have hb := blkl_alloc w (wd8 x).toArray 83
  have hB := alloc_below w (.cells (wd8 x).toArray 83)
  replace hb : BlkL w.heap.size (wd8 x) (w.alloc (.cells (wd8 x).toArray 83)) := hb
  have k1 := fun W : World => w16_any x.k 4 (by decide) (by decide) W
  simp only [hk] at k1
  obtain ⟨X, hX⟩ : ∃ X, wd8 x = X := ⟨_, rfl⟩
  have y0 : (w.alloc (.cells (wd8 x).toArray 83)).cell? ⟨w.heap.size, 0, none⟩ = some (.int .i64 x.k) := (hb.1 0 _ rfl).1
  have hrI : (w.alloc (.cells (wd8 x).toArray 83)).rangeAt w.heap.size 1 (ins3 x.i) := hb.mid (fun j u hu => by
    match j, hu with
    | 0, hu => exact hu
    | 1, hu => exact hu
    | 2, hu => exact hu)
  rw [hX] at hb hB y0 hrI ⊢
  have hI : Aside (wdI x = ⟨(goodI x.i).o, (goodI x.i).p, q - 2⟩) := by show wdI x = _; unfold wdI; rw [hq]
  have kg := fun W : World => igood_any x.i W
  obtain ⟨G, hG⟩ : ∃ G, goodI x.i = G := ⟨_, rfl⟩
  rw [hG] at hI
  simp only [hG] at kg
  have z3 : (w.alloc (.cells X.toArray 83)).cell? ⟨w.heap.size, 3, none⟩ = some (.int .i64 x.i.n) := hrI 2 _ rfl
  clear hG
  have ke := fun W : World => riEnc_any ⟨G.o, G.p, q - 2⟩ W
  rw [hI.out]
  obtain ⟨A, hA⟩ : ∃ A, insW ⟨G.o, G.p, q - 2⟩ = A := ⟨_, rfl⟩
  obtain ⟨E, hE⟩ : ∃ E, insE ⟨G.o, G.p, q - 2⟩ = E := ⟨_, rfl⟩
  rw [hA]
  simp only [hA, hE] at ke
  clear hA hE hI hq
  go_enter Try.func31, Try.ntmps31
  go_upto_region 1 with fail
  generalize w.alloc (.cells X.toArray 83) = U0 at *
  go_wp2_with fail
  refine (k1 U0).mono ?_
  rintro e W2 ⟨rfl, hw⟩
  rw [hw]
  clear hw W2 y0 k1 hk
  rcases h with rfl | rfl
  all_goals
    go_upto_region 4 with fail
    go_wp2_with (first | (refine wpList_load_midg (by rfl) _ rfl w.heap.size 1 rfl (ins3 x.i) hrI hundI rfl hszI ?_) | fail)
    refine (kg U0).mono ?_
    rintro e W3 ⟨rfl, hb3⟩
    have hB3 := Below.then hB hb3
    have z3' := (hb3.cell (p := ⟨w.heap.size, 3, none⟩) hb.2).trans z3
    obtain ⟨W4, hW4, hth4, hb4, hk4⟩ := put_new W3 #[.int .i64 0, .int .i64 0, .int .i64 0] 64 (ins3 G) rfl (by show 0 < 3; decide)
    have hB4 := Below.then hB3 hk4
    have z3'' := (hk4.cell (p := ⟨w.heap.size, 3, none⟩) (Nat.lt_of_lt_of_le hb.2 hb3.size)).trans z3'
    clear hrI z3 hB hB3 hk4 z3' kg
    have hg4 : w.heap.size ≤ W3.heap.size := Nat.le_of_lt (Nat.lt_of_lt_of_le hb.2 hb3.size)
    clear hb hb3
    go_upto_region 5 with (first | (refine wpList_store_row rfl _ _ rfl W3.heap.size rfl (ins3 G) rfl hth4 hszI (ins3_one _) hW4 ?_) | fail)
    clear hW4 hth4
    generalize W3.heap.size = g at *
    have y2 := hb4.1 2 _ rfl
    have y2c := y2.1
    have y2f := y2.2
    go_wp2_with fail
    refine (k2 W4).mono ?_
    rintro e W5 ⟨rfl, hw⟩
    rw [hw]
    clear hw W5 k2
    have hB5 := hB4.setCell (p := ⟨g, 2, none⟩) hg4 (.int .i64 (q - 2))
    have hb5 : BlkL g (ins3 ⟨G.o, G.p, q - 2⟩) (W4.setCell ⟨g, 2, none⟩ (.int .i64 (q - 2))) := by
      have h1 := hb4.1.set 2 (.int .i64 (q - 2)) (by show 2 < 3; decide)
      exact ⟨h1, h1.lt rfl⟩
    go_upto_region 6 with fail
    clear y2 y2c y2f hb4 hB4 z3''
    generalize W4.setCell ⟨g, 2, none⟩ (.int .i64 (q - 2)) = W6 at *
    have hr6 := hb5.range
    go_wp2_with (first | (refine wpList_load_row rfl _ rfl g rfl (ins3 ⟨G.o, G.p, q - 2⟩) hr6 hundI rfl hszI ?_) | fail)
    refine (ke W6).mono ?_
    rintro e W7 ⟨rfl, hb7⟩
    have hB7 := Below.then hB5 hb7
    go_wp2_with fail
    go_ret
    exact ⟨rfl, hB7⟩
set_option maxRecDepth 8000 in
set_option maxHeartbeats 4000000 in
theorem word_ptr (x : WdX) (hk : x.k % 4 = 2) (w : World) :
    Calls Try.prog 31 #[.agg (wd8 x).toArray] w fun e w' => e = .returned (.int .i64 (ptrW (wdP x))) ∧ Below w.heap.size w w' := by
  have hb := blkl_alloc w (wd8 x).toArray 83
  have hB := alloc_below w (.cells (wd8 x).toArray 83)
  replace hb : BlkL w.heap.size (wd8 x) (w.alloc (.cells (wd8 x).toArray 83)) := hb
  have k1 := fun W : World => w16_any x.k 4 (by decide) (by decide) W
  simp only [hk] at k1
  obtain ⟨X, hX⟩ : ∃ X, wd8 x = X := ⟨_, rfl⟩
  have y0 : (w.alloc (.cells (wd8 x).toArray 83)).cell? ⟨w.heap.size, 0, none⟩ = some (.int .i64 x.k) := (hb.1 0 _ rfl).1
  have z4 := (hb.1 4 (.int .i64 x.p.s) rfl).1
  have z5 := (hb.1 5 (.int .i64 x.p.f) rfl).1
  have z6 := (hb.1 6 (.int .i64 x.p.r) rfl).1
  rw [hX] at hb hB y0 z4 z5 z6 ⊢
  have hlt := hb.2
  clear hb
  go_enter Try.func31, Try.ntmps31
  go_upto_region 1 with fail
  generalize w.alloc (.cells X.toArray 83) = U0 at *
  go_wp2_with fail
  refine (k1 U0).mono ?_
  rintro e W2 ⟨rfl, hw⟩
  rw [hw]
  clear hw W2 y0 k1 hk
  go_upto_region 9 with fail
  have hS0 := (Below.refl U0.heap.size U0).drew
  refine wp_region_held_drew (S := (fun W => Below U0.heap.size U0 W)) (by kernel_rfl) (by exact hS0) ?_
  intro hHeld
  generalize U0.drew = w0 at *
  refine wpAnyH_take (i := 0) (v := ?_) (by simp only [gA, gB, gC]; rfl) (by kernel_rfl) (by kernel_rfl) (by kernel_rfl) (by exact fun _ _ _ h => h) (Or.inl ⟨by rfl, ?_⟩) (by assumption) ?_; rotate_left; (focus (intro w hSw; (try dsimp only at hSw); go_simp; try with_reducible rfl)); (try simp only [Act.put, sA, sB, sC])
  refine wpAnyH_take (i := 1) (v := ?_) (by simp only [gA, gB, gC]; rfl) (by kernel_rfl) (by kernel_rfl) (by kernel_rfl) (by exact fun _ _ _ h => h) (Or.inl ⟨by rfl, ?_⟩) (by assumption) ?_; rotate_left; (focus (intro w hSw; (try dsimp only at hSw); go_simp; try with_reducible rfl)); (try simp only [Act.put, sA, sB, sC])
  refine wpAnyH_take (i := 2) (v := _) (by simp only [gA, gB, gC]; rfl) (by kernel_rfl) (by kernel_rfl) (by kernel_rfl) (by exact fun _ _ _ h => h) (yields_cellI (by rfl) _ rfl ⟨w.heap.size, 4, none⟩ rfl (.int .i64 x.p.s) (fun _ q => (q.cell (p := ⟨w.heap.size, 4, none⟩) hlt).trans z4) intI_load) (by assumption) ?_; (try simp only [Act.put, sA, sB, sC])
  refine wpAnyH_take (i := 4) (v := ?_) (by simp only [gA, gB, gC]; rfl) (by kernel_rfl) (by kernel_rfl) (by kernel_rfl) (by exact fun _ _ _ h => h) (Or.inl ⟨by rfl, ?_⟩) (by assumption) ?_; rotate_left; (focus (intro w hSw; (try dsimp only at hSw); go_simp; try with_reducible rfl)); (try simp only [Act.put, sA, sB, sC])
  refine wpAnyH_take (i := 5) (v := ?_) (by simp only [gA, gB, gC]; rfl) (by kernel_rfl) (by kernel_rfl) (by kernel_rfl) (by exact fun _ _ _ h => h) (Or.inl ⟨by rfl, ?_⟩) (by assumption) ?_; rotate_left; (focus (intro w hSw; (try dsimp only at hSw); go_simp; try with_reducible rfl)); (try simp only [Act.put, sA, sB, sC])
  refine wpAnyH_take (i := 6) (v := _) (by simp only [gA, gB, gC]; rfl) (by kernel_rfl) (by kernel_rfl) (by kernel_rfl) (by exact fun _ _ _ h => h) (yields_cellI (by rfl) _ rfl ⟨w.heap.size, 5, none⟩ rfl (.int .i64 x.p.f) (fun _ q => (q.cell (p := ⟨w.heap.size, 5, none⟩) hlt).trans z5) intI_load) (by assumption) ?_; (try simp only [Act.put, sA, sB, sC])
  refine wpAnyH_take (i := 8) (v := ?_) (by simp only [gA, gB, gC]; rfl) (by kernel_rfl) (by kernel_rfl) (by kernel_rfl) (by exact fun _ _ _ h => h) (Or.inl ⟨by rfl, ?_⟩) (by assumption) ?_; rotate_left; (focus (intro w hSw; (try dsimp only at hSw); go_simp; try with_reducible rfl)); (try simp only [Act.put, sA, sB, sC])
  refine wpAnyH_take (i := 9) (v := ?_) (by simp only [gA, gB, gC]; rfl) (by kernel_rfl) (by kernel_rfl) (by kernel_rfl) (by exact fun _ _ _ h => h) (Or.inl ⟨by rfl, ?_⟩) (by assumption) ?_; rotate_left; (focus (intro w hSw; (try dsimp only at hSw); go_simp; try with_reducible rfl)); (try simp only [Act.put, sA, sB, sC])
  refine wpAnyH_take (i := 10) (v := _) (by simp only [gA, gB, gC]; rfl) (by kernel_rfl) (by kernel_rfl) (by kernel_rfl) (by exact fun _ _ _ h => h) (yields_cellI (by rfl) _ rfl ⟨w.heap.size, 6, none⟩ rfl (.int .i64 x.p.r) (fun _ q => (q.cell (p := ⟨w.heap.size, 6, none⟩) hlt).trans z6) intI_load) (by assumption) ?_; (try simp only [Act.put, sA, sB, sC])
  refine wpAnyH_ready (rs := [3]) (by kernel_rfl) (by simp) ?_
  refine AllReadyH.cons (by simp only [gA, gB, gC]; rfl) (fun K hK => ?_) AllReadyH.nil
  go_simp
  go_at_call 16
  refine (w16_b x.p.s 5 (by decide) (by decide) w0).mono ?_
  rintro e w1 ⟨rfl, hb⟩
  have hS1 := Below.then hS0 hb
  clear hb
  refine hK.out _ _ (by exact hS1) ?_
  clear hHeld hK
  intro hHeld
  (try simp only [Act.put, sA, sB, sC])
  refine wpAnyH_ready (rs := [7]) (by kernel_rfl) (by simp) ?_
  refine AllReadyH.cons (by simp only [gA, gB, gC]; rfl) (fun K hK => ?_) AllReadyH.nil
  go_simp
  go_at_call 16
  refine (w16_b x.p.f 6 (by decide) (by decide) w1).mono ?_
  rintro e w2 ⟨rfl, hb⟩
  have hS2 := Below.then hS1 hb
  clear hb
  refine hK.out _ _ (by exact hS2) ?_
  clear hHeld hK
  intro hHeld
  (try simp only [Act.put, sA, sB, sC])
  refine wpAnyH_ready (rs := [11]) (by kernel_rfl) (by simp) ?_
  refine AllReadyH.cons (by simp only [gA, gB, gC]; rfl) (fun K hK => ?_) AllReadyH.nil
  go_simp
  go_at_call 16
  refine (w16_b x.p.r 8 (by decide) (by decide) w2).mono ?_
  rintro e w3 ⟨rfl, hb⟩
  have hS3 := Below.then hS2 hb
  clear hb
  refine hK.out _ _ (by exact hS3) ?_
  clear hHeld hK
  intro hHeld
  (try simp only [Act.put, sA, sB, sC])
  refine wpAnyH_take (i := 12) (v := ?_) (by simp only [gA, gB, gC]; rfl) (by kernel_rfl) (by kernel_rfl) (by kernel_rfl) (by exact fun _ _ _ h => h) (Or.inl ⟨by rfl, ?_⟩) (by assumption) ?_; rotate_left; (focus (intro w hSw; (try dsimp only at hSw); go_simp; try with_reducible rfl)); (try simp only [Act.put, sA, sB, sC])
  refine wpAnyH_ready (rs := [13]) (by kernel_rfl) (by simp) ?_
  refine AllReadyH.cons (by simp only [gA, gB, gC]; rfl) (fun K hK => ?_) AllReadyH.nil
  go_simp
  go_at_call 44
  refine (riEncP_any ⟨x.p.s % 5, x.p.f % 6, x.p.r % 8⟩ w3).mono ?_
  rintro e w4 ⟨rfl, hb⟩
  have hS4 := Below.then hS3 hb
  clear hb
  refine hK.out _ _ (by exact hS4) ?_
  clear hHeld hK
  intro hHeld
  (try simp only [Act.put, sA, sB, sC])
  refine wpAnyH_take (i := 14) (v := ?_) (by simp only [gA, gB, gC]; rfl) (by kernel_rfl) (by kernel_rfl) (by kernel_rfl) (by exact fun _ _ _ h => h) (Or.inl ⟨by rfl, ?_⟩) (by assumption) ?_; rotate_left; (focus (intro w hSw; (try dsimp only at hSw); go_simp; try with_reducible rfl)); (try simp only [Act.put, sA, sB, sC])
  refine wpAnyH_done (by kernel_rfl) ?_ _
  have hBn := Below.then hB hS4
  go_wp2_with fail
  go_ret
  exact ⟨rfl, hBn⟩
set_option maxRecDepth 8000 in
set_option maxHeartbeats 4000000 in
theorem word_raw (x : WdX) (hk : x.k % 4 = 3) (w : World) :
    Calls Try.prog 31 #[.agg (wd8 x).toArray] w fun e w' => e = .returned (.int .i64 x.w) ∧ Below w.heap.size w w' := by
  have hb := blkl_alloc w (wd8 x).toArray 83
  have hB := alloc_below w (.cells (wd8 x).toArray 83)
  replace hb : BlkL w.heap.size (wd8 x) (w.alloc (.cells (wd8 x).toArray 83)) := hb
  have k1 := fun W : World => w16_any x.k 4 (by decide) (by decide) W
  simp only [hk] at k1
  obtain ⟨X, hX⟩ : ∃ X, wd8 x = X := ⟨_, rfl⟩
  have y0 : (w.alloc (.cells (wd8 x).toArray 83)).cell? ⟨w.heap.size, 0, none⟩ = some (.int .i64 x.k) := (hb.1 0 _ rfl).1
  have z7 := (hb.1 7 (.int .i64 x.w) rfl).1
  rw [hX] at hb hB y0 z7 ⊢
  clear hb
  go_enter Try.func31, Try.ntmps31
  go_upto_region 1 with fail
  generalize w.alloc (.cells X.toArray 83) = U0 at *
  go_wp2_with fail
  refine (k1 U0).mono ?_
  rintro e W2 ⟨rfl, hw⟩
  rw [hw]
  clear hw W2 y0 k1 hk
  go_wp2_with fail
  go_ret
  exact ⟨rfl, hB⟩
theorem word_any (x : WdX) (w : World) :
    Calls Try.prog 31 #[.agg (wd8 x).toArray] w fun e w' => e = .returned (.int .i64 (wdW x)) ∧ Below w.heap.size w w' := by
  unfold wdW
  have h4 : x.k % 4 = 0 ∨ x.k % 4 = 1 ∨ x.k % 4 = 2 ∨ x.k % 4 = 3 := by omega
  by_cases h : x.k % 4 = 0 ∨ x.k % 4 = 1
  · rw [if_pos h]
    exact word_ins x _ rfl h w
  · rw [if_neg h]
    by_cases h2 : x.k % 4 = 2
    · rw [if_pos h2]
      exact word_ptr x h2 w
    · rw [if_neg h2]
      exact word_raw x (by omega) w
end Go.Proofs.Ytinibccphecdfaa
