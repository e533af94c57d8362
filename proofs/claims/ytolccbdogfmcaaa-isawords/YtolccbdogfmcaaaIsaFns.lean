/-
  PACKAGE isa AS IT LANDED: words' parts (put, get, mask), check, Encode, Decode, pointers.
-/
import Derived.Test.YtolccbdogfmcaaaIsaParts
namespace Go.Proofs.Ytolccbdogfmcaaa
open Go.RowKit
set_option maxRecDepth 8000
set_option linter.unusedSimpArgs false
set_option linter.unusedVariables false

set_option maxRecDepth 8000 in
set_option maxHeartbeats 4000000 in
theorem iencode_any (i : Ins) (w : World) : Calls Try.prog 7 #[i.v] w fun e w' => e = .returned (.tuple #[.int .i64 (insW i), .int .i64 (insE i)]) ∧ Below w.heap.size w w' := by
  have hund := Try.underlying23
  have hsz : (Try.prog.info? 23).map (·.size) = some 3 := by kernel_rfl
  have hb0 := blkl_alloc w (ins3 i).toArray 23
  have hB0 := alloc_below w (.cells (ins3 i).toArray 23)
  replace hb0 : BlkL w.heap.size (ins3 i) (w.alloc (.cells (ins3 i).toArray 23)) := hb0
  obtain ⟨E, hE⟩ : ∃ E, insE i = E := ⟨_, rfl⟩
  have kc := icheck_any i
  rw [hE] at kc
  obtain ⟨V, hV⟩ : ∃ V, insW i = V := ⟨_, rfl⟩
  rw [hV, hE]
  replace hV : Aside (insW i = V) := hV
  replace hE : Aside (insE i = E) := hE
  go_enter Try.func7, Try.ntmps7
  go_upto_region 1 with fail
  generalize w.alloc (.cells #[.int .i64 i.o, .int .i64 i.p, .int .i64 i.n] 23) = W0 at *
  have hr0 := hb0.range
  go_wp2_with (first | (refine wpList_load_row rfl _ rfl w.heap.size rfl (ins3 i) hr0 hund rfl hsz ?_) | fail)
  refine (kc W0).mono ?_
  rintro e Z ⟨rfl, hB1⟩
  have hb1 := stab_blk _ _ _ _ hb0 hB1
  replace hB1 := Below.then hB0 hB1
  clear hr0 hb0 hB0 kc
  by_cases h0 : E = 0
  rotate_left
  · have hV0 : Aside (V = 0) := by show V = 0; rw [← hV.out]; unfold insW; rw [if_neg (by rw [hE.out]; exact h0)]
    have hn : (E != 0) = true := by simpa using h0
    clear h0
    go_wp2_with fail
    refine bodyPost_ret (v := .tuple #[.int .i64 0, .int .i64 E]) (by simp [results, Try.results7, go_sem]) rfl ?_
    exact ⟨by rw [hV0.out], hB1⟩
  subst h0
  obtain ⟨⟨a0, a1⟩, a2, a3, a4, a5⟩ := insE_zero.1 hE.out
  have hW : V = bits .or .i64 (bits .or .i64 (i.o * 72057594037927936) (i.p % 256 * 281474976710656)) (i.n % 4294967296) := by rw [← hV.out, insW_eq hE.out, show i.p % 256 = i.p by omega, or_ins a0 a1 a2 a3]
  replace hW : Aside (V = bits .or .i64 (bits .or .i64 (i.o * 72057594037927936) (i.p % 256 * 281474976710656)) (i.n % 4294967296)) := hW
  clear a2 a3 a4 a5
  go_upto_region 4 with fail
  have hS0 : Below Z.heap.size Z Z.drew := (Below.refl _ _).drew
  refine wp_region_held_drew (S := (fun W => Below Z.heap.size Z W)) (by kernel_rfl) (by exact hS0) ?_
  intro hHeld
  generalize Z.drew = w0 at *
  refine wpAnyH_take (i := 0) (v := ?_) (by simp only [List.getElem?_toArray, List.getElem?_cons_zero, List.getElem?_cons_succ]; rfl) (by kernel_rfl) (by kernel_rfl) (by kernel_rfl) (by exact fun _ _ _ h => h) (Or.inl ⟨by rfl, ?_⟩) (by assumption) ?_; rotate_left; (focus (intro w hSw; (try dsimp only at hSw); go_simp; try with_reducible rfl)); (try simp only [Act.put, List.setIfInBounds_toArray, List.set_cons_zero, List.set_cons_succ])
  refine wpAnyH_take (i := 1) (v := _) (by simp only [List.getElem?_toArray, List.getElem?_cons_zero, List.getElem?_cons_succ]; rfl) (by kernel_rfl) (by kernel_rfl) (by kernel_rfl) (by exact fun _ _ _ h => h) (yields_cellI (by rfl) _ rfl ⟨w.heap.size, 0, none⟩ rfl (.int .i64 i.o) (fun _ q => ((stab_blk _ _ _ _ hb1 q).1 0 _ rfl).1) intI_load) (by assumption) ?_; (try simp only [Act.put, List.setIfInBounds_toArray, List.set_cons_zero, List.set_cons_succ])
  refine wpAnyH_take (i := 3) (v := ?_) (by simp only [List.getElem?_toArray, List.getElem?_cons_zero, List.getElem?_cons_succ]; rfl) (by kernel_rfl) (by kernel_rfl) (by kernel_rfl) (by exact fun _ _ _ h => h) (Or.inl ⟨by rfl, ?_⟩) (by assumption) ?_; rotate_left; (focus (intro w hSw; (try dsimp only at hSw); go_simp; try with_reducible rfl)); (try simp only [Act.put, List.setIfInBounds_toArray, List.set_cons_zero, List.set_cons_succ])
  refine wpAnyH_take (i := 4) (v := _) (by simp only [List.getElem?_toArray, List.getElem?_cons_zero, List.getElem?_cons_succ]; rfl) (by kernel_rfl) (by kernel_rfl) (by kernel_rfl) (by exact fun _ _ _ h => h) (yields_cellI (by rfl) _ rfl ⟨w.heap.size, 1, none⟩ rfl (.int .i64 i.p) (fun _ q => ((stab_blk _ _ _ _ hb1 q).1 1 _ rfl).1) intI_load) (by assumption) ?_; (try simp only [Act.put, List.setIfInBounds_toArray, List.set_cons_zero, List.set_cons_succ])
  refine wpAnyH_take (i := 7) (v := ?_) (by simp only [List.getElem?_toArray, List.getElem?_cons_zero, List.getElem?_cons_succ]; rfl) (by kernel_rfl) (by kernel_rfl) (by kernel_rfl) (by exact fun _ _ _ h => h) (Or.inl ⟨by rfl, ?_⟩) (by assumption) ?_; rotate_left; (focus (intro w hSw; (try dsimp only at hSw); go_simp; try with_reducible rfl)); (try simp only [Act.put, List.setIfInBounds_toArray, List.set_cons_zero, List.set_cons_succ])
  refine wpAnyH_take (i := 8) (v := _) (by simp only [List.getElem?_toArray, List.getElem?_cons_zero, List.getElem?_cons_succ]; rfl) (by kernel_rfl) (by kernel_rfl) (by kernel_rfl) (by exact fun _ _ _ h => h) (yields_cellI (by rfl) _ rfl ⟨w.heap.size, 2, none⟩ rfl (.int .i64 i.n) (fun _ q => ((stab_blk _ _ _ _ hb1 q).1 2 _ rfl).1) intI_load) (by assumption) ?_; (try simp only [Act.put, List.setIfInBounds_toArray, List.set_cons_zero, List.set_cons_succ])
  refine wpAnyH_ready (rs := [2]) (by kernel_rfl) (by simp) ?_
  refine AllReadyH.cons (by simp only [List.getElem?_toArray, List.getElem?_cons_zero, List.getElem?_cons_succ]; rfl) (fun K hK => ?_) AllReadyH.nil
  go_simp
  go_at_call 18
  refine (put56_8 i.o a0 a1 w0).mono ?_
  rintro e w1 ⟨rfl, hb⟩
  have hS1 := Below.then hS0 hb
  clear hb
  refine hK.out _ _ (by exact hS1) ?_
  clear hHeld hK
  intro hHeld
  (try simp only [Act.put, List.setIfInBounds_toArray, List.set_cons_zero, List.set_cons_succ])
  refine wpAnyH_ready (rs := [5]) (by kernel_rfl) (by simp) ?_
  refine AllReadyH.cons (by simp only [List.getElem?_toArray, List.getElem?_cons_zero, List.getElem?_cons_succ]; rfl) (fun K hK => ?_) AllReadyH.nil
  go_simp
  go_at_call 18
  refine (put48_8 i.p w1).mono ?_
  rintro e w2 ⟨rfl, hb⟩
  have hS2 := Below.then hS1 hb
  clear hb
  refine hK.out _ _ (by exact hS2) ?_
  clear hHeld hK
  intro hHeld
  (try simp only [Act.put, List.setIfInBounds_toArray, List.set_cons_zero, List.set_cons_succ])
  refine wpAnyH_take (i := 6) (v := ?_) (by simp only [List.getElem?_toArray, List.getElem?_cons_zero, List.getElem?_cons_succ]; rfl) (by kernel_rfl) (by kernel_rfl) (by kernel_rfl) (by exact fun _ _ _ h => h) (Or.inl ⟨by rfl, ?_⟩) (by assumption) ?_; rotate_left; (focus (intro w hSw; (try dsimp only at hSw); go_simp; try with_reducible rfl)); (try simp only [Act.put, List.setIfInBounds_toArray, List.set_cons_zero, List.set_cons_succ])
  refine wpAnyH_ready (rs := [9]) (by kernel_rfl) (by simp) ?_
  refine AllReadyH.cons (by simp only [List.getElem?_toArray, List.getElem?_cons_zero, List.getElem?_cons_succ]; rfl) (fun K hK => ?_) AllReadyH.nil
  go_simp
  go_at_call 18
  refine (put0_32 i.n w2).mono ?_
  rintro e w3 ⟨rfl, hb⟩
  have hS3 := Below.then hS2 hb
  clear hb
  refine hK.out _ _ (by exact hS3) ?_
  clear hHeld hK
  intro hHeld
  (try simp only [Act.put, List.setIfInBounds_toArray, List.set_cons_zero, List.set_cons_succ])
  refine wpAnyH_take (i := 10) (v := ?_) (by simp only [List.getElem?_toArray, List.getElem?_cons_zero, List.getElem?_cons_succ]; rfl) (by kernel_rfl) (by kernel_rfl) (by kernel_rfl) (by exact fun _ _ _ h => h) (Or.inl ⟨by rfl, ?_⟩) (by assumption) ?_; rotate_left; (focus (intro w hSw; (try dsimp only at hSw); go_simp; try with_reducible rfl)); (try simp only [Act.put, List.setIfInBounds_toArray, List.set_cons_zero, List.set_cons_succ])
  refine wpAnyH_take (i := 11) (v := ?_) (by simp only [List.getElem?_toArray, List.getElem?_cons_zero, List.getElem?_cons_succ]; rfl) (by kernel_rfl) (by kernel_rfl) (by kernel_rfl) (by exact fun _ _ _ h => h) (Or.inl ⟨by rfl, ?_⟩) (by assumption) ?_; rotate_left; (focus (intro w hSw; (try dsimp only at hSw); go_simp; try with_reducible rfl)); (try simp only [Act.put, List.setIfInBounds_toArray, List.set_cons_zero, List.set_cons_succ])
  refine wpAnyH_take (i := 12) (v := ?_) (by simp only [List.getElem?_toArray, List.getElem?_cons_zero, List.getElem?_cons_succ]; rfl) (by kernel_rfl) (by kernel_rfl) (by kernel_rfl) (by exact fun _ _ _ h => h) (Or.inl ⟨by rfl, ?_⟩) (by assumption) ?_; rotate_left; (focus (intro w hSw; (try dsimp only at hSw); go_simp; try with_reducible rfl)); (try simp only [Act.put, List.setIfInBounds_toArray, List.set_cons_zero, List.set_cons_succ])
  refine wpAnyH_done (by kernel_rfl) ?_ _
  have hfin := Below.then hB1 hS3
  go_wp2_with fail
  refine bodyPost_ret (v := .tuple #[.int .i64 (bits .or .i64 (bits .or .i64 (i.o * 72057594037927936) (i.p % 256 * 281474976710656)) (i.n % 4294967296)), .int .i64 0]) (by simp [results, Try.results7, go_sem]) rfl ?_
  exact ⟨by rw [hW.out], hfin⟩
set_option maxRecDepth 8000 in
set_option maxHeartbeats 4000000 in
theorem iencp_any (p : Ptr) (w : World) : Calls Try.prog 12 #[p.v] w fun e w' => e = .returned (.int .i64 (ptrW p)) ∧ Below w.heap.size w w' := by
  have hb1 := blkl_alloc w (ptr3 p).toArray 37
  have hB0 := alloc_below w (.cells (ptr3 p).toArray 37)
  replace hb1 : BlkL w.heap.size (ptr3 p) (w.alloc (.cells (ptr3 p).toArray 37)) := hb1
  have hW : Aside (ptrW p = bits .or .i64 (bits .or .i64 (p.r % 8 * 281474976710656) (p.s % 65536 * 4294967296)) (p.f % 4294967296)) := by
    show ptrW p = _
    rw [or_ptr (by omega) (by omega) (by omega) (by omega)]
    rfl
  go_enter Try.func12, Try.ntmps12
  go_upto_region 1 with fail
  generalize w.alloc (.cells #[.int .i64 p.s, .int .i64 p.f, .int .i64 p.r] 37) = Z at *
  have hS0 : Below Z.heap.size Z Z.drew := (Below.refl _ _).drew
  refine wp_region_held_drew (S := (fun W => Below Z.heap.size Z W)) (by kernel_rfl) (by exact hS0) ?_
  intro hHeld
  generalize Z.drew = w0 at *
  refine wpAnyH_take (i := 0) (v := ?_) (by simp only [List.getElem?_toArray, List.getElem?_cons_zero, List.getElem?_cons_succ]; rfl) (by kernel_rfl) (by kernel_rfl) (by kernel_rfl) (by exact fun _ _ _ h => h) (Or.inl ⟨by rfl, ?_⟩) (by assumption) ?_; rotate_left; (focus (intro w hSw; (try dsimp only at hSw); go_simp; try with_reducible rfl)); (try simp only [Act.put, List.setIfInBounds_toArray, List.set_cons_zero, List.set_cons_succ])
  refine wpAnyH_take (i := 1) (v := _) (by simp only [List.getElem?_toArray, List.getElem?_cons_zero, List.getElem?_cons_succ]; rfl) (by kernel_rfl) (by kernel_rfl) (by kernel_rfl) (by exact fun _ _ _ h => h) (yields_cellI (by rfl) _ rfl ⟨w.heap.size, 2, none⟩ rfl (.int .i64 p.r) (fun _ q => ((stab_blk _ _ _ _ hb1 q).1 2 _ rfl).1) intI_load) (by assumption) ?_; (try simp only [Act.put, List.setIfInBounds_toArray, List.set_cons_zero, List.set_cons_succ])
  refine wpAnyH_take (i := 3) (v := ?_) (by simp only [List.getElem?_toArray, List.getElem?_cons_zero, List.getElem?_cons_succ]; rfl) (by kernel_rfl) (by kernel_rfl) (by kernel_rfl) (by exact fun _ _ _ h => h) (Or.inl ⟨by rfl, ?_⟩) (by assumption) ?_; rotate_left; (focus (intro w hSw; (try dsimp only at hSw); go_simp; try with_reducible rfl)); (try simp only [Act.put, List.setIfInBounds_toArray, List.set_cons_zero, List.set_cons_succ])
  refine wpAnyH_take (i := 4) (v := _) (by simp only [List.getElem?_toArray, List.getElem?_cons_zero, List.getElem?_cons_succ]; rfl) (by kernel_rfl) (by kernel_rfl) (by kernel_rfl) (by exact fun _ _ _ h => h) (yields_cellI (by rfl) _ rfl ⟨w.heap.size, 0, none⟩ rfl (.int .i64 p.s) (fun _ q => ((stab_blk _ _ _ _ hb1 q).1 0 _ rfl).1) intI_load) (by assumption) ?_; (try simp only [Act.put, List.setIfInBounds_toArray, List.set_cons_zero, List.set_cons_succ])
  refine wpAnyH_take (i := 7) (v := ?_) (by simp only [List.getElem?_toArray, List.getElem?_cons_zero, List.getElem?_cons_succ]; rfl) (by kernel_rfl) (by kernel_rfl) (by kernel_rfl) (by exact fun _ _ _ h => h) (Or.inl ⟨by rfl, ?_⟩) (by assumption) ?_; rotate_left; (focus (intro w hSw; (try dsimp only at hSw); go_simp; try with_reducible rfl)); (try simp only [Act.put, List.setIfInBounds_toArray, List.set_cons_zero, List.set_cons_succ])
  refine wpAnyH_take (i := 8) (v := _) (by simp only [List.getElem?_toArray, List.getElem?_cons_zero, List.getElem?_cons_succ]; rfl) (by kernel_rfl) (by kernel_rfl) (by kernel_rfl) (by exact fun _ _ _ h => h) (yields_cellI (by rfl) _ rfl ⟨w.heap.size, 1, none⟩ rfl (.int .i64 p.f) (fun _ q => ((stab_blk _ _ _ _ hb1 q).1 1 _ rfl).1) intI_load) (by assumption) ?_; (try simp only [Act.put, List.setIfInBounds_toArray, List.set_cons_zero, List.set_cons_succ])
  refine wpAnyH_ready (rs := [2]) (by kernel_rfl) (by simp) ?_
  refine AllReadyH.cons (by simp only [List.getElem?_toArray, List.getElem?_cons_zero, List.getElem?_cons_succ]; rfl) (fun K hK => ?_) AllReadyH.nil
  go_simp
  go_at_call 18
  refine (put48_3 p.r w0).mono ?_
  rintro e w1 ⟨rfl, hb⟩
  have hS1 := Below.then hS0 hb
  clear hb
  refine hK.out _ _ (by exact hS1) ?_
  clear hHeld hK
  intro hHeld
  (try simp only [Act.put, List.setIfInBounds_toArray, List.set_cons_zero, List.set_cons_succ])
  refine wpAnyH_ready (rs := [5]) (by kernel_rfl) (by simp) ?_
  refine AllReadyH.cons (by simp only [List.getElem?_toArray, List.getElem?_cons_zero, List.getElem?_cons_succ]; rfl) (fun K hK => ?_) AllReadyH.nil
  go_simp
  go_at_call 18
  refine (put32_16 p.s w1).mono ?_
  rintro e w2 ⟨rfl, hb⟩
  have hS2 := Below.then hS1 hb
  clear hb
  refine hK.out _ _ (by exact hS2) ?_
  clear hHeld hK
  intro hHeld
  (try simp only [Act.put, List.setIfInBounds_toArray, List.set_cons_zero, List.set_cons_succ])
  refine wpAnyH_take (i := 6) (v := ?_) (by simp only [List.getElem?_toArray, List.getElem?_cons_zero, List.getElem?_cons_succ]; rfl) (by kernel_rfl) (by kernel_rfl) (by kernel_rfl) (by exact fun _ _ _ h => h) (Or.inl ⟨by rfl, ?_⟩) (by assumption) ?_; rotate_left; (focus (intro w hSw; (try dsimp only at hSw); go_simp; try with_reducible rfl)); (try simp only [Act.put, List.setIfInBounds_toArray, List.set_cons_zero, List.set_cons_succ])
  refine wpAnyH_ready (rs := [9]) (by kernel_rfl) (by simp) ?_
  refine AllReadyH.cons (by simp only [List.getElem?_toArray, List.getElem?_cons_zero, List.getElem?_cons_succ]; rfl) (fun K hK => ?_) AllReadyH.nil
  go_simp
  go_at_call 18
  refine (put0_32 p.f w2).mono ?_
  rintro e w3 ⟨rfl, hb⟩
  have hS3 := Below.then hS2 hb
  clear hb
  refine hK.out _ _ (by exact hS3) ?_
  clear hHeld hK
  intro hHeld
  (try simp only [Act.put, List.setIfInBounds_toArray, List.set_cons_zero, List.set_cons_succ])
  refine wpAnyH_take (i := 10) (v := ?_) (by simp only [List.getElem?_toArray, List.getElem?_cons_zero, List.getElem?_cons_succ]; rfl) (by kernel_rfl) (by kernel_rfl) (by kernel_rfl) (by exact fun _ _ _ h => h) (Or.inl ⟨by rfl, ?_⟩) (by assumption) ?_; rotate_left; (focus (intro w hSw; (try dsimp only at hSw); go_simp; try with_reducible rfl)); (try simp only [Act.put, List.setIfInBounds_toArray, List.set_cons_zero, List.set_cons_succ])
  refine wpAnyH_take (i := 11) (v := ?_) (by simp only [List.getElem?_toArray, List.getElem?_cons_zero, List.getElem?_cons_succ]; rfl) (by kernel_rfl) (by kernel_rfl) (by kernel_rfl) (by exact fun _ _ _ h => h) (Or.inl ⟨by rfl, ?_⟩) (by assumption) ?_; rotate_left; (focus (intro w hSw; (try dsimp only at hSw); go_simp; try with_reducible rfl)); (try simp only [Act.put, List.setIfInBounds_toArray, List.set_cons_zero, List.set_cons_succ])
  refine wpAnyH_done (by kernel_rfl) ?_ _
  have hfin := Below.then hB0 hS3
  go_wp2_with fail
  go_ret
  exact ⟨by rw [hW.out]; rfl, hfin⟩
set_option maxRecDepth 8000 in
set_option maxHeartbeats 4000000 in
theorem idecode_any (x : Int) (hx : fit64 x) (w : World) : Calls Try.prog 9 #[.int .i64 x] w fun e w' => e = .returned (.tuple #[(decI x).v, .int .i64 (decE x)]) ∧ Below w.heap.size w w' := by
  have hund := Try.underlying23
  have hsz : (Try.prog.info? 23).map (·.size) = some 3 := by kernel_rfl
  have g1 := get56_8 x
  have g2 := get48_8 x
  have g3 := get0_32 x
  have g4 := get32_16 x
  have hA5 : IntKind.i32.wrap (wLow x) = wN x := by
    rw [IntKind.wrap_i32]
    have : 0 ≤ wLow x ∧ wLow x < 4294967296 := by unfold wLow; omega
    unfold wN
    split <;> omega
  have hN : -2147483648 ≤ wN x ∧ wN x ≤ 2147483647 := by
    have : 0 ≤ wLow x ∧ wLow x < 4294967296 := by unfold wLow; omega
    unfold wN
    split <;> omega
  have hP0 : 0 ≤ wP x := by unfold wP; omega
  have hO0 : 0 ≤ wOp x := by unfold wOp u64; omega
  have hA6 : IntKind.i64.wrap (wN x) = wN x := by rw [IntKind.wrap_i64]; omega
  have hDE : decE x = if 22 < wOp x then 3 else if 3 < wP x then 1 else if wMid x ≠ 0 then 11 else 0 := rfl
  have hDI : decI x = if decE x = 0 then ⟨wOp x, wP x, wN x⟩ else ⟨0, 0, 0⟩ := rfl
  obtain ⟨J, hJ⟩ : ∃ J, decI x = J := ⟨_, rfl⟩
  obtain ⟨G, hG⟩ : ∃ G, decE x = G := ⟨_, rfl⟩
  rw [hJ, hG]
  rw [hG] at hDE
  rw [hJ, hG] at hDI
  generalize wOp x = op at *
  generalize wP x = pp at *
  generalize wN x = nn at *
  generalize wLow x = low at *
  generalize wMid x = mid at *
  have hE : insE ⟨op, pp, nn⟩ = if 22 < op then 3 else if 3 < pp then 1 else 0 := by
    unfold insE
    simp only
    repeat' split
    all_goals omega
  have kc := icheck_any ⟨op, pp, nn⟩
  obtain ⟨E, hEE⟩ : ∃ E, insE ⟨op, pp, nn⟩ = E := ⟨_, rfl⟩
  rw [hEE] at kc hE
  replace hE : Aside (E = if 22 < op then 3 else if 3 < pp then 1 else 0) := hE
  replace hDE : Aside (G = if 22 < op then 3 else if 3 < pp then 1 else if mid ≠ 0 then 11 else 0) := hDE
  replace hDI : Aside (J = if G = 0 then ⟨op, pp, nn⟩ else ⟨0, 0, 0⟩) := hDI
  clear hJ hG hEE hN hP0 hO0
  have hb0 := blkl_alloc w (ins3 ⟨0, 0, 0⟩).toArray 23
  have hB0 := alloc_below w (.cells (ins3 ⟨0, 0, 0⟩).toArray 23)
  replace hb0 : BlkL w.heap.size (ins3 ⟨0, 0, 0⟩) (w.alloc (.cells (ins3 ⟨0, 0, 0⟩).toArray 23)) := hb0
  go_enter Try.func9, Try.ntmps9
  go_upto_region 1 with fail
  generalize w.alloc (.cells #[.int .i64 0, .int .i64 0, .int .i64 0] 23) = W0 at *
  go_wp2_with fail
  refine (g1 _).mono ?_
  rintro e W' ⟨rfl, hq⟩
  replace hq := hq.symm
  subst hq
  go_wp2_with fail
  refine (g2 _).mono ?_
  rintro e W' ⟨rfl, hq⟩
  replace hq := hq.symm
  subst hq
  go_wp2_with fail
  refine (g3 _).mono ?_
  rintro e W' ⟨rfl, hq⟩
  replace hq := hq.symm
  subst hq
  have hb1 := blkl_alloc W0 (ins3 ⟨op, pp, nn⟩).toArray 23
  have hB1 := alloc_below W0 (.cells (ins3 ⟨op, pp, nn⟩).toArray 23)
  replace hb1 : BlkL W0.heap.size (ins3 ⟨op, pp, nn⟩) (W0.alloc (.cells (ins3 ⟨op, pp, nn⟩).toArray 23)) := hb1
  have hb01 := stab_blk _ _ _ _ hb0 hB1
  replace hB1 := Below.then hB0 hB1
  go_upto_region 2 with fail
  generalize W0.alloc (.cells #[.int .i64 op, .int .i64 pp, .int .i64 nn] 23) = W1 at *
  generalize W0.heap.size = g at *
  have hr1 := hb1.range
  go_wp2_with (first | (refine wpList_load_row rfl _ rfl g rfl (ins3 ⟨op, pp, nn⟩) hr1 hund rfl hsz ?_) | fail)
  refine (kc W1).mono ?_
  rintro e W2 ⟨rfl, hB2⟩
  have hb2 := stab_blk _ _ _ _ hb1 hB2
  have hb02 := stab_blk _ _ _ _ hb01 hB2
  replace hB2 := Below.then hB1 hB2
  clear hr1 hb0 hb1 hb01 hB1 hB0 kc g1 g2 g3
  by_cases hE0 : E = 0
  rotate_left
  · have hn : (E != 0) = true := by simpa using hE0
    have hGE : Aside (G = E ∧ J = ⟨0, 0, 0⟩) := by
      have e1 := hE.out
      have e2 := hDE.out
      have e3 := hDI.out
      have : G = E := by
        rw [e1] at hE0 ⊢
        rw [e2]
        split
        · rfl
        · split
          · rfl
          · rename_i c1 c2
            rw [if_neg c1, if_neg c2] at hE0
            exact absurd rfl hE0
      refine ⟨this, ?_⟩
      rw [e3, if_neg (by rw [this]; exact hE0)]
    obtain ⟨W3, hW3, hth3, hb3, hk3⟩ := put_box hb02 ⟨0, 0, 0⟩
    have hB3 := hk3 _ _ (Nat.le_refl _) hB2
    have hr3 := hb3.range
    clear hE0 hk3
    go_wp2_with (first | (refine wpList_store_row rfl _ _ rfl w.heap.size rfl (ins3 ⟨0, 0, 0⟩) rfl hth3 hsz (ins3_one _) hW3 ?_) | fail)
    refine bodyPost_ret (v := .tuple #[.agg (ins3 ⟨0, 0, 0⟩).toArray, .int .i64 E]) (results_row2 rfl _ _ w.heap.size rfl (.int .i64 E) rfl (ins3 ⟨0, 0, 0⟩) hr3 hund rfl hsz) rfl ?_
    exact ⟨by rw [hGE.out.1, hGE.out.2], hB3⟩
  subst hE0
  have hcc : ¬ 22 < op ∧ ¬ 3 < pp := by
    have e1 := hE.out
    constructor
    · intro c
      rw [if_pos c] at e1
      exact absurd e1 (by decide)
    · intro c
      by_cases c1 : 22 < op
      · rw [if_pos c1] at e1
        exact absurd e1 (by decide)
      · rw [if_neg c1, if_pos c] at e1
        exact absurd e1 (by decide)
  have hG : Aside (G = if mid ≠ 0 then 11 else 0) := by
    show _ = _
    rw [hDE.out, if_neg hcc.1, if_neg hcc.2]
  clear hcc hDE hE
  go_wp2_with fail
  refine (g4 W2).mono ?_
  rintro e W' ⟨rfl, hq⟩
  replace hq := hq.symm
  subst hq
  clear g4
  by_cases hm : mid = 0
  rotate_left
  · have hGE : Aside (G = 11 ∧ J = ⟨0, 0, 0⟩) := by
      have e1 := hG.out
      rw [if_pos hm] at e1
      refine ⟨e1, ?_⟩
      rw [hDI.out, if_neg (by rw [e1]; decide)]
    have hn : (mid != 0) = true := by simpa using hm
    clear hm
    obtain ⟨W3, hW3, hth3, hb3, hk3⟩ := put_box hb02 ⟨0, 0, 0⟩
    have hB3 := hk3 _ _ (Nat.le_refl _) hB2
    have hr3 := hb3.range
    clear hk3
    go_wp2_with (first | (refine wpList_store_row rfl _ _ rfl w.heap.size rfl (ins3 ⟨0, 0, 0⟩) rfl hth3 hsz (ins3_one _) hW3 ?_) | fail)
    refine bodyPost_ret (v := .tuple #[.agg (ins3 ⟨0, 0, 0⟩).toArray, .int .i64 11]) (results_row2 rfl _ _ w.heap.size rfl (.int .i64 11) rfl (ins3 ⟨0, 0, 0⟩) hr3 hund rfl hsz) rfl ?_
    exact ⟨by rw [hGE.out.1, hGE.out.2], hB3⟩
  subst hm
  have hGE : Aside (G = 0 ∧ J = ⟨op, pp, nn⟩) := by
    have e1 : G = 0 := by rw [hG.out, if_neg (by simp)]
    exact ⟨e1, by rw [hDI.out, if_pos e1]⟩
  have hr2 := hb2.range
  obtain ⟨W3, hW3, hth3, hb3, hk3⟩ := put_box hb02 ⟨op, pp, nn⟩
  have hB3 := hk3 _ _ (Nat.le_refl _) hB2
  have hr3 := hb3.range
  clear hk3
  go_wp2_with (first | (refine wpList_load_row rfl _ rfl g rfl (ins3 ⟨op, pp, nn⟩) hr2 hund rfl hsz ?_) | (refine wpList_store_row rfl _ _ rfl w.heap.size rfl (ins3 ⟨op, pp, nn⟩) rfl hth3 hsz (ins3_one _) hW3 ?_) | fail)
  refine bodyPost_ret (v := .tuple #[.agg (ins3 ⟨op, pp, nn⟩).toArray, .int .i64 0]) (results_row2 rfl _ _ w.heap.size rfl (.int .i64 0) rfl (ins3 ⟨op, pp, nn⟩) hr3 hund rfl hsz) rfl ?_
  exact ⟨by rw [hGE.out.1, hGE.out.2], hB3⟩
set_option maxRecDepth 8000 in
set_option maxHeartbeats 4000000 in
theorem idecp_any (x : Int) (hx : fit64 x) (w : World) : Calls Try.prog 14 #[.int .i64 x] w fun e w' => e = .returned (wPtr x).v ∧ Below w.heap.size w w' := by
  have hund := Try.underlying37
  have hsz : (Try.prog.info? 37).map (·.size) = some 3 := by kernel_rfl
  have g1 := get32_16 x
  have g2 := get0_32 x
  have g3 := get48_3 x
  have hP : wPtr x = ⟨wMid x, wLow x, u64 x / 281474976710656 % 8⟩ := rfl
  generalize wMid x = mid at *
  generalize wLow x = low at *
  generalize u64 x / 281474976710656 % 8 = rr at *
  rw [hP]
  clear hP
  go_enter Try.func14, Try.ntmps14
  go_wp2_with fail
  refine (g1 _).mono ?_
  rintro e W' ⟨rfl, hq⟩
  replace hq := hq.symm
  subst hq
  go_wp2_with fail
  refine (g2 _).mono ?_
  rintro e W' ⟨rfl, hq⟩
  replace hq := hq.symm
  subst hq
  go_wp2_with fail
  refine (g3 _).mono ?_
  rintro e W' ⟨rfl, hq⟩
  replace hq := hq.symm
  subst hq
  go_wp2_with fail
  refine bodyPost_ret (v := .agg #[.int .i64 mid, .int .i64 low, .int .i64 rr]) (by simp [results, Try.results14, go_sem]) rfl ?_
  exact ⟨rfl, alloc_below _ _⟩
end Go.Proofs.Ytolccbdogfmcaaa
