/-
  CpuStack, walked.
-/
import Derived.Deep.CutBlock
import Derived.Test.YtinibccphecdfabPt3
namespace Go.Proofs.Ytinibccphecdfab
open Go.RowKit
set_option maxRecDepth 8000
set_option linter.unusedSimpArgs false
set_option linter.unusedVariables false

def stG : Sg := oneG [⟨20, 0, 0⟩, ⟨21, 0, 0⟩] []
def stk (k : Nat) (off : Int) : Cp := ⟨0, off, 4, 0, [⟨0, 0, 4⟩, ⟨1, 0, 4⟩, ⟨2, 0, 4⟩, ⟨3, 0, 4⟩], List.replicate k ⟨0, 1, 4⟩, false⟩
theorem stk_ok {k : Nat} (h : k ≤ 8) (off : Int) : (stk k off).Ok := ⟨rfl, newC_ok.pp, ⟨by show (0 : Int) ≤ 4; decide, by show (4 : Int) ≤ 7; decide⟩, ⟨by show (-9223372036854775808 : Int) ≤ 0; decide, by show (0 : Int) ≤ 9223372036854775807; decide⟩, by simpa [stk] using h, fun f hf => by
  have := List.eq_of_mem_replicate hf
  rw [this]
  exact ⟨by decide, by decide⟩⟩
theorem stG_ok : stG.Ok := one_ok (fun z hz => by simp at hz) (by show 2 + 0 ≤ 1000; decide)
theorem stG_cl (k : Nat) : clG stG ⟨0, 0, 4⟩ k = if 8 ≤ k then 37 else 0 := by
  unfold clG
  rw [if_neg (by show ¬ true = false; decide), if_neg (by rw [show hasM stG.md 4 = true by decide +kernel]; simp), if_neg (by rw [show callE stG.rg 0 4 = 0 by decide +kernel]; simp), if_neg (fun q => q ⟨by decide, by show (0 : Int) < ((2 : Nat) : Int); decide⟩)]
theorem call_step (k : Nat) : stepC (stk k 0) [stG] = if 8 ≤ k then flt 37 else okC (stk (k + 1) 0) := by
  have hi : insE ⟨20, 0, 0⟩ = 0 := by decide +kernel
  have hg : (mSeg (stk k 0) [stG] ⟨20, 0, 0⟩).Ok := stG_ok
  rw [step_of (c := stk k 0) (m := [stG]) (g := stG) (i := ⟨20, 0, 0⟩) rfl rfl rfl (show hasM 7 4 = true by decide +kernel) (show mayX ⟨4, 4, 4, 0⟩ 4 = true by decide +kernel) ⟨by show (0 : Int) ≤ 0; decide, by show (0 : Int) < ((2 : Nat) : Int); decide⟩ rfl hi, op_eq hg hi]
  have hl : ({ stk k 0 with off := (stk k 0).off + 1 } : Cp).st.length = k := by simp [stk]
  show (if clG stG ⟨0, 0, 4⟩ ({ stk k 0 with off := (stk k 0).off + 1 } : Cp).st.length ≠ 0 then flt (clG stG ⟨0, 0, 4⟩ ({ stk k 0 with off := (stk k 0).off + 1 } : Cp).st.length) else okC (clD { stk k 0 with off := (stk k 0).off + 1 } stG ⟨0, 0, 4⟩)) = _
  rw [hl, stG_cl]
  by_cases h : 8 ≤ k
  · rw [if_pos h, if_pos (by decide), if_pos h]
  · rw [if_neg h, if_neg (by decide), if_neg h]
    have hn : callN stG.rg 0 4 = 4 := by decide +kernel
    unfold clD
    rw [show callN stG.rg (Ptr.mk 0 0 4).f (Ptr.mk 0 0 4).r = 4 from hn]
    simp only [raiseC, stk, okC, List.map, Ot.mk.injEq, Cp.mk.injEq, true_and, and_true]
    refine ⟨rfl, ?_⟩
    show List.replicate k (Fr.mk 0 1 4) ++ [Fr.mk 0 1 4] = List.replicate (k + 1) (Fr.mk 0 1 4)
    rw [← List.replicate_succ']
theorem ret_step (k : Nat) : stepC (stk k 1) [stG] = if k = 0 then flt 37 else okC (stk (k - 1) 1) := by
  have hi : insE ⟨21, 0, 0⟩ = 0 := by decide +kernel
  have hg : (mSeg (stk k 1) [stG] ⟨21, 0, 0⟩).Ok := stG_ok
  rw [step_of (c := stk k 1) (m := [stG]) (g := stG) (i := ⟨21, 0, 0⟩) rfl rfl rfl (show hasM 7 4 = true by decide +kernel) (show mayX ⟨4, 4, 4, 0⟩ 4 = true by decide +kernel) ⟨by show (0 : Int) ≤ 1; decide, by show (1 : Int) < ((2 : Nat) : Int); decide⟩ rfl hi, op_eq hg hi]
  show (if rtE { stk k 1 with off := (stk k 1).off + 1 } ≠ 0 then flt (rtE { stk k 1 with off := (stk k 1).off + 1 }) else okC (rtD { stk k 1 with off := (stk k 1).off + 1 })) = _
  cases k with
  | zero => rfl
  | succ j =>
    have hlf : lastF { stk (j + 1) 1 with off := (stk (j + 1) 1).off + 1 } = ⟨0, 1, 4⟩ := by
      unfold lastF
      simp [stk, List.getElem?_replicate]
    have hr : rtE { stk (j + 1) 1 with off := (stk (j + 1) 1).off + 1 } = 0 := by
      unfold rtE
      rw [hlf, if_neg (by simp [stk]), if_neg (by simp [stk])]
    rw [hr, if_neg (by decide), if_neg (by omega)]
    unfold rtD
    rw [hlf]
    simp only [raiseC, stk, okC, List.map, Ot.mk.injEq, Cp.mk.injEq, true_and, and_true]
    refine ⟨rfl, ?_⟩
    simp
/-- The processor of the law, in the block behind Z. -/
structure KS (Z : World) (k : Nat) (off : Int) (W : World) : Prop where
  s : ∃ v, StAt Z.heap.size (stk k off) v W ∧ OwnR 52 3 frc W (Z.heap.size + 1) v (stk k off).st
  b : Below Z.heap.size Z W
set_option maxRecDepth 8000 in
set_option maxHeartbeats 8000000 in
theorem cpuStack_walk (n : Int) (w : World) :
    Calls Try.prog 5 #[.int .i64 n] w fun e w' => e = .returned (.bool true) ∧ Below w.heap.size w w' := by
  have hundS := Try.underlying29
  have hszS : (Try.prog.info? 29).map (·.size) = some 18 := by kernel_rfl
  have hmi : ∀ (v : Value) (w : World), (Instr.makeInterface 34 v).run Try.prog w = .ok (.iface 34 v) w := fun _ _ => rfl
  have kw := fun W : World => w16_any n 12 (by decide) (by decide) W
  obtain ⟨N, hN, hN12⟩ : ∃ N : Nat, n % 12 = (N : Int) ∧ N < 12 := ⟨(n % 12).toNat, by omega, by omega⟩
  simp only [hN] at kw
  clear hN
  go_enter Try.func5, Try.ntmps5
  go_wp2_with fail
  refine (ck_any w).mono ?_
  rintro e W1 ⟨rfl, hB1⟩
  go_wp2_with fail
  refine (kw W1).mono ?_
  rintro e W2 ⟨rfl, hw2⟩
  rw [hw2]
  clear kw hw2 W2
  have hbi := alloc_below W1 (.cells #[.int .i64 20, .int .i64 0, .int .i64 0, .int .i64 21, .int .i64 0, .int .i64 0] 42)
  have hri := row_list (f := ins3) (sz := 3) (fun _ => rfl) W1 [⟨20, 0, 0⟩, ⟨21, 0, 0⟩] #[.int .i64 20, .int .i64 0, .int .i64 0, .int .i64 21, .int .i64 0, .int .i64 0] rfl 42
  have ko := cone_any [⟨20, 0, 0⟩, ⟨21, 0, 0⟩] [] (some ⟨W1.heap.size, 0, none⟩) none 2 0 (by show 2 ≤ 100; decide) (by show 0 ≤ 100; decide) (fun _ => rfl) _ hri (fun j y h => by simp at h)
  have hB3 := Below.then hB1 hbi
  clear hri hbi
  go_wp2_with fail
  refine ko.mono ?_
  rintro e W4 ⟨x, hxg, rfl, hxo, hb4⟩
  have hB4 := Below.then hB3 hb4
  clear ko hB3 hb4
  have hrx := row_list pg_len W4 [x] x.cs.toArray (by simp) 39
  have hbx := alloc_below W4 (.cells x.cs.toArray 39)
  have hb5 := alloc_below (W4.alloc (.cells x.cs.toArray 39)) (.cells (memCs (.slice (some ⟨W4.heap.size, 0, none⟩) 1 1) false 0 0 0 0).toArray 48)
  have hm5 := blkl_alloc (W4.alloc (.cells x.cs.toArray 39)) (memCs (.slice (some ⟨W4.heap.size, 0, none⟩) 1 1) false 0 0 0 0).toArray 48
  have hxo5 := (hxo.below hbx).below hb5
  have hM5 := MemO.of (by rw [hxg]; exact stG_ok) hxo5 hm5 ⟨hrx.below pg_len hb5, fun z hz => by rw [List.mem_singleton.1 hz]; exact own_at hxo5⟩
  have hB5 := Below.then (Below.then hB4 hbx) hb5
  have hmg : [x].map (·.g) = [stG] := by simp [hxg]; rfl
  rw [show (W4.alloc (.cells x.cs.toArray 39)).heap.size = W4.heap.size + 1 by simp] at hM5
  replace hM5 : MemO (W4.heap.size + 1) (some ⟨W4.heap.size, 0, none⟩) 1 [x] false 0 0 0 0 ((W4.alloc (.cells x.cs.toArray 39)).alloc (.cells #[.slice (some ⟨W4.heap.size, 0, none⟩) 1 1, .bool false, .int .i64 0, .int .i64 0, .int .i64 0, .int .i64 0] 48)) := hM5
  replace hB5 : Below w.heap.size w ((W4.alloc (.cells x.cs.toArray 39)).alloc (.cells #[.slice (some ⟨W4.heap.size, 0, none⟩) 1 1, .bool false, .int .i64 0, .int .i64 0, .int .i64 0, .int .i64 0] 48)) := hB5
  clear hrx hbx hb5 hm5 hxo5 hxo hB4 hB1 hxg
  go_upto_region 5 with (first | (refine wpList_build1 pg_okC (by decide) rfl _ rfl x.cs rfl rfl ?_) | fail)
  generalize (W4.alloc (.cells x.cs.toArray 39)).alloc (.cells #[.slice (some ⟨W4.heap.size, 0, none⟩) 1 1, .bool false, .int .i64 0, .int .i64 0, .int .i64 0, .int .i64 0] 48) = W5 at *
  generalize W4.heap.size + 1 = bm at *
  generalize W4.heap.size = gs at *
  go_wp2_with fail
  refine (cnew_any W5).mono ?_
  rintro e Z ⟨rfl, hb6⟩
  have hMZ := hM5.below hb6
  have hBZ := Below.then hB5 hb6
  clear hM5 hB5 hb6
  obtain ⟨W7, hW7, hth7, hs7, hb7⟩ := new_stC Z newC rfl nilS
  have hK7 : KS Z 0 0 W7 := ⟨⟨nilS, hs7, OwnR.nil _ _ _ _ _⟩, hb7⟩
  have hone7 : ∀ u ∈ stCs newC nilS, u.oneCell' = true := st_one _ _ rfl
  have hsz7 : (Try.prog.info? 29).map (·.size) = some (stCs newC nilS).length := by kernel_rfl
  obtain ⟨Y, hY⟩ : ∃ Y, stCs newC nilS = Y := ⟨_, rfl⟩
  rw [hY] at hW7 hth7 hone7 hsz7
  have hYv : Aside (.agg (stCs newC nilS).toArray = Value.agg Y.toArray) := by rw [hY]; exact rfl
  clear hY hb7 hs7
  go_upto_region 6 with (first | (refine wpList_store_row rfl _ _ rfl Z.heap.size rfl Y hYv.out hth7 hsz7 hone7 hW7 ?_) | fail)
  clear hW7 hth7 hone7 hsz7 hYv
  go_upto_block 0 with fail
  go_cut [] from 5 (fun wc => KS Z (min N 8) 0 wc)
  case first =>
    go_wp2_with fail
    go_loopw [5] (fun t5 wr => ∃ k : Nat, k ≤ N ∧ k ≤ 8 ∧ t5 = .int .i64 ((k + 1 : Nat) : Int) ∧ KS Z k 0 wr) (fun t5 _ => N + 1 - (Go.RowKit.intOf t5).toNat)
    case atStart => exact ⟨0, by omega, by omega, rfl, hK7⟩
    case round =>
    clear hK7
    obtain ⟨k, hkN, hk8, rfl, hK⟩ := hrel
    by_cases hlt : k + 1 ≤ N
    · have i1 : ((k + 1 : Nat) : Int) ≤ (N : Int) := by omega
      obtain ⟨⟨v, hs, ho⟩, hbZ⟩ := hK
      have hM := hMZ.below hbZ
      have hrs := hs.blk.range
      have hlS : (stCs (stk k 0) v).length = 18 := st_len rfl
      have hstp := call_step k
      by_cases h8 : 8 ≤ k
      · obtain rfl : k = 8 := by omega
        rw [if_pos (by omega)] at hstp
        have ks := cstepV (stk 8 0) (stk_ok (by omega) 0) v hM (SV.own ho) (flt 37) (by rw [hmg]; exact hstp)
        obtain ⟨Y, hY⟩ : ∃ Y, stCs (stk 8 0) v = Y := ⟨_, rfl⟩
        rw [hY] at hrs hlS ks
        have hszY : (Try.prog.info? 29).map (·.size) = some Y.length := by rw [hlS]; exact hszS
        go_wp2_with (first | (refine wpList_load_row rfl _ rfl Z.heap.size rfl Y hrs hundS rfl hszY ?_) | fail)
        refine ks.mono ?_
        rintro e W8 hP
        obtain ⟨vA, rfl, hoA, hb8⟩ := hP.fltE
        obtain ⟨W9, hW9, hth9, hs9, hb9⟩ := new_stC W8 zeroC rfl vA
        have hone9 := st_one zeroC vA (SV.own hoA).one
        have hl9 : (stCs zeroC vA).length = 18 := st_len rfl
        have hK9 : KS Z 8 0 W9 := ⟨⟨v, (hs.keep hb8).keep hb9, (ho.below hb8).below hb9⟩, (hbZ.trans (hb8.mono hbZ.size)).trans (hb9.mono (Nat.le_trans hbZ.size hb8.size))⟩
        obtain ⟨X, hX⟩ : ∃ X, stCs zeroC vA = X := ⟨_, rfl⟩
        have hXv : Aside (.agg (stCs zeroC vA).toArray = Value.agg X.toArray) := by rw [hX]; exact rfl
        rw [hX] at hW9 hth9 hone9 hl9
        have hszX : (Try.prog.info? 29).map (·.size) = some X.length := by rw [hl9]; exact hszS
        clear ks hrs hs ho hP hoA hb8 hb9 hs9 hX hY
        go_wp2_with (first | (refine wpList_store_row rfl _ _ rfl W8.heap.size rfl X hXv.out hth9 hszX hone9 hW9 ?_) | fail)
        go_meet
        rw [show min N 8 = 8 by omega]
        exact hK9
      · rw [if_neg h8] at hstp
        have ks := cstepV (stk k 0) (stk_ok (by omega) 0) v hM (SV.own ho) (okC (stk (k + 1) 0)) (by rw [hmg]; exact hstp)
        obtain ⟨Y, hY⟩ : ∃ Y, stCs (stk k 0) v = Y := ⟨_, rfl⟩
        rw [hY] at hrs hlS ks
        have hszY : (Try.prog.info? 29).map (·.size) = some Y.length := by rw [hlS]; exact hszS
        go_wp2_with (first | (refine wpList_load_row rfl _ rfl Z.heap.size rfl Y hrs hundS rfl hszY ?_) | fail)
        refine ks.mono ?_
        rintro e W8 hP
        obtain ⟨vA, rfl, hoA, hb8⟩ := hP.okE
        obtain ⟨W9, hW9, hth9, hs9, hb9⟩ := new_stC W8 (stk (k + 1) 0) rfl vA
        have hlA : (stk (k + 1) 0).st.length = k + 1 := by simp [stk]
        obtain ⟨ya, yc, hyv, -, -, hrow⟩ := hoA.slice frc_len
        rw [hlA] at hyv
        subst hyv
        have hrow9 := hrow.below frc_len hb9
        have hfk : (stk (k + 1) 0).st[k]? = some ⟨0, 1, 4⟩ := by simp [stk, List.getElem?_replicate]
        obtain ⟨y, rfl, -⟩ := hrow9 k _ hfk
        have hcl := hrow9.at frc_len hfk
        have hc1 : W9.cell? ⟨(y.add (k * 3)).block, (y.add (k * 3)).off + 1, none⟩ = some (.int .i64 1) := hcl 1 _ rfl
        have hone9 := st_one (stk (k + 1) 0) (.slice (some y) (k + 1) yc) rfl
        have hl9 : (stCs (stk (k + 1) 0) (.slice (some y) (k + 1) yc)).length = 18 := st_len rfl
        have z0 : W9.cell? ⟨W8.heap.size, 0, none⟩ = some (.int .i64 0) := hs9.seg
        have z1 : W9.cell? ⟨W8.heap.size, 1, none⟩ = some (.int .i64 0) := hs9.off
        have z16 := hs9.stk
        have hrX := hs9.blk.range
        have hsB := (hs.keep hb8).keep hb9
        obtain ⟨WB, hWB, hthB, hsC, hkC⟩ := put_st hsB (d := stk (k + 1) 0) rfl (.slice (some y) (k + 1) yc)
        have hlt8 : Z.heap.size < W8.heap.size := Nat.lt_of_lt_of_le hs.blk.2 hb8.size
        have hKC : KS Z (k + 1) 0 WB := ⟨⟨_, hsC, by
          have h1 := hoA.below hb9
          rw [← hWB]
          exact (h1.setAll (g := Z.heap.size) (fun q => by have := (h1.lt q).1; have := hs.blk.2; omega) _).lower (by have := hs.blk.2; omega)⟩, hkC _ _ (Nat.le_refl _) ((hbZ.trans (hb8.mono hbZ.size)).trans (hb9.mono (Nat.le_trans hbZ.size hb8.size)))⟩
        obtain ⟨X, hX⟩ : ∃ X, stCs (stk (k + 1) 0) (.slice (some y) (k + 1) yc) = X := ⟨_, rfl⟩
        have hXv : Aside (.agg (stCs (stk (k + 1) 0) (.slice (some y) (k + 1) yc)).toArray = Value.agg X.toArray) := by rw [hX]; exact rfl
        rw [hX] at hW9 hth9 hone9 hl9 hrX hWB hthB
        have hszX : (Try.prog.info? 29).map (·.size) = some X.length := by rw [hl9]; exact hszS
        have i2 : ((k + 1 : Nat) : Int) ≤ 8 := by omega
        have i3 : IntKind.i64.wrap (((k + 1 : Nat) : Int) - 1) = (k : Int) := by rw [IntKind.wrap_i64]; omega
        have i4 : IntKind.i64.wrap (((k + 1 : Nat) : Int) + 1) = ((k + 1 + 1 : Nat) : Int) := by rw [IntKind.wrap_i64]; omega
        have i5 : (k : Int) < ((k + 1 : Nat) : Int) := by omega
        have i6 : ¬ (k : Int) < 0 := by omega
        clear ks hrs hs ho hP hoA hb8 hb9 hs9 hX hY hrow hrow9 hcl hsB hsC hkC hstp hbZ hM hfk hlA
        go_wp2_with (first | (refine wpList_store_row rfl _ _ rfl W8.heap.size rfl X hXv.out hth9 hszX hone9 hW9 ?_) | (refine wpList_load_row rfl _ rfl W8.heap.size rfl X hrX hundS rfl hszX ?_) | (refine wpList_store_row rfl _ _ rfl Z.heap.size rfl X rfl hthB hszX hone9 hWB ?_) | fail)
        exact ⟨⟨k + 1, by omega, by omega, by simp, hKC⟩, by simp [Go.RowKit.intOf]; omega⟩
    · have i1 : ¬ ((k + 1 : Nat) : Int) ≤ (N : Int) := by omega
      go_wp2_with fail
      go_meet
      rw [show min N 8 = k by omega]
      exact hK
  case rest =>
  clear hK7
  obtain ⟨⟨v, hs, ho⟩, hbZ⟩ := hcut
  obtain ⟨M, hMM, hM8⟩ : ∃ M : Nat, min N 8 = M ∧ M ≤ 8 := ⟨_, rfl, by omega⟩
  rw [hMM] at hs ho
  have y1 := hs.off
  have yf := (hs.blk.1 1 _ rfl).2
  have hs1 : StAt Z.heap.size (stk M 1) v (wc.setCell ⟨Z.heap.size, 1, none⟩ (.int .i64 1)) := by
    have h1 := hs.blk.1.set 1 (.int .i64 1) (by rw [st_len hs.ps]; decide)
    exact ⟨rfl, h1, h1.lt rfl⟩
  have hK1 : KS Z M 1 (wc.setCell ⟨Z.heap.size, 1, none⟩ (.int .i64 1)) := ⟨⟨v, hs1, ho.keep fun q hq => heap_setCell_other _ ⟨Z.heap.size, 1, none⟩ q _ (by have := (ho.lt hq).1; show q ≠ Z.heap.size; omega)⟩, hbZ.setCell (p := ⟨Z.heap.size, 1, none⟩) (Nat.le_refl _) (.int .i64 1)⟩
  have hmin : (if (8 : Int) < (N : Int) then 8 else (N : Int)) = (M : Int) := by split <;> omega
  clear hs ho hbZ hs1
  go_upto_region 17 with fail
  generalize wc.setCell ⟨Z.heap.size, 1, none⟩ (.int .i64 1) = W0 at *
  clear y1 yf
  go_wp2_with fail
  go_loopw [10] (fun t10 wr => ∃ k : Nat, k ≤ 8 ∧ t10 = .int .i64 (k : Int) ∧ KS Z k 1 wr) (fun t10 _ => (Go.RowKit.intOf t10).toNat)
  case atStart => exact ⟨M, hM8, by first | rfl | simp [hmin], hK1⟩
  case round =>
  clear hK1
  obtain ⟨k, hk8, rfl, hK⟩ := hrel
  have i1 : (0 : Int) ≤ (k : Int) := by omega
  obtain ⟨⟨v, hs, ho⟩, hbZ⟩ := hK
  have hM := hMZ.below hbZ
  have hrs := hs.blk.range
  have hlS : (stCs (stk k 1) v).length = 18 := st_len rfl
  have hstp := ret_step k
  by_cases h0 : k = 0
  · subst h0
    rw [if_pos rfl] at hstp
    have ks := cstepV (stk 0 1) (stk_ok (by omega) 1) v hM (SV.own ho) (flt 37) (by rw [hmg]; exact hstp)
    obtain ⟨Y, hY⟩ : ∃ Y, stCs (stk 0 1) v = Y := ⟨_, rfl⟩
    rw [hY] at hrs hlS ks
    have hszY : (Try.prog.info? 29).map (·.size) = some Y.length := by rw [hlS]; exact hszS
    go_wp2_with (first | (refine wpList_load_row rfl _ rfl Z.heap.size rfl Y hrs hundS rfl hszY ?_) | fail)
    refine ks.mono ?_
    rintro e W8 hP
    obtain ⟨vA, rfl, hoA, hb8⟩ := hP.fltE
    obtain ⟨W9, hW9, hth9, hs9, hb9⟩ := new_stC W8 zeroC rfl vA
    have hone9 := st_one zeroC vA (SV.own hoA).one
    have hl9 : (stCs zeroC vA).length = 18 := st_len rfl
    have hB9 := hBZ.trans (((hbZ.trans (hb8.mono hbZ.size)).trans (hb9.mono (Nat.le_trans hbZ.size hb8.size))).mono hBZ.size)
    obtain ⟨X, hX⟩ : ∃ X, stCs zeroC vA = X := ⟨_, rfl⟩
    have hXv : Aside (.agg (stCs zeroC vA).toArray = Value.agg X.toArray) := by rw [hX]; exact rfl
    rw [hX] at hW9 hth9 hone9 hl9
    have hszX : (Try.prog.info? 29).map (·.size) = some X.length := by rw [hl9]; exact hszS
    clear ks hrs hs ho hP hoA hb8 hb9 hs9 hX hY
    go_wp2_with (first | (refine wpList_store_row rfl _ _ rfl W8.heap.size rfl X hXv.out hth9 hszX hone9 hW9 ?_) | fail)
    go_ret
    exact ⟨rfl, hB9⟩
  · obtain ⟨j, rfl⟩ : ∃ j, k = j + 1 := ⟨k - 1, by omega⟩
    rw [if_neg h0, Nat.add_sub_cancel] at hstp
    have ks := cstepV (stk (j + 1) 1) (stk_ok hk8 1) v hM (SV.own ho) (okC (stk j 1)) (by rw [hmg]; exact hstp)
    obtain ⟨Y, hY⟩ : ∃ Y, stCs (stk (j + 1) 1) v = Y := ⟨_, rfl⟩
    rw [hY] at hrs hlS ks
    have hszY : (Try.prog.info? 29).map (·.size) = some Y.length := by rw [hlS]; exact hszS
    go_wp2_with (first | (refine wpList_load_row rfl _ rfl Z.heap.size rfl Y hrs hundS rfl hszY ?_) | fail)
    refine ks.mono ?_
    rintro e W8 hP
    obtain ⟨vA, rfl, hoA, hb8⟩ := hP.okE
    obtain ⟨W9, hW9, hth9, hs9, hb9⟩ := new_stC W8 (stk j 1) rfl vA
    have hlA : (stk j 1).st.length = j := by simp [stk]
    obtain ⟨ya, yc, hyv, -, -, -⟩ := hoA.slice frc_len
    rw [hlA] at hyv
    subst hyv
    have hone9 := st_one (stk j 1) (.slice ya j yc) rfl
    have hl9 : (stCs (stk j 1) (.slice ya j yc)).length = 18 := st_len rfl
    have z1 : W9.cell? ⟨W8.heap.size, 1, none⟩ = some (.int .i64 1) := hs9.off
    have z16 := hs9.stk
    have hrX := hs9.blk.range
    have hsB := (hs.keep hb8).keep hb9
    obtain ⟨WB, hWB, hthB, hsC, hkC⟩ := put_st hsB (d := stk j 1) rfl (.slice ya j yc)
    have hKC : KS Z j 1 WB := ⟨⟨_, hsC, by
      have h1 := hoA.below hb9
      rw [← hWB]
      exact (h1.setAll (g := Z.heap.size) (fun q => by have := (h1.lt q).1; have := hs.blk.2; omega) _).lower (by have := hs.blk.2; omega)⟩, hkC _ _ (Nat.le_refl _) ((hbZ.trans (hb8.mono hbZ.size)).trans (hb9.mono (Nat.le_trans hbZ.size hb8.size)))⟩
    obtain ⟨X, hX⟩ : ∃ X, stCs (stk j 1) (.slice ya j yc) = X := ⟨_, rfl⟩
    have hXv : Aside (.agg (stCs (stk j 1) (.slice ya j yc)).toArray = Value.agg X.toArray) := by rw [hX]; exact rfl
    rw [hX] at hW9 hth9 hone9 hl9 hrX hWB hthB
    have hszX : (Try.prog.info? 29).map (·.size) = some X.length := by rw [hl9]; exact hszS
    have i2 : (((j + 1 : Nat) : Int) == 0) = false := by simp; omega
    have i3 : IntKind.i64.wrap (((j + 1 : Nat) : Int) - 1) = (j : Int) := by rw [IntKind.wrap_i64]; omega
    clear ks hrs hs ho hP hoA hb8 hb9 hs9 hX hY hsB hsC hkC hstp hbZ hM hlA
    go_wp2_with (first | (refine wpList_store_row rfl _ _ rfl W8.heap.size rfl X hXv.out hth9 hszX hone9 hW9 ?_) | (refine wpList_load_row rfl _ rfl W8.heap.size rfl X hrX hundS rfl hszX ?_) | (refine wpList_store_row rfl _ _ rfl Z.heap.size rfl X rfl hthB hszX hone9 hWB ?_) | fail)
    exact ⟨⟨j, by omega, by simp, hKC⟩, by simp [Go.RowKit.intOf]⟩
end Go.Proofs.Ytinibccphecdfab
