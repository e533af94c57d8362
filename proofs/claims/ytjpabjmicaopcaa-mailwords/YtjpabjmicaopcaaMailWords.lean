/-
  LAW MailWords, walked. Written by mk_maildown.py.
-/
import Derived.Test.YtjpabjmicaopcaaMailSends
namespace Go.Proofs.Ytjpabjmicaopcaa
open Go.RowKit
set_option maxRecDepth 8000
set_option linter.unusedSimpArgs false
set_option linter.unusedVariables false

theorem stands_true (t u : ByteArray) : ∀ (n i k : Nat), i ≤ k → k < i + n → k + u.size ≤ t.size → t.extract k (k + u.size) = u → standsB t u n i = true
  | 0, i, k, h1, h2, _, _ => by omega
  | n + 1, i, k, h1, h2, h3, h4 => by
    rw [standsB, if_pos (by omega)]
    by_cases h : k = i
    · subst h
      rw [h4, show eqs u u = true by unfold eqs; simp]
      rfl
    · rw [stands_true t u n (i + 1) k (by omega) (by omega) h3 h4, Bool.or_true]
theorem stands_mid (a u b : ByteArray) : standsB (a ++ u ++ b) u ((a ++ u ++ b).size + 1) 0 = true := by
  refine stands_true _ _ _ _ a.size (by omega) (by simp [ByteArray.size_append]; omega) (by simp [ByteArray.size_append]) ?_
  apply ByteArray.ext
  rw [ByteArray.data_extract, ByteArray.data_append, ByteArray.data_append]
  apply Array.ext'
  have e1 : a.size = a.data.toList.length := by rw [Array.length_toList]; rfl
  have e2 : u.size = u.data.toList.length := by rw [Array.length_toList]; rfl
  rw [Array.toList_extract, Array.toList_append, Array.toList_append, e1, e2]
  generalize a.data.toList = p
  generalize u.data.toList = q
  generalize b.data.toList = r
  rw [List.extract_eq_take_drop]
  simp
theorem rowO {α : Type} {sz : Nat} {f : α → List Value} {w w' : World} {g : Nat} {l : List α} (h : RowAt sz f w (some ⟨g, 0, none⟩) l) (hb : w'.heap[g]? = w.heap[g]?) : RowAt sz f w' (some ⟨g, 0, none⟩) l := fun j x hx => by
  obtain ⟨y, hy, hc⟩ := h j x hx
  obtain rfl := Option.some.inj hy
  refine ⟨_, rfl, fun i hi => ?_⟩
  rw [← hc i hi]
  exact World.cell?_of_block (by rw [show ((⟨g, 0, none⟩ : Addr).add (j * sz + i)).block = g by unfold Addr.add; split <;> rfl]; exact hb)
def hiL : Lab := ⟨2, 0, 1, 0⟩
def wdR (u : ByteArray) : MRul := ⟨hiL, bottomL, u⟩
def wdM (b : Lab) (t : ByteArray) : Msg := ⟨⟨#[97]⟩, hiL, ⟨#[98]⟩, b, t⟩
theorem wd_rel (u t : ByteArray) : relE [wdR u] (wdM bottomL t) = if standsB t u (t.size + 1) 0 = true then 6 else 0 := by
  have h : ruleF [wdR u] (wdM bottomL t) = some (wdR u) := by
    unfold ruleF
    rw [List.find?_cons, show ruleP (wdM bottomL t) (wdR u) = true from (show (labEq hiL hiL && labEq bottomL bottomL) = true by decide)]
  unfold relE
  rw [h]
  rfl
set_option maxRecDepth 8000 in
set_option maxHeartbeats 8000000 in
theorem mailWords_walk (u a b : ByteArray) (hsu : u.size ≤ 1000000000000000) (hsa : a.size ≤ 1000000000000000) (hsb : b.size ≤ 1000000000000000) (w : World) (hLen : LenV w) :
    Calls Try.prog 5 #[.string u, .string a, .string b] w fun e w' => e = .returned (.bool true) ∧ Below w.heap.size w w' := by
  have hundL := Try.underlying24
  have hundM := Try.underlying26
  have hszL : ∀ t : Lab, (Try.prog.info? 24).map (·.size) = some (lab4 t).length := fun t => by show _ = some 4; kernel_rfl
  have hszM : (Try.prog.info? 26).map (·.size) = some 11 := by kernel_rfl
  have kb : ∀ W, Calls Try.prog 20 #[] W fun e w' => e = .returned (.agg (lab4 bottomL).toArray) ∧ Below W.heap.size W w' := fun W => botM_any W
  go_enter Try.func5, Try.ntmps5
  go_wp2_with fail
  refine (mknown_any w).mono ?_
  rintro e W1 ⟨rfl, hB1⟩
  have wa : IntKind.i64.wrap ((a.size : Int) + (b.size : Int)) = (a.size : Int) + (b.size : Int) := Go.IntWalk.i64_in _ (by omega)
  by_cases hu0 : u.size = 0
  · have i1 : ((u.size : Int) == 0) = true := by simp [hu0]
    clear kb
    go_wp2_with fail
    go_ret
    exact ⟨rfl, hB1⟩
  have i1 : ((u.size : Int) == 0) = false := by simpa using hu0
  by_cases hu12 : 12 < u.size
  · have i2 : (12 : Int) < (u.size : Int) := by omega
    clear kb
    go_wp2_with fail
    go_ret
    exact ⟨rfl, hB1⟩
  have i2 : ¬ (12 : Int) < (u.size : Int) := by omega
  by_cases hab : 20 < a.size + b.size
  · have i3 : (20 : Int) < (a.size : Int) + (b.size : Int) := by omega
    clear kb
    go_wp2_with fail
    go_ret
    exact ⟨rfl, hB1⟩
  have i3 : ¬ (20 : Int) < (a.size : Int) + (b.size : Int) := by omega
  obtain ⟨W2, hW2, hth2, hh2, hb2⟩ := put_new W1 #[.int .i64 0, .int .i64 0, .int .i64 0, .int .i64 0] 24 (lab4 hiL) rfl (by show 0 < 4; decide)
  have hB2 := Below.then hB1 hb2
  have hlo := lab4_one hiL
  go_upto_region 6 with (first | (refine wpList_store_row rfl _ _ rfl W1.heap.size rfl (lab4 hiL) rfl hth2 (hszL hiL) hlo hW2 ?_) | fail)
  clear hth2 hW2 hb2 wa i1 i2 i3
  generalize W1.heap.size = gh at *
  have hS : Below W2.heap.size W2 W2.drew := (Below.refl _ _).drew
  simp only [Act.put]
  go_cut [8] from 31 to 35 (fun s8 wd => ∃ gr : Nat, s8 = .slice (some ⟨gr, 0, none⟩) 1 1 ∧ RowAt 9 MRul.cs wd (some ⟨gr, 0, none⟩) [wdR u] ∧ Below W2.heap.size W2 wd)
  · skip
    refine wp_region_held_drew (S := (fun W => Below W2.heap.size W2 W)) (by kernel_rfl) (by exact hS) ?_
    intro hHeld
    generalize W2.drew = w0 at *
    refine wpAnyH_take (i := 0) (v := _) (by simp only [List.getElem?_toArray, List.getElem?_cons_zero, List.getElem?_cons_succ]; rfl) (by kernel_rfl) (by kernel_rfl) (by kernel_rfl) (by exact fun _ _ _ h => h) (yields_row (by rfl) _ rfl gh rfl (lab4 hiL) (fun _ q => BlkL.range (stab_blk _ _ _ _ hh2 q)) hundL rfl (hszL hiL)) (by assumption) ?_; (try simp only [Act.put, List.setIfInBounds_toArray, List.set_cons_zero, List.set_cons_succ])
    refine wpAnyH_take (i := 2) (v := ?_) (by simp only [List.getElem?_toArray, List.getElem?_cons_zero, List.getElem?_cons_succ]; rfl) (by kernel_rfl) (by kernel_rfl) (by kernel_rfl) (by exact fun _ _ _ h => h) (Or.inl ⟨by rfl, ?_⟩) (by assumption) ?_; rotate_left; (focus (intro w hSw; (try dsimp only at hSw); go_simp; try with_reducible rfl)); (try simp only [Act.put, List.setIfInBounds_toArray, List.set_cons_zero, List.set_cons_succ])
    refine wpAnyH_ready (rs := [1]) (by kernel_rfl) (by simp) ?_
    refine AllReadyH.cons (by simp only [List.getElem?_toArray, List.getElem?_cons_zero, List.getElem?_cons_succ]; rfl) (fun K hK => ?_) AllReadyH.nil
    go_simp
    refine (kb w0).mono ?_
    rintro e w1 ⟨rfl, hb⟩
    replace hS := Below.then hS hb
    clear hb
    refine hK.out _ _ (hS) ?_
    clear hHeld hK
    intro hHeld
    (try simp only [Act.put, List.setIfInBounds_toArray, List.set_cons_zero, List.set_cons_succ])
    refine wpAnyH_take (i := 3) (v := ?_) (by simp only [List.getElem?_toArray, List.getElem?_cons_zero, List.getElem?_cons_succ]; rfl) (by kernel_rfl) (by kernel_rfl) (by kernel_rfl) (by exact fun _ _ _ h => h) (Or.inl ⟨by rfl, ?_⟩) (by assumption) ?_; rotate_left; (focus (intro w hSw; (try dsimp only at hSw); go_simp; try with_reducible rfl)); (try simp only [Act.put, List.setIfInBounds_toArray, List.set_cons_zero, List.set_cons_succ])
    refine wpAnyH_ready (rs := [4]) (by kernel_rfl) (by simp) ?_
    refine AllReadyH.cons (by simp only [List.getElem?_toArray, List.getElem?_cons_zero, List.getElem?_cons_succ]; rfl) (fun K hK => ?_) AllReadyH.nil
    have hb := alloc_below w1 (.cells (wdR u).cs.toArray 29)
    have hR := row_made mr_len w1 (wdR u) (wdR u).cs.toArray rfl 29
    refine step_build1 mr_ok (by decide) rfl _ rfl (wdR u).cs rfl rfl ?_
    (try simp only [Act.put, List.setIfInBounds_toArray, List.set_cons_zero, List.set_cons_succ])
    refine hK.out _ _ (Below.then hS hb) ?_
    clear hHeld hK
    intro hHeld
    replace hS := Below.then hS hb
    clear hb
    generalize w1.alloc (.cells (wdR u).cs.toArray 29) = w2 at *
    generalize w1.heap.size = gr at *
    (try simp only [Act.put, List.setIfInBounds_toArray, List.set_cons_zero, List.set_cons_succ])
    refine wpAnyH_take (i := 5) (v := ?_) (by simp only [List.getElem?_toArray, List.getElem?_cons_zero, List.getElem?_cons_succ]; rfl) (by kernel_rfl) (by kernel_rfl) (by kernel_rfl) (by exact fun _ _ _ h => h) (Or.inl ⟨by rfl, ?_⟩) (by assumption) ?_; rotate_left; (focus (intro w hSw; (try dsimp only at hSw); go_simp; try with_reducible rfl)); (try simp only [Act.put, List.setIfInBounds_toArray, List.set_cons_zero, List.set_cons_succ])
    refine wpAnyH_done (by kernel_rfl) ?_ _
    clear hHeld
    go_wp2_with fail
    go_meet
    exact ⟨gr, rfl, hR, hS⟩
  case rest =>
  obtain ⟨gr, rfl, hR, hbR⟩ := hcut
  obtain ⟨W3, hW3⟩ : ∃ W3, wc = W3 := ⟨_, rfl⟩
  rw [hW3] at hR hbR ⊢
  clear hW3 hS
  have hh3 := stab_blk _ _ _ _ hh2 hbR
  have hB3 := Below.then hB2 hbR
  have hhr := hh3.range
  have c1 : ¬ 9223372036854775807 < a.size + u.size := by omega
  have c2 : ¬ 9223372036854775807 < a.size + u.size + b.size := by omega
  obtain ⟨T, hT⟩ : ∃ T, a ++ u ++ b = T := ⟨_, rfl⟩
  have hTs : T.size = a.size + u.size + b.size := by rw [← hT]; simp [ByteArray.size_append]
  have hTr : standsB T u (T.size + 1) 0 = true := by rw [← hT]; exact stands_mid a u b
  obtain ⟨M1, hM1⟩ : ∃ M1, (wdM ⟨0, 0, 0, 0⟩ T).cs = M1 := ⟨_, rfl⟩
  have hl1 : M1.length = 11 := by rw [← hM1]; rfl
  have ho1 : ∀ v ∈ M1, v.oneCell' = true := by rw [← hM1]; exact ms_one _
  have hz1 : (Try.prog.info? 26).map (·.size) = some M1.length := by rw [hl1]; exact hszM
  obtain ⟨W4, hW4, hth4, hm4, hb4⟩ := put_new W3 zM11 26 M1 (by rw [hl1]; rfl) (by rw [hl1]; decide)
  have hM1e : Aside (Value.agg #[.string ⟨#[97]⟩, .int .i64 2, .int .i64 0, .int .i64 1, .int .i64 0, .string ⟨#[98]⟩, .int .i64 0, .int .i64 0, .int .i64 0, .int .i64 0, .string T] = .agg M1.toArray) := by show _ = _; rw [← hM1]; rfl
  have hgm0 : w.heap.size ≤ W3.heap.size := hB3.size
  have hgr0 : gr ≠ W3.heap.size := by
    obtain ⟨yy, hy, hc⟩ := hR 0 (wdR u) rfl
    obtain rfl := Option.some.inj hy
    have h1 := hc 8 (by decide)
    have h2 : (MRul.cs (wdR u))[8]? = some (.string u) := rfl
    rw [h2] at h1
    have h3 := World.block_lt_of_cell? _ _ h1
    rw [show ((⟨gr, 0, none⟩ : Addr).add (0 * 9 + 8)).block = gr by unfold Addr.add; rfl] at h3
    omega
  have hR4 := hR.below mr_len hb4
  have hB4 := Below.then hB3 hb4
  rw [← hM1] at hm4
  clear hM1
  go_upto_region 8 with (first | (refine wpList_load_row rfl _ rfl gh rfl (lab4 hiL) hhr hundL rfl (hszL hiL) ?_) | (refine wpList_store_row rfl _ _ rfl W3.heap.size rfl M1 hM1e.out hth4 hz1 ho1 hW4 ?_) | (refine wpList_store_row rfl _ _ rfl W3.heap.size rfl M1 (by rw [← hM1e.out, ← hT]; rfl) hth4 hz1 ho1 hW4 ?_) | fail)
  clear hth4 hW4 hM1e ho1 hz1 hl1 hhr hh3 hh2 hB3 hB2 hR hlo
  have hgm : w.heap.size ≤ W3.heap.size := hgm0
  have hgr : gr ≠ W3.heap.size := hgr0
  generalize W3.heap.size = gm at *
  go_wp2_with fail
  refine (kb W4).mono ?_
  rintro e W5 ⟨rfl, hb5⟩
  have hm5 := stab_blk _ _ _ _ hm4 hb5
  have hR5 := hR4.below mr_len hb5
  obtain ⟨W6, hW6, hth6, hm6, hB6⟩ := put_mid (Z := w) hm5 6 (lab4 bottomL) (by show 6 + 4 ≤ 11; decide) (by show 0 < 11; decide) (Below.then hB4 hb5) hgm
  replace hm6 : BlkL gm (wdM bottomL T).cs W6 := hm6
  have hk6 : ∀ j, j ≠ gm → W6.heap[j]? = W5.heap[j]? := fun j hj => by rw [← hW6]; exact heap_setCells_other hj _ _ _
  have hR6 : RowAt 9 MRul.cs W6 (some ⟨gr, 0, none⟩) [wdR u] := rowO hR5 (hk6 gr hgr)
  have hlb := lab4_one bottomL
  obtain ⟨N1, hN1⟩ : ∃ N1, (wdM bottomL T).cs = N1 := ⟨_, rfl⟩
  have hl2 : N1.length = 11 := by rw [← hN1]; rfl
  have hz2 : (Try.prog.info? 26).map (·.size) = some N1.length := by rw [hl2]; exact hszM
  have krl := prelease_any (some ⟨gr, 0, none⟩) 1 [wdR u] (wdM bottomL T) (by show 1 ≤ 1000000; decide) W6 (fun x hx => ⟨by show T.size < _; omega, hLen.below hB6⟩) hR6
  rw [wd_rel, hTr, if_pos rfl, hN1] at krl
  replace krl : Calls Try.prog 16 #[.slice (some ⟨gr, 0, none⟩) 1 1, .agg N1.toArray] W6 _ := krl
  have hmN : BlkL gm N1 W6 := by rw [← hN1]; exact hm6
  have hrN := hmN.range
  clear hk6 hm5 hR5 hb5 hm4 hR4 hB4 kb hb4
  go_upto_region 9 with (first | (refine wpList_store_part rfl _ _ rfl gm 6 rfl (lab4 bottomL) rfl hth6 (hszL bottomL) hlb hW6 ?_) | fail)
  clear hth6 hW6 hlb
  go_wp2_with (first | (refine wpList_load_row rfl _ rfl gm rfl N1 hrN hundM rfl hz2 ?_) | fail)
  refine krl.mono ?_
  rintro e W7 ⟨rfl, hb7⟩
  have hm7 := stab_blk _ _ _ _ hm6 hb7
  have hR7 := hR6.below mr_len hb7
  have hB7 := Below.then hB6 hb7
  obtain ⟨T2, hT2⟩ : ∃ T2, a ++ b = T2 := ⟨_, rfl⟩
  have hs2 : T2.size = a.size + b.size := by rw [← hT2]; simp [ByteArray.size_append]
  have c3 : ¬ 9223372036854775807 < a.size + b.size := by omega
  have q10 := (hm7.1 10 (.string T) rfl).1
  have q10f := (hm7.1 10 (.string T) rfl).2
  have hm8 : BlkL gm (wdM bottomL T2).cs (W7.setCell ⟨gm, 10, none⟩ (.string T2)) := blk_setS hm7 (by show 10 < 11; decide) _
  have hB8 := hB7.setCell (p := ⟨gm, 10, none⟩) (by show w.heap.size ≤ gm; exact hgm) (.string T2)
  have hR8 : RowAt 9 MRul.cs (W7.setCell ⟨gm, 10, none⟩ (.string T2)) (some ⟨gr, 0, none⟩) [wdR u] := rowO hR7 (heap_setCell_other W7 ⟨gm, 10, none⟩ gr _ hgr)
  obtain ⟨W8, hW8⟩ : ∃ W8, W7.setCell ⟨gm, 10, none⟩ (.string T2) = W8 := ⟨_, rfl⟩
  rw [hW8] at hm8 hB8 hR8
  clear krl hrN hmN hm6 hR6 hB6 hb7 hm7 hR7 hB7 hN1 hz2 hl2
  go_upto_region 12 with fail
  (try rw [hW8])
  clear hW8 q10 q10f
  have y10 := (hm8.1 10 (.string T2) rfl).1
  go_upto_region 14 with fail
  go_wp2_with fail
  obtain ⟨B0, hB0⟩ : ∃ B0, standsB T2 u (T2.size + 1) 0 = B0 := ⟨_, rfl⟩
  go_loopw [10, 11] (fun s10 s11 wr => ∃ (i : Nat) (f : Bool), i ≤ T2.size + 1 ∧ s10 = .bool f ∧ s11 = .int .i64 (i : Int) ∧ (f || standsB T2 u (T2.size + 1 - i) i) = B0 ∧ Below W8.heap.size W8 wr) (fun _ s11 _ => T2.size + 1 - (Go.RowKit.intOf s11).toNat)
  case atStart => exact ⟨0, false, by omega, rfl, rfl, hB0, Below.refl _ _⟩
  case round =>
  obtain ⟨i, f, hi, rfl, rfl, hst, hB⟩ := hrel
  replace y10 := (hB.cell (World.block_lt_of_cell? _ _ y10)).trans y10
  have hBw := Below.then hB8 hB
  have hwr : IntKind.i64.wrap ((i : Int) + (u.size : Int)) = (i : Int) + (u.size : Int) := by rw [IntKind.wrap_i64]; omega
  by_cases hle : i + u.size ≤ T2.size
  · have i4 : (i : Int) + (u.size : Int) ≤ (T2.size : Int) := by omega
    rw [show T2.size + 1 - i = (T2.size - i) + 1 by omega, standsB, if_pos hle] at hst
    have hcut := fun W => cut_run T2 i (i + u.size) (by omega) hle W
    rw [show ((i + u.size : Nat) : Int) = (i : Int) + (u.size : Int) by omega] at hcut
    replace hst : Aside ((f || (eqs (T2.extract i (i + u.size)) u || standsB T2 u (T2.size - i) (i + 1))) = B0) := hst
    clear hB0
    go_upto_region 16 with fail
    obtain ⟨Z, hZ⟩ : ∃ Z, wr = Z := ⟨_, rfl⟩
    rw [hZ] at y10 hBw hB ⊢
    clear hZ
    obtain ⟨sub, hsub⟩ : ∃ sub, T2.extract i (i + u.size) = sub := ⟨_, rfl⟩
    rw [hsub] at hst
    simp only [hsub] at hcut
    clear hsub
    cases f
    · replace hst : Aside ((eqs sub u || standsB T2 u (T2.size - i) (i + 1)) = B0) := hst
      go_wp2_with fail
      exact ⟨⟨i + 1, eqs sub u, by omega, rfl, by simp, by rw [show T2.size + 1 - (i + 1) = T2.size - i by omega]; exact hst.out, hB⟩, by simp [Go.RowKit.intOf]; omega⟩
    · replace hst : Aside (true = B0) := hst
      go_wp2_with fail
      exact ⟨⟨i + 1, true, by omega, rfl, by simp, by rw [Bool.true_or]; exact hst.out, hB⟩, by simp [Go.RowKit.intOf]; omega⟩
  · have i4 : ¬ (i : Int) + (u.size : Int) ≤ (T2.size : Int) := by omega
    have hst2 : standsB T2 u (T2.size + 1 - i) i = false := by
      cases hk : T2.size + 1 - i with
      | zero => rfl
      | succ k => rw [standsB, if_neg hle]
    rw [hst2, Bool.or_false] at hst
    have hm9 := stab_blk _ _ _ _ hm8 hB
    have hR9 := hR8.below mr_len hB
    obtain ⟨N2, hN2⟩ : ∃ N2, (wdM bottomL T2).cs = N2 := ⟨_, rfl⟩
    have hl3 : N2.length = 11 := by rw [← hN2]; rfl
    have hz3 : (Try.prog.info? 26).map (·.size) = some N2.length := by rw [hl3]; exact hszM
    have krl := prelease_any (some ⟨gr, 0, none⟩) 1 [wdR u] (wdM bottomL T2) (by show 1 ≤ 1000000; decide) wr (fun x hx => ⟨by show T2.size < _; omega, hLen.below hBw⟩) hR9
    rw [wd_rel, hB0, ← hst, hN2] at krl
    replace krl : Calls Try.prog 16 #[.slice (some ⟨gr, 0, none⟩) 1 1, .agg N2.toArray] wr _ := krl
    have hmN : BlkL gm N2 wr := by rw [← hN2]; exact hm9
    have hrN := hmN.range
    clear hm9 hm8 hR9 hR8 hst hst2 hB0 hN2
    cases f
    · go_wp2_with (first | (refine wpList_load_row rfl _ rfl gm rfl N2 hrN hundM rfl hz3 ?_) | fail)
      refine krl.mono ?_
      rintro e W9 ⟨rfl, hb9⟩
      go_wp2_with fail
      go_ret
      exact ⟨rfl, Below.then hBw hb9⟩
    · go_wp2_with (first | (refine wpList_load_row rfl _ rfl gm rfl N2 hrN hundM rfl hz3 ?_) | fail)
      refine krl.mono ?_
      rintro e W9 ⟨rfl, hb9⟩
      go_wp2_with fail
      go_ret
      exact ⟨rfl, Below.then hBw hb9⟩
end Go.Proofs.Ytjpabjmicaopcaa
