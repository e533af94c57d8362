/-
  LAW MailLimits, walked. Written by mk_maillimits.py.
-/
import Derived.Test.YtjpabjmicaopcaaMailSends
import Derived.Laws.MakeOwn
namespace Go.Proofs.Ytjpabjmicaopcaa
open Go.RowKit
set_option maxRecDepth 8000
set_option linter.unusedSimpArgs false
set_option linter.unusedVariables false

def zeros (n : Nat) : ByteArray := ⟨(List.replicate n (0 : UInt8)).toArray⟩
theorem zeros_size (n : Nat) : (zeros n).size = n := by
  show ((List.replicate n (0 : UInt8)).toArray).size = n
  simp
/-- A row of noughts. -/
structure ZB (W : World) (b n : Nat) : Prop where
  lt : b < W.heap.size
  cell : ∀ j, j < n → W.cell? ⟨b, j, none⟩ = some (.int .u8 0)
theorem zb_make (W : World) (n : Nat) (hn : n ≤ 1000) : ∃ W', (Instr.makeSlice 48 (.int .i64 (n : Int)) (.int .i64 (n : Int))).run Try.prog W = .ok (.slice (some ⟨W.heap.size, 0, none⟩) n n) W' ∧ ZB W' W.heap.size n ∧ Below W.heap.size W W' := by
  obtain ⟨i, hi, hz, hs, hby⟩ := info_of (e := 5) (z := .int .u8 0) (sz := 1) (b := 1) (by kernel_rfl)
  have h := run_make (P := Try.prog) W 48 5 i _ Try.underlying48 hi hz .i64 .i64 n n (by omega) (by omega) (by rw [hby]; omega) (by omega)
  refine ⟨_, h, ⟨by simp, fun j hj => ?_⟩, alloc_below _ _⟩
  rw [World.cell?_alloc_at _ _ _ _ rfl]
  simp [madeCells, hs, Value.cells, hj, Nat.mod_one]
theorem ZB.conv {W : World} {b n : Nat} (h : ZB W b n) : (convert 48 9 (.slice (some ⟨b, 0, none⟩) n n)).run Try.prog W = .ok (.string (zeros n)) W := by
  have := run_convert_bytes_back (P := Try.prog) W 48 9 5 ⟨b, 0, none⟩ n (List.replicate n 0) Try.underlying48 Try.underlying5 Try.underlying9 (fun j hj => by
    rw [add_at, h.cell j (by simpa using hj)]
    simp)
  rw [List.length_replicate] at this
  exact this
def nL : Lab := ⟨0, 0, 0, 0⟩
def liM (f : ByteArray) (x : Lab) (t : ByteArray) (y : Lab) (s : ByteArray) : Msg := ⟨f, x, t, y, s⟩
theorem li_first (n : Nat) : sendE [] (liM ⟨#[97]⟩ nL ⟨#[98]⟩ nL (zeros n)) = if 40 < n then (0, 5) else (1, 0) := by
  unfold sendE
  refine (if_neg (show ¬ name ⟨#[97]⟩ = false by decide +kernel)).trans ((if_neg (show ¬ name ⟨#[98]⟩ = false by decide +kernel)).trans ((if_neg (show ¬ chkL nL ≠ 0 by decide +kernel)).trans ((if_neg (show ¬ chkL nL ≠ 0 by decide +kernel)).trans ?_)))
  show (if 40 < (zeros n).size then (0, 5) else if rov nL nL = true then (1, 0) else if (ruleF [] (liM ⟨#[97]⟩ nL ⟨#[98]⟩ nL (zeros n))).isSome = false then (0, 19) else (2, 0)) = _
  rw [zeros_size, if_pos (show rov nL nL = true by decide +kernel)]
theorem li_fr {f : ByteArray} (h : name f = false) (x : Lab) (t : ByteArray) (y : Lab) (s : ByteArray) : sendE [] (liM f x t y s) = (0, 1) := by
  unfold sendE
  exact if_pos h
theorem li_to {t : ByteArray} (h : name t = false) (x : Lab) (y : Lab) (s : ByteArray) : sendE [] (liM ⟨#[97]⟩ x t y s) = (0, 1) := by
  unfold sendE
  exact (if_neg (show ¬ name ⟨#[97]⟩ = false by decide +kernel)).trans (if_pos h)
theorem li_lab {x : Lab} (h : chkL x ≠ 0) (y : Lab) (s : ByteArray) : sendE [] (liM ⟨#[97]⟩ x ⟨#[98]⟩ y s) = (0, 1) := by
  unfold sendE
  exact (if_neg (show ¬ name ⟨#[97]⟩ = false by decide +kernel)).trans ((if_neg (show ¬ name ⟨#[98]⟩ = false by decide +kernel)).trans (if_pos h))
theorem li_box {y : Lab} (h : chkL y ≠ 0) (s : ByteArray) : sendE [] (liM ⟨#[97]⟩ nL ⟨#[98]⟩ y s) = (0, 1) := by
  unfold sendE
  exact (if_neg (show ¬ name ⟨#[97]⟩ = false by decide +kernel)).trans ((if_neg (show ¬ name ⟨#[98]⟩ = false by decide +kernel)).trans ((if_neg (show ¬ chkL nL ≠ 0 by decide +kernel)).trans (if_pos h)))
theorem inB_out {n m : Int} (h : m < n) : inB n m = false := by
  unfold inB
  rw [show decide (n ≤ m) = false from decide_eq_false (by omega), Bool.and_false]
theorem chk_sec {n : Int} (h : 3 < n) : chkL ⟨n, 0, 0, 0⟩ ≠ 0 := by
  unfold chkL okL
  rw [show inB n 3 = false from inB_out h]
  simp
theorem chk_ic {n : Int} (h : 255 < n) : chkL ⟨0, 0, 0, n⟩ ≠ 0 := by
  unfold chkL okL
  rw [show inB n 255 = false from inB_out h, Bool.and_false]
  simp
theorem rowNil {α : Type} {sz : Nat} {f : α → List Value} (w : World) : RowAt sz f w none [] := fun j x hx => by simp at hx
/-- Send without rules. -/
theorem send_nil (m : Msg) (hs : m.fr.size ≤ 100 ∧ m.rc.size ≤ 100) (M : List Value) (hM : m.cs = M) (p q : Int) (hp : sendE [] m = (p, q)) (w : World) :
    Calls Try.prog 12 #[.slice none 0 0, .agg M.toArray] w fun e w' => e = .returned (.tuple #[.int .i64 p, .int .i64 q]) ∧ Below w.heap.size w w' := by
  have h := psend_any none 0 [] m (by show 0 ≤ 1000000; decide) ⟨by omega, by omega⟩ w (rowNil w)
  rw [hp, hM] at h
  exact h
set_option maxRecDepth 8000 in
set_option maxHeartbeats 8000000 in
theorem mailLimits_walk (n how by_ : Int) (w : World) :
    Calls Try.prog 7 #[.int .i64 n, .int .i64 how, .int .i64 by_] w fun e w' => e = .returned (.bool true) ∧ Below w.heap.size w w' := by
  have hundM := Try.underlying26
  have hszM : (Try.prog.info? 26).map (·.size) = some 11 := by kernel_rfl
  have kw : ∀ (k m : Int), 0 < m → m < 1000000000000 → ∀ W, Calls Try.prog 11 #[.int .i64 k, .int .i64 m] W fun e w' => e = .returned (.int .i64 (k % m)) ∧ Below W.heap.size W w' := fun k m h0 h1 W => (w18_any k m h0 h1 W).mono (by rintro e w' ⟨rfl, rfl⟩; exact ⟨rfl, Below.refl _ _⟩)
  have kn := kw n 60 (by decide) (by decide)
  have kb := kw by_ 100 (by decide) (by decide)
  have kh := kw how 5 (by decide) (by decide)
  obtain ⟨N, hN, hN60⟩ : ∃ N : Nat, n % 60 = (N : Int) ∧ N < 60 := ⟨(n % 60).toNat, by omega, by omega⟩
  obtain ⟨B, hB, hB0, hB1⟩ : ∃ B : Int, by_ % 100 = B ∧ 0 ≤ B ∧ B < 100 := ⟨_, rfl, by omega, by omega⟩
  obtain ⟨q, hq, hq0, hq4⟩ : ∃ q : Int, how % 5 = q ∧ 0 ≤ q ∧ q ≤ 4 := ⟨_, rfl, by omega, by omega⟩
  rw [hN] at kn
  rw [hB] at kb
  rw [hq] at kh
  clear kw hN hB hq
  have wb : IntKind.i64.wrap (1 + B) = 1 + B := Go.IntWalk.i64_in _ (by omega)
  have wc : IntKind.i64.wrap (3 + (1 + B)) = 3 + (1 + B) := Go.IntWalk.i64_in _ (by omega)
  have wd : IntKind.i64.wrap (255 + (1 + B)) = 255 + (1 + B) := Go.IntWalk.i64_in _ (by omega)
  go_enter Try.func7, Try.ntmps7
  go_wp2_with fail
  refine (mknown_any w).mono ?_
  rintro e W1 ⟨rfl, hb1⟩
  go_wp2_with fail
  refine (kn W1).mono ?_
  rintro e W2 ⟨rfl, hb2⟩
  replace hb2 := Below.then hb1 hb2
  clear hb1 kn
  go_wp2_with fail
  refine (kb W2).mono ?_
  rintro e W3 ⟨rfl, hb3⟩
  replace hb3 := Below.then hb2 hb3
  clear hb2 kb
  obtain ⟨W4, hmk, hzb, hb4⟩ := zb_make W3 N (by omega)
  have hcv := hzb.conv
  replace hb4 := Below.then hb3 hb4
  clear hb3 hzb
  obtain ⟨T, hT⟩ : ∃ T, zeros N = T := ⟨_, rfl⟩
  rw [hT] at hcv
  have hTs : T.size = N := by rw [← hT]; exact zeros_size N
  have hs1 := li_first N
  rw [hT] at hs1
  clear hT
  obtain ⟨M, hM⟩ : ∃ M, (liM ⟨#[97]⟩ nL ⟨#[98]⟩ nL T).cs = M := ⟨_, rfl⟩
  have hl1 : M.length = 11 := by rw [← hM]; rfl
  have ho1 : ∀ v ∈ M, v.oneCell' = true := by rw [← hM]; exact ms_one _
  have hz1 : (Try.prog.info? 26).map (·.size) = some M.length := by rw [hl1]; exact hszM
  obtain ⟨W5, hW5, hth5, hm5, hb5⟩ := put_new W4 zM11 26 M (by rw [hl1]; rfl) (by rw [hl1]; decide)
  have hMe : Aside (Value.agg #[.string ⟨#[97]⟩, .int .i64 0, .int .i64 0, .int .i64 0, .int .i64 0, .string ⟨#[98]⟩, .int .i64 0, .int .i64 0, .int .i64 0, .int .i64 0, .string T] = .agg M.toArray) := by show _ = _; rw [← hM]; rfl
  have hgm : w.heap.size ≤ W4.heap.size := hb4.size
  replace hb5 := Below.then hb4 hb5
  clear hb4
  go_upto_region 5 with (first | (refine wpList_store_row rfl _ _ rfl W4.heap.size rfl M hMe.out hth5 hz1 ho1 hW5 ?_) | fail)
  clear hmk hcv hth5 hW5 hMe ho1
  generalize W4.heap.size = gm at *
  have hr5 := hm5.range
  by_cases h40 : 40 < N
  · rw [if_pos h40] at hs1
    have k1 := send_nil (liM ⟨#[97]⟩ nL ⟨#[98]⟩ nL T) (by show (1 : Nat) ≤ 100 ∧ (1 : Nat) ≤ 100; decide) M hM 0 5 hs1 W5
    have i1 : ¬ (N : Int) ≤ 40 := by omega
    replace hm5 : BlkL gm (liM ⟨#[97]⟩ nL ⟨#[98]⟩ nL T).cs W5 := by rw [hM]; exact hm5
    replace hM : Aside ((liM ⟨#[97]⟩ nL ⟨#[98]⟩ nL T).cs = M) := hM
    clear hs1
    go_wp2_with (first | (refine wpList_load_row rfl _ rfl gm rfl M hr5 hundM rfl hz1 ?_) | fail)
    refine k1.mono ?_
    rintro e W6 ⟨rfl, hb6⟩
    have hm6 := stab_blk _ _ _ _ hm5 hb6
    have hb7 := Below.then hb5 hb6
    clear hb6 hm5 hb5 hr5 k1 hM hz1 hl1
    have y10 := (hm6.1 10 (.string T) rfl).1
    have z10 := (hm6.1 10 (.string T) rfl).2
    have hm7 : BlkL gm (liM ⟨#[97]⟩ nL ⟨#[98]⟩ nL ⟨#[]⟩).cs (W6.setCell ⟨gm, 10, none⟩ (.string ⟨#[]⟩)) := blk_setS hm6 (by show 10 < 11; decide) _
    have hb8 := hb7.setCell (p := ⟨gm, 10, none⟩) (by show w.heap.size ≤ gm; exact hgm) (.string ⟨#[]⟩)
    obtain ⟨W7, hW7⟩ : ∃ W7, W6.setCell ⟨gm, 10, none⟩ (.string ⟨#[]⟩) = W7 := ⟨_, rfl⟩
    rw [hW7] at hm7 hb8
    clear hb7 hm6
    go_upto_region 9 with fail
    (try rw [hW7])
    clear hW7 y10 z10
    go_wp2_with fail
    refine (kh W7).mono ?_
    rintro e W8 ⟨rfl, hb9⟩
    have hm8 := stab_blk _ _ _ _ hm7 hb9
    replace hb9 := Below.then hb8 hb9
    clear hb8 hm7 kh
    rcases (by omega : q = 0 ∨ q = 1 ∨ q = 2 ∨ q = 3 ∨ q = 4) with rfl | rfl | rfl | rfl | rfl
    · have y := (hm8.1 0 (.string ⟨#[97]⟩) rfl).1
      have z := (hm8.1 0 (.string ⟨#[97]⟩) rfl).2
      have hm9 : BlkL gm (liM ⟨#[65]⟩ nL ⟨#[98]⟩ nL ⟨#[]⟩).cs (W8.setCell ⟨gm, 0, none⟩ (.string ⟨#[65]⟩)) := blk_setS hm8 (by show 0 < 11; decide) _
      have hbA := hb9.setCell (p := ⟨gm, 0, none⟩) (by show w.heap.size ≤ gm; exact hgm) (.string ⟨#[65]⟩)
      obtain ⟨W9, hW9⟩ : ∃ W9, W8.setCell ⟨gm, 0, none⟩ (.string ⟨#[65]⟩) = W9 := ⟨_, rfl⟩
      rw [hW9] at hm9 hbA
      obtain ⟨M2, hM2⟩ : ∃ M2, (liM ⟨#[65]⟩ nL ⟨#[98]⟩ nL ⟨#[]⟩).cs = M2 := ⟨_, rfl⟩
      have hl2 : M2.length = 11 := by rw [← hM2]; rfl
      have hz2 : (Try.prog.info? 26).map (·.size) = some M2.length := by rw [hl2]; exact hszM
      have k2 := send_nil (liM ⟨#[65]⟩ nL ⟨#[98]⟩ nL ⟨#[]⟩) (by show (1 : Nat) ≤ 100 ∧ (1 : Nat) ≤ 100; decide) M2 hM2 0 1 (li_fr (show name ⟨#[65]⟩ = false by decide +kernel) _ _ _ _) W9
      rw [hM2] at hm9
      have hr9 := hm9.range
      clear hm8 hM2 hb9
      go_upto_region 20 with fail
      (try rw [hW9])
      clear hW9 y z
      go_wp2_with (first | (refine wpList_load_row rfl _ rfl gm rfl M2 hr9 hundM rfl hz2 ?_) | fail)
      refine k2.mono ?_
      rintro e WA ⟨rfl, hbB⟩
      go_wp2_with fail
      go_ret
      exact ⟨rfl, Below.then hbA hbB⟩
    · have y := (hm8.1 5 (.string ⟨#[98]⟩) rfl).1
      have z := (hm8.1 5 (.string ⟨#[98]⟩) rfl).2
      have hm9 : BlkL gm (liM ⟨#[97]⟩ nL ⟨#[42]⟩ nL ⟨#[]⟩).cs (W8.setCell ⟨gm, 5, none⟩ (.string ⟨#[42]⟩)) := blk_setS hm8 (by show 5 < 11; decide) _
      have hbA := hb9.setCell (p := ⟨gm, 5, none⟩) (by show w.heap.size ≤ gm; exact hgm) (.string ⟨#[42]⟩)
      obtain ⟨W9, hW9⟩ : ∃ W9, W8.setCell ⟨gm, 5, none⟩ (.string ⟨#[42]⟩) = W9 := ⟨_, rfl⟩
      rw [hW9] at hm9 hbA
      obtain ⟨M2, hM2⟩ : ∃ M2, (liM ⟨#[97]⟩ nL ⟨#[42]⟩ nL ⟨#[]⟩).cs = M2 := ⟨_, rfl⟩
      have hl2 : M2.length = 11 := by rw [← hM2]; rfl
      have hz2 : (Try.prog.info? 26).map (·.size) = some M2.length := by rw [hl2]; exact hszM
      have k2 := send_nil (liM ⟨#[97]⟩ nL ⟨#[42]⟩ nL ⟨#[]⟩) (by show (1 : Nat) ≤ 100 ∧ (1 : Nat) ≤ 100; decide) M2 hM2 0 1 (li_to (show name ⟨#[42]⟩ = false by decide +kernel) _ _ _) W9
      rw [hM2] at hm9
      have hr9 := hm9.range
      clear hm8 hM2 hb9
      go_upto_region 20 with fail
      (try rw [hW9])
      clear hW9 y z
      go_wp2_with (first | (refine wpList_load_row rfl _ rfl gm rfl M2 hr9 hundM rfl hz2 ?_) | fail)
      refine k2.mono ?_
      rintro e WA ⟨rfl, hbB⟩
      go_wp2_with fail
      go_ret
      exact ⟨rfl, Below.then hbA hbB⟩
    · have y := (hm8.1 1 (.int .i64 0) rfl).1
      have z := (hm8.1 1 (.int .i64 0) rfl).2
      have hm9 : BlkL gm (liM ⟨#[97]⟩ ⟨3 + (1 + B), 0, 0, 0⟩ ⟨#[98]⟩ nL ⟨#[]⟩).cs (W8.setCell ⟨gm, 1, none⟩ (.int .i64 (3 + (1 + B)))) := blk_setS hm8 (by show 1 < 11; decide) _
      have hbA := hb9.setCell (p := ⟨gm, 1, none⟩) (by show w.heap.size ≤ gm; exact hgm) (.int .i64 (3 + (1 + B)))
      obtain ⟨W9, hW9⟩ : ∃ W9, W8.setCell ⟨gm, 1, none⟩ (.int .i64 (3 + (1 + B))) = W9 := ⟨_, rfl⟩
      rw [hW9] at hm9 hbA
      obtain ⟨M2, hM2⟩ : ∃ M2, (liM ⟨#[97]⟩ ⟨3 + (1 + B), 0, 0, 0⟩ ⟨#[98]⟩ nL ⟨#[]⟩).cs = M2 := ⟨_, rfl⟩
      have hl2 : M2.length = 11 := by rw [← hM2]; rfl
      have hz2 : (Try.prog.info? 26).map (·.size) = some M2.length := by rw [hl2]; exact hszM
      have k2 := send_nil (liM ⟨#[97]⟩ ⟨3 + (1 + B), 0, 0, 0⟩ ⟨#[98]⟩ nL ⟨#[]⟩) (by show (1 : Nat) ≤ 100 ∧ (1 : Nat) ≤ 100; decide) M2 hM2 0 1 (li_lab (chk_sec (by omega)) _ _) W9
      rw [hM2] at hm9
      have hr9 := hm9.range
      clear hm8 hM2 hb9
      go_upto_region 20 with fail
      (try rw [hW9])
      clear hW9 y z
      go_wp2_with (first | (refine wpList_load_row rfl _ rfl gm rfl M2 hr9 hundM rfl hz2 ?_) | fail)
      refine k2.mono ?_
      rintro e WA ⟨rfl, hbB⟩
      go_wp2_with fail
      go_ret
      exact ⟨rfl, Below.then hbA hbB⟩
    · have y := (hm8.1 9 (.int .i64 0) rfl).1
      have z := (hm8.1 9 (.int .i64 0) rfl).2
      have hm9 : BlkL gm (liM ⟨#[97]⟩ nL ⟨#[98]⟩ ⟨0, 0, 0, 255 + (1 + B)⟩ ⟨#[]⟩).cs (W8.setCell ⟨gm, 9, none⟩ (.int .i64 (255 + (1 + B)))) := blk_setS hm8 (by show 9 < 11; decide) _
      have hbA := hb9.setCell (p := ⟨gm, 9, none⟩) (by show w.heap.size ≤ gm; exact hgm) (.int .i64 (255 + (1 + B)))
      obtain ⟨W9, hW9⟩ : ∃ W9, W8.setCell ⟨gm, 9, none⟩ (.int .i64 (255 + (1 + B))) = W9 := ⟨_, rfl⟩
      rw [hW9] at hm9 hbA
      obtain ⟨M2, hM2⟩ : ∃ M2, (liM ⟨#[97]⟩ nL ⟨#[98]⟩ ⟨0, 0, 0, 255 + (1 + B)⟩ ⟨#[]⟩).cs = M2 := ⟨_, rfl⟩
      have hl2 : M2.length = 11 := by rw [← hM2]; rfl
      have hz2 : (Try.prog.info? 26).map (·.size) = some M2.length := by rw [hl2]; exact hszM
      have k2 := send_nil (liM ⟨#[97]⟩ nL ⟨#[98]⟩ ⟨0, 0, 0, 255 + (1 + B)⟩ ⟨#[]⟩) (by show (1 : Nat) ≤ 100 ∧ (1 : Nat) ≤ 100; decide) M2 hM2 0 1 (li_box (chk_ic (by omega)) _) W9
      rw [hM2] at hm9
      have hr9 := hm9.range
      clear hm8 hM2 hb9
      go_upto_region 20 with fail
      (try rw [hW9])
      clear hW9 y z
      go_wp2_with (first | (refine wpList_load_row rfl _ rfl gm rfl M2 hr9 hundM rfl hz2 ?_) | fail)
      refine k2.mono ?_
      rintro e WA ⟨rfl, hbB⟩
      go_wp2_with fail
      go_ret
      exact ⟨rfl, Below.then hbA hbB⟩
    · have y := (hm8.1 5 (.string ⟨#[98]⟩) rfl).1
      have z := (hm8.1 5 (.string ⟨#[98]⟩) rfl).2
      have hm9 : BlkL gm (liM ⟨#[97]⟩ nL ⟨#[97, 98, 99, 100, 101, 102, 103, 104, 105, 106, 107, 108, 109]⟩ nL ⟨#[]⟩).cs (W8.setCell ⟨gm, 5, none⟩ (.string ⟨#[97, 98, 99, 100, 101, 102, 103, 104, 105, 106, 107, 108, 109]⟩)) := blk_setS hm8 (by show 5 < 11; decide) _
      have hbA := hb9.setCell (p := ⟨gm, 5, none⟩) (by show w.heap.size ≤ gm; exact hgm) (.string ⟨#[97, 98, 99, 100, 101, 102, 103, 104, 105, 106, 107, 108, 109]⟩)
      obtain ⟨W9, hW9⟩ : ∃ W9, W8.setCell ⟨gm, 5, none⟩ (.string ⟨#[97, 98, 99, 100, 101, 102, 103, 104, 105, 106, 107, 108, 109]⟩) = W9 := ⟨_, rfl⟩
      rw [hW9] at hm9 hbA
      obtain ⟨M2, hM2⟩ : ∃ M2, (liM ⟨#[97]⟩ nL ⟨#[97, 98, 99, 100, 101, 102, 103, 104, 105, 106, 107, 108, 109]⟩ nL ⟨#[]⟩).cs = M2 := ⟨_, rfl⟩
      have hl2 : M2.length = 11 := by rw [← hM2]; rfl
      have hz2 : (Try.prog.info? 26).map (·.size) = some M2.length := by rw [hl2]; exact hszM
      have k2 := send_nil (liM ⟨#[97]⟩ nL ⟨#[97, 98, 99, 100, 101, 102, 103, 104, 105, 106, 107, 108, 109]⟩ nL ⟨#[]⟩) (by show (1 : Nat) ≤ 100 ∧ (13 : Nat) ≤ 100; decide) M2 hM2 0 1 (li_to (show name ⟨#[97, 98, 99, 100, 101, 102, 103, 104, 105, 106, 107, 108, 109]⟩ = false by decide +kernel) _ _ _) W9
      rw [hM2] at hm9
      have hr9 := hm9.range
      clear hm8 hM2 hb9
      go_upto_region 20 with fail
      (try rw [hW9])
      clear hW9 y z
      go_wp2_with (first | (refine wpList_load_row rfl _ rfl gm rfl M2 hr9 hundM rfl hz2 ?_) | fail)
      refine k2.mono ?_
      rintro e WA ⟨rfl, hbB⟩
      go_wp2_with fail
      go_ret
      exact ⟨rfl, Below.then hbA hbB⟩
  · rw [if_neg h40] at hs1
    have k1 := send_nil (liM ⟨#[97]⟩ nL ⟨#[98]⟩ nL T) (by show (1 : Nat) ≤ 100 ∧ (1 : Nat) ≤ 100; decide) M hM 1 0 hs1 W5
    have i1 : (N : Int) ≤ 40 := by omega
    replace hm5 : BlkL gm (liM ⟨#[97]⟩ nL ⟨#[98]⟩ nL T).cs W5 := by rw [hM]; exact hm5
    replace hM : Aside ((liM ⟨#[97]⟩ nL ⟨#[98]⟩ nL T).cs = M) := hM
    clear hs1
    go_wp2_with (first | (refine wpList_load_row rfl _ rfl gm rfl M hr5 hundM rfl hz1 ?_) | fail)
    refine k1.mono ?_
    rintro e W6 ⟨rfl, hb6⟩
    have hm6 := stab_blk _ _ _ _ hm5 hb6
    have hb7 := Below.then hb5 hb6
    clear hb6 hm5 hb5 hr5 k1 hM hz1 hl1
    have y10 := (hm6.1 10 (.string T) rfl).1
    have z10 := (hm6.1 10 (.string T) rfl).2
    have hm7 : BlkL gm (liM ⟨#[97]⟩ nL ⟨#[98]⟩ nL ⟨#[]⟩).cs (W6.setCell ⟨gm, 10, none⟩ (.string ⟨#[]⟩)) := blk_setS hm6 (by show 10 < 11; decide) _
    have hb8 := hb7.setCell (p := ⟨gm, 10, none⟩) (by show w.heap.size ≤ gm; exact hgm) (.string ⟨#[]⟩)
    obtain ⟨W7, hW7⟩ : ∃ W7, W6.setCell ⟨gm, 10, none⟩ (.string ⟨#[]⟩) = W7 := ⟨_, rfl⟩
    rw [hW7] at hm7 hb8
    clear hb7 hm6
    go_upto_region 9 with fail
    (try rw [hW7])
    clear hW7 y10 z10
    go_wp2_with fail
    refine (kh W7).mono ?_
    rintro e W8 ⟨rfl, hb9⟩
    have hm8 := stab_blk _ _ _ _ hm7 hb9
    replace hb9 := Below.then hb8 hb9
    clear hb8 hm7 kh
    rcases (by omega : q = 0 ∨ q = 1 ∨ q = 2 ∨ q = 3 ∨ q = 4) with rfl | rfl | rfl | rfl | rfl
    · have y := (hm8.1 0 (.string ⟨#[97]⟩) rfl).1
      have z := (hm8.1 0 (.string ⟨#[97]⟩) rfl).2
      have hm9 : BlkL gm (liM ⟨#[65]⟩ nL ⟨#[98]⟩ nL ⟨#[]⟩).cs (W8.setCell ⟨gm, 0, none⟩ (.string ⟨#[65]⟩)) := blk_setS hm8 (by show 0 < 11; decide) _
      have hbA := hb9.setCell (p := ⟨gm, 0, none⟩) (by show w.heap.size ≤ gm; exact hgm) (.string ⟨#[65]⟩)
      obtain ⟨W9, hW9⟩ : ∃ W9, W8.setCell ⟨gm, 0, none⟩ (.string ⟨#[65]⟩) = W9 := ⟨_, rfl⟩
      rw [hW9] at hm9 hbA
      obtain ⟨M2, hM2⟩ : ∃ M2, (liM ⟨#[65]⟩ nL ⟨#[98]⟩ nL ⟨#[]⟩).cs = M2 := ⟨_, rfl⟩
      have hl2 : M2.length = 11 := by rw [← hM2]; rfl
      have hz2 : (Try.prog.info? 26).map (·.size) = some M2.length := by rw [hl2]; exact hszM
      have k2 := send_nil (liM ⟨#[65]⟩ nL ⟨#[98]⟩ nL ⟨#[]⟩) (by show (1 : Nat) ≤ 100 ∧ (1 : Nat) ≤ 100; decide) M2 hM2 0 1 (li_fr (show name ⟨#[65]⟩ = false by decide +kernel) _ _ _ _) W9
      rw [hM2] at hm9
      have hr9 := hm9.range
      clear hm8 hM2 hb9
      go_upto_region 20 with fail
      (try rw [hW9])
      clear hW9 y z
      go_wp2_with (first | (refine wpList_load_row rfl _ rfl gm rfl M2 hr9 hundM rfl hz2 ?_) | fail)
      refine k2.mono ?_
      rintro e WA ⟨rfl, hbB⟩
      go_wp2_with fail
      go_ret
      exact ⟨rfl, Below.then hbA hbB⟩
    · have y := (hm8.1 5 (.string ⟨#[98]⟩) rfl).1
      have z := (hm8.1 5 (.string ⟨#[98]⟩) rfl).2
      have hm9 : BlkL gm (liM ⟨#[97]⟩ nL ⟨#[42]⟩ nL ⟨#[]⟩).cs (W8.setCell ⟨gm, 5, none⟩ (.string ⟨#[42]⟩)) := blk_setS hm8 (by show 5 < 11; decide) _
      have hbA := hb9.setCell (p := ⟨gm, 5, none⟩) (by show w.heap.size ≤ gm; exact hgm) (.string ⟨#[42]⟩)
      obtain ⟨W9, hW9⟩ : ∃ W9, W8.setCell ⟨gm, 5, none⟩ (.string ⟨#[42]⟩) = W9 := ⟨_, rfl⟩
      rw [hW9] at hm9 hbA
      obtain ⟨M2, hM2⟩ : ∃ M2, (liM ⟨#[97]⟩ nL ⟨#[42]⟩ nL ⟨#[]⟩).cs = M2 := ⟨_, rfl⟩
      have hl2 : M2.length = 11 := by rw [← hM2]; rfl
      have hz2 : (Try.prog.info? 26).map (·.size) = some M2.length := by rw [hl2]; exact hszM
      have k2 := send_nil (liM ⟨#[97]⟩ nL ⟨#[42]⟩ nL ⟨#[]⟩) (by show (1 : Nat) ≤ 100 ∧ (1 : Nat) ≤ 100; decide) M2 hM2 0 1 (li_to (show name ⟨#[42]⟩ = false by decide +kernel) _ _ _) W9
      rw [hM2] at hm9
      have hr9 := hm9.range
      clear hm8 hM2 hb9
      go_upto_region 20 with fail
      (try rw [hW9])
      clear hW9 y z
      go_wp2_with (first | (refine wpList_load_row rfl _ rfl gm rfl M2 hr9 hundM rfl hz2 ?_) | fail)
      refine k2.mono ?_
      rintro e WA ⟨rfl, hbB⟩
      go_wp2_with fail
      go_ret
      exact ⟨rfl, Below.then hbA hbB⟩
    · have y := (hm8.1 1 (.int .i64 0) rfl).1
      have z := (hm8.1 1 (.int .i64 0) rfl).2
      have hm9 : BlkL gm (liM ⟨#[97]⟩ ⟨3 + (1 + B), 0, 0, 0⟩ ⟨#[98]⟩ nL ⟨#[]⟩).cs (W8.setCell ⟨gm, 1, none⟩ (.int .i64 (3 + (1 + B)))) := blk_setS hm8 (by show 1 < 11; decide) _
      have hbA := hb9.setCell (p := ⟨gm, 1, none⟩) (by show w.heap.size ≤ gm; exact hgm) (.int .i64 (3 + (1 + B)))
      obtain ⟨W9, hW9⟩ : ∃ W9, W8.setCell ⟨gm, 1, none⟩ (.int .i64 (3 + (1 + B))) = W9 := ⟨_, rfl⟩
      rw [hW9] at hm9 hbA
      obtain ⟨M2, hM2⟩ : ∃ M2, (liM ⟨#[97]⟩ ⟨3 + (1 + B), 0, 0, 0⟩ ⟨#[98]⟩ nL ⟨#[]⟩).cs = M2 := ⟨_, rfl⟩
      have hl2 : M2.length = 11 := by rw [← hM2]; rfl
      have hz2 : (Try.prog.info? 26).map (·.size) = some M2.length := by rw [hl2]; exact hszM
      have k2 := send_nil (liM ⟨#[97]⟩ ⟨3 + (1 + B), 0, 0, 0⟩ ⟨#[98]⟩ nL ⟨#[]⟩) (by show (1 : Nat) ≤ 100 ∧ (1 : Nat) ≤ 100; decide) M2 hM2 0 1 (li_lab (chk_sec (by omega)) _ _) W9
      rw [hM2] at hm9
      have hr9 := hm9.range
      clear hm8 hM2 hb9
      go_upto_region 20 with fail
      (try rw [hW9])
      clear hW9 y z
      go_wp2_with (first | (refine wpList_load_row rfl _ rfl gm rfl M2 hr9 hundM rfl hz2 ?_) | fail)
      refine k2.mono ?_
      rintro e WA ⟨rfl, hbB⟩
      go_wp2_with fail
      go_ret
      exact ⟨rfl, Below.then hbA hbB⟩
    · have y := (hm8.1 9 (.int .i64 0) rfl).1
      have z := (hm8.1 9 (.int .i64 0) rfl).2
      have hm9 : BlkL gm (liM ⟨#[97]⟩ nL ⟨#[98]⟩ ⟨0, 0, 0, 255 + (1 + B)⟩ ⟨#[]⟩).cs (W8.setCell ⟨gm, 9, none⟩ (.int .i64 (255 + (1 + B)))) := blk_setS hm8 (by show 9 < 11; decide) _
      have hbA := hb9.setCell (p := ⟨gm, 9, none⟩) (by show w.heap.size ≤ gm; exact hgm) (.int .i64 (255 + (1 + B)))
      obtain ⟨W9, hW9⟩ : ∃ W9, W8.setCell ⟨gm, 9, none⟩ (.int .i64 (255 + (1 + B))) = W9 := ⟨_, rfl⟩
      rw [hW9] at hm9 hbA
      obtain ⟨M2, hM2⟩ : ∃ M2, (liM ⟨#[97]⟩ nL ⟨#[98]⟩ ⟨0, 0, 0, 255 + (1 + B)⟩ ⟨#[]⟩).cs = M2 := ⟨_, rfl⟩
      have hl2 : M2.length = 11 := by rw [← hM2]; rfl
      have hz2 : (Try.prog.info? 26).map (·.size) = some M2.length := by rw [hl2]; exact hszM
      have k2 := send_nil (liM ⟨#[97]⟩ nL ⟨#[98]⟩ ⟨0, 0, 0, 255 + (1 + B)⟩ ⟨#[]⟩) (by show (1 : Nat) ≤ 100 ∧ (1 : Nat) ≤ 100; decide) M2 hM2 0 1 (li_box (chk_ic (by omega)) _) W9
      rw [hM2] at hm9
      have hr9 := hm9.range
      clear hm8 hM2 hb9
      go_upto_region 20 with fail
      (try rw [hW9])
      clear hW9 y z
      go_wp2_with (first | (refine wpList_load_row rfl _ rfl gm rfl M2 hr9 hundM rfl hz2 ?_) | fail)
      refine k2.mono ?_
      rintro e WA ⟨rfl, hbB⟩
      go_wp2_with fail
      go_ret
      exact ⟨rfl, Below.then hbA hbB⟩
    · have y := (hm8.1 5 (.string ⟨#[98]⟩) rfl).1
      have z := (hm8.1 5 (.string ⟨#[98]⟩) rfl).2
      have hm9 : BlkL gm (liM ⟨#[97]⟩ nL ⟨#[97, 98, 99, 100, 101, 102, 103, 104, 105, 106, 107, 108, 109]⟩ nL ⟨#[]⟩).cs (W8.setCell ⟨gm, 5, none⟩ (.string ⟨#[97, 98, 99, 100, 101, 102, 103, 104, 105, 106, 107, 108, 109]⟩)) := blk_setS hm8 (by show 5 < 11; decide) _
      have hbA := hb9.setCell (p := ⟨gm, 5, none⟩) (by show w.heap.size ≤ gm; exact hgm) (.string ⟨#[97, 98, 99, 100, 101, 102, 103, 104, 105, 106, 107, 108, 109]⟩)
      obtain ⟨W9, hW9⟩ : ∃ W9, W8.setCell ⟨gm, 5, none⟩ (.string ⟨#[97, 98, 99, 100, 101, 102, 103, 104, 105, 106, 107, 108, 109]⟩) = W9 := ⟨_, rfl⟩
      rw [hW9] at hm9 hbA
      obtain ⟨M2, hM2⟩ : ∃ M2, (liM ⟨#[97]⟩ nL ⟨#[97, 98, 99, 100, 101, 102, 103, 104, 105, 106, 107, 108, 109]⟩ nL ⟨#[]⟩).cs = M2 := ⟨_, rfl⟩
      have hl2 : M2.length = 11 := by rw [← hM2]; rfl
      have hz2 : (Try.prog.info? 26).map (·.size) = some M2.length := by rw [hl2]; exact hszM
      have k2 := send_nil (liM ⟨#[97]⟩ nL ⟨#[97, 98, 99, 100, 101, 102, 103, 104, 105, 106, 107, 108, 109]⟩ nL ⟨#[]⟩) (by show (1 : Nat) ≤ 100 ∧ (13 : Nat) ≤ 100; decide) M2 hM2 0 1 (li_to (show name ⟨#[97, 98, 99, 100, 101, 102, 103, 104, 105, 106, 107, 108, 109]⟩ = false by decide +kernel) _ _ _) W9
      rw [hM2] at hm9
      have hr9 := hm9.range
      clear hm8 hM2 hb9
      go_upto_region 20 with fail
      (try rw [hW9])
      clear hW9 y z
      go_wp2_with (first | (refine wpList_load_row rfl _ rfl gm rfl M2 hr9 hundM rfl hz2 ?_) | fail)
      refine k2.mono ?_
      rintro e WA ⟨rfl, hbB⟩
      go_wp2_with fail
      go_ret
      exact ⟨rfl, Below.then hbA hbB⟩
end Go.Proofs.Ytjpabjmicaopcaa
