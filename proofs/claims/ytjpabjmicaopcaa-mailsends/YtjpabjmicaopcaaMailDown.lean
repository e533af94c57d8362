/-
  LAW MailDown, walked. Written by mk_maildown.py.
-/
import Derived.Test.YtjpabjmicaopcaaMailFns
import Derived.Deep.RegionHeld
namespace Go.Proofs.Ytjpabjmicaopcaa
open Go.RowKit
set_option maxRecDepth 8000
set_option linter.unusedSimpArgs false
set_option linter.unusedVariables false

theorem name_four : ∀ j : Fin 4, name (chr (97 + j.val)) = true := by decide +kernel
theorem name_mod (k : Int) : name (chr (97 + (k % 4).toNat)) = true := by
  have h1 := Int.emod_nonneg k (by decide : (4 : Int) ≠ 0)
  have h2 := Int.emod_lt_of_pos k (by decide : (0 : Int) < 4)
  exact name_four ⟨(k % 4).toNat, by omega⟩
theorem chk_goodM (l : Lab) : chkL (goodL l) = 0 := by
  have a1 := Int.emod_nonneg l.s (by decide : (4 : Int) ≠ 0)
  have a2 := Int.emod_lt_of_pos l.s (by decide : (0 : Int) < 4)
  have b1 := Int.emod_nonneg l.c (by decide : (256 : Int) ≠ 0)
  have b2 := Int.emod_lt_of_pos l.c (by decide : (0 : Int) < 256)
  have c1 := Int.emod_nonneg l.i (by decide : (4 : Int) ≠ 0)
  have c2 := Int.emod_lt_of_pos l.i (by decide : (0 : Int) < 4)
  have d1 := Int.emod_nonneg l.k (by decide : (256 : Int) ≠ 0)
  have d2 := Int.emod_lt_of_pos l.k (by decide : (0 : Int) < 256)
  unfold chkL okL inB goodL
  simp only []
  rw [if_pos]
  simp
  omega
theorem cutT_sz (t : ByteArray) : (cutT t).size ≤ 40 := by
  unfold cutT
  split
  · rw [ByteArray.size_extract]; omega
  · omega
theorem send_good (X : List MRul) (m : Msg) (k : Int) : sendE X (goodM m k) = if rov (goodL m.box) (goodL m.lab) = true then (1, 0) else if (ruleF X (goodM m k)).isSome = false then (0, 19) else (2, 0) := by
  unfold sendE
  have h := cutT_sz m.text
  rw [if_neg (show ¬ name (goodM m k).fr = false by rw [show (goodM m k).fr = chr (97 + (k % 4).toNat) from rfl, name_mod]; decide), if_neg (show ¬ name (goodM m k).rc = false by rw [show (goodM m k).rc = chr (97 + (k.tdiv 4 % 4).toNat) from rfl, name_mod]; decide),
    if_neg (show ¬ chkL (goodM m k).lab ≠ 0 by rw [show (goodM m k).lab = goodL m.lab from rfl, chk_goodM]; decide), if_neg (show ¬ chkL (goodM m k).box ≠ 0 by rw [show (goodM m k).box = goodL m.box from rfl, chk_goodM]; decide), if_neg (show ¬ 40 < (goodM m k).text.size by show ¬ 40 < (cutT m.text).size; omega)]
  rfl
theorem rulesM_len (r : List MRul) (m : Msg) (k : Int) : (rulesM r m k).length ≤ 8 := by
  unfold rulesM
  rw [rules_len, List.length_take]
  omega
theorem good_sz (m : Msg) (k : Int) : (goodM m k).fr.size ≤ 9223372036854775807 ∧ (goodM m k).rc.size ≤ 9223372036854775807 := ⟨by show (1 : Nat) ≤ _; decide, by show (1 : Nat) ≤ _; decide⟩
theorem ruleF_some {r : List MRul} {m : Msg} {x : MRul} (h : ruleF r m = some x) : labEq x.src m.lab = true ∧ labEq x.dst m.box = true := by
  have h1 := List.find?_some h
  unfold ruleP at h1
  simpa using h1
set_option maxRecDepth 8000 in
set_option maxHeartbeats 8000000 in
theorem mailDown_walk (a : Option Addr) (cap : Nat) (l : List MRul) (m : Msg) (k : Int) (hk : -9223372036854775808 ≤ k ∧ k ≤ 9223372036854775807) (hl : l.length ≤ 1000000000000000) (w : World) (h : RowAt 9 MRul.cs w a l) :
    Calls Try.prog 4 #[.slice a l.length cap, .agg m.cs.toArray, .int .i64 k] w fun e w' => e = .returned (.bool true) ∧ Below w.heap.size w w' := by
  have hundL := Try.underlying24
  have hundM := Try.underlying26
  have hundR := Try.underlying29
  have hszL : ∀ t : Lab, (Try.prog.info? 24).map (·.size) = some (lab4 t).length := fun t => by show _ = some 4; kernel_rfl
  have hszM : (Try.prog.info? 26).map (·.size) = some 11 := by kernel_rfl
  have hsz9 : (Try.prog.info? 29).map (·.size) = some 9 := by kernel_rfl
  have hm0 := blkl_alloc w m.cs.toArray 26
  have hB0 := alloc_below w (.cells m.cs.toArray 26)
  have kgd := fun W => mgood_any m k hk W
  have hsg := fun X => send_good X m k
  have hgs := good_sz m k
  have hgt : (goodM m k).text.size ≤ 40 := cutT_sz m.text
  obtain ⟨G, hGe⟩ : ∃ G, goodM m k = G := ⟨_, rfl⟩
  have hgb : rov G.box G.lab = rov (goodL m.box) (goodL m.lab) := by rw [← hGe]; rfl
  simp only [hGe] at kgd hsg
  rw [hGe] at hgs hgt
  simp only [← hgb] at hsg
  clear hgb hGe
  have krl := fun (q : Int) W (hr : RowAt 9 MRul.cs W a l) => mrules_any a cap l G q hl W hr
  have kwB : ∀ W, Calls Try.prog 11 #[.int .i64 k, .int .i64 9] W fun e w' => e = .returned (.int .i64 (k % 9)) ∧ Below W.heap.size W w' := fun W => (w18_any k 9 (by decide) (by decide) W).mono (by rintro e w' ⟨rfl, rfl⟩; exact ⟨rfl, Below.refl _ _⟩)
  obtain ⟨q, hq⟩ : ∃ q, k % 9 = q := ⟨_, rfl⟩
  simp only [hq] at kwB
  replace krl := krl q
  have hXl := rulesM_len l G q
  obtain ⟨X, hXe⟩ : ∃ X, rulesM l G q = X := ⟨_, rfl⟩
  rw [hXe] at hXl
  simp only [hXe] at krl
  clear hXe hq
  obtain ⟨M, hM⟩ : ∃ M, m.cs = M := ⟨_, rfl⟩
  have hlM : M.length = 11 := by rw [← hM]; rfl
  replace hm0 : BlkL w.heap.size M (w.alloc (.cells M.toArray 26)) := by rw [← hM]; exact hm0
  rw [hM] at hB0 ⊢
  simp only [hM] at kgd
  clear hM
  obtain ⟨gs, hgc⟩ : ∃ gs, G.cs = gs := ⟨_, rfl⟩
  have hlg : gs.length = 11 := by rw [← hgc]; rfl
  have hgo : ∀ v ∈ gs, v.oneCell' = true := by rw [← hgc]; exact ms_one G
  have hszg : (Try.prog.info? 26).map (·.size) = some gs.length := by rw [hlg]; exact hszM
  have hszMM : (Try.prog.info? 26).map (·.size) = some M.length := by rw [hlM]; exact hszM
  have hgl := fun (b : Nat) (W : World) (p : BlkL b gs W) => by rw [← hgc] at p; exact cells_blk p 1 (ms_lab G)
  have hgx := fun (b : Nat) (W : World) (p : BlkL b gs W) => by rw [← hgc] at p; exact cells_blk p 6 (ms_box G)
  simp only [hgc] at kgd krl
  obtain ⟨n, hn⟩ : ∃ n, l.length = n := ⟨_, rfl⟩
  simp only [hn] at krl ⊢
  clear hn
  go_enter Try.func4, Try.ntmps4
  go_upto_region 1 with fail
  generalize w.alloc (.cells M.toArray 26) = W0 at *
  go_wp2_with fail
  refine (mknown_any W0).mono ?_
  rintro e W1 ⟨rfl, hb1⟩
  have hm1 := stab_blk _ _ _ _ hm0 hb1
  have hr1 := hm1.range
  have hB1 := Below.then hB0 hb1
  go_wp2_with (first | (refine wpList_load_row rfl _ rfl w.heap.size rfl M hr1 hundM rfl hszMM ?_) | fail)
  refine (kgd W1).mono ?_
  rintro e W2 ⟨rfl, hb2⟩
  have hm2 := stab_blk _ _ _ _ hm1 hb2
  obtain ⟨W3, hW3, hth3, hm3, hk3⟩ := mput_any hm2 (ds := gs) (by rw [hlM, hlg]) (by rw [hlg]; decide)
  have hB3 : Below w.heap.size w W3 := hk3 _ _ (Nat.le_refl _) (Below.then hB1 hb2)
  have hrow3 : RowAt 9 MRul.cs W3 a l := h.below mr_len hB3
  clear hm0 hm1 hm2 hr1 hb1 hb2 hB1 hB0 kgd hk3
  go_upto_region 4 with (first | (refine wpList_store_row rfl _ _ rfl w.heap.size rfl gs rfl hth3 hszg hgo hW3 ?_) | fail)
  clear hth3 hW3
  obtain ⟨Z, hZ⟩ : ∃ Z, W3 = Z := ⟨_, rfl⟩
  rw [hZ] at hm3 hrow3 hB3 ⊢
  clear hZ
  have hS0 : Below Z.heap.size Z Z.drew := (Below.refl _ _).drew
  have krz := fun W (hW : Below Z.heap.size Z W) => krl W (hrow3.below mr_len hW)
  refine wp_region_held_drew (S := (fun W => Below Z.heap.size Z W)) (by kernel_rfl) (by exact hS0) ?_
  intro hHeld
  generalize Z.drew = w0 at *
  refine wpAnyH_take (i := 0) (v := ?_) (by simp only [List.getElem?_toArray, List.getElem?_cons_zero, List.getElem?_cons_succ]; rfl) (by kernel_rfl) (by kernel_rfl) (by kernel_rfl) (by exact fun _ _ _ h => h) (Or.inl ⟨by rfl, ?_⟩) (by assumption) ?_; rotate_left; (focus (intro w hSw; (try dsimp only at hSw); go_simp; try with_reducible rfl)); (try simp only [Act.put, List.setIfInBounds_toArray, List.set_cons_zero, List.set_cons_succ])
  refine wpAnyH_take (i := 1) (v := _) (by simp only [List.getElem?_toArray, List.getElem?_cons_zero, List.getElem?_cons_succ]; rfl) (by kernel_rfl) (by kernel_rfl) (by kernel_rfl) (by exact fun _ _ _ h => h) (yields_row (by rfl) _ rfl w.heap.size rfl gs (fun _ q => BlkL.range (stab_blk _ _ _ _ hm3 q)) hundM rfl hszg) (by assumption) ?_; (try simp only [Act.put, List.setIfInBounds_toArray, List.set_cons_zero, List.set_cons_succ])
  refine wpAnyH_take (i := 2) (v := ?_) (by simp only [List.getElem?_toArray, List.getElem?_cons_zero, List.getElem?_cons_succ]; rfl) (by kernel_rfl) (by kernel_rfl) (by kernel_rfl) (by exact fun _ _ _ h => h) (Or.inl ⟨by rfl, ?_⟩) (by assumption) ?_; rotate_left; (focus (intro w hSw; (try dsimp only at hSw); go_simp; try with_reducible rfl)); (try simp only [Act.put, List.setIfInBounds_toArray, List.set_cons_zero, List.set_cons_succ])
  refine wpAnyH_ready (rs := [3]) (by kernel_rfl) (by simp) ?_
  refine AllReadyH.cons (by simp only [List.getElem?_toArray, List.getElem?_cons_zero, List.getElem?_cons_succ]; rfl) (fun K hK => ?_) AllReadyH.nil
  go_simp
  go_at_call 11
  refine (kwB w0).mono ?_
  rintro e w1 ⟨rfl, hb⟩
  have hS1 := Below.then hS0 hb
  clear hb
  refine hK.out _ _ (by exact hS1) ?_
  clear hHeld hK
  intro hHeld
  (try simp only [Act.put, List.setIfInBounds_toArray, List.set_cons_zero, List.set_cons_succ])
  refine wpAnyH_ready (rs := [4]) (by kernel_rfl) (by simp) ?_
  refine AllReadyH.cons (by simp only [List.getElem?_toArray, List.getElem?_cons_zero, List.getElem?_cons_succ]; rfl) (fun K hK => ?_) AllReadyH.nil
  go_simp
  go_at_call 10
  refine (krz w1 hS1).mono ?_
  rintro e w2 ⟨v, rfl, hov, hb⟩
  have hS2 := Below.then hS1 hb
  obtain ⟨va, vc, rfl, -, -, hX⟩ := hov.slice mr_len
  clear hov
  clear hb
  refine hK.out _ _ (by exact hS2) ?_
  clear hHeld hK
  intro hHeld
  (try simp only [Act.put, List.setIfInBounds_toArray, List.set_cons_zero, List.set_cons_succ])
  refine wpAnyH_take (i := 5) (v := ?_) (by simp only [List.getElem?_toArray, List.getElem?_cons_zero, List.getElem?_cons_succ]; rfl) (by kernel_rfl) (by kernel_rfl) (by kernel_rfl) (by exact fun _ _ _ h => h) (Or.inl ⟨by rfl, ?_⟩) (by assumption) ?_; rotate_left; (focus (intro w hSw; (try dsimp only at hSw); go_simp; try with_reducible rfl)); (try simp only [Act.put, List.setIfInBounds_toArray, List.set_cons_zero, List.set_cons_succ])
  refine wpAnyH_done (by kernel_rfl) ?_ _
  obtain ⟨U, hU⟩ : ∃ U, w2 = U := ⟨_, rfl⟩
  rw [hU] at hS2 hX ⊢
  have hmU := stab_blk _ _ _ _ hm3 hS2
  have hBU := Below.then hB3 hS2
  clear hU krz krl hS0 hS1 hm3 hB3 hrow3 kwB hS2
  have hru := hmU.range
  have ksd := psend_any va vc X G (by omega) hgs U hX
  rw [hsg X, hgc] at ksd
  obtain ⟨nx, hnx⟩ : ∃ nx, X.length = nx := ⟨_, rfl⟩
  rw [hnx] at ksd ⊢
  obtain ⟨S, hSe⟩ : ∃ S : Int × Int, (if rov G.box G.lab = true then (1, 0) else if (ruleF X G).isSome = false then (0, 19) else (2, 0)) = S := ⟨_, rfl⟩
  rw [hSe] at ksd
  replace hSe : Aside ((if rov G.box G.lab = true then ((1 : Int), (0 : Int)) else if (ruleF X G).isSome = false then (0, 19) else (2, 0)) = S) := hSe
  clear hsg
  go_wp2_with (first | (refine wpList_load_row rfl _ rfl w.heap.size rfl gs hru hundM rfl hszg ?_) | fail)
  refine ksd.mono ?_
  rintro e W5 ⟨rfl, hb5⟩
  have hm5 := stab_blk _ _ _ _ hmU hb5
  have hX5 := hX.below mr_len hb5
  have hB5 := Below.then hBU hb5
  have hla5 := hgl _ _ hm5
  have hbo5 := hgx _ _ hm5
  have kov : ∀ W, Calls Try.prog 19 #[.agg (lab4 G.box).toArray, .agg (lab4 G.lab).toArray] W fun e w' => e = .returned (.bool (rov G.box G.lab)) ∧ Below W.heap.size W w' := fun W => rlover_any G.box G.lab W
  obtain ⟨ov, hov⟩ : ∃ ov, rov G.box G.lab = ov := ⟨_, rfl⟩
  rw [hov] at hSe
  simp only [hov] at kov
  clear ksd hmU hX hBU hru hov
  go_upto_region 6 with fail
  go_wp2_with (first | (refine wpList_load_at rfl _ rfl ⟨w.heap.size, 6, none⟩ rfl (lab4 G.box) hbo5 hundL rfl (hszL G.box) ?_) | (refine wpList_load_at rfl _ rfl ⟨w.heap.size, 1, none⟩ rfl (lab4 G.lab) hla5 hundL rfl (hszL G.lab) ?_) | fail)
  refine (kov W5).mono ?_
  rintro e W6 ⟨rfl, hb6⟩
  have hm6 := stab_blk _ _ _ _ hm5 hb6
  have hX6 := hX5.below mr_len hb6
  have hB6 := Below.then hB5 hb6
  have hr6 := hm6.range
  have krr := prule_any va vc X G (by omega) W6 hX6
  rw [hgc, hnx] at krr
  obtain ⟨o, ho⟩ : ∃ o, ruleF X G = o := ⟨_, rfl⟩
  rw [ho] at krr hSe
  clear hm5 hX5 hB5 hla5 hbo5 kov
  go_upto_region 7 with fail
  go_wp2_with (first | (refine wpList_load_row rfl _ rfl w.heap.size rfl gs hr6 hundM rfl hszg ?_) | fail)
  refine krr.mono ?_
  rintro e W7 ⟨rfl, hb7⟩
  obtain ⟨xs, hxs⟩ : ∃ xs, foundRu o = xs := ⟨_, rfl⟩
  have hlx : xs.length = 9 := by rw [← hxs]; rfl
  have hxo : ∀ v ∈ xs, v.oneCell' = true := by rw [← hxs]; exact mr_one _
  rw [hxs]
  replace hxs : Aside (foundRu o = xs) := hxs
  obtain ⟨W8, hW8, hth8, hb8, hB8⟩ := put_new W7 zR9 29 xs (by rw [hlx]; rfl) (by rw [hlx]; decide)
  have hszx : (Try.prog.info? 29).map (·.size) = some xs.length := by rw [hlx]; exact hsz9
  have hb78 := Below.then hb7 hB8
  have hm8 := stab_blk _ _ _ _ hm6 hb78
  have hX8 := hX6.below mr_len hb78
  have hBf := Below.then hB6 hb78
  clear hm6 hX6 hB6 hr6 krr hb7 hB8 hb78
  go_upto_region 8 with (first | (refine wpList_store_row rfl _ _ rfl W7.heap.size rfl xs rfl hth8 hszx hxo hW8 ?_) | fail)
  clear hth8 hW8
  generalize W7.heap.size = gx at *
  cases ov
  case true =>
    have hS1 := hSe.out
    rw [if_pos rfl] at hS1
    subst hS1
    clear hb8
    go_wp2_with fail
    go_ret
    exact ⟨rfl, hBf⟩
  case false =>
  cases o with
  | some x =>
    have hS1 := hSe.out
    rw [if_neg (by decide), if_neg (show ¬ (some x).isSome = false by simp)] at hS1
    subst hS1
    obtain ⟨e1, e2⟩ := ruleF_some ho
    rw [labEq_iff] at e1 e2
    have hx1 : CellsAt W8 ⟨gx, 0, none⟩ (lab4 G.lab) := by
      rw [← hxs.out] at hb8
      have := cells_blk hb8 0 (mr_src x)
      rw [e1] at this
      exact this
    have hx2 : CellsAt W8 ⟨gx, 4, none⟩ (lab4 G.box) := by
      rw [← hxs.out] at hb8
      have := cells_blk hb8 4 (mr_dst x)
      rw [e2] at this
      exact this
    have hg1 := hgl _ _ hm8
    have hg2 := hgx _ _ hm8
    have f1 := lab_eqlM G.lab G.lab
    have f2 := lab_eqlM G.box G.box
    rw [show labEq G.lab G.lab = true from (labEq_iff _ _).2 rfl] at f1
    rw [show labEq G.box G.box = true from (labEq_iff _ _).2 rfl] at f2
    clear hb8 hm8 hX8 ho e1 e2 hSe
    go_wp2_with (first | (refine wpList_load_atg (by rfl) _ rfl ⟨gx, 0, none⟩ rfl (lab4 G.lab) hx1 hundL rfl (hszL G.lab) ?_) | (refine wpList_load_atg (by rfl) _ rfl ⟨gx, 4, none⟩ rfl (lab4 G.box) hx2 hundL rfl (hszL G.box) ?_) | (refine wpList_load_atg (by rfl) _ rfl ⟨w.heap.size, 1, none⟩ rfl (lab4 G.lab) hg1 hundL rfl (hszL G.lab) ?_) | (refine wpList_load_atg (by rfl) _ rfl ⟨w.heap.size, 6, none⟩ rfl (lab4 G.box) hg2 hundL rfl (hszL G.box) ?_) | fail)
    go_ret
    exact ⟨rfl, hBf⟩
  | none =>
    have hS1 := hSe.out
    rw [if_neg (by decide), if_pos (show (none : Option MRul).isSome = false from rfl)] at hS1
    subst hS1
    have hr8 := hm8.range
    have krl2 := prelease_any va vc X G (by omega) W8 (fun x hx => by rw [ho] at hx; cases hx) hX8
    rw [hgc, hnx, show relE X G = 19 by unfold relE; rw [ho]] at krl2
    clear hb8 hm8 hX8 ho hSe
    go_wp2_with (first | (refine wpList_load_rowg (by rfl) _ rfl w.heap.size rfl gs hr8 hundM rfl hszg ?_) | fail)
    refine krl2.mono ?_
    rintro e W9 ⟨rfl, hb9⟩
    have hfin := Below.then hBf hb9
    go_wp2_with fail
    go_ret
    exact ⟨rfl, hfin⟩
end Go.Proofs.Ytjpabjmicaopcaa
