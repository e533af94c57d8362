/-
  LAW MailSends, walked. Written by mk_maildown.py.
-/
import Derived.Test.YtjpabjmicaopcaaMailDown
namespace Go.Proofs.Ytjpabjmicaopcaa
open Go.RowKit
set_option maxRecDepth 8000
set_option linter.unusedSimpArgs false
set_option linter.unusedVariables false

theorem run_neq_rule (x : MRul) (w : World) : (binOp .neq 29 (.agg x.cs.toArray) (.agg x.cs.toArray)).run Try.prog w = .ok (.bool false) w := by
  have h1 := Try.underlying29
  have h2 := Try.underlying24
  unfold MRul.cs
  go_simp
theorem rulesK_word (m : Msg) (k : Int) : ∀ (l : List MRul) (i : Nat), ∀ x ∈ rulesK m k i l, ∃ y ∈ l, x.word = y.word
  | [], _, x, hx => by cases hx
  | y :: t, i, x, hx => by
    rw [rulesK] at hx
    rcases List.mem_cons.1 hx with rfl | hx
    · refine ⟨y, List.mem_cons_self, ?_⟩
      unfold ruleI
      split <;> rfl
    · obtain ⟨z, hz, e⟩ := rulesK_word m k t (i + 1) x hx
      exact ⟨z, List.mem_cons_of_mem _ hz, e⟩
theorem rulesM_word (r : List MRul) (m : Msg) (k : Int) {B : Nat} (h : ∀ y ∈ r, y.word.size ≤ B) : ∀ x ∈ rulesM r m k, x.word.size ≤ B := fun x hx => by
  obtain ⟨y, hy, e⟩ := rulesK_word m k _ 0 x hx
  rw [e]
  exact h y (List.mem_of_mem_take hy)
/-- A message whose texts are short. -/
def Small (m : Msg) : Prop := m.fr.size ≤ 500 ∧ m.rc.size ≤ 500 ∧ m.text.size ≤ 500
theorem small_good (m : Msg) (k : Int) : Small (goodM m k) := ⟨by show (1 : Nat) ≤ 500; decide, by show (1 : Nat) ≤ 500; decide, Nat.le_trans (cutT_sz m.text) (by decide)⟩
set_option maxRecDepth 8000 in
set_option maxHeartbeats 8000000 in
theorem mailSends_walk (a : Option Addr) (cap : Nat) (l : List MRul) (m : Msg) (k : Int) (hk : -9223372036854775808 ≤ k ∧ k ≤ 9223372036854775807) (hl : l.length ≤ 1000000000000000) (hsz : m.fr.size ≤ 1000000000000000 ∧ m.rc.size ≤ 1000000000000000 ∧ m.text.size ≤ 1000000000000000) (w : World) (hLen : LenV w) (h : RowAt 9 MRul.cs w a l) :
    Calls Try.prog 3 #[.slice a l.length cap, .agg m.cs.toArray, .int .i64 k] w fun e w' => e = .returned (.bool true) ∧ Below w.heap.size w w' := by
  have hundM := Try.underlying26
  have hundR := Try.underlying29
  have hszM : (Try.prog.info? 26).map (·.size) = some 11 := by kernel_rfl
  have hsz9 : (Try.prog.info? 29).map (·.size) = some 9 := by kernel_rfl
  have hm0 := blkl_alloc w m.cs.toArray 26
  have hB0 := alloc_below w (.cells m.cs.toArray 26)
  have kwB : ∀ W, Calls Try.prog 11 #[.int .i64 k, .int .i64 9] W fun e w' => e = .returned (.int .i64 (k % 9)) ∧ Below W.heap.size W w' := fun W => (w18_any k 9 (by decide) (by decide) W).mono (by rintro e w' ⟨rfl, rfl⟩; exact ⟨rfl, Below.refl _ _⟩)
  obtain ⟨q, hq⟩ : ∃ q, k % 9 = q := ⟨_, rfl⟩
  simp only [hq] at kwB
  clear hq
  have krl := fun (G : Msg) W (hr : RowAt 9 MRul.cs W a l) => mrules_any a cap l G q hl W hr
  have kgd := fun (G : Msg) W => mgood_any G k hk W
  have hx0 : m.cs[0]? = some (.string m.fr) := rfl
  have hx5 : m.cs[5]? = some (.string m.rc) := rfl
  have hx10 : m.cs[10]? = some (.string m.text) := rfl
  have hrow := h.below mr_len hB0
  obtain ⟨n, hn⟩ : ∃ n, l.length = n := ⟨_, rfl⟩
  simp only [hn] at krl ⊢
  replace hn : Aside (l.length = n) := hn
  obtain ⟨M, hM⟩ : ∃ M, m.cs = M := ⟨_, rfl⟩
  replace hm0 : BlkL w.heap.size M (w.alloc (.cells M.toArray 26)) := by rw [← hM]; exact hm0
  rw [hM] at hB0 hx0 hx5 hx10 hrow ⊢
  replace hM : Aside (m.cs = M) := hM
  go_enter Try.func3, Try.ntmps3
  go_upto_region 1 with fail
  generalize w.alloc (.cells M.toArray 26) = W0 at *
  go_wp2_with fail
  refine (mknown_any W0).mono ?_
  rintro e W1 ⟨rfl, hb1⟩
  have hm1 := stab_blk _ _ _ _ hm0 hb1
  have hB1 := Below.then hB0 hb1
  have hrow1 := hrow.below mr_len hb1
  have y0 := (hm1.1 0 _ hx0).1
  have y5 := (hm1.1 5 _ hx5).1
  have y10 := (hm1.1 10 _ hx10).1
  obtain ⟨s1, hs1⟩ : ∃ s, m.fr.size = s := ⟨_, rfl⟩
  obtain ⟨s2, hs2⟩ : ∃ s, m.rc.size = s := ⟨_, rfl⟩
  obtain ⟨s3, hs3⟩ : ∃ s, m.text.size = s := ⟨_, rfl⟩
  rw [hs1, hs2, hs3] at hsz
  have wa : IntKind.i64.wrap ((s1 : Int) + (s2 : Int)) = (s1 : Int) + (s2 : Int) := Go.IntWalk.i64_in _ (by omega)
  have wb : IntKind.i64.wrap ((s1 : Int) + (s2 : Int) + (s3 : Int)) = (s1 : Int) + (s2 : Int) + (s3 : Int) := Go.IntWalk.i64_in _ (by omega)
  clear hm0 hB0 hrow hb1 hx0 hx5 hx10
  by_cases hlong : 500 < s1 + s2 + s3
  · have i1 : (500 : Int) < (s1 : Int) + (s2 : Int) + (s3 : Int) := by omega
    clear krl kgd kwB
    go_wp2_with fail
    go_ret
    exact ⟨rfl, hB1⟩
  have i1 : ¬ (500 : Int) < (s1 : Int) + (s2 : Int) + (s3 : Int) := by omega
  by_cases hn20 : 20 < n
  · have i2 : (20 : Int) < (n : Int) := by omega
    clear krl kgd kwB
    go_wp2_with fail
    go_ret
    exact ⟨rfl, hB1⟩
  have i2 : ¬ (20 : Int) < (n : Int) := by omega
  have hsm : Small m := ⟨by omega, by omega, by omega⟩
  go_upto_region 5 with fail
  go_wp2_with fail
  go_loopw [7] (fun t7 wr => ∃ i : Nat, i ≤ n ∧ t7 = .int .i64 (i : Int) ∧ (∀ x ∈ l.take i, x.word.size ≤ 100) ∧ wr = W1) (fun t7 _ => n - (Go.RowKit.intOf t7).toNat)
  case atStart => exact ⟨0, by omega, rfl, fun x hx => by simp at hx, rfl⟩
  case round =>
  obtain ⟨i, hi, rfl, hws, hwr⟩ := hrel
  subst hwr
  by_cases hin : i < n
  · obtain ⟨x, hx⟩ : ∃ x, l[i]? = some x := ⟨_, List.getElem?_eq_getElem (by rw [hn.out]; exact hin)⟩
    obtain ⟨y, rfl, -⟩ := hrow1 i x hx
    have hw := hrow1.at mr_len hx
    have q8 : wr.cell? ⟨(y.add (i * 9)).block, (y.add (i * 9)).off + 8, none⟩ = some (.string x.word) := str_cells hw (by decide) (show x.cs[8]? = some (.string x.word) from rfl)
    have j1 : (i : Int) < (n : Int) := by omega
    have hnx : ∀ z ∈ l.take (i + 1), z = x ∨ z ∈ l.take i := fun z hz => by
      rw [List.take_add_one, hx] at hz
      rcases List.mem_append.1 hz with hz | hz
      · exact .inr hz
      · exact .inl (by simpa using hz)
    clear hw krl kgd kwB hx wa wb i1 i2
    by_cases hwx : 100 < x.word.size
    · have j2 : (100 : Int) < (x.word.size : Int) := by omega
      go_wp2_with fail
      go_ret
      exact ⟨rfl, hB1⟩
    · have j2 : ¬ (100 : Int) < (x.word.size : Int) := by omega
      go_wp2_with fail
      exact ⟨⟨i + 1, by omega, by simp, fun z hz => (hnx z hz).elim (fun e => by rw [e]; omega) (hws z), trivial⟩, by simp [Go.RowKit.intOf]; omega⟩
  have j1 : ¬ (i : Int) < (n : Int) := by omega
  rw [List.take_of_length_le (by rw [hn.out]; omega)] at hws
  clear y0 y5 y10 wa wb i1 i2 hs1 hs2 hs3 hlong hsz
  go_upto_region 10 with fail
  go_wp2_with fail
  obtain ⟨V, hV⟩ : ∃ V, wr = V := ⟨_, rfl⟩
  rw [hV] at hm1 hB1 hrow1 ⊢
  clear hV
  go_loopw [8] (fun t8 wr => ∃ (j : Nat) (G : Msg), j ≤ 2 ∧ t8 = .int .i64 (j : Int) ∧ Small G ∧ BlkL w.heap.size G.cs wr ∧ Below w.heap.size w wr) (fun t8 _ => 2 - (Go.RowKit.intOf t8).toNat)
  case atStart => exact ⟨0, m, by omega, rfl, hsm, by rw [hM.out]; exact hm1, hB1⟩
  case round =>
  clear hm1 hB1 hsm hrow1
  obtain ⟨j, G, hj, rfl, hsG, hmG, hBG⟩ := hrel
  by_cases hj2 : j < 2
  case neg =>
    have j3 : ¬ (j : Int) < 2 := by omega
    clear krl kgd kwB
    go_wp2_with fail
    go_ret
    exact ⟨rfl, hBG⟩
  case pos =>
  have j3 : (j : Int) < 2 := by omega
  have krz0 := krl G
  have kgz := kgd G
  have hXl := rulesM_len l G q
  have hXw := rulesM_word l G q hws
  obtain ⟨X, hXe⟩ : ∃ X, rulesM l G q = X := ⟨_, rfl⟩
  rw [hXe] at hXl hXw
  simp only [hXe] at krz0
  have hsH := small_good G k
  obtain ⟨H, hHe⟩ : ∃ H, goodM G k = H := ⟨_, rfl⟩
  rw [hHe] at hsH
  simp only [hHe] at kgz
  clear hXe hHe krl kgd
  obtain ⟨gs, hgc⟩ : ∃ gs, G.cs = gs := ⟨_, rfl⟩
  have hlg : gs.length = 11 := by rw [← hgc]; rfl
  have hszg : (Try.prog.info? 26).map (·.size) = some gs.length := by rw [hlg]; exact hszM
  rw [hgc] at hmG
  simp only [hgc] at krz0 kgz
  go_upto_region 13 with fail
  obtain ⟨Z, hZ⟩ : ∃ Z, wr = Z := ⟨_, rfl⟩
  rw [hZ] at hmG hBG ⊢
  clear hZ
  have hS0 : Below Z.heap.size Z Z.drew := (Below.refl _ _).drew
  have krz := fun W (hW : Below Z.heap.size Z W) => krz0 W (h.below mr_len (Below.then hBG hW))
  refine wp_region_held_drew (S := (fun W => Below Z.heap.size Z W)) (by kernel_rfl) (by exact hS0) ?_
  intro hHeld
  generalize Z.drew = w0 at *
  refine wpAnyH_take (i := 0) (v := ?_) (by simp only [List.getElem?_toArray, List.getElem?_cons_zero, List.getElem?_cons_succ]; rfl) (by kernel_rfl) (by kernel_rfl) (by kernel_rfl) (by exact fun _ _ _ h => h) (Or.inl ⟨by rfl, ?_⟩) (by assumption) ?_; rotate_left; (focus (intro w hSw; (try dsimp only at hSw); go_simp; try with_reducible rfl)); (try simp only [Act.put, List.setIfInBounds_toArray, List.set_cons_zero, List.set_cons_succ])
  refine wpAnyH_take (i := 1) (v := _) (by simp only [List.getElem?_toArray, List.getElem?_cons_zero, List.getElem?_cons_succ]; rfl) (by kernel_rfl) (by kernel_rfl) (by kernel_rfl) (by exact fun _ _ _ h => h) (yields_row (by rfl) _ rfl w.heap.size rfl gs (fun _ q => BlkL.range (stab_blk _ _ _ _ hmG q)) hundM rfl hszg) (by assumption) ?_; (try simp only [Act.put, List.setIfInBounds_toArray, List.set_cons_zero, List.set_cons_succ])
  refine wpAnyH_take (i := 2) (v := ?_) (by simp only [List.getElem?_toArray, List.getElem?_cons_zero, List.getElem?_cons_succ]; rfl) (by kernel_rfl) (by kernel_rfl) (by kernel_rfl) (by exact fun _ _ _ h => h) (Or.inl ⟨by rfl, ?_⟩) (by assumption) ?_; rotate_left; (focus (intro w hSw; (try dsimp only at hSw); go_simp; try with_reducible rfl)); (try simp only [Act.put, List.setIfInBounds_toArray, List.set_cons_zero, List.set_cons_succ])
  refine wpAnyH_ready (rs := [3]) (by kernel_rfl) (by simp) ?_
  refine AllReadyH.cons (by simp only [List.getElem?_toArray, List.getElem?_cons_zero, List.getElem?_cons_succ]; rfl) (fun K hK => ?_) AllReadyH.nil
  go_simp
  go_at_call 11
  refine (kwB w0).mono ?_
  rintro e w1 ⟨rfl, hb⟩
  have hS1 := Below.then hS0 hb
  clear hb
  refine hK.out _ _ (by exact hS1) ?_
  clear hHeld hK
  intro hHeld
  (try simp only [Act.put, List.setIfInBounds_toArray, List.set_cons_zero, List.set_cons_succ])
  refine wpAnyH_ready (rs := [4]) (by kernel_rfl) (by simp) ?_
  refine AllReadyH.cons (by simp only [List.getElem?_toArray, List.getElem?_cons_zero, List.getElem?_cons_succ]; rfl) (fun K hK => ?_) AllReadyH.nil
  go_simp
  go_at_call 10
  refine (krz w1 hS1).mono ?_
  rintro e w2 ⟨v, rfl, hov, hb⟩
  have hS2 := Below.then hS1 hb
  obtain ⟨va, vc, rfl, -, -, hX⟩ := hov.slice mr_len
  clear hov
  clear hb
  refine hK.out _ _ (by exact hS2) ?_
  clear hHeld hK
  intro hHeld
  (try simp only [Act.put, List.setIfInBounds_toArray, List.set_cons_zero, List.set_cons_succ])
  refine wpAnyH_take (i := 5) (v := ?_) (by simp only [List.getElem?_toArray, List.getElem?_cons_zero, List.getElem?_cons_succ]; rfl) (by kernel_rfl) (by kernel_rfl) (by kernel_rfl) (by exact fun _ _ _ h => h) (Or.inl ⟨by rfl, ?_⟩) (by assumption) ?_; rotate_left; (focus (intro w hSw; (try dsimp only at hSw); go_simp; try with_reducible rfl)); (try simp only [Act.put, List.setIfInBounds_toArray, List.set_cons_zero, List.set_cons_succ])
  refine wpAnyH_done (by kernel_rfl) ?_ _
  obtain ⟨U, hU⟩ : ∃ U, w2 = U := ⟨_, rfl⟩
  rw [hU] at hS2 hX ⊢
  have hmU := stab_blk _ _ _ _ hmG hS2
  have hBU := Below.then hBG hS2
  clear hU krz krz0 hS0 hS1 hmG hBG kwB hS2
  obtain ⟨nx, hnx⟩ : ∃ nx, X.length = nx := ⟨_, rfl⟩
  have hwX : ∀ x, ruleF X G = some x → x.word.size ≤ 1000000000000 := fun x hx => Nat.le_trans (hXw x (List.mem_of_find?_eq_some hx)) (by decide)
  have hl8 : X.length ≤ 1000000 := by omega
  have ks1 := fun W hW => psend_any va vc X G hl8 ⟨by have := hsG.1; omega, by have := hsG.2.1; omega⟩ W hW
  have ks2 := fun W hW => rsend_any va vc X G hl8 ⟨by have := hsG.1; omega, by have := hsG.2.1; omega⟩ W hW
  have kr1 := fun W hW => prule_any va vc X G hl8 W hW
  have kr2 := fun W hW => rrule_any va vc X G hl8 W hW
  have kl1 := fun W (hVW : LenV W) hW => prelease_any va vc X G hl8 W (fun x hx => ⟨by have := hsG.2.2; omega, hVW⟩) hW
  have kl2 := fun W hW => rrelease_any va vc X G hl8 (by have := hsG.2.2; omega) hwX W hW
  obtain ⟨S, hS⟩ : ∃ S, sendE X G = S := ⟨_, rfl⟩
  obtain ⟨o, ho⟩ : ∃ o, ruleF X G = o := ⟨_, rfl⟩
  obtain ⟨R, hR⟩ : ∃ R, relE X G = R := ⟨_, rfl⟩
  simp only [hS, hgc, hnx] at ks1 ks2
  simp only [ho, hgc, hnx] at kr1 kr2
  simp only [hR, hgc, hnx] at kl1 kl2
  rw [hnx]
  clear hS ho hR hnx hwX hXw hXl hl8 hsG
  have hru := hmU.range
  go_wp2_with (first | (refine wpList_load_row rfl _ rfl w.heap.size rfl gs hru hundM rfl hszg ?_) | fail)
  refine (ks1 U hX).mono ?_
  rintro e U1 ⟨rfl, hb1⟩
  have hm1 := stab_blk _ _ _ _ hmU hb1
  have hX1 := hX.below mr_len hb1
  have hB1 := Below.then hBU hb1
  have hru1 := hm1.range
  go_wp2_with (first | (refine wpList_load_row rfl _ rfl w.heap.size rfl gs hru1 hundM rfl hszg ?_) | fail)
  refine (ks2 U1 hX1).mono ?_
  rintro e U2 ⟨rfl, hb2⟩
  have hm2 := stab_blk _ _ _ _ hm1 hb2
  have hX2 := hX1.below mr_len hb2
  have hB2 := Below.then hB1 hb2
  have hru2 := hm2.range
  obtain ⟨xs, hxs⟩ : ∃ xs, foundRu o = xs := ⟨_, rfl⟩
  have hlx : xs.length = 9 := by rw [← hxs]; rfl
  have hxo : ∀ v ∈ xs, v.oneCell' = true := by rw [← hxs]; exact mr_one _
  have hneq : ∀ W, (binOp .neq 29 (.agg xs.toArray) (.agg xs.toArray)).run Try.prog W = .ok (.bool false) W := fun W => by rw [← hxs]; exact run_neq_rule _ W
  have hszx : (Try.prog.info? 29).map (·.size) = some xs.length := by rw [hlx]; exact hsz9
  simp only [hxs] at kr1 kr2
  clear hxs hmU hX hBU hru hm1 hX1 hB1 hru1 hb1 hb2 ks1 ks2
  go_wp2_with (first | (refine wpList_load_row rfl _ rfl w.heap.size rfl gs hru2 hundM rfl hszg ?_) | fail)
  refine (kr1 U2 hX2).mono ?_
  rintro e U3 ⟨rfl, hb3⟩
  obtain ⟨U4, hU4, hth4, hc4, hb4⟩ := put_new U3 zR9 29 xs (by rw [hlx]; rfl) (by rw [hlx]; decide)
  have hb34 := Below.then hb3 hb4
  have hm4 := stab_blk _ _ _ _ hm2 hb34
  have hX4 := hX2.below mr_len hb34
  have hB4 := Below.then hB2 hb34
  have hru4 := hm4.range
  clear hm2 hX2 hB2 hru2 hb3 hb4 hb34 kr1
  go_upto_region 17 with (first | (refine wpList_store_row rfl _ _ rfl U3.heap.size rfl xs rfl hth4 hszx hxo hU4 ?_) | fail)
  clear hth4 hU4
  generalize U3.heap.size = gc at *
  go_wp2_with (first | (refine wpList_load_row rfl _ rfl w.heap.size rfl gs hru4 hundM rfl hszg ?_) | fail)
  refine (kr2 U4 hX4).mono ?_
  rintro e U5 ⟨rfl, hb5⟩
  obtain ⟨U6, hU6, hth6, hd6, hb6⟩ := put_new U5 zR9 29 xs (by rw [hlx]; rfl) (by rw [hlx]; decide)
  have hb56 := Below.then hb5 hb6
  have hm6 := stab_blk _ _ _ _ hm4 hb56
  have hc6 := stab_blk _ _ _ _ hc4 hb56
  have hX6 := hX4.below mr_len hb56
  have hB6 := Below.then hB4 hb56
  clear hm4 hc4 hX4 hB4 hru4 hb5 hb6 hb56 kr2
  go_upto_region 18 with (first | (refine wpList_store_row rfl _ _ rfl U5.heap.size rfl xs rfl hth6 hszx hxo hU6 ?_) | fail)
  clear hth6 hU6
  generalize U5.heap.size = gd at *
  obtain ⟨Y, hY⟩ : ∃ Y, U6 = Y := ⟨_, rfl⟩
  rw [hY] at hm6 hc6 hd6 hX6 hB6 ⊢
  clear hY
  have hS0 : Below Y.heap.size Y Y.drew := (Below.refl _ _).drew
  have kz1 := fun W (hW : Below Y.heap.size Y W) => kl1 W (hLen.below (Below.then hB6 hW)) (hX6.below mr_len hW)
  have kz2 := fun W (hW : Below Y.heap.size Y W) => kl2 W (hX6.below mr_len hW)
  obtain ⟨ob, hob⟩ : ∃ ob, o.isSome = ob := ⟨_, rfl⟩
  (try rw [hob])
  clear hob kl1 kl2
  refine wp_region_held_drew (S := (fun W => Below Y.heap.size Y W)) (by kernel_rfl) (by exact hS0) ?_
  intro hHeld
  generalize Y.drew = w0 at *
  refine wpAnyH_take (i := 0) (v := ?_) (by simp only [List.getElem?_toArray, List.getElem?_cons_zero, List.getElem?_cons_succ]; rfl) (by kernel_rfl) (by kernel_rfl) (by kernel_rfl) (by exact fun _ _ _ h => h) (Or.inl ⟨by rfl, ?_⟩) (by assumption) ?_; rotate_left; (focus (intro w hSw; (try dsimp only at hSw); go_simp; try with_reducible rfl)); (try simp only [Act.put, List.setIfInBounds_toArray, List.set_cons_zero, List.set_cons_succ])
  refine wpAnyH_take (i := 1) (v := ?_) (by simp only [List.getElem?_toArray, List.getElem?_cons_zero, List.getElem?_cons_succ]; rfl) (by kernel_rfl) (by kernel_rfl) (by kernel_rfl) (by exact fun _ _ _ h => h) (Or.inl ⟨by rfl, ?_⟩) (by assumption) ?_; rotate_left; (focus (intro w hSw; (try dsimp only at hSw); go_simp; try with_reducible rfl)); (try simp only [Act.put, List.setIfInBounds_toArray, List.set_cons_zero, List.set_cons_succ])
  refine wpAnyH_take (i := 2) (v := ?_) (by simp only [List.getElem?_toArray, List.getElem?_cons_zero, List.getElem?_cons_succ]; rfl) (by kernel_rfl) (by kernel_rfl) (by kernel_rfl) (by exact fun _ _ _ h => h) (Or.inl ⟨by rfl, ?_⟩) (by assumption) ?_; rotate_left; (focus (intro w hSw; (try dsimp only at hSw); go_simp; try with_reducible rfl)); (try simp only [Act.put, List.setIfInBounds_toArray, List.set_cons_zero, List.set_cons_succ])
  refine wpAnyH_take (i := 3) (v := ?_) (by simp only [List.getElem?_toArray, List.getElem?_cons_zero, List.getElem?_cons_succ]; rfl) (by kernel_rfl) (by kernel_rfl) (by kernel_rfl) (by exact fun _ _ _ h => h) (Or.inl ⟨by rfl, ?_⟩) (by assumption) ?_; rotate_left; (focus (intro w hSw; (try dsimp only at hSw); go_simp; try with_reducible rfl)); (try simp only [Act.put, List.setIfInBounds_toArray, List.set_cons_zero, List.set_cons_succ])
  refine wpAnyH_take (i := 4) (v := ?_) (by simp only [List.getElem?_toArray, List.getElem?_cons_zero, List.getElem?_cons_succ]; rfl) (by kernel_rfl) (by kernel_rfl) (by kernel_rfl) (by exact fun _ _ _ h => h) (Or.inl ⟨by rfl, ?_⟩) (by assumption) ?_; rotate_left; (focus (intro w hSw; (try dsimp only at hSw); go_simp; try with_reducible rfl)); (try simp only [Act.put, List.setIfInBounds_toArray, List.set_cons_zero, List.set_cons_succ])
  refine wpAnyH_take (i := 5) (v := ?_) (by simp only [List.getElem?_toArray, List.getElem?_cons_zero, List.getElem?_cons_succ]; rfl) (by kernel_rfl) (by kernel_rfl) (by kernel_rfl) (by exact fun _ _ _ h => h) (Or.inl ⟨by rfl, ?_⟩) (by assumption) ?_; rotate_left; (focus (intro w hSw; (try dsimp only at hSw); go_simp; try with_reducible rfl)); (try simp only [Act.put, List.setIfInBounds_toArray, List.set_cons_zero, List.set_cons_succ])
  refine wpAnyH_take (i := 6) (v := ?_) (by simp only [List.getElem?_toArray, List.getElem?_cons_zero, List.getElem?_cons_succ]; rfl) (by kernel_rfl) (by kernel_rfl) (by kernel_rfl) (by exact fun _ _ _ h => h) (Or.inl ⟨by rfl, ?_⟩) (by assumption) ?_; rotate_left; (focus (intro w hSw; (try dsimp only at hSw); go_simp; try with_reducible rfl)); (try simp only [Act.put, List.setIfInBounds_toArray, List.set_cons_zero, List.set_cons_succ])
  refine wpAnyH_take (i := 7) (v := ?_) (by simp only [List.getElem?_toArray, List.getElem?_cons_zero, List.getElem?_cons_succ]; rfl) (by kernel_rfl) (by kernel_rfl) (by kernel_rfl) (by exact fun _ _ _ h => h) (Or.inl ⟨by rfl, ?_⟩) (by assumption) ?_; rotate_left; (focus (intro w hSw; (try dsimp only at hSw); go_simp; try with_reducible rfl)); (try simp only [Act.put, List.setIfInBounds_toArray, List.set_cons_zero, List.set_cons_succ])
  refine wpAnyH_take (i := 8) (v := ?_) (by simp only [List.getElem?_toArray, List.getElem?_cons_zero, List.getElem?_cons_succ]; rfl) (by kernel_rfl) (by kernel_rfl) (by kernel_rfl) (by exact fun _ _ _ h => h) (Or.inl ⟨by rfl, ?_⟩) (by assumption) ?_; rotate_left; (focus (intro w hSw; (try dsimp only at hSw); go_simp; try with_reducible rfl)); (try simp only [Act.put, List.setIfInBounds_toArray, List.set_cons_zero, List.set_cons_succ])
  refine wpAnyH_take (i := 9) (v := _) (by simp only [List.getElem?_toArray, List.getElem?_cons_zero, List.getElem?_cons_succ]; rfl) (by kernel_rfl) (by kernel_rfl) (by kernel_rfl) (by exact fun _ _ _ h => h) (yields_row (by rfl) _ rfl gc rfl xs (fun _ q => BlkL.range (stab_blk _ _ _ _ hc6 q)) hundR rfl hszx) (by assumption) ?_; (try simp only [Act.put, List.setIfInBounds_toArray, List.set_cons_zero, List.set_cons_succ])
  refine wpAnyH_take (i := 10) (v := _) (by simp only [List.getElem?_toArray, List.getElem?_cons_zero, List.getElem?_cons_succ]; rfl) (by kernel_rfl) (by kernel_rfl) (by kernel_rfl) (by exact fun _ _ _ h => h) (yields_row (by rfl) _ rfl gd rfl xs (fun _ q => BlkL.range (stab_blk _ _ _ _ hd6 q)) hundR rfl hszx) (by assumption) ?_; (try simp only [Act.put, List.setIfInBounds_toArray, List.set_cons_zero, List.set_cons_succ])
  refine wpAnyH_take (i := 11) (v := ?_) (by simp only [List.getElem?_toArray, List.getElem?_cons_zero, List.getElem?_cons_succ]; rfl) (by kernel_rfl) (by kernel_rfl) (by kernel_rfl) (by exact fun _ _ _ h => h) (Or.inl ⟨by rfl, ?_⟩) (by assumption) ?_; rotate_left; (focus (intro w hSw; (try dsimp only at hSw); go_simp; try with_reducible rfl)); (try simp only [Act.put, List.setIfInBounds_toArray, List.set_cons_zero, List.set_cons_succ])
  refine wpAnyH_take (i := 12) (v := ?_) (by simp only [List.getElem?_toArray, List.getElem?_cons_zero, List.getElem?_cons_succ]; rfl) (by kernel_rfl) (by kernel_rfl) (by kernel_rfl) (by exact fun _ _ _ h => h) (Or.inl ⟨by rfl, ?_⟩) (by assumption) ?_; rotate_left; (focus (intro w hSw; (try dsimp only at hSw); go_simp; try with_reducible rfl)); (try simp only [Act.put, List.setIfInBounds_toArray, List.set_cons_zero, List.set_cons_succ])
  refine wpAnyH_take (i := 13) (v := ?_) (by simp only [List.getElem?_toArray, List.getElem?_cons_zero, List.getElem?_cons_succ]; rfl) (by kernel_rfl) (by kernel_rfl) (by kernel_rfl) (by exact fun _ _ _ h => h) (Or.inl ⟨by rfl, ?_⟩) (by assumption) ?_; rotate_left; (focus (intro w hSw; (try dsimp only at hSw); go_simp; try with_reducible rfl)); (try simp only [Act.put, List.setIfInBounds_toArray, List.set_cons_zero, List.set_cons_succ])
  refine wpAnyH_take (i := 14) (v := ?_) (by simp only [List.getElem?_toArray, List.getElem?_cons_zero, List.getElem?_cons_succ]; rfl) (by kernel_rfl) (by kernel_rfl) (by kernel_rfl) (by exact fun _ _ _ h => h) (Or.inl ⟨by rfl, ?_⟩) (by assumption) ?_; rotate_left; (focus (intro w hSw; (try dsimp only at hSw); go_simp; try with_reducible rfl)); (try simp only [Act.put, List.setIfInBounds_toArray, List.set_cons_zero, List.set_cons_succ])
  refine wpAnyH_take (i := 15) (v := ?_) (by simp only [List.getElem?_toArray, List.getElem?_cons_zero, List.getElem?_cons_succ]; rfl) (by kernel_rfl) (by kernel_rfl) (by kernel_rfl) (by exact fun _ _ _ h => h) (Or.inl ⟨by rfl, ?_⟩) (by assumption) ?_; rotate_left; (focus (intro w hSw; (try dsimp only at hSw); go_simp; try with_reducible rfl)); (try simp only [Act.put, List.setIfInBounds_toArray, List.set_cons_zero, List.set_cons_succ])
  refine wpAnyH_take (i := 16) (v := ?_) (by simp only [List.getElem?_toArray, List.getElem?_cons_zero, List.getElem?_cons_succ]; rfl) (by kernel_rfl) (by kernel_rfl) (by kernel_rfl) (by exact fun _ _ _ h => h) (Or.inl ⟨by rfl, ?_⟩) (by assumption) ?_; rotate_left; (focus (intro w hSw; (try dsimp only at hSw); go_simp; try with_reducible rfl)); (try simp only [Act.put, List.setIfInBounds_toArray, List.set_cons_zero, List.set_cons_succ])
  refine wpAnyH_take (i := 17) (v := ?_) (by simp only [List.getElem?_toArray, List.getElem?_cons_zero, List.getElem?_cons_succ]; rfl) (by kernel_rfl) (by kernel_rfl) (by kernel_rfl) (by exact fun _ _ _ h => h) (Or.inl ⟨by rfl, ?_⟩) (by assumption) ?_; rotate_left; (focus (intro w hSw; (try dsimp only at hSw); go_simp; try with_reducible rfl)); (try simp only [Act.put, List.setIfInBounds_toArray, List.set_cons_zero, List.set_cons_succ])
  refine wpAnyH_take (i := 18) (v := ?_) (by simp only [List.getElem?_toArray, List.getElem?_cons_zero, List.getElem?_cons_succ]; rfl) (by kernel_rfl) (by kernel_rfl) (by kernel_rfl) (by exact fun _ _ _ h => h) (Or.inl ⟨by rfl, ?_⟩) (by assumption) ?_; rotate_left; (focus (intro w hSw; (try dsimp only at hSw); go_simp; try with_reducible rfl)); (try simp only [Act.put, List.setIfInBounds_toArray, List.set_cons_zero, List.set_cons_succ])
  refine wpAnyH_take (i := 19) (v := ?_) (by simp only [List.getElem?_toArray, List.getElem?_cons_zero, List.getElem?_cons_succ]; rfl) (by kernel_rfl) (by kernel_rfl) (by kernel_rfl) (by exact fun _ _ _ h => h) (Or.inl ⟨by rfl, ?_⟩) (by assumption) ?_; rotate_left; (focus (intro w hSw; (try dsimp only at hSw); go_simp; try with_reducible rfl)); (try simp only [Act.put, List.setIfInBounds_toArray, List.set_cons_zero, List.set_cons_succ])
  refine wpAnyH_take (i := 20) (v := _) (by simp only [List.getElem?_toArray, List.getElem?_cons_zero, List.getElem?_cons_succ]; rfl) (by kernel_rfl) (by kernel_rfl) (by kernel_rfl) (by exact fun _ _ _ h => h) (yields_row (by rfl) _ rfl w.heap.size rfl gs (fun _ q => BlkL.range (stab_blk _ _ _ _ hm6 q)) hundM rfl hszg) (by assumption) ?_; (try simp only [Act.put, List.setIfInBounds_toArray, List.set_cons_zero, List.set_cons_succ])
  refine wpAnyH_take (i := 22) (v := ?_) (by simp only [List.getElem?_toArray, List.getElem?_cons_zero, List.getElem?_cons_succ]; rfl) (by kernel_rfl) (by kernel_rfl) (by kernel_rfl) (by exact fun _ _ _ h => h) (Or.inl ⟨by rfl, ?_⟩) (by assumption) ?_; rotate_left; (focus (intro w hSw; (try dsimp only at hSw); go_simp; try with_reducible rfl)); (try simp only [Act.put, List.setIfInBounds_toArray, List.set_cons_zero, List.set_cons_succ])
  refine wpAnyH_take (i := 23) (v := _) (by simp only [List.getElem?_toArray, List.getElem?_cons_zero, List.getElem?_cons_succ]; rfl) (by kernel_rfl) (by kernel_rfl) (by kernel_rfl) (by exact fun _ _ _ h => h) (yields_row (by rfl) _ rfl w.heap.size rfl gs (fun _ q => BlkL.range (stab_blk _ _ _ _ hm6 q)) hundM rfl hszg) (by assumption) ?_; (try simp only [Act.put, List.setIfInBounds_toArray, List.set_cons_zero, List.set_cons_succ])
  refine wpAnyH_ready (rs := [21]) (by kernel_rfl) (by simp) ?_
  refine AllReadyH.cons (by simp only [List.getElem?_toArray, List.getElem?_cons_zero, List.getElem?_cons_succ]; rfl) (fun K hK => ?_) AllReadyH.nil
  go_simp
  go_at_call 16
  refine (kz1 w0 hS0).mono ?_
  rintro e w1 ⟨rfl, hb⟩
  have hS1 := Below.then hS0 hb
  clear hb
  refine hK.out _ _ (by exact hS1) ?_
  clear hHeld hK
  intro hHeld
  (try simp only [Act.put, List.setIfInBounds_toArray, List.set_cons_zero, List.set_cons_succ])
  refine wpAnyH_ready (rs := [24]) (by kernel_rfl) (by simp) ?_
  refine AllReadyH.cons (by simp only [List.getElem?_toArray, List.getElem?_cons_zero, List.getElem?_cons_succ]; rfl) (fun K hK => ?_) AllReadyH.nil
  go_simp
  go_at_call 17
  refine (kz2 w1 hS1).mono ?_
  rintro e w2 ⟨rfl, hb⟩
  have hS2 := Below.then hS1 hb
  clear hb
  refine hK.out _ _ (by exact hS2) ?_
  clear hHeld hK
  intro hHeld
  (try simp only [Act.put, List.setIfInBounds_toArray, List.set_cons_zero, List.set_cons_succ])
  refine wpAnyH_take (i := 25) (v := ?_) (by simp only [List.getElem?_toArray, List.getElem?_cons_zero, List.getElem?_cons_succ]; rfl) (by kernel_rfl) (by kernel_rfl) (by kernel_rfl) (by exact fun _ _ _ h => h) (Or.inl ⟨by rfl, ?_⟩) (by assumption) ?_; rotate_left; (focus (intro w hSw; (try dsimp only at hSw); go_simp; try with_reducible rfl)); (try simp only [Act.put, List.setIfInBounds_toArray, List.set_cons_zero, List.set_cons_succ])
  refine wpAnyH_take (i := 26) (v := ?_) (by simp only [List.getElem?_toArray, List.getElem?_cons_zero, List.getElem?_cons_succ]; rfl) (by kernel_rfl) (by kernel_rfl) (by kernel_rfl) (by exact fun _ _ _ h => h) (Or.inl ⟨by rfl, ?_⟩) (by assumption) ?_; rotate_left; (focus (intro w hSw; (try dsimp only at hSw); go_simp; try with_reducible rfl)); (try simp only [Act.put, List.setIfInBounds_toArray, List.set_cons_zero, List.set_cons_succ])
  refine wpAnyH_done (by kernel_rfl) ?_ _
  obtain ⟨T, hT⟩ : ∃ T, w2 = T := ⟨_, rfl⟩
  rw [hT] at hS2 ⊢
  have hm7 := stab_blk _ _ _ _ hm6 hS2
  have hB7 := Below.then hB6 hS2
  have hru7 := hm7.range
  clear hT hm6 hc6 hd6 hX6 hB6 hS0 hS1 hS2 kz1 kz2
  obtain ⟨hs, hhc⟩ : ∃ hs, H.cs = hs := ⟨_, rfl⟩
  have hlh : hs.length = 11 := by rw [← hhc]; rfl
  have hho : ∀ v ∈ hs, v.oneCell' = true := by rw [← hhc]; exact ms_one H
  have hszh : (Try.prog.info? 26).map (·.size) = some hs.length := by rw [hlh]; exact hszM
  simp only [hhc] at kgz
  go_wp2_with (first | (refine wpList_load_row rfl _ rfl w.heap.size rfl gs hru7 hundM rfl hszg ?_) | fail)
  refine (kgz T).mono ?_
  rintro e T1 ⟨rfl, hb8⟩
  have hm8 := stab_blk _ _ _ _ hm7 hb8
  obtain ⟨T2, hT2, hth8, hm9, hk9⟩ := mput_any hm8 (ds := hs) (by rw [hlg, hlh]) (by rw [hlh]; decide)
  have hB9 : Below w.heap.size w T2 := hk9 _ _ (Nat.le_refl _) (Below.then hB7 hb8)
  rw [← hhc] at hm9
  clear hm7 hB7 hru7 hm8 hb8 hk9
  go_wp2_with (first | (refine wpList_store_row rfl _ _ rfl w.heap.size rfl hs rfl hth8 hszh hho hT2 ?_) | fail)
  exact ⟨⟨j + 1, H, by omega, by simp, hsH, hm9, hB9⟩, by simp [Go.RowKit.intOf]; omega⟩
end Go.Proofs.Ytjpabjmicaopcaa
