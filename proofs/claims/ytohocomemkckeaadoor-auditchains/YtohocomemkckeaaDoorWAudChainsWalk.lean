/-
  P1402: a chain goes on entry by entry; other labels' entries leave it as it is: the law's walk.
-/
import Derived.Test.YtohocomemkckeaaDoorPt2
namespace Go.Proofs.YtohocomemkckeaaDoor
open Go.RowKit
set_option maxRecDepth 8000
set_option linter.unusedSimpArgs false
set_option linter.unusedVariables false

theorem not_full {st : List Ent} {t : Lab} (h : st.length < 40) : audFull st t = false := by
  unfold audFull
  have := List.length_filter_le (fun e : Ent => labEq e.label t) st
  exact decide_eq_false (by unfold audAll; omega)
set_option maxRecDepth 20000 in
set_option maxHeartbeats 8000000 in
theorem auditChains_walk {I : World → Prop} {Q : World → List Nat → Addr → List Ent → Prop} (C : LogOk I Q) (a : Option Addr) (cap : Nat) (l : List Ent) (at_ : Lab) (w : World) (h : RowE w a l) (hI : ∀ W, Below w.heap.size w W → I W) :
    Calls Tryd.prog 5 #[.slice a l.length cap, at_.v] w fun e w' => e = .returned (.bool true) ∧ Below w.heap.size w w' := by
  have hundL := Tryd.underlying23
  have hundE := Tryd.underlying26
  have hsl : (Tryd.prog.info? 23).map (·.size) = some 4 := by kernel_rfl
  have hse : (Tryd.prog.info? 26).map (·.size) = some 9 := by kernel_rfl
  obtain ⟨n, hn⟩ : ∃ n, l.length = n := ⟨_, rfl⟩
  rw [hn]
  replace hn : Aside (l.length = n) := hn
  have hb8 := blkl_alloc w (lab4 at_).toArray 23
  have hB0 := alloc_below w (.cells (lab4 at_).toArray 23)
  replace hb8 : BlkL w.heap.size (lab4 at_) (w.alloc (.cells (lab4 at_).toArray 23)) := hb8
  go_enter Tryd.func5, Tryd.ntmps5
  go_wp2_with fail
  generalize w.alloc (.cells #[.int .i64 at_.s, .int .i64 at_.c, .int .i64 at_.i, .int .i64 at_.k] 23) = W0 at *
  refine (aknown_any C W0 (hI _ hB0)).mono ?_
  rintro e W1 ⟨rfl, hB1⟩
  replace hb8 := stab_blk _ _ _ _ hb8 hB1
  have hB01 := Below.then hB0 hB1
  have hr8 := hb8.range
  go_wp2_with (first | (refine wpList_load_row rfl _ rfl w.heap.size rfl (lab4 at_) hr8 hundL rfl hsl ?_) | fail)
  refine (good_any at_ W1).mono ?_
  rintro e W2 ⟨rfl, hB2⟩
  replace hb8 := stab_blk _ _ _ _ hb8 hB2
  have hB02 := Below.then hB01 hB2
  clear hr8 hB0 hB1 hB2 hB01
  obtain ⟨W3, hW3, hth3, hb3, hk3, hB3⟩ := turn_labA (goodL at_) hb8
  have hB03 := hB3 _ _ (Nat.le_refl _) hB02
  have hGt := good_GL at_
  clear hb8 hk3 hB3 hB02
  go_upto_region 4 with (first | (refine wpList_store_row rfl _ _ rfl w.heap.size rfl (lab4 (goodL at_)) rfl hth3 hsl (lab4_one _) hW3 ?_) | fail)
  clear hth3 hW3
  obtain ⟨t, ht⟩ : ∃ t, goodL at_ = t := ⟨_, rfl⟩
  rw [ht] at hb3 hGt
  clear ht
  go_wp2_with fail
  refine (C.new W3 (hI _ hB03)).mono ?_
  rintro e W4 ⟨p, S, rfl, hq4, hS4, hB4⟩
  have hz3 : w.heap.size + 1 ≤ W3.heap.size := hb3.2
  have hL4 : LG Q (w.heap.size + 1) W4 p [] := ⟨⟨S, hq4, fun k hk => Nat.le_trans hz3 (hS4 k hk)⟩, aud_nil⟩
  have hb4 := stab_blk _ _ _ _ hb3 hB4
  have hB04 := Below.then hB03 hB4
  clear hq4 hS4 hB4 hb3 hB03 hz3
  have kof := rof_any 0 (by decide) ⟨#[]⟩ (by decide) W4
  replace kof : Calls Tryd.prog 18 #[.int .i64 0, .string ⟨#[]⟩] W4 fun e w' => e = .returned (.int .u64 ((audChain [] t : Nat) : Int)) ∧ Below W4.heap.size W4 w' := kof
  go_wp2_with fail
  refine kof.mono ?_
  rintro e W5 ⟨rfl, hB5⟩
  have hL5 := hL4.below C hB5
  have hb5 := stab_blk _ _ _ _ hb4 hB5
  have hB05 := Below.then hB04 hB5
  clear kof hL4 hb4 hB04 hB5
  obtain ⟨h0, hh0⟩ : ∃ h0, audChain [] t = h0 := ⟨_, rfl⟩
  rw [hh0]
  replace hh0 : Aside (audChain [] t = h0) := hh0
  go_wp2_with fail
  go_loopw [6, 7, 8] (fun t6 t7 t8 wr => ∃ (i cnt hh : Nat) (st : List Ent), i ≤ n ∧ i ≤ 35 ∧ t8 = .int .i64 (i : Int) ∧ t7 = .int .i64 (cnt : Int) ∧ t6 = .int .u64 (hh : Int) ∧ Aside (audChain st t = hh) ∧ Aside ((audAll st t).length = cnt) ∧ Aside (st.length ≤ i) ∧ cnt ≤ i ∧ LG Q (w.heap.size + 1) wr p st ∧ BlkL w.heap.size (lab4 t) wr ∧ Below w.heap.size w wr) (fun _ _ t8 _ => 35 - (Go.RowKit.intOf t8).toNat)
  case atStart => exact ⟨0, 0, h0, [], by omega, by omega, rfl, rfl, rfl, hh0, rfl, Nat.le_refl _, by omega, hL5, hb5, hB05⟩
  case round =>
  clear hL5 hb5 hB05 hh0
  obtain ⟨i, cnt, hh, st, hin, hi35, rfl, rfl, rfl, hch, hcn, hsl2, hci, hL, hbt, hB⟩ := hrel
  by_cases hgo : i < n ∧ i < 35
  rotate_left
  · obtain ⟨S1, hq1, -⟩ := hL.q
    have ka := C.all t hGt wr (hI wr hB) hq1 hL.ok (by have := hsl2.out; omega)
    obtain ⟨R, hR⟩ : ∃ R, audAll st t = R := ⟨_, rfl⟩
    rw [hR] at ka
    have hRl : R.length = cnt := by rw [← hR]; exact hcn.out
    have hrt := hbt.range
    clear hR hcn hq1
    by_cases h1 : (i : Int) < (n : Int)
    · have h2 : ¬ (i : Int) < 35 := by omega
      go_wp2_with (first | (refine wpList_load_row rfl _ rfl w.heap.size rfl (lab4 t) hrt hundL rfl hsl ?_) | fail)
      refine ka.mono ?_
      rintro e W6 ⟨v, rfl, ho, hB6⟩
      obtain ⟨ra, rc, rfl, -, -, -⟩ := ho.sl
      rw [hRl]
      have hfin := Below.then hB hB6
      clear ho hRl
      go_wp2_with fail
      go_ret
      exact ⟨rfl, hfin⟩
    · go_wp2_with (first | (refine wpList_load_row rfl _ rfl w.heap.size rfl (lab4 t) hrt hundL rfl hsl ?_) | fail)
      refine ka.mono ?_
      rintro e W6 ⟨v, rfl, ho, hB6⟩
      obtain ⟨ra, rc, rfl, -, -, -⟩ := ho.sl
      rw [hRl]
      have hfin := Below.then hB hB6
      clear ho hRl
      go_wp2_with fail
      go_ret
      exact ⟨rfl, hfin⟩
  obtain ⟨hi1, hi2⟩ := hgo
  have j1 : (i : Int) < (n : Int) := by omega
  have j2 : (i : Int) < 35 := by omega
  obtain ⟨x, hx⟩ : ∃ x, l[i]? = some x := ⟨_, List.getElem?_eq_getElem (by rw [hn.out]; exact hi1)⟩
  obtain ⟨y, rfl, -⟩ := h i x hx
  have hrd := (h.below ent_ok.len hB).at ent_ok.len hx
  clear hx
  go_wp2_with (first | (refine wpList_load_at rfl _ rfl (y.add (i * 9)) rfl (ecs x) hrd hundE rfl hse ?_) | fail)
  refine (agood_any x wr).mono ?_
  rintro e W6 ⟨rfl, hB6⟩
  obtain ⟨e0, he0⟩ : ∃ e0, goodE x = e0 := ⟨_, rfl⟩
  have hm0 := goodE_may x
  rw [he0] at hm0 ⊢
  obtain ⟨W7, hW7, hth7, hb7, hB7⟩ := put_new W6 zE 26 (ecs e0) rfl (by simp [ecs])
  have hd7 := Below.then hB6 hB7
  have hlt6 : wr.heap.size ≤ W6.heap.size := hB6.size
  clear he0 hrd hB6 hB7
  go_upto_region 11 with (first | (refine wpList_store_row rfl _ _ rfl W6.heap.size rfl (ecs e0) rfl hth7 hse (ent_one e0) hW7 ?_) | fail)
  generalize W6.heap.size = b9 at *
  clear hth7 hW7
  go_upto_if 33 with fail
  go_cut [] from 31 to 56 (fun wc => ∃ e1 : Ent, audMay e1 = 0 ∧ BlkL b9 (ecs e1) wc ∧ Below wr.heap.size wr wc)
  case first =>
    cases hq : ((i : Int) % 2 == 0)
    · go_wp2_with fail
      go_meet
      exact ⟨e0, hm0, hb7, hd7⟩
    · have hrt := (stab_blk _ _ _ _ hbt hd7).range
      obtain ⟨W8, hW8, hth8, hb8, hB8⟩ := put_mid hb7 1 (lab4 t) (by simp [ecs]) (by simp [ecs]) hd7 hlt6
      have hm1 : audMay { e0 with label := t } = 0 := by
        obtain ⟨_, q⟩ := may_zero.1 hm0
        exact may_zero.2 ⟨chkL_zero.2 hGt, q⟩
      replace hb8 : BlkL b9 (ecs { e0 with label := t }) W8 := hb8
      go_wp2_with (first | (refine wpList_load_row rfl _ rfl w.heap.size rfl (lab4 t) hrt hundL rfl hsl ?_) | (refine wpList_store_part rfl _ _ rfl b9 1 rfl (lab4 t) rfl hth8 hsl (lab4_one _) hW8 ?_) | fail)
      go_meet
      exact ⟨_, hm1, hb8, hB8⟩
  case rest =>
  clear hb7 hd7 hm0
  obtain ⟨e1, hm1, hb9, hd9⟩ := hcut
  obtain ⟨X, hX⟩ : ∃ X, X = wc := ⟨_, rfl⟩
  subst hX
  have hB9 := Below.then hB hd9
  have hbt9 := stab_blk _ _ _ _ hbt hd9
  have herr : audErr st e1 = 0 := err_zero.2 ⟨hm1, not_full (by have := hsl2.out; omega)⟩
  have kadd := hL.add C e1 (may_small hm1) hd9 (by have := hbt.2; omega) (by have := hsl2.out; omega) (hI _ hB9)
  rw [herr] at kadd
  have hall2 := add_all hL.ok.sort e1 t
  have hch2 := add_chain hL.ok.sort e1 t
  have hlen2 := add_lenA st e1
  rw [herr] at hall2
  rw [herr, hch.out] at hch2
  replace hall2 := congrArg List.length hall2
  rw [List.length_append, hcn.out] at hall2
  obtain ⟨st2, hst2⟩ : ∃ st2, audAdd st e1 = st2 := ⟨_, rfl⟩
  rw [hst2] at kadd hall2 hch2 hlen2
  have hlen3 : Aside (st2.length ≤ i + 1) := by have := hsl2.out; exact Nat.le_trans hlen2 (by omega)
  have hr9 := hb9.range
  have hnx : audNext st e1 = { e1 with seq := (((audAll st e1.label).length + 1 : Nat) : Int) } := rfl
  have hww : w.heap.size < wr.heap.size := hbt.2
  clear hL hB hbt hlen2 hst2 herr
  go_wp2_with (first | (refine wpList_load_row rfl _ rfl b9 rfl (ecs e1) hr9 hundE rfl hse ?_) | fail)
  refine kadd.mono ?_
  rintro e W9 ⟨rfl, hL9, hk9, hn9⟩
  have hb99 : BlkL b9 (ecs e1) W9 := ⟨hb9.1.same (hn9 b9 hlt6 hb9.2).1, by
    have := hk9.size
    exact Nat.lt_of_lt_of_le hb9.2 this⟩
  have hbt99 : BlkL w.heap.size (lab4 t) W9 := ⟨hbt9.1.same (hk9.block _ (by omega)), Nat.lt_of_lt_of_le hbt9.2 hk9.size⟩
  have hB99 : Below w.heap.size w W9 := hB9.trans (hk9.mono (by omega))
  have hfree := (hn9 b9 hlt6 hb9.2).2
  have hwb : w.heap.size < b9 := by omega
  clear kadd hr9 hb9 hbt9 hB9 hk9 hn9 hd9
  have hcl := ebox_lab hb99
  have hrt := hbt99.range
  have hnq : ∀ W, (binOp .eql 23 (.agg (lab4 e1.label).toArray) (.agg (lab4 t).toArray)).run Tryd.prog W = .ok (.bool (labEq e1.label t)) W := run_eql_lab e1.label t
  go_upto_region 15 with fail
  go_upto_if 43 with (first | (refine wpList_load_at rfl _ rfl ⟨b9, 1, none⟩ rfl (lab4 e1.label) hcl hundL rfl hsl ?_) | (refine wpList_load_row rfl _ rfl w.heap.size rfl (lab4 t) hrt hundL rfl hsl ?_) | fail)
  go_cut [6, 7] from 31 to 56 (fun s6 s7 wd => ∃ c2 h2 : Nat, s7 = .int .i64 (c2 : Int) ∧ s6 = .int .u64 (h2 : Int) ∧ Aside (audChain st2 t = h2) ∧ Aside ((audAll st2 t).length = c2) ∧ c2 ≤ i + 1 ∧ LG Q (w.heap.size + 1) wd p st2 ∧ BlkL w.heap.size (lab4 t) wd ∧ Below w.heap.size w wd)
  case first =>
    cases hq : labEq e1.label t
    · rw [hq] at hall2 hch2
      rw [if_neg (fun q => by cases q.2)] at hall2 hch2
      go_wp2_with fail
      go_meet
      exact ⟨cnt, hh, rfl, rfl, hch2, (show (audAll st2 t).length = cnt by simpa using hall2), by omega, hL9, hbt99, hB99⟩
    · rw [hq] at hall2 hch2
      rw [if_pos ⟨trivial, rfl⟩] at hall2 hch2
      have hlt := (labEq_iff _ _).1 hq
      have hq0 : (audAll st e1.label).length = cnt := by rw [hlt]; exact hcn.out
      rw [hnx, hq0] at hch2
      clear hq0
      have hf0 := (hb99.1 0 _ rfl)
      obtain ⟨-, f0⟩ := hf0
      have hb10 := set_seq W9 b9 e1 (((cnt + 1 : Nat)) : Int) hb99
      rw [show (((cnt + 1 : Nat)) : Int) = (cnt : Int) + 1 by omega] at hb10 hch2
      obtain ⟨e2, he2⟩ : ∃ e2, ({ e1 with seq := (cnt : Int) + 1 } : Ent) = e2 := ⟨_, rfl⟩
      have hm2 : e2.Small := by rw [← he2]; exact may_small (e := { e1 with seq := (cnt : Int) + 1 }) hm1
      rw [he2] at hb10 hch2
      have hL10 := hfree (W9.setCell ⟨b9, 0, none⟩ (.int .i64 ((cnt : Int) + 1))) (fun j hj => heap_setCell_other W9 ⟨b9, 0, none⟩ j _ hj)
      have hB10 : Below w.heap.size w (W9.setCell ⟨b9, 0, none⟩ (.int .i64 ((cnt : Int) + 1))) := hB99.setCell (p := ⟨b9, 0, none⟩) (Nat.le_of_lt hwb) _
      have hbt10 : BlkL w.heap.size (lab4 t) (W9.setCell ⟨b9, 0, none⟩ (.int .i64 ((cnt : Int) + 1))) := by
        have h1 := hbt99.1.same (heap_setCell_other W9 ⟨b9, 0, none⟩ w.heap.size (.int .i64 ((cnt : Int) + 1)) (by show w.heap.size ≠ b9; omega))
        exact ⟨h1, h1.lt rfl⟩
      have hc0 := (hb99.1 0 _ rfl).1
      have hcl2 := aud_chain_lt st t
      rw [hch.out] at hcl2
      have hel := enc_len hm2
      go_upto_region 18 with fail
      generalize W9.setCell ⟨b9, 0, none⟩ (.int .i64 ((cnt : Int) + 1)) = W10 at *
      clear hc0 f0 hb99 hbt99 hB99 hL9 hcl hrt hfree
      have ke := rencE_any e2 hm2 W10
      replace ke : Calls Tryd.prog 20 #[.agg (ecs e2).toArray] W10 _ := ke
      have hr10 := hb10.range
      obtain ⟨Bs, hBs⟩ : ∃ Bs, encE e2 = Bs := ⟨_, rfl⟩
      rw [hBs] at ke hch2 hel
      replace hch2 : Aside _ := hch2
      replace hall2 : Aside _ := hall2
      go_wp2_with (first | (refine wpList_load_row rfl _ rfl b9 rfl (ecs e2) hr10 hundE rfl hse ?_) | fail)
      refine ke.mono ?_
      rintro e W11 ⟨v11, rfl, ho11, hB11⟩
      obtain ⟨ea, ec, rfl, hby⟩ := OwnB.slice ho11
      have kc := rchain_any ea Bs Bs.length ec hh hel hcl2 W11 hby
      obtain ⟨bl, hbl⟩ : ∃ bl, Bs.length = bl := ⟨_, rfl⟩
      rw [hbl] at kc ⊢
      have hL11 := hL10.below C hB11
      have hbt11 := stab_blk _ _ _ _ hbt10 hB11
      have hB111 := Below.then hB10 hB11
      clear ke ho11 hby hbl hL10 hbt10 hB10 hr10 hb10
      go_wp2_with fail
      refine kc.mono ?_
      rintro e w6 ⟨rfl, hw6⟩
      replace hw6 := hw6.symm
      subst hw6
      go_wp2_with fail
      go_meet
      exact ⟨cnt + 1, _, by simp, rfl, hch2, (show (audAll st2 t).length = cnt + 1 by simpa using hall2.out), by omega, hL11, hbt11, hB111⟩
  case rest =>
  clear hL9 hb99 hbt99 hB99 hfree hall2 hch2 hcl hrt hnq hnx hch hcn
  obtain ⟨c2, h2, rfl, rfl, hch2, hcn2, hc2, hL2, hbt2, hB2⟩ := hcut
  obtain ⟨S2, hq2, -⟩ := hL2.q
  have kch := C.chain t hGt wc (hI wc hB2) hq2 hL2.ok (by have := hlen3.out; omega)
  rw [hch2.out] at kch
  have hrt := hbt2.range
  go_wp2_with (first | (refine wpList_load_row rfl _ rfl w.heap.size rfl (lab4 t) hrt hundL rfl hsl ?_) | fail)
  refine kch.mono ?_
  rintro e W12 ⟨rfl, hB12⟩
  have hL12 := hL2.below C hB12
  have hbt12 := stab_blk _ _ _ _ hbt2 hB12
  have hB122 := Below.then hB2 hB12
  clear kch hrt hL2 hbt2 hB2 hq2 hB12
  go_wp2_with fail
  exact ⟨⟨i + 1, c2, h2, st2, by omega, by omega, by simp, rfl, rfl, hch2, hcn2, hlen3, hc2, hL12, hbt12, hB122⟩, by simp [Go.RowKit.intOf]; omega⟩
end Go.Proofs.YtohocomemkckeaaDoor
