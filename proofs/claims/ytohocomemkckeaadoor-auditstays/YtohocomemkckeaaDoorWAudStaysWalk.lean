/-
  P1403: entries that were added stay as they are, in order, whatever comes behind them: the law's walk. Written by mk_audstays.py.
-/
import Derived.Deep.Cut
import Derived.Test.YtohocomemkckeaaDoorPt2
namespace Go.Proofs.YtohocomemkckeaaDoor
open Go.RowKit
set_option maxRecDepth 8000
set_option linter.unusedSimpArgs false
set_option linter.unusedVariables false

theorem own_kept {W W' : World} {b : Nat} {v : Value} {l : List Ent} {F : List Nat} (h : TellE W b v l) (hF : ∀ k, v.ownBlock = some k → k ∈ F) (hk : ∀ k ∈ F, W'.heap[k]? = W.heap[k]?) : TellE W' b v l := h.keep fun k q => hk k (hF k q)
theorem add_front {l : List Ent} (h : SortE l) (e : Ent) (t : Lab) : audAll l t <+: audAll (audAdd l e) t := by
  rw [add_all h]
  exact List.prefix_append _ _
theorem all_le (l : List Ent) (t : Lab) : (audAll l t).length ≤ l.length := List.length_filter_le _ _
theorem seen_le (l : List Ent) (t : Lab) : (audSeen l t).length ≤ l.length := List.length_filter_le _ _
set_option maxRecDepth 20000 in
set_option maxHeartbeats 8000000 in
theorem auditStays_walk {I : World → Prop} {Q : World → List Nat → Addr → List Ent → Prop} (C : LogOk I Q) (a : Option Addr) (cap : Nat) (l : List Ent) (a2 : Option Addr) (cap2 : Nat) (l2 : List Ent) (at_ : Lab) (w : World) (h : RowE w a l) (h2 : RowE w a2 l2) (hI : ∀ W, Below w.heap.size w W → I W) :
    Calls Tryd.prog 4 #[.slice a l.length cap, .slice a2 l2.length cap2, at_.v] w fun e w' => e = .returned (.bool true) ∧ Below w.heap.size w w' := by
  have hundL := Tryd.underlying23
  have hundE := Tryd.underlying26
  have hsl : (Tryd.prog.info? 23).map (·.size) = some 4 := by kernel_rfl
  have hse : (Tryd.prog.info? 26).map (·.size) = some 9 := by kernel_rfl
  obtain ⟨n, hn⟩ : ∃ n, l.length = n := ⟨_, rfl⟩
  obtain ⟨m, hm⟩ : ∃ m, l2.length = m := ⟨_, rfl⟩
  rw [hn, hm]
  replace hn : Aside (l.length = n) := hn
  replace hm : Aside (l2.length = m) := hm
  have hb8 := blkl_alloc w (lab4 at_).toArray 23
  have hB0 := alloc_below w (.cells (lab4 at_).toArray 23)
  replace hb8 : BlkL w.heap.size (lab4 at_) (w.alloc (.cells (lab4 at_).toArray 23)) := hb8
  go_enter Tryd.func4, Tryd.ntmps4
  go_wp2_with fail
  generalize w.alloc (.cells #[.int .i64 at_.s, .int .i64 at_.c, .int .i64 at_.i, .int .i64 at_.k] 23) = W0 at *
  refine (aknown_any C W0 (hI _ hB0)).mono ?_
  rintro e W1 ⟨rfl, hB1⟩
  replace hb8 := stab_blk _ _ _ _ hb8 hB1
  have hB01 := Below.then hB0 hB1
  go_wp2_with fail
  refine (C.new W1 (hI _ hB01)).mono ?_
  rintro e W4 ⟨p, S, rfl, hq4, hS4, hB4⟩
  have hz3 : w.heap.size + 1 ≤ W1.heap.size := hb8.2
  have hL4 : LGF Q [] (w.heap.size + 1) W4 p [] := ⟨⟨S, hq4, fun k hk => ⟨Nat.le_trans hz3 (hS4 k hk), by simp⟩⟩, aud_nil, fun k hk => by simp at hk⟩
  have hb4 := stab_blk _ _ _ _ hb8 hB4
  have hB04 := Below.then hB01 hB4
  clear hq4 hS4 hB4 hb8 hB01 hz3 hB0 hB1
  go_wp2_with fail
  go_loopw [8] (fun t8 wr => ∃ (i : Nat) (st : List Ent), i ≤ n ∧ i ≤ 30 ∧ t8 = .int .i64 (i : Int) ∧ Aside (st.length ≤ i) ∧ LGF Q [] (w.heap.size + 1) wr p st ∧ BlkL w.heap.size (lab4 at_) wr ∧ Below w.heap.size w wr) (fun t8 _ => 30 - (Go.RowKit.intOf t8).toNat)
  case atStart => exact ⟨0, [], by omega, by omega, rfl, Nat.le_refl _, hL4, hb4, hB04⟩
  case round =>
  clear hL4 hb4 hB04
  obtain ⟨i, st, hin, hi30, rfl, hlen, hL, hbt, hB⟩ := hrel
  by_cases hgo : i < n ∧ i < 30
  · obtain ⟨hi1, hi2⟩ := hgo
    have j1 : (i : Int) < (n : Int) := by omega
    have j2 : (i : Int) < 30 := by omega
    obtain ⟨x, hx⟩ : ∃ x, l[i]? = some x := ⟨_, List.getElem?_eq_getElem (by rw [hn.out]; exact hi1)⟩
    obtain ⟨y, rfl, -⟩ := h i x hx
    have hrd := (h.below ent_ok.len hB).at ent_ok.len hx
    clear hx
    go_wp2_with (first | (refine wpList_load_at rfl _ rfl (y.add (i * 9)) rfl (ecs x) hrd hundE rfl hse ?_) | fail)
    refine (agood_any x wr).mono ?_
    rintro e W6 ⟨rfl, hB6⟩
    have hm0 := goodE_may x
    obtain ⟨e0, he0⟩ : ∃ e0, goodE x = e0 := ⟨_, rfl⟩
    rw [he0] at hm0 ⊢
    have hL6 := hL.below C hB6
    have hbt6 := stab_blk _ _ _ _ hbt hB6
    have hB06 := Below.then hB hB6
    have kadd := hL6.add C e0 (may_small hm0) (by have := hbt6.2; omega) (by have := hlen.out; omega) (hI _ hB06)
    have hlen2 := add_lenA st e0
    have hlen3 : Aside ((audAdd st e0).length ≤ i + 1) := by have := hlen.out; exact Nat.le_trans hlen2 (by omega)
    clear hL hbt hB hB6 hrd he0 hlen2
    go_wp2_with fail
    refine kadd.mono ?_
    rintro e W8 ⟨rfl, hL8, hk8, -⟩
    have hbt8 : BlkL w.heap.size (lab4 at_) W8 := ⟨hbt6.1.same (hk8.block _ (by omega)), Nat.lt_of_lt_of_le hbt6.2 hk8.size⟩
    have hB8 : Below w.heap.size w W8 := hB06.trans (hk8.mono (by omega))
    clear kadd hk8 hbt6 hB06 hL6
    go_wp2_with fail
    exact ⟨⟨i + 1, _, by omega, by omega, by simp, hlen3, hL8, hbt8, hB8⟩, by simp [Go.RowKit.intOf]; omega⟩
  have hlen30 : st.length ≤ 30 := Nat.le_trans hlen.out hi30
  go_upto_region 5 with fail
  go_cut [26] from 19 to 35 (fun s26 wc => s26 = .bool false ∧ wc = wr)
  case first =>
    by_cases j1 : (i : Int) < (n : Int)
    · have j2 : ¬ (i : Int) < 30 := by omega
      go_wp2_with fail
      go_meet
      exact ⟨rfl, rfl⟩
    · go_wp2_with fail
      go_meet
      exact ⟨rfl, rfl⟩
  case rest =>
  obtain ⟨rfl, hwc⟩ := hcut
  replace hwc := hwc.symm
  subst hwc
  clear hgo
  clear hlen
  have hr8 := hbt.range
  obtain ⟨V, hV⟩ : ∃ V, V = wr := ⟨_, rfl⟩
  subst hV
  have kg := good_any at_ V
  obtain ⟨g, hg⟩ : ∃ g, goodL at_ = g := ⟨_, rfl⟩
  have hGg := good_GL at_
  rw [hg] at kg hGg
  clear hg
  go_wp2_with (first | (refine wpList_load_row rfl _ rfl w.heap.size rfl (lab4 at_) hr8 hundL rfl hsl ?_) | fail)
  refine kg.mono ?_
  rintro e W2 ⟨rfl, hB2⟩
  replace hbt := stab_blk _ _ _ _ hbt hB2
  have hL2 := hL.below C hB2
  have hB02 := Below.then hB hB2
  clear hr8 hL hB hB2 kg
  obtain ⟨W3, hW3, hth3, hb3, hk3, hB3⟩ := turn_labA g hbt
  have hB03 := hB3 _ _ (Nat.le_refl _) hB02
  have hL3 : LGF Q [] (w.heap.size + 1) W3 p st := hL2.turn C (by rw [← hW3]; exact (Below.cells (B := w.heap.size) (Nat.le_refl _) _ 0 (Below.refl _ W2)).size) (fun j hj => hk3 j (by omega))
  clear hbt hk3 hB3 hB02 hL2
  go_upto_region 9 with (first | (refine wpList_store_row rfl _ _ rfl w.heap.size rfl (lab4 g) rfl hth3 hsl (lab4_one _) hW3 ?_) | fail)
  clear hth3 hW3
  go_upto_if 40 with fail
  go_cut [] from 16 (fun wc => ∃ t : Lab, GL t ∧ BlkL w.heap.size (lab4 t) wc ∧ LGF Q [] (w.heap.size + 1) wc p st ∧ Below w.heap.size w wc)
  case first =>
    by_cases hn0 : 0 < n
    · have i0 : (0 : Int) < (n : Int) := by omega
      obtain ⟨x, hx⟩ : ∃ x, l[0]? = some x := ⟨_, List.getElem?_eq_getElem (by rw [hn.out]; exact hn0)⟩
      obtain ⟨y, rfl, -⟩ := h 0 x hx
      have hrd := (h.below ent_ok.len hB03).at ent_ok.len hx
      have ka := agood_any x W3
      have hGx := good_GL x.label
      have hgx : (goodE x).label = goodL x.label := rfl
      obtain ⟨ge, hge⟩ : ∃ ge, goodE x = ge := ⟨_, rfl⟩
      rw [hge] at ka hgx
      rw [← hgx] at hGx
      obtain ⟨gx, hgl⟩ : ∃ gx, ge.label = gx := ⟨_, rfl⟩
      rw [hgl] at hGx
      clear hgx hge
      rw [show 0 * 9 = 0 from rfl, show y.add 0 = y from by simp [Addr.add]] at hrd
      go_wp2_with (first | (refine wpList_load_at rfl _ rfl y rfl (ecs x) hrd hundE rfl hse ?_) | (refine wpList_load_at rfl _ rfl _ rfl (ecs x) hrd hundE rfl hse ?_) | fail)
      refine ka.mono ?_
      rintro e W5 ⟨rfl, hB5⟩
      have hb5 := stab_blk _ _ _ _ hb3 hB5
      have hL5 := hL3.below C hB5
      have hB05 := Below.then hB03 hB5
      obtain ⟨W6, hW6, hth6, hb6, hk6, hB6⟩ := turn_labA gx hb5
      have hB06 := hB6 _ _ (Nat.le_refl _) hB05
      have hL6 : LGF Q [] (w.heap.size + 1) W6 p st := hL5.turn C (by rw [← hW6]; exact (Below.cells (B := w.heap.size) (Nat.le_refl _) _ 0 (Below.refl _ W5)).size) (fun j hj => hk6 j (by omega))
      clear ka hrd hb3 hL3 hB03 hb5 hL5 hB05 hk6 hB6
      subst hgl
      go_wp2_with (first | (refine wpList_field_lab rfl _ rfl ge rfl ?_) | (refine wpList_store_row rfl _ _ rfl w.heap.size rfl (lab4 ge.label) rfl hth6 hsl (lab4_one _) hW6 ?_) | fail)
      go_meet
      exact ⟨ge.label, hGx, hb6, hL6, hB06⟩
    · have i0 : ¬ (0 : Int) < (n : Int) := by omega
      go_wp2_with fail
      all_goals go_meet
      all_goals exact ⟨g, hGg, hb3, hL3, hB03⟩
  case rest =>
  clear hb3 hL3 hB03 hGg
  obtain ⟨t, hGt, hbt, hL, hB⟩ := hcut
  obtain ⟨Z, hZ⟩ : ∃ Z, Z = wc := ⟨_, rfl⟩
  subst hZ
  have kall : ∀ W, Below Z.heap.size Z W → Calls Tryd.prog 13 #[.pointer (some p), t.v] W fun r w' => ∃ v, r = .returned v ∧ TellE w' W.heap.size v (audAll st t) ∧ Below W.heap.size W w' := fun W q => by
    obtain ⟨S1, q1, -⟩ := (hL.below C q).q
    exact C.all t hGt W (hI W (Below.then hB q)) q1 hL.ok (by omega)
  have kseen : ∀ W, Below Z.heap.size Z W → Calls Tryd.prog 15 #[.pointer (some p), t.v] W fun r w' => ∃ v, r = .returned v ∧ TellE w' W.heap.size v (audSeen st t) ∧ Below W.heap.size W w' := fun W q => by
    obtain ⟨S1, q1, -⟩ := (hL.below C q).q
    exact C.seen t hGt W (hI W (Below.then hB q)) q1 hL.ok (by omega)
  have hRl := all_le st t
  have hNl := seen_le st t
  obtain ⟨R, hR⟩ : ∃ R, audAll st t = R := ⟨_, rfl⟩
  obtain ⟨Sn, hSn⟩ : ∃ Sn, audSeen st t = Sn := ⟨_, rfl⟩
  rw [hR] at kall hRl
  rw [hSn] at kseen hNl
  replace hR : Aside (audAll st t = R) := hR
  replace hSn : Aside (audSeen st t = Sn) := hSn
  go_upto_region 11 with fail
  go_cut [9, 10] from 16 (fun s9 s10 wc => ∃ (va vs : Value) (F : List Nat), va = s9 ∧ vs = s10 ∧ TellE wc Z.heap.size va R ∧ TellE wc Z.heap.size vs Sn ∧ (∀ k, va.ownBlock = some k → k ∈ F) ∧ (∀ k, vs.ownBlock = some k → k ∈ F) ∧ LGF Q F (w.heap.size + 1) wc p st ∧ Below Z.heap.size Z wc)
  case first =>
    have hS0 : Below Z.heap.size Z Z.drew := (Below.refl _ _).drew
    refine wp_region_held_drew (S := (fun W => Below Z.heap.size Z W)) (by kernel_rfl) (by exact hS0) ?_
    intro hHeld
    generalize Z.drew = w0 at *
    refine wpAnyH_take (i := 0) (v := ?_) (by simp only [gA, gB, gC]; rfl) (by kernel_rfl) (by kernel_rfl) (by kernel_rfl) (by exact fun _ _ _ h => h) (Or.inl ⟨by rfl, ?_⟩) (by assumption) ?_; rotate_left; (focus (intro w hSw; (try dsimp only at hSw); go_simp; try with_reducible rfl)); (try simp only [Act.put, sA, sB, sC])
    refine wpAnyH_take (i := 1) (v := _) (by simp only [gA, gB, gC]; rfl) (by kernel_rfl) (by kernel_rfl) (by kernel_rfl) (by exact fun _ _ _ h => h) (yields_row (by rfl) _ rfl w.heap.size rfl (lab4 t) (fun _ q => (stab_blk _ _ _ _ hbt q).range) hundL rfl hsl) (by assumption) ?_; (try simp only [Act.put, sA, sB, sC])
    refine wpAnyH_take (i := 3) (v := ?_) (by simp only [gA, gB, gC]; rfl) (by kernel_rfl) (by kernel_rfl) (by kernel_rfl) (by exact fun _ _ _ h => h) (Or.inl ⟨by rfl, ?_⟩) (by assumption) ?_; rotate_left; (focus (intro w hSw; (try dsimp only at hSw); go_simp; try with_reducible rfl)); (try simp only [Act.put, sA, sB, sC])
    refine wpAnyH_take (i := 4) (v := _) (by simp only [gA, gB, gC]; rfl) (by kernel_rfl) (by kernel_rfl) (by kernel_rfl) (by exact fun _ _ _ h => h) (yields_row (by rfl) _ rfl w.heap.size rfl (lab4 t) (fun _ q => (stab_blk _ _ _ _ hbt q).range) hundL rfl hsl) (by assumption) ?_; (try simp only [Act.put, sA, sB, sC])
    refine wpAnyH_ready (rs := [2]) (by kernel_rfl) (by simp) ?_
    refine AllReadyH.cons (by simp only [gA, gB, gC]; rfl) (fun K hK => ?_) AllReadyH.nil
    go_simp
    go_at_call 13
    refine (kall w0 hS0).mono ?_
    rintro e w1 ⟨va, rfl, hoa, hb1⟩
    have hS1 := Below.then hS0 hb1
    refine hK.out _ _ (by exact hS1) ?_
    clear hHeld hK
    intro hHeld
    (try simp only [Act.put, sA, sB, sC])
    refine wpAnyH_ready (rs := [5]) (by kernel_rfl) (by simp) ?_
    refine AllReadyH.cons (by simp only [gA, gB, gC]; rfl) (fun K hK => ?_) AllReadyH.nil
    go_simp
    go_at_call 15
    refine (kseen w1 hS1).mono ?_
    rintro e w2 ⟨vs, rfl, hos, hb2⟩
    have hS2 := Below.then hS1 hb2
    refine hK.out _ _ (by exact hS2) ?_
    clear hHeld hK
    intro hHeld
    (try simp only [Act.put, sA, sB, sC])
    refine wpAnyH_take (i := 6) (v := ?_) (by simp only [gA, gB, gC]; rfl) (by kernel_rfl) (by kernel_rfl) (by kernel_rfl) (by exact fun _ _ _ h => h) (Or.inl ⟨by rfl, ?_⟩) (by assumption) ?_; rotate_left; (focus (intro w hSw; (try dsimp only at hSw); go_simp; try with_reducible rfl)); (try simp only [Act.put, sA, sB, sC])
    refine wpAnyH_take (i := 7) (v := ?_) (by simp only [gA, gB, gC]; rfl) (by kernel_rfl) (by kernel_rfl) (by kernel_rfl) (by exact fun _ _ _ h => h) (Or.inl ⟨by rfl, ?_⟩) (by assumption) ?_; rotate_left; (focus (intro w hSw; (try dsimp only at hSw); go_simp; try with_reducible rfl)); (try simp only [Act.put, sA, sB, sC])
    refine wpAnyH_done (by kernel_rfl) ?_ _
    have hz0 : Z.heap.size ≤ w0.heap.size := hS0.size
    have hoa2 := hoa.below hb2
    go_wp2_with fail
    go_meet
    refine ⟨va, vs, va.ownBlock.toList ++ vs.ownBlock.toList ++ [], rfl, rfl, hoa2.lower hz0, hos.lower (Nat.le_trans hz0 hb1.size), fun k hk => by simp [hk], fun k hk => by simp [hk], hL.more C hS2 _ (fun g hg => ?_), hS2⟩
    rcases List.mem_append.1 hg with hg | hg
    · have hg' : va.ownBlock = some g := by simpa using hg
      have q := hoa2.lt hg'
      exact ⟨Nat.le_trans hz0 q.1, q.2⟩
    · have hg' : vs.ownBlock = some g := by simpa using hg
      have q := hos.lt hg'
      exact ⟨Nat.le_trans (Nat.le_trans hz0 hb1.size) q.1, q.2⟩
  case rest =>
  clear kall kseen
  obtain ⟨va, vs, F, rfl, rfl, hoa, hos, hFa, hFs, hL2, hd⟩ := hcut
  have hz1 : w.heap.size + 1 ≤ Z.heap.size := hbt.2
  replace hbt := stab_blk _ _ _ _ hbt hd
  replace hB := Below.then hB hd
  clear hL
  generalize Z.heap.size = B1 at *
  clear hd
  go_wp2_with fail
  go_loopw [11] (fun t11 wr => ∃ (j : Nat) (st2 : List Ent), j ≤ m ∧ j ≤ 30 ∧ t11 = .int .i64 (j : Int) ∧ Aside (st2.length ≤ 30 + j) ∧ Aside (R <+: audAll st2 t) ∧ Aside (Sn.Sublist (audSeen st2 t)) ∧ LGF Q F (w.heap.size + 1) wr p st2 ∧ TellE wr B1 va R ∧ TellE wr B1 vs Sn ∧ BlkL w.heap.size (lab4 t) wr ∧ Below w.heap.size w wr) (fun t11 _ => 30 - (Go.RowKit.intOf t11).toNat)
  case atStart => exact ⟨0, st, by omega, by omega, rfl, hlen30, by rw [← hR.out]; exact List.prefix_refl _, by rw [← hSn.out]; exact List.Sublist.refl _, hL2, hoa, hos, hbt, hB⟩
  case round =>
  clear hL2 hoa hos hbt hB hR hSn hlen30
  obtain ⟨j, st2, hjm, hj30, rfl, hlen, hpre, hsub, hL, hoa, hos, hbt, hB⟩ := hrel
  by_cases hgo : j < m ∧ j < 30
  · obtain ⟨hi1, hi2⟩ := hgo
    have j1 : (j : Int) < (m : Int) := by omega
    have j2 : (j : Int) < 30 := by omega
    obtain ⟨x, hx⟩ : ∃ x, l2[j]? = some x := ⟨_, List.getElem?_eq_getElem (by rw [hm.out]; exact hi1)⟩
    obtain ⟨y, rfl, -⟩ := h2 j x hx
    have hrd := (h2.below ent_ok.len hB).at ent_ok.len hx
    clear hx
    go_wp2_with (first | (refine wpList_load_at rfl _ rfl (y.add (j * 9)) rfl (ecs x) hrd hundE rfl hse ?_) | fail)
    refine (agood_any x wr).mono ?_
    rintro e W6 ⟨rfl, hB6⟩
    have hm0 := goodE_may x
    obtain ⟨e0, he0⟩ : ∃ e0, goodE x = e0 := ⟨_, rfl⟩
    rw [he0] at hm0 ⊢
    have hL6 := hL.below C hB6
    have hbt6 := stab_blk _ _ _ _ hbt hB6
    have hB06 := Below.then hB hB6
    have kadd := hL6.add C e0 (may_small hm0) (by have := hbt6.2; omega) (by have := hlen.out; omega) (hI _ hB06)
    have hlen2 := add_lenA st2 e0
    have hlen3 : Aside ((audAdd st2 e0).length ≤ 30 + (j + 1)) := by have := hlen.out; exact Nat.le_trans hlen2 (by omega)
    have hpre2 : Aside (R <+: audAll (audAdd st2 e0) t) := List.IsPrefix.trans hpre.out (add_front hL.ok.sort e0 t)
    have hsub2 : Aside (Sn.Sublist (audSeen (audAdd st2 e0) t)) := List.Sublist.trans hsub.out (add_seen st2 e0 t)
    have hoa6 := hoa.below hB6
    have hos6 := hos.below hB6
    clear hL hbt hB hB6 hrd he0 hlen2 hoa hos
    go_wp2_with fail
    refine kadd.mono ?_
    rintro e W8 ⟨rfl, hL8, hk8, hF8⟩
    have hbt8 : BlkL w.heap.size (lab4 t) W8 := ⟨hbt6.1.same (hk8.block _ (by omega)), Nat.lt_of_lt_of_le hbt6.2 hk8.size⟩
    have hB8 : Below w.heap.size w W8 := hB06.trans (hk8.mono (by omega))
    have hoa8 := own_kept hoa6 hFa hF8
    have hos8 := own_kept hos6 hFs hF8
    clear kadd hk8 hbt6 hB06 hL6 hoa6 hos6 hF8
    go_wp2_with fail
    exact ⟨⟨j + 1, _, by omega, by omega, by simp, hlen3, hpre2, hsub2, hL8, hoa8, hos8, hbt8, hB8⟩, by simp [Go.RowKit.intOf]; omega⟩
  go_upto_region 13 with fail
  go_cut [59] from 52 to 68 (fun s59 wc => s59 = .bool false ∧ wc = wr)
  case first =>
    by_cases j1 : (j : Int) < (m : Int)
    · have j2 : ¬ (j : Int) < 30 := by omega
      go_wp2_with fail
      go_meet
      exact ⟨rfl, rfl⟩
    · go_wp2_with fail
      go_meet
      exact ⟨rfl, rfl⟩
  case rest =>
  obtain ⟨rfl, hwc⟩ := hcut
  replace hwc := hwc.symm
  subst hwc
  clear hgo
  have hlen60 : st2.length ≤ 60 := Nat.le_trans hlen.out (by omega)
  clear hlen
  obtain ⟨Y, hY⟩ : ∃ Y, Y = wr := ⟨_, rfl⟩
  subst hY
  obtain ⟨S1, q1, -⟩ := hL.q
  have ka := C.all t hGt Y (hI Y hB) q1 hL.ok (by omega)
  have hNle := all_le st2 t
  have hSle := seen_le st2 t
  have hov : ∀ x ∈ audSeen st2 t, rov t x.label = true := fun x hx => by simpa using (List.mem_filter.1 hx).2
  obtain ⟨N, hN⟩ : ∃ N, audAll st2 t = N := ⟨_, rfl⟩
  rw [hN] at ka hpre hNle
  clear hN
  obtain ⟨ra, rc, rfl, hra1, hra2, hrowa⟩ := hoa.sl
  obtain ⟨sa, sc, rfl, hsa1, hsa2, hrows⟩ := hos.sl
  have hrt := hbt.range
  go_wp2_with (first | (refine wpList_load_row rfl _ rfl w.heap.size rfl (lab4 t) hrt hundL rfl hsl ?_) | fail)
  refine ka.mono ?_
  rintro e W9 ⟨vn, rfl, hon, hB9⟩
  obtain ⟨na, nc, rfl, hna1, hna2, hrown⟩ := hon.sl
  obtain ⟨nr, hnr⟩ : ∃ nr, R.length = nr := ⟨_, rfl⟩
  obtain ⟨nn, hnn⟩ : ∃ nn, N.length = nn := ⟨_, rfl⟩
  have hrn : nr ≤ nn := by rw [← hnr, ← hnn]; exact hpre.out.length_le
  obtain ⟨A1, hs1, -, hr1⟩ := rows_take ent_ok (by kernel_rfl) na nn nc nr hrn (by rw [← hnn]; exact hna1)
  have htk : N.take nr = R := by
    have := List.prefix_iff_eq_take.1 hpre.out
    rw [hnr] at this
    exact this.symm
  have hrow9 := hr1 W9 N hrown
  rw [htk] at hrow9
  have ks := same_any A1 ra nc rc R (by omega) W9 hrow9 (hrowa.below ent_ok.len hB9)
  rw [hnr] at ks
  have hL9 := hL.below C hB9
  have hbt9 := stab_blk _ _ _ _ hbt hB9
  have hB99 := Below.then hB hB9
  have hrows9 := hrows.below ent_ok.len hB9
  rw [hnr, hnn]
  have j3 : ¬ (nn : Int) < (nr : Int) := by omega
  clear ka hrt hL hbt hB hB9 hrows hrowa hrown hon hoa hos q1 hpre htk hrow9
  replace hnr : Aside _ := hnr
  replace hnn : Aside _ := hnn
  go_wp2_with fail
  refine ks.mono ?_
  rintro e W10 ⟨rfl, hB10⟩
  have hL10 := hL9.below C hB10
  have hbt10 := stab_blk _ _ _ _ hbt9 hB10
  have hB100 := Below.then hB99 hB10
  have hrows10 := hrows9.below ent_ok.len hB10
  clear ks hL9 hbt9 hB99 hrows9 hB10
  obtain ⟨S1, q1, -⟩ := hL10.q
  have ka := C.seen t hGt W10 (hI W10 hB100) q1 hL10.ok (by omega)
  obtain ⟨A2, hA2⟩ : ∃ A2, audSeen st2 t = A2 := ⟨_, rfl⟩
  rw [hA2] at ka hov hsub hSle
  clear hA2
  have hrt := hbt10.range
  go_wp2_with (first | (refine wpList_load_row rfl _ rfl w.heap.size rfl (lab4 t) hrt hundL rfl hsl ?_) | fail)
  refine ka.mono ?_
  rintro e W11 ⟨v11, rfl, ho11, hB11⟩
  obtain ⟨xa, xc, rfl, -, -, hrowx⟩ := ho11.sl
  have hbt11 := stab_blk _ _ _ _ hbt10 hB11
  have hB111 := Below.then hB100 hB11
  have hrows11 := hrows10.below ent_ok.len hB11
  have hmet := met_sub hsub.out
  obtain ⟨nx, hnx⟩ : ∃ nx, A2.length = nx := ⟨_, rfl⟩
  obtain ⟨ns, hns⟩ : ∃ ns, Sn.length = ns := ⟨_, rfl⟩
  rw [hnx] at hSle ⊢
  rw [hns] at hmet ⊢
  replace hnx : Aside (A2.length = nx) := hnx
  replace hns : Aside (Sn.length = ns) := hns
  clear ka hrt q1 hL10 hbt10 hB100 hrows10 hB11 ho11 hsub
  go_wp2_with fail
  go_loopw [14, 15] (fun t14 t15 wr => ∃ i c : Nat, i ≤ nx ∧ c ≤ i ∧ t15 = .int .i64 (i : Int) ∧ t14 = .int .i64 (c : Int) ∧ Aside (metE Sn (A2.drop i) c = ns) ∧ Below W11.heap.size W11 wr) (fun _ t15 _ => nx - (Go.RowKit.intOf t15).toNat)
  case atStart => exact ⟨0, 0, by omega, by omega, rfl, rfl, hmet, Below.refl _ _⟩
  case round =>
  clear hmet
  obtain ⟨i2, c, hi2, hci, rfl, rfl, hmet, hBr⟩ := hrel
  by_cases hlt : i2 < nx
  rotate_left
  · obtain rfl : i2 = nx := by omega
    have hfin := Below.then hB111 hBr
    have hcn : c = ns := by
      have := hmet.out
      rw [List.drop_eq_nil_of_le (by rw [hnx.out]; exact Nat.le_refl _)] at this
      exact this
    subst hcn
    have i0 : ¬ (i2 : Int) < (i2 : Int) := by omega
    go_wp2_with fail
    go_ret
    exact ⟨rfl, hfin⟩
  obtain ⟨x, hx⟩ : ∃ x, A2[i2]? = some x := ⟨_, List.getElem?_eq_getElem (by rw [hnx.out]; exact hlt)⟩
  have hrv := hov x (List.mem_of_getElem? hx)
  have hmet2 := hmet.out
  have hxe := List.getElem?_eq_some_iff.1 hx
  rw [List.drop_eq_getElem_cons hxe.1, hxe.2, metE] at hmet2
  obtain ⟨yx, rfl, -⟩ := hrowx i2 x hx
  have hrdx : ∀ W, Below W11.heap.size W11 W → CellsAt W (yx.add (i2 * 9)) (ecs x) := fun W q => (hrowx.below ent_ok.len q).at ent_ok.len hx
  have kv := rlover_any t x.label
  rw [hrv] at kv
  have hS : (fun W => Below W11.heap.size W11 W) wr.drew := Below.then hBr (Below.refl wr.heap.size wr).drew
  have i1 : (i2 : Int) < (nx : Int) := by omega
  replace hmet2 : Aside _ := hmet2
  clear hmet hxe
  go_upto_region 24 with fail
  refine wp_region_held_drew (S := (fun W => Below W11.heap.size W11 W)) (by kernel_rfl) (by first | exact hS1 | exact hS) ?_
  intro hHeld
  (first | (refine wpAnyH_take (i := 0) (v := _) (by simp only [gA, gB, gC]; rfl) (by kernel_rfl) (by kernel_rfl) (by kernel_rfl) (by exact fun _ _ _ h => h) (yields_row (by rfl) _ rfl w.heap.size rfl (lab4 t) (fun _ q => (stab_blk _ _ _ _ hbt11 q).range) hundL rfl hsl) (by assumption) ?_) | (refine wpAnyH_take (i := 0) (v := undef) (by simp only [gA, gB, gC]; rfl) (by kernel_rfl) (by kernel_rfl) (by kernel_rfl) (by exact fun _ _ _ h => h) (Or.inr ⟨by rfl, rfl⟩) (by assumption) ?_) | fail); simp only [Act.put, sA, sB, sC, Bool.not_true, Bool.not_false]
  (first | (refine wpAnyH_take (i := 1) (v := ?_) (by simp only [gA, gB, gC]; rfl) (by kernel_rfl) (by kernel_rfl) (by kernel_rfl) (by exact fun _ _ _ h => h) (Or.inl ⟨by rfl, ?_⟩) (by assumption) ?_; rotate_left; (focus (intro w hSw; (try dsimp only at hSw); go_simp; try with_reducible rfl))) | (refine wpAnyH_take (i := 1) (v := undef) (by simp only [gA, gB, gC]; rfl) (by kernel_rfl) (by kernel_rfl) (by kernel_rfl) (by exact fun _ _ _ h => h) (Or.inr ⟨by rfl, rfl⟩) (by assumption) ?_) | fail); simp only [Act.put, sA, sB, sC, Bool.not_true, Bool.not_false]
  (first | (refine wpAnyH_take (i := 2) (v := ?_) (by simp only [gA, gB, gC]; rfl) (by kernel_rfl) (by kernel_rfl) (by kernel_rfl) (by exact fun _ _ _ h => h) (Or.inl ⟨by rfl, ?_⟩) (by assumption) ?_; rotate_left; (focus (intro w hSw; (try dsimp only at hSw); go_simp; try with_reducible rfl))) | (refine wpAnyH_take (i := 2) (v := undef) (by simp only [gA, gB, gC]; rfl) (by kernel_rfl) (by kernel_rfl) (by kernel_rfl) (by exact fun _ _ _ h => h) (Or.inr ⟨by rfl, rfl⟩) (by assumption) ?_) | fail); simp only [Act.put, sA, sB, sC, Bool.not_true, Bool.not_false]
  (first | (refine wpAnyH_take (i := 3) (v := ?_) (by simp only [gA, gB, gC]; rfl) (by kernel_rfl) (by kernel_rfl) (by kernel_rfl) (by exact fun _ _ _ h => h) (Or.inl ⟨by rfl, ?_⟩) (by assumption) ?_; rotate_left; (focus (intro w hSw; (try dsimp only at hSw); go_simp; try with_reducible rfl))) | (refine wpAnyH_take (i := 3) (v := undef) (by simp only [gA, gB, gC]; rfl) (by kernel_rfl) (by kernel_rfl) (by kernel_rfl) (by exact fun _ _ _ h => h) (Or.inr ⟨by rfl, rfl⟩) (by assumption) ?_) | fail); simp only [Act.put, sA, sB, sC, Bool.not_true, Bool.not_false]
  (first | (refine wpAnyH_take (i := 4) (v := ?_) (by simp only [gA, gB, gC]; rfl) (by kernel_rfl) (by kernel_rfl) (by kernel_rfl) (by exact fun _ _ _ h => h) (Or.inl ⟨by rfl, ?_⟩) (by assumption) ?_; rotate_left; (focus (intro w hSw; (try dsimp only at hSw); go_simp; try with_reducible rfl))) | (refine wpAnyH_take (i := 4) (v := undef) (by simp only [gA, gB, gC]; rfl) (by kernel_rfl) (by kernel_rfl) (by kernel_rfl) (by exact fun _ _ _ h => h) (Or.inr ⟨by rfl, rfl⟩) (by assumption) ?_) | fail); simp only [Act.put, sA, sB, sC, Bool.not_true, Bool.not_false]
  (first | (refine wpAnyH_take (i := 5) (v := _) (by simp only [gA, gB, gC]; rfl) (by kernel_rfl) (by kernel_rfl) (by kernel_rfl) (by exact fun _ _ _ h => h) (yields_at (by rfl) _ rfl _ rfl (lab4 x.label) (fun W q => ent_lab (hrdx W q)) hundL rfl hsl) (by assumption) ?_) | (refine wpAnyH_take (i := 5) (v := undef) (by simp only [gA, gB, gC]; rfl) (by kernel_rfl) (by kernel_rfl) (by kernel_rfl) (by exact fun _ _ _ h => h) (Or.inr ⟨by rfl, rfl⟩) (by assumption) ?_) | fail); simp only [Act.put, sA, sB, sC, Bool.not_true, Bool.not_false]
  first | (refine wpAnyH_take (i := 6) (v := undef) (by simp only [gA, gB, gC]; rfl) (by kernel_rfl) (by kernel_rfl) (by kernel_rfl) (by exact fun _ _ _ h => h) (Or.inr ⟨by rfl, rfl⟩) (by assumption) ?_; simp only [Act.put, sA, sB, sC, Bool.not_true, Bool.not_false]) | (refine wpAnyH_ready (rs := [6]) (by kernel_rfl) (by simp) ?_; refine AllReadyH.cons (by simp only [gA, gB, gC]; rfl) (fun K hK => ?_) AllReadyH.nil; go_simp; (first | (go_at_call 17; refine (kv _).mono ?_; rintro e W12 ⟨rfl, hB12⟩; have hS1 : (fun W => Below W11.heap.size W11 W) W12 := Below.then hS hB12)); refine hK.out _ _ (by first | exact hS1 | exact hS) ?_; clear hHeld hK; intro hHeld; (try simp only [Act.put, sA, sB, sC, Bool.not_true, Bool.not_false])) | fail
  (first | (refine wpAnyH_take (i := 7) (v := ?_) (by simp only [gA, gB, gC]; rfl) (by kernel_rfl) (by kernel_rfl) (by kernel_rfl) (by exact fun _ _ _ h => h) (Or.inl ⟨by rfl, ?_⟩) (by assumption) ?_; rotate_left; (focus (intro w hSw; (try dsimp only at hSw); go_simp; try with_reducible rfl))) | (refine wpAnyH_take (i := 7) (v := undef) (by simp only [gA, gB, gC]; rfl) (by kernel_rfl) (by kernel_rfl) (by kernel_rfl) (by exact fun _ _ _ h => h) (Or.inr ⟨by rfl, rfl⟩) (by assumption) ?_) | fail); simp only [Act.put, sA, sB, sC, Bool.not_true, Bool.not_false]
  refine wpAnyH_done (by kernel_rfl) ?_ _
  go_upto_region 26 with fail
  have hS2 : (fun W => Below W11.heap.size W11 W) W12.drew := Below.then hS1 (Below.refl W12.heap.size W12).drew
  clear hS hS1 kv
  by_cases hc : c < ns
  · obtain ⟨z, hz⟩ : ∃ z, Sn[c]? = some z := ⟨_, List.getElem?_eq_getElem (by rw [hns.out]; exact hc)⟩
    have hisE : isE Sn c x = entEq x z := by unfold isE; rw [hz]; rfl
    rw [hisE] at hmet2
    obtain ⟨yz, rfl, -⟩ := hrows11 c z hz
    have hrdz : ∀ W, Below W11.heap.size W11 W → CellsAt W (yz.add (c * 9)) (ecs z) := fun W q => (hrows11.below ent_ok.len q).at ent_ok.len hz
    have hnq : ∀ W, (binOp .eql 26 (.agg (ecs x).toArray) (.agg (ecs z).toArray)).run Tryd.prog W = .ok (.bool (entEq x z)) W := run_eql_ent x z
    have k1 : (c : Int) < (ns : Int) := by omega
    clear hx hz hisE
    cases hq : entEq x z
    · rw [hq] at hnq hmet2
      refine wp_region_held_drew (S := (fun W => Below W11.heap.size W11 W)) (by kernel_rfl) (by exact hS2) ?_
      intro hHeld
      (first | (refine wpAnyH_take (i := 0) (v := ?_) (by simp only [gA, gB, gC]; rfl) (by kernel_rfl) (by kernel_rfl) (by kernel_rfl) (by exact fun _ _ _ h => h) (Or.inl ⟨by rfl, ?_⟩) (by assumption) ?_; rotate_left; (focus (intro w hSw; (try dsimp only at hSw); go_simp; try with_reducible rfl))) | (refine wpAnyH_take (i := 0) (v := undef) (by simp only [gA, gB, gC]; rfl) (by kernel_rfl) (by kernel_rfl) (by kernel_rfl) (by exact fun _ _ _ h => h) (Or.inr ⟨by rfl, rfl⟩) (by assumption) ?_) | fail); simp only [Act.put, sA, sB, sC]
      (first | (refine wpAnyH_take (i := 1) (v := ?_) (by simp only [gA, gB, gC]; rfl) (by kernel_rfl) (by kernel_rfl) (by kernel_rfl) (by exact fun _ _ _ h => h) (Or.inl ⟨by rfl, ?_⟩) (by assumption) ?_; rotate_left; (focus (intro w hSw; (try dsimp only at hSw); go_simp; try with_reducible rfl))) | (refine wpAnyH_take (i := 1) (v := undef) (by simp only [gA, gB, gC]; rfl) (by kernel_rfl) (by kernel_rfl) (by kernel_rfl) (by exact fun _ _ _ h => h) (Or.inr ⟨by rfl, rfl⟩) (by assumption) ?_) | fail); simp only [Act.put, sA, sB, sC]
      (first | (refine wpAnyH_take (i := 2) (v := ?_) (by simp only [gA, gB, gC]; rfl) (by kernel_rfl) (by kernel_rfl) (by kernel_rfl) (by exact fun _ _ _ h => h) (Or.inl ⟨by rfl, ?_⟩) (by assumption) ?_; rotate_left; (focus (intro w hSw; (try dsimp only at hSw); go_simp; try with_reducible rfl))) | (refine wpAnyH_take (i := 2) (v := undef) (by simp only [gA, gB, gC]; rfl) (by kernel_rfl) (by kernel_rfl) (by kernel_rfl) (by exact fun _ _ _ h => h) (Or.inr ⟨by rfl, rfl⟩) (by assumption) ?_) | fail); simp only [Act.put, sA, sB, sC]
      (first | (refine wpAnyH_take (i := 3) (v := ?_) (by simp only [gA, gB, gC]; rfl) (by kernel_rfl) (by kernel_rfl) (by kernel_rfl) (by exact fun _ _ _ h => h) (Or.inl ⟨by rfl, ?_⟩) (by assumption) ?_; rotate_left; (focus (intro w hSw; (try dsimp only at hSw); go_simp; try with_reducible rfl))) | (refine wpAnyH_take (i := 3) (v := undef) (by simp only [gA, gB, gC]; rfl) (by kernel_rfl) (by kernel_rfl) (by kernel_rfl) (by exact fun _ _ _ h => h) (Or.inr ⟨by rfl, rfl⟩) (by assumption) ?_) | fail); simp only [Act.put, sA, sB, sC]
      (first | (refine wpAnyH_take (i := 4) (v := ?_) (by simp only [gA, gB, gC]; rfl) (by kernel_rfl) (by kernel_rfl) (by kernel_rfl) (by exact fun _ _ _ h => h) (Or.inl ⟨by rfl, ?_⟩) (by assumption) ?_; rotate_left; (focus (intro w hSw; (try dsimp only at hSw); go_simp; try with_reducible rfl))) | (refine wpAnyH_take (i := 4) (v := undef) (by simp only [gA, gB, gC]; rfl) (by kernel_rfl) (by kernel_rfl) (by kernel_rfl) (by exact fun _ _ _ h => h) (Or.inr ⟨by rfl, rfl⟩) (by assumption) ?_) | fail); simp only [Act.put, sA, sB, sC]
      (first | (refine wpAnyH_take (i := 5) (v := ?_) (by simp only [gA, gB, gC]; rfl) (by kernel_rfl) (by kernel_rfl) (by kernel_rfl) (by exact fun _ _ _ h => h) (Or.inl ⟨by rfl, ?_⟩) (by assumption) ?_; rotate_left; (focus (intro w hSw; (try dsimp only at hSw); go_simp; try with_reducible rfl))) | (refine wpAnyH_take (i := 5) (v := undef) (by simp only [gA, gB, gC]; rfl) (by kernel_rfl) (by kernel_rfl) (by kernel_rfl) (by exact fun _ _ _ h => h) (Or.inr ⟨by rfl, rfl⟩) (by assumption) ?_) | fail); simp only [Act.put, sA, sB, sC]
      (first | (refine wpAnyH_take (i := 6) (v := ?_) (by simp only [gA, gB, gC]; rfl) (by kernel_rfl) (by kernel_rfl) (by kernel_rfl) (by exact fun _ _ _ h => h) (Or.inl ⟨by rfl, ?_⟩) (by assumption) ?_; rotate_left; (focus (intro w hSw; (try dsimp only at hSw); go_simp; try with_reducible rfl))) | (refine wpAnyH_take (i := 6) (v := undef) (by simp only [gA, gB, gC]; rfl) (by kernel_rfl) (by kernel_rfl) (by kernel_rfl) (by exact fun _ _ _ h => h) (Or.inr ⟨by rfl, rfl⟩) (by assumption) ?_) | fail); simp only [Act.put, sA, sB, sC]
      (first | (refine wpAnyH_take (i := 7) (v := ?_) (by simp only [gA, gB, gC]; rfl) (by kernel_rfl) (by kernel_rfl) (by kernel_rfl) (by exact fun _ _ _ h => h) (Or.inl ⟨by rfl, ?_⟩) (by assumption) ?_; rotate_left; (focus (intro w hSw; (try dsimp only at hSw); go_simp; try with_reducible rfl))) | (refine wpAnyH_take (i := 7) (v := undef) (by simp only [gA, gB, gC]; rfl) (by kernel_rfl) (by kernel_rfl) (by kernel_rfl) (by exact fun _ _ _ h => h) (Or.inr ⟨by rfl, rfl⟩) (by assumption) ?_) | fail); simp only [Act.put, sA, sB, sC]
      (first | (refine wpAnyH_take (i := 8) (v := _) (by simp only [gA, gB, gC]; rfl) (by kernel_rfl) (by kernel_rfl) (by kernel_rfl) (by exact fun _ _ _ h => h) (yields_at (by rfl) _ rfl _ rfl (ecs x) (fun W q => hrdx W q) hundE rfl hse) (by assumption) ?_) | (refine wpAnyH_take (i := 8) (v := undef) (by simp only [gA, gB, gC]; rfl) (by kernel_rfl) (by kernel_rfl) (by kernel_rfl) (by exact fun _ _ _ h => h) (Or.inr ⟨by rfl, rfl⟩) (by assumption) ?_) | fail); simp only [Act.put, sA, sB, sC]
      (first | (refine wpAnyH_take (i := 9) (v := ?_) (by simp only [gA, gB, gC]; rfl) (by kernel_rfl) (by kernel_rfl) (by kernel_rfl) (by exact fun _ _ _ h => h) (Or.inl ⟨by rfl, ?_⟩) (by assumption) ?_; rotate_left; (focus (intro w hSw; (try dsimp only at hSw); go_simp; try with_reducible rfl))) | (refine wpAnyH_take (i := 9) (v := undef) (by simp only [gA, gB, gC]; rfl) (by kernel_rfl) (by kernel_rfl) (by kernel_rfl) (by exact fun _ _ _ h => h) (Or.inr ⟨by rfl, rfl⟩) (by assumption) ?_) | fail); simp only [Act.put, sA, sB, sC]
      (first | (refine wpAnyH_take (i := 10) (v := ?_) (by simp only [gA, gB, gC]; rfl) (by kernel_rfl) (by kernel_rfl) (by kernel_rfl) (by exact fun _ _ _ h => h) (Or.inl ⟨by rfl, ?_⟩) (by assumption) ?_; rotate_left; (focus (intro w hSw; (try dsimp only at hSw); go_simp; try with_reducible rfl))) | (refine wpAnyH_take (i := 10) (v := undef) (by simp only [gA, gB, gC]; rfl) (by kernel_rfl) (by kernel_rfl) (by kernel_rfl) (by exact fun _ _ _ h => h) (Or.inr ⟨by rfl, rfl⟩) (by assumption) ?_) | fail); simp only [Act.put, sA, sB, sC]
      (first | (refine wpAnyH_take (i := 11) (v := ?_) (by simp only [gA, gB, gC]; rfl) (by kernel_rfl) (by kernel_rfl) (by kernel_rfl) (by exact fun _ _ _ h => h) (Or.inl ⟨by rfl, ?_⟩) (by assumption) ?_; rotate_left; (focus (intro w hSw; (try dsimp only at hSw); go_simp; try with_reducible rfl))) | (refine wpAnyH_take (i := 11) (v := undef) (by simp only [gA, gB, gC]; rfl) (by kernel_rfl) (by kernel_rfl) (by kernel_rfl) (by exact fun _ _ _ h => h) (Or.inr ⟨by rfl, rfl⟩) (by assumption) ?_) | fail); simp only [Act.put, sA, sB, sC]
      (first | (refine wpAnyH_take (i := 12) (v := _) (by simp only [gA, gB, gC]; rfl) (by kernel_rfl) (by kernel_rfl) (by kernel_rfl) (by exact fun _ _ _ h => h) (yields_at (by rfl) _ rfl _ rfl (ecs z) (fun W q => hrdz W q) hundE rfl hse) (by assumption) ?_) | (refine wpAnyH_take (i := 12) (v := undef) (by simp only [gA, gB, gC]; rfl) (by kernel_rfl) (by kernel_rfl) (by kernel_rfl) (by exact fun _ _ _ h => h) (Or.inr ⟨by rfl, rfl⟩) (by assumption) ?_) | fail); simp only [Act.put, sA, sB, sC]
      (first | (refine wpAnyH_take (i := 13) (v := ?_) (by simp only [gA, gB, gC]; rfl) (by kernel_rfl) (by kernel_rfl) (by kernel_rfl) (by exact fun _ _ _ h => h) (Or.inl ⟨by rfl, ?_⟩) (by assumption) ?_; rotate_left; (focus (intro w hSw; (try dsimp only at hSw); go_simp; try with_reducible rfl))) | (refine wpAnyH_take (i := 13) (v := undef) (by simp only [gA, gB, gC]; rfl) (by kernel_rfl) (by kernel_rfl) (by kernel_rfl) (by exact fun _ _ _ h => h) (Or.inr ⟨by rfl, rfl⟩) (by assumption) ?_) | fail); simp only [Act.put, sA, sB, sC]
      (first | (refine wpAnyH_take (i := 14) (v := ?_) (by simp only [gA, gB, gC]; rfl) (by kernel_rfl) (by kernel_rfl) (by kernel_rfl) (by exact fun _ _ _ h => h) (Or.inl ⟨by rfl, ?_⟩) (by assumption) ?_; rotate_left; (focus (intro w hSw; (try dsimp only at hSw); go_simp; try with_reducible rfl))) | (refine wpAnyH_take (i := 14) (v := undef) (by simp only [gA, gB, gC]; rfl) (by kernel_rfl) (by kernel_rfl) (by kernel_rfl) (by exact fun _ _ _ h => h) (Or.inr ⟨by rfl, rfl⟩) (by assumption) ?_) | fail); simp only [Act.put, sA, sB, sC]
      refine wpAnyH_done (by kernel_rfl) ?_ _
      go_wp2_with fail
      exact ⟨⟨i2 + 1, c, by omega, by omega, by simp, rfl, hmet2.out, hS2⟩, by simp [Go.RowKit.intOf]; omega⟩
    · rw [hq] at hnq hmet2
      refine wp_region_held_drew (S := (fun W => Below W11.heap.size W11 W)) (by kernel_rfl) (by exact hS2) ?_
      intro hHeld
      (first | (refine wpAnyH_take (i := 0) (v := ?_) (by simp only [gA, gB, gC]; rfl) (by kernel_rfl) (by kernel_rfl) (by kernel_rfl) (by exact fun _ _ _ h => h) (Or.inl ⟨by rfl, ?_⟩) (by assumption) ?_; rotate_left; (focus (intro w hSw; (try dsimp only at hSw); go_simp; try with_reducible rfl))) | (refine wpAnyH_take (i := 0) (v := undef) (by simp only [gA, gB, gC]; rfl) (by kernel_rfl) (by kernel_rfl) (by kernel_rfl) (by exact fun _ _ _ h => h) (Or.inr ⟨by rfl, rfl⟩) (by assumption) ?_) | fail); simp only [Act.put, sA, sB, sC]
      (first | (refine wpAnyH_take (i := 1) (v := ?_) (by simp only [gA, gB, gC]; rfl) (by kernel_rfl) (by kernel_rfl) (by kernel_rfl) (by exact fun _ _ _ h => h) (Or.inl ⟨by rfl, ?_⟩) (by assumption) ?_; rotate_left; (focus (intro w hSw; (try dsimp only at hSw); go_simp; try with_reducible rfl))) | (refine wpAnyH_take (i := 1) (v := undef) (by simp only [gA, gB, gC]; rfl) (by kernel_rfl) (by kernel_rfl) (by kernel_rfl) (by exact fun _ _ _ h => h) (Or.inr ⟨by rfl, rfl⟩) (by assumption) ?_) | fail); simp only [Act.put, sA, sB, sC]
      (first | (refine wpAnyH_take (i := 2) (v := ?_) (by simp only [gA, gB, gC]; rfl) (by kernel_rfl) (by kernel_rfl) (by kernel_rfl) (by exact fun _ _ _ h => h) (Or.inl ⟨by rfl, ?_⟩) (by assumption) ?_; rotate_left; (focus (intro w hSw; (try dsimp only at hSw); go_simp; try with_reducible rfl))) | (refine wpAnyH_take (i := 2) (v := undef) (by simp only [gA, gB, gC]; rfl) (by kernel_rfl) (by kernel_rfl) (by kernel_rfl) (by exact fun _ _ _ h => h) (Or.inr ⟨by rfl, rfl⟩) (by assumption) ?_) | fail); simp only [Act.put, sA, sB, sC]
      (first | (refine wpAnyH_take (i := 3) (v := ?_) (by simp only [gA, gB, gC]; rfl) (by kernel_rfl) (by kernel_rfl) (by kernel_rfl) (by exact fun _ _ _ h => h) (Or.inl ⟨by rfl, ?_⟩) (by assumption) ?_; rotate_left; (focus (intro w hSw; (try dsimp only at hSw); go_simp; try with_reducible rfl))) | (refine wpAnyH_take (i := 3) (v := undef) (by simp only [gA, gB, gC]; rfl) (by kernel_rfl) (by kernel_rfl) (by kernel_rfl) (by exact fun _ _ _ h => h) (Or.inr ⟨by rfl, rfl⟩) (by assumption) ?_) | fail); simp only [Act.put, sA, sB, sC]
      (first | (refine wpAnyH_take (i := 4) (v := ?_) (by simp only [gA, gB, gC]; rfl) (by kernel_rfl) (by kernel_rfl) (by kernel_rfl) (by exact fun _ _ _ h => h) (Or.inl ⟨by rfl, ?_⟩) (by assumption) ?_; rotate_left; (focus (intro w hSw; (try dsimp only at hSw); go_simp; try with_reducible rfl))) | (refine wpAnyH_take (i := 4) (v := undef) (by simp only [gA, gB, gC]; rfl) (by kernel_rfl) (by kernel_rfl) (by kernel_rfl) (by exact fun _ _ _ h => h) (Or.inr ⟨by rfl, rfl⟩) (by assumption) ?_) | fail); simp only [Act.put, sA, sB, sC]
      (first | (refine wpAnyH_take (i := 5) (v := ?_) (by simp only [gA, gB, gC]; rfl) (by kernel_rfl) (by kernel_rfl) (by kernel_rfl) (by exact fun _ _ _ h => h) (Or.inl ⟨by rfl, ?_⟩) (by assumption) ?_; rotate_left; (focus (intro w hSw; (try dsimp only at hSw); go_simp; try with_reducible rfl))) | (refine wpAnyH_take (i := 5) (v := undef) (by simp only [gA, gB, gC]; rfl) (by kernel_rfl) (by kernel_rfl) (by kernel_rfl) (by exact fun _ _ _ h => h) (Or.inr ⟨by rfl, rfl⟩) (by assumption) ?_) | fail); simp only [Act.put, sA, sB, sC]
      (first | (refine wpAnyH_take (i := 6) (v := ?_) (by simp only [gA, gB, gC]; rfl) (by kernel_rfl) (by kernel_rfl) (by kernel_rfl) (by exact fun _ _ _ h => h) (Or.inl ⟨by rfl, ?_⟩) (by assumption) ?_; rotate_left; (focus (intro w hSw; (try dsimp only at hSw); go_simp; try with_reducible rfl))) | (refine wpAnyH_take (i := 6) (v := undef) (by simp only [gA, gB, gC]; rfl) (by kernel_rfl) (by kernel_rfl) (by kernel_rfl) (by exact fun _ _ _ h => h) (Or.inr ⟨by rfl, rfl⟩) (by assumption) ?_) | fail); simp only [Act.put, sA, sB, sC]
      (first | (refine wpAnyH_take (i := 7) (v := ?_) (by simp only [gA, gB, gC]; rfl) (by kernel_rfl) (by kernel_rfl) (by kernel_rfl) (by exact fun _ _ _ h => h) (Or.inl ⟨by rfl, ?_⟩) (by assumption) ?_; rotate_left; (focus (intro w hSw; (try dsimp only at hSw); go_simp; try with_reducible rfl))) | (refine wpAnyH_take (i := 7) (v := undef) (by simp only [gA, gB, gC]; rfl) (by kernel_rfl) (by kernel_rfl) (by kernel_rfl) (by exact fun _ _ _ h => h) (Or.inr ⟨by rfl, rfl⟩) (by assumption) ?_) | fail); simp only [Act.put, sA, sB, sC]
      (first | (refine wpAnyH_take (i := 8) (v := _) (by simp only [gA, gB, gC]; rfl) (by kernel_rfl) (by kernel_rfl) (by kernel_rfl) (by exact fun _ _ _ h => h) (yields_at (by rfl) _ rfl _ rfl (ecs x) (fun W q => hrdx W q) hundE rfl hse) (by assumption) ?_) | (refine wpAnyH_take (i := 8) (v := undef) (by simp only [gA, gB, gC]; rfl) (by kernel_rfl) (by kernel_rfl) (by kernel_rfl) (by exact fun _ _ _ h => h) (Or.inr ⟨by rfl, rfl⟩) (by assumption) ?_) | fail); simp only [Act.put, sA, sB, sC]
      (first | (refine wpAnyH_take (i := 9) (v := ?_) (by simp only [gA, gB, gC]; rfl) (by kernel_rfl) (by kernel_rfl) (by kernel_rfl) (by exact fun _ _ _ h => h) (Or.inl ⟨by rfl, ?_⟩) (by assumption) ?_; rotate_left; (focus (intro w hSw; (try dsimp only at hSw); go_simp; try with_reducible rfl))) | (refine wpAnyH_take (i := 9) (v := undef) (by simp only [gA, gB, gC]; rfl) (by kernel_rfl) (by kernel_rfl) (by kernel_rfl) (by exact fun _ _ _ h => h) (Or.inr ⟨by rfl, rfl⟩) (by assumption) ?_) | fail); simp only [Act.put, sA, sB, sC]
      (first | (refine wpAnyH_take (i := 10) (v := ?_) (by simp only [gA, gB, gC]; rfl) (by kernel_rfl) (by kernel_rfl) (by kernel_rfl) (by exact fun _ _ _ h => h) (Or.inl ⟨by rfl, ?_⟩) (by assumption) ?_; rotate_left; (focus (intro w hSw; (try dsimp only at hSw); go_simp; try with_reducible rfl))) | (refine wpAnyH_take (i := 10) (v := undef) (by simp only [gA, gB, gC]; rfl) (by kernel_rfl) (by kernel_rfl) (by kernel_rfl) (by exact fun _ _ _ h => h) (Or.inr ⟨by rfl, rfl⟩) (by assumption) ?_) | fail); simp only [Act.put, sA, sB, sC]
      (first | (refine wpAnyH_take (i := 11) (v := ?_) (by simp only [gA, gB, gC]; rfl) (by kernel_rfl) (by kernel_rfl) (by kernel_rfl) (by exact fun _ _ _ h => h) (Or.inl ⟨by rfl, ?_⟩) (by assumption) ?_; rotate_left; (focus (intro w hSw; (try dsimp only at hSw); go_simp; try with_reducible rfl))) | (refine wpAnyH_take (i := 11) (v := undef) (by simp only [gA, gB, gC]; rfl) (by kernel_rfl) (by kernel_rfl) (by kernel_rfl) (by exact fun _ _ _ h => h) (Or.inr ⟨by rfl, rfl⟩) (by assumption) ?_) | fail); simp only [Act.put, sA, sB, sC]
      (first | (refine wpAnyH_take (i := 12) (v := _) (by simp only [gA, gB, gC]; rfl) (by kernel_rfl) (by kernel_rfl) (by kernel_rfl) (by exact fun _ _ _ h => h) (yields_at (by rfl) _ rfl _ rfl (ecs z) (fun W q => hrdz W q) hundE rfl hse) (by assumption) ?_) | (refine wpAnyH_take (i := 12) (v := undef) (by simp only [gA, gB, gC]; rfl) (by kernel_rfl) (by kernel_rfl) (by kernel_rfl) (by exact fun _ _ _ h => h) (Or.inr ⟨by rfl, rfl⟩) (by assumption) ?_) | fail); simp only [Act.put, sA, sB, sC]
      (first | (refine wpAnyH_take (i := 13) (v := ?_) (by simp only [gA, gB, gC]; rfl) (by kernel_rfl) (by kernel_rfl) (by kernel_rfl) (by exact fun _ _ _ h => h) (Or.inl ⟨by rfl, ?_⟩) (by assumption) ?_; rotate_left; (focus (intro w hSw; (try dsimp only at hSw); go_simp; try with_reducible rfl))) | (refine wpAnyH_take (i := 13) (v := undef) (by simp only [gA, gB, gC]; rfl) (by kernel_rfl) (by kernel_rfl) (by kernel_rfl) (by exact fun _ _ _ h => h) (Or.inr ⟨by rfl, rfl⟩) (by assumption) ?_) | fail); simp only [Act.put, sA, sB, sC]
      (first | (refine wpAnyH_take (i := 14) (v := ?_) (by simp only [gA, gB, gC]; rfl) (by kernel_rfl) (by kernel_rfl) (by kernel_rfl) (by exact fun _ _ _ h => h) (Or.inl ⟨by rfl, ?_⟩) (by assumption) ?_; rotate_left; (focus (intro w hSw; (try dsimp only at hSw); go_simp; try with_reducible rfl))) | (refine wpAnyH_take (i := 14) (v := undef) (by simp only [gA, gB, gC]; rfl) (by kernel_rfl) (by kernel_rfl) (by kernel_rfl) (by exact fun _ _ _ h => h) (Or.inr ⟨by rfl, rfl⟩) (by assumption) ?_) | fail); simp only [Act.put, sA, sB, sC]
      refine wpAnyH_done (by kernel_rfl) ?_ _
      go_wp2_with fail
      exact ⟨⟨i2 + 1, c + 1, by omega, by omega, by simp, by simp, hmet2.out, hS2⟩, by simp [Go.RowKit.intOf]; omega⟩
  · have hisE : isE Sn c x = false := by
      unfold isE
      rw [List.getElem?_eq_none (by rw [hns.out]; omega)]
      rfl
    rw [hisE] at hmet2
    have k1 : ¬ (c : Int) < (ns : Int) := by omega
    clear hx hisE
    refine wp_region_held_drew (S := (fun W => Below W11.heap.size W11 W)) (by kernel_rfl) (by exact hS2) ?_
    intro hHeld
    (first | (refine wpAnyH_take (i := 0) (v := ?_) (by simp only [gA, gB, gC]; rfl) (by kernel_rfl) (by kernel_rfl) (by kernel_rfl) (by exact fun _ _ _ h => h) (Or.inl ⟨by rfl, ?_⟩) (by assumption) ?_; rotate_left; (focus (intro w hSw; (try dsimp only at hSw); go_simp; try with_reducible rfl))) | (refine wpAnyH_take (i := 0) (v := undef) (by simp only [gA, gB, gC]; rfl) (by kernel_rfl) (by kernel_rfl) (by kernel_rfl) (by exact fun _ _ _ h => h) (Or.inr ⟨by rfl, rfl⟩) (by assumption) ?_) | fail); simp only [Act.put, sA, sB, sC]
    (first | (refine wpAnyH_take (i := 1) (v := ?_) (by simp only [gA, gB, gC]; rfl) (by kernel_rfl) (by kernel_rfl) (by kernel_rfl) (by exact fun _ _ _ h => h) (Or.inl ⟨by rfl, ?_⟩) (by assumption) ?_; rotate_left; (focus (intro w hSw; (try dsimp only at hSw); go_simp; try with_reducible rfl))) | (refine wpAnyH_take (i := 1) (v := undef) (by simp only [gA, gB, gC]; rfl) (by kernel_rfl) (by kernel_rfl) (by kernel_rfl) (by exact fun _ _ _ h => h) (Or.inr ⟨by rfl, rfl⟩) (by assumption) ?_) | fail); simp only [Act.put, sA, sB, sC]
    (first | (refine wpAnyH_take (i := 2) (v := ?_) (by simp only [gA, gB, gC]; rfl) (by kernel_rfl) (by kernel_rfl) (by kernel_rfl) (by exact fun _ _ _ h => h) (Or.inl ⟨by rfl, ?_⟩) (by assumption) ?_; rotate_left; (focus (intro w hSw; (try dsimp only at hSw); go_simp; try with_reducible rfl))) | (refine wpAnyH_take (i := 2) (v := undef) (by simp only [gA, gB, gC]; rfl) (by kernel_rfl) (by kernel_rfl) (by kernel_rfl) (by exact fun _ _ _ h => h) (Or.inr ⟨by rfl, rfl⟩) (by assumption) ?_) | fail); simp only [Act.put, sA, sB, sC]
    (first | (refine wpAnyH_take (i := 3) (v := ?_) (by simp only [gA, gB, gC]; rfl) (by kernel_rfl) (by kernel_rfl) (by kernel_rfl) (by exact fun _ _ _ h => h) (Or.inl ⟨by rfl, ?_⟩) (by assumption) ?_; rotate_left; (focus (intro w hSw; (try dsimp only at hSw); go_simp; try with_reducible rfl))) | (refine wpAnyH_take (i := 3) (v := undef) (by simp only [gA, gB, gC]; rfl) (by kernel_rfl) (by kernel_rfl) (by kernel_rfl) (by exact fun _ _ _ h => h) (Or.inr ⟨by rfl, rfl⟩) (by assumption) ?_) | fail); simp only [Act.put, sA, sB, sC]
    (first | (refine wpAnyH_take (i := 4) (v := ?_) (by simp only [gA, gB, gC]; rfl) (by kernel_rfl) (by kernel_rfl) (by kernel_rfl) (by exact fun _ _ _ h => h) (Or.inl ⟨by rfl, ?_⟩) (by assumption) ?_; rotate_left; (focus (intro w hSw; (try dsimp only at hSw); go_simp; try with_reducible rfl))) | (refine wpAnyH_take (i := 4) (v := undef) (by simp only [gA, gB, gC]; rfl) (by kernel_rfl) (by kernel_rfl) (by kernel_rfl) (by exact fun _ _ _ h => h) (Or.inr ⟨by rfl, rfl⟩) (by assumption) ?_) | fail); simp only [Act.put, sA, sB, sC]
    (first | (refine wpAnyH_take (i := 5) (v := ?_) (by simp only [gA, gB, gC]; rfl) (by kernel_rfl) (by kernel_rfl) (by kernel_rfl) (by exact fun _ _ _ h => h) (Or.inl ⟨by rfl, ?_⟩) (by assumption) ?_; rotate_left; (focus (intro w hSw; (try dsimp only at hSw); go_simp; try with_reducible rfl))) | (refine wpAnyH_take (i := 5) (v := undef) (by simp only [gA, gB, gC]; rfl) (by kernel_rfl) (by kernel_rfl) (by kernel_rfl) (by exact fun _ _ _ h => h) (Or.inr ⟨by rfl, rfl⟩) (by assumption) ?_) | fail); simp only [Act.put, sA, sB, sC]
    (first | (refine wpAnyH_take (i := 6) (v := ?_) (by simp only [gA, gB, gC]; rfl) (by kernel_rfl) (by kernel_rfl) (by kernel_rfl) (by exact fun _ _ _ h => h) (Or.inl ⟨by rfl, ?_⟩) (by assumption) ?_; rotate_left; (focus (intro w hSw; (try dsimp only at hSw); go_simp; try with_reducible rfl))) | (refine wpAnyH_take (i := 6) (v := undef) (by simp only [gA, gB, gC]; rfl) (by kernel_rfl) (by kernel_rfl) (by kernel_rfl) (by exact fun _ _ _ h => h) (Or.inr ⟨by rfl, rfl⟩) (by assumption) ?_) | fail); simp only [Act.put, sA, sB, sC]
    (first | (refine wpAnyH_take (i := 7) (v := ?_) (by simp only [gA, gB, gC]; rfl) (by kernel_rfl) (by kernel_rfl) (by kernel_rfl) (by exact fun _ _ _ h => h) (Or.inl ⟨by rfl, ?_⟩) (by assumption) ?_; rotate_left; (focus (intro w hSw; (try dsimp only at hSw); go_simp; try with_reducible rfl))) | (refine wpAnyH_take (i := 7) (v := undef) (by simp only [gA, gB, gC]; rfl) (by kernel_rfl) (by kernel_rfl) (by kernel_rfl) (by exact fun _ _ _ h => h) (Or.inr ⟨by rfl, rfl⟩) (by assumption) ?_) | fail); simp only [Act.put, sA, sB, sC]
    (first | (refine wpAnyH_take (i := 8) (v := ?_) (by simp only [gA, gB, gC]; rfl) (by kernel_rfl) (by kernel_rfl) (by kernel_rfl) (by exact fun _ _ _ h => h) (Or.inl ⟨by rfl, ?_⟩) (by assumption) ?_; rotate_left; (focus (intro w hSw; (try dsimp only at hSw); go_simp; try with_reducible rfl))) | (refine wpAnyH_take (i := 8) (v := undef) (by simp only [gA, gB, gC]; rfl) (by kernel_rfl) (by kernel_rfl) (by kernel_rfl) (by exact fun _ _ _ h => h) (Or.inr ⟨by rfl, rfl⟩) (by assumption) ?_) | fail); simp only [Act.put, sA, sB, sC]
    (first | (refine wpAnyH_take (i := 9) (v := ?_) (by simp only [gA, gB, gC]; rfl) (by kernel_rfl) (by kernel_rfl) (by kernel_rfl) (by exact fun _ _ _ h => h) (Or.inl ⟨by rfl, ?_⟩) (by assumption) ?_; rotate_left; (focus (intro w hSw; (try dsimp only at hSw); go_simp; try with_reducible rfl))) | (refine wpAnyH_take (i := 9) (v := undef) (by simp only [gA, gB, gC]; rfl) (by kernel_rfl) (by kernel_rfl) (by kernel_rfl) (by exact fun _ _ _ h => h) (Or.inr ⟨by rfl, rfl⟩) (by assumption) ?_) | fail); simp only [Act.put, sA, sB, sC]
    (first | (refine wpAnyH_take (i := 10) (v := ?_) (by simp only [gA, gB, gC]; rfl) (by kernel_rfl) (by kernel_rfl) (by kernel_rfl) (by exact fun _ _ _ h => h) (Or.inl ⟨by rfl, ?_⟩) (by assumption) ?_; rotate_left; (focus (intro w hSw; (try dsimp only at hSw); go_simp; try with_reducible rfl))) | (refine wpAnyH_take (i := 10) (v := undef) (by simp only [gA, gB, gC]; rfl) (by kernel_rfl) (by kernel_rfl) (by kernel_rfl) (by exact fun _ _ _ h => h) (Or.inr ⟨by rfl, rfl⟩) (by assumption) ?_) | fail); simp only [Act.put, sA, sB, sC]
    (first | (refine wpAnyH_take (i := 11) (v := ?_) (by simp only [gA, gB, gC]; rfl) (by kernel_rfl) (by kernel_rfl) (by kernel_rfl) (by exact fun _ _ _ h => h) (Or.inl ⟨by rfl, ?_⟩) (by assumption) ?_; rotate_left; (focus (intro w hSw; (try dsimp only at hSw); go_simp; try with_reducible rfl))) | (refine wpAnyH_take (i := 11) (v := undef) (by simp only [gA, gB, gC]; rfl) (by kernel_rfl) (by kernel_rfl) (by kernel_rfl) (by exact fun _ _ _ h => h) (Or.inr ⟨by rfl, rfl⟩) (by assumption) ?_) | fail); simp only [Act.put, sA, sB, sC]
    (first | (refine wpAnyH_take (i := 12) (v := ?_) (by simp only [gA, gB, gC]; rfl) (by kernel_rfl) (by kernel_rfl) (by kernel_rfl) (by exact fun _ _ _ h => h) (Or.inl ⟨by rfl, ?_⟩) (by assumption) ?_; rotate_left; (focus (intro w hSw; (try dsimp only at hSw); go_simp; try with_reducible rfl))) | (refine wpAnyH_take (i := 12) (v := undef) (by simp only [gA, gB, gC]; rfl) (by kernel_rfl) (by kernel_rfl) (by kernel_rfl) (by exact fun _ _ _ h => h) (Or.inr ⟨by rfl, rfl⟩) (by assumption) ?_) | fail); simp only [Act.put, sA, sB, sC]
    (first | (refine wpAnyH_take (i := 13) (v := ?_) (by simp only [gA, gB, gC]; rfl) (by kernel_rfl) (by kernel_rfl) (by kernel_rfl) (by exact fun _ _ _ h => h) (Or.inl ⟨by rfl, ?_⟩) (by assumption) ?_; rotate_left; (focus (intro w hSw; (try dsimp only at hSw); go_simp; try with_reducible rfl))) | (refine wpAnyH_take (i := 13) (v := undef) (by simp only [gA, gB, gC]; rfl) (by kernel_rfl) (by kernel_rfl) (by kernel_rfl) (by exact fun _ _ _ h => h) (Or.inr ⟨by rfl, rfl⟩) (by assumption) ?_) | fail); simp only [Act.put, sA, sB, sC]
    (first | (refine wpAnyH_take (i := 14) (v := ?_) (by simp only [gA, gB, gC]; rfl) (by kernel_rfl) (by kernel_rfl) (by kernel_rfl) (by exact fun _ _ _ h => h) (Or.inl ⟨by rfl, ?_⟩) (by assumption) ?_; rotate_left; (focus (intro w hSw; (try dsimp only at hSw); go_simp; try with_reducible rfl))) | (refine wpAnyH_take (i := 14) (v := undef) (by simp only [gA, gB, gC]; rfl) (by kernel_rfl) (by kernel_rfl) (by kernel_rfl) (by exact fun _ _ _ h => h) (Or.inr ⟨by rfl, rfl⟩) (by assumption) ?_) | fail); simp only [Act.put, sA, sB, sC]
    refine wpAnyH_done (by kernel_rfl) ?_ _
    go_wp2_with fail
    exact ⟨⟨i2 + 1, c, by omega, by omega, by simp, rfl, hmet2.out, hS2⟩, by simp [Go.RowKit.intOf]; omega⟩
end Go.Proofs.YtohocomemkckeaaDoor
