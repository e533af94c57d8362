/-
  NODES AND TREES CHECKED, of paths of any size. Written by mk_tall.py.
-/
import Derived.Test.YtacjfbomjglnjaaDoorPt6
namespace Go.Proofs.YtacjfbomjglnjaaDoor
open Go.RowKit
set_option maxRecDepth 8000
set_option linter.unusedSimpArgs false
set_option linter.unusedVariables false

theorem long_five {u : ByteArray} (h : 78 < u.size) : checkOf u = 5 := by
  unfold checkOf
  rw [if_pos h]
set_option maxRecDepth 8000 in
set_option maxHeartbeats 1000000 in
theorem pcheck_all (u : ByteArray) (w : World) (hV : MaxV w) :
    Calls Tryd.prog 69 #[.string u] w fun e w' => e = .returned (.int .i64 (checkOf u)) ∧ Below w.heap.size w w' := by
  by_cases h78 : 78 < u.size
  · rw [long_five h78]
    have h1 : (78 : Int) < (u.size : Int) := by omega
    go_enter Tryd.func69, Tryd.ntmps69
    go_wp2
    go_ret
    exact ⟨rfl, Below.refl _ _⟩
  · exact pcheck_any u (by omega) w hV
set_option maxRecDepth 8000 in
set_option maxHeartbeats 1000000 in
theorem rpcheck_all (u : ByteArray) (w : World) :
    Calls Tryd.prog 31 #[.string u] w fun e w' => e = .returned (.int .i64 (checkOf u)) ∧ Below w.heap.size w w' := by
  by_cases h78 : 78 < u.size
  · rw [long_five h78]
    have h1 : (78 : Int) < (u.size : Int) := by omega
    go_enter Tryd.func31, Tryd.ntmps31
    go_wp2
    go_ret
    exact ⟨rfl, Below.refl _ _⟩
  · exact rpcheck_any u (by omega) w
theorem nod_long {n : Nod} (h : 78 < n.path.size) : nodC n = 5 := by
  unfold nodC
  rw [long_five h, if_pos (by decide)]
set_option maxRecDepth 8000 in
set_option maxHeartbeats 4000000 in
theorem ncheck_all (n : Nod) (aa : Option Addr) (ca : Nat) (wa : Option Addr) (cw : Nat) (hn : n.words.length ≤ 1000000) (w : World) (hg : GAt w aa n.acl) (hm : MaxV w) :
    Calls Tryd.prog 56 #[n.v aa ca wa cw] w fun e w' => e = .returned (.int .i64 (nodC n)) ∧ Below w.heap.size w w' := by
  by_cases h78 : 78 < n.path.size
  · rw [nod_long h78]
    have h := nh_start (ca := ca) (wa := wa) (cw := cw) hg hm
    unfold ncells at h
    have kp := fun W (q : MaxV W) => pcheck_all n.path W q
    rw [long_five h78] at kp
    clear h78
    go_enter Tryd.func56, Tryd.ntmps56
    go_wp2_with fail
    generalize w.alloc (.cells #[.string n.path, .bool n.dir, .int .i64 n.label.s, .int .i64 n.label.c, .int .i64 n.label.i, .int .i64 n.label.k, .slice aa n.acl.length ca, .int .i64 n.r1, .int .i64 n.r2, .int .i64 n.r3, .int .i64 n.gates, .slice wa n.words.length cw, .int .i64 n.by_.s, .int .i64 n.by_.c, .int .i64 n.by_.i, .int .i64 n.by_.k] 32) = W at *
    refine (kp W h.mv).mono ?_
    rintro e W1 ⟨rfl, hB1⟩
    replace h := h.then hB1
    clear hB1 kp
    go_wp2_with fail
    go_ret
    exact ⟨rfl, h.bl⟩
  · exact ncheck_any n aa ca wa cw (by omega) hn w hg hm
set_option maxRecDepth 8000 in
set_option maxHeartbeats 4000000 in
theorem rncheck_all (n : Nod) (aa : Option Addr) (ca : Nat) (wa : Option Addr) (cw : Nat) (hn : n.words.length ≤ 1000000) (hu : ∀ g ∈ n.acl, g.u.size ≤ 9223372036854775807) (w : World) (hg : GAt w aa n.acl) (hm : MaxV w) :
    Calls Tryd.prog 37 #[n.v aa ca wa cw] w fun e w' => e = .returned (.int .i64 (nodC n)) ∧ Below w.heap.size w w' := by
  by_cases h78 : 78 < n.path.size
  · rw [nod_long h78]
    have h := nh_start (ca := ca) (wa := wa) (cw := cw) hg hm
    unfold ncells at h
    have kp := fun W => rpcheck_all n.path W
    rw [long_five h78] at kp
    clear h78 hu
    go_enter Tryd.func37, Tryd.ntmps37
    go_wp2_with fail
    generalize w.alloc (.cells #[.string n.path, .bool n.dir, .int .i64 n.label.s, .int .i64 n.label.c, .int .i64 n.label.i, .int .i64 n.label.k, .slice aa n.acl.length ca, .int .i64 n.r1, .int .i64 n.r2, .int .i64 n.r3, .int .i64 n.gates, .slice wa n.words.length cw, .int .i64 n.by_.s, .int .i64 n.by_.c, .int .i64 n.by_.i, .int .i64 n.by_.k] 32) = W at *
    refine (kp W).mono ?_
    rintro e W1 ⟨rfl, hB1⟩
    replace h := h.then hB1
    have hS := h.box
    clear hB1 kp
    go_wp2_with fail
    go_ret
    exact ⟨rfl, h.bl⟩
  · exact rncheck_any n aa ca wa cw (by omega) hn hu w hg hm
/-- How great a row's nodes may be, their paths aside. -/
def WideN (l : List PN) : Prop := ∀ x ∈ l, x.n.words.length ≤ 1000000 ∧ ∀ g ∈ x.n.acl, g.u.size ≤ 9223372036854775807
theorem path_few {l : List PN} (h : seqC none (namesP l) = 0) : ∀ x ∈ l, x.n.path.size ≤ 100000 := fun x hx => by
  obtain ⟨_, _, _, h78⟩ := check_path (nodC_zero.1 ((seq_zero _ none h).1 x.n (List.mem_map.2 ⟨x, hx, rfl⟩))).1
  omega
set_option maxRecDepth 8000 in
set_option maxHeartbeats 4000000 in
theorem checkRow_all (a : Option Addr) (cap : Nat) (l : List PN) (hl : l.length ≤ 100000) (hsm : WideN l) (w : World) (h : RowN w a l) (hm : MaxV w) :
    Calls Tryd.prog 33 #[.slice a l.length cap] w fun e w' => e = .returned (.int .i64 (seqC none (namesP l))) ∧ Below w.heap.size w w' := by
  have hund := Tryd.underlying32
  have hsz : (Tryd.prog.info? 32).map (·.size) = some 16 := by kernel_rfl
  obtain ⟨R, hR⟩ : ∃ R, seqC none (namesP l) = R := ⟨_, rfl⟩
  rw [hR]
  obtain ⟨n, hn⟩ : ∃ n, l.length = n := ⟨_, rfl⟩
  rw [hn] at hl ⊢
  replace hn : Aside (l.length = n) := hn
  replace hR : Aside (seqC none (namesP l) = R) := hR
  go_enter Tryd.func33, Tryd.ntmps33
  go_wp2_with fail
  go_loopw [3, 9] (fun t3 t9 wr => ∃ i : Nat, i ≤ n ∧ t9 = .int .i64 (i : Int) ∧ t3 = .string (aheadS (namesP l) i) ∧ Aside (R = seqC (prevOf (namesP l) i) ((namesP l).drop i)) ∧ Below w.heap.size w wr) (fun _ t9 _ => n - (Go.RowKit.intOf t9).toNat)
  case atStart => exact ⟨0, by omega, rfl, rfl, hR.out.symm, Below.refl _ _⟩
  case round =>
    obtain ⟨i, hi, rfl, rfl, hseq, hB⟩ := hrel
    by_cases hlt : i < n
    · obtain ⟨x, hx⟩ : ∃ x, l[i]? = some x := ⟨_, List.getElem?_eq_getElem (by rw [hn.out]; exact hlt)⟩
      have hxm := List.mem_of_getElem? hx
      have hrow := h.below hB
      obtain ⟨y, rfl⟩ := h.some_ hx
      have hw := hrow.r.at pn_len hx
      have hsx := hsm x hxm
      have hseq1 := hseq.out
      rw [seq_drop (names_at hx)] at hseq1
      have hah : aheadS (namesP l) (i + 1) = x.n.path := by unfold aheadS; rw [prev_succ (names_at hx)]; rfl
      have hpv := prev_succ (names_at hx)
      obtain ⟨W1, hW1, hth, hbk, hB1⟩ := put_new wr ndz 32 x.cs rfl (by rw [pn_len]; omega)
      have hc0 := (hbk.1 0 _ rfl).1
      have kc := ncheck_all x.n x.aa x.ca x.wa x.cw hsx.1 W1 ((hrow.p x hxm).g.below hB1) ((hm.below hB).below hB1)
      rw [show x.n.v x.aa x.ca x.wa x.cw = .agg x.cs.toArray from rfl] at kc
      have hrg := hbk.range
      obtain ⟨cs, hcs⟩ : ∃ cs, x.cs = cs := ⟨_, rfl⟩
      have hlen : cs.length = 16 := by rw [← hcs]; rfl
      have hone : ∀ v ∈ cs, v.oneCell' = true := by rw [← hcs]; exact pn_one x
      have hsz1 : (Tryd.prog.info? 32).map (·.size) = some cs.length := by rw [hlen]; exact hsz
      rw [hcs] at hw hth hW1 kc hrg
      have hsl : nodC x.n = 0 → behind (prevOf (namesP l) i) x.n.path = lt (aheadS (namesP l) i) x.n.path := fun q => behind_ahead (check_slashed (nodC_zero.1 q).1)
      have hBw := Below.then hB hB1
      obtain ⟨pv, hpv0⟩ : ∃ pv, aheadS (namesP l) i = pv := ⟨_, rfl⟩
      rw [hpv0] at hsl ⊢
      generalize hcv : nodC x.n = cv at *
      replace hseq1 : Aside _ := hseq1
      replace hah : Aside _ := hah
      replace hpv : Aside _ := hpv
      clear hcs hx hrow hcv hseq hbk hpv0
      go_wp2_with (first | (refine wpList_load_at rfl _ rfl (y.add (i * 16)) rfl cs hw hund rfl hsz1 ?_) | (refine wpList_store_row rfl _ _ rfl wr.heap.size rfl cs rfl hth hsz1 hone hW1 ?_) | (refine wpList_load_row rfl _ rfl wr.heap.size rfl cs hrg hund rfl hsz1 ?_) | fail)
      refine kc.mono ?_
      rintro e W2 ⟨rfl, hB2⟩
      have hB02 := Below.then hBw hB2
      have hc2 := (hB2.cell (World.block_lt_of_cell? _ _ hc0)).trans hc0
      clear kc hw hrg hth
      by_cases h0 : cv = 0
      · subst h0
        have hb := hsl rfl
        have hs2 := hseq1.out
        rw [if_neg (by simp), hb] at hs2
        cases hq : lt pv x.n.path
        · have f0 := leq_of hq
          rw [hq, if_pos rfl] at hs2
          clear hsl hb hseq1
          subst hs2
          go_wp2_with fail
          go_ret
          exact ⟨rfl, hB02⟩
        · have f0 := leq_not hq
          rw [hq, if_neg (by simp)] at hs2
          replace hs2 : Aside _ := hs2
          clear hsl hb hseq1
          go_wp2_with fail
          exact ⟨⟨i + 1, by omega, by simp, by rw [hah.out], by rw [hpv.out]; exact hs2, hB02⟩, by simp [Go.RowKit.intOf]; omega⟩
      · have hs2 := hseq1.out
        rw [if_pos h0] at hs2
        clear hsl hseq1
        subst hs2
        go_wp2_with fail
        go_ret
        exact ⟨rfl, hB02⟩
    · obtain rfl : i = n := by omega
      have hs2 := hseq.out
      rw [List.drop_eq_nil_of_le (by rw [show (namesP l).length = l.length from by simp [namesP], hn.out]; exact Nat.le_refl _)] at hs2
      obtain rfl : R = 0 := hs2
      clear hseq
      go_wp2_with fail
      go_ret
      exact ⟨rfl, hB⟩
set_option maxRecDepth 8000 in
set_option maxHeartbeats 4000000 in
theorem tcheck_all (a : Option Addr) (cap : Nat) (l : List PN) (hl : l.length ≤ 100000) (hsm : WideN l) (w : World) (h : RowN w a l) (hm : MaxV w) :
    Calls Tryd.prog 10 #[.slice a l.length cap] w fun e w' => e = .returned (.int .i64 (treeC (namesP l))) ∧ Below w.heap.size w w' := by
  have hund := Tryd.underlying32
  have hsz : (Tryd.prog.info? 32).map (·.size) = some 16 := by kernel_rfl
  have hsl : (Tryd.prog.info? 26).map (·.size) = some 4 := by kernel_rfl
  obtain ⟨R, hR⟩ : ∃ R, treeC (namesP l) = R := ⟨_, rfl⟩
  rw [hR]
  unfold treeC at hR
  have kr := checkRow_all a cap l hl hsm w h hm
  obtain ⟨sq, hsq⟩ : ∃ sq, seqC none (namesP l) = sq := ⟨_, rfl⟩
  rw [hsq] at hR kr
  obtain ⟨n, hn⟩ : ∃ n, l.length = n := ⟨_, rfl⟩
  rw [hn] at kr ⊢
  have hln : n ≤ 100000 := by rw [← hn]; exact hl
  replace hn : Aside (l.length = n) := hn
  replace hsq : Aside (seqC none (namesP l) = sq) := hsq
  replace hR : Aside _ := hR
  go_enter Tryd.func10, Tryd.ntmps10
  go_wp2_with fail
  refine kr.mono ?_
  rintro e W1 ⟨rfl, hB1⟩
  clear kr
  by_cases hs0 : sq = 0
  · subst hs0
    obtain ⟨hok, hord, -⟩ := seq_zero _ none hsq.out
    have hokp : ∀ y ∈ l, nodC y.n = 0 := fun y hy => hok y.n (List.mem_map.2 ⟨y, hy, rfl⟩)
    have ho := ordP.1 hord
    replace hR := hR.out
    rw [if_neg (by simp)] at hR
    obtain ⟨A, M, B, hP⟩ := partsN_of slashS l ho
    have kp := place_any W1 a cap l A M B slashS hP (h.below hB1) hl
    obtain ⟨fr, hfr⟩ : ∃ fr, findP l slashS = fr := ⟨_, rfl⟩
    rw [find_names, hfr] at hR
    rw [hn.out] at kp
    replace kp : Calls Tryd.prog 34 #[.slice a n cap, .string ⟨#[47]⟩] W1 _ := kp
    go_wp2_with fail
    refine kp.mono ?_
    rintro e W2 ⟨rfl, hB2⟩
    have hB02 := Below.then hB1 hB2
    clear kp
    cases fr with
    | none =>
      rw [hP.not hfr]
      obtain rfl : R = 2 := hR.symm
      clear hP
      go_wp2_with fail
      go_ret
      exact ⟨rfl, hB02⟩
    | some r =>
      obtain ⟨hr, hmm⟩ := hP.at hfr
      rw [hmm]
      obtain ⟨k, hk⟩ : ∃ k, A.length = k := ⟨_, rfl⟩
      rw [hk] at hr ⊢
      have hltk := (List.getElem?_eq_some_iff.1 hr).1
      rw [hn.out] at hltk
      obtain ⟨y0, rfl⟩ := h.some_ hr
      obtain ⟨U, hU⟩ : ∃ U, upC (namesP l) (namesP l) = U := ⟨_, rfl⟩
      replace hR : (if U ≠ 0 then U else if labEq r.n.label bottomL = true then 0 else 15) = R := by rw [← hU]; exact hR
      replace hR : Aside _ := hR
      have hU0 : Aside (U = upC (namesP l) ((namesP l).drop 0)) := hU.symm
      clear hP hfr hmm hk hU
      go_wp2_with fail
      go_loopw [23] (fun t23 wr => ∃ i : Nat, i ≤ n ∧ t23 = .int .i64 (i : Int) ∧ Aside (U = upC (namesP l) ((namesP l).drop i)) ∧ Below w.heap.size w wr) (fun t23 _ => n - (Go.RowKit.intOf t23).toNat)
      case atStart => exact ⟨0, by omega, rfl, hU0, hB02⟩
      case round =>
        clear hU0 hB02 hB2
        obtain ⟨i, hi, rfl, hUi, hB⟩ := hrel
        by_cases hlt : i < n
        · obtain ⟨x, hx⟩ : ∃ x, l[i]? = some x := ⟨_, List.getElem?_eq_getElem (by rw [hn.out]; exact hlt)⟩
          have hxm := List.mem_of_getElem? hx
          have hrow := h.below hB
          have hw := hrow.r.at pn_len hx
          have hU1 := hUi.out
          rw [up_place (names_at hx)] at hU1
          obtain ⟨W3, hW3, hth, hbk, hB3⟩ := put_new wr ndz 32 x.cs rfl (by rw [pn_len]; omega)
          have kc := checkPlace_any (some y0) cap l x hl ho hokp (hokp x hxm) W3 (hrow.below hB3)
          rw [hn.out] at kc
          have hrg := hbk.range
          have hBw := Below.then hB hB3
          obtain ⟨cs, hcs⟩ : ∃ cs, x.cs = cs := ⟨_, rfl⟩
          have hlen : cs.length = 16 := by rw [← hcs]; rfl
          have hone : ∀ v ∈ cs, v.oneCell' = true := by rw [← hcs]; exact pn_one x
          have hsz1 : (Tryd.prog.info? 32).map (·.size) = some cs.length := by rw [hlen]; exact hsz
          rw [hcs] at hw hth hW3 kc hrg
          generalize hpc : placeC (namesP l) x.n = pc at *
          replace hU1 : Aside _ := hU1
          clear hcs hx hrow hbk hUi hpc
          go_wp2_with (first | (refine wpList_load_at rfl _ rfl (y0.add (i * 16)) rfl cs hw hund rfl hsz1 ?_) | (refine wpList_store_row rfl _ _ rfl wr.heap.size rfl cs rfl hth hsz1 hone hW3 ?_) | (refine wpList_load_row rfl _ rfl wr.heap.size rfl cs hrg hund rfl hsz1 ?_) | fail)
          refine kc.mono ?_
          rintro e W4 ⟨rfl, hB4⟩
          have hB04 := Below.then hBw hB4
          clear kc hw hth hrg
          by_cases hp0 : pc = 0
          · subst hp0
            have hU2 := hU1.out
            rw [if_neg (by simp)] at hU2
            replace hU2 : Aside _ := hU2
            clear hU1
            go_wp2_with fail
            exact ⟨⟨i + 1, by omega, by simp, hU2, hB04⟩, by simp [Go.RowKit.intOf]; omega⟩
          · have hU2 := hU1.out
            rw [if_pos hp0] at hU2
            subst hU2
            have hR2 := hR.out
            rw [if_pos hp0] at hR2
            subst hR2
            clear hU1 hR
            go_wp2_with fail
            go_ret
            exact ⟨rfl, hB04⟩
        · obtain rfl : i = n := by omega
          have hs2 := hUi.out
          rw [List.drop_eq_nil_of_le (by rw [show (namesP l).length = l.length from by simp [namesP], hn.out]; exact Nat.le_refl _)] at hs2
          obtain rfl : U = 0 := hs2
          have hR2 := hR.out
          rw [if_neg (by simp)] at hR2
          have hcr := (h.below hB.drew).r.at pn_len hr
          have hL : CellsAt wr.drew ⟨(y0.add (k * 16)).block, (y0.add (k * 16)).off + 2, none⟩ [.int .i64 r.n.label.s, .int .i64 r.n.label.c, .int .i64 r.n.label.i, .int .i64 r.n.label.k] := pn_lab hcr
          have hnq := run_neq_lab r.n.label bottomL
          replace hnq : ∀ W, (binOp .neq 26 (.agg #[.int .i64 r.n.label.s, .int .i64 r.n.label.c, .int .i64 r.n.label.i, .int .i64 r.n.label.k]) bottomL.v).run Tryd.prog W = .ok (.bool (!labEq r.n.label bottomL)) W := hnq
          have hS : (fun W => CellsAt W ⟨(y0.add (k * 16)).block, (y0.add (k * 16)).off + 2, none⟩ [.int .i64 r.n.label.s, .int .i64 r.n.label.c, .int .i64 r.n.label.i, .int .i64 r.n.label.k]) wr.drew := hL
          have kb := lbottom_any wr.drew
          clear hUi hR hcr hL
          cases hle : labEq r.n.label bottomL
          · rw [hle] at hnq hR2
            obtain rfl : R = 15 := by simpa using hR2.symm
            clear hR2
            go_wp2_with fail
            refine wp_region_held_drew (S := (fun W => CellsAt W ⟨(y0.add (k * 16)).block, (y0.add (k * 16)).off + 2, none⟩ [.int .i64 r.n.label.s, .int .i64 r.n.label.c, .int .i64 r.n.label.i, .int .i64 r.n.label.k])) (by kernel_rfl) (by first | exact hS1 | exact hS) ?_
            intro hHeld
            (first | (refine wpAnyH_take (i := 0) (v := ?_) (by simp only [gA, gB, gC]; rfl) (by kernel_rfl) (by kernel_rfl) (by kernel_rfl) (by exact fun _ _ _ h => h) (Or.inl ⟨by rfl, ?_⟩) (by assumption) ?_; rotate_left; (focus (intro w hSw; (try dsimp only at hSw); go_simp; try with_reducible rfl))) | (refine wpAnyH_take (i := 0) (v := undef) (by simp only [gA, gB, gC]; rfl) (by kernel_rfl) (by kernel_rfl) (by kernel_rfl) (by exact fun _ _ _ h => h) (Or.inr ⟨by rfl, rfl⟩) (by assumption) ?_) | fail); simp only [Act.put, sA, sB, sC]
            (first | (refine wpAnyH_take (i := 1) (v := ?_) (by simp only [gA, gB, gC]; rfl) (by kernel_rfl) (by kernel_rfl) (by kernel_rfl) (by exact fun _ _ _ h => h) (Or.inl ⟨by rfl, ?_⟩) (by assumption) ?_; rotate_left; (focus (intro w hSw; (try dsimp only at hSw); go_simp; try with_reducible rfl))) | (refine wpAnyH_take (i := 1) (v := undef) (by simp only [gA, gB, gC]; rfl) (by kernel_rfl) (by kernel_rfl) (by kernel_rfl) (by exact fun _ _ _ h => h) (Or.inr ⟨by rfl, rfl⟩) (by assumption) ?_) | fail); simp only [Act.put, sA, sB, sC]
            (first | (refine wpAnyH_take (i := 2) (v := ?_) (by simp only [gA, gB, gC]; rfl) (by kernel_rfl) (by kernel_rfl) (by kernel_rfl) (by exact fun _ _ _ h => h) (Or.inl ⟨by rfl, ?_⟩) (by assumption) ?_; rotate_left; (focus (intro w hSw; (try dsimp only at hSw); go_simp; try with_reducible rfl))) | (refine wpAnyH_take (i := 2) (v := undef) (by simp only [gA, gB, gC]; rfl) (by kernel_rfl) (by kernel_rfl) (by kernel_rfl) (by exact fun _ _ _ h => h) (Or.inr ⟨by rfl, rfl⟩) (by assumption) ?_) | fail); simp only [Act.put, sA, sB, sC]
            (first | (refine wpAnyH_take (i := 3) (v := ?_) (by simp only [gA, gB, gC]; rfl) (by kernel_rfl) (by kernel_rfl) (by kernel_rfl) (by exact fun _ _ _ h => h) (Or.inl ⟨by rfl, ?_⟩) (by assumption) ?_; rotate_left; (focus (intro w hSw; (try dsimp only at hSw); go_simp; try with_reducible rfl))) | (refine wpAnyH_take (i := 3) (v := undef) (by simp only [gA, gB, gC]; rfl) (by kernel_rfl) (by kernel_rfl) (by kernel_rfl) (by exact fun _ _ _ h => h) (Or.inr ⟨by rfl, rfl⟩) (by assumption) ?_) | fail); simp only [Act.put, sA, sB, sC]
            (first | (refine wpAnyH_take (i := 4) (v := _) (by simp only [gA, gB, gC]; rfl) (by kernel_rfl) (by kernel_rfl) (by kernel_rfl) (by exact fun _ _ _ h => h) (yields_at (by rfl) _ rfl _ rfl [.int .i64 r.n.label.s, .int .i64 r.n.label.c, .int .i64 r.n.label.i, .int .i64 r.n.label.k] (fun _ q => q) Tryd.underlying26 rfl hsl) (by assumption) ?_) | (refine wpAnyH_take (i := 4) (v := undef) (by simp only [gA, gB, gC]; rfl) (by kernel_rfl) (by kernel_rfl) (by kernel_rfl) (by exact fun _ _ _ h => h) (Or.inr ⟨by rfl, rfl⟩) (by assumption) ?_) | fail); simp only [Act.put, sA, sB, sC]
            first | (refine wpAnyH_take (i := 5) (v := undef) (by simp only [gA, gB, gC]; rfl) (by kernel_rfl) (by kernel_rfl) (by kernel_rfl) (by exact fun _ _ _ h => h) (Or.inr ⟨by rfl, rfl⟩) (by assumption) ?_; simp only [Act.put, sA, sB, sC]) | (refine wpAnyH_ready (rs := [5]) (by kernel_rfl) (by simp) ?_; refine AllReadyH.cons (by simp only [gA, gB, gC]; rfl) (fun K hK => ?_) AllReadyH.nil; go_simp; (first | (go_at_call 36; refine kb.mono ?_; rintro e W5 ⟨rfl, hB5⟩; have hS1 := hS.below hB5)); refine hK.out _ _ (by first | exact hS1 | exact hS) ?_; clear hHeld hK; intro hHeld; (try simp only [Act.put, sA, sB, sC])) | fail
            (first | (refine wpAnyH_take (i := 6) (v := ?_) (by simp only [gA, gB, gC]; rfl) (by kernel_rfl) (by kernel_rfl) (by kernel_rfl) (by exact fun _ _ _ h => h) (Or.inl ⟨by rfl, ?_⟩) (by assumption) ?_; rotate_left; (focus (intro w hSw; (try dsimp only at hSw); go_simp; try with_reducible rfl))) | (refine wpAnyH_take (i := 6) (v := undef) (by simp only [gA, gB, gC]; rfl) (by kernel_rfl) (by kernel_rfl) (by kernel_rfl) (by exact fun _ _ _ h => h) (Or.inr ⟨by rfl, rfl⟩) (by assumption) ?_) | fail); simp only [Act.put, sA, sB, sC]
            refine wpAnyH_done (by kernel_rfl) ?_ _
            go_wp2_with fail
            go_ret
            exact ⟨rfl, Below.then hB.drew hB5⟩
          · rw [hle] at hnq hR2
            obtain rfl : R = 0 := by simpa using hR2.symm
            clear hR2
            go_wp2_with fail
            refine wp_region_held_drew (S := (fun W => CellsAt W ⟨(y0.add (k * 16)).block, (y0.add (k * 16)).off + 2, none⟩ [.int .i64 r.n.label.s, .int .i64 r.n.label.c, .int .i64 r.n.label.i, .int .i64 r.n.label.k])) (by kernel_rfl) (by first | exact hS1 | exact hS) ?_
            intro hHeld
            (first | (refine wpAnyH_take (i := 0) (v := ?_) (by simp only [gA, gB, gC]; rfl) (by kernel_rfl) (by kernel_rfl) (by kernel_rfl) (by exact fun _ _ _ h => h) (Or.inl ⟨by rfl, ?_⟩) (by assumption) ?_; rotate_left; (focus (intro w hSw; (try dsimp only at hSw); go_simp; try with_reducible rfl))) | (refine wpAnyH_take (i := 0) (v := undef) (by simp only [gA, gB, gC]; rfl) (by kernel_rfl) (by kernel_rfl) (by kernel_rfl) (by exact fun _ _ _ h => h) (Or.inr ⟨by rfl, rfl⟩) (by assumption) ?_) | fail); simp only [Act.put, sA, sB, sC]
            (first | (refine wpAnyH_take (i := 1) (v := ?_) (by simp only [gA, gB, gC]; rfl) (by kernel_rfl) (by kernel_rfl) (by kernel_rfl) (by exact fun _ _ _ h => h) (Or.inl ⟨by rfl, ?_⟩) (by assumption) ?_; rotate_left; (focus (intro w hSw; (try dsimp only at hSw); go_simp; try with_reducible rfl))) | (refine wpAnyH_take (i := 1) (v := undef) (by simp only [gA, gB, gC]; rfl) (by kernel_rfl) (by kernel_rfl) (by kernel_rfl) (by exact fun _ _ _ h => h) (Or.inr ⟨by rfl, rfl⟩) (by assumption) ?_) | fail); simp only [Act.put, sA, sB, sC]
            (first | (refine wpAnyH_take (i := 2) (v := ?_) (by simp only [gA, gB, gC]; rfl) (by kernel_rfl) (by kernel_rfl) (by kernel_rfl) (by exact fun _ _ _ h => h) (Or.inl ⟨by rfl, ?_⟩) (by assumption) ?_; rotate_left; (focus (intro w hSw; (try dsimp only at hSw); go_simp; try with_reducible rfl))) | (refine wpAnyH_take (i := 2) (v := undef) (by simp only [gA, gB, gC]; rfl) (by kernel_rfl) (by kernel_rfl) (by kernel_rfl) (by exact fun _ _ _ h => h) (Or.inr ⟨by rfl, rfl⟩) (by assumption) ?_) | fail); simp only [Act.put, sA, sB, sC]
            (first | (refine wpAnyH_take (i := 3) (v := ?_) (by simp only [gA, gB, gC]; rfl) (by kernel_rfl) (by kernel_rfl) (by kernel_rfl) (by exact fun _ _ _ h => h) (Or.inl ⟨by rfl, ?_⟩) (by assumption) ?_; rotate_left; (focus (intro w hSw; (try dsimp only at hSw); go_simp; try with_reducible rfl))) | (refine wpAnyH_take (i := 3) (v := undef) (by simp only [gA, gB, gC]; rfl) (by kernel_rfl) (by kernel_rfl) (by kernel_rfl) (by exact fun _ _ _ h => h) (Or.inr ⟨by rfl, rfl⟩) (by assumption) ?_) | fail); simp only [Act.put, sA, sB, sC]
            (first | (refine wpAnyH_take (i := 4) (v := _) (by simp only [gA, gB, gC]; rfl) (by kernel_rfl) (by kernel_rfl) (by kernel_rfl) (by exact fun _ _ _ h => h) (yields_at (by rfl) _ rfl _ rfl [.int .i64 r.n.label.s, .int .i64 r.n.label.c, .int .i64 r.n.label.i, .int .i64 r.n.label.k] (fun _ q => q) Tryd.underlying26 rfl hsl) (by assumption) ?_) | (refine wpAnyH_take (i := 4) (v := undef) (by simp only [gA, gB, gC]; rfl) (by kernel_rfl) (by kernel_rfl) (by kernel_rfl) (by exact fun _ _ _ h => h) (Or.inr ⟨by rfl, rfl⟩) (by assumption) ?_) | fail); simp only [Act.put, sA, sB, sC]
            first | (refine wpAnyH_take (i := 5) (v := undef) (by simp only [gA, gB, gC]; rfl) (by kernel_rfl) (by kernel_rfl) (by kernel_rfl) (by exact fun _ _ _ h => h) (Or.inr ⟨by rfl, rfl⟩) (by assumption) ?_; simp only [Act.put, sA, sB, sC]) | (refine wpAnyH_ready (rs := [5]) (by kernel_rfl) (by simp) ?_; refine AllReadyH.cons (by simp only [gA, gB, gC]; rfl) (fun K hK => ?_) AllReadyH.nil; go_simp; (first | (go_at_call 36; refine kb.mono ?_; rintro e W5 ⟨rfl, hB5⟩; have hS1 := hS.below hB5)); refine hK.out _ _ (by first | exact hS1 | exact hS) ?_; clear hHeld hK; intro hHeld; (try simp only [Act.put, sA, sB, sC])) | fail
            (first | (refine wpAnyH_take (i := 6) (v := ?_) (by simp only [gA, gB, gC]; rfl) (by kernel_rfl) (by kernel_rfl) (by kernel_rfl) (by exact fun _ _ _ h => h) (Or.inl ⟨by rfl, ?_⟩) (by assumption) ?_; rotate_left; (focus (intro w hSw; (try dsimp only at hSw); go_simp; try with_reducible rfl))) | (refine wpAnyH_take (i := 6) (v := undef) (by simp only [gA, gB, gC]; rfl) (by kernel_rfl) (by kernel_rfl) (by kernel_rfl) (by exact fun _ _ _ h => h) (Or.inr ⟨by rfl, rfl⟩) (by assumption) ?_) | fail); simp only [Act.put, sA, sB, sC]
            refine wpAnyH_done (by kernel_rfl) ?_ _
            go_wp2_with fail
            go_ret
            exact ⟨rfl, Below.then hB.drew hB5⟩
  · have hR2 := hR.out
    rw [if_pos hs0] at hR2
    subst hR2
    clear hR hsq
    go_wp2_with fail
    go_ret
    exact ⟨rfl, hB1⟩
set_option maxRecDepth 20000 in
set_option maxHeartbeats 8000000 in
theorem rcheckT_all (a : Option Addr) (cap : Nat) (l : List PN) (hl : l.length ≤ 100000) (hsm : WideN l) (w : World) (h : RowN w a l) (hm : MaxV w) :
    Calls Tryd.prog 11 #[.slice a l.length cap] w fun e w' => e = .returned (.int .i64 (treeC (namesP l))) ∧ Below w.heap.size w w' := by
  have hund := Tryd.underlying32
  have hsz : (Tryd.prog.info? 32).map (·.size) = some 16 := by kernel_rfl
  have kf := fun W p (q : RowN W a l) => rfindT_any a cap l p (by omega) W q
  obtain ⟨R, hR⟩ : ∃ R, treeC (namesP l) = R := ⟨_, rfl⟩
  rw [hR]
  unfold treeC at hR
  replace hR : Aside _ := hR
  obtain ⟨n, hn⟩ : ∃ n, l.length = n := ⟨_, rfl⟩
  rw [hn] at hl kf ⊢
  replace hn : Aside (l.length = n) := hn
  go_enter Tryd.func11, Tryd.ntmps11
  go_wp2_with fail
  go_loopw [3] (fun t3 wr => ∃ i : Nat, i ≤ n ∧ t3 = .int .i64 (i : Int) ∧ Aside (seqC none (namesP l) = seqC (prevOf (namesP l) i) ((namesP l).drop i)) ∧ CK w wr) (fun t3 _ => n - (Go.RowKit.intOf t3).toNat)
  case atStart => exact ⟨0, by omega, rfl, rfl, ⟨Below.refl _ _⟩⟩
  case round =>
    obtain ⟨i, hi, rfl, hseq, hC⟩ := hrel
    have hrow := h.below hC.bl
    by_cases hlt : i < n
    · obtain ⟨x, hx⟩ : ∃ x, l[i]? = some x := ⟨_, List.getElem?_eq_getElem (by rw [hn.out]; exact hlt)⟩
      obtain ⟨y, rfl⟩ := h.some_ hx
      have hw := hrow.r.at pn_len hx
      have hpx := hrow.p x (List.mem_of_getElem? hx)
      have hsx := hsm x (List.mem_of_getElem? hx)
      rw [seq_drop (names_at hx)] at hseq
      have kc := rncheck_all x.n x.aa x.ca x.wa x.cw hsx.1 hsx.2 wr hpx.g (hm.below hC.bl)
      rw [show x.n.v x.aa x.ca x.wa x.cw = .agg x.cs.toArray from rfl] at kc
      obtain ⟨cs, hcs⟩ : ∃ cs, x.cs = cs := ⟨_, rfl⟩
      have hlen : cs.length = 16 := by rw [← hcs]; rfl
      have hc0 := hrow.path hx
      have hprev : ∀ j z, i = j + 1 → l[j]? = some z → wr.cell? (y.add (j * 16)) = some (.string z.n.path) := fun j z _ hz => hrow.path hz
      rw [hcs] at kc hw
      have hsz1 : (Tryd.prog.info? 32).map (·.size) = some cs.length := by rw [hlen]; exact hsz
      have i0 : (i : Int) < (n : Int) := by omega
      generalize hcv : nodC x.n = cv at *
      clear hcs hcv
      go_wp2_with (first | (refine wpList_load_at rfl _ rfl (y.add (i * 16)) rfl cs hw hund rfl hsz1 ?_) | fail)
      refine kc.mono ?_
      rintro e W1 ⟨rfl, hB1⟩
      have hC1 := hC.then hB1
      have hc1 := (hB1.cell (World.block_lt_of_cell? _ _ hc0)).trans hc0
      clear kc hw
      by_cases h0 : cv = 0
      · subst h0
        rw [if_neg (by simp)] at hseq
        have hCd : CK w W1.drew := hC1.then (Below.refl _ _).drew
        by_cases hi0 : i = 0
        · subst hi0
          have hb : behind (prevOf (namesP l) 0) x.n.path = true := rfl
          rw [hb, if_neg (by decide), ← prev_succ (names_at hx)] at hseq
          have hS0 : (fun W : World => W.cell? (y.add (0 * 16)) = some (.string x.n.path)) W1.drew := hc1
          go_wp2_with fail
          refine wp_region_held_drew (S := (fun W : World => W.cell? (y.add (0 * 16)) = some (.string x.n.path))) (by kernel_rfl) (by exact hS0) ?_
          intro hHeld
          (first | (refine wpAnyH_take (i := 0) (v := ?_) (by simp only [gA, gB, gC]; rfl) (by kernel_rfl) (by kernel_rfl) (by kernel_rfl) (by exact fun _ _ _ h => h) (Or.inl ⟨by rfl, ?_⟩) (by assumption) ?_; rotate_left; (focus (intro w hSw; (try dsimp only at hSw); go_simp; try with_reducible rfl))) | (refine wpAnyH_take (i := 0) (v := undef) (by simp only [gA, gB, gC]; rfl) (by kernel_rfl) (by kernel_rfl) (by kernel_rfl) (by exact fun _ _ _ h => h) (Or.inr ⟨by rfl, rfl⟩) (by assumption) ?_) | fail); simp only [Act.put, sA, sB, sC]
          (first | (refine wpAnyH_take (i := 1) (v := ?_) (by simp only [gA, gB, gC]; rfl) (by kernel_rfl) (by kernel_rfl) (by kernel_rfl) (by exact fun _ _ _ h => h) (Or.inl ⟨by rfl, ?_⟩) (by assumption) ?_; rotate_left; (focus (intro w hSw; (try dsimp only at hSw); go_simp; try with_reducible rfl))) | (refine wpAnyH_take (i := 1) (v := undef) (by simp only [gA, gB, gC]; rfl) (by kernel_rfl) (by kernel_rfl) (by kernel_rfl) (by exact fun _ _ _ h => h) (Or.inr ⟨by rfl, rfl⟩) (by assumption) ?_) | fail); simp only [Act.put, sA, sB, sC]
          (first | (refine wpAnyH_take (i := 2) (v := ?_) (by simp only [gA, gB, gC]; rfl) (by kernel_rfl) (by kernel_rfl) (by kernel_rfl) (by exact fun _ _ _ h => h) (Or.inl ⟨by rfl, ?_⟩) (by assumption) ?_; rotate_left; (focus (intro w hSw; (try dsimp only at hSw); go_simp; try with_reducible rfl))) | (refine wpAnyH_take (i := 2) (v := undef) (by simp only [gA, gB, gC]; rfl) (by kernel_rfl) (by kernel_rfl) (by kernel_rfl) (by exact fun _ _ _ h => h) (Or.inr ⟨by rfl, rfl⟩) (by assumption) ?_) | fail); simp only [Act.put, sA, sB, sC]
          (first | (refine wpAnyH_take (i := 3) (v := ?_) (by simp only [gA, gB, gC]; rfl) (by kernel_rfl) (by kernel_rfl) (by kernel_rfl) (by exact fun _ _ _ h => h) (Or.inl ⟨by rfl, ?_⟩) (by assumption) ?_; rotate_left; (focus (intro w hSw; (try dsimp only at hSw); go_simp; try with_reducible rfl))) | (refine wpAnyH_take (i := 3) (v := undef) (by simp only [gA, gB, gC]; rfl) (by kernel_rfl) (by kernel_rfl) (by kernel_rfl) (by exact fun _ _ _ h => h) (Or.inr ⟨by rfl, rfl⟩) (by assumption) ?_) | fail); simp only [Act.put, sA, sB, sC]
          (first | (refine wpAnyH_take (i := 4) (v := ?_) (by simp only [gA, gB, gC]; rfl) (by kernel_rfl) (by kernel_rfl) (by kernel_rfl) (by exact fun _ _ _ h => h) (Or.inl ⟨by rfl, ?_⟩) (by assumption) ?_; rotate_left; (focus (intro w hSw; (try dsimp only at hSw); go_simp; try with_reducible rfl))) | (refine wpAnyH_take (i := 4) (v := undef) (by simp only [gA, gB, gC]; rfl) (by kernel_rfl) (by kernel_rfl) (by kernel_rfl) (by exact fun _ _ _ h => h) (Or.inr ⟨by rfl, rfl⟩) (by assumption) ?_) | fail); simp only [Act.put, sA, sB, sC]
          (first | (refine wpAnyH_take (i := 5) (v := ?_) (by simp only [gA, gB, gC]; rfl) (by kernel_rfl) (by kernel_rfl) (by kernel_rfl) (by exact fun _ _ _ h => h) (Or.inl ⟨by rfl, ?_⟩) (by assumption) ?_; rotate_left; (focus (intro w hSw; (try dsimp only at hSw); go_simp; try with_reducible rfl))) | (refine wpAnyH_take (i := 5) (v := undef) (by simp only [gA, gB, gC]; rfl) (by kernel_rfl) (by kernel_rfl) (by kernel_rfl) (by exact fun _ _ _ h => h) (Or.inr ⟨by rfl, rfl⟩) (by assumption) ?_) | fail); simp only [Act.put, sA, sB, sC]
          (first | (refine wpAnyH_take (i := 6) (v := ?_) (by simp only [gA, gB, gC]; rfl) (by kernel_rfl) (by kernel_rfl) (by kernel_rfl) (by exact fun _ _ _ h => h) (Or.inl ⟨by rfl, ?_⟩) (by assumption) ?_; rotate_left; (focus (intro w hSw; (try dsimp only at hSw); go_simp; try with_reducible rfl))) | (refine wpAnyH_take (i := 6) (v := undef) (by simp only [gA, gB, gC]; rfl) (by kernel_rfl) (by kernel_rfl) (by kernel_rfl) (by exact fun _ _ _ h => h) (Or.inr ⟨by rfl, rfl⟩) (by assumption) ?_) | fail); simp only [Act.put, sA, sB, sC]
          (first | (refine wpAnyH_take (i := 7) (v := ?_) (by simp only [gA, gB, gC]; rfl) (by kernel_rfl) (by kernel_rfl) (by kernel_rfl) (by exact fun _ _ _ h => h) (Or.inl ⟨by rfl, ?_⟩) (by assumption) ?_; rotate_left; (focus (intro w hSw; (try dsimp only at hSw); go_simp; try with_reducible rfl))) | (refine wpAnyH_take (i := 7) (v := undef) (by simp only [gA, gB, gC]; rfl) (by kernel_rfl) (by kernel_rfl) (by kernel_rfl) (by exact fun _ _ _ h => h) (Or.inr ⟨by rfl, rfl⟩) (by assumption) ?_) | fail); simp only [Act.put, sA, sB, sC]
          (first | (refine wpAnyH_take (i := 8) (v := ?_) (by simp only [gA, gB, gC]; rfl) (by kernel_rfl) (by kernel_rfl) (by kernel_rfl) (by exact fun _ _ _ h => h) (Or.inl ⟨by rfl, ?_⟩) (by assumption) ?_; rotate_left; (focus (intro w hSw; (try dsimp only at hSw); go_simp; try with_reducible rfl))) | (refine wpAnyH_take (i := 8) (v := undef) (by simp only [gA, gB, gC]; rfl) (by kernel_rfl) (by kernel_rfl) (by kernel_rfl) (by exact fun _ _ _ h => h) (Or.inr ⟨by rfl, rfl⟩) (by assumption) ?_) | fail); simp only [Act.put, sA, sB, sC]
          (first | (refine wpAnyH_take (i := 9) (v := ?_) (by simp only [gA, gB, gC]; rfl) (by kernel_rfl) (by kernel_rfl) (by kernel_rfl) (by exact fun _ _ _ h => h) (Or.inl ⟨by rfl, ?_⟩) (by assumption) ?_; rotate_left; (focus (intro w hSw; (try dsimp only at hSw); go_simp; try with_reducible rfl))) | (refine wpAnyH_take (i := 9) (v := undef) (by simp only [gA, gB, gC]; rfl) (by kernel_rfl) (by kernel_rfl) (by kernel_rfl) (by exact fun _ _ _ h => h) (Or.inr ⟨by rfl, rfl⟩) (by assumption) ?_) | fail); simp only [Act.put, sA, sB, sC]
          (first | (refine wpAnyH_take (i := 10) (v := ?_) (by simp only [gA, gB, gC]; rfl) (by kernel_rfl) (by kernel_rfl) (by kernel_rfl) (by exact fun _ _ _ h => h) (Or.inl ⟨by rfl, ?_⟩) (by assumption) ?_; rotate_left; (focus (intro w hSw; (try dsimp only at hSw); go_simp; try with_reducible rfl))) | (refine wpAnyH_take (i := 10) (v := undef) (by simp only [gA, gB, gC]; rfl) (by kernel_rfl) (by kernel_rfl) (by kernel_rfl) (by exact fun _ _ _ h => h) (Or.inr ⟨by rfl, rfl⟩) (by assumption) ?_) | fail); simp only [Act.put, sA, sB, sC]
          (first | (refine wpAnyH_take (i := 11) (v := ?_) (by simp only [gA, gB, gC]; rfl) (by kernel_rfl) (by kernel_rfl) (by kernel_rfl) (by exact fun _ _ _ h => h) (Or.inl ⟨by rfl, ?_⟩) (by assumption) ?_; rotate_left; (focus (intro w hSw; (try dsimp only at hSw); go_simp; try with_reducible rfl))) | (refine wpAnyH_take (i := 11) (v := undef) (by simp only [gA, gB, gC]; rfl) (by kernel_rfl) (by kernel_rfl) (by kernel_rfl) (by exact fun _ _ _ h => h) (Or.inr ⟨by rfl, rfl⟩) (by assumption) ?_) | fail); simp only [Act.put, sA, sB, sC]
          (first | (refine wpAnyH_take (i := 12) (v := ?_) (by simp only [gA, gB, gC]; rfl) (by kernel_rfl) (by kernel_rfl) (by kernel_rfl) (by exact fun _ _ _ h => h) (Or.inl ⟨by rfl, ?_⟩) (by assumption) ?_; rotate_left; (focus (intro w hSw; (try dsimp only at hSw); go_simp; try with_reducible rfl))) | (refine wpAnyH_take (i := 12) (v := undef) (by simp only [gA, gB, gC]; rfl) (by kernel_rfl) (by kernel_rfl) (by kernel_rfl) (by exact fun _ _ _ h => h) (Or.inr ⟨by rfl, rfl⟩) (by assumption) ?_) | fail); simp only [Act.put, sA, sB, sC]
          (first | (refine wpAnyH_take (i := 13) (v := ?_) (by simp only [gA, gB, gC]; rfl) (by kernel_rfl) (by kernel_rfl) (by kernel_rfl) (by exact fun _ _ _ h => h) (Or.inl ⟨by rfl, ?_⟩) (by assumption) ?_; rotate_left; (focus (intro w hSw; (try dsimp only at hSw); go_simp; try with_reducible rfl))) | (refine wpAnyH_take (i := 13) (v := undef) (by simp only [gA, gB, gC]; rfl) (by kernel_rfl) (by kernel_rfl) (by kernel_rfl) (by exact fun _ _ _ h => h) (Or.inr ⟨by rfl, rfl⟩) (by assumption) ?_) | fail); simp only [Act.put, sA, sB, sC]
          (first | (refine wpAnyH_take (i := 14) (v := ?_) (by simp only [gA, gB, gC]; rfl) (by kernel_rfl) (by kernel_rfl) (by kernel_rfl) (by exact fun _ _ _ h => h) (Or.inl ⟨by rfl, ?_⟩) (by assumption) ?_; rotate_left; (focus (intro w hSw; (try dsimp only at hSw); go_simp; try with_reducible rfl))) | (refine wpAnyH_take (i := 14) (v := undef) (by simp only [gA, gB, gC]; rfl) (by kernel_rfl) (by kernel_rfl) (by kernel_rfl) (by exact fun _ _ _ h => h) (Or.inr ⟨by rfl, rfl⟩) (by assumption) ?_) | fail); simp only [Act.put, sA, sB, sC]
          (first | (refine wpAnyH_take (i := 15) (v := ?_) (by simp only [gA, gB, gC]; rfl) (by kernel_rfl) (by kernel_rfl) (by kernel_rfl) (by exact fun _ _ _ h => h) (Or.inl ⟨by rfl, ?_⟩) (by assumption) ?_; rotate_left; (focus (intro w hSw; (try dsimp only at hSw); go_simp; try with_reducible rfl))) | (refine wpAnyH_take (i := 15) (v := undef) (by simp only [gA, gB, gC]; rfl) (by kernel_rfl) (by kernel_rfl) (by kernel_rfl) (by exact fun _ _ _ h => h) (Or.inr ⟨by rfl, rfl⟩) (by assumption) ?_) | fail); simp only [Act.put, sA, sB, sC]
          refine wpAnyH_done (by kernel_rfl) ?_ _
          go_wp2_with fail
          exact ⟨⟨1, by omega, by simp, hseq, hCd⟩, by simp [Go.RowKit.intOf]; omega⟩
        · obtain ⟨j, hji⟩ : ∃ j, i = j + 1 := ⟨i - 1, by omega⟩
          obtain ⟨z, hz⟩ : ∃ z, l[j]? = some z := ⟨_, List.getElem?_eq_getElem (by rw [hn.out]; omega)⟩
          have hz0 := hprev j z hji hz
          have hz1 := (hB1.cell (World.block_lt_of_cell? _ _ hz0)).trans hz0
          rw [hji, prev_succ (names_at hz), ← hji] at hseq
          have hbe : behind (some z.n.path) x.n.path = lt z.n.path x.n.path := rfl
          rw [hbe] at hseq
          have hS0 : (fun W : World => W.cell? (y.add (i * 16)) = some (.string x.n.path) ∧ W.cell? (y.add (j * 16)) = some (.string z.n.path)) W1.drew := ⟨hc1, hz1⟩
          have hwj : IntKind.i64.wrap ((i : Int) - 1) = (j : Int) := by rw [IntKind.wrap_i64]; omega
          have i1 : (0 : Int) < (i : Int) := by omega
          have hd1 : decide ((0 : Int) < (i : Int)) = true := decide_eq_true i1
          have hd2 : decide (0 < i) = true := decide_eq_true (by omega)
          have i2 : (j : Int) < (n : Int) := by omega
          replace hji : Aside (i = j + 1) := hji
          cases hlt2 : lt z.n.path x.n.path
          · have f0 := leq_of hlt2
            rw [hlt2, if_pos rfl] at hseq
            obtain rfl : R = 1 := by rw [← hR.out, hseq.out]; rfl
            go_wp2_with fail
            refine wp_region_held_drew (S := (fun W : World => W.cell? (y.add (i * 16)) = some (.string x.n.path) ∧ W.cell? (y.add (j * 16)) = some (.string z.n.path))) (by kernel_rfl) (by exact hS0) ?_
            intro hHeld
            (first | (refine wpAnyH_take (i := 0) (v := ?_) (by simp only [gA, gB, gC]; rfl) (by kernel_rfl) (by kernel_rfl) (by kernel_rfl) (by exact fun _ _ _ h => h) (Or.inl ⟨by rfl, ?_⟩) (by assumption) ?_; rotate_left; (focus (intro w hSw; (try dsimp only at hSw); go_simp; try with_reducible rfl))) | (refine wpAnyH_take (i := 0) (v := undef) (by simp only [gA, gB, gC]; rfl) (by kernel_rfl) (by kernel_rfl) (by kernel_rfl) (by exact fun _ _ _ h => h) (Or.inr ⟨by rfl, rfl⟩) (by assumption) ?_) | fail); simp only [Act.put, sA, sB, sC, hd1, hd2, hwj, f0]
            (first | (refine wpAnyH_take (i := 1) (v := ?_) (by simp only [gA, gB, gC]; rfl) (by kernel_rfl) (by kernel_rfl) (by kernel_rfl) (by exact fun _ _ _ h => h) (Or.inl ⟨by rfl, ?_⟩) (by assumption) ?_; rotate_left; (focus (intro w hSw; (try dsimp only at hSw); go_simp; try with_reducible rfl))) | (refine wpAnyH_take (i := 1) (v := undef) (by simp only [gA, gB, gC]; rfl) (by kernel_rfl) (by kernel_rfl) (by kernel_rfl) (by exact fun _ _ _ h => h) (Or.inr ⟨by rfl, rfl⟩) (by assumption) ?_) | fail); simp only [Act.put, sA, sB, sC, hd1, hd2, hwj, f0]
            (first | (refine wpAnyH_take (i := 2) (v := ?_) (by simp only [gA, gB, gC]; rfl) (by kernel_rfl) (by kernel_rfl) (by kernel_rfl) (by exact fun _ _ _ h => h) (Or.inl ⟨by rfl, ?_⟩) (by assumption) ?_; rotate_left; (focus (intro w hSw; (try dsimp only at hSw); go_simp; try with_reducible rfl))) | (refine wpAnyH_take (i := 2) (v := undef) (by simp only [gA, gB, gC]; rfl) (by kernel_rfl) (by kernel_rfl) (by kernel_rfl) (by exact fun _ _ _ h => h) (Or.inr ⟨by rfl, rfl⟩) (by assumption) ?_) | fail); simp only [Act.put, sA, sB, sC, hd1, hd2, hwj, f0]
            (first | (refine wpAnyH_take (i := 3) (v := ?_) (by simp only [gA, gB, gC]; rfl) (by kernel_rfl) (by kernel_rfl) (by kernel_rfl) (by exact fun _ _ _ h => h) (Or.inl ⟨by rfl, ?_⟩) (by assumption) ?_; rotate_left; (focus (intro w hSw; (try dsimp only at hSw); go_simp; try with_reducible rfl))) | (refine wpAnyH_take (i := 3) (v := undef) (by simp only [gA, gB, gC]; rfl) (by kernel_rfl) (by kernel_rfl) (by kernel_rfl) (by exact fun _ _ _ h => h) (Or.inr ⟨by rfl, rfl⟩) (by assumption) ?_) | fail); simp only [Act.put, sA, sB, sC, hd1, hd2, hwj, f0]
            (first | (refine wpAnyH_take (i := 4) (v := ?_) (by simp only [gA, gB, gC]; rfl) (by kernel_rfl) (by kernel_rfl) (by kernel_rfl) (by exact fun _ _ _ h => h) (Or.inl ⟨by rfl, ?_⟩) (by assumption) ?_; rotate_left; (focus (intro w hSw; (try dsimp only at hSw); go_simp; try with_reducible rfl))) | (refine wpAnyH_take (i := 4) (v := undef) (by simp only [gA, gB, gC]; rfl) (by kernel_rfl) (by kernel_rfl) (by kernel_rfl) (by exact fun _ _ _ h => h) (Or.inr ⟨by rfl, rfl⟩) (by assumption) ?_) | fail); simp only [Act.put, sA, sB, sC, hd1, hd2, hwj, f0]
            (first | (refine wpAnyH_take (i := 5) (v := ?_) (by simp only [gA, gB, gC]; rfl) (by kernel_rfl) (by kernel_rfl) (by kernel_rfl) (by exact fun _ _ _ h => h) (Or.inl ⟨by rfl, ?_⟩) (by assumption) ?_; rotate_left; (focus (intro w hSw; (try dsimp only at hSw); go_simp; try with_reducible rfl))) | (refine wpAnyH_take (i := 5) (v := undef) (by simp only [gA, gB, gC]; rfl) (by kernel_rfl) (by kernel_rfl) (by kernel_rfl) (by exact fun _ _ _ h => h) (Or.inr ⟨by rfl, rfl⟩) (by assumption) ?_) | fail); simp only [Act.put, sA, sB, sC, hd1, hd2, hwj, f0]
            (first | (refine wpAnyH_take (i := 6) (v := ?_) (by simp only [gA, gB, gC]; rfl) (by kernel_rfl) (by kernel_rfl) (by kernel_rfl) (by exact fun _ _ _ h => h) (Or.inl ⟨by rfl, ?_⟩) (by assumption) ?_; rotate_left; (focus (intro w hSw; (try dsimp only at hSw); go_simp; try with_reducible rfl))) | (refine wpAnyH_take (i := 6) (v := undef) (by simp only [gA, gB, gC]; rfl) (by kernel_rfl) (by kernel_rfl) (by kernel_rfl) (by exact fun _ _ _ h => h) (Or.inr ⟨by rfl, rfl⟩) (by assumption) ?_) | fail); simp only [Act.put, sA, sB, sC, hd1, hd2, hwj, f0]
            (first | (refine wpAnyH_take (i := 7) (v := ?_) (by simp only [gA, gB, gC]; rfl) (by kernel_rfl) (by kernel_rfl) (by kernel_rfl) (by exact fun _ _ _ h => h) (Or.inl ⟨by rfl, ?_⟩) (by assumption) ?_; rotate_left; (focus (intro w hSw; (try dsimp only at hSw); go_simp; try with_reducible rfl))) | (refine wpAnyH_take (i := 7) (v := undef) (by simp only [gA, gB, gC]; rfl) (by kernel_rfl) (by kernel_rfl) (by kernel_rfl) (by exact fun _ _ _ h => h) (Or.inr ⟨by rfl, rfl⟩) (by assumption) ?_) | fail); simp only [Act.put, sA, sB, sC, hd1, hd2, hwj, f0]
            (first | (refine wpAnyH_take (i := 8) (v := ?_) (by simp only [gA, gB, gC]; rfl) (by kernel_rfl) (by kernel_rfl) (by kernel_rfl) (by exact fun _ _ _ h => h) (Or.inl ⟨by rfl, ?_⟩) (by assumption) ?_; rotate_left; (focus (intro w hSw; (try dsimp only at hSw); go_simp; try with_reducible rfl))) | (refine wpAnyH_take (i := 8) (v := undef) (by simp only [gA, gB, gC]; rfl) (by kernel_rfl) (by kernel_rfl) (by kernel_rfl) (by exact fun _ _ _ h => h) (Or.inr ⟨by rfl, rfl⟩) (by assumption) ?_) | fail); simp only [Act.put, sA, sB, sC, hd1, hd2, hwj, f0]
            (first | (refine wpAnyH_take (i := 9) (v := ?_) (by simp only [gA, gB, gC]; rfl) (by kernel_rfl) (by kernel_rfl) (by kernel_rfl) (by exact fun _ _ _ h => h) (Or.inl ⟨by rfl, ?_⟩) (by assumption) ?_; rotate_left; (focus (intro w hSw; (try dsimp only at hSw); go_simp; try with_reducible rfl))) | (refine wpAnyH_take (i := 9) (v := undef) (by simp only [gA, gB, gC]; rfl) (by kernel_rfl) (by kernel_rfl) (by kernel_rfl) (by exact fun _ _ _ h => h) (Or.inr ⟨by rfl, rfl⟩) (by assumption) ?_) | fail); simp only [Act.put, sA, sB, sC, hd1, hd2, hwj, f0]
            (first | (refine wpAnyH_take (i := 10) (v := ?_) (by simp only [gA, gB, gC]; rfl) (by kernel_rfl) (by kernel_rfl) (by kernel_rfl) (by exact fun _ _ _ h => h) (Or.inl ⟨by rfl, ?_⟩) (by assumption) ?_; rotate_left; (focus (intro w hSw; (try dsimp only at hSw); go_simp; try with_reducible rfl))) | (refine wpAnyH_take (i := 10) (v := undef) (by simp only [gA, gB, gC]; rfl) (by kernel_rfl) (by kernel_rfl) (by kernel_rfl) (by exact fun _ _ _ h => h) (Or.inr ⟨by rfl, rfl⟩) (by assumption) ?_) | fail); simp only [Act.put, sA, sB, sC, hd1, hd2, hwj, f0]
            (first | (refine wpAnyH_take (i := 11) (v := ?_) (by simp only [gA, gB, gC]; rfl) (by kernel_rfl) (by kernel_rfl) (by kernel_rfl) (by exact fun _ _ _ h => h) (Or.inl ⟨by rfl, ?_⟩) (by assumption) ?_; rotate_left; (focus (intro w hSw; (try dsimp only at hSw); go_simp; try with_reducible rfl))) | (refine wpAnyH_take (i := 11) (v := undef) (by simp only [gA, gB, gC]; rfl) (by kernel_rfl) (by kernel_rfl) (by kernel_rfl) (by exact fun _ _ _ h => h) (Or.inr ⟨by rfl, rfl⟩) (by assumption) ?_) | fail); simp only [Act.put, sA, sB, sC, hd1, hd2, hwj, f0]
            (first | (refine wpAnyH_take (i := 12) (v := ?_) (by simp only [gA, gB, gC]; rfl) (by kernel_rfl) (by kernel_rfl) (by kernel_rfl) (by exact fun _ _ _ h => h) (Or.inl ⟨by rfl, ?_⟩) (by assumption) ?_; rotate_left; (focus (intro w hSw; (try dsimp only at hSw); go_simp; try with_reducible rfl))) | (refine wpAnyH_take (i := 12) (v := undef) (by simp only [gA, gB, gC]; rfl) (by kernel_rfl) (by kernel_rfl) (by kernel_rfl) (by exact fun _ _ _ h => h) (Or.inr ⟨by rfl, rfl⟩) (by assumption) ?_) | fail); simp only [Act.put, sA, sB, sC, hd1, hd2, hwj, f0]
            (first | (refine wpAnyH_take (i := 13) (v := ?_) (by simp only [gA, gB, gC]; rfl) (by kernel_rfl) (by kernel_rfl) (by kernel_rfl) (by exact fun _ _ _ h => h) (Or.inl ⟨by rfl, ?_⟩) (by assumption) ?_; rotate_left; (focus (intro w hSw; (try dsimp only at hSw); go_simp; try with_reducible rfl))) | (refine wpAnyH_take (i := 13) (v := undef) (by simp only [gA, gB, gC]; rfl) (by kernel_rfl) (by kernel_rfl) (by kernel_rfl) (by exact fun _ _ _ h => h) (Or.inr ⟨by rfl, rfl⟩) (by assumption) ?_) | fail); simp only [Act.put, sA, sB, sC, hd1, hd2, hwj, f0]
            (first | (refine wpAnyH_take (i := 14) (v := ?_) (by simp only [gA, gB, gC]; rfl) (by kernel_rfl) (by kernel_rfl) (by kernel_rfl) (by exact fun _ _ _ h => h) (Or.inl ⟨by rfl, ?_⟩) (by assumption) ?_; rotate_left; (focus (intro w hSw; (try dsimp only at hSw); go_simp; try with_reducible rfl))) | (refine wpAnyH_take (i := 14) (v := undef) (by simp only [gA, gB, gC]; rfl) (by kernel_rfl) (by kernel_rfl) (by kernel_rfl) (by exact fun _ _ _ h => h) (Or.inr ⟨by rfl, rfl⟩) (by assumption) ?_) | fail); simp only [Act.put, sA, sB, sC, hd1, hd2, hwj, f0]
            (first | (refine wpAnyH_take (i := 15) (v := ?_) (by simp only [gA, gB, gC]; rfl) (by kernel_rfl) (by kernel_rfl) (by kernel_rfl) (by exact fun _ _ _ h => h) (Or.inl ⟨by rfl, ?_⟩) (by assumption) ?_; rotate_left; (focus (intro w hSw; (try dsimp only at hSw); go_simp; try with_reducible rfl))) | (refine wpAnyH_take (i := 15) (v := undef) (by simp only [gA, gB, gC]; rfl) (by kernel_rfl) (by kernel_rfl) (by kernel_rfl) (by exact fun _ _ _ h => h) (Or.inr ⟨by rfl, rfl⟩) (by assumption) ?_) | fail); simp only [Act.put, sA, sB, sC, hd1, hd2, hwj, f0]
            refine wpAnyH_done (by kernel_rfl) ?_ _
            go_wp2_with fail
            go_ret
            exact ⟨rfl, hCd.bl⟩
          · have f0 := leq_not hlt2
            rw [hlt2, if_neg (by decide), ← prev_succ (names_at hx)] at hseq
            go_wp2_with fail
            refine wp_region_held_drew (S := (fun W : World => W.cell? (y.add (i * 16)) = some (.string x.n.path) ∧ W.cell? (y.add (j * 16)) = some (.string z.n.path))) (by kernel_rfl) (by exact hS0) ?_
            intro hHeld
            (first | (refine wpAnyH_take (i := 0) (v := ?_) (by simp only [gA, gB, gC]; rfl) (by kernel_rfl) (by kernel_rfl) (by kernel_rfl) (by exact fun _ _ _ h => h) (Or.inl ⟨by rfl, ?_⟩) (by assumption) ?_; rotate_left; (focus (intro w hSw; (try dsimp only at hSw); go_simp; try with_reducible rfl))) | (refine wpAnyH_take (i := 0) (v := undef) (by simp only [gA, gB, gC]; rfl) (by kernel_rfl) (by kernel_rfl) (by kernel_rfl) (by exact fun _ _ _ h => h) (Or.inr ⟨by rfl, rfl⟩) (by assumption) ?_) | fail); simp only [Act.put, sA, sB, sC, hd1, hd2, hwj, f0]
            (first | (refine wpAnyH_take (i := 1) (v := ?_) (by simp only [gA, gB, gC]; rfl) (by kernel_rfl) (by kernel_rfl) (by kernel_rfl) (by exact fun _ _ _ h => h) (Or.inl ⟨by rfl, ?_⟩) (by assumption) ?_; rotate_left; (focus (intro w hSw; (try dsimp only at hSw); go_simp; try with_reducible rfl))) | (refine wpAnyH_take (i := 1) (v := undef) (by simp only [gA, gB, gC]; rfl) (by kernel_rfl) (by kernel_rfl) (by kernel_rfl) (by exact fun _ _ _ h => h) (Or.inr ⟨by rfl, rfl⟩) (by assumption) ?_) | fail); simp only [Act.put, sA, sB, sC, hd1, hd2, hwj, f0]
            (first | (refine wpAnyH_take (i := 2) (v := ?_) (by simp only [gA, gB, gC]; rfl) (by kernel_rfl) (by kernel_rfl) (by kernel_rfl) (by exact fun _ _ _ h => h) (Or.inl ⟨by rfl, ?_⟩) (by assumption) ?_; rotate_left; (focus (intro w hSw; (try dsimp only at hSw); go_simp; try with_reducible rfl))) | (refine wpAnyH_take (i := 2) (v := undef) (by simp only [gA, gB, gC]; rfl) (by kernel_rfl) (by kernel_rfl) (by kernel_rfl) (by exact fun _ _ _ h => h) (Or.inr ⟨by rfl, rfl⟩) (by assumption) ?_) | fail); simp only [Act.put, sA, sB, sC, hd1, hd2, hwj, f0]
            (first | (refine wpAnyH_take (i := 3) (v := ?_) (by simp only [gA, gB, gC]; rfl) (by kernel_rfl) (by kernel_rfl) (by kernel_rfl) (by exact fun _ _ _ h => h) (Or.inl ⟨by rfl, ?_⟩) (by assumption) ?_; rotate_left; (focus (intro w hSw; (try dsimp only at hSw); go_simp; try with_reducible rfl))) | (refine wpAnyH_take (i := 3) (v := undef) (by simp only [gA, gB, gC]; rfl) (by kernel_rfl) (by kernel_rfl) (by kernel_rfl) (by exact fun _ _ _ h => h) (Or.inr ⟨by rfl, rfl⟩) (by assumption) ?_) | fail); simp only [Act.put, sA, sB, sC, hd1, hd2, hwj, f0]
            (first | (refine wpAnyH_take (i := 4) (v := ?_) (by simp only [gA, gB, gC]; rfl) (by kernel_rfl) (by kernel_rfl) (by kernel_rfl) (by exact fun _ _ _ h => h) (Or.inl ⟨by rfl, ?_⟩) (by assumption) ?_; rotate_left; (focus (intro w hSw; (try dsimp only at hSw); go_simp; try with_reducible rfl))) | (refine wpAnyH_take (i := 4) (v := undef) (by simp only [gA, gB, gC]; rfl) (by kernel_rfl) (by kernel_rfl) (by kernel_rfl) (by exact fun _ _ _ h => h) (Or.inr ⟨by rfl, rfl⟩) (by assumption) ?_) | fail); simp only [Act.put, sA, sB, sC, hd1, hd2, hwj, f0]
            (first | (refine wpAnyH_take (i := 5) (v := ?_) (by simp only [gA, gB, gC]; rfl) (by kernel_rfl) (by kernel_rfl) (by kernel_rfl) (by exact fun _ _ _ h => h) (Or.inl ⟨by rfl, ?_⟩) (by assumption) ?_; rotate_left; (focus (intro w hSw; (try dsimp only at hSw); go_simp; try with_reducible rfl))) | (refine wpAnyH_take (i := 5) (v := undef) (by simp only [gA, gB, gC]; rfl) (by kernel_rfl) (by kernel_rfl) (by kernel_rfl) (by exact fun _ _ _ h => h) (Or.inr ⟨by rfl, rfl⟩) (by assumption) ?_) | fail); simp only [Act.put, sA, sB, sC, hd1, hd2, hwj, f0]
            (first | (refine wpAnyH_take (i := 6) (v := ?_) (by simp only [gA, gB, gC]; rfl) (by kernel_rfl) (by kernel_rfl) (by kernel_rfl) (by exact fun _ _ _ h => h) (Or.inl ⟨by rfl, ?_⟩) (by assumption) ?_; rotate_left; (focus (intro w hSw; (try dsimp only at hSw); go_simp; try with_reducible rfl))) | (refine wpAnyH_take (i := 6) (v := undef) (by simp only [gA, gB, gC]; rfl) (by kernel_rfl) (by kernel_rfl) (by kernel_rfl) (by exact fun _ _ _ h => h) (Or.inr ⟨by rfl, rfl⟩) (by assumption) ?_) | fail); simp only [Act.put, sA, sB, sC, hd1, hd2, hwj, f0]
            (first | (refine wpAnyH_take (i := 7) (v := ?_) (by simp only [gA, gB, gC]; rfl) (by kernel_rfl) (by kernel_rfl) (by kernel_rfl) (by exact fun _ _ _ h => h) (Or.inl ⟨by rfl, ?_⟩) (by assumption) ?_; rotate_left; (focus (intro w hSw; (try dsimp only at hSw); go_simp; try with_reducible rfl))) | (refine wpAnyH_take (i := 7) (v := undef) (by simp only [gA, gB, gC]; rfl) (by kernel_rfl) (by kernel_rfl) (by kernel_rfl) (by exact fun _ _ _ h => h) (Or.inr ⟨by rfl, rfl⟩) (by assumption) ?_) | fail); simp only [Act.put, sA, sB, sC, hd1, hd2, hwj, f0]
            (first | (refine wpAnyH_take (i := 8) (v := ?_) (by simp only [gA, gB, gC]; rfl) (by kernel_rfl) (by kernel_rfl) (by kernel_rfl) (by exact fun _ _ _ h => h) (Or.inl ⟨by rfl, ?_⟩) (by assumption) ?_; rotate_left; (focus (intro w hSw; (try dsimp only at hSw); go_simp; try with_reducible rfl))) | (refine wpAnyH_take (i := 8) (v := undef) (by simp only [gA, gB, gC]; rfl) (by kernel_rfl) (by kernel_rfl) (by kernel_rfl) (by exact fun _ _ _ h => h) (Or.inr ⟨by rfl, rfl⟩) (by assumption) ?_) | fail); simp only [Act.put, sA, sB, sC, hd1, hd2, hwj, f0]
            (first | (refine wpAnyH_take (i := 9) (v := ?_) (by simp only [gA, gB, gC]; rfl) (by kernel_rfl) (by kernel_rfl) (by kernel_rfl) (by exact fun _ _ _ h => h) (Or.inl ⟨by rfl, ?_⟩) (by assumption) ?_; rotate_left; (focus (intro w hSw; (try dsimp only at hSw); go_simp; try with_reducible rfl))) | (refine wpAnyH_take (i := 9) (v := undef) (by simp only [gA, gB, gC]; rfl) (by kernel_rfl) (by kernel_rfl) (by kernel_rfl) (by exact fun _ _ _ h => h) (Or.inr ⟨by rfl, rfl⟩) (by assumption) ?_) | fail); simp only [Act.put, sA, sB, sC, hd1, hd2, hwj, f0]
            (first | (refine wpAnyH_take (i := 10) (v := ?_) (by simp only [gA, gB, gC]; rfl) (by kernel_rfl) (by kernel_rfl) (by kernel_rfl) (by exact fun _ _ _ h => h) (Or.inl ⟨by rfl, ?_⟩) (by assumption) ?_; rotate_left; (focus (intro w hSw; (try dsimp only at hSw); go_simp; try with_reducible rfl))) | (refine wpAnyH_take (i := 10) (v := undef) (by simp only [gA, gB, gC]; rfl) (by kernel_rfl) (by kernel_rfl) (by kernel_rfl) (by exact fun _ _ _ h => h) (Or.inr ⟨by rfl, rfl⟩) (by assumption) ?_) | fail); simp only [Act.put, sA, sB, sC, hd1, hd2, hwj, f0]
            (first | (refine wpAnyH_take (i := 11) (v := ?_) (by simp only [gA, gB, gC]; rfl) (by kernel_rfl) (by kernel_rfl) (by kernel_rfl) (by exact fun _ _ _ h => h) (Or.inl ⟨by rfl, ?_⟩) (by assumption) ?_; rotate_left; (focus (intro w hSw; (try dsimp only at hSw); go_simp; try with_reducible rfl))) | (refine wpAnyH_take (i := 11) (v := undef) (by simp only [gA, gB, gC]; rfl) (by kernel_rfl) (by kernel_rfl) (by kernel_rfl) (by exact fun _ _ _ h => h) (Or.inr ⟨by rfl, rfl⟩) (by assumption) ?_) | fail); simp only [Act.put, sA, sB, sC, hd1, hd2, hwj, f0]
            (first | (refine wpAnyH_take (i := 12) (v := ?_) (by simp only [gA, gB, gC]; rfl) (by kernel_rfl) (by kernel_rfl) (by kernel_rfl) (by exact fun _ _ _ h => h) (Or.inl ⟨by rfl, ?_⟩) (by assumption) ?_; rotate_left; (focus (intro w hSw; (try dsimp only at hSw); go_simp; try with_reducible rfl))) | (refine wpAnyH_take (i := 12) (v := undef) (by simp only [gA, gB, gC]; rfl) (by kernel_rfl) (by kernel_rfl) (by kernel_rfl) (by exact fun _ _ _ h => h) (Or.inr ⟨by rfl, rfl⟩) (by assumption) ?_) | fail); simp only [Act.put, sA, sB, sC, hd1, hd2, hwj, f0]
            (first | (refine wpAnyH_take (i := 13) (v := ?_) (by simp only [gA, gB, gC]; rfl) (by kernel_rfl) (by kernel_rfl) (by kernel_rfl) (by exact fun _ _ _ h => h) (Or.inl ⟨by rfl, ?_⟩) (by assumption) ?_; rotate_left; (focus (intro w hSw; (try dsimp only at hSw); go_simp; try with_reducible rfl))) | (refine wpAnyH_take (i := 13) (v := undef) (by simp only [gA, gB, gC]; rfl) (by kernel_rfl) (by kernel_rfl) (by kernel_rfl) (by exact fun _ _ _ h => h) (Or.inr ⟨by rfl, rfl⟩) (by assumption) ?_) | fail); simp only [Act.put, sA, sB, sC, hd1, hd2, hwj, f0]
            (first | (refine wpAnyH_take (i := 14) (v := ?_) (by simp only [gA, gB, gC]; rfl) (by kernel_rfl) (by kernel_rfl) (by kernel_rfl) (by exact fun _ _ _ h => h) (Or.inl ⟨by rfl, ?_⟩) (by assumption) ?_; rotate_left; (focus (intro w hSw; (try dsimp only at hSw); go_simp; try with_reducible rfl))) | (refine wpAnyH_take (i := 14) (v := undef) (by simp only [gA, gB, gC]; rfl) (by kernel_rfl) (by kernel_rfl) (by kernel_rfl) (by exact fun _ _ _ h => h) (Or.inr ⟨by rfl, rfl⟩) (by assumption) ?_) | fail); simp only [Act.put, sA, sB, sC, hd1, hd2, hwj, f0]
            (first | (refine wpAnyH_take (i := 15) (v := ?_) (by simp only [gA, gB, gC]; rfl) (by kernel_rfl) (by kernel_rfl) (by kernel_rfl) (by exact fun _ _ _ h => h) (Or.inl ⟨by rfl, ?_⟩) (by assumption) ?_; rotate_left; (focus (intro w hSw; (try dsimp only at hSw); go_simp; try with_reducible rfl))) | (refine wpAnyH_take (i := 15) (v := undef) (by simp only [gA, gB, gC]; rfl) (by kernel_rfl) (by kernel_rfl) (by kernel_rfl) (by exact fun _ _ _ h => h) (Or.inr ⟨by rfl, rfl⟩) (by assumption) ?_) | fail); simp only [Act.put, sA, sB, sC, hd1, hd2, hwj, f0]
            refine wpAnyH_done (by kernel_rfl) ?_ _
            go_wp2_with fail
            exact ⟨⟨i + 1, by omega, by simp, hseq, hCd⟩, by simp [Go.RowKit.intOf]; omega⟩
      · rw [if_pos h0] at hseq
        obtain rfl : R = cv := by rw [← hR.out, hseq.out, if_pos h0]
        have i1 : (R != 0) = true := by simp [h0]
        go_wp2_with fail
        go_ret
        exact ⟨rfl, hC1.bl⟩
    · obtain rfl : i = n := by omega
      have hs0 : seqC none (namesP l) = 0 := by
        rw [hseq.out, List.drop_eq_nil_of_le (by simp [namesP, hn.out])]
        rfl
      have hps := path_few hs0
      rw [if_neg (by rw [hs0]; simp)] at hR
      have kb := kf wr slashS hrow
      have hsl : (Tryd.prog.info? 26).map (·.size) = some 4 := by kernel_rfl
      have kne := run_neq_lab
      rw [find_names] at hR
      obtain ⟨cs, hcs⟩ : ∃ cs, foundCs (findP l slashS) = cs := ⟨_, rfl⟩
      have hlen : cs.length = 16 := by rw [← hcs]; rfl
      have hone : ∀ v ∈ cs, v.oneCell' = true := by rw [← hcs]; exact pn_one _
      have hszc : (Tryd.prog.info? 32).map (·.size) = some cs.length := by rw [hlen]; exact hsz
      rw [hcs] at kb
      have hi1 : ¬ (i : Int) < (i : Int) := by omega
      go_wp2_with fail
      refine kb.mono ?_
      rintro e W1 ⟨rfl, hB1⟩
      have hC1 := hC.then hB1
      obtain ⟨W2, hW2, ht2, hk2, hb2⟩ := put_new W1 #[.string ⟨#[]⟩, .bool false, .int .i64 0, .int .i64 0, .int .i64 0, .int .i64 0, .slice none 0 0, .int .i64 0, .int .i64 0, .int .i64 0, .int .i64 0, .slice none 0 0, .int .i64 0, .int .i64 0, .int .i64 0, .int .i64 0] 32 cs (by rw [hlen]; rfl) (by omega)
      have hC2 := hC1.then hb2
      clear kb hC hB1 hb2
      generalize hp5 : W1.heap.size = p5 at *
      clear hseq hs0
      cases hfr : findP l slashS with
      | none =>
        rw [hfr] at hR
        obtain rfl : R = 2 := hR.out.symm
        simp only [hfr]
        clear hR hcs
        go_wp2_with (first | (refine wpList_store_row rfl _ _ rfl p5 (by rw [← hp5]; rfl) cs rfl ht2 hszc hone hW2 ?_) | fail)
        go_ret
        exact ⟨rfl, hC2.bl⟩
      | some rt =>
        rw [hfr] at hR hcs
        replace hR : Aside ((if upC (namesP l) (namesP l) ≠ 0 then upC (namesP l) (namesP l) else if labEq rt.n.label bottomL = true then 0 else 15) = R) := hR
        have hcs' : cs = rt.cs := hcs.symm
        have hlabr : ∀ {W : World}, BlkL p5 cs W → CellsAt W ⟨p5, 0 + 2, none⟩ (labLit rt.n.label) := fun {W} q => pn_lab (x := ⟨p5, 0, none⟩) (p := rt) (by rw [← hcs']; exact q.at)
        clear hcs hcs'
        simp only [hfr]
        go_wp2_with (first | (refine wpList_store_row rfl _ _ rfl p5 (by rw [← hp5]; rfl) cs rfl ht2 hszc hone hW2 ?_) | fail)
        clear ht2 hW2 hC1 hp5 hone
        go_loopw [7] (fun t7 wr => ∃ k : Nat, k ≤ i ∧ t7 = .int .i64 (k : Int) ∧ Aside (upC (namesP l) (namesP l) = upC (namesP l) ((namesP l).drop k)) ∧ CK w wr ∧ BlkL p5 cs wr) (fun t7 _ => i - (Go.RowKit.intOf t7).toNat)
        case atStart => exact ⟨0, by omega, rfl, rfl, hC2, hk2⟩
        case round =>
          clear hC2 hk2
          obtain ⟨k, hk, rfl, hup, hC, hkB⟩ := hrel
          have hrow := h.below hC.bl
          by_cases hlt : k < i
          · obtain ⟨x, hx⟩ : ∃ x, l[k]? = some x := ⟨_, List.getElem?_eq_getElem (by rw [hn.out]; exact hlt)⟩
            obtain ⟨y, rfl⟩ := h.some_ hx
            have hc0 := hrow.path hx
            have hw := hrow.r.at pn_len hx
            have hsx := hps x (List.mem_of_getElem? hx)
            rw [up_drop (names_at hx)] at hup
            have i0 : (k : Int) < (i : Int) := by omega
            cases hs : eqs x.n.path slashS
            · have f0 : (x.n.path.toList == [47]) = false := by rw [← eqs_slash]; exact hs
              rw [hs, if_neg (by decide), find_names] at hup
              have kp := rparent_any x.n.path (by omega) wr
              have kb := kf wr (parentOf x.n.path) hrow
              obtain ⟨ds, hds⟩ : ∃ ds, foundCs (findP l (parentOf x.n.path)) = ds := ⟨_, rfl⟩
              have hlend : ds.length = 16 := by rw [← hds]; rfl
              have hone : ∀ v ∈ ds, v.oneCell' = true := by rw [← hds]; exact pn_one _
              have hszd : (Tryd.prog.info? 32).map (·.size) = some ds.length := by rw [hlend]; exact hsz
              rw [hds] at kb
              go_wp2_with fail
              refine kp.mono ?_
              rintro e w' ⟨rfl, hww⟩
              replace hww := hww.symm
              subst hww
              go_wp2_with fail
              refine kb.mono ?_
              rintro e W1 ⟨rfl, hB1⟩
              have hC1 := hC.then hB1
              have hw1 := hw.below hB1
              have hkB1 := stab_blk _ _ _ _ hkB hB1
              obtain ⟨W3, hW3, ht3, hk3, hb3⟩ := put_new W1 #[.string ⟨#[]⟩, .bool false, .int .i64 0, .int .i64 0, .int .i64 0, .int .i64 0, .slice none 0 0, .int .i64 0, .int .i64 0, .int .i64 0, .int .i64 0, .slice none 0 0, .int .i64 0, .int .i64 0, .int .i64 0, .int .i64 0] 32 ds (by rw [hlend]; rfl) (by omega)
              have hC3 := hC1.then hb3
              have hw3 := hw1.below hb3
              have hkB3 := stab_blk _ _ _ _ hkB1 hb3
              clear kp kb hC hB1 hC1 hw hw1 hkB hkB1 hb3 hrow hc0
              generalize hp8 : W1.heap.size = p8 at *
              cases hfp : findP l (parentOf x.n.path) with
              | none =>
                rw [hfp] at hup
                obtain rfl : R = 2 := by rw [← hR.out, hup.out]; rfl
                simp only [hfp]
                clear hds
                go_wp2_with (first | (refine wpList_store_row rfl _ _ rfl p8 (by rw [← hp8]; rfl) ds rfl ht3 hszd hone hW3 ?_) | fail)
                go_ret
                exact ⟨rfl, hC3.bl⟩
              | some p =>
                rw [hfp] at hup hds
                replace hup : Aside (upC (namesP l) (namesP l) = if p.n.dir = false then 3 else if (!rov x.n.label p.n.label || (!x.n.dir && !labEq x.n.label p.n.label)) = true then 15 else upC (namesP l) ((namesP l).drop (k + 1))) := hup
                have hkp : BlkL p8 p.cs W3 := by rw [show p.cs = ds from hds]; exact hk3
                have hdp := pn_dir (x := ⟨p8, 0, none⟩) hkp.at
                clear hds
                simp only [hfp]
                cases hpd : p.n.dir
                · rw [hpd] at hdp
                  rw [hpd, if_pos rfl] at hup
                  obtain rfl : R = 3 := by rw [← hR.out, hup.out]; rfl
                  go_wp2_with (first | (refine wpList_store_row rfl _ _ rfl p8 (by rw [← hp8]; rfl) ds rfl ht3 hszd hone hW3 ?_) | fail)
                  go_ret
                  exact ⟨rfl, hC3.bl⟩
                · rw [hpd] at hdp
                  rw [hpd, if_neg (by decide)] at hup
                  have hS0 : (fun W => CellsAt W (y.add (k * 16)) x.cs ∧ BlkL p8 p.cs W) W3.drew := ⟨hw3, hkp⟩
                  have hC4 : CK w W3.drew := hC3.then (Below.refl _ _).drew
                  have hkB4 : BlkL p5 cs W3.drew := hkB3
                  go_wp2_with (first | (refine wpList_store_row rfl _ _ rfl p8 (by rw [← hp8]; rfl) ds rfl ht3 hszd hone hW3 ?_) | fail)
                  clear hdp
                  cases hov : rov x.n.label p.n.label
                  · rw [hov] at hup
                    obtain rfl : R = 15 := by rw [← hR.out, hup.out]; rfl
                    go_wp2_with fail
                    refine wp_region_held_drew (S := (fun W => CellsAt W (y.add (k * 16)) x.cs ∧ BlkL p8 p.cs W)) (by kernel_rfl) (by first | exact hS1 | exact hS0) ?_
                    intro hHeld
                    (first | (refine wpAnyH_take (i := 0) (v := ?_) (by simp only [gA, gB, gC]; rfl) (by kernel_rfl) (by kernel_rfl) (by kernel_rfl) (by exact fun _ _ _ h => h) (Or.inl ⟨by rfl, ?_⟩) (by assumption) ?_; rotate_left; (focus (intro w hSw; (try dsimp only at hSw); go_simp; try with_reducible rfl))) | (refine wpAnyH_take (i := 0) (v := undef) (by simp only [gA, gB, gC]; rfl) (by kernel_rfl) (by kernel_rfl) (by kernel_rfl) (by exact fun _ _ _ h => h) (Or.inr ⟨by rfl, rfl⟩) (by assumption) ?_) | fail); simp only [Act.put, sA, sB, sC, hov, Bool.not_true, Bool.not_false]
                    (first | (refine wpAnyH_take (i := 1) (v := ?_) (by simp only [gA, gB, gC]; rfl) (by kernel_rfl) (by kernel_rfl) (by kernel_rfl) (by exact fun _ _ _ h => h) (Or.inl ⟨by rfl, ?_⟩) (by assumption) ?_; rotate_left; (focus (intro w hSw; (try dsimp only at hSw); go_simp; try with_reducible rfl))) | (refine wpAnyH_take (i := 1) (v := undef) (by simp only [gA, gB, gC]; rfl) (by kernel_rfl) (by kernel_rfl) (by kernel_rfl) (by exact fun _ _ _ h => h) (Or.inr ⟨by rfl, rfl⟩) (by assumption) ?_) | fail); simp only [Act.put, sA, sB, sC, hov, Bool.not_true, Bool.not_false]
                    (first | (refine wpAnyH_take (i := 2) (v := ?_) (by simp only [gA, gB, gC]; rfl) (by kernel_rfl) (by kernel_rfl) (by kernel_rfl) (by exact fun _ _ _ h => h) (Or.inl ⟨by rfl, ?_⟩) (by assumption) ?_; rotate_left; (focus (intro w hSw; (try dsimp only at hSw); go_simp; try with_reducible rfl))) | (refine wpAnyH_take (i := 2) (v := undef) (by simp only [gA, gB, gC]; rfl) (by kernel_rfl) (by kernel_rfl) (by kernel_rfl) (by exact fun _ _ _ h => h) (Or.inr ⟨by rfl, rfl⟩) (by assumption) ?_) | fail); simp only [Act.put, sA, sB, sC, hov, Bool.not_true, Bool.not_false]
                    (first | (refine wpAnyH_take (i := 3) (v := ?_) (by simp only [gA, gB, gC]; rfl) (by kernel_rfl) (by kernel_rfl) (by kernel_rfl) (by exact fun _ _ _ h => h) (Or.inl ⟨by rfl, ?_⟩) (by assumption) ?_; rotate_left; (focus (intro w hSw; (try dsimp only at hSw); go_simp; try with_reducible rfl))) | (refine wpAnyH_take (i := 3) (v := undef) (by simp only [gA, gB, gC]; rfl) (by kernel_rfl) (by kernel_rfl) (by kernel_rfl) (by exact fun _ _ _ h => h) (Or.inr ⟨by rfl, rfl⟩) (by assumption) ?_) | fail); simp only [Act.put, sA, sB, sC, hov, Bool.not_true, Bool.not_false]
                    (first | (refine wpAnyH_take (i := 4) (v := _) (by simp only [gA, gB, gC]; rfl) (by kernel_rfl) (by kernel_rfl) (by kernel_rfl) (by exact fun _ _ _ h => h) (yields_at (by rfl) _ rfl _ rfl (labLit x.n.label) (fun _ q => pn_lab q.1) Tryd.underlying26 rfl hsl) (by assumption) ?_) | (refine wpAnyH_take (i := 4) (v := undef) (by simp only [gA, gB, gC]; rfl) (by kernel_rfl) (by kernel_rfl) (by kernel_rfl) (by exact fun _ _ _ h => h) (Or.inr ⟨by rfl, rfl⟩) (by assumption) ?_) | fail); simp only [Act.put, sA, sB, sC, hov, Bool.not_true, Bool.not_false]
                    (first | (refine wpAnyH_take (i := 5) (v := ?_) (by simp only [gA, gB, gC]; rfl) (by kernel_rfl) (by kernel_rfl) (by kernel_rfl) (by exact fun _ _ _ h => h) (Or.inl ⟨by rfl, ?_⟩) (by assumption) ?_; rotate_left; (focus (intro w hSw; (try dsimp only at hSw); go_simp; try with_reducible rfl))) | (refine wpAnyH_take (i := 5) (v := undef) (by simp only [gA, gB, gC]; rfl) (by kernel_rfl) (by kernel_rfl) (by kernel_rfl) (by exact fun _ _ _ h => h) (Or.inr ⟨by rfl, rfl⟩) (by assumption) ?_) | fail); simp only [Act.put, sA, sB, sC, hov, Bool.not_true, Bool.not_false]
                    (first | (refine wpAnyH_take (i := 6) (v := _) (by simp only [gA, gB, gC]; rfl) (by kernel_rfl) (by kernel_rfl) (by kernel_rfl) (by exact fun _ _ _ h => h) (yields_at (by rfl) _ rfl _ rfl (labLit p.n.label) (fun _ q => pn_lab q.2.at) Tryd.underlying26 rfl hsl) (by assumption) ?_) | (refine wpAnyH_take (i := 6) (v := undef) (by simp only [gA, gB, gC]; rfl) (by kernel_rfl) (by kernel_rfl) (by kernel_rfl) (by exact fun _ _ _ h => h) (Or.inr ⟨by rfl, rfl⟩) (by assumption) ?_) | fail); simp only [Act.put, sA, sB, sC, hov, Bool.not_true, Bool.not_false]
                    first | (refine wpAnyH_take (i := 7) (v := undef) (by simp only [gA, gB, gC]; rfl) (by kernel_rfl) (by kernel_rfl) (by kernel_rfl) (by exact fun _ _ _ h => h) (Or.inr ⟨by rfl, rfl⟩) (by assumption) ?_; simp only [Act.put, sA, sB, sC, hov, Bool.not_true, Bool.not_false]) | (refine wpAnyH_ready (rs := [7]) (by kernel_rfl) (by simp) ?_; refine AllReadyH.cons (by simp only [gA, gB, gC]; rfl) (fun K hK => ?_) AllReadyH.nil; go_simp; (first | (go_at_call 29; refine (rlover_any x.n.label p.n.label _).mono ?_; rintro e w1 ⟨rfl, hb1⟩; have hS1 : (fun W => CellsAt W (y.add (k * 16)) x.cs ∧ BlkL p8 p.cs W) w1 := ⟨hS0.1.below hb1, stab_blk _ _ _ _ hS0.2 hb1⟩)); refine hK.out _ _ (by first | exact hS1 | exact hS0) ?_; clear hHeld hK; intro hHeld; (try simp only [Act.put, sA, sB, sC, hov, Bool.not_true, Bool.not_false])) | fail
                    (first | (refine wpAnyH_take (i := 8) (v := ?_) (by simp only [gA, gB, gC]; rfl) (by kernel_rfl) (by kernel_rfl) (by kernel_rfl) (by exact fun _ _ _ h => h) (Or.inl ⟨by rfl, ?_⟩) (by assumption) ?_; rotate_left; (focus (intro w hSw; (try dsimp only at hSw); go_simp; try with_reducible rfl))) | (refine wpAnyH_take (i := 8) (v := undef) (by simp only [gA, gB, gC]; rfl) (by kernel_rfl) (by kernel_rfl) (by kernel_rfl) (by exact fun _ _ _ h => h) (Or.inr ⟨by rfl, rfl⟩) (by assumption) ?_) | fail); simp only [Act.put, sA, sB, sC, hov, Bool.not_true, Bool.not_false]
                    (first | (refine wpAnyH_take (i := 9) (v := ?_) (by simp only [gA, gB, gC]; rfl) (by kernel_rfl) (by kernel_rfl) (by kernel_rfl) (by exact fun _ _ _ h => h) (Or.inl ⟨by rfl, ?_⟩) (by assumption) ?_; rotate_left; (focus (intro w hSw; (try dsimp only at hSw); go_simp; try with_reducible rfl))) | (refine wpAnyH_take (i := 9) (v := undef) (by simp only [gA, gB, gC]; rfl) (by kernel_rfl) (by kernel_rfl) (by kernel_rfl) (by exact fun _ _ _ h => h) (Or.inr ⟨by rfl, rfl⟩) (by assumption) ?_) | fail); simp only [Act.put, sA, sB, sC, hov, Bool.not_true, Bool.not_false]
                    (first | (refine wpAnyH_take (i := 10) (v := ?_) (by simp only [gA, gB, gC]; rfl) (by kernel_rfl) (by kernel_rfl) (by kernel_rfl) (by exact fun _ _ _ h => h) (Or.inl ⟨by rfl, ?_⟩) (by assumption) ?_; rotate_left; (focus (intro w hSw; (try dsimp only at hSw); go_simp; try with_reducible rfl))) | (refine wpAnyH_take (i := 10) (v := undef) (by simp only [gA, gB, gC]; rfl) (by kernel_rfl) (by kernel_rfl) (by kernel_rfl) (by exact fun _ _ _ h => h) (Or.inr ⟨by rfl, rfl⟩) (by assumption) ?_) | fail); simp only [Act.put, sA, sB, sC, hov, Bool.not_true, Bool.not_false]
                    (first | (refine wpAnyH_take (i := 11) (v := ?_) (by simp only [gA, gB, gC]; rfl) (by kernel_rfl) (by kernel_rfl) (by kernel_rfl) (by exact fun _ _ _ h => h) (Or.inl ⟨by rfl, ?_⟩) (by assumption) ?_; rotate_left; (focus (intro w hSw; (try dsimp only at hSw); go_simp; try with_reducible rfl))) | (refine wpAnyH_take (i := 11) (v := undef) (by simp only [gA, gB, gC]; rfl) (by kernel_rfl) (by kernel_rfl) (by kernel_rfl) (by exact fun _ _ _ h => h) (Or.inr ⟨by rfl, rfl⟩) (by assumption) ?_) | fail); simp only [Act.put, sA, sB, sC, hov, Bool.not_true, Bool.not_false]
                    (first | (refine wpAnyH_take (i := 12) (v := ?_) (by simp only [gA, gB, gC]; rfl) (by kernel_rfl) (by kernel_rfl) (by kernel_rfl) (by exact fun _ _ _ h => h) (Or.inl ⟨by rfl, ?_⟩) (by assumption) ?_; rotate_left; (focus (intro w hSw; (try dsimp only at hSw); go_simp; try with_reducible rfl))) | (refine wpAnyH_take (i := 12) (v := undef) (by simp only [gA, gB, gC]; rfl) (by kernel_rfl) (by kernel_rfl) (by kernel_rfl) (by exact fun _ _ _ h => h) (Or.inr ⟨by rfl, rfl⟩) (by assumption) ?_) | fail); simp only [Act.put, sA, sB, sC, hov, Bool.not_true, Bool.not_false]
                    (first | (refine wpAnyH_take (i := 13) (v := ?_) (by simp only [gA, gB, gC]; rfl) (by kernel_rfl) (by kernel_rfl) (by kernel_rfl) (by exact fun _ _ _ h => h) (Or.inl ⟨by rfl, ?_⟩) (by assumption) ?_; rotate_left; (focus (intro w hSw; (try dsimp only at hSw); go_simp; try with_reducible rfl))) | (refine wpAnyH_take (i := 13) (v := undef) (by simp only [gA, gB, gC]; rfl) (by kernel_rfl) (by kernel_rfl) (by kernel_rfl) (by exact fun _ _ _ h => h) (Or.inr ⟨by rfl, rfl⟩) (by assumption) ?_) | fail); simp only [Act.put, sA, sB, sC, hov, Bool.not_true, Bool.not_false]
                    (first | (refine wpAnyH_take (i := 14) (v := _) (by simp only [gA, gB, gC]; rfl) (by kernel_rfl) (by kernel_rfl) (by kernel_rfl) (by exact fun _ _ _ h => h) (yields_one (by rfl) _ rfl _ rfl (.bool x.n.dir) (fun _ q => pn_dir q.1) bool_load) (by assumption) ?_) | (refine wpAnyH_take (i := 14) (v := undef) (by simp only [gA, gB, gC]; rfl) (by kernel_rfl) (by kernel_rfl) (by kernel_rfl) (by exact fun _ _ _ h => h) (Or.inr ⟨by rfl, rfl⟩) (by assumption) ?_) | fail); simp only [Act.put, sA, sB, sC, hov, Bool.not_true, Bool.not_false]
                    (first | (refine wpAnyH_take (i := 15) (v := ?_) (by simp only [gA, gB, gC]; rfl) (by kernel_rfl) (by kernel_rfl) (by kernel_rfl) (by exact fun _ _ _ h => h) (Or.inl ⟨by rfl, ?_⟩) (by assumption) ?_; rotate_left; (focus (intro w hSw; (try dsimp only at hSw); go_simp; try with_reducible rfl))) | (refine wpAnyH_take (i := 15) (v := undef) (by simp only [gA, gB, gC]; rfl) (by kernel_rfl) (by kernel_rfl) (by kernel_rfl) (by exact fun _ _ _ h => h) (Or.inr ⟨by rfl, rfl⟩) (by assumption) ?_) | fail); simp only [Act.put, sA, sB, sC, hov, Bool.not_true, Bool.not_false]
                    (first | (refine wpAnyH_take (i := 16) (v := ?_) (by simp only [gA, gB, gC]; rfl) (by kernel_rfl) (by kernel_rfl) (by kernel_rfl) (by exact fun _ _ _ h => h) (Or.inl ⟨by rfl, ?_⟩) (by assumption) ?_; rotate_left; (focus (intro w hSw; (try dsimp only at hSw); go_simp; try with_reducible rfl))) | (refine wpAnyH_take (i := 16) (v := undef) (by simp only [gA, gB, gC]; rfl) (by kernel_rfl) (by kernel_rfl) (by kernel_rfl) (by exact fun _ _ _ h => h) (Or.inr ⟨by rfl, rfl⟩) (by assumption) ?_) | fail); simp only [Act.put, sA, sB, sC, hov, Bool.not_true, Bool.not_false]
                    (first | (refine wpAnyH_take (i := 17) (v := ?_) (by simp only [gA, gB, gC]; rfl) (by kernel_rfl) (by kernel_rfl) (by kernel_rfl) (by exact fun _ _ _ h => h) (Or.inl ⟨by rfl, ?_⟩) (by assumption) ?_; rotate_left; (focus (intro w hSw; (try dsimp only at hSw); go_simp; try with_reducible rfl))) | (refine wpAnyH_take (i := 17) (v := undef) (by simp only [gA, gB, gC]; rfl) (by kernel_rfl) (by kernel_rfl) (by kernel_rfl) (by exact fun _ _ _ h => h) (Or.inr ⟨by rfl, rfl⟩) (by assumption) ?_) | fail); simp only [Act.put, sA, sB, sC, hov, Bool.not_true, Bool.not_false]
                    (first | (refine wpAnyH_take (i := 18) (v := ?_) (by simp only [gA, gB, gC]; rfl) (by kernel_rfl) (by kernel_rfl) (by kernel_rfl) (by exact fun _ _ _ h => h) (Or.inl ⟨by rfl, ?_⟩) (by assumption) ?_; rotate_left; (focus (intro w hSw; (try dsimp only at hSw); go_simp; try with_reducible rfl))) | (refine wpAnyH_take (i := 18) (v := undef) (by simp only [gA, gB, gC]; rfl) (by kernel_rfl) (by kernel_rfl) (by kernel_rfl) (by exact fun _ _ _ h => h) (Or.inr ⟨by rfl, rfl⟩) (by assumption) ?_) | fail); simp only [Act.put, sA, sB, sC, hov, Bool.not_true, Bool.not_false]
                    (first | (refine wpAnyH_take (i := 19) (v := ?_) (by simp only [gA, gB, gC]; rfl) (by kernel_rfl) (by kernel_rfl) (by kernel_rfl) (by exact fun _ _ _ h => h) (Or.inl ⟨by rfl, ?_⟩) (by assumption) ?_; rotate_left; (focus (intro w hSw; (try dsimp only at hSw); go_simp; try with_reducible rfl))) | (refine wpAnyH_take (i := 19) (v := undef) (by simp only [gA, gB, gC]; rfl) (by kernel_rfl) (by kernel_rfl) (by kernel_rfl) (by exact fun _ _ _ h => h) (Or.inr ⟨by rfl, rfl⟩) (by assumption) ?_) | fail); simp only [Act.put, sA, sB, sC, hov, Bool.not_true, Bool.not_false]
                    (first | (refine wpAnyH_take (i := 20) (v := ?_) (by simp only [gA, gB, gC]; rfl) (by kernel_rfl) (by kernel_rfl) (by kernel_rfl) (by exact fun _ _ _ h => h) (Or.inl ⟨by rfl, ?_⟩) (by assumption) ?_; rotate_left; (focus (intro w hSw; (try dsimp only at hSw); go_simp; try with_reducible rfl))) | (refine wpAnyH_take (i := 20) (v := undef) (by simp only [gA, gB, gC]; rfl) (by kernel_rfl) (by kernel_rfl) (by kernel_rfl) (by exact fun _ _ _ h => h) (Or.inr ⟨by rfl, rfl⟩) (by assumption) ?_) | fail); simp only [Act.put, sA, sB, sC, hov, Bool.not_true, Bool.not_false]
                    (first | (refine wpAnyH_take (i := 21) (v := _) (by simp only [gA, gB, gC]; rfl) (by kernel_rfl) (by kernel_rfl) (by kernel_rfl) (by exact fun _ _ _ h => h) (yields_at (by rfl) _ rfl _ rfl (labLit x.n.label) (fun _ q => pn_lab q.1) Tryd.underlying26 rfl hsl) (by assumption) ?_) | (refine wpAnyH_take (i := 21) (v := undef) (by simp only [gA, gB, gC]; rfl) (by kernel_rfl) (by kernel_rfl) (by kernel_rfl) (by exact fun _ _ _ h => h) (Or.inr ⟨by rfl, rfl⟩) (by assumption) ?_) | fail); simp only [Act.put, sA, sB, sC, hov, Bool.not_true, Bool.not_false]
                    (first | (refine wpAnyH_take (i := 22) (v := ?_) (by simp only [gA, gB, gC]; rfl) (by kernel_rfl) (by kernel_rfl) (by kernel_rfl) (by exact fun _ _ _ h => h) (Or.inl ⟨by rfl, ?_⟩) (by assumption) ?_; rotate_left; (focus (intro w hSw; (try dsimp only at hSw); go_simp; try with_reducible rfl))) | (refine wpAnyH_take (i := 22) (v := undef) (by simp only [gA, gB, gC]; rfl) (by kernel_rfl) (by kernel_rfl) (by kernel_rfl) (by exact fun _ _ _ h => h) (Or.inr ⟨by rfl, rfl⟩) (by assumption) ?_) | fail); simp only [Act.put, sA, sB, sC, hov, Bool.not_true, Bool.not_false]
                    (first | (refine wpAnyH_take (i := 23) (v := _) (by simp only [gA, gB, gC]; rfl) (by kernel_rfl) (by kernel_rfl) (by kernel_rfl) (by exact fun _ _ _ h => h) (yields_at (by rfl) _ rfl _ rfl (labLit p.n.label) (fun _ q => pn_lab q.2.at) Tryd.underlying26 rfl hsl) (by assumption) ?_) | (refine wpAnyH_take (i := 23) (v := undef) (by simp only [gA, gB, gC]; rfl) (by kernel_rfl) (by kernel_rfl) (by kernel_rfl) (by exact fun _ _ _ h => h) (Or.inr ⟨by rfl, rfl⟩) (by assumption) ?_) | fail); simp only [Act.put, sA, sB, sC, hov, Bool.not_true, Bool.not_false]
                    (first | (refine wpAnyH_take (i := 24) (v := ?_) (by simp only [gA, gB, gC]; rfl) (by kernel_rfl) (by kernel_rfl) (by kernel_rfl) (by exact fun _ _ _ h => h) (Or.inl ⟨by rfl, ?_⟩) (by assumption) ?_; rotate_left; (focus (intro w hSw; (try dsimp only at hSw); go_simp; try with_reducible rfl))) | (refine wpAnyH_take (i := 24) (v := undef) (by simp only [gA, gB, gC]; rfl) (by kernel_rfl) (by kernel_rfl) (by kernel_rfl) (by exact fun _ _ _ h => h) (Or.inr ⟨by rfl, rfl⟩) (by assumption) ?_) | fail); simp only [Act.put, sA, sB, sC, hov, Bool.not_true, Bool.not_false]
                    (first | (refine wpAnyH_take (i := 25) (v := ?_) (by simp only [gA, gB, gC]; rfl) (by kernel_rfl) (by kernel_rfl) (by kernel_rfl) (by exact fun _ _ _ h => h) (Or.inl ⟨by rfl, ?_⟩) (by assumption) ?_; rotate_left; (focus (intro w hSw; (try dsimp only at hSw); go_simp; try with_reducible rfl))) | (refine wpAnyH_take (i := 25) (v := undef) (by simp only [gA, gB, gC]; rfl) (by kernel_rfl) (by kernel_rfl) (by kernel_rfl) (by exact fun _ _ _ h => h) (Or.inr ⟨by rfl, rfl⟩) (by assumption) ?_) | fail); simp only [Act.put, sA, sB, sC, hov, Bool.not_true, Bool.not_false]
                    (first | (refine wpAnyH_take (i := 26) (v := ?_) (by simp only [gA, gB, gC]; rfl) (by kernel_rfl) (by kernel_rfl) (by kernel_rfl) (by exact fun _ _ _ h => h) (Or.inl ⟨by rfl, ?_⟩) (by assumption) ?_; rotate_left; (focus (intro w hSw; (try dsimp only at hSw); go_simp; try with_reducible rfl))) | (refine wpAnyH_take (i := 26) (v := undef) (by simp only [gA, gB, gC]; rfl) (by kernel_rfl) (by kernel_rfl) (by kernel_rfl) (by exact fun _ _ _ h => h) (Or.inr ⟨by rfl, rfl⟩) (by assumption) ?_) | fail); simp only [Act.put, sA, sB, sC, hov, Bool.not_true, Bool.not_false]
                    (first | (refine wpAnyH_take (i := 27) (v := ?_) (by simp only [gA, gB, gC]; rfl) (by kernel_rfl) (by kernel_rfl) (by kernel_rfl) (by exact fun _ _ _ h => h) (Or.inl ⟨by rfl, ?_⟩) (by assumption) ?_; rotate_left; (focus (intro w hSw; (try dsimp only at hSw); go_simp; try with_reducible rfl))) | (refine wpAnyH_take (i := 27) (v := undef) (by simp only [gA, gB, gC]; rfl) (by kernel_rfl) (by kernel_rfl) (by kernel_rfl) (by exact fun _ _ _ h => h) (Or.inr ⟨by rfl, rfl⟩) (by assumption) ?_) | fail); simp only [Act.put, sA, sB, sC, hov, Bool.not_true, Bool.not_false]
                    refine wpAnyH_done (by kernel_rfl) ?_ _
                    go_wp2_with fail
                    go_ret
                    exact ⟨rfl, (hC4.then hb1).bl⟩
                  · rw [hov] at hup
                    cases hdx : x.n.dir
                    · cases hle : labEq x.n.label p.n.label
                      · rw [hdx, hle] at hup
                        obtain rfl : R = 15 := by rw [← hR.out, hup.out]; rfl
                        go_wp2_with fail
                        refine wp_region_held_drew (S := (fun W => CellsAt W (y.add (k * 16)) x.cs ∧ BlkL p8 p.cs W)) (by kernel_rfl) (by first | exact hS1 | exact hS0) ?_
                        intro hHeld
                        (first | (refine wpAnyH_take (i := 0) (v := ?_) (by simp only [gA, gB, gC]; rfl) (by kernel_rfl) (by kernel_rfl) (by kernel_rfl) (by exact fun _ _ _ h => h) (Or.inl ⟨by rfl, ?_⟩) (by assumption) ?_; rotate_left; (focus (intro w hSw; (try dsimp only at hSw); go_simp; try with_reducible rfl))) | (refine wpAnyH_take (i := 0) (v := undef) (by simp only [gA, gB, gC]; rfl) (by kernel_rfl) (by kernel_rfl) (by kernel_rfl) (by exact fun _ _ _ h => h) (Or.inr ⟨by rfl, rfl⟩) (by assumption) ?_) | fail); simp only [Act.put, sA, sB, sC, hov, hdx, hle, Bool.not_true, Bool.not_false]
                        (first | (refine wpAnyH_take (i := 1) (v := ?_) (by simp only [gA, gB, gC]; rfl) (by kernel_rfl) (by kernel_rfl) (by kernel_rfl) (by exact fun _ _ _ h => h) (Or.inl ⟨by rfl, ?_⟩) (by assumption) ?_; rotate_left; (focus (intro w hSw; (try dsimp only at hSw); go_simp; try with_reducible rfl))) | (refine wpAnyH_take (i := 1) (v := undef) (by simp only [gA, gB, gC]; rfl) (by kernel_rfl) (by kernel_rfl) (by kernel_rfl) (by exact fun _ _ _ h => h) (Or.inr ⟨by rfl, rfl⟩) (by assumption) ?_) | fail); simp only [Act.put, sA, sB, sC, hov, hdx, hle, Bool.not_true, Bool.not_false]
                        (first | (refine wpAnyH_take (i := 2) (v := ?_) (by simp only [gA, gB, gC]; rfl) (by kernel_rfl) (by kernel_rfl) (by kernel_rfl) (by exact fun _ _ _ h => h) (Or.inl ⟨by rfl, ?_⟩) (by assumption) ?_; rotate_left; (focus (intro w hSw; (try dsimp only at hSw); go_simp; try with_reducible rfl))) | (refine wpAnyH_take (i := 2) (v := undef) (by simp only [gA, gB, gC]; rfl) (by kernel_rfl) (by kernel_rfl) (by kernel_rfl) (by exact fun _ _ _ h => h) (Or.inr ⟨by rfl, rfl⟩) (by assumption) ?_) | fail); simp only [Act.put, sA, sB, sC, hov, hdx, hle, Bool.not_true, Bool.not_false]
                        (first | (refine wpAnyH_take (i := 3) (v := ?_) (by simp only [gA, gB, gC]; rfl) (by kernel_rfl) (by kernel_rfl) (by kernel_rfl) (by exact fun _ _ _ h => h) (Or.inl ⟨by rfl, ?_⟩) (by assumption) ?_; rotate_left; (focus (intro w hSw; (try dsimp only at hSw); go_simp; try with_reducible rfl))) | (refine wpAnyH_take (i := 3) (v := undef) (by simp only [gA, gB, gC]; rfl) (by kernel_rfl) (by kernel_rfl) (by kernel_rfl) (by exact fun _ _ _ h => h) (Or.inr ⟨by rfl, rfl⟩) (by assumption) ?_) | fail); simp only [Act.put, sA, sB, sC, hov, hdx, hle, Bool.not_true, Bool.not_false]
                        (first | (refine wpAnyH_take (i := 4) (v := _) (by simp only [gA, gB, gC]; rfl) (by kernel_rfl) (by kernel_rfl) (by kernel_rfl) (by exact fun _ _ _ h => h) (yields_at (by rfl) _ rfl _ rfl (labLit x.n.label) (fun _ q => pn_lab q.1) Tryd.underlying26 rfl hsl) (by assumption) ?_) | (refine wpAnyH_take (i := 4) (v := undef) (by simp only [gA, gB, gC]; rfl) (by kernel_rfl) (by kernel_rfl) (by kernel_rfl) (by exact fun _ _ _ h => h) (Or.inr ⟨by rfl, rfl⟩) (by assumption) ?_) | fail); simp only [Act.put, sA, sB, sC, hov, hdx, hle, Bool.not_true, Bool.not_false]
                        (first | (refine wpAnyH_take (i := 5) (v := ?_) (by simp only [gA, gB, gC]; rfl) (by kernel_rfl) (by kernel_rfl) (by kernel_rfl) (by exact fun _ _ _ h => h) (Or.inl ⟨by rfl, ?_⟩) (by assumption) ?_; rotate_left; (focus (intro w hSw; (try dsimp only at hSw); go_simp; try with_reducible rfl))) | (refine wpAnyH_take (i := 5) (v := undef) (by simp only [gA, gB, gC]; rfl) (by kernel_rfl) (by kernel_rfl) (by kernel_rfl) (by exact fun _ _ _ h => h) (Or.inr ⟨by rfl, rfl⟩) (by assumption) ?_) | fail); simp only [Act.put, sA, sB, sC, hov, hdx, hle, Bool.not_true, Bool.not_false]
                        (first | (refine wpAnyH_take (i := 6) (v := _) (by simp only [gA, gB, gC]; rfl) (by kernel_rfl) (by kernel_rfl) (by kernel_rfl) (by exact fun _ _ _ h => h) (yields_at (by rfl) _ rfl _ rfl (labLit p.n.label) (fun _ q => pn_lab q.2.at) Tryd.underlying26 rfl hsl) (by assumption) ?_) | (refine wpAnyH_take (i := 6) (v := undef) (by simp only [gA, gB, gC]; rfl) (by kernel_rfl) (by kernel_rfl) (by kernel_rfl) (by exact fun _ _ _ h => h) (Or.inr ⟨by rfl, rfl⟩) (by assumption) ?_) | fail); simp only [Act.put, sA, sB, sC, hov, hdx, hle, Bool.not_true, Bool.not_false]
                        first | (refine wpAnyH_take (i := 7) (v := undef) (by simp only [gA, gB, gC]; rfl) (by kernel_rfl) (by kernel_rfl) (by kernel_rfl) (by exact fun _ _ _ h => h) (Or.inr ⟨by rfl, rfl⟩) (by assumption) ?_; simp only [Act.put, sA, sB, sC, hov, hdx, hle, Bool.not_true, Bool.not_false]) | (refine wpAnyH_ready (rs := [7]) (by kernel_rfl) (by simp) ?_; refine AllReadyH.cons (by simp only [gA, gB, gC]; rfl) (fun K hK => ?_) AllReadyH.nil; go_simp; (first | (go_at_call 29; refine (rlover_any x.n.label p.n.label _).mono ?_; rintro e w1 ⟨rfl, hb1⟩; have hS1 : (fun W => CellsAt W (y.add (k * 16)) x.cs ∧ BlkL p8 p.cs W) w1 := ⟨hS0.1.below hb1, stab_blk _ _ _ _ hS0.2 hb1⟩)); refine hK.out _ _ (by first | exact hS1 | exact hS0) ?_; clear hHeld hK; intro hHeld; (try simp only [Act.put, sA, sB, sC, hov, hdx, hle, Bool.not_true, Bool.not_false])) | fail
                        (first | (refine wpAnyH_take (i := 8) (v := ?_) (by simp only [gA, gB, gC]; rfl) (by kernel_rfl) (by kernel_rfl) (by kernel_rfl) (by exact fun _ _ _ h => h) (Or.inl ⟨by rfl, ?_⟩) (by assumption) ?_; rotate_left; (focus (intro w hSw; (try dsimp only at hSw); go_simp; try with_reducible rfl))) | (refine wpAnyH_take (i := 8) (v := undef) (by simp only [gA, gB, gC]; rfl) (by kernel_rfl) (by kernel_rfl) (by kernel_rfl) (by exact fun _ _ _ h => h) (Or.inr ⟨by rfl, rfl⟩) (by assumption) ?_) | fail); simp only [Act.put, sA, sB, sC, hov, hdx, hle, Bool.not_true, Bool.not_false]
                        (first | (refine wpAnyH_take (i := 9) (v := ?_) (by simp only [gA, gB, gC]; rfl) (by kernel_rfl) (by kernel_rfl) (by kernel_rfl) (by exact fun _ _ _ h => h) (Or.inl ⟨by rfl, ?_⟩) (by assumption) ?_; rotate_left; (focus (intro w hSw; (try dsimp only at hSw); go_simp; try with_reducible rfl))) | (refine wpAnyH_take (i := 9) (v := undef) (by simp only [gA, gB, gC]; rfl) (by kernel_rfl) (by kernel_rfl) (by kernel_rfl) (by exact fun _ _ _ h => h) (Or.inr ⟨by rfl, rfl⟩) (by assumption) ?_) | fail); simp only [Act.put, sA, sB, sC, hov, hdx, hle, Bool.not_true, Bool.not_false]
                        (first | (refine wpAnyH_take (i := 10) (v := ?_) (by simp only [gA, gB, gC]; rfl) (by kernel_rfl) (by kernel_rfl) (by kernel_rfl) (by exact fun _ _ _ h => h) (Or.inl ⟨by rfl, ?_⟩) (by assumption) ?_; rotate_left; (focus (intro w hSw; (try dsimp only at hSw); go_simp; try with_reducible rfl))) | (refine wpAnyH_take (i := 10) (v := undef) (by simp only [gA, gB, gC]; rfl) (by kernel_rfl) (by kernel_rfl) (by kernel_rfl) (by exact fun _ _ _ h => h) (Or.inr ⟨by rfl, rfl⟩) (by assumption) ?_) | fail); simp only [Act.put, sA, sB, sC, hov, hdx, hle, Bool.not_true, Bool.not_false]
                        (first | (refine wpAnyH_take (i := 11) (v := ?_) (by simp only [gA, gB, gC]; rfl) (by kernel_rfl) (by kernel_rfl) (by kernel_rfl) (by exact fun _ _ _ h => h) (Or.inl ⟨by rfl, ?_⟩) (by assumption) ?_; rotate_left; (focus (intro w hSw; (try dsimp only at hSw); go_simp; try with_reducible rfl))) | (refine wpAnyH_take (i := 11) (v := undef) (by simp only [gA, gB, gC]; rfl) (by kernel_rfl) (by kernel_rfl) (by kernel_rfl) (by exact fun _ _ _ h => h) (Or.inr ⟨by rfl, rfl⟩) (by assumption) ?_) | fail); simp only [Act.put, sA, sB, sC, hov, hdx, hle, Bool.not_true, Bool.not_false]
                        (first | (refine wpAnyH_take (i := 12) (v := ?_) (by simp only [gA, gB, gC]; rfl) (by kernel_rfl) (by kernel_rfl) (by kernel_rfl) (by exact fun _ _ _ h => h) (Or.inl ⟨by rfl, ?_⟩) (by assumption) ?_; rotate_left; (focus (intro w hSw; (try dsimp only at hSw); go_simp; try with_reducible rfl))) | (refine wpAnyH_take (i := 12) (v := undef) (by simp only [gA, gB, gC]; rfl) (by kernel_rfl) (by kernel_rfl) (by kernel_rfl) (by exact fun _ _ _ h => h) (Or.inr ⟨by rfl, rfl⟩) (by assumption) ?_) | fail); simp only [Act.put, sA, sB, sC, hov, hdx, hle, Bool.not_true, Bool.not_false]
                        (first | (refine wpAnyH_take (i := 13) (v := ?_) (by simp only [gA, gB, gC]; rfl) (by kernel_rfl) (by kernel_rfl) (by kernel_rfl) (by exact fun _ _ _ h => h) (Or.inl ⟨by rfl, ?_⟩) (by assumption) ?_; rotate_left; (focus (intro w hSw; (try dsimp only at hSw); go_simp; try with_reducible rfl))) | (refine wpAnyH_take (i := 13) (v := undef) (by simp only [gA, gB, gC]; rfl) (by kernel_rfl) (by kernel_rfl) (by kernel_rfl) (by exact fun _ _ _ h => h) (Or.inr ⟨by rfl, rfl⟩) (by assumption) ?_) | fail); simp only [Act.put, sA, sB, sC, hov, hdx, hle, Bool.not_true, Bool.not_false]
                        (first | (refine wpAnyH_take (i := 14) (v := _) (by simp only [gA, gB, gC]; rfl) (by kernel_rfl) (by kernel_rfl) (by kernel_rfl) (by exact fun _ _ _ h => h) (yields_one (by rfl) _ rfl _ rfl (.bool x.n.dir) (fun _ q => pn_dir q.1) bool_load) (by assumption) ?_) | (refine wpAnyH_take (i := 14) (v := undef) (by simp only [gA, gB, gC]; rfl) (by kernel_rfl) (by kernel_rfl) (by kernel_rfl) (by exact fun _ _ _ h => h) (Or.inr ⟨by rfl, rfl⟩) (by assumption) ?_) | fail); simp only [Act.put, sA, sB, sC, hov, hdx, hle, Bool.not_true, Bool.not_false]
                        (first | (refine wpAnyH_take (i := 15) (v := ?_) (by simp only [gA, gB, gC]; rfl) (by kernel_rfl) (by kernel_rfl) (by kernel_rfl) (by exact fun _ _ _ h => h) (Or.inl ⟨by rfl, ?_⟩) (by assumption) ?_; rotate_left; (focus (intro w hSw; (try dsimp only at hSw); go_simp; try with_reducible rfl))) | (refine wpAnyH_take (i := 15) (v := undef) (by simp only [gA, gB, gC]; rfl) (by kernel_rfl) (by kernel_rfl) (by kernel_rfl) (by exact fun _ _ _ h => h) (Or.inr ⟨by rfl, rfl⟩) (by assumption) ?_) | fail); simp only [Act.put, sA, sB, sC, hov, hdx, hle, Bool.not_true, Bool.not_false]
                        (first | (refine wpAnyH_take (i := 16) (v := ?_) (by simp only [gA, gB, gC]; rfl) (by kernel_rfl) (by kernel_rfl) (by kernel_rfl) (by exact fun _ _ _ h => h) (Or.inl ⟨by rfl, ?_⟩) (by assumption) ?_; rotate_left; (focus (intro w hSw; (try dsimp only at hSw); go_simp; try with_reducible rfl))) | (refine wpAnyH_take (i := 16) (v := undef) (by simp only [gA, gB, gC]; rfl) (by kernel_rfl) (by kernel_rfl) (by kernel_rfl) (by exact fun _ _ _ h => h) (Or.inr ⟨by rfl, rfl⟩) (by assumption) ?_) | fail); simp only [Act.put, sA, sB, sC, hov, hdx, hle, Bool.not_true, Bool.not_false]
                        (first | (refine wpAnyH_take (i := 17) (v := ?_) (by simp only [gA, gB, gC]; rfl) (by kernel_rfl) (by kernel_rfl) (by kernel_rfl) (by exact fun _ _ _ h => h) (Or.inl ⟨by rfl, ?_⟩) (by assumption) ?_; rotate_left; (focus (intro w hSw; (try dsimp only at hSw); go_simp; try with_reducible rfl))) | (refine wpAnyH_take (i := 17) (v := undef) (by simp only [gA, gB, gC]; rfl) (by kernel_rfl) (by kernel_rfl) (by kernel_rfl) (by exact fun _ _ _ h => h) (Or.inr ⟨by rfl, rfl⟩) (by assumption) ?_) | fail); simp only [Act.put, sA, sB, sC, hov, hdx, hle, Bool.not_true, Bool.not_false]
                        (first | (refine wpAnyH_take (i := 18) (v := ?_) (by simp only [gA, gB, gC]; rfl) (by kernel_rfl) (by kernel_rfl) (by kernel_rfl) (by exact fun _ _ _ h => h) (Or.inl ⟨by rfl, ?_⟩) (by assumption) ?_; rotate_left; (focus (intro w hSw; (try dsimp only at hSw); go_simp; try with_reducible rfl))) | (refine wpAnyH_take (i := 18) (v := undef) (by simp only [gA, gB, gC]; rfl) (by kernel_rfl) (by kernel_rfl) (by kernel_rfl) (by exact fun _ _ _ h => h) (Or.inr ⟨by rfl, rfl⟩) (by assumption) ?_) | fail); simp only [Act.put, sA, sB, sC, hov, hdx, hle, Bool.not_true, Bool.not_false]
                        (first | (refine wpAnyH_take (i := 19) (v := ?_) (by simp only [gA, gB, gC]; rfl) (by kernel_rfl) (by kernel_rfl) (by kernel_rfl) (by exact fun _ _ _ h => h) (Or.inl ⟨by rfl, ?_⟩) (by assumption) ?_; rotate_left; (focus (intro w hSw; (try dsimp only at hSw); go_simp; try with_reducible rfl))) | (refine wpAnyH_take (i := 19) (v := undef) (by simp only [gA, gB, gC]; rfl) (by kernel_rfl) (by kernel_rfl) (by kernel_rfl) (by exact fun _ _ _ h => h) (Or.inr ⟨by rfl, rfl⟩) (by assumption) ?_) | fail); simp only [Act.put, sA, sB, sC, hov, hdx, hle, Bool.not_true, Bool.not_false]
                        (first | (refine wpAnyH_take (i := 20) (v := ?_) (by simp only [gA, gB, gC]; rfl) (by kernel_rfl) (by kernel_rfl) (by kernel_rfl) (by exact fun _ _ _ h => h) (Or.inl ⟨by rfl, ?_⟩) (by assumption) ?_; rotate_left; (focus (intro w hSw; (try dsimp only at hSw); go_simp; try with_reducible rfl))) | (refine wpAnyH_take (i := 20) (v := undef) (by simp only [gA, gB, gC]; rfl) (by kernel_rfl) (by kernel_rfl) (by kernel_rfl) (by exact fun _ _ _ h => h) (Or.inr ⟨by rfl, rfl⟩) (by assumption) ?_) | fail); simp only [Act.put, sA, sB, sC, hov, hdx, hle, Bool.not_true, Bool.not_false]
                        (first | (refine wpAnyH_take (i := 21) (v := _) (by simp only [gA, gB, gC]; rfl) (by kernel_rfl) (by kernel_rfl) (by kernel_rfl) (by exact fun _ _ _ h => h) (yields_at (by rfl) _ rfl _ rfl (labLit x.n.label) (fun _ q => pn_lab q.1) Tryd.underlying26 rfl hsl) (by assumption) ?_) | (refine wpAnyH_take (i := 21) (v := undef) (by simp only [gA, gB, gC]; rfl) (by kernel_rfl) (by kernel_rfl) (by kernel_rfl) (by exact fun _ _ _ h => h) (Or.inr ⟨by rfl, rfl⟩) (by assumption) ?_) | fail); simp only [Act.put, sA, sB, sC, hov, hdx, hle, Bool.not_true, Bool.not_false]
                        (first | (refine wpAnyH_take (i := 22) (v := ?_) (by simp only [gA, gB, gC]; rfl) (by kernel_rfl) (by kernel_rfl) (by kernel_rfl) (by exact fun _ _ _ h => h) (Or.inl ⟨by rfl, ?_⟩) (by assumption) ?_; rotate_left; (focus (intro w hSw; (try dsimp only at hSw); go_simp; try with_reducible rfl))) | (refine wpAnyH_take (i := 22) (v := undef) (by simp only [gA, gB, gC]; rfl) (by kernel_rfl) (by kernel_rfl) (by kernel_rfl) (by exact fun _ _ _ h => h) (Or.inr ⟨by rfl, rfl⟩) (by assumption) ?_) | fail); simp only [Act.put, sA, sB, sC, hov, hdx, hle, Bool.not_true, Bool.not_false]
                        (first | (refine wpAnyH_take (i := 23) (v := _) (by simp only [gA, gB, gC]; rfl) (by kernel_rfl) (by kernel_rfl) (by kernel_rfl) (by exact fun _ _ _ h => h) (yields_at (by rfl) _ rfl _ rfl (labLit p.n.label) (fun _ q => pn_lab q.2.at) Tryd.underlying26 rfl hsl) (by assumption) ?_) | (refine wpAnyH_take (i := 23) (v := undef) (by simp only [gA, gB, gC]; rfl) (by kernel_rfl) (by kernel_rfl) (by kernel_rfl) (by exact fun _ _ _ h => h) (Or.inr ⟨by rfl, rfl⟩) (by assumption) ?_) | fail); simp only [Act.put, sA, sB, sC, hov, hdx, hle, Bool.not_true, Bool.not_false]
                        (first | (refine wpAnyH_take (i := 24) (v := ?_) (by simp only [gA, gB, gC]; rfl) (by kernel_rfl) (by kernel_rfl) (by kernel_rfl) (by exact fun _ _ _ h => h) (Or.inl ⟨by rfl, ?_⟩) (by assumption) ?_; rotate_left; (focus (intro w hSw; (try dsimp only at hSw); go_simp; try with_reducible rfl))) | (refine wpAnyH_take (i := 24) (v := undef) (by simp only [gA, gB, gC]; rfl) (by kernel_rfl) (by kernel_rfl) (by kernel_rfl) (by exact fun _ _ _ h => h) (Or.inr ⟨by rfl, rfl⟩) (by assumption) ?_) | fail); simp only [Act.put, sA, sB, sC, hov, hdx, hle, Bool.not_true, Bool.not_false]
                        (first | (refine wpAnyH_take (i := 25) (v := ?_) (by simp only [gA, gB, gC]; rfl) (by kernel_rfl) (by kernel_rfl) (by kernel_rfl) (by exact fun _ _ _ h => h) (Or.inl ⟨by rfl, ?_⟩) (by assumption) ?_; rotate_left; (focus (intro w hSw; (try dsimp only at hSw); go_simp; try with_reducible rfl))) | (refine wpAnyH_take (i := 25) (v := undef) (by simp only [gA, gB, gC]; rfl) (by kernel_rfl) (by kernel_rfl) (by kernel_rfl) (by exact fun _ _ _ h => h) (Or.inr ⟨by rfl, rfl⟩) (by assumption) ?_) | fail); simp only [Act.put, sA, sB, sC, hov, hdx, hle, Bool.not_true, Bool.not_false]
                        (first | (refine wpAnyH_take (i := 26) (v := ?_) (by simp only [gA, gB, gC]; rfl) (by kernel_rfl) (by kernel_rfl) (by kernel_rfl) (by exact fun _ _ _ h => h) (Or.inl ⟨by rfl, ?_⟩) (by assumption) ?_; rotate_left; (focus (intro w hSw; (try dsimp only at hSw); go_simp; try with_reducible rfl))) | (refine wpAnyH_take (i := 26) (v := undef) (by simp only [gA, gB, gC]; rfl) (by kernel_rfl) (by kernel_rfl) (by kernel_rfl) (by exact fun _ _ _ h => h) (Or.inr ⟨by rfl, rfl⟩) (by assumption) ?_) | fail); simp only [Act.put, sA, sB, sC, hov, hdx, hle, Bool.not_true, Bool.not_false]
                        (first | (refine wpAnyH_take (i := 27) (v := ?_) (by simp only [gA, gB, gC]; rfl) (by kernel_rfl) (by kernel_rfl) (by kernel_rfl) (by exact fun _ _ _ h => h) (Or.inl ⟨by rfl, ?_⟩) (by assumption) ?_; rotate_left; (focus (intro w hSw; (try dsimp only at hSw); go_simp; try with_reducible rfl))) | (refine wpAnyH_take (i := 27) (v := undef) (by simp only [gA, gB, gC]; rfl) (by kernel_rfl) (by kernel_rfl) (by kernel_rfl) (by exact fun _ _ _ h => h) (Or.inr ⟨by rfl, rfl⟩) (by assumption) ?_) | fail); simp only [Act.put, sA, sB, sC, hov, hdx, hle, Bool.not_true, Bool.not_false]
                        refine wpAnyH_done (by kernel_rfl) ?_ _
                        go_wp2_with fail
                        go_ret
                        exact ⟨rfl, (hC4.then hb1).bl⟩
                      · rw [hdx, hle] at hup
                        go_wp2_with fail
                        refine wp_region_held_drew (S := (fun W => CellsAt W (y.add (k * 16)) x.cs ∧ BlkL p8 p.cs W)) (by kernel_rfl) (by first | exact hS1 | exact hS0) ?_
                        intro hHeld
                        (first | (refine wpAnyH_take (i := 0) (v := ?_) (by simp only [gA, gB, gC]; rfl) (by kernel_rfl) (by kernel_rfl) (by kernel_rfl) (by exact fun _ _ _ h => h) (Or.inl ⟨by rfl, ?_⟩) (by assumption) ?_; rotate_left; (focus (intro w hSw; (try dsimp only at hSw); go_simp; try with_reducible rfl))) | (refine wpAnyH_take (i := 0) (v := undef) (by simp only [gA, gB, gC]; rfl) (by kernel_rfl) (by kernel_rfl) (by kernel_rfl) (by exact fun _ _ _ h => h) (Or.inr ⟨by rfl, rfl⟩) (by assumption) ?_) | fail); simp only [Act.put, sA, sB, sC, hov, hdx, hle, Bool.not_true, Bool.not_false]
                        (first | (refine wpAnyH_take (i := 1) (v := ?_) (by simp only [gA, gB, gC]; rfl) (by kernel_rfl) (by kernel_rfl) (by kernel_rfl) (by exact fun _ _ _ h => h) (Or.inl ⟨by rfl, ?_⟩) (by assumption) ?_; rotate_left; (focus (intro w hSw; (try dsimp only at hSw); go_simp; try with_reducible rfl))) | (refine wpAnyH_take (i := 1) (v := undef) (by simp only [gA, gB, gC]; rfl) (by kernel_rfl) (by kernel_rfl) (by kernel_rfl) (by exact fun _ _ _ h => h) (Or.inr ⟨by rfl, rfl⟩) (by assumption) ?_) | fail); simp only [Act.put, sA, sB, sC, hov, hdx, hle, Bool.not_true, Bool.not_false]
                        (first | (refine wpAnyH_take (i := 2) (v := ?_) (by simp only [gA, gB, gC]; rfl) (by kernel_rfl) (by kernel_rfl) (by kernel_rfl) (by exact fun _ _ _ h => h) (Or.inl ⟨by rfl, ?_⟩) (by assumption) ?_; rotate_left; (focus (intro w hSw; (try dsimp only at hSw); go_simp; try with_reducible rfl))) | (refine wpAnyH_take (i := 2) (v := undef) (by simp only [gA, gB, gC]; rfl) (by kernel_rfl) (by kernel_rfl) (by kernel_rfl) (by exact fun _ _ _ h => h) (Or.inr ⟨by rfl, rfl⟩) (by assumption) ?_) | fail); simp only [Act.put, sA, sB, sC, hov, hdx, hle, Bool.not_true, Bool.not_false]
                        (first | (refine wpAnyH_take (i := 3) (v := ?_) (by simp only [gA, gB, gC]; rfl) (by kernel_rfl) (by kernel_rfl) (by kernel_rfl) (by exact fun _ _ _ h => h) (Or.inl ⟨by rfl, ?_⟩) (by assumption) ?_; rotate_left; (focus (intro w hSw; (try dsimp only at hSw); go_simp; try with_reducible rfl))) | (refine wpAnyH_take (i := 3) (v := undef) (by simp only [gA, gB, gC]; rfl) (by kernel_rfl) (by kernel_rfl) (by kernel_rfl) (by exact fun _ _ _ h => h) (Or.inr ⟨by rfl, rfl⟩) (by assumption) ?_) | fail); simp only [Act.put, sA, sB, sC, hov, hdx, hle, Bool.not_true, Bool.not_false]
                        (first | (refine wpAnyH_take (i := 4) (v := _) (by simp only [gA, gB, gC]; rfl) (by kernel_rfl) (by kernel_rfl) (by kernel_rfl) (by exact fun _ _ _ h => h) (yields_at (by rfl) _ rfl _ rfl (labLit x.n.label) (fun _ q => pn_lab q.1) Tryd.underlying26 rfl hsl) (by assumption) ?_) | (refine wpAnyH_take (i := 4) (v := undef) (by simp only [gA, gB, gC]; rfl) (by kernel_rfl) (by kernel_rfl) (by kernel_rfl) (by exact fun _ _ _ h => h) (Or.inr ⟨by rfl, rfl⟩) (by assumption) ?_) | fail); simp only [Act.put, sA, sB, sC, hov, hdx, hle, Bool.not_true, Bool.not_false]
                        (first | (refine wpAnyH_take (i := 5) (v := ?_) (by simp only [gA, gB, gC]; rfl) (by kernel_rfl) (by kernel_rfl) (by kernel_rfl) (by exact fun _ _ _ h => h) (Or.inl ⟨by rfl, ?_⟩) (by assumption) ?_; rotate_left; (focus (intro w hSw; (try dsimp only at hSw); go_simp; try with_reducible rfl))) | (refine wpAnyH_take (i := 5) (v := undef) (by simp only [gA, gB, gC]; rfl) (by kernel_rfl) (by kernel_rfl) (by kernel_rfl) (by exact fun _ _ _ h => h) (Or.inr ⟨by rfl, rfl⟩) (by assumption) ?_) | fail); simp only [Act.put, sA, sB, sC, hov, hdx, hle, Bool.not_true, Bool.not_false]
                        (first | (refine wpAnyH_take (i := 6) (v := _) (by simp only [gA, gB, gC]; rfl) (by kernel_rfl) (by kernel_rfl) (by kernel_rfl) (by exact fun _ _ _ h => h) (yields_at (by rfl) _ rfl _ rfl (labLit p.n.label) (fun _ q => pn_lab q.2.at) Tryd.underlying26 rfl hsl) (by assumption) ?_) | (refine wpAnyH_take (i := 6) (v := undef) (by simp only [gA, gB, gC]; rfl) (by kernel_rfl) (by kernel_rfl) (by kernel_rfl) (by exact fun _ _ _ h => h) (Or.inr ⟨by rfl, rfl⟩) (by assumption) ?_) | fail); simp only [Act.put, sA, sB, sC, hov, hdx, hle, Bool.not_true, Bool.not_false]
                        first | (refine wpAnyH_take (i := 7) (v := undef) (by simp only [gA, gB, gC]; rfl) (by kernel_rfl) (by kernel_rfl) (by kernel_rfl) (by exact fun _ _ _ h => h) (Or.inr ⟨by rfl, rfl⟩) (by assumption) ?_; simp only [Act.put, sA, sB, sC, hov, hdx, hle, Bool.not_true, Bool.not_false]) | (refine wpAnyH_ready (rs := [7]) (by kernel_rfl) (by simp) ?_; refine AllReadyH.cons (by simp only [gA, gB, gC]; rfl) (fun K hK => ?_) AllReadyH.nil; go_simp; (first | (go_at_call 29; refine (rlover_any x.n.label p.n.label _).mono ?_; rintro e w1 ⟨rfl, hb1⟩; have hS1 : (fun W => CellsAt W (y.add (k * 16)) x.cs ∧ BlkL p8 p.cs W) w1 := ⟨hS0.1.below hb1, stab_blk _ _ _ _ hS0.2 hb1⟩)); refine hK.out _ _ (by first | exact hS1 | exact hS0) ?_; clear hHeld hK; intro hHeld; (try simp only [Act.put, sA, sB, sC, hov, hdx, hle, Bool.not_true, Bool.not_false])) | fail
                        (first | (refine wpAnyH_take (i := 8) (v := ?_) (by simp only [gA, gB, gC]; rfl) (by kernel_rfl) (by kernel_rfl) (by kernel_rfl) (by exact fun _ _ _ h => h) (Or.inl ⟨by rfl, ?_⟩) (by assumption) ?_; rotate_left; (focus (intro w hSw; (try dsimp only at hSw); go_simp; try with_reducible rfl))) | (refine wpAnyH_take (i := 8) (v := undef) (by simp only [gA, gB, gC]; rfl) (by kernel_rfl) (by kernel_rfl) (by kernel_rfl) (by exact fun _ _ _ h => h) (Or.inr ⟨by rfl, rfl⟩) (by assumption) ?_) | fail); simp only [Act.put, sA, sB, sC, hov, hdx, hle, Bool.not_true, Bool.not_false]
                        (first | (refine wpAnyH_take (i := 9) (v := ?_) (by simp only [gA, gB, gC]; rfl) (by kernel_rfl) (by kernel_rfl) (by kernel_rfl) (by exact fun _ _ _ h => h) (Or.inl ⟨by rfl, ?_⟩) (by assumption) ?_; rotate_left; (focus (intro w hSw; (try dsimp only at hSw); go_simp; try with_reducible rfl))) | (refine wpAnyH_take (i := 9) (v := undef) (by simp only [gA, gB, gC]; rfl) (by kernel_rfl) (by kernel_rfl) (by kernel_rfl) (by exact fun _ _ _ h => h) (Or.inr ⟨by rfl, rfl⟩) (by assumption) ?_) | fail); simp only [Act.put, sA, sB, sC, hov, hdx, hle, Bool.not_true, Bool.not_false]
                        (first | (refine wpAnyH_take (i := 10) (v := ?_) (by simp only [gA, gB, gC]; rfl) (by kernel_rfl) (by kernel_rfl) (by kernel_rfl) (by exact fun _ _ _ h => h) (Or.inl ⟨by rfl, ?_⟩) (by assumption) ?_; rotate_left; (focus (intro w hSw; (try dsimp only at hSw); go_simp; try with_reducible rfl))) | (refine wpAnyH_take (i := 10) (v := undef) (by simp only [gA, gB, gC]; rfl) (by kernel_rfl) (by kernel_rfl) (by kernel_rfl) (by exact fun _ _ _ h => h) (Or.inr ⟨by rfl, rfl⟩) (by assumption) ?_) | fail); simp only [Act.put, sA, sB, sC, hov, hdx, hle, Bool.not_true, Bool.not_false]
                        (first | (refine wpAnyH_take (i := 11) (v := ?_) (by simp only [gA, gB, gC]; rfl) (by kernel_rfl) (by kernel_rfl) (by kernel_rfl) (by exact fun _ _ _ h => h) (Or.inl ⟨by rfl, ?_⟩) (by assumption) ?_; rotate_left; (focus (intro w hSw; (try dsimp only at hSw); go_simp; try with_reducible rfl))) | (refine wpAnyH_take (i := 11) (v := undef) (by simp only [gA, gB, gC]; rfl) (by kernel_rfl) (by kernel_rfl) (by kernel_rfl) (by exact fun _ _ _ h => h) (Or.inr ⟨by rfl, rfl⟩) (by assumption) ?_) | fail); simp only [Act.put, sA, sB, sC, hov, hdx, hle, Bool.not_true, Bool.not_false]
                        (first | (refine wpAnyH_take (i := 12) (v := ?_) (by simp only [gA, gB, gC]; rfl) (by kernel_rfl) (by kernel_rfl) (by kernel_rfl) (by exact fun _ _ _ h => h) (Or.inl ⟨by rfl, ?_⟩) (by assumption) ?_; rotate_left; (focus (intro w hSw; (try dsimp only at hSw); go_simp; try with_reducible rfl))) | (refine wpAnyH_take (i := 12) (v := undef) (by simp only [gA, gB, gC]; rfl) (by kernel_rfl) (by kernel_rfl) (by kernel_rfl) (by exact fun _ _ _ h => h) (Or.inr ⟨by rfl, rfl⟩) (by assumption) ?_) | fail); simp only [Act.put, sA, sB, sC, hov, hdx, hle, Bool.not_true, Bool.not_false]
                        (first | (refine wpAnyH_take (i := 13) (v := ?_) (by simp only [gA, gB, gC]; rfl) (by kernel_rfl) (by kernel_rfl) (by kernel_rfl) (by exact fun _ _ _ h => h) (Or.inl ⟨by rfl, ?_⟩) (by assumption) ?_; rotate_left; (focus (intro w hSw; (try dsimp only at hSw); go_simp; try with_reducible rfl))) | (refine wpAnyH_take (i := 13) (v := undef) (by simp only [gA, gB, gC]; rfl) (by kernel_rfl) (by kernel_rfl) (by kernel_rfl) (by exact fun _ _ _ h => h) (Or.inr ⟨by rfl, rfl⟩) (by assumption) ?_) | fail); simp only [Act.put, sA, sB, sC, hov, hdx, hle, Bool.not_true, Bool.not_false]
                        (first | (refine wpAnyH_take (i := 14) (v := _) (by simp only [gA, gB, gC]; rfl) (by kernel_rfl) (by kernel_rfl) (by kernel_rfl) (by exact fun _ _ _ h => h) (yields_one (by rfl) _ rfl _ rfl (.bool x.n.dir) (fun _ q => pn_dir q.1) bool_load) (by assumption) ?_) | (refine wpAnyH_take (i := 14) (v := undef) (by simp only [gA, gB, gC]; rfl) (by kernel_rfl) (by kernel_rfl) (by kernel_rfl) (by exact fun _ _ _ h => h) (Or.inr ⟨by rfl, rfl⟩) (by assumption) ?_) | fail); simp only [Act.put, sA, sB, sC, hov, hdx, hle, Bool.not_true, Bool.not_false]
                        (first | (refine wpAnyH_take (i := 15) (v := ?_) (by simp only [gA, gB, gC]; rfl) (by kernel_rfl) (by kernel_rfl) (by kernel_rfl) (by exact fun _ _ _ h => h) (Or.inl ⟨by rfl, ?_⟩) (by assumption) ?_; rotate_left; (focus (intro w hSw; (try dsimp only at hSw); go_simp; try with_reducible rfl))) | (refine wpAnyH_take (i := 15) (v := undef) (by simp only [gA, gB, gC]; rfl) (by kernel_rfl) (by kernel_rfl) (by kernel_rfl) (by exact fun _ _ _ h => h) (Or.inr ⟨by rfl, rfl⟩) (by assumption) ?_) | fail); simp only [Act.put, sA, sB, sC, hov, hdx, hle, Bool.not_true, Bool.not_false]
                        (first | (refine wpAnyH_take (i := 16) (v := ?_) (by simp only [gA, gB, gC]; rfl) (by kernel_rfl) (by kernel_rfl) (by kernel_rfl) (by exact fun _ _ _ h => h) (Or.inl ⟨by rfl, ?_⟩) (by assumption) ?_; rotate_left; (focus (intro w hSw; (try dsimp only at hSw); go_simp; try with_reducible rfl))) | (refine wpAnyH_take (i := 16) (v := undef) (by simp only [gA, gB, gC]; rfl) (by kernel_rfl) (by kernel_rfl) (by kernel_rfl) (by exact fun _ _ _ h => h) (Or.inr ⟨by rfl, rfl⟩) (by assumption) ?_) | fail); simp only [Act.put, sA, sB, sC, hov, hdx, hle, Bool.not_true, Bool.not_false]
                        (first | (refine wpAnyH_take (i := 17) (v := ?_) (by simp only [gA, gB, gC]; rfl) (by kernel_rfl) (by kernel_rfl) (by kernel_rfl) (by exact fun _ _ _ h => h) (Or.inl ⟨by rfl, ?_⟩) (by assumption) ?_; rotate_left; (focus (intro w hSw; (try dsimp only at hSw); go_simp; try with_reducible rfl))) | (refine wpAnyH_take (i := 17) (v := undef) (by simp only [gA, gB, gC]; rfl) (by kernel_rfl) (by kernel_rfl) (by kernel_rfl) (by exact fun _ _ _ h => h) (Or.inr ⟨by rfl, rfl⟩) (by assumption) ?_) | fail); simp only [Act.put, sA, sB, sC, hov, hdx, hle, Bool.not_true, Bool.not_false]
                        (first | (refine wpAnyH_take (i := 18) (v := ?_) (by simp only [gA, gB, gC]; rfl) (by kernel_rfl) (by kernel_rfl) (by kernel_rfl) (by exact fun _ _ _ h => h) (Or.inl ⟨by rfl, ?_⟩) (by assumption) ?_; rotate_left; (focus (intro w hSw; (try dsimp only at hSw); go_simp; try with_reducible rfl))) | (refine wpAnyH_take (i := 18) (v := undef) (by simp only [gA, gB, gC]; rfl) (by kernel_rfl) (by kernel_rfl) (by kernel_rfl) (by exact fun _ _ _ h => h) (Or.inr ⟨by rfl, rfl⟩) (by assumption) ?_) | fail); simp only [Act.put, sA, sB, sC, hov, hdx, hle, Bool.not_true, Bool.not_false]
                        (first | (refine wpAnyH_take (i := 19) (v := ?_) (by simp only [gA, gB, gC]; rfl) (by kernel_rfl) (by kernel_rfl) (by kernel_rfl) (by exact fun _ _ _ h => h) (Or.inl ⟨by rfl, ?_⟩) (by assumption) ?_; rotate_left; (focus (intro w hSw; (try dsimp only at hSw); go_simp; try with_reducible rfl))) | (refine wpAnyH_take (i := 19) (v := undef) (by simp only [gA, gB, gC]; rfl) (by kernel_rfl) (by kernel_rfl) (by kernel_rfl) (by exact fun _ _ _ h => h) (Or.inr ⟨by rfl, rfl⟩) (by assumption) ?_) | fail); simp only [Act.put, sA, sB, sC, hov, hdx, hle, Bool.not_true, Bool.not_false]
                        (first | (refine wpAnyH_take (i := 20) (v := ?_) (by simp only [gA, gB, gC]; rfl) (by kernel_rfl) (by kernel_rfl) (by kernel_rfl) (by exact fun _ _ _ h => h) (Or.inl ⟨by rfl, ?_⟩) (by assumption) ?_; rotate_left; (focus (intro w hSw; (try dsimp only at hSw); go_simp; try with_reducible rfl))) | (refine wpAnyH_take (i := 20) (v := undef) (by simp only [gA, gB, gC]; rfl) (by kernel_rfl) (by kernel_rfl) (by kernel_rfl) (by exact fun _ _ _ h => h) (Or.inr ⟨by rfl, rfl⟩) (by assumption) ?_) | fail); simp only [Act.put, sA, sB, sC, hov, hdx, hle, Bool.not_true, Bool.not_false]
                        (first | (refine wpAnyH_take (i := 21) (v := _) (by simp only [gA, gB, gC]; rfl) (by kernel_rfl) (by kernel_rfl) (by kernel_rfl) (by exact fun _ _ _ h => h) (yields_at (by rfl) _ rfl _ rfl (labLit x.n.label) (fun _ q => pn_lab q.1) Tryd.underlying26 rfl hsl) (by assumption) ?_) | (refine wpAnyH_take (i := 21) (v := undef) (by simp only [gA, gB, gC]; rfl) (by kernel_rfl) (by kernel_rfl) (by kernel_rfl) (by exact fun _ _ _ h => h) (Or.inr ⟨by rfl, rfl⟩) (by assumption) ?_) | fail); simp only [Act.put, sA, sB, sC, hov, hdx, hle, Bool.not_true, Bool.not_false]
                        (first | (refine wpAnyH_take (i := 22) (v := ?_) (by simp only [gA, gB, gC]; rfl) (by kernel_rfl) (by kernel_rfl) (by kernel_rfl) (by exact fun _ _ _ h => h) (Or.inl ⟨by rfl, ?_⟩) (by assumption) ?_; rotate_left; (focus (intro w hSw; (try dsimp only at hSw); go_simp; try with_reducible rfl))) | (refine wpAnyH_take (i := 22) (v := undef) (by simp only [gA, gB, gC]; rfl) (by kernel_rfl) (by kernel_rfl) (by kernel_rfl) (by exact fun _ _ _ h => h) (Or.inr ⟨by rfl, rfl⟩) (by assumption) ?_) | fail); simp only [Act.put, sA, sB, sC, hov, hdx, hle, Bool.not_true, Bool.not_false]
                        (first | (refine wpAnyH_take (i := 23) (v := _) (by simp only [gA, gB, gC]; rfl) (by kernel_rfl) (by kernel_rfl) (by kernel_rfl) (by exact fun _ _ _ h => h) (yields_at (by rfl) _ rfl _ rfl (labLit p.n.label) (fun _ q => pn_lab q.2.at) Tryd.underlying26 rfl hsl) (by assumption) ?_) | (refine wpAnyH_take (i := 23) (v := undef) (by simp only [gA, gB, gC]; rfl) (by kernel_rfl) (by kernel_rfl) (by kernel_rfl) (by exact fun _ _ _ h => h) (Or.inr ⟨by rfl, rfl⟩) (by assumption) ?_) | fail); simp only [Act.put, sA, sB, sC, hov, hdx, hle, Bool.not_true, Bool.not_false]
                        (first | (refine wpAnyH_take (i := 24) (v := ?_) (by simp only [gA, gB, gC]; rfl) (by kernel_rfl) (by kernel_rfl) (by kernel_rfl) (by exact fun _ _ _ h => h) (Or.inl ⟨by rfl, ?_⟩) (by assumption) ?_; rotate_left; (focus (intro w hSw; (try dsimp only at hSw); go_simp; try with_reducible rfl))) | (refine wpAnyH_take (i := 24) (v := undef) (by simp only [gA, gB, gC]; rfl) (by kernel_rfl) (by kernel_rfl) (by kernel_rfl) (by exact fun _ _ _ h => h) (Or.inr ⟨by rfl, rfl⟩) (by assumption) ?_) | fail); simp only [Act.put, sA, sB, sC, hov, hdx, hle, Bool.not_true, Bool.not_false]
                        (first | (refine wpAnyH_take (i := 25) (v := ?_) (by simp only [gA, gB, gC]; rfl) (by kernel_rfl) (by kernel_rfl) (by kernel_rfl) (by exact fun _ _ _ h => h) (Or.inl ⟨by rfl, ?_⟩) (by assumption) ?_; rotate_left; (focus (intro w hSw; (try dsimp only at hSw); go_simp; try with_reducible rfl))) | (refine wpAnyH_take (i := 25) (v := undef) (by simp only [gA, gB, gC]; rfl) (by kernel_rfl) (by kernel_rfl) (by kernel_rfl) (by exact fun _ _ _ h => h) (Or.inr ⟨by rfl, rfl⟩) (by assumption) ?_) | fail); simp only [Act.put, sA, sB, sC, hov, hdx, hle, Bool.not_true, Bool.not_false]
                        (first | (refine wpAnyH_take (i := 26) (v := ?_) (by simp only [gA, gB, gC]; rfl) (by kernel_rfl) (by kernel_rfl) (by kernel_rfl) (by exact fun _ _ _ h => h) (Or.inl ⟨by rfl, ?_⟩) (by assumption) ?_; rotate_left; (focus (intro w hSw; (try dsimp only at hSw); go_simp; try with_reducible rfl))) | (refine wpAnyH_take (i := 26) (v := undef) (by simp only [gA, gB, gC]; rfl) (by kernel_rfl) (by kernel_rfl) (by kernel_rfl) (by exact fun _ _ _ h => h) (Or.inr ⟨by rfl, rfl⟩) (by assumption) ?_) | fail); simp only [Act.put, sA, sB, sC, hov, hdx, hle, Bool.not_true, Bool.not_false]
                        (first | (refine wpAnyH_take (i := 27) (v := ?_) (by simp only [gA, gB, gC]; rfl) (by kernel_rfl) (by kernel_rfl) (by kernel_rfl) (by exact fun _ _ _ h => h) (Or.inl ⟨by rfl, ?_⟩) (by assumption) ?_; rotate_left; (focus (intro w hSw; (try dsimp only at hSw); go_simp; try with_reducible rfl))) | (refine wpAnyH_take (i := 27) (v := undef) (by simp only [gA, gB, gC]; rfl) (by kernel_rfl) (by kernel_rfl) (by kernel_rfl) (by exact fun _ _ _ h => h) (Or.inr ⟨by rfl, rfl⟩) (by assumption) ?_) | fail); simp only [Act.put, sA, sB, sC, hov, hdx, hle, Bool.not_true, Bool.not_false]
                        refine wpAnyH_done (by kernel_rfl) ?_ _
                        go_wp2_with fail
                        exact ⟨⟨k + 1, by omega, by simp, hup, hC4.then hb1, stab_blk _ _ _ _ hkB4 hb1⟩, by simp [Go.RowKit.intOf]; omega⟩
                    · rw [hdx] at hup
                      go_wp2_with fail
                      refine wp_region_held_drew (S := (fun W => CellsAt W (y.add (k * 16)) x.cs ∧ BlkL p8 p.cs W)) (by kernel_rfl) (by first | exact hS1 | exact hS0) ?_
                      intro hHeld
                      (first | (refine wpAnyH_take (i := 0) (v := ?_) (by simp only [gA, gB, gC]; rfl) (by kernel_rfl) (by kernel_rfl) (by kernel_rfl) (by exact fun _ _ _ h => h) (Or.inl ⟨by rfl, ?_⟩) (by assumption) ?_; rotate_left; (focus (intro w hSw; (try dsimp only at hSw); go_simp; try with_reducible rfl))) | (refine wpAnyH_take (i := 0) (v := undef) (by simp only [gA, gB, gC]; rfl) (by kernel_rfl) (by kernel_rfl) (by kernel_rfl) (by exact fun _ _ _ h => h) (Or.inr ⟨by rfl, rfl⟩) (by assumption) ?_) | fail); simp only [Act.put, sA, sB, sC, hov, hdx, Bool.not_true, Bool.not_false]
                      (first | (refine wpAnyH_take (i := 1) (v := ?_) (by simp only [gA, gB, gC]; rfl) (by kernel_rfl) (by kernel_rfl) (by kernel_rfl) (by exact fun _ _ _ h => h) (Or.inl ⟨by rfl, ?_⟩) (by assumption) ?_; rotate_left; (focus (intro w hSw; (try dsimp only at hSw); go_simp; try with_reducible rfl))) | (refine wpAnyH_take (i := 1) (v := undef) (by simp only [gA, gB, gC]; rfl) (by kernel_rfl) (by kernel_rfl) (by kernel_rfl) (by exact fun _ _ _ h => h) (Or.inr ⟨by rfl, rfl⟩) (by assumption) ?_) | fail); simp only [Act.put, sA, sB, sC, hov, hdx, Bool.not_true, Bool.not_false]
                      (first | (refine wpAnyH_take (i := 2) (v := ?_) (by simp only [gA, gB, gC]; rfl) (by kernel_rfl) (by kernel_rfl) (by kernel_rfl) (by exact fun _ _ _ h => h) (Or.inl ⟨by rfl, ?_⟩) (by assumption) ?_; rotate_left; (focus (intro w hSw; (try dsimp only at hSw); go_simp; try with_reducible rfl))) | (refine wpAnyH_take (i := 2) (v := undef) (by simp only [gA, gB, gC]; rfl) (by kernel_rfl) (by kernel_rfl) (by kernel_rfl) (by exact fun _ _ _ h => h) (Or.inr ⟨by rfl, rfl⟩) (by assumption) ?_) | fail); simp only [Act.put, sA, sB, sC, hov, hdx, Bool.not_true, Bool.not_false]
                      (first | (refine wpAnyH_take (i := 3) (v := ?_) (by simp only [gA, gB, gC]; rfl) (by kernel_rfl) (by kernel_rfl) (by kernel_rfl) (by exact fun _ _ _ h => h) (Or.inl ⟨by rfl, ?_⟩) (by assumption) ?_; rotate_left; (focus (intro w hSw; (try dsimp only at hSw); go_simp; try with_reducible rfl))) | (refine wpAnyH_take (i := 3) (v := undef) (by simp only [gA, gB, gC]; rfl) (by kernel_rfl) (by kernel_rfl) (by kernel_rfl) (by exact fun _ _ _ h => h) (Or.inr ⟨by rfl, rfl⟩) (by assumption) ?_) | fail); simp only [Act.put, sA, sB, sC, hov, hdx, Bool.not_true, Bool.not_false]
                      (first | (refine wpAnyH_take (i := 4) (v := _) (by simp only [gA, gB, gC]; rfl) (by kernel_rfl) (by kernel_rfl) (by kernel_rfl) (by exact fun _ _ _ h => h) (yields_at (by rfl) _ rfl _ rfl (labLit x.n.label) (fun _ q => pn_lab q.1) Tryd.underlying26 rfl hsl) (by assumption) ?_) | (refine wpAnyH_take (i := 4) (v := undef) (by simp only [gA, gB, gC]; rfl) (by kernel_rfl) (by kernel_rfl) (by kernel_rfl) (by exact fun _ _ _ h => h) (Or.inr ⟨by rfl, rfl⟩) (by assumption) ?_) | fail); simp only [Act.put, sA, sB, sC, hov, hdx, Bool.not_true, Bool.not_false]
                      (first | (refine wpAnyH_take (i := 5) (v := ?_) (by simp only [gA, gB, gC]; rfl) (by kernel_rfl) (by kernel_rfl) (by kernel_rfl) (by exact fun _ _ _ h => h) (Or.inl ⟨by rfl, ?_⟩) (by assumption) ?_; rotate_left; (focus (intro w hSw; (try dsimp only at hSw); go_simp; try with_reducible rfl))) | (refine wpAnyH_take (i := 5) (v := undef) (by simp only [gA, gB, gC]; rfl) (by kernel_rfl) (by kernel_rfl) (by kernel_rfl) (by exact fun _ _ _ h => h) (Or.inr ⟨by rfl, rfl⟩) (by assumption) ?_) | fail); simp only [Act.put, sA, sB, sC, hov, hdx, Bool.not_true, Bool.not_false]
                      (first | (refine wpAnyH_take (i := 6) (v := _) (by simp only [gA, gB, gC]; rfl) (by kernel_rfl) (by kernel_rfl) (by kernel_rfl) (by exact fun _ _ _ h => h) (yields_at (by rfl) _ rfl _ rfl (labLit p.n.label) (fun _ q => pn_lab q.2.at) Tryd.underlying26 rfl hsl) (by assumption) ?_) | (refine wpAnyH_take (i := 6) (v := undef) (by simp only [gA, gB, gC]; rfl) (by kernel_rfl) (by kernel_rfl) (by kernel_rfl) (by exact fun _ _ _ h => h) (Or.inr ⟨by rfl, rfl⟩) (by assumption) ?_) | fail); simp only [Act.put, sA, sB, sC, hov, hdx, Bool.not_true, Bool.not_false]
                      first | (refine wpAnyH_take (i := 7) (v := undef) (by simp only [gA, gB, gC]; rfl) (by kernel_rfl) (by kernel_rfl) (by kernel_rfl) (by exact fun _ _ _ h => h) (Or.inr ⟨by rfl, rfl⟩) (by assumption) ?_; simp only [Act.put, sA, sB, sC, hov, hdx, Bool.not_true, Bool.not_false]) | (refine wpAnyH_ready (rs := [7]) (by kernel_rfl) (by simp) ?_; refine AllReadyH.cons (by simp only [gA, gB, gC]; rfl) (fun K hK => ?_) AllReadyH.nil; go_simp; (first | (go_at_call 29; refine (rlover_any x.n.label p.n.label _).mono ?_; rintro e w1 ⟨rfl, hb1⟩; have hS1 : (fun W => CellsAt W (y.add (k * 16)) x.cs ∧ BlkL p8 p.cs W) w1 := ⟨hS0.1.below hb1, stab_blk _ _ _ _ hS0.2 hb1⟩)); refine hK.out _ _ (by first | exact hS1 | exact hS0) ?_; clear hHeld hK; intro hHeld; (try simp only [Act.put, sA, sB, sC, hov, hdx, Bool.not_true, Bool.not_false])) | fail
                      (first | (refine wpAnyH_take (i := 8) (v := ?_) (by simp only [gA, gB, gC]; rfl) (by kernel_rfl) (by kernel_rfl) (by kernel_rfl) (by exact fun _ _ _ h => h) (Or.inl ⟨by rfl, ?_⟩) (by assumption) ?_; rotate_left; (focus (intro w hSw; (try dsimp only at hSw); go_simp; try with_reducible rfl))) | (refine wpAnyH_take (i := 8) (v := undef) (by simp only [gA, gB, gC]; rfl) (by kernel_rfl) (by kernel_rfl) (by kernel_rfl) (by exact fun _ _ _ h => h) (Or.inr ⟨by rfl, rfl⟩) (by assumption) ?_) | fail); simp only [Act.put, sA, sB, sC, hov, hdx, Bool.not_true, Bool.not_false]
                      (first | (refine wpAnyH_take (i := 9) (v := ?_) (by simp only [gA, gB, gC]; rfl) (by kernel_rfl) (by kernel_rfl) (by kernel_rfl) (by exact fun _ _ _ h => h) (Or.inl ⟨by rfl, ?_⟩) (by assumption) ?_; rotate_left; (focus (intro w hSw; (try dsimp only at hSw); go_simp; try with_reducible rfl))) | (refine wpAnyH_take (i := 9) (v := undef) (by simp only [gA, gB, gC]; rfl) (by kernel_rfl) (by kernel_rfl) (by kernel_rfl) (by exact fun _ _ _ h => h) (Or.inr ⟨by rfl, rfl⟩) (by assumption) ?_) | fail); simp only [Act.put, sA, sB, sC, hov, hdx, Bool.not_true, Bool.not_false]
                      (first | (refine wpAnyH_take (i := 10) (v := ?_) (by simp only [gA, gB, gC]; rfl) (by kernel_rfl) (by kernel_rfl) (by kernel_rfl) (by exact fun _ _ _ h => h) (Or.inl ⟨by rfl, ?_⟩) (by assumption) ?_; rotate_left; (focus (intro w hSw; (try dsimp only at hSw); go_simp; try with_reducible rfl))) | (refine wpAnyH_take (i := 10) (v := undef) (by simp only [gA, gB, gC]; rfl) (by kernel_rfl) (by kernel_rfl) (by kernel_rfl) (by exact fun _ _ _ h => h) (Or.inr ⟨by rfl, rfl⟩) (by assumption) ?_) | fail); simp only [Act.put, sA, sB, sC, hov, hdx, Bool.not_true, Bool.not_false]
                      (first | (refine wpAnyH_take (i := 11) (v := ?_) (by simp only [gA, gB, gC]; rfl) (by kernel_rfl) (by kernel_rfl) (by kernel_rfl) (by exact fun _ _ _ h => h) (Or.inl ⟨by rfl, ?_⟩) (by assumption) ?_; rotate_left; (focus (intro w hSw; (try dsimp only at hSw); go_simp; try with_reducible rfl))) | (refine wpAnyH_take (i := 11) (v := undef) (by simp only [gA, gB, gC]; rfl) (by kernel_rfl) (by kernel_rfl) (by kernel_rfl) (by exact fun _ _ _ h => h) (Or.inr ⟨by rfl, rfl⟩) (by assumption) ?_) | fail); simp only [Act.put, sA, sB, sC, hov, hdx, Bool.not_true, Bool.not_false]
                      (first | (refine wpAnyH_take (i := 12) (v := ?_) (by simp only [gA, gB, gC]; rfl) (by kernel_rfl) (by kernel_rfl) (by kernel_rfl) (by exact fun _ _ _ h => h) (Or.inl ⟨by rfl, ?_⟩) (by assumption) ?_; rotate_left; (focus (intro w hSw; (try dsimp only at hSw); go_simp; try with_reducible rfl))) | (refine wpAnyH_take (i := 12) (v := undef) (by simp only [gA, gB, gC]; rfl) (by kernel_rfl) (by kernel_rfl) (by kernel_rfl) (by exact fun _ _ _ h => h) (Or.inr ⟨by rfl, rfl⟩) (by assumption) ?_) | fail); simp only [Act.put, sA, sB, sC, hov, hdx, Bool.not_true, Bool.not_false]
                      (first | (refine wpAnyH_take (i := 13) (v := ?_) (by simp only [gA, gB, gC]; rfl) (by kernel_rfl) (by kernel_rfl) (by kernel_rfl) (by exact fun _ _ _ h => h) (Or.inl ⟨by rfl, ?_⟩) (by assumption) ?_; rotate_left; (focus (intro w hSw; (try dsimp only at hSw); go_simp; try with_reducible rfl))) | (refine wpAnyH_take (i := 13) (v := undef) (by simp only [gA, gB, gC]; rfl) (by kernel_rfl) (by kernel_rfl) (by kernel_rfl) (by exact fun _ _ _ h => h) (Or.inr ⟨by rfl, rfl⟩) (by assumption) ?_) | fail); simp only [Act.put, sA, sB, sC, hov, hdx, Bool.not_true, Bool.not_false]
                      (first | (refine wpAnyH_take (i := 14) (v := _) (by simp only [gA, gB, gC]; rfl) (by kernel_rfl) (by kernel_rfl) (by kernel_rfl) (by exact fun _ _ _ h => h) (yields_one (by rfl) _ rfl _ rfl (.bool x.n.dir) (fun _ q => pn_dir q.1) bool_load) (by assumption) ?_) | (refine wpAnyH_take (i := 14) (v := undef) (by simp only [gA, gB, gC]; rfl) (by kernel_rfl) (by kernel_rfl) (by kernel_rfl) (by exact fun _ _ _ h => h) (Or.inr ⟨by rfl, rfl⟩) (by assumption) ?_) | fail); simp only [Act.put, sA, sB, sC, hov, hdx, Bool.not_true, Bool.not_false]
                      (first | (refine wpAnyH_take (i := 15) (v := ?_) (by simp only [gA, gB, gC]; rfl) (by kernel_rfl) (by kernel_rfl) (by kernel_rfl) (by exact fun _ _ _ h => h) (Or.inl ⟨by rfl, ?_⟩) (by assumption) ?_; rotate_left; (focus (intro w hSw; (try dsimp only at hSw); go_simp; try with_reducible rfl))) | (refine wpAnyH_take (i := 15) (v := undef) (by simp only [gA, gB, gC]; rfl) (by kernel_rfl) (by kernel_rfl) (by kernel_rfl) (by exact fun _ _ _ h => h) (Or.inr ⟨by rfl, rfl⟩) (by assumption) ?_) | fail); simp only [Act.put, sA, sB, sC, hov, hdx, Bool.not_true, Bool.not_false]
                      (first | (refine wpAnyH_take (i := 16) (v := ?_) (by simp only [gA, gB, gC]; rfl) (by kernel_rfl) (by kernel_rfl) (by kernel_rfl) (by exact fun _ _ _ h => h) (Or.inl ⟨by rfl, ?_⟩) (by assumption) ?_; rotate_left; (focus (intro w hSw; (try dsimp only at hSw); go_simp; try with_reducible rfl))) | (refine wpAnyH_take (i := 16) (v := undef) (by simp only [gA, gB, gC]; rfl) (by kernel_rfl) (by kernel_rfl) (by kernel_rfl) (by exact fun _ _ _ h => h) (Or.inr ⟨by rfl, rfl⟩) (by assumption) ?_) | fail); simp only [Act.put, sA, sB, sC, hov, hdx, Bool.not_true, Bool.not_false]
                      (first | (refine wpAnyH_take (i := 17) (v := ?_) (by simp only [gA, gB, gC]; rfl) (by kernel_rfl) (by kernel_rfl) (by kernel_rfl) (by exact fun _ _ _ h => h) (Or.inl ⟨by rfl, ?_⟩) (by assumption) ?_; rotate_left; (focus (intro w hSw; (try dsimp only at hSw); go_simp; try with_reducible rfl))) | (refine wpAnyH_take (i := 17) (v := undef) (by simp only [gA, gB, gC]; rfl) (by kernel_rfl) (by kernel_rfl) (by kernel_rfl) (by exact fun _ _ _ h => h) (Or.inr ⟨by rfl, rfl⟩) (by assumption) ?_) | fail); simp only [Act.put, sA, sB, sC, hov, hdx, Bool.not_true, Bool.not_false]
                      (first | (refine wpAnyH_take (i := 18) (v := ?_) (by simp only [gA, gB, gC]; rfl) (by kernel_rfl) (by kernel_rfl) (by kernel_rfl) (by exact fun _ _ _ h => h) (Or.inl ⟨by rfl, ?_⟩) (by assumption) ?_; rotate_left; (focus (intro w hSw; (try dsimp only at hSw); go_simp; try with_reducible rfl))) | (refine wpAnyH_take (i := 18) (v := undef) (by simp only [gA, gB, gC]; rfl) (by kernel_rfl) (by kernel_rfl) (by kernel_rfl) (by exact fun _ _ _ h => h) (Or.inr ⟨by rfl, rfl⟩) (by assumption) ?_) | fail); simp only [Act.put, sA, sB, sC, hov, hdx, Bool.not_true, Bool.not_false]
                      (first | (refine wpAnyH_take (i := 19) (v := ?_) (by simp only [gA, gB, gC]; rfl) (by kernel_rfl) (by kernel_rfl) (by kernel_rfl) (by exact fun _ _ _ h => h) (Or.inl ⟨by rfl, ?_⟩) (by assumption) ?_; rotate_left; (focus (intro w hSw; (try dsimp only at hSw); go_simp; try with_reducible rfl))) | (refine wpAnyH_take (i := 19) (v := undef) (by simp only [gA, gB, gC]; rfl) (by kernel_rfl) (by kernel_rfl) (by kernel_rfl) (by exact fun _ _ _ h => h) (Or.inr ⟨by rfl, rfl⟩) (by assumption) ?_) | fail); simp only [Act.put, sA, sB, sC, hov, hdx, Bool.not_true, Bool.not_false]
                      (first | (refine wpAnyH_take (i := 20) (v := ?_) (by simp only [gA, gB, gC]; rfl) (by kernel_rfl) (by kernel_rfl) (by kernel_rfl) (by exact fun _ _ _ h => h) (Or.inl ⟨by rfl, ?_⟩) (by assumption) ?_; rotate_left; (focus (intro w hSw; (try dsimp only at hSw); go_simp; try with_reducible rfl))) | (refine wpAnyH_take (i := 20) (v := undef) (by simp only [gA, gB, gC]; rfl) (by kernel_rfl) (by kernel_rfl) (by kernel_rfl) (by exact fun _ _ _ h => h) (Or.inr ⟨by rfl, rfl⟩) (by assumption) ?_) | fail); simp only [Act.put, sA, sB, sC, hov, hdx, Bool.not_true, Bool.not_false]
                      (first | (refine wpAnyH_take (i := 21) (v := _) (by simp only [gA, gB, gC]; rfl) (by kernel_rfl) (by kernel_rfl) (by kernel_rfl) (by exact fun _ _ _ h => h) (yields_at (by rfl) _ rfl _ rfl (labLit x.n.label) (fun _ q => pn_lab q.1) Tryd.underlying26 rfl hsl) (by assumption) ?_) | (refine wpAnyH_take (i := 21) (v := undef) (by simp only [gA, gB, gC]; rfl) (by kernel_rfl) (by kernel_rfl) (by kernel_rfl) (by exact fun _ _ _ h => h) (Or.inr ⟨by rfl, rfl⟩) (by assumption) ?_) | fail); simp only [Act.put, sA, sB, sC, hov, hdx, Bool.not_true, Bool.not_false]
                      (first | (refine wpAnyH_take (i := 22) (v := ?_) (by simp only [gA, gB, gC]; rfl) (by kernel_rfl) (by kernel_rfl) (by kernel_rfl) (by exact fun _ _ _ h => h) (Or.inl ⟨by rfl, ?_⟩) (by assumption) ?_; rotate_left; (focus (intro w hSw; (try dsimp only at hSw); go_simp; try with_reducible rfl))) | (refine wpAnyH_take (i := 22) (v := undef) (by simp only [gA, gB, gC]; rfl) (by kernel_rfl) (by kernel_rfl) (by kernel_rfl) (by exact fun _ _ _ h => h) (Or.inr ⟨by rfl, rfl⟩) (by assumption) ?_) | fail); simp only [Act.put, sA, sB, sC, hov, hdx, Bool.not_true, Bool.not_false]
                      (first | (refine wpAnyH_take (i := 23) (v := _) (by simp only [gA, gB, gC]; rfl) (by kernel_rfl) (by kernel_rfl) (by kernel_rfl) (by exact fun _ _ _ h => h) (yields_at (by rfl) _ rfl _ rfl (labLit p.n.label) (fun _ q => pn_lab q.2.at) Tryd.underlying26 rfl hsl) (by assumption) ?_) | (refine wpAnyH_take (i := 23) (v := undef) (by simp only [gA, gB, gC]; rfl) (by kernel_rfl) (by kernel_rfl) (by kernel_rfl) (by exact fun _ _ _ h => h) (Or.inr ⟨by rfl, rfl⟩) (by assumption) ?_) | fail); simp only [Act.put, sA, sB, sC, hov, hdx, Bool.not_true, Bool.not_false]
                      (first | (refine wpAnyH_take (i := 24) (v := ?_) (by simp only [gA, gB, gC]; rfl) (by kernel_rfl) (by kernel_rfl) (by kernel_rfl) (by exact fun _ _ _ h => h) (Or.inl ⟨by rfl, ?_⟩) (by assumption) ?_; rotate_left; (focus (intro w hSw; (try dsimp only at hSw); go_simp; try with_reducible rfl))) | (refine wpAnyH_take (i := 24) (v := undef) (by simp only [gA, gB, gC]; rfl) (by kernel_rfl) (by kernel_rfl) (by kernel_rfl) (by exact fun _ _ _ h => h) (Or.inr ⟨by rfl, rfl⟩) (by assumption) ?_) | fail); simp only [Act.put, sA, sB, sC, hov, hdx, Bool.not_true, Bool.not_false]
                      (first | (refine wpAnyH_take (i := 25) (v := ?_) (by simp only [gA, gB, gC]; rfl) (by kernel_rfl) (by kernel_rfl) (by kernel_rfl) (by exact fun _ _ _ h => h) (Or.inl ⟨by rfl, ?_⟩) (by assumption) ?_; rotate_left; (focus (intro w hSw; (try dsimp only at hSw); go_simp; try with_reducible rfl))) | (refine wpAnyH_take (i := 25) (v := undef) (by simp only [gA, gB, gC]; rfl) (by kernel_rfl) (by kernel_rfl) (by kernel_rfl) (by exact fun _ _ _ h => h) (Or.inr ⟨by rfl, rfl⟩) (by assumption) ?_) | fail); simp only [Act.put, sA, sB, sC, hov, hdx, Bool.not_true, Bool.not_false]
                      (first | (refine wpAnyH_take (i := 26) (v := ?_) (by simp only [gA, gB, gC]; rfl) (by kernel_rfl) (by kernel_rfl) (by kernel_rfl) (by exact fun _ _ _ h => h) (Or.inl ⟨by rfl, ?_⟩) (by assumption) ?_; rotate_left; (focus (intro w hSw; (try dsimp only at hSw); go_simp; try with_reducible rfl))) | (refine wpAnyH_take (i := 26) (v := undef) (by simp only [gA, gB, gC]; rfl) (by kernel_rfl) (by kernel_rfl) (by kernel_rfl) (by exact fun _ _ _ h => h) (Or.inr ⟨by rfl, rfl⟩) (by assumption) ?_) | fail); simp only [Act.put, sA, sB, sC, hov, hdx, Bool.not_true, Bool.not_false]
                      (first | (refine wpAnyH_take (i := 27) (v := ?_) (by simp only [gA, gB, gC]; rfl) (by kernel_rfl) (by kernel_rfl) (by kernel_rfl) (by exact fun _ _ _ h => h) (Or.inl ⟨by rfl, ?_⟩) (by assumption) ?_; rotate_left; (focus (intro w hSw; (try dsimp only at hSw); go_simp; try with_reducible rfl))) | (refine wpAnyH_take (i := 27) (v := undef) (by simp only [gA, gB, gC]; rfl) (by kernel_rfl) (by kernel_rfl) (by kernel_rfl) (by exact fun _ _ _ h => h) (Or.inr ⟨by rfl, rfl⟩) (by assumption) ?_) | fail); simp only [Act.put, sA, sB, sC, hov, hdx, Bool.not_true, Bool.not_false]
                      refine wpAnyH_done (by kernel_rfl) ?_ _
                      go_wp2_with fail
                      exact ⟨⟨k + 1, by omega, by simp, hup, hC4.then hb1, stab_blk _ _ _ _ hkB4 hb1⟩, by simp [Go.RowKit.intOf]; omega⟩
            · have f0 : (x.n.path.toList == [47]) = true := by rw [← eqs_slash]; exact hs
              rw [hs, if_pos rfl] at hup
              go_wp2_with fail
              exact ⟨⟨k + 1, by omega, by simp, hup, hC, hkB⟩, by simp [Go.RowKit.intOf]; omega⟩
          · obtain rfl : k = i := by omega
            have hu0 : upC (namesP l) (namesP l) = 0 := by
              rw [hup.out, List.drop_eq_nil_of_le (by simp [namesP, hn.out])]
              rfl
            rw [hu0, if_neg (by simp)] at hR
            have hS0 : (fun W => BlkL p5 cs W) wr.drew := hkB
            have hCd : CK w wr.drew := hC.then (Below.refl _ _).drew
            have i0 : ¬ (k : Int) < (k : Int) := by omega
            cases hle : labEq rt.n.label bottomL
            · rw [hle, if_neg (by decide)] at hR
              obtain rfl := hR.out
              go_wp2_with fail
              refine wp_region_held_drew (S := (fun W => BlkL p5 cs W)) (by kernel_rfl) (by first | exact hS1 | exact hS0) ?_
              intro hHeld
              (first | (refine wpAnyH_take (i := 0) (v := ?_) (by simp only [gA, gB, gC]; rfl) (by kernel_rfl) (by kernel_rfl) (by kernel_rfl) (by exact fun _ _ _ h => h) (Or.inl ⟨by rfl, ?_⟩) (by assumption) ?_; rotate_left; (focus (intro w hSw; (try dsimp only at hSw); go_simp; try with_reducible rfl))) | (refine wpAnyH_take (i := 0) (v := undef) (by simp only [gA, gB, gC]; rfl) (by kernel_rfl) (by kernel_rfl) (by kernel_rfl) (by exact fun _ _ _ h => h) (Or.inr ⟨by rfl, rfl⟩) (by assumption) ?_) | fail); simp only [Act.put, sA, sB, sC, hle, Bool.not_true, Bool.not_false]
              (first | (refine wpAnyH_take (i := 1) (v := _) (by simp only [gA, gB, gC]; rfl) (by kernel_rfl) (by kernel_rfl) (by kernel_rfl) (by exact fun _ _ _ h => h) (yields_at (by rfl) _ rfl _ rfl (labLit rt.n.label) (fun _ q => hlabr q) Tryd.underlying26 rfl hsl) (by assumption) ?_) | (refine wpAnyH_take (i := 1) (v := undef) (by simp only [gA, gB, gC]; rfl) (by kernel_rfl) (by kernel_rfl) (by kernel_rfl) (by exact fun _ _ _ h => h) (Or.inr ⟨by rfl, rfl⟩) (by assumption) ?_) | fail); simp only [Act.put, sA, sB, sC, hle, Bool.not_true, Bool.not_false]
              first | (refine wpAnyH_take (i := 2) (v := undef) (by simp only [gA, gB, gC]; rfl) (by kernel_rfl) (by kernel_rfl) (by kernel_rfl) (by exact fun _ _ _ h => h) (Or.inr ⟨by rfl, rfl⟩) (by assumption) ?_; simp only [Act.put, sA, sB, sC, hle, Bool.not_true, Bool.not_false]) | (refine wpAnyH_ready (rs := [2]) (by kernel_rfl) (by simp) ?_; refine AllReadyH.cons (by simp only [gA, gB, gC]; rfl) (fun K hK => ?_) AllReadyH.nil; go_simp; (first | (go_at_call 39; refine (rlbot_any _).mono ?_; rintro e w1 ⟨rfl, hb1⟩; have hS1 : (fun W => BlkL p5 cs W) w1 := stab_blk _ _ _ _ hS0 hb1)); refine hK.out _ _ (by first | exact hS1 | exact hS0) ?_; clear hHeld hK; intro hHeld; (try simp only [Act.put, sA, sB, sC, hle, Bool.not_true, Bool.not_false])) | fail
              (first | (refine wpAnyH_take (i := 3) (v := ?_) (by simp only [gA, gB, gC]; rfl) (by kernel_rfl) (by kernel_rfl) (by kernel_rfl) (by exact fun _ _ _ h => h) (Or.inl ⟨by rfl, ?_⟩) (by assumption) ?_; rotate_left; (focus (intro w hSw; (try dsimp only at hSw); go_simp; try with_reducible rfl))) | (refine wpAnyH_take (i := 3) (v := undef) (by simp only [gA, gB, gC]; rfl) (by kernel_rfl) (by kernel_rfl) (by kernel_rfl) (by exact fun _ _ _ h => h) (Or.inr ⟨by rfl, rfl⟩) (by assumption) ?_) | fail); simp only [Act.put, sA, sB, sC, hle, Bool.not_true, Bool.not_false]
              refine wpAnyH_done (by kernel_rfl) ?_ _
              go_wp2_with fail
              go_ret
              exact ⟨rfl, (hCd.then hb1).bl⟩
            · rw [hle, if_pos rfl] at hR
              obtain rfl := hR.out
              go_wp2_with fail
              refine wp_region_held_drew (S := (fun W => BlkL p5 cs W)) (by kernel_rfl) (by first | exact hS1 | exact hS0) ?_
              intro hHeld
              (first | (refine wpAnyH_take (i := 0) (v := ?_) (by simp only [gA, gB, gC]; rfl) (by kernel_rfl) (by kernel_rfl) (by kernel_rfl) (by exact fun _ _ _ h => h) (Or.inl ⟨by rfl, ?_⟩) (by assumption) ?_; rotate_left; (focus (intro w hSw; (try dsimp only at hSw); go_simp; try with_reducible rfl))) | (refine wpAnyH_take (i := 0) (v := undef) (by simp only [gA, gB, gC]; rfl) (by kernel_rfl) (by kernel_rfl) (by kernel_rfl) (by exact fun _ _ _ h => h) (Or.inr ⟨by rfl, rfl⟩) (by assumption) ?_) | fail); simp only [Act.put, sA, sB, sC, hle, Bool.not_true, Bool.not_false]
              (first | (refine wpAnyH_take (i := 1) (v := _) (by simp only [gA, gB, gC]; rfl) (by kernel_rfl) (by kernel_rfl) (by kernel_rfl) (by exact fun _ _ _ h => h) (yields_at (by rfl) _ rfl _ rfl (labLit rt.n.label) (fun _ q => hlabr q) Tryd.underlying26 rfl hsl) (by assumption) ?_) | (refine wpAnyH_take (i := 1) (v := undef) (by simp only [gA, gB, gC]; rfl) (by kernel_rfl) (by kernel_rfl) (by kernel_rfl) (by exact fun _ _ _ h => h) (Or.inr ⟨by rfl, rfl⟩) (by assumption) ?_) | fail); simp only [Act.put, sA, sB, sC, hle, Bool.not_true, Bool.not_false]
              first | (refine wpAnyH_take (i := 2) (v := undef) (by simp only [gA, gB, gC]; rfl) (by kernel_rfl) (by kernel_rfl) (by kernel_rfl) (by exact fun _ _ _ h => h) (Or.inr ⟨by rfl, rfl⟩) (by assumption) ?_; simp only [Act.put, sA, sB, sC, hle, Bool.not_true, Bool.not_false]) | (refine wpAnyH_ready (rs := [2]) (by kernel_rfl) (by simp) ?_; refine AllReadyH.cons (by simp only [gA, gB, gC]; rfl) (fun K hK => ?_) AllReadyH.nil; go_simp; (first | (go_at_call 39; refine (rlbot_any _).mono ?_; rintro e w1 ⟨rfl, hb1⟩; have hS1 : (fun W => BlkL p5 cs W) w1 := stab_blk _ _ _ _ hS0 hb1)); refine hK.out _ _ (by first | exact hS1 | exact hS0) ?_; clear hHeld hK; intro hHeld; (try simp only [Act.put, sA, sB, sC, hle, Bool.not_true, Bool.not_false])) | fail
              (first | (refine wpAnyH_take (i := 3) (v := ?_) (by simp only [gA, gB, gC]; rfl) (by kernel_rfl) (by kernel_rfl) (by kernel_rfl) (by exact fun _ _ _ h => h) (Or.inl ⟨by rfl, ?_⟩) (by assumption) ?_; rotate_left; (focus (intro w hSw; (try dsimp only at hSw); go_simp; try with_reducible rfl))) | (refine wpAnyH_take (i := 3) (v := undef) (by simp only [gA, gB, gC]; rfl) (by kernel_rfl) (by kernel_rfl) (by kernel_rfl) (by exact fun _ _ _ h => h) (Or.inr ⟨by rfl, rfl⟩) (by assumption) ?_) | fail); simp only [Act.put, sA, sB, sC, hle, Bool.not_true, Bool.not_false]
              refine wpAnyH_done (by kernel_rfl) ?_ _
              go_wp2_with fail
              go_ret
              exact ⟨rfl, (hCd.then hb1).bl⟩
end Go.Proofs.YtacjfbomjglnjaaDoor
