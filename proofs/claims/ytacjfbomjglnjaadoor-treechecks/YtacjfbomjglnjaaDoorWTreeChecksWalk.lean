/-
  P1101: any nodes are checked as the document says; a tree that was grown may be, one of which a node was turned is checked as it says: the law's walk. Written by mk_tchecks.py.
-/
import Derived.Test.YtacjfbomjglnjaaDoorWTreeChecksBase
import Derived.Deep.CutBlock
namespace Go.Proofs.YtacjfbomjglnjaaDoor
open Go.RowKit
set_option maxRecDepth 8000
set_option linter.unusedSimpArgs false
set_option linter.unusedVariables false

set_option maxRecDepth 20000 in
set_option maxHeartbeats 8000000 in
theorem treeChecks_walk (ra : Option Addr) (rc : Nat) (raw : List PN) (ta : Option Addr) (ct : Nat) (ts : List Lab) (ma : Option Addr) (mc : Nat) (ms : List PM) (at_ : Int) (tn : PN) (fl : Int) (w : World) (hraw : RowN w ra raw) (hfit : ∀ x ∈ raw, x.n.Fits) (hlr : RowAt 4 lrow w ta ts) (hmr : RowM w ma ms) (hgt : GrsAt w tn.aa tn.n.acl) (hu : ∀ g ∈ tn.n.acl, g.u.size ≤ 9223372036854775807) (hM : MaxV w) :
    Calls Tryd.prog 3 #[.slice ra raw.length rc, .slice ta ts.length ct, .slice ma ms.length mc, .int .i64 at_, .agg tn.cs.toArray, .int .i64 fl] w fun e w' => e = .returned (.bool true) ∧ Below w.heap.size w w' := by
  have hund := Tryd.underlying32
  have hszN : (Tryd.prog.info? 32).map (·.size) = some 16 := by kernel_rfl
  have hsl : (Tryd.prog.info? 26).map (·.size) = some 4 := by kernel_rfl
  have hsr : (Tryd.prog.info? 29).map (·.size) = some 4 := by kernel_rfl
  have kg := fun W (q1 : RowAt 4 lrow W ta ts) (q2 : RowM W ma ms) => growT_any ta ct ts ma mc ms W q1 q2
  obtain ⟨nt, hnt⟩ : ∃ nt, ts.length = nt := ⟨_, rfl⟩
  obtain ⟨nm, hnm⟩ : ∃ nm, ms.length = nm := ⟨_, rfl⟩
  obtain ⟨nr, hnr⟩ : ∃ nr, raw.length = nr := ⟨_, rfl⟩
  rw [hnt, hnm] at kg
  rw [hnt, hnm, hnr]
  clear hnt hnm
  replace hnr : Aside (raw.length = nr) := hnr
  have hb0 := blkl_alloc w tn.cs.toArray 32
  have hB0 := alloc_below w (.cells tn.cs.toArray 32)
  have hcs : tn.cs = [.string tn.n.path, .bool tn.n.dir, .int .i64 tn.n.label.s, .int .i64 tn.n.label.c, .int .i64 tn.n.label.i, .int .i64 tn.n.label.k, .slice tn.aa tn.n.acl.length tn.ca, .int .i64 tn.n.r1, .int .i64 tn.n.r2, .int .i64 tn.n.r3, .int .i64 tn.n.gates, .slice tn.wa tn.n.words.length tn.cw, .int .i64 tn.n.by_.s, .int .i64 tn.n.by_.c, .int .i64 tn.n.by_.i, .int .i64 tn.n.by_.k] := rfl
  rw [hcs] at hb0 hB0 ⊢
  go_enter Tryd.func3, Tryd.ntmps3
  go_wp2_with fail
  generalize w.alloc (.cells ([.string tn.n.path, .bool tn.n.dir, .int .i64 tn.n.label.s, .int .i64 tn.n.label.c, .int .i64 tn.n.label.i, .int .i64 tn.n.label.k, .slice tn.aa tn.n.acl.length tn.ca, .int .i64 tn.n.r1, .int .i64 tn.n.r2, .int .i64 tn.n.r3, .int .i64 tn.n.gates, .slice tn.wa tn.n.words.length tn.cw, .int .i64 tn.n.by_.s, .int .i64 tn.n.by_.c, .int .i64 tn.n.by_.i, .int .i64 tn.n.by_.k]).toArray 32) = W0 at *
  replace hb0 : BlkL w.heap.size tn.cs W0 := hb0
  clear hcs
  refine (tknown_any W0).mono ?_
  rintro e W1 ⟨rfl, hB1⟩
  have hB01 := Below.then hB0 hB1
  have hb1 := stab_blk _ _ _ _ hb0 hB1
  clear hb0 hB0 hB1
  by_cases h20 : 20 < nr
  · have i0 : (20 : Int) < (nr : Int) := by omega
    go_wp2_with fail
    go_ret
    exact ⟨rfl, hB01⟩
  have i0 : ¬ (20 : Int) < (nr : Int) := by omega
  go_upto_block 0 with fail
  have hrw1 := hraw.below hB01
  go_cut [] from 13 (fun wc => wc = W1 ∧ Aside (∀ j x, raw[j]? = some x → j < nr → x.n.path.size ≤ 500 ∧ x.n.acl.length ≤ 20 ∧ x.n.words.length ≤ 40))
  case first =>
    clear kg
    go_wp2_with fail
    go_loopw [13] (fun t13 wr => ∃ i : Nat, i ≤ nr ∧ t13 = .int .i64 (i : Int) ∧ wr = W1 ∧ Aside (∀ j x, raw[j]? = some x → j < i → x.n.path.size ≤ 500 ∧ x.n.acl.length ≤ 20 ∧ x.n.words.length ≤ 40)) (fun t13 _ => nr - (Go.RowKit.intOf t13).toNat)
    case atStart => exact ⟨0, by omega, rfl, by first | rfl | trivial, fun j x _ hj => by omega⟩
    case round =>
      obtain ⟨i, hi, rfl, hwr, hsm⟩ := hrel
      subst hwr
      by_cases hlt : i < nr
      · obtain ⟨x, hx⟩ : ∃ x, raw[i]? = some x := ⟨_, List.getElem?_eq_getElem (by rw [hnr.out]; exact hlt)⟩
        obtain ⟨y, rfl⟩ := hrw1.some_ hx
        have hw := hrw1.r.at pn_len hx
        have c0 := hrw1.path hx
        have c6 := pn_at hw 6 (by decide) _ rfl
        have c11 := pn_at hw 11 (by decide) _ rfl
        have i1 : (i : Int) < (nr : Int) := by omega
        clear hw hsl hsr hszN hund
        by_cases hp : 500 < x.n.path.size
        · have f0 : (500 : Int) < (x.n.path.size : Int) := by omega
          go_wp2_with fail
          go_ret
          exact ⟨rfl, hB01⟩
        · have f0 : ¬ (500 : Int) < (x.n.path.size : Int) := by omega
          by_cases ha : 20 < x.n.acl.length
          · have f1 : (20 : Int) < (x.n.acl.length : Int) := by omega
            go_wp2_with fail
            go_ret
            exact ⟨rfl, hB01⟩
          · have f1 : ¬ (20 : Int) < (x.n.acl.length : Int) := by omega
            by_cases hq : 40 < x.n.words.length
            · have f2 : (40 : Int) < (x.n.words.length : Int) := by omega
              go_wp2_with fail
              go_ret
              exact ⟨rfl, hB01⟩
            · have f2 : ¬ (40 : Int) < (x.n.words.length : Int) := by omega
              have hsm2 : Aside (∀ j x, raw[j]? = some x → j < i + 1 → x.n.path.size ≤ 500 ∧ x.n.acl.length ≤ 20 ∧ x.n.words.length ≤ 40) := fun j z hz hj => by
                by_cases hji : j = i
                · subst hji
                  obtain rfl : x = z := Option.some.inj (hx.symm.trans hz)
                  exact ⟨by omega, by omega, by omega⟩
                · exact hsm.out j z hz (by omega)
              clear hsm
              go_wp2_with fail
              exact ⟨⟨i + 1, by omega, by simp, by first | rfl | trivial, hsm2⟩, by simp [Go.RowKit.intOf]; omega⟩
      · obtain rfl : i = nr := by omega
        go_wp2_with fail
        go_meet
        exact ⟨rfl, hsm⟩
  case rest =>
    obtain ⟨hwc, hsm0⟩ := hcut
    subst hwc
    have hwide : WideN raw := fun x hx => by
      obtain ⟨j, hj⟩ := List.mem_iff_getElem?.1 hx
      have h1 := hsm0.out j x hj (by rw [← hnr.out]; exact (List.getElem?_eq_some_iff.1 hj).1)
      exact ⟨by omega, (hfit x hx).g⟩
    have hMc := hM.below hB01
    have kt := tcheck_all ra rc raw (by rw [hnr.out]; omega) hwide wc hrw1 hMc
    have kr := fun W (q : RowN W ra raw) (q2 : MaxV W) => rcheckT_all ra rc raw (by rw [hnr.out]; omega) hwide W q q2
    obtain ⟨R, hR⟩ : ∃ R, treeC (namesP raw) = R := ⟨_, rfl⟩
    rw [hR, hnr.out] at kt kr
    clear hR hsm0 hwide
    go_wp2_with fail
    refine kt.mono ?_
    rintro e W2 ⟨rfl, hB2⟩
    clear kt
    go_wp2_with fail
    refine (kr W2 (hrw1.below hB2) (hMc.below hB2)).mono ?_
    rintro e W3 ⟨rfl, hB3⟩
    have hB03 := Below.then hB01 (Below.then hB2 hB3)
    have hb3 := stab_blk _ _ _ _ hb1 (Below.then hB2 hB3)
    clear kr hrw1 hMc hB2 hB3 hB01 hb1
    go_wp2_with fail
    refine (kg W3 (hlr.below lab_ok.len hB03) (hmr.below hB03)).mono ?_
    rintro e W4 ⟨v, l, rfl, ho, hat, hnm, hB4⟩
    obtain ⟨a, c, rfl, hg4⟩ := grown_of ho hat hnm
    have hB04 := Below.then hB03 hB4
    have hb4 := stab_blk _ _ _ _ hb3 hB4
    clear kg ho hat hnm hB4 hB03 hb3 hlr hmr
    have hM4 := hM.below hB04
    have hlen := hg4.len
    have hpos := hg4.pos
    have kt := tcheck_all a c l (by omega) hg4.fine.wide W4 hg4.row hM4
    rw [hg4.tree.check] at kt
    obtain ⟨n, hn⟩ : ∃ n, l.length = n := ⟨_, rfl⟩
    rw [hn] at kt hlen hpos ⊢
    replace hn : Aside (l.length = n) := hn
    go_wp2_with fail
    refine kt.mono ?_
    rintro e W5 ⟨rfl, hB5⟩
    have hB05 := Below.then hB04 hB5
    have hb5 := stab_blk _ _ _ _ hb4 hB5
    have hg5 := hg4.below hB5
    have hM5 := hM4.below hB5
    clear kt hg4 hB04 hb4 hM4 hB5
    go_wp2_with fail
    refine (w11_any at_ (n : Int) (by omega) (by omega) W5).mono ?_
    rintro e w' ⟨rfl, hw'⟩
    replace hw' := hw'.symm
    subst hw'
    obtain ⟨k, hk, hkn⟩ : ∃ k : Nat, at_ % (n : Int) = (k : Int) ∧ k < n := ⟨(at_ % (n : Int)).toNat, by have := Int.emod_nonneg at_ (show (n : Int) ≠ 0 by omega); omega, by have h1 := Int.emod_nonneg at_ (show (n : Int) ≠ 0 by omega); have h2 := Int.emod_lt_of_pos at_ (show 0 < (n : Int) by omega); omega⟩
    rw [hk]
    clear hk
    obtain ⟨x, hx⟩ : ∃ x, l[k]? = some x := ⟨_, List.getElem?_eq_getElem (by rw [hn.out]; exact hkn)⟩
    obtain ⟨y, rfl⟩ := hg5.row.some_ hx
    have hcx := hg5.row.r.at pn_len hx
    have hxm := List.mem_of_getElem? hx
    have hx5 : TurnOk W5 x := ⟨hg5.row.p x hxm, (hg5.fine.wide x hxm).1, (hg5.fine.wide x hxm).2⟩
    have hgt := hgt.below hB05
    obtain ⟨W6, hW6, hth6, hbn, hB6⟩ := put_new W5 ndz 32 x.cs rfl (by rw [pn_len]; omega)
    have hszx : (Tryd.prog.info? 32).map (·.size) = some x.cs.length := by rw [pn_len]; exact hszN
    have hone := pn_one x
    obtain ⟨f, hf, hf7⟩ : ∃ f : Nat, fl % 7 = (f : Int) ∧ f < 7 := ⟨(fl % 7).toNat, by omega, by omega⟩
    have kw := fun W => w11_any fl 7 (by decide) (by decide) W
    rw [hf] at kw
    clear hf
    have hb6 := stab_blk _ _ _ _ hb5 hB6
    clear hx
    go_wp2_with (first | (refine wpList_load_at rfl _ rfl (y.add (k * 16)) rfl x.cs hcx hund rfl hszx ?_) | (refine wpList_store_row rfl _ _ rfl W5.heap.size rfl x.cs rfl hth6 hszx hone hW6 ?_) | fail)
    refine (kw W6).mono ?_
    rintro e w2 ⟨rfl, hw2⟩
    replace hw2 := hw2.symm
    subst hw2
    clear hcx hth6 hW6
    go_upto_block 2 with fail
    go_cut [14] from 73 (fun s14 wc => Below W5.heap.size W5 wc ∧ ((f < 6 ∧ s14 = .slice (some y) n c ∧ ∃ x', BlkL W5.heap.size x'.cs wc ∧ TurnOk wc x') ∨ (f = 6 ∧ ∃ lz az cz, s14 = .slice az lz.length cz ∧ RowN wc az lz ∧ WideN lz ∧ lz.length ≤ 20)))
    case first =>
      clear kw
      rcases (show f = 0 ∨ f = 1 ∨ f = 2 ∨ f = 3 ∨ f = 4 ∨ f = 5 ∨ f = 6 by omega) with rfl | rfl | rfl | rfl | rfl | rfl | rfl
      · have hL : CellsAt W6 ⟨w.heap.size, 2, none⟩ (labLit tn.n.label) := by simpa using pn_lab (p := tn) hb6.at
        obtain ⟨W7, hW7, hth7, hbk7, hB7⟩ := put_mid hbn 2 (labLit tn.n.label) (by rw [pn_len]; simp) (by rw [pn_len]; decide) hB6 (Nat.le_refl _)
        go_wp2_with (first | (refine wpList_load_at rfl _ rfl ⟨w.heap.size, 2, none⟩ rfl (labLit tn.n.label) hL Tryd.underlying26 rfl hsl ?_) | (refine wpList_store_part rfl _ _ rfl W5.heap.size 2 rfl (labLit tn.n.label) rfl hth7 hsl (lab_one tn.n.label) hW7 ?_) | fail)
        go_meet
        exact ⟨hB7, .inl ⟨by decide, rfl, turnP 0 x tn, hbk7, turn_ok (hx5.below hB7) (hgt.below hB7) hu 0⟩⟩
      · have z1 := hbn.1 1 _ rfl
        obtain ⟨W7, hW7, hth7, hbk7, hB7⟩ := put_mid hbn 1 [.bool (!x.n.dir)] (by rw [pn_len]; simp) (by rw [pn_len]; decide) hB6 (Nat.le_refl _)
        have hok7 := turn_ok (t := tn) (hx5.below hB7) (hgt.below hB7) hu 1
        subst hW7
        clear hth7
        go_wp2_with fail
        go_meet
        exact ⟨hB7, .inl ⟨by decide, rfl, turnP 1 x tn, hbk7, hok7⟩⟩
      · have z1 := hbn.1 0 _ rfl
        have z2 := (hb6.1 0 _ rfl).1
        obtain ⟨W7, hW7, hth7, hbk7, hB7⟩ := put_mid hbn 0 [.string tn.n.path] (by rw [pn_len]; simp) (by rw [pn_len]; decide) hB6 (Nat.le_refl _)
        have hok7 := turn_ok (t := tn) (hx5.below hB7) (hgt.below hB7) hu 2
        subst hW7
        clear hth7
        go_wp2_with fail
        go_meet
        exact ⟨hB7, .inl ⟨by decide, rfl, turnP 2 x tn, hbk7, hok7⟩⟩
      · have z1 := hbn.1 6 _ rfl
        have z2 := (hb6.1 6 _ rfl).1
        obtain ⟨W7, hW7, hth7, hbk7, hB7⟩ := put_mid hbn 6 [.slice tn.aa tn.n.acl.length tn.ca] (by rw [pn_len]; simp) (by rw [pn_len]; decide) hB6 (Nat.le_refl _)
        have hok7 := turn_ok (t := tn) (hx5.below hB7) (hgt.below hB7) hu 3
        subst hW7
        clear hth7
        go_wp2_with fail
        go_meet
        exact ⟨hB7, .inl ⟨by decide, rfl, turnP 3 x tn, hbk7, hok7⟩⟩
      · have hL : CellsAt W6 ⟨w.heap.size, 12, none⟩ (labLit tn.n.by_) := by simpa using pn_by (p := tn) hb6.at
        obtain ⟨W7, hW7, hth7, hbk7, hB7⟩ := put_mid hbn 12 (labLit tn.n.by_) (by rw [pn_len]; simp) (by rw [pn_len]; decide) hB6 (Nat.le_refl _)
        go_wp2_with (first | (refine wpList_load_at rfl _ rfl ⟨w.heap.size, 12, none⟩ rfl (labLit tn.n.by_) hL Tryd.underlying26 rfl hsl ?_) | (refine wpList_store_part rfl _ _ rfl W5.heap.size 12 rfl (labLit tn.n.by_) rfl hth7 hsl (lab_one tn.n.by_) hW7 ?_) | fail)
        go_meet
        exact ⟨hB7, .inl ⟨by decide, rfl, turnP 4 x tn, hbk7, turn_ok (hx5.below hB7) (hgt.below hB7) hu 4⟩⟩
      · have hL : CellsAt W6 ⟨w.heap.size, 7, none⟩ (rgLit tn.n) := by simpa using pn_rg (p := tn) hb6.at
        obtain ⟨W7, hW7, hth7, hbk7, hB7⟩ := put_mid hbn 7 (rgLit tn.n) (by rw [pn_len]; simp) (by rw [pn_len]; decide) hB6 (Nat.le_refl _)
        go_wp2_with (first | (refine wpList_load_at rfl _ rfl ⟨w.heap.size, 7, none⟩ rfl (rgLit tn.n) hL Tryd.underlying29 rfl hsr ?_) | (refine wpList_store_part rfl _ _ rfl W5.heap.size 7 rfl (rgLit tn.n) rfl hth7 hsr (rg_one tn.n) hW7 ?_) | fail)
        go_meet
        exact ⟨hB7, .inl ⟨by decide, rfl, turnP 5 x tn, hbk7, turn_ok (hx5.below hB7) (hgt.below hB7) hu 5⟩⟩
      · have hB6d : Below W5.heap.size W5 W6.drew := Below.then hB6 (Below.refl _ _).drew
        obtain ⟨A1, A2, v2, V2, v3, V3, hs1, hs2, hap1, hap2, ho3, hB3⟩ := left_out (W := W6.drew) ((hg5.row.r).below pn_len hB6d) hg5.no hg5.cap hn.out (by omega) hkn
        have hwk : IntKind.i64.wrap ((k : Int) + 1) = (k : Int) + 1 := by rw [IntKind.wrap_i64]; omega
        have hBz := Below.then hB6d hB3
        have hS : (fun _ : World => True) W6.drew := trivial
        go_upto_region 31 with fail
        refine wp_region_held_drew (S := (fun _ : World => True)) (by kernel_rfl) (by exact trivial) ?_
        intro hHeld
        (first | (refine wpAnyH_take (i := 1) (v := ?_) (by simp only [gA, gB, gC]; rfl) (by kernel_rfl) (by kernel_rfl) (by kernel_rfl) (by exact fun _ _ _ h => h) (Or.inl ⟨by rfl, ?_⟩) (by assumption) ?_; rotate_left; (focus (intro w hSw; (try dsimp only at hSw); go_simp; try with_reducible rfl))) | (refine wpAnyH_take (i := 1) (v := undef) (by simp only [gA, gB, gC]; rfl) (by kernel_rfl) (by kernel_rfl) (by kernel_rfl) (by exact fun _ _ _ h => h) (Or.inr ⟨by rfl, rfl⟩) (by assumption) ?_) | fail); simp only [Act.put, sA, sB, sC]
        (first | (refine wpAnyH_take (i := 2) (v := ?_) (by simp only [gA, gB, gC]; rfl) (by kernel_rfl) (by kernel_rfl) (by kernel_rfl) (by exact fun _ _ _ h => h) (Or.inl ⟨by rfl, ?_⟩) (by assumption) ?_; rotate_left; (focus (intro w hSw; (try dsimp only at hSw); go_simp; try with_reducible rfl))) | (refine wpAnyH_take (i := 2) (v := undef) (by simp only [gA, gB, gC]; rfl) (by kernel_rfl) (by kernel_rfl) (by kernel_rfl) (by exact fun _ _ _ h => h) (Or.inr ⟨by rfl, rfl⟩) (by assumption) ?_) | fail); simp only [Act.put, sA, sB, sC]
        (first | (refine wpAnyH_take (i := 3) (v := ?_) (by simp only [gA, gB, gC]; rfl) (by kernel_rfl) (by kernel_rfl) (by kernel_rfl) (by exact fun _ _ _ h => h) (Or.inl ⟨by rfl, ?_⟩) (by assumption) ?_; rotate_left; (focus (intro w hSw; (try dsimp only at hSw); go_simp; try with_reducible rfl))) | (refine wpAnyH_take (i := 3) (v := undef) (by simp only [gA, gB, gC]; rfl) (by kernel_rfl) (by kernel_rfl) (by kernel_rfl) (by exact fun _ _ _ h => h) (Or.inr ⟨by rfl, rfl⟩) (by assumption) ?_) | fail); simp only [Act.put, sA, sB, sC]
        (first | (refine wpAnyH_take (i := 5) (v := ?_) (by simp only [gA, gB, gC]; rfl) (by kernel_rfl) (by kernel_rfl) (by kernel_rfl) (by exact fun _ _ _ h => h) (Or.inl ⟨by rfl, ?_⟩) (by assumption) ?_; rotate_left; (focus (intro w hSw; (try dsimp only at hSw); go_simp; try with_reducible rfl))) | (refine wpAnyH_take (i := 5) (v := undef) (by simp only [gA, gB, gC]; rfl) (by kernel_rfl) (by kernel_rfl) (by kernel_rfl) (by exact fun _ _ _ h => h) (Or.inr ⟨by rfl, rfl⟩) (by assumption) ?_) | fail); simp only [Act.put, sA, sB, sC]
        (first | (refine wpAnyH_take (i := 6) (v := ?_) (by simp only [gA, gB, gC]; rfl) (by kernel_rfl) (by kernel_rfl) (by kernel_rfl) (by exact fun _ _ _ h => h) (Or.inl ⟨by rfl, ?_⟩) (by assumption) ?_; rotate_left; (focus (intro w hSw; (try dsimp only at hSw); go_simp; try with_reducible rfl))) | (refine wpAnyH_take (i := 6) (v := undef) (by simp only [gA, gB, gC]; rfl) (by kernel_rfl) (by kernel_rfl) (by kernel_rfl) (by exact fun _ _ _ h => h) (Or.inr ⟨by rfl, rfl⟩) (by assumption) ?_) | fail); simp only [Act.put, sA, sB, sC]
        (first | (refine wpAnyH_take (i := 7) (v := ?_) (by simp only [gA, gB, gC]; rfl) (by kernel_rfl) (by kernel_rfl) (by kernel_rfl) (by exact fun _ _ _ h => h) (Or.inl ⟨by rfl, ?_⟩) (by assumption) ?_; rotate_left; (focus (intro w hSw; (try dsimp only at hSw); go_simp; try with_reducible rfl))) | (refine wpAnyH_take (i := 7) (v := undef) (by simp only [gA, gB, gC]; rfl) (by kernel_rfl) (by kernel_rfl) (by kernel_rfl) (by exact fun _ _ _ h => h) (Or.inr ⟨by rfl, rfl⟩) (by assumption) ?_) | fail); simp only [Act.put, sA, sB, sC]
        (first | (refine wpAnyH_take (i := 8) (v := ?_) (by simp only [gA, gB, gC]; rfl) (by kernel_rfl) (by kernel_rfl) (by kernel_rfl) (by exact fun _ _ _ h => h) (Or.inl ⟨by rfl, ?_⟩) (by assumption) ?_; rotate_left; (focus (intro w hSw; (try dsimp only at hSw); go_simp; try with_reducible rfl))) | (refine wpAnyH_take (i := 8) (v := undef) (by simp only [gA, gB, gC]; rfl) (by kernel_rfl) (by kernel_rfl) (by kernel_rfl) (by exact fun _ _ _ h => h) (Or.inr ⟨by rfl, rfl⟩) (by assumption) ?_) | fail); simp only [Act.put, sA, sB, sC]
        refine wpAnyH_ready (rs := [0]) (by kernel_rfl) (by simp) ?_; refine AllReadyH.cons (by simp only [gA, gB, gC]; rfl) (fun K hK => ?_) AllReadyH.nil; refine step_none rfl rfl ?_; (try simp only [Act.put, sA, sB, sC]); refine hK.out _ _ (by exact trivial) ?_; clear hHeld hK; intro hHeld; (try simp only [Act.put, sA, sB, sC])
        refine wpAnyH_ready (rs := [4]) (by kernel_rfl) (by simp) ?_; refine AllReadyH.cons (by simp only [gA, gB, gC]; rfl) (fun K hK => ?_) AllReadyH.nil; refine step_app hap1 rfl _ _ rfl rfl rfl rfl ?_; (try simp only [Act.put, sA, sB, sC]); refine hK.out _ _ (by exact trivial) ?_; clear hHeld hK; intro hHeld; (try simp only [Act.put, sA, sB, sC])
        refine wpAnyH_ready (rs := [9]) (by kernel_rfl) (by simp) ?_; refine AllReadyH.cons (by simp only [gA, gB, gC]; rfl) (fun K hK => ?_) AllReadyH.nil; refine step_app hap2 rfl _ _ rfl rfl rfl rfl ?_; (try simp only [Act.put, sA, sB, sC]); refine hK.out _ _ (by exact trivial) ?_; clear hHeld hK; intro hHeld; (try simp only [Act.put, sA, sB, sC])
        (first | (refine wpAnyH_take (i := 10) (v := ?_) (by simp only [gA, gB, gC]; rfl) (by kernel_rfl) (by kernel_rfl) (by kernel_rfl) (by exact fun _ _ _ h => h) (Or.inl ⟨by rfl, ?_⟩) (by assumption) ?_; rotate_left; (focus (intro w hSw; (try dsimp only at hSw); go_simp; try with_reducible rfl))) | (refine wpAnyH_take (i := 10) (v := undef) (by simp only [gA, gB, gC]; rfl) (by kernel_rfl) (by kernel_rfl) (by kernel_rfl) (by exact fun _ _ _ h => h) (Or.inr ⟨by rfl, rfl⟩) (by assumption) ?_) | fail); simp only [Act.put, sA, sB, sC]
        refine wpAnyH_done (by kernel_rfl) ?_ _
        go_wp2_with fail
        go_meet
        obtain ⟨a3, c3, hv3, -, -, hr3⟩ := OwnR.slice pn_len ho3
        exact ⟨hBz, .inr ⟨by first | rfl | trivial, _, a3, c3, hv3, ⟨hr3, fun y hy => (hg5.row.p y (out_mem hy)).below hBz⟩, wide_out hg5.fine.wide k, by rw [List.length_append, List.length_take, List.length_drop]; have := hg5.len; omega⟩⟩
    case rest =>
      obtain ⟨hBc, hcase⟩ := hcut
      clear hbn hB6 hb6
      have hBw := Below.then hB05 hBc
      have hMc := hM5.below hBc
      rcases hcase with ⟨hf6, rfl, x', hbx, hox⟩ | ⟨rfl, lz, az, cz, rfl, hrz, hwz, hlz⟩
      · have hgc := hg5.below hBc
        obtain ⟨v2, V2, hap, ho2, hB2⟩ := was_own hgc.row.r hgc.no hgc.cap hn.out (by omega)
        obtain ⟨g, c2, hv2, hgb, -⟩ := own_some ho2 (by rw [hn.out]; exact hpos)
        rw [hn.out] at hv2
        subst hv2
        obtain ⟨V3, hV3, hth3, hr3, hB3⟩ := elem_set hn.out ho2 hgb hkn x'
        have hbx2 := stab_blk _ _ _ _ hbx hB2
        have hB23 := hB3 wc hB2
        have hR3 : RowN V3 (some ⟨g, 0, none⟩) (l.set k x') := ⟨hr3, fun z hz => by
          rcases List.mem_or_eq_of_mem_set hz with hz | rfl
          · exact (hgc.row.p z hz).below hB23
          · exact hox.at_.below hB23⟩
        have hl3 : (l.set k x').length = n := by rw [List.length_set, hn.out]
        have hw3 := wide_set hgc.fine.wide hox k
        have hM3 := hMc.below hB23
        have hBw3 := Below.then hBw hB23
        have kt := tcheck_all (some ⟨g, 0, none⟩) c2 (l.set k x') (by rw [hl3]; omega) hw3 V3 hR3 hM3
        have kr := fun W (q : RowN W (some ⟨g, 0, none⟩) (l.set k x')) (q2 : MaxV W) => rcheckT_all (some ⟨g, 0, none⟩) c2 (l.set k x') (by rw [hl3]; omega) hw3 W q q2
        obtain ⟨R, hR⟩ : ∃ R, treeC (namesP (l.set k x')) = R := ⟨_, rfl⟩
        rw [hR, hl3] at kt kr
        have hrg := hbx2.range
        have hszx : (Tryd.prog.info? 32).map (·.size) = some x'.cs.length := by rw [pn_len]; exact hszN
        have hone := pn_one x'
        have i6 : (f : Int) < 6 := by omega
        clear hR hl3 hw3 hbx hbx2 hB2 hB23 hox hgc ho2 hx5 hg5
        go_wp2_with fail
        refine (kw wc).mono ?_
        rintro e w2 ⟨rfl, hw2⟩
        replace hw2 := hw2.symm
        subst hw2
        go_wp2_with (first | (refine wpList_none rfl rfl ?_) | (refine wpList_app hap rfl _ _ rfl rfl rfl rfl ?_) | (refine wpList_load_row rfl _ rfl W5.heap.size rfl x'.cs hrg hund rfl hszx ?_) | (refine wpList_store_elem rfl _ _ rfl _ rfl g (k * 16) (by first | rfl | exact add_at _ _) x'.cs rfl hth3 hszx hone hV3 ?_) | fail)
        refine kt.mono ?_
        rintro e V4 ⟨rfl, hB4⟩
        have hBw4 := Below.then hBw3 hB4
        clear kt hap hrg hth3 hV3
        go_wp2_with fail
        refine (kr V4 (hR3.below hB4) (hM3.below hB4)).mono ?_
        rintro e V5 ⟨rfl, hB5⟩
        have hBw5 := Below.then hBw4 hB5
        clear kr
        go_wp2_with fail
        go_ret
        exact ⟨rfl, hBw5⟩
      · have kt := tcheck_all az cz lz (by omega) hwz wc hrz hMc
        have kr := fun W (q : RowN W az lz) (q2 : MaxV W) => rcheckT_all az cz lz (by omega) hwz W q q2
        obtain ⟨R, hR⟩ : ∃ R, treeC (namesP lz) = R := ⟨_, rfl⟩
        obtain ⟨nz, hnz⟩ : ∃ nz, lz.length = nz := ⟨_, rfl⟩
        rw [hR, hnz] at kt kr
        rw [hnz]
        clear hR hnz hx5 hg5
        go_wp2_with fail
        refine (kw wc).mono ?_
        rintro e w2 ⟨rfl, hw2⟩
        replace hw2 := hw2.symm
        subst hw2
        go_wp2_with fail
        refine kt.mono ?_
        rintro e V4 ⟨rfl, hB4⟩
        have hBw4 := Below.then hBw hB4
        clear kt
        go_wp2_with fail
        refine (kr V4 (hrz.below hB4) (hMc.below hB4)).mono ?_
        rintro e V5 ⟨rfl, hB5⟩
        have hBw5 := Below.then hBw4 hB5
        clear kr
        go_wp2_with fail
        go_ret
        exact ⟨rfl, hBw5⟩
end Go.Proofs.YtacjfbomjglnjaaDoor
