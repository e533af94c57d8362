/-
  PACKAGE node AS IT LANDED: its reader's grants and words.
-/
import Derived.Test.YtecleampjeebaaaNodeLists
namespace Go.Proofs.Ytecleampjeebaaa
open Go.RowKit
set_option linter.unusedSimpArgs false
set_option linter.unusedVariables false

def grsR (l : List UInt8) (r : Rd) : Rd := (grT l (u8R l r) (u8V l r)).2
def grsV (l : List UInt8) (r : Rd) : List Gr := (grT l (u8R l r) (u8V l r)).1
def wdsR (l : List UInt8) (r : Rd) : Rd := (wdT l (u8R l r) (u8V l r)).2
def wdsV (l : List UInt8) (r : Rd) : List Int := (wdT l (u8R l r) (u8V l r)).1
/-- Where the loop over grants stands. -/
structure GLoop (w W : World) (g B : Nat) (l : List UInt8) (r : Rd) (n b i : Nat) (cs : List Value) : Prop where
  e : (grT l r i).2.err = 0
  rd : RdN W g B l (grT l r i).2.p
  row : RowB W b 60 cs
  len : cs.length = n * 2
  tk : cs.take (i * 2) = (grT l r i).1.flatMap gcells
  rs : Rest g w W
structure WLoop (w W : World) (g B : Nat) (l : List UInt8) (r : Rd) (n b i : Nat) (cs : List Value) : Prop where
  e : (wdT l r i).2.err = 0
  rd : RdN W g B l (wdT l r i).2.p
  row : RowB W b 2 cs
  len : cs.length = n * 1
  tk : cs.take (i * 1) = (wdT l r i).1.flatMap wcell
  rs : Rest g w W
theorem rest_set {g : Nat} {w W : World} (h : Rest g w W) {b k : Nat} (hb : w.heap.size ≤ b) (v : Value) : Rest g w (W.setCell ⟨b, k, none⟩ v) := h.past (Nat.le_refl _) ((Below.refl _ W).setCell (p := ⟨b, k, none⟩) hb v)

set_option maxHeartbeats 4000000 in
theorem grants_any (g B : Nat) (l : List UInt8) (r : Rd) (h0 : r.err = 0) (w : World) (h : RdN w g B l r.p) :
    Calls Try.prog 56 #[.pointer (some ⟨g, 0, none⟩)] w (Got g B l w (grsR l r) fun v w' => OwnG w' w.heap.size v (grsV l r)) := by
  have hgB := h.lt
  have hu := u8V_lt l r
  have k := number_any g B l r h0 w h
  unfold grsR grsV
  generalize u8V l r = n at *
  generalize u8R l r = r1 at *
  obtain ⟨rn, hrn⟩ : ∃ rn, (grT l r1 n).2 = rn := ⟨_, rfl⟩
  obtain ⟨ln, hln⟩ : ∃ ln, (grT l r1 n).1 = ln := ⟨_, rfl⟩
  rw [hrn, hln]
  have hrn : Aside ((grT l r1 n).2 = rn) := hrn
  have hln : Aside ((grT l r1 n).1 = ln) := hln
  go_enter Try.func56, Try.ntmps56
  go_wp2_with fail
  refine k.mono ?_
  rintro e W ⟨hT, ⟨he, v, rfl, rfl, hR⟩ | ⟨he, rfl⟩⟩
  · obtain ⟨cur, hcur, hmk⟩ := make_any gr_ok W n (by omega)
    have hgW : w.heap.size ≤ W.heap.size := hT.size
    have ba := alloc_below W (.cells cur 60)
    have hst : GLoop w (W.alloc (.cells cur 60)) g B l r1 n W.heap.size 0 cur.toList := ⟨he, hR.past (ba.mono (Nat.le_trans hgB.2 hgW)), rowb_alloc W cur _, by simpa using hcur, by simp [grT], hT.past hgW ba⟩
    generalize W.alloc (.cells cur 60) = W1 at *
    obtain ⟨y, hy⟩ : ∃ y : Addr, (⟨W.heap.size, 0, none⟩ : Addr) = y := ⟨_, rfl⟩
    have had : Aside (∀ j, y.add j = ⟨W.heap.size, j, none⟩) := fun j => by rw [← hy]; exact add_at _ _
    rw [hy] at hmk
    have hy : Aside ((⟨W.heap.size, 0, none⟩ : Addr) = y) := hy
    have hwb : w.heap.size ≤ W.heap.size := hgW
    generalize W.heap.size = b at *
    clear k hcur ba hR hT
    go_wp2_with fail
    clear hmk
    go_loopw [10] (fun t10 wr => ∃ i : Nat, i ≤ n ∧ t10 = .int .i64 (i : Int) ∧ ∃ cs, GLoop w wr g B l r1 n b i cs) (fun t10 _ => n - (Go.RowKit.intOf t10).toNat)
    case atStart => exact ⟨0, by omega, rfl, _, hst⟩
    case round =>
      clear hst
      obtain ⟨i, hi, rfl, cs, hL⟩ := hrel
      by_cases hlt : i < n
      · have hend := grT_end (n := n) hL.e hlt
        have hstep : grT l r1 (i + 1) = ((grT l r1 i).1 ++ [⟨textV l (grT l r1 i).2, ((u8V l (textR l (grT l r1 i).2) : Nat) : Int)⟩], u8R l (textR l (grT l r1 i).2)) := by rw [grT, if_pos hL.e]
        have kt := text_any g B l (grT l r1 i).2 hL.e wr hL.rd
        have kn := fun (W : World) (hh : (textR l (grT l r1 i).2).err = 0) (hr : RdN W g B l (textR l (grT l r1 i).2).p) => number_any g B l (textR l (grT l r1 i).2) hh W hr
        have hbad : (textR l (grT l r1 i).2).err ≠ 0 → u8R l (textR l (grT l r1 i).2) = textR l (grT l r1 i).2 := u8R_bad
        have hlen := hL.len
        have hrow := hL.row
        have htk := hL.tk
        have hrs := hL.rs
        have hbg : b ≠ g := by omega
        rw [hrn.out] at hend
        generalize textV l (grT l r1 i).2 = tv at *
        generalize u8V l (textR l (grT l r1 i).2) = md at *
        generalize u8R l (textR l (grT l r1 i).2) = r3 at *
        generalize textR l (grT l r1 i).2 = r2 at *
        clear hL
        go_wp2_with fail
        refine kt.mono ?_
        rintro e W2 ⟨hT2, ⟨he2, v, rfl, rfl, hR2⟩ | ⟨he2, rfl⟩⟩
        · have hrow2 := hrow.same (hT2.block _ hrow.lt (fun q => by injection q; omega))
          have c0 : W2.cell? (y.add (i * 2)) = cs[i * 2]? := by rw [had.out]; exact hrow2.cell _
          obtain ⟨v0, hv0⟩ : ∃ v0, cs[i * 2]? = some v0 := ⟨_, List.getElem?_eq_getElem (by omega)⟩
          rw [hv0] at c0
          have f0 : W2.frozen? (y.add (i * 2)) = false := by rw [had.out]; exact hrow2.free _
          have hrow3 := hrow2.set (i * 2) (.string tv)
          have hT3 := rest_set (hrs.trans hT2) (k := i * 2) hwb (.string tv)
          have hR3 := hR2.past ((Below.refl B W2).setCell (p := ⟨b, i * 2, none⟩) (by show B ≤ b; omega) (.string tv))
          rw [← had.out] at hrow3 hT3 hR3
          clear kt hrow hrow2 hT2 hrs hR2
          have i1 : (i : Int) < (n : Int) := by omega
          go_wp2_with fail
          generalize W2.setCell (y.add (i * 2)) (.string tv) = W3 at *
          refine (kn W3 he2 hR3).mono ?_
          rintro e W4 ⟨hT4, ⟨he4, v, rfl, rfl, hR4⟩ | ⟨he4, rfl⟩⟩
          · have hrow4 := hrow3.same (hT4.block _ hrow3.lt (fun q => by injection q; omega))
            have ha1 : (⟨(y.add (i * 2)).block, (y.add (i * 2)).off + 1, none⟩ : Addr) = ⟨b, i * 2 + 1, none⟩ := by rw [had.out]
            have c1 : W4.cell? ⟨(y.add (i * 2)).block, (y.add (i * 2)).off + 1, none⟩ = (cs.set (i * 2) (.string tv))[i * 2 + 1]? := by rw [ha1]; exact hrow4.cell _
            obtain ⟨v1, hv1⟩ : ∃ v1, (cs.set (i * 2) (.string tv))[i * 2 + 1]? = some v1 := ⟨_, List.getElem?_eq_getElem (by simp; omega)⟩
            rw [hv1] at c1
            have f1 : W4.frozen? ⟨(y.add (i * 2)).block, (y.add (i * 2)).off + 1, none⟩ = false := by rw [ha1]; exact hrow4.free _
            have hrow5 := hrow4.set (i * 2 + 1) (.int .i64 (md : Int))
            have hT5 := rest_set (hT3.trans hT4) (k := i * 2 + 1) hwb (.int .i64 (md : Int))
            have hR5 := hR4.past ((Below.refl B W4).setCell (p := ⟨b, i * 2 + 1, none⟩) (by show B ≤ b; omega) (.int .i64 (md : Int)))
            rw [← ha1] at hrow5 hT5 hR5
            clear kn hrow3 hrow4 hT4 hT3 hR4 hR3 c0 f0 ha1
            go_wp2_with fail
            generalize W4.setCell ⟨(y.add (i * 2)).block, (y.add (i * 2)).off + 1, none⟩ (.int .i64 (md : Int)) = W5 at *
            refine ⟨⟨i + 1, by omega, by simp, (cs.set (i * 2) (.string tv)).set (i * 2 + 1) (.int .i64 (md : Int)), ?_⟩, by simp [Go.RowKit.intOf]; omega⟩
            have hs2 : (grT l r1 (i + 1)).2 = r3 := by rw [hstep]
            have hs1 : (grT l r1 (i + 1)).1 = (grT l r1 i).1 ++ [⟨tv, (md : Int)⟩] := by rw [hstep]
            refine ⟨by rw [hs2]; exact he4, by rw [hs2]; exact hR5, hrow5, by simpa using hlen, ?_, hT5⟩
            have t1 := take_next (v := .string tv) (by omega) htk
            have t2 := take_next (v := .int .i64 (md : Int)) (m := i * 2 + 1) (by simp; omega) t1
            rw [hs1, List.flatMap_append, show (i + 1) * 2 = i * 2 + 1 + 1 by omega, t2]
            simp [gcells]
          · have hen := hend he4
            subst hen
            refine (show _ ∧ _ from ⟨rfl, ?_⟩)
            exact ⟨hT3.trans hT4, .inr ⟨he4, rfl⟩⟩
        · have hen := hend (by rw [hbad he2]; exact he2)
          rw [hbad he2] at hen
          subst hen
          refine (show _ ∧ _ from ⟨rfl, ?_⟩)
          exact ⟨hrs.trans hT2, .inr ⟨he2, rfl⟩⟩
      · obtain rfl : i = n := by omega
        have hown : OwnG wr w.heap.size (.slice (some y) i i) ln := by
          rw [← hy.out, ← hln.out]
          exact OwnR.made _ hwb hL.row (ate_grs he i hL.e).2.1 hL.len (by omega) (fun _ => rfl) hL.tk
        have hrd := hL.rd
        have hre := hL.e
        have hrs := hL.rs
        rw [hrn.out] at hrd hre
        clear hL
        go_wp2_with fail
        go_ret
        exact ⟨hrs, .inl ⟨hre, _, rfl, hown, hrd⟩⟩
  · have hq : rn = r1 := by rw [← hrn.out, grT_bad he]
    subst hq
    refine died ?_
    exact ⟨hT, .inr ⟨he, rfl⟩⟩
set_option maxHeartbeats 4000000 in
theorem words_any (g B : Nat) (l : List UInt8) (r : Rd) (h0 : r.err = 0) (w : World) (h : RdN w g B l r.p) :
    Calls Try.prog 58 #[.pointer (some ⟨g, 0, none⟩)] w (Got g B l w (wdsR l r) fun v w' => OwnW w' w.heap.size v (wdsV l r)) := by
  have hgB := h.lt
  have hu := u8V_lt l r
  have k := number_any g B l r h0 w h
  unfold wdsR wdsV
  generalize u8V l r = n at *
  generalize u8R l r = r1 at *
  obtain ⟨rn, hrn⟩ : ∃ rn, (wdT l r1 n).2 = rn := ⟨_, rfl⟩
  obtain ⟨ln, hln⟩ : ∃ ln, (wdT l r1 n).1 = ln := ⟨_, rfl⟩
  rw [hrn, hln]
  have hrn : Aside ((wdT l r1 n).2 = rn) := hrn
  have hln : Aside ((wdT l r1 n).1 = ln) := hln
  go_enter Try.func58, Try.ntmps58
  go_wp2_with fail
  refine k.mono ?_
  rintro e W ⟨hT, ⟨he, v, rfl, rfl, hR⟩ | ⟨he, rfl⟩⟩
  · obtain ⟨cur, hcur, hmk⟩ := make_any wd_ok W n (by omega)
    have hgW : w.heap.size ≤ W.heap.size := hT.size
    have ba := alloc_below W (.cells cur 2)
    have hst : WLoop w (W.alloc (.cells cur 2)) g B l r1 n W.heap.size 0 cur.toList := ⟨he, hR.past (ba.mono (Nat.le_trans hgB.2 hgW)), rowb_alloc W cur _, by simpa using hcur, by simp [wdT], hT.past hgW ba⟩
    generalize W.alloc (.cells cur 2) = W1 at *
    obtain ⟨y, hy⟩ : ∃ y : Addr, (⟨W.heap.size, 0, none⟩ : Addr) = y := ⟨_, rfl⟩
    have had : Aside (∀ j, y.add j = ⟨W.heap.size, j, none⟩) := fun j => by rw [← hy]; exact add_at _ _
    rw [hy] at hmk
    have hy : Aside ((⟨W.heap.size, 0, none⟩ : Addr) = y) := hy
    have hwb : w.heap.size ≤ W.heap.size := hgW
    generalize W.heap.size = b at *
    clear k hcur ba hR hT
    go_wp2_with fail
    clear hmk
    go_loopw [10] (fun t10 wr => ∃ i : Nat, i ≤ n ∧ t10 = .int .i64 (i : Int) ∧ ∃ cs, WLoop w wr g B l r1 n b i cs) (fun t10 _ => n - (Go.RowKit.intOf t10).toNat)
    case atStart => exact ⟨0, by omega, rfl, _, hst⟩
    case round =>
      clear hst
      obtain ⟨i, hi, rfl, cs, hL⟩ := hrel
      by_cases hlt : i < n
      · have hend := wdT_end (n := n) hL.e hlt
        have hstep : wdT l r1 (i + 1) = ((wdT l r1 i).1 ++ [numV l (wdT l r1 i).2], numR8 l (wdT l r1 i).2) := by rw [wdT, if_pos hL.e]
        have kt := eight_any g B l (wdT l r1 i).2 hL.e wr hL.rd
        have hlen := hL.len
        have hrow := hL.row
        have htk := hL.tk
        have hrs := hL.rs
        have hbg : b ≠ g := by omega
        rw [hrn.out] at hend
        generalize numV l (wdT l r1 i).2 = tv at *
        generalize numR8 l (wdT l r1 i).2 = r2 at *
        clear hL
        go_wp2_with fail
        refine kt.mono ?_
        rintro e W2 ⟨hT2, ⟨he2, v, rfl, rfl, hR2⟩ | ⟨he2, rfl⟩⟩
        · have hrow2 := hrow.same (hT2.block _ hrow.lt (fun q => by injection q; omega))
          have c0 : W2.cell? (y.add i) = cs[i]? := by rw [had.out]; exact hrow2.cell _
          obtain ⟨v0, hv0⟩ : ∃ v0, cs[i]? = some v0 := ⟨_, List.getElem?_eq_getElem (by omega)⟩
          rw [hv0] at c0
          have f0 : W2.frozen? (y.add i) = false := by rw [had.out]; exact hrow2.free _
          have hrow3 := hrow2.set i (.int .i64 tv)
          have hT3 := rest_set (hrs.trans hT2) (k := i) hwb (.int .i64 tv)
          have hR3 := hR2.past ((Below.refl B W2).setCell (p := ⟨b, i, none⟩) (by show B ≤ b; omega) (.int .i64 tv))
          rw [← had.out] at hrow3 hT3 hR3
          clear kt hrow hrow2 hT2 hrs hR2
          have i1 : (i : Int) < (n : Int) := by omega
          go_wp2_with fail
          generalize W2.setCell (y.add i) (.int .i64 tv) = W3 at *
          refine ⟨⟨i + 1, by omega, by simp, cs.set i (.int .i64 tv), ?_⟩, by simp [Go.RowKit.intOf]; omega⟩
          have hs2 : (wdT l r1 (i + 1)).2 = r2 := by rw [hstep]
          have hs1 : (wdT l r1 (i + 1)).1 = (wdT l r1 i).1 ++ [tv] := by rw [hstep]
          refine ⟨by rw [hs2]; exact he2, by rw [hs2]; exact hR3, hrow3, by simpa using hlen, ?_, hT3⟩
          rw [Nat.mul_one] at htk
          have t1 := take_next (v := .int .i64 tv) (by omega) htk
          rw [hs1, List.flatMap_append, Nat.mul_one, t1]
          simp [wcell]
        · have hen := hend he2
          subst hen
          refine (show _ ∧ _ from ⟨rfl, ?_⟩)
          exact ⟨hrs.trans hT2, .inr ⟨he2, rfl⟩⟩
      · obtain rfl : i = n := by omega
        have hown : OwnW wr w.heap.size (.slice (some y) i i) ln := by
          rw [← hy.out, ← hln.out]
          exact OwnR.made _ hwb hL.row (ate_wds he i hL.e).2.1 hL.len (by omega) (fun _ => rfl) hL.tk
        have hrd := hL.rd
        have hre := hL.e
        have hrs := hL.rs
        rw [hrn.out] at hrd hre
        clear hL
        go_wp2_with fail
        go_ret
        exact ⟨hrs, .inl ⟨hre, _, rfl, hown, hrd⟩⟩
  · have hq : rn = r1 := by rw [← hrn.out, wdT_bad he]
    subst hq
    refine died ?_
    exact ⟨hT, .inr ⟨he, rfl⟩⟩
end Go.Proofs.Ytecleampjeebaaa
