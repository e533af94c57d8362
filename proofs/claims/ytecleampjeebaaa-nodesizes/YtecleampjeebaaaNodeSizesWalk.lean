/-
  THE WALK OF NodeSizes.
-/
import Derived.Test.YtecleampjeebaaaNodeLaw
namespace Go.Proofs.Ytecleampjeebaaa
open Go.RowKit
set_option linter.unusedSimpArgs false
set_option linter.unusedVariables false

set_option maxRecDepth 20000 in
set_option maxHeartbeats 8000000 in
theorem nodeSizes_walk (n : Nod) (aa : Option Addr) (ca : Nat) (wa : Option Addr) (cw : Nat) (hsz : ∀ g ∈ n.acl, g.u.size ≤ 9223372036854775807) (hws : ∀ x ∈ n.words, -9223372036854775808 ≤ x ∧ x ≤ 9223372036854775807) (w : World) (hG : GrsAt w aa n.acl) (hW : WrdsAt w wa n.words) :
    Calls Try.prog 6 #[n.v aa ca wa cw] w fun e w' => e = .returned (.bool true) ∧ Below w.heap.size w w' := by
  have hb0 : Blk (w.alloc (.cells (nl n (.slice aa n.acl.length ca) (.slice wa n.words.length cw)).toArray 29)) w.heap.size (nl n (.slice aa n.acl.length ca) (.slice wa n.words.length cw)) := blk_alloc w _ _
  have hB0 := alloc_below w (.cells (nl n (.slice aa n.acl.length ca) (.slice wa n.words.length cw)).toArray 29)
  have hl0 : w.heap.size < (w.alloc (.cells (nl n (.slice aa n.acl.length ca) (.slice wa n.words.length cw)).toArray 29)).heap.size := by simp
  have kF := few_nl n aa ca wa cw
  have kP := plain_nl n aa ca wa cw
  have hsz0 := nl_sz n (.slice aa n.acl.length ca) (.slice wa n.words.length cw)
  have hund := und_node
  obtain ⟨W0, hW0⟩ : ∃ W0, w.alloc (.cells (nl n (.slice aa n.acl.length ca) (.slice wa n.words.length cw)).toArray 29) = W0 := ⟨_, rfl⟩
  rw [hW0] at hb0 hB0 hl0
  unfold nl at hW0
  obtain ⟨cs0, hcs0⟩ : ∃ cs0, nl n (.slice aa n.acl.length ca) (.slice wa n.words.length cw) = cs0 := ⟨_, rfl⟩
  rw [hcs0] at hb0 hsz0
  simp only [hcs0] at kF kP
  go_enter Try.func6, Try.ntmps6
  go_upto_region 1 with fail
  clear hW0 hcs0
  go_wp2_with fail
  refine (nknown_any _).mono ?_
  rintro e W1 ⟨rfl, hB1⟩
  have hB01 := Below.then hB0 hB1
  have hb1 := hb0.same (hB1.block _ hl0)
  have hl1 := Nat.lt_of_lt_of_le hl0 hB1.size
  have hr1 := hb1.range
  clear hb0 hl0 hB0 hB1
  go_wp2_with (first | (refine wpList_load_row rfl _ rfl _ rfl cs0 hr1 hund rfl hsz0 ?_) | fail)
  refine (kF _).mono ?_
  rintro e W2 ⟨rfl, hB2⟩
  have hB02 := Below.then hB01 hB2
  have hb2 := hb1.same (hB2.block _ hl1)
  have hl2 := Nat.lt_of_lt_of_le hl1 hB2.size
  have hr2 := hb2.range
  clear hb1 hl1 hB01 hB2 hr1 kF
  cases hf : fewN n
  · go_wp2_with fail
    go_ret
    exact ⟨rfl, hB02⟩
  have hPl := plain_Plain hf hws
  have hlens : (plainN n).acl.length < 40 ∧ (plainN n).words.length < 100 := by
    have h1 : n.path.size < 1000 ∧ n.acl.length < 40 ∧ n.words.length < 100 := by simpa [fewN] using hf
    have h2 := plainG_len n.acl
    exact ⟨by show (plainG n.acl).length < 40; omega, by show n.words.length < 100; omega⟩
  have hc := kP hf hsz W2 (hG.below hB02)
  have hpl2 : (plainN n).words = n.words := rfl
  clear kP hf
  go_wp2_with (first | (refine wpList_load_row rfl _ rfl _ rfl cs0 hr2 hund rfl hsz0 ?_) | fail)
  refine hc.mono ?_
  rintro e W3 ⟨ap, cp, rfl, hGp, hnew, hB3⟩
  have hPacl : (plainN n).acl.length < 40 ∧ (plainN n).words.length < 100 := hlens
  obtain ⟨P, hP⟩ : ∃ P, plainN n = P := ⟨_, rfl⟩
  simp only [hP] at hGp hPl hPacl ⊢
  have hB03 := Below.then hB02 hB3
  have hb3 := hb2.same (hB3.block _ hl2)
  have hl3 := Nat.lt_of_lt_of_le hl2 hB3.size
  obtain ⟨cs1, hcs1⟩ : ∃ cs1, nl P (.slice ap P.acl.length cp) (.slice wa P.words.length cw) = cs1 := ⟨_, rfl⟩
  have hone := nl_one P ap wa P.acl.length cp P.words.length cw
  have hsz1 := nl_sz P (.slice ap P.acl.length cp) (.slice wa P.words.length cw)
  have kE := fun W => enc_nl P ap cp wa cw hPl W
  have hle : cs0.length = cs1.length := by
    rw [hcs1, hsz0] at hsz1
    exact Option.some.inj hsz1
  simp only [hcs1] at hone hsz1 kE ⊢
  have hth : W3.there w.heap.size 0 cs1.length := by rw [← hle]; exact hb3.there
  have hb4 := hb3.setAll hle
  have hB4 := Below.cells (Nat.le_refl _) cs1 0 (Below.refl w.heap.size W3)
  have hl4 := Nat.lt_of_lt_of_le hl3 hB4.size
  have hB04 := hB03.trans hB4
  have hG4 : GrsAt (W3.setCells w.heap.size 0 cs1) ap P.acl := hGp.far fun y hy => heap_setCells_other (fun q => by have := hnew.1 y hy; omega) cs1 0 W3
  have hW4 : WrdsAt (W3.setCells w.heap.size 0 cs1) wa P.words := by
    rw [← hP]
    exact hW.below hB04
  obtain ⟨W4, hW4e⟩ : ∃ W4, W3.setCells w.heap.size 0 cs1 = W4 := ⟨_, rfl⟩
  rw [hW4e] at hb4 hl4 hB04 hG4 hW4
  have z0 : W4.cell? ⟨w.heap.size, 0, none⟩ = some (.string P.path) := by
    have := hb4 0 (.string P.path) (by rw [← hcs1]; rfl)
    exact this.1
  have z6 : W4.cell? ⟨w.heap.size, 6, none⟩ = some (.slice ap P.acl.length cp) := by
    have := hb4 6 (.slice ap P.acl.length cp) (by rw [← hcs1]; rfl)
    exact this.1
  have z11 : W4.cell? ⟨w.heap.size, 11, none⟩ = some (.slice wa P.words.length cw) := by
    have := hb4 11 (.slice wa P.words.length cw) (by rw [← hcs1]; rfl)
    exact this.1
  clear hc hGp hnew hB3 hb2 hl2 hr2 hb3 hl3 hB4 hB02 hB03 hG hW hP hcs1 hsz0 hpl2 hsz hws
  have hpp := hPl.p
  obtain ⟨ha40, hw100⟩ := hPacl
  go_wp2_with (first | (refine wpList_store_row rfl _ _ rfl _ rfl cs1 rfl hth hsz1 hone hW4e ?_) | fail)
  clear hth hW4e hone hle
  have hgs := gsum_le (l := P.acl) (fun g hg => (hPl.g g hg).1)
  go_loopw [3, 4] (fun t3 t4 wr => ∃ i : Nat, i ≤ P.acl.length ∧ t4 = .int .i64 (i : Int) ∧ t3 = .int .i64 ((16 + P.path.size + 8 * P.words.length + gsum P.acl i : Nat) : Int) ∧ wr = W4) (fun _ t4 _ => P.acl.length - (Go.RowKit.intOf t4).toNat)
  case atStart =>
    refine ⟨0, by omega, rfl, ?_, rfl⟩
    simp [gsum]
    try omega
  case round =>
    obtain ⟨i, hi, rfl, rfl, rfl⟩ := hrel
    by_cases hlt : i < P.acl.length
    · obtain ⟨q, hq⟩ : ∃ q, P.acl[i]? = some q := ⟨_, List.getElem?_eq_getElem hlt⟩
      have hqs := (hPl.g q (List.mem_of_getElem? hq)).1
      have hnx : Aside (gsum P.acl (i + 1) = gsum P.acl i + (2 + q.u.size)) := gsum_succ hq
      have hgi := hgs i hi
      obtain ⟨y, rfl, c1, c2⟩ := hG4 i q hq
      obtain ⟨S, hS⟩ : ∃ S, gsum P.acl i = S := ⟨_, rfl⟩
      rw [hS] at hnx hgi ⊢
      clear hq hS
      have hi1 : (i : Int) < (P.acl.length : Int) := by omega
      go_wp2_with fail
      refine ⟨⟨i + 1, by omega, by simp, ?_, trivial⟩, by simp [Go.RowKit.intOf]; omega⟩
      rw [hnx.out]
      simp
      omega
    · obtain rfl : i = P.acl.length := by omega
      have hlen := encN_sum P
      have hgi := hgs P.acl.length (Nat.le_refl _)
      have hlb : (encN P).length < 900000 := by omega
      have hcut := fun k hk => nod_cut (nod_back P hPl).2 (k := k) hk
      have hmore := nod_more P hPl 0
      have kE' := kE wr hG4 hW4
      rw [← hlen]
      obtain ⟨l, hl⟩ : ∃ l, encN P = l := ⟨_, rfl⟩
      simp only [hl] at kE' hlen hlb hcut hmore ⊢
      obtain ⟨m, hm⟩ : ∃ m, l.length = m := ⟨_, rfl⟩
      simp only [hm] at kE' hlb hcut ⊢
      have hm : Aside (l.length = m) := hm
      have hr4 := hb4.range
      clear hlen hgi hgs kE hG4 hW4 hl
      go_wp2_with (first | (refine wpList_load_row rfl _ rfl _ rfl cs1 hr4 hund rfl hsz1 ?_) | fail)
      refine kE'.mono ?_
      rintro e W5 ⟨a, cap, rfl, hO, hmc, hac, hby, hB5⟩
      have hB05 := Below.then hB04 hB5
      have hO5 := hO.below (Below.refl _ _)
      clear kE' hB04 hB5 hb4 hl4 z0 z6 z11 hr4 hsz1 hO5
      go_wp2_with fail
      go_loopw [6] (fun t6 wr => ∃ k : Nat, k ≤ m ∧ t6 = .int .i64 (k : Int) ∧ BytesAt wr a m l ∧ Below w.heap.size w wr) (fun t6 _ => m - (Go.RowKit.intOf t6).toNat)
      case atStart => exact ⟨0, by omega, rfl, hby, hB05⟩
      case round =>
        obtain ⟨k, hk, rfl, hbr, hBr⟩ := hrel
        clear hby hB05
        by_cases hkm : k < m
        · have hk1 : (k : Int) < (m : Int) := by omega
          have hne : a ≠ none := fun q => by
            obtain ⟨y, hy, _⟩ := hbr.2 0 (by omega)
            rw [q] at hy
            cases hy
          have hsl := front_slice a m cap k (by omega) hne
          have kN := par_nl a k cap (l.take k) (by omega) (by omega) wr (hbr.front hk)
          have hE := hcut k hkm
          rw [hE] at kN
          clear hne
          go_wp2_with fail
          refine kN.mono ?_
          rintro e W6 ⟨xa, xc, ya, yc, rfl, -, -, hB6⟩
          obtain ⟨cs2, hcs2⟩ : ∃ cs2, nl (nodP (l.take k)) (.slice xa (nodP (l.take k)).acl.length xc) (.slice ya (nodP (l.take k)).words.length yc) = cs2 := ⟨_, rfl⟩
          have hone := nl_one (nodP (l.take k)) xa ya (nodP (l.take k)).acl.length xc (nodP (l.take k)).words.length yc
          have hsz2 := nl_sz (nodP (l.take k)) (.slice xa (nodP (l.take k)).acl.length xc) (.slice ya (nodP (l.take k)).words.length yc)
          have h16 : cs2.length = 16 := by rw [← hcs2]; rfl
          simp only [hcs2] at hone hsz2 ⊢
          clear hcs2
          have hth := blk_zero W6 cs2 h16
          have hBa := alloc_below W6 (.cells nzero.toArray 29)
          have hB7 : Below W6.heap.size W6 ((W6.alloc (.cells nzero.toArray 29)).setCells W6.heap.size 0 cs2) := Below.cells (Nat.le_refl _) cs2 0 hBa
          obtain ⟨W7, hW7⟩ : ∃ W7, (W6.alloc (.cells nzero.toArray 29)).setCells W6.heap.size 0 cs2 = W7 := ⟨_, rfl⟩
          rw [hW7] at hB7
          have hb7 := (hbr.below hB6).below hB7
          have hBf := Below.then (Below.then hBr hB6) hB7
          clear hBa hbr hBr hB6 hB7 kN hE
          go_wp2_with (first | (refine wpList_store_row rfl _ _ rfl _ rfl cs2 rfl hth hsz2 hone hW7 ?_) | fail)
          exact ⟨⟨k + 1, by omega, by simp, hb7, hBf⟩, by simp [Go.RowKit.intOf]; omega⟩
        · obtain rfl : k = m := by omega
          have hk0 : 0 < k := by
            have := nod_back P hPl
            have h9 : k ≠ 0 := fun q => by
              have := hm.out
              rw [q] at this
              have hl0 : l = [] := List.eq_nil_of_length_eq_zero this
              have := hmore
              rw [hl0] at this
              exact absurd this (by decide +kernel)
            omega
          obtain ⟨y, rfl, -⟩ := hbr.2 0 hk0
          have hBa := alloc_below wr (.cells #[] 5)
          have hO0 := own_empty wr
          obtain ⟨v1, V1, hap1, hO1, hG1⟩ := append_at (wr.alloc (.cells #[] 5)) wr.heap.size _ [] y k cap l (hbr.below hBa) hO0 (by simp) (by simp) (by omega)
          rw [List.nil_append] at hO1
          have hB1 : Below wr.heap.size wr V1 := hBa.trans (hG1.ownB hO0 (by simp))
          obtain ⟨v2, V2, hap2, hO2, hG2⟩ := append_made V1 wr.heap.size v1 l [0] #[.int .u8 0] rfl hO1 hB1.size (by rw [hm.out]; exact hlb) (by simp)
          have hB2 : Below wr.heap.size wr V2 := hB1.trans (hG2.ownB hO1 hB1.size)
          rw [show ([0] : List UInt8).length = 1 from rfl] at hap2
          obtain ⟨a2, cap2, rfl, hl2, -, hby2⟩ := hO2.long
          have hll : (l ++ [0]).length = k + 1 := by rw [List.length_append, hm.out]; rfl
          have kN := par_nl a2 (l ++ [0]).length cap2 (l ++ [0]) (by omega) hl2 V2 hby2
          rw [hmore] at kN
          rw [hll] at kN hap2
          clear hO0 hO1 hO2 hG1 hG2 hby2 hl2 hll hmore hcut
          go_wp2_with (first | (refine wpList_append_u8 rfl _ _ rfl rfl rfl rfl hap1 ?_) | (refine wpList_append_u8 rfl _ _ rfl rfl rfl rfl hap2 ?_) | fail)
          refine kN.mono ?_
          rintro e W6 ⟨xa, xc, ya, yc, rfl, -, -, hB6⟩
          obtain ⟨Q, hQ⟩ : ∃ Q, nodP (l ++ [0]) = Q := ⟨_, rfl⟩
          simp only [hQ]
          obtain ⟨cs2, hcs2⟩ : ∃ cs2, nl Q (.slice xa Q.acl.length xc) (.slice ya Q.words.length yc) = cs2 := ⟨_, rfl⟩
          have hone := nl_one Q xa ya Q.acl.length xc Q.words.length yc
          have hsz2 := nl_sz Q (.slice xa Q.acl.length xc) (.slice ya Q.words.length yc)
          have h16 : cs2.length = 16 := by rw [← hcs2]; rfl
          simp only [hcs2] at hone hsz2 ⊢
          clear hcs2 hQ
          have hth := blk_zero W6 cs2 h16
          have hBa := alloc_below W6 (.cells nzero.toArray 29)
          have hB7 : Below W6.heap.size W6 ((W6.alloc (.cells nzero.toArray 29)).setCells W6.heap.size 0 cs2) := Below.cells (Nat.le_refl _) cs2 0 hBa
          obtain ⟨W7, hW7⟩ : ∃ W7, (W6.alloc (.cells nzero.toArray 29)).setCells W6.heap.size 0 cs2 = W7 := ⟨_, rfl⟩
          rw [hW7] at hB7
          have hBf := Below.then (Below.then (Below.then hBr hB2) hB6) hB7
          clear hBa hbr hBr hB6 hB7 kN
          go_wp2_with (first | (refine wpList_store_row rfl _ _ rfl _ rfl cs2 rfl hth hsz2 hone hW7 ?_) | fail)
          go_ret
          exact ⟨rfl, hBf⟩
end Go.Proofs.Ytecleampjeebaaa
