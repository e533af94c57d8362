/-
  HashJoins: the walk.
-/
import Derived.Test.YtplhleggemafbaaHashFns
import Derived.Test.YtplhleggemafbaaHashPure
import Derived.Laws.BitsAllLaws
namespace Go.Proofs.Ytplhleggemafbaa
open Go.RowKit
set_option linter.unusedSimpArgs false
set_option linter.unusedVariables false

/-- The last byte of a row of one's own set anew. -/
theorem OwnB.last {w : World} {base : Nat} {g cap : Nat} {r : List UInt8} {d : UInt8} (h : OwnB w base (.slice (some ⟨g, 0, none⟩) (r.length + 1) cap) (r ++ [d])) : w.cell? ⟨g, r.length, none⟩ = some (.int .u8 (d.toNat : Int)) ∧ w.frozen? ⟨g, r.length, none⟩ = false ∧ base ≤ g ∧
    ∀ d' : UInt8, OwnB (w.setCell ⟨g, r.length, none⟩ (.int .u8 (d'.toNat : Int))) base (.slice (some ⟨g, 0, none⟩) (r.length + 1) cap) (r ++ [d']) ∧ Below base w (w.setCell ⟨g, r.length, none⟩ (.int .u8 (d'.toNat : Int))) := by
  have hl : (r ++ [d]).length = r.length + 1 := by simp
  have hrow : w.ownsRow base 5 1 (.slice (some ⟨g, 0, none⟩) (r.length + 1) cap) (r.length + 1) (valsB (r ++ [d])) := by
    have h' : w.ownsRow base 5 1 (.slice (some ⟨g, 0, none⟩) (r.length + 1) cap) (r ++ [d]).length (valsB (r ++ [d])) := h
    rw [hl] at h'
    exact h'
  refine ⟨?_, hrow.frozenAt _, (hrow.lt g rfl).1, fun d' => ?_⟩
  · rw [hrow.cellAt r.length (by omega)]
    simp [valsB]
  · obtain ⟨h1, h2⟩ := hrow.stored r.length (.int .u8 (d'.toNat : Int))
    refine ⟨?_, (Below.refl base w).grown h2 (by have := (hrow.lt g rfl); omega) (fun k hk => by injection hk with hk; subst hk; exact (hrow.lt _ rfl).1)⟩
    unfold OwnB
    have hl' : (r ++ [d']).length = r.length + 1 := by simp
    have hv : (valsB (r ++ [d])).set r.length (.int .u8 (d'.toNat : Int)) = valsB (r ++ [d']) := by simp [valsB]
    rw [hl', ← hv]
    exact h1
theorem ownB_made (w : World) (base : Nat) (hb : base ≤ w.heap.size) : OwnB (w.alloc (.cells #[] 5)) base (.slice (some ⟨w.heap.size, 0, none⟩) 0 0) [] :=
  World.ownsRow_lit w #[] 0 hb (by decide) rfl

set_option maxRecDepth 4000 in
set_option maxHeartbeats 2000000 in
theorem hashJoins_walk (h : Nat) (hh : h < 18446744073709551616) (a b : Option Addr) (la lb : List UInt8) (na ca nb cb : Nat) (c : Nat) (hc : c < 256) (w : World) (hA : BytesAt w a na la) (hB : BytesAt w b nb lb)
    (za : a = none → ca = 0) (zb : b = none → cb = 0) (nca : na ≤ ca) (ncb : nb ≤ cb) (ha : na ≤ 140737488355328) (hb : nb ≤ 140737488355328) :
    Calls Try.prog 4 #[.int .u64 (h : Int), .slice a na ca, .slice b nb cb, .int .u8 (c : Int)] w fun e w' => e = .returned (.bool true) ∧ Below w.heap.size w w' := by
  have cK := hknown_any w
  by_cases h5 : 5000 < na + nb
  · have s5 : (5000 : Int) < (na : Int) + (nb : Int) := by omega
    go_enter Try.func4, Try.ntmps4
    go_wp2_with fail
    refine (cK).mono ?_
    rintro e w1 ⟨rfl, hB1⟩
    go_wp2_with fail
    go_ret
    exact ⟨rfl, hB1⟩
  · have s5 : ¬ (5000 : Int) < (na : Int) + (nb : Int) := by omega
    have hla := hA.1
    have hlb := hB.1
    have c1 := fun W hW => chain_any a la na ca h (by omega) hh W hW
    have c2 := fun W hW => chain_any b lb nb cb (chain h la) (by omega) (chain_lt hh la) W hW
    have c4 := fun W => chain_any none [] 0 0 h (by omega) hh W ⟨rfl, fun j hj => by omega⟩
    rw [← chain_append] at c2
    rw [chain_nil] at c4
    obtain ⟨lc, hlc⟩ : ∃ lc, la ++ lb = lc := ⟨_, rfl⟩
    have hln : lc.length = na + nb := by rw [← hlc, List.length_append, hla, hlb]
    obtain ⟨nc, hnc⟩ : ∃ nc, lc.length = nc := ⟨_, rfl⟩
    have hnb : nc ≤ 5000 := by omega
    have c3 := fun p k W (hW : BytesAt W p nc lc) => chain_any p lc nc k h (by omega) hh W hW
    have hnc : Aside (lc.length = nc) := hnc
    clear hln
    rw [hlc] at c2
    obtain ⟨g1, hg1⟩ : ∃ g, chain h la = g := ⟨_, rfl⟩
    obtain ⟨g2, hg2⟩ : ∃ g, chain h lc = g := ⟨_, rfl⟩
    rw [hg1] at c1 c2
    rw [hg2] at c2
    simp only [hg2] at c3
    go_enter Try.func4, Try.ntmps4
    go_wp2_with fail
    refine (cK).mono ?_
    rintro e w1 ⟨rfl, hB1⟩
    have hBm : Below w.heap.size w (w1.alloc (.cells #[] 5)) := hB1.alloc hB1.size _
    obtain ⟨v2, w2, hap1, ho2, hB2⟩ := append_bytes_any (w1.alloc (.cells #[] 5)) w.heap.size (.slice (some ⟨w1.heap.size, 0, none⟩) 0 0) [] a na ca la (hA.below hBm) za nca (ownB_made w1 _ hB1.size) hBm.size (by simp) (by omega)
    have hB3 := hBm.trans hB2
    rw [List.nil_append] at ho2
    obtain ⟨v3, w3, hap2, ho3, hB4⟩ := append_bytes_any w2 w.heap.size v2 la b nb cb lb (hB.below hB3) zb ncb ho2 hB3.size (by omega) (by omega)
    have hB5 := hB3.trans hB4
    rw [hlc] at ho3
    have hA3 := hA.below hB5
    have hB3' := hB.below hB5
    clear ho2 hB2 hB3 hB4 hBm hB1 hA hB cK
    have hg2' : Aside (chain h lc = g2) := hg2
    obtain ⟨ac, capc, rfl, hbc⟩ := ho3.slice
    rw [hnc.out] at hbc hap2 ho3
    go_wp2_with (first | (refine wpList_append_u8 rfl _ _ rfl rfl rfl rfl hap1 ?_) | (refine wpList_append_u8 rfl _ _ rfl rfl rfl rfl hap2 ?_) | fail)
    refine (c1 _ hA3).mono ?_
    rintro e w4 ⟨rfl, hB6⟩
    go_wp2_with fail
    refine (c2 _ (hB3'.below hB6)).mono ?_
    rintro e w5 ⟨rfl, hB7⟩
    have hB8 := Below.then hB6 hB7
    go_wp2_with fail
    refine (c3 _ _ _ (hbc.below hB8)).mono ?_
    rintro e w6 ⟨rfl, hB9⟩
    have hB10 := Below.then hB8 hB9
    go_wp2_with fail
    refine (c4 _).mono ?_
    rintro e w7 ⟨rfl, hB11⟩
    have hB12 := Below.then hB10 hB11
    have hB13 := Below.then hB5 hB12
    have ho7 := ho3.below hB12
    clear hap1 hap2 c1 c2 c4 hA3 hB3' hB6 hB7 hB8 hB9 hB10 hB11 hbc hg2 hg1 s5 h5
    rcases List.eq_nil_or_concat lc with hnil | ⟨r, d, hcat⟩
    · obtain rfl : nc = 0 := by rw [← hnc.out, hnil]; rfl
      clear hnil hlc
      as_aux_lemma =>
        go_wp2_with fail
        go_ret
        exact ⟨rfl, hB13⟩
    · rw [List.concat_eq_append] at hcat
      obtain rfl : nc = r.length + 1 := by rw [← hnc.out, hcat]; simp
      by_cases h0 : c = 0
      · subst h0
        have l0 : ¬ (r.length : Int) + 1 = 0 := by omega
        clear hcat hlc
        as_aux_lemma =>
          go_wp2_with fail
          go_ret
          exact ⟨rfl, hB13⟩
      · have l2 : ((c : Int) == 0) = false := by simp; omega
        have l0 : ¬ (r.length : Int) + 1 = 0 := by omega
        obtain ⟨p, k, hpk, hb7⟩ := ho7.slice
        rw [hnc.out] at hpk hb7
        injection hpk with e1 _ e3
        subst e1 e3
        have c5 := c3 _ capc w7 hb7
        rw [hcat] at ho7
        have hne : ∃ d' : UInt8, (d'.toNat : Int) = bits .xor .u8 (d.toNat : Int) (c : Int) ∧ d' ≠ d := by
          refine ⟨UInt8.ofNat (d.toNat ^^^ c), ?_, ?_⟩
          · have hx : d.toNat ^^^ c < 256 := Nat.xor_lt_two_pow (n := 8) d.toNat_lt hc
            rw [u8_xor_nat _ _ d.toNat_lt hc, UInt8.toNat_ofNat', Nat.mod_eq_of_lt hx]
          · intro e
            have hx : d.toNat ^^^ c < 256 := Nat.xor_lt_two_pow (n := 8) d.toNat_lt hc
            have e2 := congrArg UInt8.toNat e
            rw [UInt8.toNat_ofNat', Nat.mod_eq_of_lt hx] at e2
            have e3 : d.toNat ^^^ (d.toNat ^^^ c) = d.toNat ^^^ d.toNat := by rw [e2]
            rw [← Nat.xor_assoc, Nat.xor_self, Nat.zero_xor] at e3
            exact h0 e3
        obtain ⟨d', hd', hne'⟩ := hne
        have hrow : ∃ g, ac = some ⟨g, 0, none⟩ := by
          rcases ho7.2 with ⟨h1, _⟩ | ⟨g, cap', cur, h1, _⟩
          · injection h1 with h1 h2 h3
            omega
          · injection h1 with h1 _ _
            exact ⟨g, h1⟩
        obtain ⟨g, rfl⟩ := hrow
        have hch : chain h (r ++ [d']) ≠ g2 := by
          rw [← hg2'.out, hcat]
          exact chain_last hh r hne'
        have hl7 := fun W => OwnB.last (w := W) (base := w.heap.size) (g := g) (cap := capc) (r := r) (d := d)
        have c6 := fun W (hW : BytesAt W (some ⟨g, 0, none⟩) (r.length + 1) (r ++ [d'])) => chain_any (some ⟨g, 0, none⟩) (r ++ [d']) (r.length + 1) capc h (by omega) hh W hW
        obtain ⟨g3, hg3⟩ : ∃ g3, chain h (r ++ [d']) = g3 := ⟨_, rfl⟩
        rw [hg3] at hch
        simp only [hg3] at c6
        have hchb : ((g3 : Int) != (g2 : Int)) = true := by simp; omega
        clear hg3 hch hcat hg2' hnc hlc c3 hb7
        go_wp2_with fail
        refine (c5).mono ?_
        rintro e w8 ⟨rfl, hB14⟩
        have ho8 := ho7.below hB14
        obtain ⟨hcell, hfrz, hbg, hset⟩ := hl7 _ ho8
        obtain ⟨hoN, hBN⟩ := hset d'
        obtain ⟨p, k, hpk, hbN⟩ := hoN.slice
        have hbN' : BytesAt (w8.setCell ⟨g, r.length, none⟩ (.int .u8 (d'.toNat : Int))) (some ⟨g, 0, none⟩) (r.length + 1) (r ++ [d']) := by
          rw [show (r ++ [d']).length = r.length + 1 by simp] at hpk hbN
          injection hpk with e1 _ _
          rw [e1]
          exact hbN
        rw [hd'] at hbN' hBN
        have c6' := c6 _ hbN'
        have hB15 := (Below.then hB13 hB14).trans hBN
        clear hset hoN hpk hbN hl7 ho7 ho8 c6 hbN' hd' hne'
        go_wp2_with fail
        refine (c6').mono ?_
        rintro e w9 ⟨rfl, hB16⟩
        go_wp2_with fail
        go_ret
        exact ⟨by simp, Below.then hB15 hB16⟩
end Go.Proofs.Ytplhleggemafbaa
