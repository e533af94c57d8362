/-
  AclPlays: the walk.
-/
import Derived.Test.YtbbmeclngopbmaaAclLaw
import Derived.Test.YtbbmeclngopbmaaAclRefSet
import Derived.Test.YtbbmeclngopbmaaAclOthersWalk
import Derived.Test.YtbbmeclngopbmaaAclSame
namespace Go.Proofs.Ytbbmeclngopbmaa
open Go.RowKit
set_option linter.unusedSimpArgs false

set_option maxRecDepth 20000 in
set_option maxHeartbeats 16000000 in
theorem plays_walk (ac : Option Addr) (cc : Nat) (C : List Gr) (w : World) (hC : GAt w ac C) :
    Calls Try.prog 4 #[.slice ac C.length cc] w fun e w' => e = .returned (.bool true) ∧ Below w.heap.size w w' := by
  obtain ⟨nc, hnc⟩ : ∃ n, C.length = n := ⟨_, rfl⟩
  rw [hnc]
  go_enter Try.func4, Try.ntmps4
  go_wp2_with fail
  refine (known_any _).mono ?_
  rintro e w1 ⟨rfl, hB1⟩
  go_wp2_with fail
  go_loopw [3, 4] (fun t3 t4 wr => ∃ (i n cap : Nat) (al : Option Addr) (l : List Gr), i ≤ 60 ∧ i ≤ nc ∧ t4 = .int .i64 (i : Int) ∧ t3 = .slice al n cap ∧ l.length = n ∧ n ≤ cap ∧ GAt wr al l ∧ Good l ∧ Below w.heap.size w wr) (fun _ t4 _ => 60 - (Go.RowKit.intOf t4).toNat)
  case atStart => exact ⟨0, 0, 0, none, [], by omega, by omega, rfl, rfl, rfl, Nat.le_refl _, gat_nil _ _, ⟨by simp, List.Pairwise.nil, by simp⟩, hB1⟩
  case round =>
    obtain ⟨i, n, cap, al, l, hi, hic, rfl, rfl, hln, hcap, hG, hgd, hB⟩ := hrel
    clear hB1
    have hn4 : n ≤ 4 := by have := hgd.len; omega
    by_cases h60 : i < 60
    · by_cases hlt : i < nc
      · obtain ⟨g, hg⟩ : ∃ g, C[i]? = some g := ⟨_, List.getElem?_eq_getElem (by omega)⟩
        obtain ⟨x, rfl, c0, c1⟩ := (hC.below hB) _ _ hg
        have hBa := alloc_below wr (.cells #[.string g.u, .int .i64 g.m] 32)
        by_cases h200 : 200 < g.u.size
        · have hG0 := hG.below hBa
          have hB0 := Below.then hB hBa
          as_aux_lemma =>
            go_wp2_with fail
            exact ⟨⟨i + 1, n, cap, al, l, by omega, by omega, by simp, rfl, hln, hcap, hG0, hgd, hB0⟩, by simp [Go.RowKit.intOf]; omega⟩
        · have hbx : ∀ W, Below (wr.alloc (.cells #[.string g.u, .int .i64 g.m] 32)).heap.size (wr.alloc (.cells #[.string g.u, .int .i64 g.m] 32)) W → W.cell? ⟨wr.heap.size, 0, none⟩ = some (.string g.u) ∧ W.cell? ⟨wr.heap.size, 1, none⟩ = some (.int .i64 g.m) := fun W h => ⟨(h.cell (p := ⟨wr.heap.size, 0, none⟩) (by simp)).trans (by simp [World.cell?_alloc_at]), (h.cell (p := ⟨wr.heap.size, 1, none⟩) (by simp)).trans (by simp [World.cell?_alloc_at])⟩
          obtain ⟨W0, hW0⟩ : ∃ W0, wr.alloc (.cells #[.string g.u, .int .i64 g.m] 32) = W0 := ⟨_, rfl⟩
          have hs0 : W0.heap.size = wr.heap.size + 1 := by rw [← hW0]; simp
          rw [hW0] at hbx hBa
          have hG0 := hG.below hBa
          have hown : Own (W0.alloc (.cells #[] 40)) W0.heap.size (.slice (some ⟨W0.heap.size, 0, none⟩) 0 0) [] := World.ownsRow_made W0 #[] 0 (Nat.le_refl _) (by simp [maxLen]) rfl
          have hBe := alloc_below W0 (.cells #[] 40)
          obtain ⟨v', W2, hap, ho2, hB2, _⟩ := append_gr (W0.alloc (.cells #[] 40)) W0.heap.size _ [] hown al l cap n hln (hG0.below hBe) hBe.size (by simp; omega)
          simp only [List.nil_append] at ho2
          have hB02 := hBe.trans hB2
          obtain ⟨aw, cw, rfl, hGw, hcw⟩ := ho2.gat
          rw [hln] at hap
          rw [hs0] at hap
          have hset := set_good W2 al cap n l g.u g.m hgd (hG0.below hB02) hln hcap
          obtain ⟨b0, b1⟩ := hbx _ hB02
          have hB2w := Below.then (Below.then hB hBa) hB02
          have hG2 := hG0.below hB02
          obtain ⟨z0, z1⟩ := hbx _ (Below.refl _ _)
          clear hown hBe hB2 hG hB ho2
          go_wp2_with (first
            | (refine wpList_append_gr rfl _ _ rfl rfl rfl rfl hap ?_)
            | fail)
          refine hset.mono ?_
          rintro e w3 ⟨a7, n7, c7, E, L, rfl, hLn, hLc, hGL, hof, hB3⟩
          obtain ⟨A, M, B, p, hE, hL⟩ := id hof
          have hr := rset_any w3 aw cw l A M B g.u g.m p (hGw.below hB3) (by omega) (by omega)
          rw [hE, hL, hln] at hr
          obtain ⟨b2, b3⟩ := hbx _ (Below.then hB02 hB3)
          clear hset hap
          go_wp2_with fail
          refine hr.mono ?_
          rintro e w4 ⟨v9, rfl, ⟨a9, c9, rfl, hG9⟩, hB4⟩
          rw [hLn]
          go_wp2_with fail
          have hn7 : n7 ≤ 1000 := by
            by_cases h0 : E = 0
            · subst h0
              have := (hof.good hgd).len
              omega
            · rw [← hL] at hLn
              unfold setL at hLn
              rw [hE, if_neg h0] at hLn
              simp at hLn
              omega
          refine (same_any w4 a7 a9 c7 c9 n7 L hLn (hGL.below hB4) hG9 hn7).mono ?_
          rintro e w5 ⟨rfl, hB5⟩
          go_wp2_with fail
          refine (same_any w5 al aw cap cw n l hln (((hG2.below hB3).below hB4).below hB5) (((hGw.below hB3).below hB4).below hB5) (by omega)).mono ?_
          rintro e w6 ⟨rfl, hB6⟩
          have hB26 := Below.then (Below.then (Below.then (Below.then hB2w hB3) hB4) hB5) hB6
          by_cases h0 : E = 0
          · subst h0
            have hgL := hof.good hgd
            have ck := check_any w6 a7 c7 L (((hGL.below hB4).below hB5).below hB6)
            rw [hLn, chk_good.2 hgL] at ck
            as_aux_lemma =>
              go_wp2_with fail
              refine ck.mono ?_
              rintro e w7 ⟨rfl, hB7⟩
              go_wp2_with fail
              exact ⟨⟨i + 1, n7, c7, a7, L, by omega, by omega, by simp, rfl, hLn, hLc, (((hGL.below hB4).below hB5).below hB6).below hB7, hgL, Below.then hB26 hB7⟩, by simp [Go.RowKit.intOf]; omega⟩
          · have ck := check_any w6 al cap l ((((hG2.below hB3).below hB4).below hB5).below hB6)
            rw [hln, chk_good.2 hgd] at ck
            as_aux_lemma =>
              go_wp2_with fail
              refine ck.mono ?_
              rintro e w7 ⟨rfl, hB7⟩
              go_wp2_with fail
              exact ⟨⟨i + 1, n, cap, al, l, by omega, by omega, by simp, rfl, hln, hcap, ((((hG2.below hB3).below hB4).below hB5).below hB6).below hB7, hgd, Below.then hB26 hB7⟩, by simp [Go.RowKit.intOf]; omega⟩
      · as_aux_lemma =>
          go_wp2_with fail
          go_ret
          exact ⟨rfl, hB⟩
    · by_cases hlt : i < nc
      · as_aux_lemma =>
          go_wp2_with fail
          go_ret
          exact ⟨rfl, hB⟩
      · as_aux_lemma =>
          go_wp2_with fail
          go_ret
          exact ⟨rfl, hB⟩
end Go.Proofs.Ytbbmeclngopbmaa
