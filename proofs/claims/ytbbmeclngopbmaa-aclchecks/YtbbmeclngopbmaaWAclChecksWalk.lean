/-
  AclChecks: the walk.
-/
import Derived.Test.YtbbmeclngopbmaaPt2
import Derived.Test.YtbbmeclngopbmaaPt3
namespace Go.Proofs.Ytbbmeclngopbmaa
open Go.RowKit
set_option maxRecDepth 8000
set_option linter.unusedSimpArgs false

/-- Texts that came in. -/
def StrsAt (w : World) (a : Option Addr) (n : Nat) : Prop := ∀ i, i < n → ∃ x u, a = some x ∧ w.cell? (x.add i) = some (.string u)
theorem StrsAt.below {w w' : World} {a : Option Addr} {n : Nat} (h : StrsAt w a n) (b : Below w.heap.size w w') : StrsAt w' a n := by
  intro i hi
  obtain ⟨x, u, hx, h1⟩ := h i hi
  exact ⟨x, u, hx, (b.cell (World.block_lt_of_cell? _ _ h1)).trans h1⟩

set_option maxRecDepth 20000 in
set_option maxHeartbeats 8000000 in
theorem checks_walk (a b : Option Addr) (c1 n2 c2 : Nat) (l : List Gr) (w : World) (hG : GAt w a l) (hu : ∀ g ∈ l, g.u.size ≤ 9223372036854775807) (hS : StrsAt w b n2) :
    Calls Try.prog 3 #[.slice a l.length c1, .slice b n2 c2] w fun e w' => e = .returned (.bool true) ∧ Below w.heap.size w w' := by
  obtain ⟨n1, hn⟩ : ∃ n, l.length = n := ⟨_, rfl⟩
  rw [hn]
  by_cases h1 : 20 < n1
  · go_enter Try.func3, Try.ntmps3
    go_wp2_with fail
    refine (known_any _).mono ?_
    rintro e w1 ⟨rfl, hB1⟩
    go_wp2_with fail
    go_ret
    exact ⟨rfl, hB1⟩
  by_cases h2 : 20 < n2
  · go_enter Try.func3, Try.ntmps3
    go_wp2_with fail
    refine (known_any _).mono ?_
    rintro e w1 ⟨rfl, hB1⟩
    go_wp2_with fail
    go_ret
    exact ⟨rfl, hB1⟩
  have hc := fun W (hB : Below w.heap.size w W) => check_any W a c1 l (hG.below hB)
  have hr := fun W (hB : Below w.heap.size w W) => rcheck_any W a c1 l (hG.below hB) hu
  have hgood := @chk_good l
  rw [hn] at hc hr
  generalize chk l = r at hc hr hgood
  by_cases h0 : r = 0
  · have hs := hgood.1 h0
    clear hgood
    subst h0
    have hm := fun W (hB : Below w.heap.size w W) u => modes_any W a c1 l u hs.ord (hG.below hB) (by omega)
    have hrm := fun W (hB : Below w.heap.size w W) u => rmodes_any W a c1 l u hs.ord (hG.below hB) (by omega)
    rw [hn] at hm hrm
    go_enter Try.func3, Try.ntmps3
    go_wp2_with fail
    refine (known_any _).mono ?_
    rintro e w1 ⟨rfl, hB1⟩
    go_wp2_with fail
    refine (hc _ hB1).mono ?_
    rintro e w2 ⟨rfl, hB2⟩
    go_wp2_with fail
    refine (hr _ (Below.then hB1 hB2)).mono ?_
    rintro e w3 ⟨rfl, hB3⟩
    go_wp2_with fail
    refine (hr _ (Below.then (Below.then hB1 hB2) hB3)).mono ?_
    rintro e w4 ⟨rfl, hB4⟩
    go_wp2_with fail
    have hBw := Below.then (Below.then (Below.then hB1 hB2) hB3) hB4
    clear hc hr hB1 hB2 hB3 hB4
    go_loopw [5] (fun t wr => ∃ i : Nat, i ≤ n2 ∧ t = .int .i64 (i : Int) ∧ Below w.heap.size w wr) (fun t _ => n2 - (Go.RowKit.intOf t).toNat)
    case atStart => exact ⟨0, by omega, rfl, hBw⟩
    case round =>
      obtain ⟨i, hi, rfl, hB⟩ := hrel
      clear hBw
      by_cases hlt : i < n2
      · obtain ⟨x, u, rfl, c0⟩ := hS i hlt
        have hl : ∀ W, Below w.heap.size w W → W.cell? (x.add i) = some (.string u) := fun W h => (h.cell (World.block_lt_of_cell? _ _ c0)).trans c0
        have hS0 : (fun W => Below w.heap.size w W ∧ W.cell? (x.add i) = some (.string u)) wr := ⟨hB, hl _ hB⟩
        have hS0d : (fun W => Below w.heap.size w W ∧ W.cell? (x.add i) = some (.string u)) wr.drew := ⟨hB.drew, hl _ hB.drew⟩
        obtain ⟨md, hmd⟩ : ∃ md, modesL l u = md := ⟨_, rfl⟩
        have hm1 := fun W hB => hm W hB u
        have hm2 := fun W hB => hrm W hB u
        rw [hmd] at hm1 hm2
        clear hm hrm c0
        by_cases hsz : u.size < 200
        · have d0 : decide ((u.size : Int) < 200) = true := by simp; omega
          go_wp2_with fail
          refine wp_region_held_drew (S := (fun W => Below w.heap.size w W ∧ W.cell? (x.add i) = some (.string u))) (by kernel_rfl) (by first | exact hS0 | exact hS0d | exact hS1) ?_
          intro hHeld
          (first | (refine wpAnyH_take (i := 0) (v := ?_) (by simp only [gA, gB, gC]; rfl) (by kernel_rfl) (by kernel_rfl) (by kernel_rfl) (by exact fun _ _ _ h => h) (Or.inl ⟨by rfl, ?_⟩) (by assumption) ?_; rotate_left; (focus (intro w hSw; (try dsimp only at hSw); go_simp; try with_reducible rfl))) | (refine wpAnyH_take (i := 0) (v := undef) (by simp only [gA, gB, gC]; rfl) (by kernel_rfl) (by kernel_rfl) (by kernel_rfl) (by exact fun _ _ _ h => h) (Or.inr ⟨by rfl, rfl⟩) (by assumption) ?_) | fail); simp only [Act.put, sA, sB, sC, d0, bne_self_eq_false]
          (first | (refine wpAnyH_take (i := 1) (v := ?_) (by simp only [gA, gB, gC]; rfl) (by kernel_rfl) (by kernel_rfl) (by kernel_rfl) (by exact fun _ _ _ h => h) (Or.inl ⟨by rfl, ?_⟩) (by assumption) ?_; rotate_left; (focus (intro w hSw; (try dsimp only at hSw); go_simp; try with_reducible rfl))) | (refine wpAnyH_take (i := 1) (v := undef) (by simp only [gA, gB, gC]; rfl) (by kernel_rfl) (by kernel_rfl) (by kernel_rfl) (by exact fun _ _ _ h => h) (Or.inr ⟨by rfl, rfl⟩) (by assumption) ?_) | fail); simp only [Act.put, sA, sB, sC, d0, bne_self_eq_false]
          (first | (refine wpAnyH_take (i := 2) (v := ?_) (by simp only [gA, gB, gC]; rfl) (by kernel_rfl) (by kernel_rfl) (by kernel_rfl) (by exact fun _ _ _ h => h) (Or.inl ⟨by rfl, ?_⟩) (by assumption) ?_; rotate_left; (focus (intro w hSw; (try dsimp only at hSw); go_simp; try with_reducible rfl))) | (refine wpAnyH_take (i := 2) (v := undef) (by simp only [gA, gB, gC]; rfl) (by kernel_rfl) (by kernel_rfl) (by kernel_rfl) (by exact fun _ _ _ h => h) (Or.inr ⟨by rfl, rfl⟩) (by assumption) ?_) | fail); simp only [Act.put, sA, sB, sC, d0, bne_self_eq_false]
          (first | (refine wpAnyH_take (i := 3) (v := ?_) (by simp only [gA, gB, gC]; rfl) (by kernel_rfl) (by kernel_rfl) (by kernel_rfl) (by exact fun _ _ _ h => h) (Or.inl ⟨by rfl, ?_⟩) (by assumption) ?_; rotate_left; (focus (intro w hSw; (try dsimp only at hSw); go_simp; try with_reducible rfl))) | (refine wpAnyH_take (i := 3) (v := undef) (by simp only [gA, gB, gC]; rfl) (by kernel_rfl) (by kernel_rfl) (by kernel_rfl) (by exact fun _ _ _ h => h) (Or.inr ⟨by rfl, rfl⟩) (by assumption) ?_) | fail); simp only [Act.put, sA, sB, sC, d0, bne_self_eq_false]
          (first | (refine wpAnyH_take (i := 4) (v := ?_) (by simp only [gA, gB, gC]; rfl) (by kernel_rfl) (by kernel_rfl) (by kernel_rfl) (by exact fun _ _ _ h => h) (Or.inl ⟨by rfl, ?_⟩) (by assumption) ?_; rotate_left; (focus (intro w hSw; (try dsimp only at hSw); go_simp; try with_reducible rfl))) | (refine wpAnyH_take (i := 4) (v := undef) (by simp only [gA, gB, gC]; rfl) (by kernel_rfl) (by kernel_rfl) (by kernel_rfl) (by exact fun _ _ _ h => h) (Or.inr ⟨by rfl, rfl⟩) (by assumption) ?_) | fail); simp only [Act.put, sA, sB, sC, d0, bne_self_eq_false]
          (first | (refine wpAnyH_take (i := 5) (v := ?_) (by simp only [gA, gB, gC]; rfl) (by kernel_rfl) (by kernel_rfl) (by kernel_rfl) (by exact fun _ _ _ h => h) (Or.inl ⟨by rfl, ?_⟩) (by assumption) ?_; rotate_left; (focus (intro w hSw; (try dsimp only at hSw); go_simp; try with_reducible rfl))) | (refine wpAnyH_take (i := 5) (v := undef) (by simp only [gA, gB, gC]; rfl) (by kernel_rfl) (by kernel_rfl) (by kernel_rfl) (by exact fun _ _ _ h => h) (Or.inr ⟨by rfl, rfl⟩) (by assumption) ?_) | fail); simp only [Act.put, sA, sB, sC, d0, bne_self_eq_false]
          (first | (refine wpAnyH_take (i := 6) (v := ?_) (by simp only [gA, gB, gC]; rfl) (by kernel_rfl) (by kernel_rfl) (by kernel_rfl) (by exact fun _ _ _ h => h) (Or.inl ⟨by rfl, ?_⟩) (by assumption) ?_; rotate_left; (focus (intro w hSw; (try dsimp only at hSw); go_simp; try with_reducible rfl))) | (refine wpAnyH_take (i := 6) (v := undef) (by simp only [gA, gB, gC]; rfl) (by kernel_rfl) (by kernel_rfl) (by kernel_rfl) (by exact fun _ _ _ h => h) (Or.inr ⟨by rfl, rfl⟩) (by assumption) ?_) | fail); simp only [Act.put, sA, sB, sC, d0, bne_self_eq_false]
          (first | (refine wpAnyH_take (i := 7) (v := ?_) (by simp only [gA, gB, gC]; rfl) (by kernel_rfl) (by kernel_rfl) (by kernel_rfl) (by exact fun _ _ _ h => h) (Or.inl ⟨by rfl, ?_⟩) (by assumption) ?_; rotate_left; (focus (intro w hSw; (try dsimp only at hSw); go_simp; try with_reducible rfl))) | (refine wpAnyH_take (i := 7) (v := undef) (by simp only [gA, gB, gC]; rfl) (by kernel_rfl) (by kernel_rfl) (by kernel_rfl) (by exact fun _ _ _ h => h) (Or.inr ⟨by rfl, rfl⟩) (by assumption) ?_) | fail); simp only [Act.put, sA, sB, sC, d0, bne_self_eq_false]
          (first | (refine wpAnyH_take (i := 8) (v := ?_) (by simp only [gA, gB, gC]; rfl) (by kernel_rfl) (by kernel_rfl) (by kernel_rfl) (by exact fun _ _ _ h => h) (Or.inl ⟨by rfl, ?_⟩) (by assumption) ?_; rotate_left; (focus (intro w hSw; (try dsimp only at hSw); go_simp; try with_reducible rfl))) | (refine wpAnyH_take (i := 8) (v := undef) (by simp only [gA, gB, gC]; rfl) (by kernel_rfl) (by kernel_rfl) (by kernel_rfl) (by exact fun _ _ _ h => h) (Or.inr ⟨by rfl, rfl⟩) (by assumption) ?_) | fail); simp only [Act.put, sA, sB, sC, d0, bne_self_eq_false]
          (first | (refine wpAnyH_take (i := 9) (v := ?_) (by simp only [gA, gB, gC]; rfl) (by kernel_rfl) (by kernel_rfl) (by kernel_rfl) (by exact fun _ _ _ h => h) (Or.inl ⟨by rfl, ?_⟩) (by assumption) ?_; rotate_left; (focus (intro w hSw; (try dsimp only at hSw); go_simp; try with_reducible rfl))) | (refine wpAnyH_take (i := 9) (v := undef) (by simp only [gA, gB, gC]; rfl) (by kernel_rfl) (by kernel_rfl) (by kernel_rfl) (by exact fun _ _ _ h => h) (Or.inr ⟨by rfl, rfl⟩) (by assumption) ?_) | fail); simp only [Act.put, sA, sB, sC, d0, bne_self_eq_false]
          (first | (refine wpAnyH_take (i := 10) (v := ?_) (by simp only [gA, gB, gC]; rfl) (by kernel_rfl) (by kernel_rfl) (by kernel_rfl) (by exact fun _ _ _ h => h) (Or.inl ⟨by rfl, ?_⟩) (by assumption) ?_; rotate_left; (focus (intro w hSw; (try dsimp only at hSw); go_simp; try with_reducible rfl))) | (refine wpAnyH_take (i := 10) (v := undef) (by simp only [gA, gB, gC]; rfl) (by kernel_rfl) (by kernel_rfl) (by kernel_rfl) (by exact fun _ _ _ h => h) (Or.inr ⟨by rfl, rfl⟩) (by assumption) ?_) | fail); simp only [Act.put, sA, sB, sC, d0, bne_self_eq_false]
          (first | (refine wpAnyH_take (i := 11) (v := ?_) (by simp only [gA, gB, gC]; rfl) (by kernel_rfl) (by kernel_rfl) (by kernel_rfl) (by exact fun _ _ _ h => h) (Or.inl ⟨by rfl, ?_⟩) (by assumption) ?_; rotate_left; (focus (intro w hSw; (try dsimp only at hSw); go_simp; try with_reducible rfl))) | (refine wpAnyH_take (i := 11) (v := undef) (by simp only [gA, gB, gC]; rfl) (by kernel_rfl) (by kernel_rfl) (by kernel_rfl) (by exact fun _ _ _ h => h) (Or.inr ⟨by rfl, rfl⟩) (by assumption) ?_) | fail); simp only [Act.put, sA, sB, sC, d0, bne_self_eq_false]
          (first | (refine wpAnyH_take (i := 13) (v := ?_) (by simp only [gA, gB, gC]; rfl) (by kernel_rfl) (by kernel_rfl) (by kernel_rfl) (by exact fun _ _ _ h => h) (Or.inl ⟨by rfl, ?_⟩) (by assumption) ?_; rotate_left; (focus (intro w hSw; (try dsimp only at hSw); go_simp; try with_reducible rfl))) | (refine wpAnyH_take (i := 13) (v := undef) (by simp only [gA, gB, gC]; rfl) (by kernel_rfl) (by kernel_rfl) (by kernel_rfl) (by exact fun _ _ _ h => h) (Or.inr ⟨by rfl, rfl⟩) (by assumption) ?_) | fail); simp only [Act.put, sA, sB, sC, d0, bne_self_eq_false]
          (first | (refine wpAnyH_take (i := 14) (v := ?_) (by simp only [gA, gB, gC]; rfl) (by kernel_rfl) (by kernel_rfl) (by kernel_rfl) (by exact fun _ _ _ h => h) (Or.inl ⟨by rfl, ?_⟩) (by assumption) ?_; rotate_left; (focus (intro w hSw; (try dsimp only at hSw); go_simp; try with_reducible rfl))) | (refine wpAnyH_take (i := 14) (v := undef) (by simp only [gA, gB, gC]; rfl) (by kernel_rfl) (by kernel_rfl) (by kernel_rfl) (by exact fun _ _ _ h => h) (Or.inr ⟨by rfl, rfl⟩) (by assumption) ?_) | fail); simp only [Act.put, sA, sB, sC, d0, bne_self_eq_false]
          (first | (refine wpAnyH_take (i := 15) (v := ?_) (by simp only [gA, gB, gC]; rfl) (by kernel_rfl) (by kernel_rfl) (by kernel_rfl) (by exact fun _ _ _ h => h) (Or.inl ⟨by rfl, ?_⟩) (by assumption) ?_; rotate_left; (focus (intro w hSw; (try dsimp only at hSw); go_simp; try with_reducible rfl))) | (refine wpAnyH_take (i := 15) (v := undef) (by simp only [gA, gB, gC]; rfl) (by kernel_rfl) (by kernel_rfl) (by kernel_rfl) (by exact fun _ _ _ h => h) (Or.inr ⟨by rfl, rfl⟩) (by assumption) ?_) | fail); simp only [Act.put, sA, sB, sC, d0, bne_self_eq_false]
          (first | (refine wpAnyH_take (i := 16) (v := ?_) (by simp only [gA, gB, gC]; rfl) (by kernel_rfl) (by kernel_rfl) (by kernel_rfl) (by exact fun _ _ _ h => h) (Or.inl ⟨by rfl, ?_⟩) (by assumption) ?_; rotate_left; (focus (intro w hSw; (try dsimp only at hSw); go_simp; try with_reducible rfl))) | (refine wpAnyH_take (i := 16) (v := undef) (by simp only [gA, gB, gC]; rfl) (by kernel_rfl) (by kernel_rfl) (by kernel_rfl) (by exact fun _ _ _ h => h) (Or.inr ⟨by rfl, rfl⟩) (by assumption) ?_) | fail); simp only [Act.put, sA, sB, sC, d0, bne_self_eq_false]
          (first | (refine wpAnyH_take (i := 17) (v := ?_) (by simp only [gA, gB, gC]; rfl) (by kernel_rfl) (by kernel_rfl) (by kernel_rfl) (by exact fun _ _ _ h => h) (Or.inl ⟨by rfl, ?_⟩) (by assumption) ?_; rotate_left; (focus (intro w hSw; (try dsimp only at hSw); go_simp; try with_reducible rfl))) | (refine wpAnyH_take (i := 17) (v := undef) (by simp only [gA, gB, gC]; rfl) (by kernel_rfl) (by kernel_rfl) (by kernel_rfl) (by exact fun _ _ _ h => h) (Or.inr ⟨by rfl, rfl⟩) (by assumption) ?_) | fail); simp only [Act.put, sA, sB, sC, d0, bne_self_eq_false]
          first | (refine wpAnyH_take (i := 12) (v := undef) (by simp only [gA, gB, gC]; rfl) (by kernel_rfl) (by kernel_rfl) (by kernel_rfl) (by exact fun _ _ _ h => h) (Or.inr ⟨by rfl, rfl⟩) (by assumption) ?_; simp only [Act.put, sA, sB, sC, d0, bne_self_eq_false]) | (refine wpAnyH_ready (rs := [12]) (by kernel_rfl) (by simp) ?_; refine AllReadyH.cons (by simp only [gA, gB, gC]; rfl) (fun K hK => ?_) AllReadyH.nil; go_simp; (first | (go_at_call 11; refine (hm1 _ hS0d.1).mono ?_; rintro e w5 ⟨rfl, hB5⟩; have hS1 : (fun W => Below w.heap.size w W ∧ W.cell? (x.add i) = some (.string u)) w5 := ⟨Below.then hB.drew hB5, hl _ (Below.then hB.drew hB5)⟩) | (go_at_call 12; refine (hm2 _ hS1.1).mono ?_; rintro e w6 ⟨rfl, rfl⟩)); refine hK.out _ _ (by first | exact hS0 | exact hS0d | exact hS1) ?_; clear hHeld hK; intro hHeld; (try simp only [Act.put, sA, sB, sC, d0, bne_self_eq_false])) | fail
          first | (refine wpAnyH_take (i := 18) (v := undef) (by simp only [gA, gB, gC]; rfl) (by kernel_rfl) (by kernel_rfl) (by kernel_rfl) (by exact fun _ _ _ h => h) (Or.inr ⟨by rfl, rfl⟩) (by assumption) ?_; simp only [Act.put, sA, sB, sC, d0, bne_self_eq_false]) | (refine wpAnyH_ready (rs := [18]) (by kernel_rfl) (by simp) ?_; refine AllReadyH.cons (by simp only [gA, gB, gC]; rfl) (fun K hK => ?_) AllReadyH.nil; go_simp; (first | (go_at_call 11; refine (hm1 _ hS0d.1).mono ?_; rintro e w5 ⟨rfl, hB5⟩; have hS1 : (fun W => Below w.heap.size w W ∧ W.cell? (x.add i) = some (.string u)) w5 := ⟨Below.then hB.drew hB5, hl _ (Below.then hB.drew hB5)⟩) | (go_at_call 12; refine (hm2 _ hS1.1).mono ?_; rintro e w6 ⟨rfl, rfl⟩)); refine hK.out _ _ (by first | exact hS0 | exact hS0d | exact hS1) ?_; clear hHeld hK; intro hHeld; (try simp only [Act.put, sA, sB, sC, d0, bne_self_eq_false])) | fail
          (first | (refine wpAnyH_take (i := 19) (v := ?_) (by simp only [gA, gB, gC]; rfl) (by kernel_rfl) (by kernel_rfl) (by kernel_rfl) (by exact fun _ _ _ h => h) (Or.inl ⟨by rfl, ?_⟩) (by assumption) ?_; rotate_left; (focus (intro w hSw; (try dsimp only at hSw); go_simp; try with_reducible rfl))) | (refine wpAnyH_take (i := 19) (v := undef) (by simp only [gA, gB, gC]; rfl) (by kernel_rfl) (by kernel_rfl) (by kernel_rfl) (by exact fun _ _ _ h => h) (Or.inr ⟨by rfl, rfl⟩) (by assumption) ?_) | fail); simp only [Act.put, sA, sB, sC, d0, bne_self_eq_false]
          (first | (refine wpAnyH_take (i := 20) (v := ?_) (by simp only [gA, gB, gC]; rfl) (by kernel_rfl) (by kernel_rfl) (by kernel_rfl) (by exact fun _ _ _ h => h) (Or.inl ⟨by rfl, ?_⟩) (by assumption) ?_; rotate_left; (focus (intro w hSw; (try dsimp only at hSw); go_simp; try with_reducible rfl))) | (refine wpAnyH_take (i := 20) (v := undef) (by simp only [gA, gB, gC]; rfl) (by kernel_rfl) (by kernel_rfl) (by kernel_rfl) (by exact fun _ _ _ h => h) (Or.inr ⟨by rfl, rfl⟩) (by assumption) ?_) | fail); simp only [Act.put, sA, sB, sC, d0, bne_self_eq_false]
          refine wpAnyH_done (by kernel_rfl) ?_ _
          go_wp2_with fail
          exact ⟨⟨i + 1, by omega, by simp, hS1.1⟩, by simp [Go.RowKit.intOf]; omega⟩
        · have d0 : decide ((u.size : Int) < 200) = false := by simp; omega
          go_wp2_with fail
          refine wp_region_held_drew (S := (fun W => Below w.heap.size w W ∧ W.cell? (x.add i) = some (.string u))) (by kernel_rfl) (by first | exact hS0 | exact hS0d | exact hS1) ?_
          intro hHeld
          (first | (refine wpAnyH_take (i := 0) (v := ?_) (by simp only [gA, gB, gC]; rfl) (by kernel_rfl) (by kernel_rfl) (by kernel_rfl) (by exact fun _ _ _ h => h) (Or.inl ⟨by rfl, ?_⟩) (by assumption) ?_; rotate_left; (focus (intro w hSw; (try dsimp only at hSw); go_simp; try with_reducible rfl))) | (refine wpAnyH_take (i := 0) (v := undef) (by simp only [gA, gB, gC]; rfl) (by kernel_rfl) (by kernel_rfl) (by kernel_rfl) (by exact fun _ _ _ h => h) (Or.inr ⟨by rfl, rfl⟩) (by assumption) ?_) | fail); simp only [Act.put, sA, sB, sC, d0]
          (first | (refine wpAnyH_take (i := 1) (v := ?_) (by simp only [gA, gB, gC]; rfl) (by kernel_rfl) (by kernel_rfl) (by kernel_rfl) (by exact fun _ _ _ h => h) (Or.inl ⟨by rfl, ?_⟩) (by assumption) ?_; rotate_left; (focus (intro w hSw; (try dsimp only at hSw); go_simp; try with_reducible rfl))) | (refine wpAnyH_take (i := 1) (v := undef) (by simp only [gA, gB, gC]; rfl) (by kernel_rfl) (by kernel_rfl) (by kernel_rfl) (by exact fun _ _ _ h => h) (Or.inr ⟨by rfl, rfl⟩) (by assumption) ?_) | fail); simp only [Act.put, sA, sB, sC, d0]
          (first | (refine wpAnyH_take (i := 2) (v := ?_) (by simp only [gA, gB, gC]; rfl) (by kernel_rfl) (by kernel_rfl) (by kernel_rfl) (by exact fun _ _ _ h => h) (Or.inl ⟨by rfl, ?_⟩) (by assumption) ?_; rotate_left; (focus (intro w hSw; (try dsimp only at hSw); go_simp; try with_reducible rfl))) | (refine wpAnyH_take (i := 2) (v := undef) (by simp only [gA, gB, gC]; rfl) (by kernel_rfl) (by kernel_rfl) (by kernel_rfl) (by exact fun _ _ _ h => h) (Or.inr ⟨by rfl, rfl⟩) (by assumption) ?_) | fail); simp only [Act.put, sA, sB, sC, d0]
          (first | (refine wpAnyH_take (i := 3) (v := ?_) (by simp only [gA, gB, gC]; rfl) (by kernel_rfl) (by kernel_rfl) (by kernel_rfl) (by exact fun _ _ _ h => h) (Or.inl ⟨by rfl, ?_⟩) (by assumption) ?_; rotate_left; (focus (intro w hSw; (try dsimp only at hSw); go_simp; try with_reducible rfl))) | (refine wpAnyH_take (i := 3) (v := undef) (by simp only [gA, gB, gC]; rfl) (by kernel_rfl) (by kernel_rfl) (by kernel_rfl) (by exact fun _ _ _ h => h) (Or.inr ⟨by rfl, rfl⟩) (by assumption) ?_) | fail); simp only [Act.put, sA, sB, sC, d0]
          (first | (refine wpAnyH_take (i := 4) (v := ?_) (by simp only [gA, gB, gC]; rfl) (by kernel_rfl) (by kernel_rfl) (by kernel_rfl) (by exact fun _ _ _ h => h) (Or.inl ⟨by rfl, ?_⟩) (by assumption) ?_; rotate_left; (focus (intro w hSw; (try dsimp only at hSw); go_simp; try with_reducible rfl))) | (refine wpAnyH_take (i := 4) (v := undef) (by simp only [gA, gB, gC]; rfl) (by kernel_rfl) (by kernel_rfl) (by kernel_rfl) (by exact fun _ _ _ h => h) (Or.inr ⟨by rfl, rfl⟩) (by assumption) ?_) | fail); simp only [Act.put, sA, sB, sC, d0]
          (first | (refine wpAnyH_take (i := 5) (v := ?_) (by simp only [gA, gB, gC]; rfl) (by kernel_rfl) (by kernel_rfl) (by kernel_rfl) (by exact fun _ _ _ h => h) (Or.inl ⟨by rfl, ?_⟩) (by assumption) ?_; rotate_left; (focus (intro w hSw; (try dsimp only at hSw); go_simp; try with_reducible rfl))) | (refine wpAnyH_take (i := 5) (v := undef) (by simp only [gA, gB, gC]; rfl) (by kernel_rfl) (by kernel_rfl) (by kernel_rfl) (by exact fun _ _ _ h => h) (Or.inr ⟨by rfl, rfl⟩) (by assumption) ?_) | fail); simp only [Act.put, sA, sB, sC, d0]
          (first | (refine wpAnyH_take (i := 6) (v := ?_) (by simp only [gA, gB, gC]; rfl) (by kernel_rfl) (by kernel_rfl) (by kernel_rfl) (by exact fun _ _ _ h => h) (Or.inl ⟨by rfl, ?_⟩) (by assumption) ?_; rotate_left; (focus (intro w hSw; (try dsimp only at hSw); go_simp; try with_reducible rfl))) | (refine wpAnyH_take (i := 6) (v := undef) (by simp only [gA, gB, gC]; rfl) (by kernel_rfl) (by kernel_rfl) (by kernel_rfl) (by exact fun _ _ _ h => h) (Or.inr ⟨by rfl, rfl⟩) (by assumption) ?_) | fail); simp only [Act.put, sA, sB, sC, d0]
          (first | (refine wpAnyH_take (i := 7) (v := ?_) (by simp only [gA, gB, gC]; rfl) (by kernel_rfl) (by kernel_rfl) (by kernel_rfl) (by exact fun _ _ _ h => h) (Or.inl ⟨by rfl, ?_⟩) (by assumption) ?_; rotate_left; (focus (intro w hSw; (try dsimp only at hSw); go_simp; try with_reducible rfl))) | (refine wpAnyH_take (i := 7) (v := undef) (by simp only [gA, gB, gC]; rfl) (by kernel_rfl) (by kernel_rfl) (by kernel_rfl) (by exact fun _ _ _ h => h) (Or.inr ⟨by rfl, rfl⟩) (by assumption) ?_) | fail); simp only [Act.put, sA, sB, sC, d0]
          (first | (refine wpAnyH_take (i := 8) (v := ?_) (by simp only [gA, gB, gC]; rfl) (by kernel_rfl) (by kernel_rfl) (by kernel_rfl) (by exact fun _ _ _ h => h) (Or.inl ⟨by rfl, ?_⟩) (by assumption) ?_; rotate_left; (focus (intro w hSw; (try dsimp only at hSw); go_simp; try with_reducible rfl))) | (refine wpAnyH_take (i := 8) (v := undef) (by simp only [gA, gB, gC]; rfl) (by kernel_rfl) (by kernel_rfl) (by kernel_rfl) (by exact fun _ _ _ h => h) (Or.inr ⟨by rfl, rfl⟩) (by assumption) ?_) | fail); simp only [Act.put, sA, sB, sC, d0]
          (first | (refine wpAnyH_take (i := 9) (v := ?_) (by simp only [gA, gB, gC]; rfl) (by kernel_rfl) (by kernel_rfl) (by kernel_rfl) (by exact fun _ _ _ h => h) (Or.inl ⟨by rfl, ?_⟩) (by assumption) ?_; rotate_left; (focus (intro w hSw; (try dsimp only at hSw); go_simp; try with_reducible rfl))) | (refine wpAnyH_take (i := 9) (v := undef) (by simp only [gA, gB, gC]; rfl) (by kernel_rfl) (by kernel_rfl) (by kernel_rfl) (by exact fun _ _ _ h => h) (Or.inr ⟨by rfl, rfl⟩) (by assumption) ?_) | fail); simp only [Act.put, sA, sB, sC, d0]
          (first | (refine wpAnyH_take (i := 10) (v := ?_) (by simp only [gA, gB, gC]; rfl) (by kernel_rfl) (by kernel_rfl) (by kernel_rfl) (by exact fun _ _ _ h => h) (Or.inl ⟨by rfl, ?_⟩) (by assumption) ?_; rotate_left; (focus (intro w hSw; (try dsimp only at hSw); go_simp; try with_reducible rfl))) | (refine wpAnyH_take (i := 10) (v := undef) (by simp only [gA, gB, gC]; rfl) (by kernel_rfl) (by kernel_rfl) (by kernel_rfl) (by exact fun _ _ _ h => h) (Or.inr ⟨by rfl, rfl⟩) (by assumption) ?_) | fail); simp only [Act.put, sA, sB, sC, d0]
          (first | (refine wpAnyH_take (i := 11) (v := ?_) (by simp only [gA, gB, gC]; rfl) (by kernel_rfl) (by kernel_rfl) (by kernel_rfl) (by exact fun _ _ _ h => h) (Or.inl ⟨by rfl, ?_⟩) (by assumption) ?_; rotate_left; (focus (intro w hSw; (try dsimp only at hSw); go_simp; try with_reducible rfl))) | (refine wpAnyH_take (i := 11) (v := undef) (by simp only [gA, gB, gC]; rfl) (by kernel_rfl) (by kernel_rfl) (by kernel_rfl) (by exact fun _ _ _ h => h) (Or.inr ⟨by rfl, rfl⟩) (by assumption) ?_) | fail); simp only [Act.put, sA, sB, sC, d0]
          (first | (refine wpAnyH_take (i := 13) (v := ?_) (by simp only [gA, gB, gC]; rfl) (by kernel_rfl) (by kernel_rfl) (by kernel_rfl) (by exact fun _ _ _ h => h) (Or.inl ⟨by rfl, ?_⟩) (by assumption) ?_; rotate_left; (focus (intro w hSw; (try dsimp only at hSw); go_simp; try with_reducible rfl))) | (refine wpAnyH_take (i := 13) (v := undef) (by simp only [gA, gB, gC]; rfl) (by kernel_rfl) (by kernel_rfl) (by kernel_rfl) (by exact fun _ _ _ h => h) (Or.inr ⟨by rfl, rfl⟩) (by assumption) ?_) | fail); simp only [Act.put, sA, sB, sC, d0]
          (first | (refine wpAnyH_take (i := 14) (v := ?_) (by simp only [gA, gB, gC]; rfl) (by kernel_rfl) (by kernel_rfl) (by kernel_rfl) (by exact fun _ _ _ h => h) (Or.inl ⟨by rfl, ?_⟩) (by assumption) ?_; rotate_left; (focus (intro w hSw; (try dsimp only at hSw); go_simp; try with_reducible rfl))) | (refine wpAnyH_take (i := 14) (v := undef) (by simp only [gA, gB, gC]; rfl) (by kernel_rfl) (by kernel_rfl) (by kernel_rfl) (by exact fun _ _ _ h => h) (Or.inr ⟨by rfl, rfl⟩) (by assumption) ?_) | fail); simp only [Act.put, sA, sB, sC, d0]
          (first | (refine wpAnyH_take (i := 15) (v := ?_) (by simp only [gA, gB, gC]; rfl) (by kernel_rfl) (by kernel_rfl) (by kernel_rfl) (by exact fun _ _ _ h => h) (Or.inl ⟨by rfl, ?_⟩) (by assumption) ?_; rotate_left; (focus (intro w hSw; (try dsimp only at hSw); go_simp; try with_reducible rfl))) | (refine wpAnyH_take (i := 15) (v := undef) (by simp only [gA, gB, gC]; rfl) (by kernel_rfl) (by kernel_rfl) (by kernel_rfl) (by exact fun _ _ _ h => h) (Or.inr ⟨by rfl, rfl⟩) (by assumption) ?_) | fail); simp only [Act.put, sA, sB, sC, d0]
          (first | (refine wpAnyH_take (i := 16) (v := ?_) (by simp only [gA, gB, gC]; rfl) (by kernel_rfl) (by kernel_rfl) (by kernel_rfl) (by exact fun _ _ _ h => h) (Or.inl ⟨by rfl, ?_⟩) (by assumption) ?_; rotate_left; (focus (intro w hSw; (try dsimp only at hSw); go_simp; try with_reducible rfl))) | (refine wpAnyH_take (i := 16) (v := undef) (by simp only [gA, gB, gC]; rfl) (by kernel_rfl) (by kernel_rfl) (by kernel_rfl) (by exact fun _ _ _ h => h) (Or.inr ⟨by rfl, rfl⟩) (by assumption) ?_) | fail); simp only [Act.put, sA, sB, sC, d0]
          (first | (refine wpAnyH_take (i := 17) (v := ?_) (by simp only [gA, gB, gC]; rfl) (by kernel_rfl) (by kernel_rfl) (by kernel_rfl) (by exact fun _ _ _ h => h) (Or.inl ⟨by rfl, ?_⟩) (by assumption) ?_; rotate_left; (focus (intro w hSw; (try dsimp only at hSw); go_simp; try with_reducible rfl))) | (refine wpAnyH_take (i := 17) (v := undef) (by simp only [gA, gB, gC]; rfl) (by kernel_rfl) (by kernel_rfl) (by kernel_rfl) (by exact fun _ _ _ h => h) (Or.inr ⟨by rfl, rfl⟩) (by assumption) ?_) | fail); simp only [Act.put, sA, sB, sC, d0]
          first | (refine wpAnyH_take (i := 12) (v := undef) (by simp only [gA, gB, gC]; rfl) (by kernel_rfl) (by kernel_rfl) (by kernel_rfl) (by exact fun _ _ _ h => h) (Or.inr ⟨by rfl, rfl⟩) (by assumption) ?_; simp only [Act.put, sA, sB, sC, d0]) | (refine wpAnyH_ready (rs := [12]) (by kernel_rfl) (by simp) ?_; refine AllReadyH.cons (by simp only [gA, gB, gC]; rfl) (fun K hK => ?_) AllReadyH.nil; go_simp; (first | (fail)); refine hK.out _ _ (by first | exact hS0 | exact hS0d | exact hS1) ?_; clear hHeld hK; intro hHeld; (try simp only [Act.put, sA, sB, sC, d0])) | fail
          first | (refine wpAnyH_take (i := 18) (v := undef) (by simp only [gA, gB, gC]; rfl) (by kernel_rfl) (by kernel_rfl) (by kernel_rfl) (by exact fun _ _ _ h => h) (Or.inr ⟨by rfl, rfl⟩) (by assumption) ?_; simp only [Act.put, sA, sB, sC, d0]) | (refine wpAnyH_ready (rs := [18]) (by kernel_rfl) (by simp) ?_; refine AllReadyH.cons (by simp only [gA, gB, gC]; rfl) (fun K hK => ?_) AllReadyH.nil; go_simp; (first | (fail)); refine hK.out _ _ (by first | exact hS0 | exact hS0d | exact hS1) ?_; clear hHeld hK; intro hHeld; (try simp only [Act.put, sA, sB, sC, d0])) | fail
          (first | (refine wpAnyH_take (i := 19) (v := ?_) (by simp only [gA, gB, gC]; rfl) (by kernel_rfl) (by kernel_rfl) (by kernel_rfl) (by exact fun _ _ _ h => h) (Or.inl ⟨by rfl, ?_⟩) (by assumption) ?_; rotate_left; (focus (intro w hSw; (try dsimp only at hSw); go_simp; try with_reducible rfl))) | (refine wpAnyH_take (i := 19) (v := undef) (by simp only [gA, gB, gC]; rfl) (by kernel_rfl) (by kernel_rfl) (by kernel_rfl) (by exact fun _ _ _ h => h) (Or.inr ⟨by rfl, rfl⟩) (by assumption) ?_) | fail); simp only [Act.put, sA, sB, sC, d0]
          (first | (refine wpAnyH_take (i := 20) (v := ?_) (by simp only [gA, gB, gC]; rfl) (by kernel_rfl) (by kernel_rfl) (by kernel_rfl) (by exact fun _ _ _ h => h) (Or.inl ⟨by rfl, ?_⟩) (by assumption) ?_; rotate_left; (focus (intro w hSw; (try dsimp only at hSw); go_simp; try with_reducible rfl))) | (refine wpAnyH_take (i := 20) (v := undef) (by simp only [gA, gB, gC]; rfl) (by kernel_rfl) (by kernel_rfl) (by kernel_rfl) (by exact fun _ _ _ h => h) (Or.inr ⟨by rfl, rfl⟩) (by assumption) ?_) | fail); simp only [Act.put, sA, sB, sC, d0]
          refine wpAnyH_done (by kernel_rfl) ?_ _
          go_wp2_with fail
          exact ⟨⟨i + 1, by omega, by simp, hB.drew⟩, by simp [Go.RowKit.intOf]; omega⟩
      · go_wp2_with fail
        go_ret
        exact ⟨rfl, hB⟩
  · go_enter Try.func3, Try.ntmps3
    go_wp2_with fail
    refine (known_any _).mono ?_
    rintro e w1 ⟨rfl, hB1⟩
    go_wp2_with fail
    refine (hc _ hB1).mono ?_
    rintro e w2 ⟨rfl, hB2⟩
    go_wp2_with fail
    refine (hr _ (Below.then hB1 hB2)).mono ?_
    rintro e w3 ⟨rfl, hB3⟩
    go_wp2_with fail
    refine (hr _ (Below.then (Below.then hB1 hB2) hB3)).mono ?_
    rintro e w4 ⟨rfl, hB4⟩
    go_wp2_with fail
    go_ret
    exact ⟨rfl, Below.then (Below.then (Below.then hB1 hB2) hB3) hB4⟩
end Go.Proofs.Ytbbmeclngopbmaa
