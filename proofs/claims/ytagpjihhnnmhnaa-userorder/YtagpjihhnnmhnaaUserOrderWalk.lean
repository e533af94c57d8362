/-
  UserOrder: the walk.
-/
import Derived.Test.YtagpjihhnnmhnaaUserRow
namespace Go.Proofs.Ytagpjihhnnmhnaa
open Go.RowKit
set_option linter.unusedSimpArgs false
set_option linter.unusedVariables false

/-- One byte as a text. -/
theorem back_one (W : World) (g cap k : Nat) (hk : k < 256) (h0 : W.cell? ⟨g, 0, none⟩ = some (.int .u8 (k : Int))) :
    (convert 50 9 (.slice (some ⟨g, 0, none⟩) 1 cap)).run Try.prog W = .ok (.string (chr k)) W := by
  refine run_convert_bytes_back W _ _ 5 ⟨g, 0, none⟩ cap [UInt8.ofNat k] Try.underlying50 Try.underlying5 Try.underlying9 fun j hj => ?_
  obtain rfl : j = 0 := by simp at hj; omega
  rw [add_at, h0]
  simp
  omega

set_option maxRecDepth 8000 in
set_option maxHeartbeats 1500000 in
theorem userOrder_walk (a : Option Addr) (l : List Lab) (n cap : Nat) (hn : l.length = n) (x : Int) (hx : -9223372036854775808 ≤ x ∧ x ≤ 9223372036854775807) (y : Int) (hy : -9223372036854775808 ≤ y ∧ y ≤ 9223372036854775807) (w : World) (hL : LabsAt w a l) :
    Calls Try.prog 7 #[.slice a n cap, .int .i64 x, .int .i64 y] w fun e w' => e = .returned (.bool true) ∧ Below w.heap.size w w' := by
  have cK := uknown_any w
  have cS := fun W hW => some_any a l n cap hn W hW
  have hus := some_ok l (k := 8) (by omega)
  have hsz := some_size l (k := 8)
  have hlen := someTo_len l 8
  obtain ⟨m, hm⟩ : ∃ m : Nat, y % 20 = (m : Int) := ⟨(y % 20).toNat, by omega⟩
  have hm20 : m < 20 := by omega
  have cW := fun W => w9_any y 20 (by omega) (by omega) W
  rw [hm] at cW
  go_enter Try.func7, Try.ntmps7
  go_wp2_with fail
  refine (cK).mono ?_
  rintro e w1 ⟨rfl, hB1⟩
  go_wp2_with fail
  refine (cS _ (hL.below hB1)).mono ?_
  rintro e w2 ⟨v, rfl, ho, hB2⟩
  have hBa := Below.then hB1 hB2
  have hbs : w1.heap.size ≤ w2.heap.size := hB2.size
  have hb1 : w.heap.size ≤ w1.heap.size := hB1.size
  obtain ⟨av, cv, rfl, hcv, hUs⟩ := ho.slice
  have cC := fun W hW => ucheck_any av (someTo l 8) _ cv rfl hsz W hW
  simp only [hus] at cC
  have cC2 := cC _ hUs
  clear hlen cK cS hL cC
  go_wp2_with fail
  refine (cC2).mono ?_
  rintro e w3 ⟨rfl, hB3⟩
  have hBb := Below.then hBa hB3
  have ho3 := ho.below hB3
  go_wp2_with fail
  refine (cW _).mono ?_
  rintro e w' ⟨rfl, hw'⟩
  have hw' := hw'.symm
  subst hw'
  have ho30 : OwnU w3 w1.heap.size (.slice av (someTo l 8).length cv) (moreU l 0) := by rw [moreU_zero]; exact ho3
  have hb3 : w1.heap.size ≤ w3.heap.size := Nat.le_trans hbs hB3.size
  have hB13 : Below w1.heap.size w1 w3 := Below.then hB2 hB3
  clear cC2 hUs ho ho3 hB2 hB3 cW hm hus hsz
  go_wp2_with fail
  go_loopw [7, 8] (fun t7 t8 wr => ∃ k : Nat, k ≤ m ∧ t8 = .int .i64 (k : Int) ∧ OwnU wr w1.heap.size t7 (moreU l k) ∧ Below w1.heap.size w1 wr) (fun _ t8 _ => m - (Go.RowKit.intOf t8).toNat)
  case atStart => exact ⟨0, by omega, rfl, ho30, hB13⟩
  case round =>
    obtain ⟨k, hk, rfl, hoK, hB⟩ := hrel
    by_cases hlt : k < m
    · have hlm := moreU_len l k
      have hkm : (k : Int) < (m : Int) := by omega
      have hwr : IntKind.u8.wrap (97 + (k : Int)) = 97 + (k : Int) := Go.IntWalk.u8_in _ (by omega)
      have d97 : IntKind.i64.wrap (97 + (k : Int)) = 97 + (k : Int) := Go.IntWalk.i64_in _ (by omega)
      have hA0 : Below wr.heap.size wr (wr.alloc (.cells #[.int .u8 (97 + (k : Int))] 5)).drew := (alloc_below wr (.cells #[.int .u8 (97 + (k : Int))] 5)).drew
      have hc0 : (wr.alloc (.cells #[.int .u8 (97 + (k : Int))] 5)).drew.cell? ⟨wr.heap.size, 0, none⟩ = some (.int .u8 (97 + (k : Int))) := by
        show (wr.alloc (.cells #[.int .u8 (97 + (k : Int))] 5)).cell? ⟨wr.heap.size, 0, none⟩ = _
        rw [World.cell?_alloc_at _ _ _ _ rfl]
        rfl
      have hcv0 := back_one (wr.alloc (.cells #[.int .u8 (97 + (k : Int))] 5)).drew wr.heap.size 1 (97 + k) (by omega) (by rw [show ((97 + k : Nat) : Int) = 97 + (k : Int) by omega]; exact hc0)
      have hcs : (chr (97 + k)).size = 1 := rfl
      have hapx : ∀ W, Below wr.heap.size wr W → ∃ v' W', (Builtin.append_ #[23, 23] 23 #[u7, .slice (some ⟨W.heap.size, 0, none⟩) 1 1]).run Try.prog (W.alloc (.cells #[.string (⟨#[120]⟩ ++ chr (97 + k)), .int .i64 0, .int .u64 0, .int .i64 (goodL ⟨0, 0, 0, 0⟩).s, .int .i64 (goodL ⟨0, 0, 0, 0⟩).c, .int .i64 (goodL ⟨0, 0, 0, 0⟩).i, .int .i64 (goodL ⟨0, 0, 0, 0⟩).k, .bool false] 40)) = .ok v' W' ∧ OwnU W' w1.heap.size v' (moreU l (k + 1)) ∧ Below w1.heap.size W W' := fun W hW => by
        obtain ⟨v', W', h1, h2, h3⟩ := append_usr W w1.heap.size u7 (moreU l k) (xAt k) (hoK.below hW) (by have := hB.size; have := hW.size; omega) (by omega)
        rw [← moreU_succ] at h2
        exact ⟨v', W', h1, h2, h3⟩
      clear hoK ho30 hB13
      go_wp2_with fail
      refine wp_region_held_drew (S := (fun _ => True)) (by kernel_rfl) (by trivial) ?_
      intro hHeld
      refine wpAnyH_take (i := 0) (v := ?_) (by simp only [List.getElem?_toArray, List.getElem?_cons_zero, List.getElem?_cons_succ]; rfl) (by kernel_rfl) (by kernel_rfl) (by kernel_rfl) (by exact fun _ _ _ h => h) (Or.inl ⟨by rfl, ?_⟩) (by assumption) ?_; rotate_left; (focus (intro w hSw; (try dsimp only at hSw); go_simp; try with_reducible rfl)); (try simp only [Act.put, List.setIfInBounds_toArray, List.set_cons_zero, List.set_cons_succ])
      refine wpAnyH_take (i := 1) (v := ?_) (by simp only [List.getElem?_toArray, List.getElem?_cons_zero, List.getElem?_cons_succ]; rfl) (by kernel_rfl) (by kernel_rfl) (by kernel_rfl) (by exact fun _ _ _ h => h) (Or.inl ⟨by rfl, ?_⟩) (by assumption) ?_; rotate_left; (focus (intro w hSw; (try dsimp only at hSw); go_simp; try with_reducible rfl)); (try simp only [Act.put, List.setIfInBounds_toArray, List.set_cons_zero, List.set_cons_succ])
      refine wpAnyH_take (i := 2) (v := ?_) (by simp only [List.getElem?_toArray, List.getElem?_cons_zero, List.getElem?_cons_succ]; rfl) (by kernel_rfl) (by kernel_rfl) (by kernel_rfl) (by exact fun _ _ _ h => h) (Or.inl ⟨by rfl, ?_⟩) (by assumption) ?_; rotate_left; (focus (intro w hSw; (try dsimp only at hSw); go_simp; try with_reducible rfl)); (try simp only [Act.put, List.setIfInBounds_toArray, List.set_cons_zero, List.set_cons_succ])
      refine wpAnyH_take (i := 3) (v := ?_) (by simp only [List.getElem?_toArray, List.getElem?_cons_zero, List.getElem?_cons_succ]; rfl) (by kernel_rfl) (by kernel_rfl) (by kernel_rfl) (by exact fun _ _ _ h => h) (Or.inl ⟨by rfl, ?_⟩) (by assumption) ?_; rotate_left; (focus (intro w hSw; (try dsimp only at hSw); go_simp; try with_reducible rfl)); (try simp only [Act.put, List.setIfInBounds_toArray, List.set_cons_zero, List.set_cons_succ])
      refine wpAnyH_take (i := 7) (v := ?_) (by simp only [List.getElem?_toArray, List.getElem?_cons_zero, List.getElem?_cons_succ]; rfl) (by kernel_rfl) (by kernel_rfl) (by kernel_rfl) (by exact fun _ _ _ h => h) (Or.inl ⟨by rfl, ?_⟩) (by assumption) ?_; rotate_left; (focus (intro w hSw; (try dsimp only at hSw); go_simp; try with_reducible rfl)); (try simp only [Act.put, List.setIfInBounds_toArray, List.set_cons_zero, List.set_cons_succ])
      refine wpAnyH_ready (rs := [4, 8]) (by kernel_rfl) (by simp) ?_
      refine AllReadyH.cons (by simp only [List.getElem?_toArray, List.getElem?_cons_zero, List.getElem?_cons_succ]; rfl) (fun K hK => ?_) ?_
      · go_simp
        refine hK.out _ _ (by trivial) ?_
        clear hHeld hK
        intro hHeld
        (try simp only [Act.put, List.setIfInBounds_toArray, List.set_cons_zero, List.set_cons_succ])
        refine wpAnyH_ready (rs := [5, 8]) (by kernel_rfl) (by simp) ?_
        refine AllReadyH.cons (by simp only [List.getElem?_toArray, List.getElem?_cons_zero, List.getElem?_cons_succ]; rfl) (fun K hK => ?_) ?_
        · go_simp
          refine hK.out _ _ (by trivial) ?_
          clear hHeld hK
          intro hHeld
          (try simp only [Act.put, List.setIfInBounds_toArray, List.set_cons_zero, List.set_cons_succ])
          refine wpAnyH_take (i := 6) (v := ?_) (by simp only [List.getElem?_toArray, List.getElem?_cons_zero, List.getElem?_cons_succ]; rfl) (by kernel_rfl) (by kernel_rfl) (by kernel_rfl) (by exact fun _ _ _ h => h) (Or.inl ⟨by rfl, ?_⟩) (by assumption) ?_; rotate_left; (focus (intro w hSw; (try dsimp only at hSw); go_simp; try with_reducible rfl)); (try simp only [Act.put, List.setIfInBounds_toArray, List.set_cons_zero, List.set_cons_succ])
          refine wpAnyH_ready (rs := [8]) (by kernel_rfl) (by simp) ?_
          refine AllReadyH.cons (by simp only [List.getElem?_toArray, List.getElem?_cons_zero, List.getElem?_cons_succ]; rfl) (fun K hK => ?_) AllReadyH.nil
          go_simp
          go_at_call 14
          refine (good_any ⟨0, 0, 0, 0⟩ _).mono ?_
          rintro e w5 ⟨rfl, hB5⟩
          refine hK.out _ _ (by trivial) ?_
          clear hHeld hK
          intro hHeld
          obtain ⟨v7, w7, hap, ho7, hB7⟩ := hapx w5 (Below.then hA0 hB5)
          have hBn := (Below.then hB (Below.then hA0 hB5)).trans hB7
          (try simp only [Act.put, List.setIfInBounds_toArray, List.set_cons_zero, List.set_cons_succ])
          refine wpAnyH_take (i := 9) (v := ?_) (by simp only [List.getElem?_toArray, List.getElem?_cons_zero, List.getElem?_cons_succ]; rfl) (by kernel_rfl) (by kernel_rfl) (by kernel_rfl) (by exact fun _ _ _ h => h) (Or.inl ⟨by rfl, ?_⟩) (by assumption) ?_; rotate_left; (focus (intro w hSw; (try dsimp only at hSw); go_simp; try with_reducible rfl)); (try simp only [Act.put, List.setIfInBounds_toArray, List.set_cons_zero, List.set_cons_succ])
          refine wpAnyH_ready (rs := [10]) (by kernel_rfl) (by simp) ?_
          refine AllReadyH.cons (by simp only [List.getElem?_toArray, List.getElem?_cons_zero, List.getElem?_cons_succ]; rfl) (fun K hK => ?_) AllReadyH.nil
          go_simp
          refine hK.out _ _ (by trivial) ?_
          clear hHeld hK
          intro hHeld
          (try simp only [Act.put, List.setIfInBounds_toArray, List.set_cons_zero, List.set_cons_succ])
          refine wpAnyH_ready (rs := [11]) (by kernel_rfl) (by simp) ?_
          refine AllReadyH.cons (by simp only [List.getElem?_toArray, List.getElem?_cons_zero, List.getElem?_cons_succ]; rfl) (fun K hK => ?_) AllReadyH.nil
          refine step_append_usr rfl _ _ rfl rfl rfl rfl hap ?_
          (try simp only [Act.put, List.setIfInBounds_toArray, List.set_cons_zero, List.set_cons_succ])
          refine hK.out _ _ (by trivial) ?_
          clear hHeld hK
          intro hHeld
          (try simp only [Act.put, List.setIfInBounds_toArray, List.set_cons_zero, List.set_cons_succ])
          refine wpAnyH_take (i := 12) (v := ?_) (by simp only [List.getElem?_toArray, List.getElem?_cons_zero, List.getElem?_cons_succ]; rfl) (by kernel_rfl) (by kernel_rfl) (by kernel_rfl) (by exact fun _ _ _ h => h) (Or.inl ⟨by rfl, ?_⟩) (by assumption) ?_; rotate_left; (focus (intro w hSw; (try dsimp only at hSw); go_simp; try with_reducible rfl)); (try simp only [Act.put, List.setIfInBounds_toArray, List.set_cons_zero, List.set_cons_succ])
          refine wpAnyH_done (by kernel_rfl) ?_ _
          go_wp2_with fail
          exact ⟨⟨k + 1, by omega, by simp, ho7, hBn⟩, by simp [Go.RowKit.intOf]; omega⟩
        refine AllReadyH.cons (by simp only [List.getElem?_toArray, List.getElem?_cons_zero, List.getElem?_cons_succ]; rfl) (fun K hK => ?_) AllReadyH.nil
        go_simp
        go_at_call 14
        refine (good_any ⟨0, 0, 0, 0⟩ _).mono ?_
        rintro e w5 ⟨rfl, hB5⟩
        refine hK.out _ _ (by trivial) ?_
        clear hHeld hK
        intro hHeld
        have hc5 : w5.cell? ⟨wr.heap.size, 0, none⟩ = some (.int .u8 (97 + (k : Int))) := (hB5.cell (p := ⟨wr.heap.size, 0, none⟩) (by simp)).trans hc0
        have hcv5 := back_one w5 wr.heap.size 1 (97 + k) (by omega) (by rw [show ((97 + k : Nat) : Int) = 97 + (k : Int) by omega]; exact hc5)
        (try simp only [Act.put, List.setIfInBounds_toArray, List.set_cons_zero, List.set_cons_succ])
        refine wpAnyH_ready (rs := [5]) (by kernel_rfl) (by simp) ?_
        refine AllReadyH.cons (by simp only [List.getElem?_toArray, List.getElem?_cons_zero, List.getElem?_cons_succ]; rfl) (fun K hK => ?_) AllReadyH.nil
        go_simp
        refine hK.out _ _ (by trivial) ?_
        clear hHeld hK
        intro hHeld
        obtain ⟨v7, w7, hap, ho7, hB7⟩ := hapx w5 (Below.then hA0 hB5)
        have hBn := (Below.then hB (Below.then hA0 hB5)).trans hB7
        (try simp only [Act.put, List.setIfInBounds_toArray, List.set_cons_zero, List.set_cons_succ])
        refine wpAnyH_take (i := 6) (v := ?_) (by simp only [List.getElem?_toArray, List.getElem?_cons_zero, List.getElem?_cons_succ]; rfl) (by kernel_rfl) (by kernel_rfl) (by kernel_rfl) (by exact fun _ _ _ h => h) (Or.inl ⟨by rfl, ?_⟩) (by assumption) ?_; rotate_left; (focus (intro w hSw; (try dsimp only at hSw); go_simp; try with_reducible rfl)); (try simp only [Act.put, List.setIfInBounds_toArray, List.set_cons_zero, List.set_cons_succ])
        refine wpAnyH_take (i := 9) (v := ?_) (by simp only [List.getElem?_toArray, List.getElem?_cons_zero, List.getElem?_cons_succ]; rfl) (by kernel_rfl) (by kernel_rfl) (by kernel_rfl) (by exact fun _ _ _ h => h) (Or.inl ⟨by rfl, ?_⟩) (by assumption) ?_; rotate_left; (focus (intro w hSw; (try dsimp only at hSw); go_simp; try with_reducible rfl)); (try simp only [Act.put, List.setIfInBounds_toArray, List.set_cons_zero, List.set_cons_succ])
        refine wpAnyH_ready (rs := [10]) (by kernel_rfl) (by simp) ?_
        refine AllReadyH.cons (by simp only [List.getElem?_toArray, List.getElem?_cons_zero, List.getElem?_cons_succ]; rfl) (fun K hK => ?_) AllReadyH.nil
        go_simp
        refine hK.out _ _ (by trivial) ?_
        clear hHeld hK
        intro hHeld
        (try simp only [Act.put, List.setIfInBounds_toArray, List.set_cons_zero, List.set_cons_succ])
        refine wpAnyH_ready (rs := [11]) (by kernel_rfl) (by simp) ?_
        refine AllReadyH.cons (by simp only [List.getElem?_toArray, List.getElem?_cons_zero, List.getElem?_cons_succ]; rfl) (fun K hK => ?_) AllReadyH.nil
        refine step_append_usr rfl _ _ rfl rfl rfl rfl hap ?_
        (try simp only [Act.put, List.setIfInBounds_toArray, List.set_cons_zero, List.set_cons_succ])
        refine hK.out _ _ (by trivial) ?_
        clear hHeld hK
        intro hHeld
        (try simp only [Act.put, List.setIfInBounds_toArray, List.set_cons_zero, List.set_cons_succ])
        refine wpAnyH_take (i := 12) (v := ?_) (by simp only [List.getElem?_toArray, List.getElem?_cons_zero, List.getElem?_cons_succ]; rfl) (by kernel_rfl) (by kernel_rfl) (by kernel_rfl) (by exact fun _ _ _ h => h) (Or.inl ⟨by rfl, ?_⟩) (by assumption) ?_; rotate_left; (focus (intro w hSw; (try dsimp only at hSw); go_simp; try with_reducible rfl)); (try simp only [Act.put, List.setIfInBounds_toArray, List.set_cons_zero, List.set_cons_succ])
        refine wpAnyH_done (by kernel_rfl) ?_ _
        go_wp2_with fail
        exact ⟨⟨k + 1, by omega, by simp, ho7, hBn⟩, by simp [Go.RowKit.intOf]; omega⟩
      refine AllReadyH.cons (by simp only [List.getElem?_toArray, List.getElem?_cons_zero, List.getElem?_cons_succ]; rfl) (fun K hK => ?_) AllReadyH.nil
      go_simp
      go_at_call 14
      refine (good_any ⟨0, 0, 0, 0⟩ _).mono ?_
      rintro e w5 ⟨rfl, hB5⟩
      refine hK.out _ _ (by trivial) ?_
      clear hHeld hK
      intro hHeld
      (try simp only [Act.put, List.setIfInBounds_toArray, List.set_cons_zero, List.set_cons_succ])
      refine wpAnyH_ready (rs := [4]) (by kernel_rfl) (by simp) ?_
      refine AllReadyH.cons (by simp only [List.getElem?_toArray, List.getElem?_cons_zero, List.getElem?_cons_succ]; rfl) (fun K hK => ?_) AllReadyH.nil
      go_simp
      refine hK.out _ _ (by trivial) ?_
      clear hHeld hK
      intro hHeld
      have hcv := conv_chr w5 (97 + k) (by omega)
      rw [show ((97 + k : Nat) : Int) = 97 + (k : Int) by omega] at hcv
      (try simp only [Act.put, List.setIfInBounds_toArray, List.set_cons_zero, List.set_cons_succ])
      refine wpAnyH_ready (rs := [5]) (by kernel_rfl) (by simp) ?_
      refine AllReadyH.cons (by simp only [List.getElem?_toArray, List.getElem?_cons_zero, List.getElem?_cons_succ]; rfl) (fun K hK => ?_) AllReadyH.nil
      go_simp
      refine hK.out _ _ (by trivial) ?_
      clear hHeld hK
      intro hHeld
      obtain ⟨v7, w7, hap, ho7, hB7⟩ := hapx (w5.alloc (.cells #[.int .u8 (97 + (k : Int))] 5)) (Below.then (Below.then (Below.refl _ _).drew hB5) (alloc_below _ _))
      have hBn := (Below.then hB (Below.then (Below.then (Below.refl _ _).drew hB5) (alloc_below _ _))).trans hB7
      simp only [World.size_alloc] at hap
      (try simp only [Act.put, List.setIfInBounds_toArray, List.set_cons_zero, List.set_cons_succ])
      refine wpAnyH_take (i := 6) (v := ?_) (by simp only [List.getElem?_toArray, List.getElem?_cons_zero, List.getElem?_cons_succ]; rfl) (by kernel_rfl) (by kernel_rfl) (by kernel_rfl) (by exact fun _ _ _ h => h) (Or.inl ⟨by rfl, ?_⟩) (by assumption) ?_; rotate_left; (focus (intro w hSw; (try dsimp only at hSw); go_simp; try with_reducible rfl)); (try simp only [Act.put, List.setIfInBounds_toArray, List.set_cons_zero, List.set_cons_succ])
      refine wpAnyH_take (i := 9) (v := ?_) (by simp only [List.getElem?_toArray, List.getElem?_cons_zero, List.getElem?_cons_succ]; rfl) (by kernel_rfl) (by kernel_rfl) (by kernel_rfl) (by exact fun _ _ _ h => h) (Or.inl ⟨by rfl, ?_⟩) (by assumption) ?_; rotate_left; (focus (intro w hSw; (try dsimp only at hSw); go_simp; try with_reducible rfl)); (try simp only [Act.put, List.setIfInBounds_toArray, List.set_cons_zero, List.set_cons_succ])
      refine wpAnyH_ready (rs := [10]) (by kernel_rfl) (by simp) ?_
      refine AllReadyH.cons (by simp only [List.getElem?_toArray, List.getElem?_cons_zero, List.getElem?_cons_succ]; rfl) (fun K hK => ?_) AllReadyH.nil
      go_simp
      refine hK.out _ _ (by trivial) ?_
      clear hHeld hK
      intro hHeld
      (try simp only [Act.put, List.setIfInBounds_toArray, List.set_cons_zero, List.set_cons_succ])
      refine wpAnyH_ready (rs := [11]) (by kernel_rfl) (by simp) ?_
      refine AllReadyH.cons (by simp only [List.getElem?_toArray, List.getElem?_cons_zero, List.getElem?_cons_succ]; rfl) (fun K hK => ?_) AllReadyH.nil
      refine step_append_usr rfl _ _ rfl rfl rfl rfl hap ?_
      (try simp only [Act.put, List.setIfInBounds_toArray, List.set_cons_zero, List.set_cons_succ])
      refine hK.out _ _ (by trivial) ?_
      clear hHeld hK
      intro hHeld
      (try simp only [Act.put, List.setIfInBounds_toArray, List.set_cons_zero, List.set_cons_succ])
      refine wpAnyH_take (i := 12) (v := ?_) (by simp only [List.getElem?_toArray, List.getElem?_cons_zero, List.getElem?_cons_succ]; rfl) (by kernel_rfl) (by kernel_rfl) (by kernel_rfl) (by exact fun _ _ _ h => h) (Or.inl ⟨by rfl, ?_⟩) (by assumption) ?_; rotate_left; (focus (intro w hSw; (try dsimp only at hSw); go_simp; try with_reducible rfl)); (try simp only [Act.put, List.setIfInBounds_toArray, List.set_cons_zero, List.set_cons_succ])
      refine wpAnyH_done (by kernel_rfl) ?_ _
      go_wp2_with fail
      exact ⟨⟨k + 1, by omega, by simp, ho7, hBn⟩, by simp [Go.RowKit.intOf]; omega⟩
    · obtain rfl : k = m := by omega
      have hkm : ¬ (k : Int) < (k : Int) := by omega
      have hlm := moreU_len l k
      have hck := more_chk l (m := k) (by omega)
      have hokA := fun i => more_okAt l (m := k) (i := i) (by omega)
      have hszm : ∀ u ∈ moreU l k, u.name.size ≤ 9223372036854775807 := fun u hu => by
        obtain ⟨i, hi⟩ := List.mem_iff_getElem?.1 hu
        rcases more_get hi with ⟨z, _, rfl⟩ | ⟨j, _, _, rfl⟩
        · show (1 : Nat) ≤ _; omega
        · rw [xname]; show (2 : Nat) ≤ _; omega
      have hBw := Below.then hB1 hB
      obtain ⟨us, hus⟩ : ∃ us, moreU l k = us := ⟨_, rfl⟩
      rw [hus] at hoK hck hlm hszm
      simp only [hus] at hokA
      obtain ⟨ln, hln⟩ : ∃ ln, us.length = ln := ⟨_, rfl⟩
      rw [hln] at hck hlm
      have hln28 : ln ≤ 28 := by omega
      obtain ⟨a7, c7, rfl, hc7, hU7⟩ := hoK.slice
      rw [hln] at hoK hc7 ⊢
      have cC := fun p q W hW => ucheck_any p us ln q hln hszm W hW
      simp only [hck] at cC
      have cC7 := cC a7 c7 _ hU7
      clear hlm hus ho30 hB13
      by_cases h16 : 16 < ln
      · rw [if_pos h16] at cC7
        have i16 : ¬ (ln : Int) ≤ 16 := by omega
        have i16' : (16 : Int) < (ln : Int) := by omega
        have i2 : ¬ (ln : Int) < 2 := by omega
        clear cC hokA
        as_aux_lemma =>
          go_wp2_with fail
          refine (cC7).mono ?_
          rintro e w4 ⟨rfl, hB4⟩
          go_wp2_with fail
          go_ret
          exact ⟨rfl, Below.then hBw hB4⟩
      rw [if_neg h16] at cC7
      simp only [if_neg h16] at cC
      have i16 : (ln : Int) ≤ 16 := by omega
      have i16' : ¬ (16 : Int) < (ln : Int) := by omega
      by_cases h2 : ln < 2
      · have i2 : (ln : Int) < 2 := by omega
        clear cC hokA
        as_aux_lemma =>
          go_wp2_with fail
          refine (cC7).mono ?_
          rintro e w4 ⟨rfl, hB4⟩
          go_wp2_with fail
          go_ret
          exact ⟨rfl, Below.then hBw hB4⟩
      have i2 : ¬ (ln : Int) < 2 := by omega
      obtain ⟨q, hq⟩ : ∃ q : Nat, x % ((ln : Int) - 1) = (q : Int) := ⟨(x % ((ln : Int) - 1)).toNat, by have := Int.emod_nonneg x (show ((ln : Int) - 1) ≠ 0 by omega); omega⟩
      have hq1 : q + 1 < ln := by have := Int.emod_lt_of_pos x (show (0 : Int) < ((ln : Int) - 1) by omega); omega
      have cW2 := fun W => w9_any x ((ln : Int) - 1) (by omega) (by omega) W
      rw [hq] at cW2
      obtain ⟨u, hu⟩ : ∃ u, us[q]? = some u := ⟨_, List.getElem?_eq_getElem (by omega)⟩
      obtain ⟨v, hv⟩ : ∃ v, us[q + 1]? = some v := ⟨_, List.getElem?_eq_getElem (by omega)⟩
      have hokq := hokA (q + 1) (by omega)
      have hswap := swap_bad hokq hu hv (by omega)
      have hsame := same_bad hu hv (by omega)
      obtain ⟨y7, rfl, _⟩ := hU7 q u hu
      clear hokA hokq cC hck hq
      go_wp2_with fail
      refine (cC7).mono ?_
      rintro e w4 ⟨rfl, hB4⟩
      have hBw4 := Below.then hBw hB4
      have hU4 := hU7.below hB4
      go_wp2_with fail
      refine (cW2 _).mono ?_
      rintro e w' ⟨rfl, hw'⟩
      have hw' := hw'.symm
      subst hw'
      obtain ⟨vx, w5, hap5, ho5, hB5⟩ := append_usrs (w4.alloc (.cells #[] 40)) w4.heap.size (.slice (some ⟨w4.heap.size, 0, none⟩) 0 0) [] y7 ln c7 us (hU4.below (alloc_below _ _)) hln (ownU_made w4 _ (Nat.le_refl _)) (by simp) (by simp) (by omega)
      rw [List.nil_append] at ho5
      have hB45 : Below w4.heap.size w4 w5 := (alloc_below _ _).trans hB5
      have hune : us ≠ [] := fun e => by rw [e] at hln; simp at hln; omega
      obtain ⟨g, capx, rfl, hgb, hgl, hcx, hfx⟩ := ho5.row hune
      rw [hln] at hap5 ho5
      have hU5 := hU4.below hB45
      have hBw5 := Below.then hBw4 hB45
      clear cC7 hB5 hU7 hBw hoK
      go_wp2_with (first | (refine wpList_append_usr rfl _ _ rfl rfl rfl rfl hap5 ?_) | fail)
      have hfx' : ∀ o, w5.drew.frozen? ⟨g, o, none⟩ = false := hfx
      have p0 : w5.drew.cell? ⟨g, q * 8, none⟩ = some (.string u.name) := hcx q u hu 0 (by omega)
      have p1 : w5.drew.cell? ⟨g, q * 8 + 1, none⟩ = some (.int .i64 u.salt) := hcx q u hu 1 (by omega)
      have p2 : w5.drew.cell? ⟨g, q * 8 + 2, none⟩ = some (.int .u64 (u.hash : Int)) := hcx q u hu 2 (by omega)
      have p3 : w5.drew.cell? ⟨g, q * 8 + 3, none⟩ = some (.int .i64 u.clear.s) := hcx q u hu 3 (by omega)
      have p4 : w5.drew.cell? ⟨g, q * 8 + 4, none⟩ = some (.int .i64 u.clear.c) := hcx q u hu 4 (by omega)
      have p5 : w5.drew.cell? ⟨g, q * 8 + 5, none⟩ = some (.int .i64 u.clear.i) := hcx q u hu 5 (by omega)
      have p6 : w5.drew.cell? ⟨g, q * 8 + 6, none⟩ = some (.int .i64 u.clear.k) := hcx q u hu 6 (by omega)
      have p7 : w5.drew.cell? ⟨g, q * 8 + 7, none⟩ = some (.bool u.off) := hcx q u hu 7 (by omega)
      have r0 : w5.drew.cell? ⟨g, (q + 1) * 8, none⟩ = some (.string v.name) := hcx (q + 1) v hv 0 (by omega)
      have r1 : w5.drew.cell? ⟨g, (q + 1) * 8 + 1, none⟩ = some (.int .i64 v.salt) := hcx (q + 1) v hv 1 (by omega)
      have r2 : w5.drew.cell? ⟨g, (q + 1) * 8 + 2, none⟩ = some (.int .u64 (v.hash : Int)) := hcx (q + 1) v hv 2 (by omega)
      have r3 : w5.drew.cell? ⟨g, (q + 1) * 8 + 3, none⟩ = some (.int .i64 v.clear.s) := hcx (q + 1) v hv 3 (by omega)
      have r4 : w5.drew.cell? ⟨g, (q + 1) * 8 + 4, none⟩ = some (.int .i64 v.clear.c) := hcx (q + 1) v hv 4 (by omega)
      have r5 : w5.drew.cell? ⟨g, (q + 1) * 8 + 5, none⟩ = some (.int .i64 v.clear.i) := hcx (q + 1) v hv 5 (by omega)
      have r6 : w5.drew.cell? ⟨g, (q + 1) * 8 + 6, none⟩ = some (.int .i64 v.clear.k) := hcx (q + 1) v hv 6 (by omega)
      have r7 : w5.drew.cell? ⟨g, (q + 1) * 8 + 7, none⟩ = some (.bool v.off) := hcx (q + 1) v hv 7 (by omega)
      have d1 : IntKind.i64.wrap ((q : Int) + 1) = (q : Int) + 1 := Go.IntWalk.i64_in _ (by omega)
      have hq0 : q < ln := by omega
      have hq2 : (q : Int) + 1 < (ln : Int) := by omega
      have hq3 : (0 : Int) ≤ (q : Int) + 1 := by omega
      refine wp_region_held_drew (S := (fun _ => True)) (by kernel_rfl) (by trivial) ?_
      intro hHeld
      refine wpAnyH_take (i := 0) (v := ?_) (by simp only [List.getElem?_toArray, List.getElem?_cons_zero, List.getElem?_cons_succ]; rfl) (by kernel_rfl) (by kernel_rfl) (by kernel_rfl) (by exact fun _ _ _ h => h) (Or.inl ⟨by rfl, ?_⟩) (by assumption) ?_; rotate_left; (focus (intro w hSw; (try dsimp only at hSw); go_simp; try with_reducible rfl)); (try simp only [Act.put, List.setIfInBounds_toArray, List.set_cons_zero, List.set_cons_succ])
      refine wpAnyH_take (i := 1) (v := ?_) (by simp only [List.getElem?_toArray, List.getElem?_cons_zero, List.getElem?_cons_succ]; rfl) (by kernel_rfl) (by kernel_rfl) (by kernel_rfl) (by exact fun _ _ _ h => h) (Or.inl ⟨by rfl, ?_⟩) (by assumption) ?_; rotate_left; (focus (intro w hSw; (try dsimp only at hSw); go_simp; try with_reducible rfl)); (try simp only [Act.put, List.setIfInBounds_toArray, List.set_cons_zero, List.set_cons_succ])
      refine wpAnyH_take (i := 2) (v := ?_) (by simp only [List.getElem?_toArray, List.getElem?_cons_zero, List.getElem?_cons_succ]; rfl) (by kernel_rfl) (by kernel_rfl) (by kernel_rfl) (by exact fun _ _ _ h => h) (Or.inl ⟨by rfl, ?_⟩) (by assumption) ?_; rotate_left; (focus (intro w hSw; (try dsimp only at hSw); go_simp; try with_reducible rfl)); (try simp only [Act.put, List.setIfInBounds_toArray, List.set_cons_zero, List.set_cons_succ])
      refine wpAnyH_take (i := 3) (v := ?_) (by simp only [List.getElem?_toArray, List.getElem?_cons_zero, List.getElem?_cons_succ]; rfl) (by kernel_rfl) (by kernel_rfl) (by kernel_rfl) (by exact fun _ _ _ h => h) (Or.inl ⟨by rfl, ?_⟩) (by assumption) ?_; rotate_left; (focus (intro w hSw; (try dsimp only at hSw); go_simp; try with_reducible rfl)); (try simp only [Act.put, List.setIfInBounds_toArray, List.set_cons_zero, List.set_cons_succ])
      refine wpAnyH_take (i := 4) (v := ?_) (by simp only [List.getElem?_toArray, List.getElem?_cons_zero, List.getElem?_cons_succ]; rfl) (by kernel_rfl) (by kernel_rfl) (by kernel_rfl) (by exact fun _ _ _ h => h) (Or.inl ⟨by rfl, ?_⟩) (by assumption) ?_; rotate_left; (focus (intro w hSw; (try dsimp only at hSw); go_simp; try with_reducible rfl)); (try simp only [Act.put, List.setIfInBounds_toArray, List.set_cons_zero, List.set_cons_succ])
      refine wpAnyH_take (i := 5) (v := ?_) (by simp only [List.getElem?_toArray, List.getElem?_cons_zero, List.getElem?_cons_succ]; rfl) (by kernel_rfl) (by kernel_rfl) (by kernel_rfl) (by exact fun _ _ _ h => h) (Or.inl ⟨by rfl, ?_⟩) (by assumption) ?_; rotate_left; (focus (intro w hSw; (try dsimp only at hSw); go_simp; try with_reducible rfl)); (try simp only [Act.put, List.setIfInBounds_toArray, List.set_cons_zero, List.set_cons_succ])
      refine wpAnyH_take (i := 6) (v := ?_) (by simp only [List.getElem?_toArray, List.getElem?_cons_zero, List.getElem?_cons_succ]; rfl) (by kernel_rfl) (by kernel_rfl) (by kernel_rfl) (by exact fun _ _ _ h => h) (Or.inl ⟨by rfl, ?_⟩) (by assumption) ?_; rotate_left; (focus (intro w hSw; (try dsimp only at hSw); go_simp; try with_reducible rfl)); (try simp only [Act.put, List.setIfInBounds_toArray, List.set_cons_zero, List.set_cons_succ])
      refine wpAnyH_take (i := 7) (v := ?_) (by simp only [List.getElem?_toArray, List.getElem?_cons_zero, List.getElem?_cons_succ]; rfl) (by kernel_rfl) (by kernel_rfl) (by kernel_rfl) (by exact fun _ _ _ h => h) (Or.inl ⟨by rfl, ?_⟩) (by assumption) ?_; rotate_left; (focus (intro w hSw; (try dsimp only at hSw); go_simp; try with_reducible rfl)); (try simp only [Act.put, List.setIfInBounds_toArray, List.set_cons_zero, List.set_cons_succ])
      refine wpAnyH_take (i := 8) (v := ?_) (by simp only [List.getElem?_toArray, List.getElem?_cons_zero, List.getElem?_cons_succ]; rfl) (by kernel_rfl) (by kernel_rfl) (by kernel_rfl) (by exact fun _ _ _ h => h) (Or.inl ⟨by rfl, ?_⟩) (by assumption) ?_; rotate_left; (focus (intro w hSw; (try dsimp only at hSw); go_simp; try with_reducible rfl)); (try simp only [Act.put, List.setIfInBounds_toArray, List.set_cons_zero, List.set_cons_succ])
      refine wpAnyH_take (i := 10) (v := ?_) (by simp only [List.getElem?_toArray, List.getElem?_cons_zero, List.getElem?_cons_succ]; rfl) (by kernel_rfl) (by kernel_rfl) (by kernel_rfl) (by exact fun _ _ _ h => h) (Or.inl ⟨by rfl, ?_⟩) (by assumption) ?_; rotate_left; (focus (intro w hSw; (try dsimp only at hSw); go_simp; try with_reducible rfl)); (try simp only [Act.put, List.setIfInBounds_toArray, List.set_cons_zero, List.set_cons_succ])
      refine wpAnyH_take (i := 11) (v := ?_) (by simp only [List.getElem?_toArray, List.getElem?_cons_zero, List.getElem?_cons_succ]; rfl) (by kernel_rfl) (by kernel_rfl) (by kernel_rfl) (by exact fun _ _ _ h => h) (Or.inl ⟨by rfl, ?_⟩) (by assumption) ?_; rotate_left; (focus (intro w hSw; (try dsimp only at hSw); go_simp; try with_reducible rfl)); (try simp only [Act.put, List.setIfInBounds_toArray, List.set_cons_zero, List.set_cons_succ])
      refine wpAnyH_take (i := 12) (v := ?_) (by simp only [List.getElem?_toArray, List.getElem?_cons_zero, List.getElem?_cons_succ]; rfl) (by kernel_rfl) (by kernel_rfl) (by kernel_rfl) (by exact fun _ _ _ h => h) (Or.inl ⟨by rfl, ?_⟩) (by assumption) ?_; rotate_left; (focus (intro w hSw; (try dsimp only at hSw); go_simp; try with_reducible rfl)); (try simp only [Act.put, List.setIfInBounds_toArray, List.set_cons_zero, List.set_cons_succ])
      refine wpAnyH_ready (rs := [9, 13]) (by kernel_rfl) (by simp) ?_
      refine AllReadyH.cons (by simp only [List.getElem?_toArray, List.getElem?_cons_zero, List.getElem?_cons_succ]; rfl) (fun K hK => ?_) ?_
      · go_simp
        refine hK.out _ _ (by trivial) ?_
        clear hHeld hK
        intro hHeld
        (try simp only [Act.put, List.setIfInBounds_toArray, List.set_cons_zero, List.set_cons_succ])
        refine wpAnyH_ready (rs := [13]) (by kernel_rfl) (by simp) ?_
        refine AllReadyH.cons (by simp only [List.getElem?_toArray, List.getElem?_cons_zero, List.getElem?_cons_succ]; rfl) (fun K hK => ?_) AllReadyH.nil
        go_simp
        refine hK.out _ _ (by trivial) ?_
        clear hHeld hK
        intro hHeld
        (try simp only [Act.put, List.setIfInBounds_toArray, List.set_cons_zero, List.set_cons_succ])
        refine wpAnyH_take (i := 14) (v := ?_) (by simp only [List.getElem?_toArray, List.getElem?_cons_zero, List.getElem?_cons_succ]; rfl) (by kernel_rfl) (by kernel_rfl) (by kernel_rfl) (by exact fun _ _ _ h => h) (Or.inl ⟨by rfl, ?_⟩) (by assumption) ?_; rotate_left; (focus (intro w hSw; (try dsimp only at hSw); go_simp; try with_reducible rfl)); (try simp only [Act.put, List.setIfInBounds_toArray, List.set_cons_zero, List.set_cons_succ])
        refine wpAnyH_ready (rs := [15]) (by kernel_rfl) (by simp) ?_
        refine AllReadyH.cons (by simp only [List.getElem?_toArray, List.getElem?_cons_zero, List.getElem?_cons_succ]; rfl) (fun K hK => ?_) AllReadyH.nil
        go_simp
        refine hK.out _ _ (by trivial) ?_
        clear hHeld hK
        intro hHeld
        obtain ⟨W6, hW6⟩ : ∃ W6, (((((((((w5.setCell ⟨g, q * 8, none⟩ (.string v.name)).setCell ⟨g, q * 8 + 1, none⟩ (.int .i64 v.salt)).setCell ⟨g, q * 8 + 2, none⟩ (.int .u64 (v.hash : Int))).setCell ⟨g, q * 8 + 3, none⟩ (.int .i64 v.clear.s)).setCell ⟨g, q * 8 + 4, none⟩ (.int .i64 v.clear.c)).setCell ⟨g, q * 8 + 5, none⟩ (.int .i64 v.clear.i)).setCell ⟨g, q * 8 + 6, none⟩ (.int .i64 v.clear.k)).setCell ⟨g, q * 8 + 7, none⟩ (.bool v.off))).drew = W6 := ⟨_, rfl⟩
        rw [hW6]
        have hW6d : (w5.setCells g (q * 8) (ucells v).toList).drew = W6 := hW6
        have hcx6 : ∀ i, i < 8 → W6.cell? ⟨g, (q + 1) * 8 + i, none⟩ = (ucells v).toList[i]? := by rw [← hW6d]; exact after_one hcx hv
        have t0 : W6.cell? ⟨g, (q + 1) * 8, none⟩ = some (.string v.name) := hcx6 0 (by omega)
        have t1 : W6.cell? ⟨g, (q + 1) * 8 + 1, none⟩ = some (.int .i64 v.salt) := hcx6 1 (by omega)
        have t2 : W6.cell? ⟨g, (q + 1) * 8 + 2, none⟩ = some (.int .u64 (v.hash : Int)) := hcx6 2 (by omega)
        have t3 : W6.cell? ⟨g, (q + 1) * 8 + 3, none⟩ = some (.int .i64 v.clear.s) := hcx6 3 (by omega)
        have t4 : W6.cell? ⟨g, (q + 1) * 8 + 4, none⟩ = some (.int .i64 v.clear.c) := hcx6 4 (by omega)
        have t5 : W6.cell? ⟨g, (q + 1) * 8 + 5, none⟩ = some (.int .i64 v.clear.i) := hcx6 5 (by omega)
        have t6 : W6.cell? ⟨g, (q + 1) * 8 + 6, none⟩ = some (.int .i64 v.clear.k) := hcx6 6 (by omega)
        have t7 : W6.cell? ⟨g, (q + 1) * 8 + 7, none⟩ = some (.bool v.off) := hcx6 7 (by omega)
        have hf6 : ∀ o, W6.frozen? ⟨g, o, none⟩ = false := by rw [← hW6d]; exact free_one hfx
        clear hW6 p0 p1 p2 p3 p4 p5 p6 p7 r0 r1 r2 r3 r4 r5 r6 r7
        (try simp only [Act.put, List.setIfInBounds_toArray, List.set_cons_zero, List.set_cons_succ])
        refine wpAnyH_take (i := 16) (v := ?_) (by simp only [List.getElem?_toArray, List.getElem?_cons_zero, List.getElem?_cons_succ]; rfl) (by kernel_rfl) (by kernel_rfl) (by kernel_rfl) (by exact fun _ _ _ h => h) (Or.inl ⟨by rfl, ?_⟩) (by assumption) ?_; rotate_left; (focus (intro w hSw; (try dsimp only at hSw); go_simp; try with_reducible rfl)); (try simp only [Act.put, List.setIfInBounds_toArray, List.set_cons_zero, List.set_cons_succ])
        refine wpAnyH_ready (rs := [17]) (by kernel_rfl) (by simp) ?_
        refine AllReadyH.cons (by simp only [List.getElem?_toArray, List.getElem?_cons_zero, List.getElem?_cons_succ]; rfl) (fun K hK => ?_) AllReadyH.nil
        go_simp
        refine hK.out _ _ (by trivial) ?_
        clear hHeld hK
        intro hHeld
        (try simp only [Act.put, List.setIfInBounds_toArray, List.set_cons_zero, List.set_cons_succ])
        refine wpAnyH_done (by kernel_rfl) ?_ _
        as_aux_lemma =>
          obtain ⟨W7, hW7⟩ : ∃ W7, ((((((((W6.setCell ⟨g, (q + 1) * 8, none⟩ (.string u.name)).setCell ⟨g, (q + 1) * 8 + 1, none⟩ (.int .i64 u.salt)).setCell ⟨g, (q + 1) * 8 + 2, none⟩ (.int .u64 (u.hash : Int))).setCell ⟨g, (q + 1) * 8 + 3, none⟩ (.int .i64 u.clear.s)).setCell ⟨g, (q + 1) * 8 + 4, none⟩ (.int .i64 u.clear.c)).setCell ⟨g, (q + 1) * 8 + 5, none⟩ (.int .i64 u.clear.i)).setCell ⟨g, (q + 1) * 8 + 6, none⟩ (.int .i64 u.clear.k)).setCell ⟨g, (q + 1) * 8 + 7, none⟩ (.bool u.off)) = W7 := ⟨_, rfl⟩
          rw [hW7]
          have hW7d : W6.setCells g ((q + 1) * 8) (ucells u).toList = W7 := hW7
          obtain ⟨hB47, hUx⟩ := swapped hB45 hgb hcx hu hv
          rw [hW6d, hW7d] at hB47 hUx
          have hBw7 := Below.then hBw4 hB47
          have hU7 := hU4.below hB47
          obtain ⟨vy, w8, hap8, ho8, hB8⟩ := append_usrs (W7.alloc (.cells #[] 40)) W7.heap.size (.slice (some ⟨W7.heap.size, 0, none⟩) 0 0) [] y7 ln c7 us (hU7.below (alloc_below _ _)) hln (ownU_made W7 _ (Nat.le_refl _)) (by simp) (by simp) (by omega)
          rw [List.nil_append] at ho8
          have hB78 : Below W7.heap.size W7 w8 := (alloc_below _ _).trans hB8
          obtain ⟨g2, capy, rfl, hgb2, hgl2, hcy, hfy⟩ := ho8.row hune
          rw [hln] at hap8
          have y0 : w8.cell? ⟨g2, q * 8, none⟩ = some (.string u.name) := hcy q u hu 0 (by omega)
          have y1 : w8.cell? ⟨g2, (q + 1) * 8, none⟩ = some (.string v.name) := hcy (q + 1) v hv 0 (by omega)
          have hB79 : Below W7.heap.size W7 (w8.setCell ⟨g2, (q + 1) * 8, none⟩ (.string u.name)) := hB78.setCell (p := ⟨g2, (q + 1) * 8, none⟩) hgb2 _
          have hUy : UsrsAt (w8.setCell ⟨g2, (q + 1) * 8, none⟩ (.string u.name)) (some ⟨g2, 0, none⟩) (us.set (q + 1) { v with name := u.name }) := usrs_of_cells (name_cells hcy hv)
          have cX := ucheck_any (some ⟨g, 0, none⟩) ((us.set q v).set (q + 1) u) ln capx (by rw [List.length_set, List.length_set]; exact hln) (fun z hz => by
            rcases List.mem_or_eq_of_mem_set hz with hz | rfl
            · rcases List.mem_or_eq_of_mem_set hz with hz | rfl
              · exact hszm z hz
              · exact hszm _ (List.mem_of_getElem? hv)
            · exact hszm _ (List.mem_of_getElem? hu)) _ (hUx.below hB79)
          have cY := fun W hW => ucheck_any (some ⟨g2, 0, none⟩) (us.set (q + 1) { v with name := u.name }) ln capy (by rw [List.length_set]; exact hln) (fun z hz => by
            rcases List.mem_or_eq_of_mem_set hz with hz | rfl
            · exact hszm z hz
            · exact hszm u (List.mem_of_getElem? hu)) W hW
          rw [hswap] at cX
          simp only [hsame] at cY
          clear hswap hsame hcx hfx hfx' hcx6 hf6 t0 t1 t2 t3 t4 t5 t6 t7 hW6d hW7 hW7d hUx hcy ho8 hB8 hU7 hB47 hU4 hszm
          go_wp2_with (first | (refine wpList_append_usr rfl _ _ rfl rfl rfl rfl hap8 ?_) | fail)
          refine cX.mono ?_
          rintro e w10 ⟨rfl, hB10⟩
          have cY10 := cY _ (hUy.below hB10)
          clear cX cY
          go_wp2_with fail
          refine cY10.mono ?_
          rintro e w11 ⟨rfl, hB11⟩
          go_wp2_with fail
          go_ret
          exact ⟨by simp, Below.then (Below.then (Below.then hBw7 hB79) hB10) hB11⟩
      refine AllReadyH.cons (by simp only [List.getElem?_toArray, List.getElem?_cons_zero, List.getElem?_cons_succ]; rfl) (fun K hK => ?_) AllReadyH.nil
      go_simp
      refine hK.out _ _ (by trivial) ?_
      clear hHeld hK
      intro hHeld
      (try simp only [Act.put, List.setIfInBounds_toArray, List.set_cons_zero, List.set_cons_succ])
      refine wpAnyH_ready (rs := [9]) (by kernel_rfl) (by simp) ?_
      refine AllReadyH.cons (by simp only [List.getElem?_toArray, List.getElem?_cons_zero, List.getElem?_cons_succ]; rfl) (fun K hK => ?_) AllReadyH.nil
      go_simp
      refine hK.out _ _ (by trivial) ?_
      clear hHeld hK
      intro hHeld
      (try simp only [Act.put, List.setIfInBounds_toArray, List.set_cons_zero, List.set_cons_succ])
      refine wpAnyH_take (i := 14) (v := ?_) (by simp only [List.getElem?_toArray, List.getElem?_cons_zero, List.getElem?_cons_succ]; rfl) (by kernel_rfl) (by kernel_rfl) (by kernel_rfl) (by exact fun _ _ _ h => h) (Or.inl ⟨by rfl, ?_⟩) (by assumption) ?_; rotate_left; (focus (intro w hSw; (try dsimp only at hSw); go_simp; try with_reducible rfl)); (try simp only [Act.put, List.setIfInBounds_toArray, List.set_cons_zero, List.set_cons_succ])
      refine wpAnyH_ready (rs := [15]) (by kernel_rfl) (by simp) ?_
      refine AllReadyH.cons (by simp only [List.getElem?_toArray, List.getElem?_cons_zero, List.getElem?_cons_succ]; rfl) (fun K hK => ?_) AllReadyH.nil
      go_simp
      refine hK.out _ _ (by trivial) ?_
      clear hHeld hK
      intro hHeld
      obtain ⟨W6, hW6⟩ : ∃ W6, (((((((((w5.setCell ⟨g, q * 8, none⟩ (.string v.name)).setCell ⟨g, q * 8 + 1, none⟩ (.int .i64 v.salt)).setCell ⟨g, q * 8 + 2, none⟩ (.int .u64 (v.hash : Int))).setCell ⟨g, q * 8 + 3, none⟩ (.int .i64 v.clear.s)).setCell ⟨g, q * 8 + 4, none⟩ (.int .i64 v.clear.c)).setCell ⟨g, q * 8 + 5, none⟩ (.int .i64 v.clear.i)).setCell ⟨g, q * 8 + 6, none⟩ (.int .i64 v.clear.k)).setCell ⟨g, q * 8 + 7, none⟩ (.bool v.off))).drew = W6 := ⟨_, rfl⟩
      rw [hW6]
      have hW6d : (w5.setCells g (q * 8) (ucells v).toList).drew = W6 := hW6
      have hcx6 : ∀ i, i < 8 → W6.cell? ⟨g, (q + 1) * 8 + i, none⟩ = (ucells v).toList[i]? := by rw [← hW6d]; exact after_one hcx hv
      have t0 : W6.cell? ⟨g, (q + 1) * 8, none⟩ = some (.string v.name) := hcx6 0 (by omega)
      have t1 : W6.cell? ⟨g, (q + 1) * 8 + 1, none⟩ = some (.int .i64 v.salt) := hcx6 1 (by omega)
      have t2 : W6.cell? ⟨g, (q + 1) * 8 + 2, none⟩ = some (.int .u64 (v.hash : Int)) := hcx6 2 (by omega)
      have t3 : W6.cell? ⟨g, (q + 1) * 8 + 3, none⟩ = some (.int .i64 v.clear.s) := hcx6 3 (by omega)
      have t4 : W6.cell? ⟨g, (q + 1) * 8 + 4, none⟩ = some (.int .i64 v.clear.c) := hcx6 4 (by omega)
      have t5 : W6.cell? ⟨g, (q + 1) * 8 + 5, none⟩ = some (.int .i64 v.clear.i) := hcx6 5 (by omega)
      have t6 : W6.cell? ⟨g, (q + 1) * 8 + 6, none⟩ = some (.int .i64 v.clear.k) := hcx6 6 (by omega)
      have t7 : W6.cell? ⟨g, (q + 1) * 8 + 7, none⟩ = some (.bool v.off) := hcx6 7 (by omega)
      have hf6 : ∀ o, W6.frozen? ⟨g, o, none⟩ = false := by rw [← hW6d]; exact free_one hfx
      clear hW6 p0 p1 p2 p3 p4 p5 p6 p7 r0 r1 r2 r3 r4 r5 r6 r7
      (try simp only [Act.put, List.setIfInBounds_toArray, List.set_cons_zero, List.set_cons_succ])
      refine wpAnyH_take (i := 16) (v := ?_) (by simp only [List.getElem?_toArray, List.getElem?_cons_zero, List.getElem?_cons_succ]; rfl) (by kernel_rfl) (by kernel_rfl) (by kernel_rfl) (by exact fun _ _ _ h => h) (Or.inl ⟨by rfl, ?_⟩) (by assumption) ?_; rotate_left; (focus (intro w hSw; (try dsimp only at hSw); go_simp; try with_reducible rfl)); (try simp only [Act.put, List.setIfInBounds_toArray, List.set_cons_zero, List.set_cons_succ])
      refine wpAnyH_ready (rs := [17]) (by kernel_rfl) (by simp) ?_
      refine AllReadyH.cons (by simp only [List.getElem?_toArray, List.getElem?_cons_zero, List.getElem?_cons_succ]; rfl) (fun K hK => ?_) AllReadyH.nil
      go_simp
      refine hK.out _ _ (by trivial) ?_
      clear hHeld hK
      intro hHeld
      (try simp only [Act.put, List.setIfInBounds_toArray, List.set_cons_zero, List.set_cons_succ])
      refine wpAnyH_done (by kernel_rfl) ?_ _
      as_aux_lemma =>
        obtain ⟨W7, hW7⟩ : ∃ W7, ((((((((W6.setCell ⟨g, (q + 1) * 8, none⟩ (.string u.name)).setCell ⟨g, (q + 1) * 8 + 1, none⟩ (.int .i64 u.salt)).setCell ⟨g, (q + 1) * 8 + 2, none⟩ (.int .u64 (u.hash : Int))).setCell ⟨g, (q + 1) * 8 + 3, none⟩ (.int .i64 u.clear.s)).setCell ⟨g, (q + 1) * 8 + 4, none⟩ (.int .i64 u.clear.c)).setCell ⟨g, (q + 1) * 8 + 5, none⟩ (.int .i64 u.clear.i)).setCell ⟨g, (q + 1) * 8 + 6, none⟩ (.int .i64 u.clear.k)).setCell ⟨g, (q + 1) * 8 + 7, none⟩ (.bool u.off)) = W7 := ⟨_, rfl⟩
        rw [hW7]
        have hW7d : W6.setCells g ((q + 1) * 8) (ucells u).toList = W7 := hW7
        obtain ⟨hB47, hUx⟩ := swapped hB45 hgb hcx hu hv
        rw [hW6d, hW7d] at hB47 hUx
        have hBw7 := Below.then hBw4 hB47
        have hU7 := hU4.below hB47
        obtain ⟨vy, w8, hap8, ho8, hB8⟩ := append_usrs (W7.alloc (.cells #[] 40)) W7.heap.size (.slice (some ⟨W7.heap.size, 0, none⟩) 0 0) [] y7 ln c7 us (hU7.below (alloc_below _ _)) hln (ownU_made W7 _ (Nat.le_refl _)) (by simp) (by simp) (by omega)
        rw [List.nil_append] at ho8
        have hB78 : Below W7.heap.size W7 w8 := (alloc_below _ _).trans hB8
        obtain ⟨g2, capy, rfl, hgb2, hgl2, hcy, hfy⟩ := ho8.row hune
        rw [hln] at hap8
        have y0 : w8.cell? ⟨g2, q * 8, none⟩ = some (.string u.name) := hcy q u hu 0 (by omega)
        have y1 : w8.cell? ⟨g2, (q + 1) * 8, none⟩ = some (.string v.name) := hcy (q + 1) v hv 0 (by omega)
        have hB79 : Below W7.heap.size W7 (w8.setCell ⟨g2, (q + 1) * 8, none⟩ (.string u.name)) := hB78.setCell (p := ⟨g2, (q + 1) * 8, none⟩) hgb2 _
        have hUy : UsrsAt (w8.setCell ⟨g2, (q + 1) * 8, none⟩ (.string u.name)) (some ⟨g2, 0, none⟩) (us.set (q + 1) { v with name := u.name }) := usrs_of_cells (name_cells hcy hv)
        have cX := ucheck_any (some ⟨g, 0, none⟩) ((us.set q v).set (q + 1) u) ln capx (by rw [List.length_set, List.length_set]; exact hln) (fun z hz => by
          rcases List.mem_or_eq_of_mem_set hz with hz | rfl
          · rcases List.mem_or_eq_of_mem_set hz with hz | rfl
            · exact hszm z hz
            · exact hszm _ (List.mem_of_getElem? hv)
          · exact hszm _ (List.mem_of_getElem? hu)) _ (hUx.below hB79)
        have cY := fun W hW => ucheck_any (some ⟨g2, 0, none⟩) (us.set (q + 1) { v with name := u.name }) ln capy (by rw [List.length_set]; exact hln) (fun z hz => by
          rcases List.mem_or_eq_of_mem_set hz with hz | rfl
          · exact hszm z hz
          · exact hszm u (List.mem_of_getElem? hu)) W hW
        rw [hswap] at cX
        simp only [hsame] at cY
        clear hswap hsame hcx hfx hfx' hcx6 hf6 t0 t1 t2 t3 t4 t5 t6 t7 hW6d hW7 hW7d hUx hcy ho8 hB8 hU7 hB47 hU4 hszm
        go_wp2_with (first | (refine wpList_append_usr rfl _ _ rfl rfl rfl rfl hap8 ?_) | fail)
        refine cX.mono ?_
        rintro e w10 ⟨rfl, hB10⟩
        have cY10 := cY _ (hUy.below hB10)
        clear cX cY
        go_wp2_with fail
        refine cY10.mono ?_
        rintro e w11 ⟨rfl, hB11⟩
        go_wp2_with fail
        go_ret
        exact ⟨by simp, Below.then (Below.then (Below.then hBw7 hB79) hB10) hB11⟩
end Go.Proofs.Ytagpjihhnnmhnaa
