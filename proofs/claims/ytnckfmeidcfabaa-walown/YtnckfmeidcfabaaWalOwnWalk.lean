/-
  WHAT IS HANDED IN, AND WHAT IS TOLD, IS NOBODY ELSE'S: the law's walk.
-/
import Derived.Test.YtnckfmeidcfabaaWalKnown
namespace Go.Proofs.Ytnckfmeidcfabaa
open Go.RowKit Go.Maps

theorem u8_wf {n : Int} (h : (Lit.int .u8 n).wf = true) : 0 ≤ n ∧ n < 256 := by
  have h2 : (decide (IntKind.u8.min ≤ n) && decide (n ≤ IntKind.u8.max)) = true := h
  have e1 : IntKind.u8.min = 0 := by decide
  have e2 : IntKind.u8.max = 255 := by decide
  rw [e1, e2] at h2
  simp at h2
  omega
theorem rep_byte (v : Int) (j : Nat) (hj : j < 128) : (List.replicate 128 v).getD j 0 = v := by
  rw [List.getD_eq_getElem?_getD, List.getElem?_replicate, if_pos hj]; rfl

set_option maxRecDepth 4000 in
set_option maxHeartbeats 4000000 in
theorem own_walk (v u : Int) (hv0 : 0 ≤ v) (hv1 : v < 256) (w : World) :
    Calls Try.prog 8 #[.int .u8 v, .int .u8 u] w fun e w' => e = .returned (.bool true) ∧ Below w.heap.size w w' := by
  have cK := known_any w
  go_enter Try.func8, Try.ntmps8
  go_wp2_with fail
  refine cK.mono ?_
  rintro e w0 ⟨rfl, k0⟩
  clear cK
  by_cases hu : u = 0
  · subst hu
    have hb : Below w.heap.size w w0 := k0.to_below (Nat.le_refl _) (by simp)
    go_wp2
    go_ret
    exact ⟨rfl, hb⟩
  have hu' : (u == 0) = false := by simpa using hu
  clear hu
  have cN := newDisk 60 (by decide) (by decide) w0
  go_wp2_with fail
  refine cN.mono ?_
  rintro e w1 ⟨db, pb, mb, rfl, hD, hdb, hpb, hmb, k1⟩
  clear cN
  have cO := open_fresh hD (by decide)
  go_wp2_with fail
  refine cO.mono ?_
  rintro e w2 ⟨lb, rfl, hlb, W2, k2⟩
  clear cO hD
  have k02 := k0.trans (k1.trans k2)
  obtain ⟨W0, g, hmk, r0, kg, hg0⟩ := made w2
  go_wp2_with fail
  clear hmk
  have hs0 := k0.size
  have hs1 := k1.size
  have lts := W2.lts
  have W3 := W2.kept kg (by simp) (by simp) (by simp) (by simp)
  have k03 := k02.trans kg
  clear W2 kg k02 k0 k1 k2
  go_loopw [10] (fun t wr => ∃ q : Int, 0 ≤ q ∧ q ≤ 128 ∧ t = .int .i64 q ∧ Row wr g (fillTo v q.toNat) ∧ Kept [g] W0 wr) (fun t _ => 128 - (Go.RowKit.intOf t).toNat)
  case atStart => exact ⟨0, by omega, by omega, rfl, by rw [Int.toNat_zero, fill_start]; exact r0, Kept.refl _ _⟩
  case round =>
    obtain ⟨q, hq0, hq1, rfl, hg, hkr⟩ := hrel
    by_cases hlt : q < 128
    · have c := row_cell hg q.toNat (by rw [fill_len v q.toNat (by omega)]; omega)
      have f := row_frozen hg q.toNat
      have hg' : Row (wr.setCell ⟨g, q.toNat, none⟩ (.int .u8 v)) g (fillTo v (q + 1).toNat) := by
        show (wr.setCell _ _).heap[g]? = _
        rw [heap_setCell_at _ hg, row_set, fill_step v q.toNat (by omega), show (q + 1).toNat = q.toNat + 1 by omega]
      have hk' : Kept [g] W0 (wr.setCell ⟨g, q.toNat, none⟩ (.int .u8 v)) := hkr.setCell (by simp) _
      generalize (fillTo v q.toNat).getD q.toNat 0 = x at c
      clear hg hkr r0 W3 k03
      go_wp2_with fail
      go_roundw
      case rel => exact ⟨q + 1, by omega, by omega, rfl, hg', hk'⟩
      case measure => simp [Go.RowKit.intOf]; omega
    · obtain rfl : q = 128 := by omega
      have W4 := W3.kept hkr (by simp; omega) (by simp; omega) (by simp; omega) (by simp; omega)
      have r4 : Row wr g (List.replicate 128 v) := by rw [← fill_end]; exact hg
      have k04 : Kept [] w wr := (k03.mono (by simp)).trans hkr |>.fewer (by have := k03.size; simp; omega)
      clear W3 hg r0 hkr
      have hl := rep_sec v hv0 hv1
      have hl0 := hl.1
      have hval : ∀ j, j < 128 → (List.replicate 128 v).getD j 0 = v := fun j hj => rep_byte v j hj
      obtain ⟨l, hll⟩ : ∃ l, List.replicate 128 v = l := ⟨_, rfl⟩
      rw [hll] at r4 hl hl0 hval
      clear hll
      obtain ⟨hp5, k5⟩ := one_put wr 50 g 128 l hl r4
      have W5 := W4.kept k5 (by simp) (by simp) (by simp) (by simp)
      have lt4 := W4.lts
      have gl := r4.lt
      have hs4 := k04.size
      have cC := commit_works W5 (by decide) wr.heap.size 1 _ hp5 (by simp) (by simp; omega) (by simp; omega) (one_good 60 50 l g 128 (by decide) (by decide)) (by decide)
      go_wp2_with fail
      refine cC.mono ?_
      rintro e w6 ⟨rfl, W6, k6⟩
      clear cC hp5 W5 W4
      have r6 := (r4.kept k5 (by simp)).kept k6 (by simp; omega)
      have k06 : Kept [] w w6 := ((k04.trans k5).mono (by simp)).trans k6 |>.fewer (by simp; omega)
      have hs6 := k06.size
      have lt6 := W6.lts
      have c0 := row_cell r6 0 (by omega)
      have f0 := row_frozen r6 0
      rw [hval 0 (by decide)] at c0
      have Wx : ∀ z, Works (w6.setCell ⟨g, 0, none⟩ z) lb db pb mb 60 _ _ 1 := fun z => W6.kept (S := [g]) ((Kept.refl _ _).setCell (by simp) _) (by simp; omega) (by simp; omega) (by simp; omega) (by simp; omega)
      have kx : ∀ z, Kept [] w (w6.setCell ⟨g, 0, none⟩ z) := fun z => k06.setCell_new (by simp; omega) _
      have cR := fun z => read_works (Wx z) 50 (by decide) (by decide)
      rw [show (50 : Int).toNat = 50 from rfl, one_after] at cR
      clear r4 k5 k6 W6 k06 r6
      go_wp2_with fail
      refine (cR _).mono ?_
      rintro e w7 ⟨gx, rfl, hgx, r7, _, W7, k7⟩
      have k07 : Kept [] w w7 := ((kx _).mono (by simp)).trans k7 |>.fewer (by simp; omega)
      clear cR Wx kx c0 f0 k7
      have hxs : ∀ j, j < 128 → ∃ z, w7.cell? ⟨gx, j, none⟩ = some (.int .u8 z) ∧ w7.frozen? ⟨gx, j, none⟩ = false := fun j hj => ⟨_, row_cell r7 j (by omega), row_frozen r7 j⟩
      have hgx' : w6.heap.size ≤ gx := by simpa [World.setCell] using hgx
      have hs7 := k07.size
      have lt7 := W7.lts
      clear hgx r7
      go_wp2_with fail
      go_loopw [14] (fun t wr => ∃ q : Int, 0 ≤ q ∧ q ≤ 128 ∧ t = .int .i64 q ∧ (∀ j, j < 128 → ∃ v, wr.cell? ⟨gx, j, none⟩ = some (.int .u8 v) ∧ wr.frozen? ⟨gx, j, none⟩ = false) ∧ Kept [gx] w7 wr) (fun t _ => 128 - (Go.RowKit.intOf t).toNat)
      case atStart => exact ⟨0, by omega, by omega, rfl, hxs, Kept.refl _ _⟩
      case round =>
        obtain ⟨q, hq0, hq1, rfl, hcs, hkr⟩ := hrel
        by_cases hlt : q < 128
        · obtain ⟨z, c, f⟩ := hcs q.toNat (by omega)
          have hcs' : ∀ u j, j < 128 → ∃ v, (wr.setCell ⟨gx, q.toNat, none⟩ (.int .u8 u)).cell? ⟨gx, j, none⟩ = some (.int .u8 v) ∧ (wr.setCell ⟨gx, q.toNat, none⟩ (.int .u8 u)).frozen? ⟨gx, j, none⟩ = false := fun u j hj => by
            obtain ⟨v', c', f'⟩ := hcs j hj
            rw [World.frozen?_setCell]
            by_cases e : j = q.toNat
            · subst e
              exact ⟨u, World.cell?_setCell_same _ _ _ c', f'⟩
            · exact ⟨v', by rw [World.cell?_setCell_other _ _ _ _ (by simp <;> omega)]; exact c', f'⟩
          have hk' : ∀ u, Kept [gx] w7 (wr.setCell ⟨gx, q.toNat, none⟩ (.int .u8 u)) := fun u => hkr.setCell (by simp) _
          clear hcs hkr W7 hxs hval
          go_wp2_with fail
          go_roundw
          case rel => exact ⟨q + 1, by omega, by omega, by first | rfl | go_num, hcs' _, hk' _⟩
          case measure => simp [Go.RowKit.intOf]; omega
        · obtain rfl : q = 128 := by omega
          have W8 := W7.kept hkr (by simp; omega) (by simp; omega) (by simp; omega) (by simp; omega)
          have k08 : Kept [] w wr := (k07.mono (by simp)).trans hkr |>.fewer (by simp; omega)
          have cR := read_works W8 50 (by decide) (by decide)
          rw [show (50 : Int).toNat = 50 from rfl, one_after] at cR
          have lt8 := W8.lts
          have hs8 := k08.size
          clear hcs hxs W7 hkr
          go_wp2_with fail
          refine cR.mono ?_
          rintro e w9 ⟨gy, rfl, hgy, r9, _, W9, k9⟩
          have k09 : Kept [] w w9 := (k08.mono (by simp)).trans k9 |>.fewer (by simp; omega)
          have hb : Below w.heap.size w w9 := k09.to_below (Nat.le_refl _) (by simp)
          clear cR W8 W9 k9 k09
          go_wp2_with fail
          go_loopw [17] (fun t wr => ∃ q : Int, 0 ≤ q ∧ q ≤ 128 ∧ t = .int .i64 q ∧ wr = w9) (fun t _ => 128 - (Go.RowKit.intOf t).toNat)
          case atStart => exact ⟨0, by omega, by omega, rfl, rfl⟩
          case round =>
            obtain ⟨q, hq0, hq1, rfl, rfl⟩ := hrel
            by_cases hlt : q < 128
            · have c := row_cell r9 q.toNat (by omega)
              rw [hval q.toNat (by omega)] at c
              clear hval r9
              go_wp2_with fail
              go_roundw
              case rel => exact ⟨q + 1, by omega, by omega, by first | rfl | go_num, by trivial⟩
              case measure => simp [Go.RowKit.intOf]; omega
            · obtain rfl : q = 128 := by omega
              clear hval r9
              go_wp2
              go_ret
              exact ⟨rfl, hb⟩
end Go.Proofs.Ytnckfmeidcfabaa
