/-
  WHAT WAS WRITTEN, AND READ, IS NOBODY ELSE'S: the law's walk.
-/
import Derived.Test.YtinelibfnnnbdaaDiskSector
import Derived.Test.YtinelibfnnnbdaaLastBase
namespace Go.Proofs.Ytinelibfnnnbdaa
open Go.RowKit Go.Maps

theorem row_some {w : World} {g : Nat} {l : List Int} {t : TypeId} (hl : l.length = 128) (hb : w.heap[g]? = some (.cells (rowOf l) t (0, 0))) : ∀ j, j < 128 → ∃ v, w.cell? ⟨g, j, none⟩ = some (.int .u8 v) ∧ w.frozen? ⟨g, j, none⟩ = false :=
  fun j hj => ⟨_, row_cell hb j (by omega), row_frozen hb j⟩
theorem BytesAt.some {w : World} {g : Nat} {l : List Int} (h : BytesAt w g 128 l) : ∀ j, j < 128 → ∃ v, w.cell? ⟨g, j, none⟩ = some (.int .u8 v) ∧ w.frozen? ⟨g, j, none⟩ = false := fun j hj => by
  have h1 := h.cells j (.int .u8 (l.getD j 0)) (by simp [cellsOf, h.size, hj])
  have h2 := (h.writes j hj).2
  rw [Nat.zero_add] at h1 h2
  exact ⟨_, h1, h2⟩

theorem own_read (l : List Int) (pl : Nat → List Int) : newestOf ((DataW.map []).put (.int .i64 2) (.held l)) pl 2 = l := rfl
theorem own_other : newestOf (.map []) (fun _ => zeros) 2 = zeros := rfl

set_option maxRecDepth 20000 in
set_option maxHeartbeats 8000000 in
theorem own_walk (a0 : Option Addr) (len0 cap0 : Nat) (z : List Int) (bz : Int) (w : World) (hB : IsBytes w a0 len0 cap0 z) (hbig : 1 + len0 ≤ 140737488355328) :
    Calls Try.prog 6 #[.slice a0 len0 cap0, .int .u8 bz] w fun e w' => e = .returned (.bool true) ∧ Below w.heap.size w w' := by
  have cK := known_any w
  go_enter Try.func6, Try.ntmps6
  go_wp2_with fail
  refine cK.mono ?_
  rintro e w1 ⟨rfl, hk1⟩
  clear cK
  -- the first row: [3]
  obtain ⟨V1, hV1⟩ : ∃ V1, w1.alloc (.cells #[.int .u8 3] 5) = V1 := ⟨_, rfl⟩
  have hb1 : V1.heap[w1.heap.size]? = some (.cells (rowOf [3]) 5 (0, 0)) := by rw [← hV1]; exact heap_alloc_new w1 _
  have kV1 : Kept [] w V1 := by rw [← hV1]; exact hk1.alloc _
  have hB1 : BytesAt V1 w1.heap.size 1 [3] := ⟨row_range hb1, fun j hj => ⟨by rw [Nat.zero_add, row_cell hb1 j (by simpa using hj)]; rfl, row_frozen hb1 _⟩, rfl, by simp, (Array.getElem?_eq_some_iff.1 hb1).1⟩
  have hzl : (z.take len0).length = len0 := by
    rcases hB with ⟨_, h, _, h2⟩ | ⟨x, _, h1, _, h3, _⟩
    · rw [h2, h]; rfl
    · rw [List.length_take]; omega
  have hzc : ∀ j, j < len0 → ∃ ad, a0 = some ad ∧ V1.cell? (ad.add j) = some (.int .u8 ((z.take len0).getD j 0)) := by
    intro j hj
    rcases hB with ⟨_, h, _⟩ | ⟨x, e, h1, _, h3, h4, _⟩
    · omega
    · have hc := h4 j (by omega)
      refine ⟨x, e, ?_⟩
      rw [World.cell?_of_block (kV1.block _ (World.block_lt_of_cell? w _ hc) (by simp)), hc]
      simp [hj]
  have hz0 : a0 = none → len0 = 0 ∧ cap0 = 0 := by
    rcases hB with ⟨_, h, h2, _⟩ | ⟨x, e, _⟩
    · exact fun _ => ⟨h, h2⟩
    · rw [e]; intro h; cases h
  have hzo : ∀ x ∈ z.take len0, 0 ≤ x ∧ x < 256 := by
    intro y hy
    rcases hB with ⟨_, _, _, h⟩ | ⟨x, _, _, _, _, _, h6⟩
    · rw [h] at hy; simp at hy
    · exact byte_wf (h6 y (List.mem_of_mem_take hy))
  obtain ⟨g2, cap2, V2, happ, hB2, kV2, _⟩ := append_any V1 w1.heap.size 1 [3] hB1 a0 len0 cap0 (z.take len0) hzl hbig hzc hz0 hzo
  clear hB hzl hzc hz0 hzo hB1 hb1
  have kw2 : Kept [] w V2 := kV1.trans kV2
  clear kV2 kV1 hk1
  generalize [3] ++ z.take len0 = l2 at hB2
  have cS := sector_any g2 (1 + len0) cap2 l2 V2 hB2 (by omega)
  go_wp2_with (first
    | (refine wpList_append_to rfl _ _ rfl rfl rfl rfl happ ?_)
    | fail)
  refine cS.mono ?_
  rintro e w3 ⟨gx, lenx, cx, lx, rfl, hX, kS, _⟩
  clear cS hB2 happ hV1
  have kw3 : Kept [] w w3 := kw2.trans kS
  clear kw2 kS
  have hb3 : Below w.heap.size w w3 := kw3.to_below (Nat.le_refl _) (by simp)
  have hs3 := kw3.size
  by_cases h128 : lenx = 128
  · subst h128
    by_cases hby : bz = 0
    · subst hby
      go_wp2_with fail
      go_ret
      exact ⟨rfl, hb3⟩
    · have hby' : (bz == 0) = false := by simpa using hby
      have hsx : Sec lx := ⟨hX.size, hX.ok⟩
      have cN := new_ex 4 (by decide) (by decide) w3
      go_wp2_with fail
      refine cN.mono ?_
      rintro e w4 ⟨db, pb, mb, rfl, dD, hdb, hpb, hmb, kN⟩
      clear cN
      have hX4 := hX.kept kN (by simp)
      have kw4 : Kept [] w w4 := kw3.trans kN
      have hxl := hX.lt
      have cO := new_ex 4 (by decide) (by decide) w4
      go_wp2_with fail
      refine cO.mono ?_
      rintro e w5 ⟨ob, qb, nb, rfl, dO, hob, hqb, hnb, kO⟩
      clear cO
      have hX5 := hX4.kept kO (by simp)
      have dD5 := dD.kept kO (by simp) (by simp) (by simp)
      have kw5 : Kept [] w w5 := kw4.trans kO
      have s34 := kN.size
      have l1 := dD.dbl
      have l2' := dD.pbl
      have l3 := dD.mbl
      clear dD hX4 hX hb3 kw3 kw4 kN kO
      obtain ⟨V5, hV5⟩ : ∃ V5, w5.alloc (.cells #[] 5) = V5 := ⟨_, rfl⟩
      have kV5 : Kept [] w5 V5 := by rw [← hV5]; exact Kept.of_alloc _ _ _
      have hXV := hX5.kept kV5 (by simp)
      obtain ⟨capm, V6, happ, hM, kV6⟩ := append_grows V5 w5.heap.size 0 0 [] (fun j v hv => by simp [cellsOf] at hv) rfl (by simp) ⟨gx, 0, none⟩ 128 cx lx hX5.size (fun j hj => by
        rw [Addr.add_mid]
        exact hXV.cells j _ (by simp [cellsOf, hX5.size, hj])) hX5.ok (by decide) (by decide) (by decide)
      simp only [Nat.zero_add, List.nil_append] at happ hM
      have hX6 := hXV.kept kV6 (by simp)
      have k56 : Kept [] w5 V6 := kV5.trans kV6
      have d6 := dD5.kept k56 (by simp) (by simp) (by simp)
      have o6 := dO.kept k56 (by simp) (by simp) (by simp)
      have kw6 : Kept [] w V6 := kw5.trans k56
      have hgm : w5.heap.size ≤ V5.heap.size := kV5.size
      generalize V5.heap.size = gm at happ hM hgm
      have l4 := dO.dbl
      have l5 := dO.pbl
      have l6 := dO.mbl
      have l7 := hX5.lt
      have l8 := dD5.dbl
      have cW := write_any d6 2 lx hsx gm 0 capm hM.cells (by omega) (by decide) (by decide) (by decide) (by decide) (by decide) (by decide) (by decide)
      go_wp2_with (first
        | (refine wpList_append_to rfl _ _ rfl rfl rfl rfl happ ?_)
        | fail)
      refine cW.mono ?_
      rintro e w7 ⟨rfl, d7, k7⟩
      clear cW happ hV5 kV5 kV6 hXV dD5 dO k56
      have hX7 := hX6.kept k7 (by simp; omega)
      have hM7 := hM.kept k7 (by simp; omega)
      have o7 := o6.kept k7 (by simp; omega) (by simp; omega) (by simp; omega)
      have b7 : Below w.heap.size w w7 := (kw6.to_below (Nat.le_refl _) (by simp)).trans (k7.to_below kw6.size (by simp; omega))
      have n1 := d7.dbl
      go_wp2_with fail
      go_loopw [12] (fun t wr => ∃ q : Int, 0 ≤ q ∧ q ≤ 128 ∧ t = .int .i64 q ∧ (∀ j, j < 128 → ∃ v, wr.cell? ⟨gm, j, none⟩ = some (.int .u8 v) ∧ wr.frozen? ⟨gm, j, none⟩ = false) ∧ Kept [gm] w7 wr) (fun t _ => 128 - (Go.RowKit.intOf t).toNat)
      case atStart => exact ⟨0, by omega, by omega, rfl, hM7.some, Kept.refl _ _⟩
      case round =>
        obtain ⟨q, hq0, hq1, rfl, hcs, hkr⟩ := hrel
        by_cases hlt : q < 128
        · obtain ⟨v, c, f⟩ := hcs q.toNat (by omega)
          have hcs' : ∀ u j, j < 128 → ∃ v, (wr.setCell ⟨gm, q.toNat, none⟩ (.int .u8 u)).cell? ⟨gm, j, none⟩ = some (.int .u8 v) ∧ (wr.setCell ⟨gm, q.toNat, none⟩ (.int .u8 u)).frozen? ⟨gm, j, none⟩ = false := fun u j hj => by
            obtain ⟨v', c', f'⟩ := hcs j hj
            rw [World.frozen?_setCell]
            by_cases e : j = q.toNat
            · subst e
              exact ⟨u, World.cell?_setCell_same _ _ _ c', f'⟩
            · exact ⟨v', by rw [World.cell?_setCell_other _ _ _ _ (by simp <;> omega)]; exact c', f'⟩
          have hk' : ∀ u, Kept [gm] w7 (wr.setCell ⟨gm, q.toNat, none⟩ (.int .u8 u)) := fun u => hkr.setCell (by simp) _
          clear hcs hkr d7 o7 hX7 hM7
          go_wp2_with fail
          go_roundw
          case rel => exact ⟨q + 1, by omega, by omega, by first | rfl | go_num, hcs' _, hk' _⟩
          case measure => simp [Go.RowKit.intOf]; omega
        · obtain rfl : q = 128 := by omega
          clear hcs
          have d8 := d7.kept hkr (by simp; omega) (by simp; omega) (by simp; omega)
          have o8 := o7.kept hkr (by simp; omega) (by simp; omega) (by simp; omega)
          have hX8 := hX7.kept hkr (by simp; omega)
          have b8 : Below w.heap.size w wr := b7.trans (hkr.to_below b7.size (by simp; omega))
          have cR := read_any d8 2 (by decide) (by decide)
          rw [own_read] at cR
          clear d7 o7 hX7 hM7 hkr
          go_wp2_with fail
          refine cR.mono ?_
          rintro e w9 ⟨gy, rfl, hgy, hry, k9⟩
          clear cR
          have d9 := d8.kept k9 (by simp) (by simp) (by simp)
          have o9 := o8.kept k9 (by simp) (by simp) (by simp)
          have hX9 := hX8.kept k9 (by simp)
          have b9 : Below w.heap.size w w9 := b8.trans (k9.to_below b8.size (by simp))
          have m1 := d8.dbl
          have m2 := d8.pbl
          have m3 := d8.mbl
          have m4 := o8.dbl
          have m5 := o8.pbl
          have m6 := o8.mbl
          have m7 := hX8.lt
          have hys := row_some hsx.1 hry
          have hbs := b8.size
          clear d8 o8 hX8 k9 hry
          go_wp2_with fail
          go_loopw [15] (fun t wr => ∃ q : Int, 0 ≤ q ∧ q ≤ 128 ∧ t = .int .i64 q ∧ (∀ j, j < 128 → ∃ v, wr.cell? ⟨gy, j, none⟩ = some (.int .u8 v) ∧ wr.frozen? ⟨gy, j, none⟩ = false) ∧ Kept [gy] w9 wr) (fun t _ => 128 - (Go.RowKit.intOf t).toNat)
          case atStart => exact ⟨0, by omega, by omega, rfl, hys, Kept.refl _ _⟩
          case round =>
            obtain ⟨q, hq0, hq1, rfl, hcs, hkr⟩ := hrel
            by_cases hlt : q < 128
            · obtain ⟨v, c, f⟩ := hcs q.toNat (by omega)
              have hcs' : ∀ u j, j < 128 → ∃ v, (wr.setCell ⟨gy, q.toNat, none⟩ (.int .u8 u)).cell? ⟨gy, j, none⟩ = some (.int .u8 v) ∧ (wr.setCell ⟨gy, q.toNat, none⟩ (.int .u8 u)).frozen? ⟨gy, j, none⟩ = false := fun u j hj => by
                obtain ⟨v', c', f'⟩ := hcs j hj
                rw [World.frozen?_setCell]
                by_cases e : j = q.toNat
                · subst e
                  exact ⟨u, World.cell?_setCell_same _ _ _ c', f'⟩
                · exact ⟨v', by rw [World.cell?_setCell_other _ _ _ _ (by simp <;> omega)]; exact c', f'⟩
              have hk' : ∀ u, Kept [gy] w9 (wr.setCell ⟨gy, q.toNat, none⟩ (.int .u8 u)) := fun u => hkr.setCell (by simp) _
              clear hcs hkr d9 o9 hX9 hys
              go_wp2_with fail
              go_roundw
              case rel => exact ⟨q + 1, by omega, by omega, by first | rfl | go_num, hcs' _, hk' _⟩
              case measure => simp [Go.RowKit.intOf]; omega
            · obtain rfl : q = 128 := by omega
              clear hcs
              have d10 := d9.kept hkr (by simp; omega) (by simp; omega) (by simp; omega)
              have o10 := o9.kept hkr (by simp; omega) (by simp; omega) (by simp; omega)
              have hX10 := hX9.kept hkr (by simp; omega)
              have b10 : Below w.heap.size w wr := b9.trans (hkr.to_below b9.size (by simp; omega))
              have cR2 := read_any d10 2 (by decide) (by decide)
              rw [own_read] at cR2
              clear d9 o9 hX9 hkr
              go_wp2_with fail
              refine cR2.mono ?_
              rintro e w11 ⟨gz, rfl, hgz, hrz, k11⟩
              clear cR2
              have d11 := d10.kept k11 (by simp) (by simp) (by simp)
              have o11 := o10.kept k11 (by simp) (by simp) (by simp)
              have hX11 := hX10.kept k11 (by simp)
              have b11 : Below w.heap.size w w11 := b10.trans (k11.to_below b10.size (by simp))
              have cR3 := read_any o11 2 (by decide) (by decide)
              rw [own_other] at cR3
              clear d10 o10 hX10 b10 k11
              go_wp2_with fail
              refine cR3.mono ?_
              rintro e w12 ⟨gw, rfl, hgw, hrw, k12⟩
              clear cR3
              have dA := (d11.kept k12 (by simp) (by simp) (by simp)).drew
              have oA := (o11.kept k12 (by simp) (by simp) (by simp)).drew
              have hX12 := hX11.kept k12 (by simp)
              have hrz12 := (k12.block gz (Array.getElem?_eq_some_iff.1 hrz).1 (by simp)).trans hrz
              have b12 : Below w.heap.size w w12 := b11.trans (k12.to_below b11.size (by simp))
              have z12 := row_range hrz12
              have y12 := row_range hrw
              have kB : Kept [] w12 (w12.alloc (.cells (rowOf zeros) 5)).drew := (Kept.of_alloc [] w12 _).drew
              have dB : DiskAt (w12.alloc (.cells (rowOf zeros) 5)).drew db pb mb 4 _ _ _ _ _ _ := (d11.kept k12 (by simp) (by simp) (by simp)).kept kB (by simp) (by simp) (by simp)
              have oB : DiskAt (w12.alloc (.cells (rowOf zeros) 5)).drew ob qb nb 4 _ _ _ _ _ _ := (o11.kept k12 (by simp) (by simp) (by simp)).kept kB (by simp) (by simp) (by simp)
              have zA := text_conv w12.drew gz 128 128 lx z12 hsx.1
              have xA := text_conv w12.drew gx 128 cx lx hX12.cells hsx.1
              have yA := text_conv w12.drew gw 128 128 zeros y12 zeros_sec.1
              have zB := text_conv (w12.alloc (.cells (rowOf zeros) 5)).drew gz 128 128 lx (World.rangeAt_alloc z12 _) hsx.1
              have xB := text_conv (w12.alloc (.cells (rowOf zeros) 5)).drew gx 128 cx lx (World.rangeAt_alloc hX12.cells _) hsx.1
              have yB := text_conv (w12.alloc (.cells (rowOf zeros) 5)).drew gw 128 128 zeros (World.rangeAt_alloc y12 _) zeros_sec.1
              have mB := text_conv (w12.alloc (.cells (rowOf zeros) 5)).drew w12.heap.size 128 128 zeros (range_new w12 zeros _) zeros_sec.1
              have hmk := make_bytes
              have bB : Below w.heap.size w (w12.alloc (.cells (rowOf zeros) 5)).drew := (b12.alloc b12.size _).drew
              clear d11 o11 hX11 k12 hX12 hrz hrw hrz12 z12 y12 b11 kB dA oA
              go_wp2_with fail
              go_region_held (fun _ => True) (trivial) (first | (go_at_call 24; refine (ops_any oB).mono ?_; rintro e w' ⟨rfl, rfl⟩) | (go_at_call 24; refine (ops_any dB).mono ?_; rintro e w' ⟨rfl, rfl⟩) | fail)
              all_goals go_wp2_with fail
              all_goals go_ret
              all_goals exact ⟨rfl, bB⟩
  · have hne : ¬ (lenx : Int) = 128 := by omega
    go_wp2_with fail
    go_ret
    exact ⟨rfl, hb3⟩
end Go.Proofs.Ytinelibfnnnbdaa
