/-
  WHAT WAS FLUSHED STAYS: the law's walk.
-/
import Derived.Test.YtinelibfnnnbdaaStaysDisk
import Derived.Test.YtinelibfnnnbdaaOpenCalls
import Derived.Test.YtinelibfnnnbdaaStaysBytes
namespace Go.Proofs.Ytinelibfnnnbdaa
open Go.RowKit Go.Maps

/-- append([]byte of one, b...) of bytes that came in. -/
theorem append_arg {w : World} (V : World) (g0 : Nat) (l0 : List Int) (h0 : BytesAt V g0 1 l0) (a : Option Addr) (len cap : Nat) (z : List Int) (hB : IsBytes w a len cap z) (hbig : 1 + len ≤ 140737488355328) (hb : Below w.heap.size w V) :
    ∃ g cap' W', (Builtin.append_ #[31, 31] 31 #[.slice (some ⟨g0, 0, none⟩) 1 1, .slice a len cap]).run Try.prog V = .ok (.slice (some ⟨g, 0, none⟩) (1 + len) cap') W' ∧ BytesAt W' g (1 + len) (l0 ++ z.take len) ∧ Kept [] V W' ∧ (g = g0 ∨ V.heap.size ≤ g) ∧ 1 + len ≤ cap' := by
  refine append_any2 V g0 1 l0 h0 a len cap (z.take len) ?_ hbig ?_ ?_ ?_
  · rcases hB with ⟨_, h, _, h2⟩ | ⟨x, _, h1, _, h3, _⟩
    · rw [h2, h]; rfl
    · rw [List.length_take]; omega
  · intro j hj
    rcases hB with ⟨_, h, _⟩ | ⟨x, e, h1, _, h3, h4, _⟩
    · omega
    · have hc := h4 j (by omega)
      refine ⟨x, e, ?_⟩
      rw [hb.cell (World.block_lt_of_cell? w _ hc), hc]
      simp [hj]
  · rcases hB with ⟨_, h, h2, _⟩ | ⟨x, e, _⟩
    · exact fun _ => ⟨h, h2⟩
    · rw [e]; intro h; cases h
  · intro y hy
    rcases hB with ⟨_, _, _, h⟩ | ⟨x, _, _, _, _, _, h6⟩
    · rw [h] at hy; simp at hy
    · exact byte_wf (h6 y (List.mem_of_mem_take hy))

theorem text_size (l : List Int) : (textOf l).size = l.length := by
  have h := congrArg List.length (text_data l)
  rw [List.length_map] at h
  rw [← h]
  rfl

theorem BytesAt.at {w : World} {g n : Nat} {l : List Int} (h : BytesAt w g n l) (j : Nat) (hj : j < n) : w.cell? ⟨g, j, none⟩ = some (.int .u8 (l.getD j 0)) := by
  have := h.cells j (.int .u8 (l.getD j 0)) (by simp [cellsOf, h.size, hj])
  rwa [Nat.zero_add] at this

theorem add_off (x : Addr) (m k : Nat) : x.add (m + (k + 1)) = ⟨(x.add m).block, (x.add m).off + (k + 1), none⟩ := by
  rw [← Go.Deep.add_add]
  simp [Addr.add]

theorem StaysAt.mono {w : World} {db pb mb K K' : Nat} {x y : List Int} (h : StaysAt w db pb mb K x y) (hk : K ≤ K') : StaysAt w db pb mb K' x y := by
  obtain ⟨nn, pl, D, ops, d, h1, h2, h3, h4, h5, h6⟩ := h
  exact ⟨nn, pl, D, ops, d, h1, h2, h3, by omega, h5, by omega⟩

/-- sector of bytes that came in. -/
theorem sector_arg {w : World} (V : World) (a : Option Addr) (len cap : Nat) (z : List Int) (hB : IsBytes w a len cap z) (hb : Below w.heap.size w V) :
    Calls Try.prog 12 #[.slice a len cap] V fun e w' => ∃ (a' : Option Addr) (len' cap' : Nat) (l' : List Int), e = .returned (.slice a' len' cap') ∧ l'.length = len' ∧ (∀ v ∈ l', 0 ≤ v ∧ v < 256) ∧
      (∀ j, j < len' → ∃ ad, a' = some ad ∧ w'.cell? (ad.add j) = some (.int .u8 (l'.getD j 0)) ∧ ((ad.add j).block < w.heap.size ∨ V.heap.size ≤ (ad.add j).block)) ∧ Kept [] V w' := by
  have hzl : (z.take len).length = len := by
    rcases hB with ⟨_, h, _, h2⟩ | ⟨x, _, h1, _, h3, _⟩
    · rw [h2, h]; rfl
    · rw [List.length_take]; omega
  have hzo : ∀ v ∈ z.take len, 0 ≤ v ∧ v < 256 := by
    intro y hy
    rcases hB with ⟨_, _, _, h⟩ | ⟨x, _, _, _, _, _, h6⟩
    · rw [h] at hy; simp at hy
    · exact byte_wf (h6 y (List.mem_of_mem_take hy))
  have hzc : ∀ j, j < len → ∃ ad, a = some ad ∧ V.cell? (ad.add j) = some (.int .u8 ((z.take len).getD j 0)) ∧ (ad.add j).block < w.heap.size := by
    intro j hj
    rcases hB with ⟨_, h, _⟩ | ⟨x, e, h1, _, h3, h4, _⟩
    · omega
    · have hc := h4 j (by omega)
      have hl := World.block_lt_of_cell? w _ hc
      refine ⟨x, e, ?_, hl⟩
      rw [hb.cell hl, hc]
      simp [hj]
  by_cases h : len = 0 ∨ 127 < len
  · exact (sector_same a len cap V h).mono fun e w' ⟨he, hw⟩ => ⟨a, len, cap, z.take len, he, hzl, hzo, fun j hj => by
      obtain ⟨ad, e1, e2, e3⟩ := hzc j hj
      exact ⟨ad, e1, by rw [hw]; exact e2, Or.inl e3⟩, by rw [hw]; exact Kept.refl _ _⟩
  · obtain ⟨x, rfl, _⟩ := hzc 0 (by omega)
    refine (sector_new x len cap (z.take len) V hzl (by omega) (by omega) (fun j hj => by
      obtain ⟨ad, e1, e2, _⟩ := hzc j hj
      cases e1
      exact e2)).mono fun e w' ⟨g, he, hg, hr, hk⟩ => ⟨some ⟨g, 0, none⟩, 128, 128, cycTo (z.take len) 128, he, cyc_len _ _ (Nat.le_refl _), (cyc_sec _ (by omega) hzo).2, fun j hj => ⟨_, rfl, ?_, Or.inr ?_⟩, hk⟩
    · rw [Addr.add_mid, Nat.zero_add]
      exact row_cell hr j (by rw [cyc_len _ _ (Nat.le_refl _)]; exact hj)
    · rw [Addr.add_mid]
      exact hg

set_option maxRecDepth 20000 in
set_option maxHeartbeats 8000000 in
theorem stays_walk (a0 : Option Addr) (len0 cap0 : Nat) (z0 : List Int) (a1 : Option Addr) (len1 cap1 : Nat) (z1 : List Int) (a2 : Option Addr) (len2 cap2 : Nat) (pick : Int) (w : World)
    (hA : IsBytes w a0 len0 cap0 z0) (hB : IsBytes w a1 len1 cap1 z1) (hC : CallsAt w a2 len2) (hbA : 1 + len0 ≤ 140737488355328) (hbB : 1 + len1 ≤ 140737488355328) :
    Calls Try.prog 4 #[.slice a0 len0 cap0, .slice a1 len1 cap1, .slice a2 len2 cap2, .int .i64 pick] w fun e w' => e = .returned (.bool true) ∧ Below w.heap.size w w' := by
  have cK := known_any w
  go_enter Try.func4, Try.ntmps4
  go_wp2_with fail
  refine cK.mono ?_
  rintro e w1 ⟨rfl, hk1⟩
  clear cK
  have hbw1 : Below w.heap.size w w1 := hk1.to_below (Nat.le_refl _) (by simp)
  have cN := new_ex 9 (by decide) (by decide) w1
  go_wp2_with fail
  refine cN.mono ?_
  rintro e w2 ⟨db, pb, mb, rfl, d2, hdb, hpb, hmb, hk2⟩
  clear cN
  have hs1 := hk1.size
  have hbw2 : Below w.heap.size w w2 := hbw1.trans (hk2.to_below hs1 (by simp))
  clear hk1 hk2
  obtain ⟨V2, hV2⟩ : ∃ V, w2.alloc (.cells #[.int .u8 1] 5) = V := ⟨_, rfl⟩
  have hbV2 : V2.heap[w2.heap.size]? = some (.cells (rowOf [1]) 5 (0, 0)) := by rw [← hV2]; exact heap_alloc_new w2 _
  have kV2 : Kept [] w2 V2 := by rw [← hV2]; exact Kept.of_alloc _ _ _
  have hBV2 : BytesAt V2 w2.heap.size 1 [1] := ⟨row_range hbV2, fun j hj => ⟨by rw [Nat.zero_add, row_cell hbV2 j (by simpa using hj)]; rfl, row_frozen hbV2 _⟩, rfl, by simp, (Array.getElem?_eq_some_iff.1 hbV2).1⟩
  have hbelV2 : Below w.heap.size w V2 := hbw2.trans (kV2.to_below hbw2.size (by simp))
  obtain ⟨gUx, capx, Ux, happx, hAx, kUx, hgUx, hcUx⟩ := append_arg V2 w2.heap.size [1] hBV2 a0 len0 cap0 z0 hA hbA hbelV2
  have cSx := sector_any2 gUx (1 + len0) capx _ Ux hAx (by omega) hcUx
  have kkx : Kept [] w2 Ux := kV2.trans kUx
  have hglx : w2.heap.size ≤ gUx := by have := kV2.size; omega
  clear hBV2 hbV2 kV2 kUx hAx
  go_wp2_with (first
    | (refine wpList_append_to rfl _ _ rfl rfl rfl rfl happx ?_)
    | fail)
  refine cSx.mono ?_
  rintro e w3 ⟨gx, lenx, cx, lx, rfl, hX, kSx, hgSx, hcx⟩
  have k23 : Kept [] w2 w3 := kkx.trans kSx
  have hbw3 : Below w.heap.size w w3 := hbw2.trans (k23.to_below hbw2.size (by simp))
  have d3 := d2.kept k23 (by simp) (by simp) (by simp)
  have s23 := k23.size
  have l1 := d2.dbl
  have l2 := d2.pbl
  have l3 := d2.mbl
  have hgx : w2.heap.size ≤ gx := by have := kkx.size; omega
  clear hgSx hglx hgUx
  clear cSx happx hV2 kSx kkx hbelV2 d2 k23
  obtain ⟨V3, hV3⟩ : ∃ V, w3.alloc (.cells #[.int .u8 2] 5) = V := ⟨_, rfl⟩
  have hbV3 : V3.heap[w3.heap.size]? = some (.cells (rowOf [2]) 5 (0, 0)) := by rw [← hV3]; exact heap_alloc_new w3 _
  have kV3 : Kept [] w3 V3 := by rw [← hV3]; exact Kept.of_alloc _ _ _
  have hBV3 : BytesAt V3 w3.heap.size 1 [2] := ⟨row_range hbV3, fun j hj => ⟨by rw [Nat.zero_add, row_cell hbV3 j (by simpa using hj)]; rfl, row_frozen hbV3 _⟩, rfl, by simp, (Array.getElem?_eq_some_iff.1 hbV3).1⟩
  have hbelV3 : Below w.heap.size w V3 := hbw3.trans (kV3.to_below hbw3.size (by simp))
  obtain ⟨gUy, capy, Uy, happy, hAy, kUy, hgUy, hcUy⟩ := append_arg V3 w3.heap.size [2] hBV3 a1 len1 cap1 z1 hB hbB hbelV3
  have cSy := sector_any2 gUy (1 + len1) capy _ Uy hAy (by omega) hcUy
  have kky : Kept [] w3 Uy := kV3.trans kUy
  have hgly : w3.heap.size ≤ gUy := by have := kV3.size; omega
  clear hBV3 hbV3 kV3 kUy hAy
  go_wp2_with (first
    | (refine wpList_append_to rfl _ _ rfl rfl rfl rfl happy ?_)
    | fail)
  refine cSy.mono ?_
  rintro e w4 ⟨gy, leny, cy, ly, rfl, hY, kSy, hgSy, hcy⟩
  have k34 : Kept [] w3 w4 := kky.trans kSy
  have hbw4 : Below w.heap.size w w4 := hbw3.trans (k34.to_below hbw3.size (by simp))
  have d4 := d3.kept k34 (by simp) (by simp) (by simp)
  have hX4 := hX.kept k34 (by simp)
  have hgy : w3.heap.size ≤ gy := by have := kky.size; omega
  clear hgSy hgly hgUy
  clear cSy happy hV3 kSy kky hbelV3 d3 k34 hX
  by_cases hlx : lenx = 128
  · by_cases hly : leny = 128
    · subst hlx hly
      have hsx : Sec lx := ⟨hX4.size, hX4.ok⟩
      have hsy : Sec ly := ⟨hY.size, hY.ok⟩
      have cW1 := write_any d4 0 lx hsx gx 0 cx hX4.cells (by omega) (by decide) (by decide) (by decide) (by decide) (by decide) (by decide) (by decide)
      go_wp2_with fail
      refine cW1.mono ?_
      rintro e w5 ⟨rfl, d5, k5⟩
      have hX5 := hX4.kept k5 (by simp; omega)
      have hY5 := hY.kept k5 (by simp; omega)
      have hbw5 : Below w.heap.size w w5 := hbw4.trans (k5.to_below hbw4.size (by simp; omega))
      clear cW1 d4 hX4 hY k5 hbw4
      have cF := flush_any d5 (by decide) (by decide) (by decide) (by decide)
      go_wp2_with fail
      refine cF.mono ?_
      rintro e w6 ⟨rfl, d6, k6⟩
      have hX6 := hX5.kept k6 (by simp; omega)
      have hY6 := hY5.kept k6 (by simp; omega)
      have hbw6 : Below w.heap.size w w6 := hbw5.trans (k6.to_below hbw5.size (by simp; omega))
      clear cF d5 hX5 hY5 k6 hbw5
      have cW2 := write_any d6 0 ly hsy gy 0 cy hY6.cells (by omega) (by decide) (by decide) (by decide) (by decide) (by decide) (by decide) (by decide)
      go_wp2_with fail
      refine cW2.mono ?_
      rintro e w7 ⟨rfl, d7, k7⟩
      have hX7 := hX6.kept k7 (by simp; omega)
      have hY7 := hY6.kept k7 (by simp; omega)
      have hbw7 : Below w.heap.size w w7 := hbw6.trans (k7.to_below hbw6.size (by simp; omega))
      have hS7 : StaysAt w7 db pb mb 3 lx ly := ⟨_, _, _, _, d7, rfl, rfl, rfl, by decide, by decide, by decide⟩
      clear cW2 d6 hX6 hY6 k7 hbw6 d7
      go_wp2_with fail
      go_loopw [13] (fun t wr => ∃ q : Int, 0 ≤ q ∧ q ≤ 30 ∧ q ≤ len2 ∧ t = .int .i64 q ∧ StaysAt wr db pb mb (3 + q.toNat) lx ly ∧ BytesAt wr gx 128 lx ∧ BytesAt wr gy 128 ly ∧ Below w.heap.size w wr) (fun t _ => 30 - (Go.RowKit.intOf t).toNat)
      case atStart => exact ⟨0, by omega, by omega, by omega, rfl, hS7, hX7, hY7, hbw7⟩
      case round =>
        obtain ⟨q, hq0, hq1, hq2, rfl, hS, hXr, hYr, hb⟩ := hrel
        clear hS7 hX7 hY7 hbw7
        by_cases hgo : q < len2 ∧ q < 30
        · obtain ⟨hg1, hg2⟩ := hgo
          obtain ⟨x, rfl, hca⟩ : ∃ x, a2 = some x ∧ CallAt w x q.toNat := by
            rcases hC with ⟨_, h⟩ | ⟨x, e, _, hcall⟩
            · omega
            · exact ⟨x, e, hcall q.toNat (by omega)⟩
          obtain ⟨kind, n, ba, bl, bc, z, pa, pn, pc, qq, c0, c1, c2, _, wk, wn, hBz, _⟩ := hca
          rw [add_off x (q.toNat * 4) 0] at c1
          rw [add_off x (q.toNat * 4) 1] at c2
          have b0 := World.block_lt_of_cell? w _ c0
          have b1 := World.block_lt_of_cell? w _ c1
          have b2 := World.block_lt_of_cell? w _ c2
          have c0' := (hb.cell b0).trans c0
          have c1' := (hb.cell b1).trans c1
          have c2' := (hb.cell b2).trans c2
          have cV := within_any kind 5 (by decide) (by decide) wr
          have hlast : ∀ W : World, StaysAt W db pb mb (3 + q.toNat) lx ly → StaysAt W db pb mb (3 + (q + 1).toNat) lx ly := fun W h => h.mono (by omega)
          by_cases hr : kind % 5 = 0
          · by_cases hn0 : n = 0
            · subst hn0
              rw [hr] at cV
              go_wp2_with fail
              refine cV.mono ?_
              rintro e w8 ⟨rfl, rfl⟩
              clear cV
              go_wp2_with fail
              go_roundw
              case rel => exact ⟨q + 1, by omega, by omega, by omega, by first | rfl | go_num, hlast _ hS, hXr, hYr, hb⟩
              case measure => simp [Go.RowKit.intOf]; omega
            · have hn' : (n == 0) = false := by simpa using hn0
              rw [hr] at cV
              have kd : Kept [] wr wr.drew := (Kept.refl _ _).drew
              have hS' := hS.kept kd
              have hb' : Below w.heap.size w wr.drew := hb.drew
              have cSec := sector_arg wr.drew ba bl bc z hBz hb'
              have hdl : db < wr.heap.size := by
                obtain ⟨_, _, _, _, d, _⟩ := hS
                exact d.dbl
              have hwdb : w.heap.size ≤ db := by omega
              have hbs := hb.size
              have hl1 : ∀ W : World, Below w.heap.size w W → W.cell? ⟨(x.add (q.toNat * 4)).block, (x.add (q.toNat * 4)).off + 1, none⟩ = some (.int .i64 n) := fun W h => (h.cell b1).trans c1
              have hl2 : ∀ W : World, Below w.heap.size w W → W.cell? ⟨(x.add (q.toNat * 4)).block, (x.add (q.toNat * 4)).off + 2, none⟩ = some (.slice ba bl bc) := fun W h => (h.cell b2).trans c2
              go_wp2_with fail
              refine cV.mono ?_
              rintro e w8 ⟨rfl, rfl⟩
              clear cV
              go_wp2_with fail
              clear c0 c1 c2 c0' c1' c2' hBz wk wn hC hA hB
              go_region_held (fun W => Below w.heap.size w W) (assumption) (first
                | (go_at_call 12
                   refine cSec.mono ?_
                   rintro e wS ⟨a', len', cap', l', rfl, hl', ok', hc', kS⟩
                   have hbS : Below w.heap.size w wS := hb'.trans (kS.to_below hbs (by simp))
                   have hSS := hS'.kept kS)
                | (go_at_call 13
                   refine (stays_write hSS (by omega) n hn0 a' len' cap' l' hl' ok' (fun j hj => by
                     obtain ⟨ad, e1, e2, e3⟩ := hc' j hj
                     refine ⟨ad, e1, e2, ?_⟩
                     rcases e3 with e3 | e3
                     · omega
                     · have e4 : w8.heap.size ≤ (ad.add j).block := e3
                       omega)).mono ?_
                   rintro e wT ⟨v, rfl, hST, kT⟩
                   have hbT : Below w.heap.size w wT := hbS.trans (kT.to_below hbS.size (by simp; omega))
                   have hXT := ((hXr.kept kd (by simp)).kept kS (by simp)).kept kT (by simp; omega)
                   have hYT := ((hYr.kept kd (by simp)).kept kS (by simp)).kept kT (by simp; omega))
                | fail)
              all_goals go_wp2_with fail
              all_goals go_roundw
              all_goals first
                | exact ⟨q + 1, by omega, by omega, by omega, by first | rfl | go_num, hST.mono (by omega), hXT, hYT, hbT⟩
                | (simp [Go.RowKit.intOf]; omega)
          · have hr' : (kind % 5 == 0) = false := by simpa using hr
            generalize kind % 5 = r at cV hr'
            clear hr
            go_wp2_with fail
            refine cV.mono ?_
            rintro e w8 ⟨rfl, rfl⟩
            clear cV
            go_wp2_with fail
            go_roundw
            case rel => exact ⟨q + 1, by omega, by omega, by omega, by first | rfl | go_num, hlast _ hS, hXr, hYr, hb⟩
            case measure => simp [Go.RowKit.intOf]; omega
        · rcases Int.lt_or_le q len2 with hql | hql
          · obtain rfl : q = 30 := by omega
            obtain ⟨V8, hV8⟩ : ∃ V, wr.alloc (.cells #[.int .i64 pick] 3) = V := ⟨_, rfl⟩
            have hg8 : V8.heap[wr.heap.size]? = some (.cells #[.int .i64 pick] 3 (0, 0)) := by rw [← hV8]; exact heap_alloc_new wr _
            have kV8 : Kept [] wr V8 := by rw [← hV8]; exact Kept.of_alloc _ _ _
            have hpl : pb < wr.heap.size := by
              obtain ⟨_, _, _, _, d, _⟩ := hS
              exact d.pbl
            have cC := stays_crash (hS.kept kV8) (by omega) pick wr.heap.size hg8 (by omega)
            have hX8 := hXr.kept kV8 (by simp)
            have hY8 := hYr.kept kV8 (by simp)
            have hb8 : Below w.heap.size w V8 := hb.trans (kV8.to_below hb.size (by simp))
            clear hS hXr hYr hb kV8 hg8 hpl hC hA hB
            go_wp2_with fail
            refine cC.mono ?_
            rintro e w8 ⟨v, pl8, ops8, rfl, d8, hp8, k8⟩
            clear cC
            have hX9 := hX8.kept k8 (by simp; omega)
            have hY9 := hY8.kept k8 (by simp; omega)
            have hb9 : Below w.heap.size w w8 := hb8.trans (k8.to_below hb8.size (by simp; omega))
            have cR := read_any d8 0 (by decide) (by decide)
            have eR : newestOf (.map []) pl8 0 = ly.take (frontOf pick).toNat ++ lx.drop (frontOf pick).toNat := hp8
            rw [eR] at cR
            clear eR hp8 d8 hX8 hY8 hb8 k8 hV8
            go_wp2_with fail
            refine cR.mono ?_
            rintro e w9 ⟨g9, rfl, hg9, hr9, k9⟩
            clear cR
            have hX := hX9.kept k9 (by simp)
            have hY := hY9.kept k9 (by simp)
            have hb := hb9.trans (k9.to_below hb9.size (by simp))
            have cV := within_any pick 129 (by decide) (by decide) w9
            rw [← frontOf_eq] at cV
            have f0 := frontOf_lo pick
            have f1 := frontOf_hi pick
            generalize frontOf pick = f at cV f0 f1 hr9
            clear hX9 hY9 hb9 k9
            go_wp2_with fail
            refine cV.mono ?_
            rintro e w10 ⟨rfl, rfl⟩
            clear cV
            have l9 : (ly.take f.toNat ++ lx.drop f.toNat).length = 128 := by rw [List.length_append, List.length_take, List.length_drop, hsx.1, hsy.1]; omega
            have zc := text_conv w10.drew g9 128 128 _ (row_range hr9) l9
            rw [text_append] at zc
            have s1 : ∀ W : World, (Instr.sliceAt 31 (.slice (some ⟨gy, 0, none⟩) 128 cy) none (some (.int .i64 f)) none).run Try.prog W = .ok (.slice (some ⟨gy, 0, none⟩) f.toNat cy) W := fun W => slice_head W gy cy f f0 f1 hcy
            have y1 := text_at w10.drew ⟨gy, 0, none⟩ f.toNat cy (ly.take f.toNat) (by rw [List.length_take, hsy.1]; omega) (fun j hj => by
              rw [Addr.add_mid, Nat.zero_add]
              have e1 : (ly.take f.toNat).getD j 0 = ly.getD j 0 := by simp [hj]
              rw [e1]
              exact hY.at j (by omega))
            obtain ⟨A, s2, x1⟩ : ∃ A : Addr, (∀ W : World, (Instr.sliceAt 31 (.slice (some ⟨gx, 0, none⟩) 128 cx) (some (.int .i64 f)) none none).run Try.prog W = .ok (.slice (some A) (128 - f.toNat) (cx - f.toNat)) W) ∧ (convert 31 9 (.slice (some A) (128 - f.toNat) (cx - f.toNat))).run Try.prog w10.drew = .ok (.string (textOf (lx.drop f.toNat))) w10.drew := by
              refine ⟨_, fun W => slice_tail W gx cx f f0 f1, text_at w10.drew _ _ _ (lx.drop f.toNat) (by rw [List.length_drop, hsx.1]) (fun j hj => ?_)⟩
              rw [if_neg (by omega), Addr.add_mid]
              have e1 : (lx.drop f.toNat).getD j 0 = lx.getD (f.toNat + j) 0 := by simp
              rw [e1]
              exact hX.at (f.toNat + j) (by omega)
            have hts : ¬ (9223372036854775807 < (textOf (ly.take f.toNat)).size + (textOf (lx.drop f.toNat)).size) := by
              rw [text_size, text_size, List.length_take, List.length_drop, hsx.1, hsy.1]
              omega
            generalize textOf (ly.take f.toNat) = T1 at zc y1 hts
            generalize textOf (lx.drop f.toNat) = T2 at zc x1 hts
            have hbf : Below w.heap.size w w10.drew := hb.drew
            clear hX hY hr9 l9
            go_wp2_with fail
            go_region_held (fun _ => True) (trivial) (fail)
            all_goals go_wp2_with fail
            all_goals go_ret
            all_goals exact ⟨rfl, hbf⟩
          · have hql' : ¬ q < (len2 : Int) := by omega
            obtain ⟨V8, hV8⟩ : ∃ V, wr.alloc (.cells #[.int .i64 pick] 3) = V := ⟨_, rfl⟩
            have hg8 : V8.heap[wr.heap.size]? = some (.cells #[.int .i64 pick] 3 (0, 0)) := by rw [← hV8]; exact heap_alloc_new wr _
            have kV8 : Kept [] wr V8 := by rw [← hV8]; exact Kept.of_alloc _ _ _
            have hpl : pb < wr.heap.size := by
              obtain ⟨_, _, _, _, d, _⟩ := hS
              exact d.pbl
            have cC := stays_crash (hS.kept kV8) (by omega) pick wr.heap.size hg8 (by omega)
            have hX8 := hXr.kept kV8 (by simp)
            have hY8 := hYr.kept kV8 (by simp)
            have hb8 : Below w.heap.size w V8 := hb.trans (kV8.to_below hb.size (by simp))
            clear hS hXr hYr hb kV8 hg8 hpl hC hA hB
            go_wp2_with fail
            refine cC.mono ?_
            rintro e w8 ⟨v, pl8, ops8, rfl, d8, hp8, k8⟩
            clear cC
            have hX9 := hX8.kept k8 (by simp; omega)
            have hY9 := hY8.kept k8 (by simp; omega)
            have hb9 : Below w.heap.size w w8 := hb8.trans (k8.to_below hb8.size (by simp; omega))
            have cR := read_any d8 0 (by decide) (by decide)
            have eR : newestOf (.map []) pl8 0 = ly.take (frontOf pick).toNat ++ lx.drop (frontOf pick).toNat := hp8
            rw [eR] at cR
            clear eR hp8 d8 hX8 hY8 hb8 k8 hV8
            go_wp2_with fail
            refine cR.mono ?_
            rintro e w9 ⟨g9, rfl, hg9, hr9, k9⟩
            clear cR
            have hX := hX9.kept k9 (by simp)
            have hY := hY9.kept k9 (by simp)
            have hb := hb9.trans (k9.to_below hb9.size (by simp))
            have cV := within_any pick 129 (by decide) (by decide) w9
            rw [← frontOf_eq] at cV
            have f0 := frontOf_lo pick
            have f1 := frontOf_hi pick
            generalize frontOf pick = f at cV f0 f1 hr9
            clear hX9 hY9 hb9 k9
            go_wp2_with fail
            refine cV.mono ?_
            rintro e w10 ⟨rfl, rfl⟩
            clear cV
            have l9 : (ly.take f.toNat ++ lx.drop f.toNat).length = 128 := by rw [List.length_append, List.length_take, List.length_drop, hsx.1, hsy.1]; omega
            have zc := text_conv w10.drew g9 128 128 _ (row_range hr9) l9
            rw [text_append] at zc
            have s1 : ∀ W : World, (Instr.sliceAt 31 (.slice (some ⟨gy, 0, none⟩) 128 cy) none (some (.int .i64 f)) none).run Try.prog W = .ok (.slice (some ⟨gy, 0, none⟩) f.toNat cy) W := fun W => slice_head W gy cy f f0 f1 hcy
            have y1 := text_at w10.drew ⟨gy, 0, none⟩ f.toNat cy (ly.take f.toNat) (by rw [List.length_take, hsy.1]; omega) (fun j hj => by
              rw [Addr.add_mid, Nat.zero_add]
              have e1 : (ly.take f.toNat).getD j 0 = ly.getD j 0 := by simp [hj]
              rw [e1]
              exact hY.at j (by omega))
            obtain ⟨A, s2, x1⟩ : ∃ A : Addr, (∀ W : World, (Instr.sliceAt 31 (.slice (some ⟨gx, 0, none⟩) 128 cx) (some (.int .i64 f)) none none).run Try.prog W = .ok (.slice (some A) (128 - f.toNat) (cx - f.toNat)) W) ∧ (convert 31 9 (.slice (some A) (128 - f.toNat) (cx - f.toNat))).run Try.prog w10.drew = .ok (.string (textOf (lx.drop f.toNat))) w10.drew := by
              refine ⟨_, fun W => slice_tail W gx cx f f0 f1, text_at w10.drew _ _ _ (lx.drop f.toNat) (by rw [List.length_drop, hsx.1]) (fun j hj => ?_)⟩
              rw [if_neg (by omega), Addr.add_mid]
              have e1 : (lx.drop f.toNat).getD j 0 = lx.getD (f.toNat + j) 0 := by simp
              rw [e1]
              exact hX.at (f.toNat + j) (by omega)
            have hts : ¬ (9223372036854775807 < (textOf (ly.take f.toNat)).size + (textOf (lx.drop f.toNat)).size) := by
              rw [text_size, text_size, List.length_take, List.length_drop, hsx.1, hsy.1]
              omega
            generalize textOf (ly.take f.toNat) = T1 at zc y1 hts
            generalize textOf (lx.drop f.toNat) = T2 at zc x1 hts
            have hbf : Below w.heap.size w w10.drew := hb.drew
            clear hX hY hr9 l9
            go_wp2_with fail
            go_region_held (fun _ => True) (trivial) (fail)
            all_goals go_wp2_with fail
            all_goals go_ret
            all_goals exact ⟨rfl, hbf⟩
    · subst hlx
      have hne : ¬ (leny : Int) = 128 := by omega
      go_wp2_with fail
      go_ret
      exact ⟨rfl, hbw4⟩
  · have hne : ¬ (lenx : Int) = 128 := by omega
    go_wp2_with fail
    go_ret
    exact ⟨rfl, hbw4⟩
end Go.Proofs.Ytinelibfnnnbdaa
