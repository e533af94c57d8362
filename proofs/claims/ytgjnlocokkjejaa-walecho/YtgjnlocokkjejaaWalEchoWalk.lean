/-
  WHAT THE LOG WROTE, COMMITTED ANEW, CUT OFF ANYWHERE: the law's walk.
-/
import Derived.Test.YtgjnlocokkjejaaWalEchoBase
namespace Go.Proofs.Ytgjnlocokkjejaa
open Go.RowKit Go.Maps Go.Deep

set_option maxRecDepth 20000 in
set_option maxHeartbeats 16000000 in
theorem echo_walk (a0 a2 : Option Addr) (len0 cap0 len2 cap2 : Nat) (stop : Int) (zs : List Int) (w : World) (hG : GroupsAt w a0 len0) (hZ : NumsAt w a2 len2 zs) :
    Calls Try.prog 6 #[.slice a0 len0 cap0, .int .i64 stop, .slice a2 len2 cap2] w fun e w' => e = .returned (.bool true) ∧ Below w.heap.size w w' := by
  have hm0 : (len0 : Int) ≤ 9223372036854775807 := by
    rcases hG with ⟨_, h⟩ | ⟨x, _, h, _⟩
    · omega
    · unfold maxLen at h; omega
  have cK := known_any w
  go_enter Try.func6, Try.ntmps6
  go_wp2_with fail
  refine cK.mono ?_
  rintro e w0 ⟨rfl, k0⟩
  clear cK
  by_cases h60 : 60 < len2
  · have h60' : (60 : Int) < (len2 : Int) := by omega
    have hb : Below w.heap.size w w0 := k0.to_below (Nat.le_refl _) (by simp)
    go_wp2
    go_ret
    exact ⟨rfl, hb⟩
  have h60' : ¬ (60 : Int) < (len2 : Int) := by omega
  have cN := newDisk 60 (by decide) (by decide) w0
  go_wp2_with fail
  refine cN.mono ?_
  rintro e w1 ⟨db, pb, mb, rfl, hD, hdb, hpb, hmb, k1⟩
  clear cN
  have cO := open_idle hD rfl (by decide) fresh_idle
  go_wp2_with fail
  refine cO.mono ?_
  rintro e w2 ⟨lb, rfl, hlb, La, k2⟩
  clear cO hD
  have hs0 := k0.size
  have hs1 := k1.size
  have k02 := k0.trans (k1.trans k2)
  clear k0 k1 k2
  obtain ⟨V0, hV0⟩ : ∃ V0, w2.alloc (.cells (stCells noTexts).toArray 58) = V0 := ⟨_, rfl⟩
  obtain ⟨V1, hV1⟩ : ∃ V1, V0.alloc (.cells (stCells noTexts).toArray 58) = V1 := ⟨_, rfl⟩
  have s0 : StAt V0 w2.heap.size noTexts := by rw [← hV0]; exact st_new w2 _ (by simp [noTexts])
  have n0 : StAt V1 V0.heap.size noTexts := by rw [← hV1]; exact st_new V0 _ (by simp [noTexts])
  have kV : Kept [] w2 V0 := by rw [← hV0]; exact Kept.of_alloc _ _ _
  have kU : Kept [] V0 V1 := by rw [← hV1]; exact Kept.of_alloc _ _ _
  have hsz : V0.heap.size = w2.heap.size + 1 := by rw [← hV0]; simp
  have ht0 : Tells (fun _ => zeros) noTexts := fun k hk => by
    have : noTexts.getD k ⟨#[]⟩ = ⟨#[]⟩ := by rw [noTexts, List.getD_eq_getElem?_getD, List.getElem?_replicate, if_pos hk]; rfl
    rw [this]; rfl
  have L5 := (La.same kV).same kU
  obtain ⟨sb, hsb⟩ : ∃ sb, w2.heap.size = sb := ⟨_, rfl⟩
  obtain ⟨nb, hnb⟩ : ∃ nb, V0.heap.size = nb := ⟨_, rfl⟩
  have hf : Far w db pb mb lb sb nb := ⟨by omega, by omega, by omega, by omega, by have := La.disk.dbl; omega, by have := La.disk.pbl; omega, by have := La.disk.mbl; omega, by have := La.lbl; omega, by omega⟩
  have hL1 : L1 w db pb mb lb sb nb V1 0 noTexts noTexts freshDsk 0 := ⟨L5.disk, by omega, by rw [← hsb]; exact s0.kept kU (by simp), by rw [← hnb]; exact n0, live_out rfl (fresh_idleN 60) (by decide) (by decide) ht0, (k02.trans kV).trans kU, fun _ => ⟨_, _, 0, L5, rfl, fresh_idleN 60, by omega, by omega, ht0⟩⟩
  clear La L5 s0 n0 k02 kV kU hsz ht0 hs0 hs1 hdb hpb hmb hlb
  go_wp2_with (first
    | (refine wpList_alloc_st rfl rfl hV0 ?_)
    | (refine wpList_alloc_st rfl rfl hV1 ?_)
    | fail)
  clear hV0 hV1 hsb hnb
  go_loopw [13] (fun t13 wr => ∃ (q : Int) (S N : List ByteArray) (σ : Dsk) (B : Nat), 0 ≤ q ∧ q ≤ 8 ∧ t13 = .int .i64 q ∧ L1 w db pb mb lb sb nb wr (2 * q) S N σ B ∧ σ.dead = false ∧ σ.left = 0) (fun t13 _ => 8 - (Go.RowKit.intOf t13).toNat)
  case atStart => exact ⟨0, _, _, _, 0, by omega, by omega, rfl, hL1, rfl, rfl⟩
  case round =>
    obtain ⟨q, S, N, σ, B, hq0, hq1, rfl, hl, hdd, hle⟩ := hrel
    clear hL1
    obtain ⟨f1, f2, f3, f4, f5, f6, f7, f8, f9⟩ := id hf
    by_cases hgo : q < len0 ∧ q < 8
    · obtain ⟨g1, g2⟩ := hgo
      obtain ⟨x, rfl, _, hgr⟩ : ∃ x, a0 = some x ∧ len0 ≤ maxLen ∧ ∀ i, i < len0 → GroupAt w x i := hG.resolve_left (by omega)
      obtain ⟨na, fa, ra, nl, nc, fl, fc, rl, rc, Ns, Fs, R, c0, c1, c2, hN, hF, hR, hn, hf', hr⟩ := hgr q.toNat (by omega)
      rw [addOff x (q.toNat * 3) 0] at c1
      unfold maxLen at hn hf'
      have cc0 : ∀ W, L1 w db pb mb lb sb nb W (2 * q) S N σ B → W.cell? (x.add (q.toNat * 3)) = some (.slice na nl nc) := fun W h => (World.cell?_of_block (h.kept.block _ (World.block_lt_of_cell? _ _ c0) (by simp))).trans c0
      have cc1 : ∀ W, L1 w db pb mb lb sb nb W (2 * q) S N σ B → W.cell? ⟨(x.add (q.toNat * 3)).block, (x.add (q.toNat * 3)).off + 1, none⟩ = some (.slice fa fl fc) := fun W h => (World.cell?_of_block (h.kept.block _ (World.block_lt_of_cell? _ _ c1) (by simp))).trans c1
      have cP : ∀ W, L1 w db pb mb lb sb nb W (2 * q) S N σ B → Calls Try.prog 27 #[.agg #[.slice na nl nc, .slice fa fl fc, .slice none 0 0]] W fun e w' => ∃ v, e = .returned v ∧ (∃ ps, LP w' W.heap.size v ps ∧ ps.length ≤ 30) ∧ Kept [] W w' := fun W h => (puts_any W na fa none nl nc fl fc 0 0 Ns Fs [] (hN.grown h.kept) (hF.grown h.kept) ⟨rfl, by simp, fun h => absurd h (by decide)⟩ (by omega) (by omega)).mono fun e w' ⟨v, he, ps, hp, hl, hk⟩ => ⟨v, he, ⟨ps, hp.lp hl, hl⟩, hk⟩
      have hld := hl.on (Kept.refl [] wr).drew
      clear hgr hG c0 c1 c2 hN hF hR hr hl
      go_wp2_with fail
      refine wp_region_held_drew (S := fun W => L1 w db pb mb lb sb nb W (2 * q) S N σ B) (by kernel_rfl) (hld) ?_
      intro hHeld
      clear hld
      refine wpAnyH_take (i := 0) (v := ?_) (by simp only [List.getElem?_toArray, List.getElem?_cons_zero]; rfl) (by kernel_rfl) (by kernel_rfl) (by kernel_rfl) (by exact fun _ _ _ h => h) (Or.inl ⟨by rfl, ?_⟩) (by assumption) ?_; rotate_left; (focus (intro w hSw; go_simp; try with_reducible rfl)); simp only [Act.put, List.setIfInBounds_toArray, List.set_cons_zero, List.set_cons_succ]
      refine wpAnyH_take (i := 1) (v := ?_) (by simp only [List.getElem?_toArray, List.getElem?_cons_zero, List.getElem?_cons_succ]; rfl) (by kernel_rfl) (by kernel_rfl) (by kernel_rfl) (by exact fun _ _ _ h => h) (Or.inl ⟨by rfl, ?_⟩) (by assumption) ?_; rotate_left; (focus (intro w hSw; go_simp; try with_reducible rfl)); simp only [Act.put, List.setIfInBounds_toArray, List.set_cons_zero, List.set_cons_succ]
      refine wpAnyH_take (i := 2) (v := ?_) (by simp only [List.getElem?_toArray, List.getElem?_cons_zero, List.getElem?_cons_succ]; rfl) (by kernel_rfl) (by kernel_rfl) (by kernel_rfl) (by exact fun _ _ _ h => h) (Or.inl ⟨by rfl, ?_⟩) (by assumption) ?_; rotate_left; (focus (intro w hSw; go_simp; try with_reducible rfl)); simp only [Act.put, List.setIfInBounds_toArray, List.set_cons_zero, List.set_cons_succ]
      refine wpAnyH_take (i := 3) (v := ?_) (by simp only [List.getElem?_toArray, List.getElem?_cons_zero, List.getElem?_cons_succ]; rfl) (by kernel_rfl) (by kernel_rfl) (by kernel_rfl) (by exact fun _ _ _ h => h) (Or.inl ⟨by rfl, ?_⟩) (by assumption) ?_; rotate_left; (focus (intro w hSw; go_simp; try with_reducible rfl)); simp only [Act.put, List.setIfInBounds_toArray, List.set_cons_zero, List.set_cons_succ]
      refine wpAnyH_take (i := 4) (v := ?_) (by simp only [List.getElem?_toArray, List.getElem?_cons_zero, List.getElem?_cons_succ]; rfl) (by kernel_rfl) (by kernel_rfl) (by kernel_rfl) (by exact fun _ _ _ h => h) (Or.inl ⟨by rfl, ?_⟩) (by assumption) ?_; rotate_left; (focus (intro w hSw; have c0 := cc0 w hSw; have c1 := cc1 w hSw; go_simp; try with_reducible rfl)); simp only [Act.put, List.setIfInBounds_toArray, List.set_cons_zero, List.set_cons_succ]
      refine wpAnyH_take (i := 5) (v := ?_) (by simp only [List.getElem?_toArray, List.getElem?_cons_zero, List.getElem?_cons_succ]; rfl) (by kernel_rfl) (by kernel_rfl) (by kernel_rfl) (by exact fun _ _ _ h => h) (Or.inl ⟨by rfl, ?_⟩) (by assumption) ?_; rotate_left; (focus (intro w hSw; go_simp; try with_reducible rfl)); simp only [Act.put, List.setIfInBounds_toArray, List.set_cons_zero, List.set_cons_succ]
      refine wpAnyH_take (i := 6) (v := ?_) (by simp only [List.getElem?_toArray, List.getElem?_cons_zero, List.getElem?_cons_succ]; rfl) (by kernel_rfl) (by kernel_rfl) (by kernel_rfl) (by exact fun _ _ _ h => h) (Or.inl ⟨by rfl, ?_⟩) (by assumption) ?_; rotate_left; (focus (intro w hSw; go_simp; try with_reducible rfl)); simp only [Act.put, List.setIfInBounds_toArray, List.set_cons_zero, List.set_cons_succ]
      refine wpAnyH_take (i := 7) (v := ?_) (by simp only [List.getElem?_toArray, List.getElem?_cons_zero, List.getElem?_cons_succ]; rfl) (by kernel_rfl) (by kernel_rfl) (by kernel_rfl) (by exact fun _ _ _ h => h) (Or.inl ⟨by rfl, ?_⟩) (by assumption) ?_; rotate_left; (focus (intro w hSw; go_simp; try with_reducible rfl)); simp only [Act.put, List.setIfInBounds_toArray, List.set_cons_zero, List.set_cons_succ]
      refine wpAnyH_take (i := 8) (v := ?_) (by simp only [List.getElem?_toArray, List.getElem?_cons_zero, List.getElem?_cons_succ]; rfl) (by kernel_rfl) (by kernel_rfl) (by kernel_rfl) (by exact fun _ _ _ h => h) (Or.inl ⟨by rfl, ?_⟩) (by assumption) ?_; rotate_left; (focus (intro w hSw; go_simp; try with_reducible rfl)); simp only [Act.put, List.setIfInBounds_toArray, List.set_cons_zero, List.set_cons_succ]
      refine wpAnyH_take (i := 9) (v := ?_) (by simp only [List.getElem?_toArray, List.getElem?_cons_zero, List.getElem?_cons_succ]; rfl) (by kernel_rfl) (by kernel_rfl) (by kernel_rfl) (by exact fun _ _ _ h => h) (Or.inl ⟨by rfl, ?_⟩) (by assumption) ?_; rotate_left; (focus (intro w hSw; have c0 := cc0 w hSw; have c1 := cc1 w hSw; go_simp; try with_reducible rfl)); simp only [Act.put, List.setIfInBounds_toArray, List.set_cons_zero, List.set_cons_succ]
      refine wpAnyH_take (i := 10) (v := ?_) (by simp only [List.getElem?_toArray, List.getElem?_cons_zero, List.getElem?_cons_succ]; rfl) (by kernel_rfl) (by kernel_rfl) (by kernel_rfl) (by exact fun _ _ _ h => h) (Or.inl ⟨by rfl, ?_⟩) (by assumption) ?_; rotate_left; (focus (intro w hSw; go_simp; try with_reducible rfl)); simp only [Act.put, List.setIfInBounds_toArray, List.set_cons_zero, List.set_cons_succ]
      refine wpAnyH_ready (rs := [11]) (by kernel_rfl) (by simp) ?_
      refine AllReadyH.cons (by simp only [List.getElem?_toArray, List.getElem?_cons_zero, List.getElem?_cons_succ]; rfl) (fun K hK => ?_) AllReadyH.nil
      go_simp
      go_at_call 27
      refine (cP _ hHeld).mono ?_
      rintro e w3 ⟨v, rfl, ⟨ps, hLP, hpl⟩, k3⟩
      obtain ⟨base, hbase⟩ : ∃ base, wr.drew.heap.size = base := ⟨_, rfl⟩
      rw [hbase] at hLP
      have hbn0 : nb < base := by rw [← hbase]; exact hHeld.n.lt
      have hl3 := hHeld.on k3
      refine hK.out _ _ (hl3) ?_
      clear hHeld hK
      intro hHeld
      (try simp only [Act.put, List.setIfInBounds_toArray, List.set_cons_zero, List.set_cons_succ])
      refine wpAnyH_take (i := 12) (v := ?_) (by simp only [List.getElem?_toArray, List.getElem?_cons_zero, List.getElem?_cons_succ]; rfl) (by kernel_rfl) (by kernel_rfl) (by kernel_rfl) (by exact fun _ _ _ h => h) (Or.inl ⟨by rfl, ?_⟩) (by assumption) ?_; rotate_left; (focus (intro w hSw; go_simp; try with_reducible rfl)); simp only [Act.put, List.setIfInBounds_toArray, List.set_cons_zero, List.set_cons_succ]
      refine wpAnyH_done (by kernel_rfl) ?_ _
      clear cc0 cc1 cP hHeld
      have hl := hl3
      clear hl3
      have hsl := hl.s.len
      have hsc := hl.s.cells
      have cD := hLP.done S hsl
      have hbn : nb < base := hbn0
      have hslD : (doneOf S ps).length = 18 := by rw [doneOf_len]; exact hsl
      have hS' : ∃ S', doneOf S ps = S' := ⟨_, rfl⟩
      obtain ⟨S', hS'⟩ := hS'
      rw [hS'] at cD hslD
      obtain ⟨m, hml⟩ : ∃ m, ps.length = m := ⟨_, rfl⟩
      go_wp2_with (first | (refine wpList_load_st rfl _ rfl _ rfl _ hsl hsc ?_) | fail)
      refine cD.mono ?_
      rintro e w4 ⟨rfl, k4⟩
      have hl := hl.on k4
      have hLP := hLP.kept k4 (by simp)
      clear cD hsc k4
      obtain ⟨W5, hW5⟩ : ∃ W5, w4.setCells nb 0 (stCells S') = W5 := ⟨_, rfl⟩
      have hl5 := hl.put_n hf (by omega) hdd hslD hW5
      have hnw := hl.n.writes
      have k5 : Kept [nb] w4 W5 := by rw [← hW5]; exact (st_stored hl.n hslD).2
      have hLP := hLP.kept k5 (by simp; omega)
      have cC := commitL (by rw [hS']; exact hl5) hf hdd (by omega) hLP hbn
      rw [hS'] at cC
      clear hl hl5 k5
      go_wp2_with (first | (refine wpList_store_st rfl _ _ rfl _ rfl _ rfl hslD hnw hW5 ?_) | fail)
      refine cC.mono ?_
      rintro e w6 ⟨k6, sS, sN, hh⟩
      obtain ⟨rfl, σ6, hd6, hle6, hn6⟩ : e = .returned (.int .i64 0) ∧ ∃ σ6, σ6.dead = false ∧ (σ.left = 0 → σ6.left = 0) ∧ ∀ W7, w6.setCells sb 0 (stCells S') = W7 → L1 w db pb mb lb sb nb W7 (2 * q + 1) S' S' σ6 (B + 90) := hh.resolve_right fun h => h.2.1 hle
      have hle6 := hle6 hle
      have hLP := hLP.kept k6 (by simp; omega)
      clear cC hnw hW5 hh k6
      obtain ⟨W7, hW7⟩ : ∃ W7, w6.setCells sb 0 (stCells S') = W7 := ⟨_, rfl⟩
      have hl7 := hn6 W7 hW7
      have k7 : Kept [sb] w6 W7 := by rw [← hW7]; exact (st_stored sS hslD).2
      have hLP := hLP.kept k7 (by simp; omega)
      have hnc := sN.cells
      have hsw := sS.writes
      clear hn6 sS sN k7
      go_wp2_with (first | (refine wpList_load_st rfl _ rfl _ rfl _ hslD hnc ?_) | (refine wpList_store_st rfl _ _ rfl _ rfl _ rfl hslD hsw hW7 ?_) | fail)
      clear hnc hsw hW7 hS'
      obtain ⟨A, cap, hvA, hm30⟩ : ∃ A cap, v = .slice A m cap ∧ m ≤ 30 := by
        rcases hLP with ⟨rfl, A, cap, h, _⟩ | ⟨pk, cap, h, _⟩
        · exact ⟨A, cap, by rw [h, ← hml]; rfl, by omega⟩
        · exact ⟨_, cap, by rw [h, ← hml], by omega⟩
      subst hvA
      go_loopw [15] (fun t15 wr => ∃ (k : Int) (ps : List PutV), 0 ≤ k ∧ k ≤ m ∧ t15 = .int .i64 k ∧ LP wr base (.slice A m cap) ps ∧ ps.length = m ∧ L1 w db pb mb lb sb nb wr (2 * q + 1) S' S' σ6 (B + 90)) (fun t15 _ => m - (Go.RowKit.intOf t15).toNat)
      case atStart => exact ⟨0, ps, by omega, by omega, rfl, hLP, hml, hl7⟩
      case round =>
        clear hLP hml hl7 hpl
        obtain ⟨k, ps, hk0, hk1, rfl, hLP, hml, hl⟩ := hrel
        by_cases hkm : k < m
        · obtain ⟨pk, rfl, hcap, hpk, hPK⟩ : ∃ pk, A = some ⟨pk, 0, none⟩ ∧ ps.length ≤ cap ∧ base ≤ pk ∧ PK wr pk base ps := by
            rcases hLP with ⟨rfl, _⟩ | ⟨pk, cap', h, h1, h2, h3⟩
            · simp at hml; omega
            · cases h; exact ⟨pk, rfl, h1, h2, h3⟩
          have cW := withinAt (k + q) 42 (by decide) (by decide) wr
          clear hLP
          go_wp2_with fail
          refine cW.mono ?_
          rintro e wa ⟨rfl, ka⟩
          have hz0 := Int.emod_nonneg (k + q) (show (42 : Int) ≠ 0 by decide)
          have hz1 := Int.emod_lt_of_pos (k + q) (show (0 : Int) < 42 by decide)
          obtain ⟨z, hz⟩ : ∃ z, (k + q) % 42 = z := ⟨_, rfl⟩
          rw [hz] at hz0 hz1
          have hl := hl.on ka
          have hPK := hPK.kept ka (by simp) (by simp)
          have cR := dread_any hl.disk hd6 z.toNat (by omega)
          rw [show ((z.toNat : Nat) : Int) = z by omega] at cR
          have hsec := hl.disk.sec z.toNat (by omega)
          clear cW ka
          rw [hz]
          go_wp2_with fail
          refine cR.mono ?_
          rintro e wb ⟨g, rfl, hg, hrow, kb⟩
          have hbs := hPK.puts.1
          have hnl := hl.n.lt
          have hl := hl.on kb
          have hPK := hPK.kept kb (by simp) (by simp)
          have hgb : base ≤ g := by have := hPK.puts.1; omega
          clear cR kb hz hz0 hz1
          generalize σ6.newest z.toNat = l at hrow hsec
          obtain ⟨x0, hx0⟩ : ∃ x0, ps[k.toNat]? = some x0 := ⟨_, List.getElem?_eq_getElem (by omega)⟩
          obtain ⟨ps', hPK', kk, hml'⟩ : ∃ ps', PK (wb.setCell ⟨pk, k.toNat * 2 + 1, none⟩ (.slice (some ⟨g, 0, none⟩) 128 128)) pk base ps' ∧ Kept [pk] wb (wb.setCell ⟨pk, k.toNat * 2 + 1, none⟩ (.slice (some ⟨g, 0, none⟩) 128 128)) ∧ ps'.length = m := by
            obtain ⟨a, b⟩ := hPK.set (k := k.toNat) (by omega) hrow hsec hgb (by omega)
            exact ⟨_, a, b, by rw [List.length_set]; exact hml⟩
          obtain ⟨c, hc⟩ := hPK.row
          have hcell := (hPK.puts.2 k.toNat x0 hx0).2.1
          have hfz : wb.frozen? ⟨pk, k.toNat * 2 + 1, none⟩ = false := row_frozen hc _
          have hl' : L1 w db pb mb lb sb nb (wb.setCell ⟨pk, k.toNat * 2 + 1, none⟩ (.slice (some ⟨g, 0, none⟩) 128 128)) (2 * q + 1) S' S' σ6 (B + 90) := by
            have hp : ∀ b, b < base → b ∉ [pk] := fun b h => by simp; omega
            exact ⟨hl.disk.kept kk (hp _ (by omega)) (hp _ (by omega)) (hp _ (by omega)), hl.few, hl.s.kept kk (hp _ (by omega)), hl.n.kept kk (hp _ (by omega)), hl.safe, (hl.kept.mono (by simp)).trans kk |>.fewer (by simp; omega), fun h => by
              obtain ⟨s1, U, sq, hL, r⟩ := hl.live h
              exact ⟨s1, U, sq, hL.kept kk (hp _ (by omega)) (hp _ (by omega)) (hp _ (by omega)) (hp _ (by omega)), r⟩⟩
          have hcap' : ps'.length ≤ cap := by omega
          clear hPK kk hl hc hrow hsec hx0
          go_wp2_with fail
          go_roundw
          case rel => exact ⟨k + 1, ps', by omega, by omega, rfl, Or.inr ⟨pk, cap, by rw [hml'], hcap', hpk, hPK'⟩, hml', hl'⟩
          case measure => simp [Go.RowKit.intOf]; omega
        · by_cases hpar : q % 2 = 1
          · have cW := withinAt stop 30 (by decide) (by decide) wr
            have hs0 := Int.emod_nonneg stop (show (30 : Int) ≠ 0 by decide)
            have hs1 := Int.emod_lt_of_pos stop (show (0 : Int) < 30 by decide)
            go_wp2_with fail
            refine cW.mono ?_
            rintro e wa ⟨rfl, ka⟩
            have hl := hl.on ka
            have hLP := hLP.kept ka (by simp)
            obtain ⟨st, hst⟩ : ∃ st, 1 + stop % 30 = st := ⟨_, rfl⟩
            have hst0 : 0 ≤ st := by omega
            have hst1 : st < 1000000 := by omega
            have cS := stopAt hl.disk st hst0 hst1
            clear cW ka
            go_wp2_with fail
            refine cS.mono ?_
            rintro e wb ⟨rfl, d8, k8⟩
            have hl := hl.stop hf d8 k8
            have hLP := hLP.kept k8 (by simp; omega)
            clear cS hst hs0 hs1 d8 k8
            have hd7 : ({ σ6 with left := st } : Dsk).dead = false := hd6
            generalize ({ σ6 with left := st } : Dsk) = σ7 at hl hd7
            have hsl8 := hl.s.len
            have hsc8 := hl.s.cells
            have cD := hLP.done S' hsl8
            have hslE : (doneOf S' ps).length = 18 := by rw [doneOf_len]; exact hsl8
            obtain ⟨S2, hS2⟩ : ∃ S2, doneOf S' ps = S2 := ⟨_, rfl⟩
            rw [hS2] at cD hslE
            go_wp2_with (first | (refine wpList_load_st rfl _ rfl _ rfl _ hsl8 hsc8 ?_) | fail)
            refine cD.mono ?_
            rintro e w8 ⟨rfl, k8⟩
            have hl := hl.on k8
            have hLP := hLP.kept k8 (by simp)
            clear cD hsc8 k8
            obtain ⟨W9, hW9⟩ : ∃ W9, w8.setCells nb 0 (stCells S2) = W9 := ⟨_, rfl⟩
            have hl9 := hl.put_n hf (by omega) hd7 hslE hW9
            have hnw := hl.n.writes
            have k9 : Kept [nb] w8 W9 := by rw [← hW9]; exact (st_stored hl.n hslE).2
            have hLP := hLP.kept k9 (by simp; omega)
            have cC := commitL (by rw [hS2]; exact hl9) hf hd7 (by omega) hLP hbn
            rw [hS2] at cC
            clear hl hl9 k9 hLP
            go_wp2_with (first | (refine wpList_store_st rfl _ _ rfl _ rfl _ rfl hslE hnw hW9 ?_) | fail)
            refine cC.mono ?_
            rintro e wg ⟨_, sS, sN, hh⟩
            clear cC hnw hW9 hS2
            rcases hh with ⟨rfl, σ8, hd8, _, hn8⟩ | ⟨rfl, _, σ8, hl⟩
            · obtain ⟨Wh, hWh⟩ : ∃ Wh, wg.setCells sb 0 (stCells S2) = Wh := ⟨_, rfl⟩
              have hl := hn8 Wh hWh
              have hnc := sN.cells
              have hsw := sS.writes
              have cS := stopAt hl.disk 0 (by decide) (by decide)
              clear hn8 sS sN
              go_wp2_with (first | (refine wpList_load_st rfl _ rfl _ rfl _ hslE hnc ?_) | (refine wpList_store_st rfl _ _ rfl _ rfl _ rfl hslE hsw hWh ?_) | fail)
              refine cS.mono ?_
              rintro e wi ⟨rfl, d8, k8⟩
              have hl := hl.stop hf d8 k8
              rw [show 2 * q + 1 + 1 = 2 * (q + 1) by omega] at hl
              have hd9 : ({ σ8 with left := 0 } : Dsk).dead = false := hd8
              have hle9 : ({ σ8 with left := 0 } : Dsk).left = 0 := rfl
              generalize ({ σ8 with left := 0 } : Dsk) = σ9 at hl hd9 hle9
              clear cS d8 k8 hWh hnc hsw
              go_wp2_with fail
              go_roundw
              case rel => exact ⟨q + 1, S2, S2, σ9, _, by omega, by omega, rfl, hl, hd9, hle9⟩
              case measure => simp [Go.RowKit.intOf]; omega
            · clear sS sN
              have cX := crashAt hl.disk (by have := hl.few; omega) hZ hl.kept hf.p cap2
              go_wp2_with fail
              refine cX.mono ?_
              rintro e wc ⟨r6, rfl, p6, hp6, d6, k6⟩
              obtain ⟨V, t, ⟨hV, ht0, ht1⟩, hp⟩ := hl.safe p6 hp6
              have s6 := hl.s.kept k6 (by simp; omega)
              have n6 := hl.n.kept k6 (by simp; omega)
              have kk6 : Kept [] w wc := (hl.kept.mono (by simp)).trans k6 |>.fewer (by simp; omega)
              have cO := reopen d6 (by decide) (by have := hl.few; omega) ht0 (by omega) hp
              clear cX hp6 hl k6 hp
              go_wp2_with fail
              refine cO.mono ?_
              rintro e wd ⟨lh, rfl, hlh, W7, k7⟩
              have hs6 := n6.lt
              have hkz := kk6.size
              have s7 := s6.kept k7 (by simp; omega)
              have n7 := n6.kept k7 (by simp; omega)
              have kk7 : Kept [] w wd := (kk6.mono (by simp)).trans k7 |>.fewer (by simp; omega)
              clear cO d6 s6 n6 kk6 k7
              have hsl7 := s7.len
              have hnl7 := n7.len
              have hsc7 := s7.cells
              have cH := holds_any W7 _ hsl7
              go_wp2_with (first | (refine wpList_load_stg (by first | rfl | simp [Region.wanted, yielded]) _ rfl _ rfl _ hsl7 hsc7 ?_) | fail)
              refine cH.mono ?_
              rintro e we ⟨b, rfl, hbb, We, ke⟩
              have kke : Kept [] w we := (kk7.mono (by simp)).trans ke |>.fewer (by simp; omega)
              have ne := n7.kept ke (by simp; omega)
              have hor : b = true ∨ (b = false ∧ Tells V S2) := by cases b with | true => exact Or.inl rfl | false => exact Or.inr ⟨rfl, hV.resolve_left fun h => by cases hbb.2 h⟩
              have hbel : Below w.heap.size w we := kke.to_below (Nat.le_refl _) (by simp)
              clear cH hbb hsc7 s7 n7 kk7 ke hV W7
              rcases hor with rfl | ⟨rfl, hTN⟩
              · go_wp2
                go_ret
                exact ⟨rfl, hbel⟩
              · have hnc7 := ne.cells
                have cH := holds_any We _ hnl7
                clear hbel
                go_wp2_with (first | (refine wpList_load_stg (by first | rfl | simp [Region.wanted, yielded]) _ rfl _ rfl _ hnl7 hnc7 ?_) | fail)
                refine cH.mono ?_
                rintro e wf ⟨b, rfl, hbb, Wf, kf⟩
                obtain rfl : b = true := hbb.2 hTN
                have kkf : Kept [] w wf := (kke.mono (by simp)).trans kf |>.fewer (by simp; omega)
                have hbel : Below w.heap.size w wf := kkf.to_below (Nat.le_refl _) (by simp)
                clear cH hbb hnc7 ne kke kf kkf We Wf hTN
                go_wp2
                go_ret
                exact ⟨rfl, hbel⟩
          · have hd7 := hd6
            have hsl8 := hl.s.len
            have hsc8 := hl.s.cells
            have cD := hLP.done S' hsl8
            have hslE : (doneOf S' ps).length = 18 := by rw [doneOf_len]; exact hsl8
            obtain ⟨S2, hS2⟩ : ∃ S2, doneOf S' ps = S2 := ⟨_, rfl⟩
            rw [hS2] at cD hslE
            go_wp2_with (first | (refine wpList_load_st rfl _ rfl _ rfl _ hsl8 hsc8 ?_) | fail)
            refine cD.mono ?_
            rintro e w8 ⟨rfl, k8⟩
            have hl := hl.on k8
            have hLP := hLP.kept k8 (by simp)
            clear cD hsc8 k8
            obtain ⟨W9, hW9⟩ : ∃ W9, w8.setCells nb 0 (stCells S2) = W9 := ⟨_, rfl⟩
            have hl9 := hl.put_n hf (by omega) hd7 hslE hW9
            have hnw := hl.n.writes
            have k9 : Kept [nb] w8 W9 := by rw [← hW9]; exact (st_stored hl.n hslE).2
            have hLP := hLP.kept k9 (by simp; omega)
            have cC := commitL (by rw [hS2]; exact hl9) hf hd7 (by omega) hLP hbn
            rw [hS2] at cC
            clear hl hl9 k9 hLP
            go_wp2_with (first | (refine wpList_store_st rfl _ _ rfl _ rfl _ rfl hslE hnw hW9 ?_) | fail)
            refine cC.mono ?_
            rintro e wg ⟨_, sS, sN, hh⟩
            clear cC hnw hW9 hS2
            rcases hh with ⟨rfl, σ8, hd8, _, hn8⟩ | ⟨rfl, _, σ8, hl⟩
            · obtain ⟨Wh, hWh⟩ : ∃ Wh, wg.setCells sb 0 (stCells S2) = Wh := ⟨_, rfl⟩
              have hl := hn8 Wh hWh
              have hnc := sN.cells
              have hsw := sS.writes
              have cS := stopAt hl.disk 0 (by decide) (by decide)
              clear hn8 sS sN
              go_wp2_with (first | (refine wpList_load_st rfl _ rfl _ rfl _ hslE hnc ?_) | (refine wpList_store_st rfl _ _ rfl _ rfl _ rfl hslE hsw hWh ?_) | fail)
              refine cS.mono ?_
              rintro e wi ⟨rfl, d8, k8⟩
              have hl := hl.stop hf d8 k8
              rw [show 2 * q + 1 + 1 = 2 * (q + 1) by omega] at hl
              have hd9 : ({ σ8 with left := 0 } : Dsk).dead = false := hd8
              have hle9 : ({ σ8 with left := 0 } : Dsk).left = 0 := rfl
              generalize ({ σ8 with left := 0 } : Dsk) = σ9 at hl hd9 hle9
              clear cS d8 k8 hWh hnc hsw
              go_wp2_with fail
              go_roundw
              case rel => exact ⟨q + 1, S2, S2, σ9, _, by omega, by omega, rfl, hl, hd9, hle9⟩
              case measure => simp [Go.RowKit.intOf]; omega
            · clear sS sN
              have cX := crashAt hl.disk (by have := hl.few; omega) hZ hl.kept hf.p cap2
              go_wp2_with fail
              refine cX.mono ?_
              rintro e wc ⟨r6, rfl, p6, hp6, d6, k6⟩
              obtain ⟨V, t, ⟨hV, ht0, ht1⟩, hp⟩ := hl.safe p6 hp6
              have s6 := hl.s.kept k6 (by simp; omega)
              have n6 := hl.n.kept k6 (by simp; omega)
              have kk6 : Kept [] w wc := (hl.kept.mono (by simp)).trans k6 |>.fewer (by simp; omega)
              have cO := reopen d6 (by decide) (by have := hl.few; omega) ht0 (by omega) hp
              clear cX hp6 hl k6 hp
              go_wp2_with fail
              refine cO.mono ?_
              rintro e wd ⟨lh, rfl, hlh, W7, k7⟩
              have hs6 := n6.lt
              have hkz := kk6.size
              have s7 := s6.kept k7 (by simp; omega)
              have n7 := n6.kept k7 (by simp; omega)
              have kk7 : Kept [] w wd := (kk6.mono (by simp)).trans k7 |>.fewer (by simp; omega)
              clear cO d6 s6 n6 kk6 k7
              have hsl7 := s7.len
              have hnl7 := n7.len
              have hsc7 := s7.cells
              have cH := holds_any W7 _ hsl7
              go_wp2_with (first | (refine wpList_load_stg (by first | rfl | simp [Region.wanted, yielded]) _ rfl _ rfl _ hsl7 hsc7 ?_) | fail)
              refine cH.mono ?_
              rintro e we ⟨b, rfl, hbb, We, ke⟩
              have kke : Kept [] w we := (kk7.mono (by simp)).trans ke |>.fewer (by simp; omega)
              have ne := n7.kept ke (by simp; omega)
              have hor : b = true ∨ (b = false ∧ Tells V S2) := by cases b with | true => exact Or.inl rfl | false => exact Or.inr ⟨rfl, hV.resolve_left fun h => by cases hbb.2 h⟩
              have hbel : Below w.heap.size w we := kke.to_below (Nat.le_refl _) (by simp)
              clear cH hbb hsc7 s7 n7 kk7 ke hV W7
              rcases hor with rfl | ⟨rfl, hTN⟩
              · go_wp2
                go_ret
                exact ⟨rfl, hbel⟩
              · have hnc7 := ne.cells
                have cH := holds_any We _ hnl7
                clear hbel
                go_wp2_with (first | (refine wpList_load_stg (by first | rfl | simp [Region.wanted, yielded]) _ rfl _ rfl _ hnl7 hnc7 ?_) | fail)
                refine cH.mono ?_
                rintro e wf ⟨b, rfl, hbb, Wf, kf⟩
                obtain rfl : b = true := hbb.2 hTN
                have kkf : Kept [] w wf := (kke.mono (by simp)).trans kf |>.fewer (by simp; omega)
                have hbel : Below w.heap.size w wf := kkf.to_below (Nat.le_refl _) (by simp)
                clear cH hbb hnc7 ne kke kf kkf We Wf hTN
                go_wp2
                go_ret
                exact ⟨rfl, hbel⟩
    · clear hG
      by_cases g1 : q < len0
      · have g2 : ¬ q < 8 := fun h => hgo ⟨g1, h⟩
        clear hgo
        have cX := crashAt hl.disk (by have := hl.few; omega) hZ hl.kept hf.p cap2
        go_wp2_with fail
        refine cX.mono ?_
        rintro e wc ⟨r6, rfl, p6, hp6, d6, k6⟩
        obtain ⟨V, t, ⟨hV, ht0, ht1⟩, hp⟩ := hl.safe p6 hp6
        have s6 := hl.s.kept k6 (by simp; omega)
        have n6 := hl.n.kept k6 (by simp; omega)
        have kk6 : Kept [] w wc := (hl.kept.mono (by simp)).trans k6 |>.fewer (by simp; omega)
        have cO := reopen d6 (by decide) (by have := hl.few; omega) ht0 (by omega) hp
        clear cX hp6 hl k6 hp
        go_wp2_with fail
        refine cO.mono ?_
        rintro e wd ⟨lh, rfl, hlh, W7, k7⟩
        have hs6 := n6.lt
        have hkz := kk6.size
        have s7 := s6.kept k7 (by simp; omega)
        have n7 := n6.kept k7 (by simp; omega)
        have kk7 : Kept [] w wd := (kk6.mono (by simp)).trans k7 |>.fewer (by simp; omega)
        clear cO d6 s6 n6 kk6 k7
        have hsl7 := s7.len
        have hnl7 := n7.len
        have hsc7 := s7.cells
        have cH := holds_any W7 _ hsl7
        go_wp2_with (first | (refine wpList_load_stg (by first | rfl | simp [Region.wanted, yielded]) _ rfl _ rfl _ hsl7 hsc7 ?_) | fail)
        refine cH.mono ?_
        rintro e we ⟨b, rfl, hbb, We, ke⟩
        have kke : Kept [] w we := (kk7.mono (by simp)).trans ke |>.fewer (by simp; omega)
        have ne := n7.kept ke (by simp; omega)
        have hor : b = true ∨ (b = false ∧ Tells V N) := by cases b with | true => exact Or.inl rfl | false => exact Or.inr ⟨rfl, hV.resolve_left fun h => by cases hbb.2 h⟩
        have hbel : Below w.heap.size w we := kke.to_below (Nat.le_refl _) (by simp)
        clear cH hbb hsc7 s7 n7 kk7 ke hV W7
        rcases hor with rfl | ⟨rfl, hTN⟩
        · go_wp2
          go_ret
          exact ⟨rfl, hbel⟩
        · have hnc7 := ne.cells
          have cH := holds_any We _ hnl7
          clear hbel
          go_wp2_with (first | (refine wpList_load_stg (by first | rfl | simp [Region.wanted, yielded]) _ rfl _ rfl _ hnl7 hnc7 ?_) | fail)
          refine cH.mono ?_
          rintro e wf ⟨b, rfl, hbb, Wf, kf⟩
          obtain rfl : b = true := hbb.2 hTN
          have kkf : Kept [] w wf := (kke.mono (by simp)).trans kf |>.fewer (by simp; omega)
          have hbel : Below w.heap.size w wf := kkf.to_below (Nat.le_refl _) (by simp)
          clear cH hbb hnc7 ne kke kf kkf We Wf hTN
          go_wp2
          go_ret
          exact ⟨rfl, hbel⟩
      · clear hgo
        have cX := crashAt hl.disk (by have := hl.few; omega) hZ hl.kept hf.p cap2
        go_wp2_with fail
        refine cX.mono ?_
        rintro e wc ⟨r6, rfl, p6, hp6, d6, k6⟩
        obtain ⟨V, t, ⟨hV, ht0, ht1⟩, hp⟩ := hl.safe p6 hp6
        have s6 := hl.s.kept k6 (by simp; omega)
        have n6 := hl.n.kept k6 (by simp; omega)
        have kk6 : Kept [] w wc := (hl.kept.mono (by simp)).trans k6 |>.fewer (by simp; omega)
        have cO := reopen d6 (by decide) (by have := hl.few; omega) ht0 (by omega) hp
        clear cX hp6 hl k6 hp
        go_wp2_with fail
        refine cO.mono ?_
        rintro e wd ⟨lh, rfl, hlh, W7, k7⟩
        have hs6 := n6.lt
        have hkz := kk6.size
        have s7 := s6.kept k7 (by simp; omega)
        have n7 := n6.kept k7 (by simp; omega)
        have kk7 : Kept [] w wd := (kk6.mono (by simp)).trans k7 |>.fewer (by simp; omega)
        clear cO d6 s6 n6 kk6 k7
        have hsl7 := s7.len
        have hnl7 := n7.len
        have hsc7 := s7.cells
        have cH := holds_any W7 _ hsl7
        go_wp2_with (first | (refine wpList_load_stg (by first | rfl | simp [Region.wanted, yielded]) _ rfl _ rfl _ hsl7 hsc7 ?_) | fail)
        refine cH.mono ?_
        rintro e we ⟨b, rfl, hbb, We, ke⟩
        have kke : Kept [] w we := (kk7.mono (by simp)).trans ke |>.fewer (by simp; omega)
        have ne := n7.kept ke (by simp; omega)
        have hor : b = true ∨ (b = false ∧ Tells V N) := by cases b with | true => exact Or.inl rfl | false => exact Or.inr ⟨rfl, hV.resolve_left fun h => by cases hbb.2 h⟩
        have hbel : Below w.heap.size w we := kke.to_below (Nat.le_refl _) (by simp)
        clear cH hbb hsc7 s7 n7 kk7 ke hV W7
        rcases hor with rfl | ⟨rfl, hTN⟩
        · go_wp2
          go_ret
          exact ⟨rfl, hbel⟩
        · have hnc7 := ne.cells
          have cH := holds_any We _ hnl7
          clear hbel
          go_wp2_with (first | (refine wpList_load_stg (by first | rfl | simp [Region.wanted, yielded]) _ rfl _ rfl _ hnl7 hnc7 ?_) | fail)
          refine cH.mono ?_
          rintro e wf ⟨b, rfl, hbb, Wf, kf⟩
          obtain rfl : b = true := hbb.2 hTN
          have kkf : Kept [] w wf := (kke.mono (by simp)).trans kf |>.fewer (by simp; omega)
          have hbel : Below w.heap.size w wf := kkf.to_below (Nat.le_refl _) (by simp)
          clear cH hbb hnc7 ne kke kf kkf We Wf hTN
          go_wp2
          go_ret
          exact ⟨rfl, hbel⟩
end Go.Proofs.Ytgjnlocokkjejaa
