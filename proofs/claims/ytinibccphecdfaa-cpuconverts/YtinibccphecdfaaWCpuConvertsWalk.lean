/-
  CpuConverts, walked. Written by mk_cpuconv.py.
-/
import Derived.Test.YtinibccphecdfaaPt4
namespace Go.Proofs.Ytinibccphecdfaa
open Go.RowKit
set_option maxRecDepth 8000
set_option linter.unusedSimpArgs false
set_option linter.unusedVariables false

theorem cvt_step (a o : Int) (h0 : 0 ≤ o) (h1 : o ≤ 22) : stepC { newC with a := a } [oneG [⟨o, 0, 0⟩] []] = opC { newC with a := a } [oneG [⟨o, 0, 0⟩] []] ⟨o, 0, 0⟩ := by
  have hi : insE ⟨o, 0, 0⟩ = 0 := insE_zero.2 ⟨⟨h0, h1⟩, by show (0 : Int) ≤ 0; decide, by show (0 : Int) ≤ 3; decide, by show (-2147483648 : Int) ≤ 0; decide, by show (0 : Int) ≤ 2147483647; decide⟩
  exact step_of (c := { newC with a := a }) (m := [oneG [⟨o, 0, 0⟩] []]) (g := oneG [⟨o, 0, 0⟩] []) (i := ⟨o, 0, 0⟩) rfl rfl rfl (show hasM 7 4 = true by decide +kernel) (show mayX ⟨4, 4, 4, 0⟩ 4 = true by decide +kernel) ⟨by show (0 : Int) ≤ 0; decide, by show (0 : Int) < ((1 : Nat) : Int); decide⟩ rfl hi
set_option maxRecDepth 8000 in
set_option maxHeartbeats 8000000 in
theorem cpuConvA (a : Int) (fw : Int) (hfw : toW (floatOfInt .f64 a) = fw) (ha : fit64 a) (w : World) :
    Calls Try.prog 8 #[.int .i64 a, .bool false] w fun e w' => e = .returned (.bool true) ∧ Below w.heap.size w w' := by
  have hundS := Try.underlying33
  have hszS : (Try.prog.info? 33).map (·.size) = some 18 := by kernel_rfl
  have hszC : (Try.prog.info? 33).map (·.size) = some (stCs { newC with a := a } nilS).length := hszS
  have hundI := Try.underlying64
  have hszI : (Try.prog.info? 64).map (·.size) = some 3 := by kernel_rfl
  have hmi : ∀ (v : Value) (w : World), (Instr.makeInterface 43 v).run Try.prog w = .ok (.iface 43 v) w := fun _ _ => rfl
  have hst : stepC { newC with a := a } [oneG [⟨12, 0, 0⟩] []] = okC { newC with a := fw, off := 1 } := by rw [cvt_step a 12 (by decide) (by decide), ← hfw]; rfl
  have hok1 : (oneG [⟨12, 0, 0⟩] []).Ok := one_ok (fun z hz => by simp at hz) (by show 1 + 0 ≤ 1000; decide)
  have hCok : Cp.Ok { newC with a := a } := ⟨rfl, newC_ok.pp, newC_ok.ring, ha, newC_ok.st, newC_ok.sr⟩
  have kfi : ∀ W : World, Calls Try.prog 27 #[.int .i64 a] W fun e w' => e = .returned (.int .i64 fw) ∧ Below W.heap.size W w' := fun W => (donjonref1_FromInt_any a W).mono fun e w' h => ⟨by rw [← hfw]; exact h.1, by rw [h.2]; exact Below.refl _ _⟩
  clear hfw
  go_enter Try.func8, Try.ntmps8
  go_wp2_with fail
  refine (ck_any w).mono ?_
  rintro e W1 ⟨rfl, hB1⟩
  have hi1 := blkl_alloc W1 (ins3 ⟨12, 0, 0⟩).toArray 64
  have hbi := alloc_below W1 (.cells (ins3 ⟨12, 0, 0⟩).toArray 64)
  have hB2 := Below.then hB1 hbi
  replace hi1 : BlkL W1.heap.size (ins3 ⟨12, 0, 0⟩) (W1.alloc (.cells #[.int .i64 12, .int .i64 0, .int .i64 0] 64)) := hi1
  replace hB2 : Below w.heap.size w (W1.alloc (.cells #[.int .i64 12, .int .i64 0, .int .i64 0] 64)) := hB2
  clear hbi
  go_upto_region 6 with fail
  generalize W1.alloc (.cells #[.int .i64 12, .int .i64 0, .int .i64 0] 64) = W2 at *
  generalize W1.heap.size = bi at *
  go_wp2_with fail
  refine (cnew_any W2).mono ?_
  rintro e W6 ⟨rfl, hb6⟩
  obtain ⟨W7, hW7, hth7, hs7, hb7⟩ := new_stC W6 newC rfl nilS
  have hB6 := Below.then hB2 hb6
  have hi6 := stab_blk _ _ _ _ (stab_blk _ _ _ _ hi1 hb6) hb7
  have hil := (stab_blk _ _ _ _ hi1 hb6).2
  have y3 := hs7.a
  have yf := (hs7.blk.1 3 _ rfl).2
  have hs0 : StAt W6.heap.size { newC with a := a } nilS (W7.setCell ⟨W6.heap.size, 3, none⟩ (.int .i64 a)) := by
    have h1 := hs7.blk.1.set 3 (.int .i64 a) (by show 3 < 18; decide)
    exact ⟨rfl, h1, h1.lt rfl⟩
  have hi0 := far_blk hi6 (show W6.heap.size ≠ bi by omega) 3 (.int .i64 a)
  have hB0 := (Below.then hB6 hb7).setCell (p := ⟨W6.heap.size, 3, none⟩) hB6.size (.int .i64 a)
  have hone7 : ∀ u ∈ stCs newC nilS, u.oneCell' = true := st_one _ _ rfl
  have hsz7 : (Try.prog.info? 33).map (·.size) = some (stCs newC nilS).length := by kernel_rfl
  obtain ⟨Y, hY⟩ : ∃ Y, stCs newC nilS = Y := ⟨_, rfl⟩
  rw [hY] at hW7 hth7 hone7 hsz7
  have hYv : Aside (.agg (stCs newC nilS).toArray = Value.agg Y.toArray) := by rw [hY]; exact rfl
  clear hY hb6 hb7 hs7 hB6 hi6 hi1 hil
  go_upto_region 8 with (first | (refine wpList_store_row rfl _ _ rfl W6.heap.size rfl Y hYv.out hth7 hsz7 hone7 hW7 ?_) | fail)
  clear hW7 hth7 hone7 hsz7 hYv y3 yf
  generalize W7.setCell ⟨W6.heap.size, 3, none⟩ (.int .i64 a) = Z at *
  generalize W6.heap.size = bs at *
  have hS := (Below.refl Z.heap.size Z).drew
  have hB := Below.then hB0 hS
  clear hB0
  refine wp_region_held_drew (S := (fun W => Below Z.heap.size Z W)) (by kernel_rfl) (by exact hS) ?_
  intro hHeld
  generalize Z.drew = w0 at *
  refine wpAnyH_take (i := 0) (v := _) (by simp only [gA, gB, gC]; rfl) (by kernel_rfl) (by kernel_rfl) (by kernel_rfl) (by exact fun _ _ _ h => h) (yields_row (by rfl) _ rfl bs rfl (stCs { newC with a := a } nilS) (fun _ q => (hs0.keep q).blk.range) hundS rfl hszC) (by assumption) ?_; (try simp only [Act.put, sA, sB, sC])
  refine wpAnyH_take (i := 1) (v := _) (by simp only [gA, gB, gC]; rfl) (by kernel_rfl) (by kernel_rfl) (by kernel_rfl) (by exact fun _ _ _ h => h) (yields_row (by rfl) _ rfl bi rfl (ins3 ⟨12, 0, 0⟩) (fun _ q => (stab_blk _ _ _ _ hi0 q).range) hundI rfl hszI) (by assumption) ?_; (try simp only [Act.put, sA, sB, sC])
  refine wpAnyH_ready (rs := [2, 14]) (by kernel_rfl) (by simp) ?_
  refine AllReadyH.cons (by simp only [gA, gB, gC]; rfl) (fun K hK => ?_) ?_
  · skip
    have hb := alloc_below w0 (.cells (ins3 ⟨12, 0, 0⟩).toArray 64)
    have hI := row_list (f := ins3) (sz := 3) (fun _ => rfl) w0 [⟨12, 0, 0⟩] (ins3 ⟨12, 0, 0⟩).toArray (by simp) 64
    refine step_build1 in_okC (by decide) rfl _ rfl (ins3 ⟨12, 0, 0⟩) rfl rfl ?_
    (try simp only [Act.put, sA, sB, sC])
    refine hK.out _ _ (Below.then hS hb) ?_
    clear hHeld hK
    intro hHeld
    replace hB := Below.then hB hb
    replace hS := Below.then hS hb
    clear hb
    generalize w0.alloc (.cells (ins3 ⟨12, 0, 0⟩).toArray 64) = w1 at *
    generalize w0.heap.size = gI at *
    (try simp only [Act.put, sA, sB, sC])
    refine wpAnyH_ready (rs := [3, 14]) (by kernel_rfl) (by simp) ?_
    refine AllReadyH.cons (by simp only [gA, gB, gC]; rfl) (fun K hK => ?_) ?_
    · go_simp
      go_at_call 21
      refine (cone_any [⟨12, 0, 0⟩] [] (some ⟨gI, 0, none⟩) none 1 0 (by show 1 ≤ 100; decide) (by show 0 ≤ 100; decide) (fun _ => rfl) w1 hI (fun j y h => by simp at h)).mono ?_
      rintro e w2 ⟨x, hxg, rfl, hxo, hb⟩
      replace hB := Below.then hB hb
      replace hS := Below.then hS hb
      clear hb hI
      refine hK.out _ _ (hS) ?_
      clear hHeld hK
      intro hHeld
      (try simp only [Act.put, sA, sB, sC])
      refine wpAnyH_ready (rs := [4, 14]) (by kernel_rfl) (by simp) ?_
      refine AllReadyH.cons (by simp only [gA, gB, gC]; rfl) (fun K hK => ?_) ?_
      · skip
        have hb := alloc_below w2 (.cells x.cs.toArray 57)
        have hR := row_list pg_len w2 [x] x.cs.toArray (by simp) 57
        refine step_build1 pg_okC (by decide) rfl _ rfl x.cs rfl rfl ?_
        (try simp only [Act.put, sA, sB, sC])
        refine hK.out _ _ (Below.then hS hb) ?_
        clear hHeld hK
        intro hHeld
        replace hB := Below.then hB hb
        replace hS := Below.then hS hb
        replace hxo := hxo.below hb
        clear hb
        generalize w2.alloc (.cells x.cs.toArray 57) = w3 at *
        generalize w2.heap.size = gG at *
        (try simp only [Act.put, sA, sB, sC])
        refine wpAnyH_take (i := 5) (v := ?_) (by simp only [gA, gB, gC]; rfl) (by kernel_rfl) (by kernel_rfl) (by kernel_rfl) (by exact fun _ _ _ h => h) (Or.inl ⟨by rfl, ?_⟩) (by assumption) ?_; rotate_left; (focus (intro w hSw; (try dsimp only at hSw); go_simp; try with_reducible rfl)); (try simp only [Act.put, sA, sB, sC])
        refine wpAnyH_ready (rs := [6, 14]) (by kernel_rfl) (by simp) ?_
        refine AllReadyH.cons (by simp only [gA, gB, gC]; rfl) (fun K hK => ?_) ?_
        · go_simp
          have hb : Below w3.heap.size w3 (w3.alloc (.cells #[.slice (some ⟨gG, 0, none⟩) 1 1, .bool false, .int .i64 0, .int .i64 0, .int .i64 0, .int .i64 0] 47)) := alloc_below w3 _
          have hm : BlkL w3.heap.size (memCs (.slice (some ⟨gG, 0, none⟩) 1 1) false 0 0 0 0) (w3.alloc (.cells #[.slice (some ⟨gG, 0, none⟩) 1 1, .bool false, .int .i64 0, .int .i64 0, .int .i64 0, .int .i64 0] 47)) := blkl_alloc w3 #[.slice (some ⟨gG, 0, none⟩) 1 1, .bool false, .int .i64 0, .int .i64 0, .int .i64 0, .int .i64 0] 47
          refine hK.out _ _ (Below.then hS hb) ?_
          clear hHeld hK
          intro hHeld
          replace hB := Below.then hB hb
          replace hS := Below.then hS hb
          replace hxo := hxo.below hb
          replace hR := hR.below pg_len hb
          have hM := MemO.of (by rw [hxg]; exact hok1) hxo hm ⟨hR, fun z hz => by rw [List.mem_singleton.1 hz]; exact own_at hxo⟩
          clear hb hm hR
          generalize w3.alloc (.cells #[.slice (some ⟨gG, 0, none⟩) 1 1, .bool false, .int .i64 0, .int .i64 0, .int .i64 0, .int .i64 0] 47) = w4 at *
          generalize w3.heap.size = bm at *
          (try simp only [Act.put, sA, sB, sC])
          refine wpAnyH_take (i := 7) (v := ?_) (by simp only [gA, gB, gC]; rfl) (by kernel_rfl) (by kernel_rfl) (by kernel_rfl) (by exact fun _ _ _ h => h) (Or.inl ⟨by rfl, ?_⟩) (by assumption) ?_; rotate_left; (focus (intro w hSw; (try dsimp only at hSw); go_simp; try with_reducible rfl)); (try simp only [Act.put, sA, sB, sC])
          refine wpAnyH_ready (rs := [8, 14]) (by kernel_rfl) (by simp) ?_
          refine AllReadyH.cons (by simp only [gA, gB, gC]; rfl) (fun K hK => ?_) ?_
          · go_simp
            go_at_call 17
            refine (cstepV { newC with a := a } hCok nilS hM (SV.nil _) (okC { newC with a := fw, off := 1 }) (by rw [show [x].map (·.g) = [oneG [⟨12, 0, 0⟩] []] by simp [hxg]]; exact hst)).mono ?_
            rintro e w5 hP
            obtain ⟨vA, rfl, hoA, hb⟩ := hP.okE
            have hvA := SV.own hoA
            replace hB := Below.then hB hb
            replace hS := Below.then hS hb
            clear hb hP hoA hM hxo
            refine hK.out _ _ (hS) ?_
            clear hHeld hK
            intro hHeld
            (try simp only [Act.put, sA, sB, sC])
            refine wpAnyH_take (i := 9) (v := ?_) (by simp only [gA, gB, gC]; rfl) (by kernel_rfl) (by kernel_rfl) (by kernel_rfl) (by exact fun _ _ _ h => h) (Or.inl ⟨by rfl, ?_⟩) (by assumption) ?_; rotate_left; (focus (intro w hSw; (try dsimp only at hSw); go_simp; try with_reducible rfl)); (try simp only [Act.put, sA, sB, sC])
            refine wpAnyH_take (i := 10) (v := ?_) (by simp only [gA, gB, gC]; rfl) (by kernel_rfl) (by kernel_rfl) (by kernel_rfl) (by exact fun _ _ _ h => h) (Or.inl ⟨by rfl, ?_⟩) (by assumption) ?_; rotate_left; (focus (intro w hSw; (try dsimp only at hSw); go_simp; try with_reducible rfl)); (try simp only [Act.put, sA, sB, sC])
            refine wpAnyH_take (i := 11) (v := ?_) (by simp only [gA, gB, gC]; rfl) (by kernel_rfl) (by kernel_rfl) (by kernel_rfl) (by exact fun _ _ _ h => h) (Or.inl ⟨by rfl, ?_⟩) (by assumption) ?_; rotate_left; (focus (intro w hSw; (try dsimp only at hSw); go_simp; try with_reducible rfl)); (try simp only [Act.put, sA, sB, sC])
            refine wpAnyH_take (i := 12) (v := ?_) (by simp only [gA, gB, gC]; rfl) (by kernel_rfl) (by kernel_rfl) (by kernel_rfl) (by exact fun _ _ _ h => h) (Or.inl ⟨by rfl, ?_⟩) (by assumption) ?_; rotate_left; (focus (intro w hSw; (try dsimp only at hSw); go_simp; try with_reducible rfl)); (try simp only [Act.put, sA, sB, sC])
            refine wpAnyH_take (i := 13) (v := ?_) (by simp only [gA, gB, gC]; rfl) (by kernel_rfl) (by kernel_rfl) (by kernel_rfl) (by exact fun _ _ _ h => h) (Or.inl ⟨by rfl, ?_⟩) (by assumption) ?_; rotate_left; (focus (intro w hSw; (try dsimp only at hSw); go_simp; try with_reducible rfl)); (try simp only [Act.put, sA, sB, sC])
            refine wpAnyH_ready (rs := [14]) (by kernel_rfl) (by simp) ?_
            refine AllReadyH.cons (by simp only [gA, gB, gC]; rfl) (fun K hK => ?_) AllReadyH.nil
            have hb := alloc_below w5 (.cells zS 33)
            have hz : BlkL w5.heap.size (stCs zeroC nilS) (w5.alloc (.cells zS 33)) := blkl_alloc w5 (stCs zeroC nilS).toArray 33
            have hgz := hB.size
            have hSz := hS.size
            refine step_allocC (z := zS) rfl rfl (fun _ => rfl) ?_
            (try simp only [Act.put, sA, sB, sC])
            refine hK.out _ _ (Below.then hS hb) ?_
            clear hHeld hK
            intro hHeld
            replace hB := Below.then hB hb
            replace hS := Below.then hS hb
            replace hvA := hvA.below hb
            clear hb
            have hgS : Z.heap.size ≤ w5.heap.size := hSz
            generalize w5.alloc (.cells zS 33) = w6 at *
            generalize w5.heap.size = gz at *
            (try simp only [Act.put, sA, sB, sC])
            refine wpAnyH_ready (rs := [15]) (by kernel_rfl) (by simp) ?_
            refine AllReadyH.cons (by simp only [gA, gB, gC]; rfl) (fun K hK => ?_) AllReadyH.nil
            obtain ⟨W7, hW7, hth7, hs7, hk7⟩ := put_st (show StAt gz zeroC nilS w6 from ⟨rfl, hz⟩) (d := { newC with a := fw, off := 1 }) rfl vA
            have hB7 := hk7 _ _ hgz hB
            have hS7 := hk7 _ _ hgS hS
            have hone7 := st_one { newC with a := fw, off := 1 } vA hvA.one
            have hsz7 : (Try.prog.info? 33).map (·.size) = some (stCs { newC with a := fw, off := 1 } vA).length := by rw [st_len (show ({ newC with a := fw, off := 1 }).ps.length = 4 from rfl)]; exact hszS
            refine step_store_rowC rfl _ _ rfl gz rfl (stCs { newC with a := fw, off := 1 } vA) rfl hth7 hsz7 hone7 hW7 ?_
            (try simp only [Act.put, sA, sB, sC])
            refine hK.out _ _ (hS7) ?_
            clear hHeld hK
            intro hHeld
            (try simp only [Act.put, sA, sB, sC])
            refine wpAnyH_take (i := 16) (v := ?_) (by simp only [gA, gB, gC]; rfl) (by kernel_rfl) (by kernel_rfl) (by kernel_rfl) (by exact fun _ _ _ h => h) (Or.inl ⟨by rfl, ?_⟩) (by assumption) ?_; rotate_left; (focus (intro w hSw; (try dsimp only at hSw); go_simp; try with_reducible rfl)); (try simp only [Act.put, sA, sB, sC])
            refine wpAnyH_take (i := 17) (v := ?_) (by simp only [gA, gB, gC]; rfl) (by kernel_rfl) (by kernel_rfl) (by kernel_rfl) (by exact fun _ _ _ h => h) (Or.inl ⟨by rfl, ?_⟩) (by assumption) ?_; rotate_left; (focus (intro w hSw; (try dsimp only at hSw); go_simp; try with_reducible rfl)); (try simp only [Act.put, sA, sB, sC])
            refine wpAnyH_take (i := 18) (v := ?_) (by simp only [gA, gB, gC]; rfl) (by kernel_rfl) (by kernel_rfl) (by kernel_rfl) (by exact fun _ _ _ h => h) (Or.inl ⟨by rfl, ?_⟩) (by assumption) ?_; rotate_left; (focus (intro w hSw; (try dsimp only at hSw); go_simp; try with_reducible rfl)); (try simp only [Act.put, sA, sB, sC])
            refine wpAnyH_done (by kernel_rfl) ?_ _
            clear hW7 hth7 hk7 hone7 hsz7 hz hS7 hS hB
            go_upto_region 10 with fail
            have hS0 := (Below.refl W7.heap.size W7).drew
            refine wp_region_held_drew (S := (fun W => Below W7.heap.size W7 W)) (by kernel_rfl) (by exact hS0) ?_
            intro hHeld
            generalize W7.drew = w0 at *
            refine wpAnyH_take (i := 0) (v := ?_) (by simp only [gA, gB, gC]; rfl) (by kernel_rfl) (by kernel_rfl) (by kernel_rfl) (by exact fun _ _ _ h => h) (Or.inl ⟨by rfl, ?_⟩) (by assumption) ?_; rotate_left; (focus (intro w hSw; (try dsimp only at hSw); go_simp; try with_reducible rfl)); (try simp only [Act.put, sA, sB, sC])
            refine wpAnyH_take (i := 1) (v := ?_) (by simp only [gA, gB, gC]; rfl) (by kernel_rfl) (by kernel_rfl) (by kernel_rfl) (by exact fun _ _ _ h => h) (Or.inl ⟨by rfl, ?_⟩) (by assumption) ?_; rotate_left; (focus (intro w hSw; (try dsimp only at hSw); go_simp; try with_reducible rfl)); (try simp only [Act.put, sA, sB, sC])
            refine wpAnyH_take (i := 2) (v := ?_) (by simp only [gA, gB, gC]; rfl) (by kernel_rfl) (by kernel_rfl) (by kernel_rfl) (by exact fun _ _ _ h => h) (Or.inl ⟨by rfl, ?_⟩) (by assumption) ?_; rotate_left; (focus (intro w hSw; (try dsimp only at hSw); go_simp; try with_reducible rfl)); (try simp only [Act.put, sA, sB, sC])
            refine wpAnyH_take (i := 3) (v := ?_) (by simp only [gA, gB, gC]; rfl) (by kernel_rfl) (by kernel_rfl) (by kernel_rfl) (by exact fun _ _ _ h => h) (Or.inl ⟨by rfl, ?_⟩) (by assumption) ?_; rotate_left; (focus (intro w hSw; (try dsimp only at hSw); go_simp; try with_reducible rfl)); (try simp only [Act.put, sA, sB, sC])
            refine wpAnyH_take (i := 4) (v := _) (by simp only [gA, gB, gC]; rfl) (by kernel_rfl) (by kernel_rfl) (by kernel_rfl) (by exact fun _ _ _ h => h) (yields_cellI (by rfl) _ rfl ⟨gz, 3, none⟩ rfl (.int .i64 fw) (fun _ q => (hs7.keep q).a) int64_load) (by assumption) ?_; (try simp only [Act.put, sA, sB, sC])
            refine wpAnyH_take (i := 5) (v := ?_) (by simp only [gA, gB, gC]; rfl) (by kernel_rfl) (by kernel_rfl) (by kernel_rfl) (by exact fun _ _ _ h => h) (Or.inl ⟨by rfl, ?_⟩) (by assumption) ?_; rotate_left; (focus (intro w hSw; (try dsimp only at hSw); go_simp; try with_reducible rfl)); (try simp only [Act.put, sA, sB, sC])
            refine wpAnyH_ready (rs := [6]) (by kernel_rfl) (by simp) ?_
            refine AllReadyH.cons (by simp only [gA, gB, gC]; rfl) (fun K hK => ?_) AllReadyH.nil
            go_simp
            go_at_call 27
            refine (kfi w0).mono ?_
            rintro e w1 ⟨rfl, hb⟩
            have hS1 := Below.then hS0 hb
            clear hb
            refine hK.out _ _ (by exact hS1) ?_
            clear hHeld hK
            intro hHeld
            (try simp only [Act.put, sA, sB, sC])
            refine wpAnyH_take (i := 7) (v := ?_) (by simp only [gA, gB, gC]; rfl) (by kernel_rfl) (by kernel_rfl) (by kernel_rfl) (by exact fun _ _ _ h => h) (Or.inl ⟨by rfl, ?_⟩) (by assumption) ?_; rotate_left; (focus (intro w hSw; (try dsimp only at hSw); go_simp; try with_reducible rfl)); (try simp only [Act.put, sA, sB, sC])
            refine wpAnyH_take (i := 8) (v := ?_) (by simp only [gA, gB, gC]; rfl) (by kernel_rfl) (by kernel_rfl) (by kernel_rfl) (by exact fun _ _ _ h => h) (Or.inl ⟨by rfl, ?_⟩) (by assumption) ?_; rotate_left; (focus (intro w hSw; (try dsimp only at hSw); go_simp; try with_reducible rfl)); (try simp only [Act.put, sA, sB, sC])
            refine wpAnyH_take (i := 9) (v := ?_) (by simp only [gA, gB, gC]; rfl) (by kernel_rfl) (by kernel_rfl) (by kernel_rfl) (by exact fun _ _ _ h => h) (Or.inl ⟨by rfl, ?_⟩) (by assumption) ?_; rotate_left; (focus (intro w hSw; (try dsimp only at hSw); go_simp; try with_reducible rfl)); (try simp only [Act.put, sA, sB, sC])
            refine wpAnyH_done (by kernel_rfl) ?_ _
            have hB8 := Below.then hB7 hS1
            go_wp2_with fail
            go_ret
            exact ⟨rfl, hB8⟩
          refine AllReadyH.cons (by simp only [gA, gB, gC]; rfl) (fun K hK => ?_) AllReadyH.nil
          have hb := alloc_below w4 (.cells zS 33)
          have hz : BlkL w4.heap.size (stCs zeroC nilS) (w4.alloc (.cells zS 33)) := blkl_alloc w4 (stCs zeroC nilS).toArray 33
          have hgz := hB.size
          have hSz := hS.size
          refine step_allocC (z := zS) rfl rfl (fun _ => rfl) ?_
          (try simp only [Act.put, sA, sB, sC])
          refine hK.out _ _ (Below.then hS hb) ?_
          clear hHeld hK
          intro hHeld
          replace hB := Below.then hB hb
          replace hS := Below.then hS hb
          replace hxo := hxo.below hb
          replace hM := hM.below hb
          clear hb
          have hgS : Z.heap.size ≤ w4.heap.size := hSz
          generalize w4.alloc (.cells zS 33) = w5 at *
          generalize w4.heap.size = gz at *
          (try simp only [Act.put, sA, sB, sC])
          refine wpAnyH_ready (rs := [8]) (by kernel_rfl) (by simp) ?_
          refine AllReadyH.cons (by simp only [gA, gB, gC]; rfl) (fun K hK => ?_) AllReadyH.nil
          go_simp
          go_at_call 17
          refine (cstepV { newC with a := a } hCok nilS hM (SV.nil _) (okC { newC with a := fw, off := 1 }) (by rw [show [x].map (·.g) = [oneG [⟨12, 0, 0⟩] []] by simp [hxg]]; exact hst)).mono ?_
          rintro e w6 hP
          obtain ⟨vA, rfl, hoA, hb⟩ := hP.okE
          have hvA := SV.own hoA
          replace hB := Below.then hB hb
          replace hS := Below.then hS hb
          replace hz := stab_blk _ _ _ _ hz hb
          clear hb hP hoA hM hxo
          refine hK.out _ _ (hS) ?_
          clear hHeld hK
          intro hHeld
          (try simp only [Act.put, sA, sB, sC])
          refine wpAnyH_take (i := 9) (v := ?_) (by simp only [gA, gB, gC]; rfl) (by kernel_rfl) (by kernel_rfl) (by kernel_rfl) (by exact fun _ _ _ h => h) (Or.inl ⟨by rfl, ?_⟩) (by assumption) ?_; rotate_left; (focus (intro w hSw; (try dsimp only at hSw); go_simp; try with_reducible rfl)); (try simp only [Act.put, sA, sB, sC])
          refine wpAnyH_take (i := 10) (v := ?_) (by simp only [gA, gB, gC]; rfl) (by kernel_rfl) (by kernel_rfl) (by kernel_rfl) (by exact fun _ _ _ h => h) (Or.inl ⟨by rfl, ?_⟩) (by assumption) ?_; rotate_left; (focus (intro w hSw; (try dsimp only at hSw); go_simp; try with_reducible rfl)); (try simp only [Act.put, sA, sB, sC])
          refine wpAnyH_take (i := 11) (v := ?_) (by simp only [gA, gB, gC]; rfl) (by kernel_rfl) (by kernel_rfl) (by kernel_rfl) (by exact fun _ _ _ h => h) (Or.inl ⟨by rfl, ?_⟩) (by assumption) ?_; rotate_left; (focus (intro w hSw; (try dsimp only at hSw); go_simp; try with_reducible rfl)); (try simp only [Act.put, sA, sB, sC])
          refine wpAnyH_take (i := 12) (v := ?_) (by simp only [gA, gB, gC]; rfl) (by kernel_rfl) (by kernel_rfl) (by kernel_rfl) (by exact fun _ _ _ h => h) (Or.inl ⟨by rfl, ?_⟩) (by assumption) ?_; rotate_left; (focus (intro w hSw; (try dsimp only at hSw); go_simp; try with_reducible rfl)); (try simp only [Act.put, sA, sB, sC])
          refine wpAnyH_take (i := 13) (v := ?_) (by simp only [gA, gB, gC]; rfl) (by kernel_rfl) (by kernel_rfl) (by kernel_rfl) (by exact fun _ _ _ h => h) (Or.inl ⟨by rfl, ?_⟩) (by assumption) ?_; rotate_left; (focus (intro w hSw; (try dsimp only at hSw); go_simp; try with_reducible rfl)); (try simp only [Act.put, sA, sB, sC])
          refine wpAnyH_ready (rs := [15]) (by kernel_rfl) (by simp) ?_
          refine AllReadyH.cons (by simp only [gA, gB, gC]; rfl) (fun K hK => ?_) AllReadyH.nil
          obtain ⟨W7, hW7, hth7, hs7, hk7⟩ := put_st (show StAt gz zeroC nilS w6 from ⟨rfl, hz⟩) (d := { newC with a := fw, off := 1 }) rfl vA
          have hB7 := hk7 _ _ hgz hB
          have hS7 := hk7 _ _ hgS hS
          have hone7 := st_one { newC with a := fw, off := 1 } vA hvA.one
          have hsz7 : (Try.prog.info? 33).map (·.size) = some (stCs { newC with a := fw, off := 1 } vA).length := by rw [st_len (show ({ newC with a := fw, off := 1 }).ps.length = 4 from rfl)]; exact hszS
          refine step_store_rowC rfl _ _ rfl gz rfl (stCs { newC with a := fw, off := 1 } vA) rfl hth7 hsz7 hone7 hW7 ?_
          (try simp only [Act.put, sA, sB, sC])
          refine hK.out _ _ (hS7) ?_
          clear hHeld hK
          intro hHeld
          (try simp only [Act.put, sA, sB, sC])
          refine wpAnyH_take (i := 16) (v := ?_) (by simp only [gA, gB, gC]; rfl) (by kernel_rfl) (by kernel_rfl) (by kernel_rfl) (by exact fun _ _ _ h => h) (Or.inl ⟨by rfl, ?_⟩) (by assumption) ?_; rotate_left; (focus (intro w hSw; (try dsimp only at hSw); go_simp; try with_reducible rfl)); (try simp only [Act.put, sA, sB, sC])
          refine wpAnyH_take (i := 17) (v := ?_) (by simp only [gA, gB, gC]; rfl) (by kernel_rfl) (by kernel_rfl) (by kernel_rfl) (by exact fun _ _ _ h => h) (Or.inl ⟨by rfl, ?_⟩) (by assumption) ?_; rotate_left; (focus (intro w hSw; (try dsimp only at hSw); go_simp; try with_reducible rfl)); (try simp only [Act.put, sA, sB, sC])
          refine wpAnyH_take (i := 18) (v := ?_) (by simp only [gA, gB, gC]; rfl) (by kernel_rfl) (by kernel_rfl) (by kernel_rfl) (by exact fun _ _ _ h => h) (Or.inl ⟨by rfl, ?_⟩) (by assumption) ?_; rotate_left; (focus (intro w hSw; (try dsimp only at hSw); go_simp; try with_reducible rfl)); (try simp only [Act.put, sA, sB, sC])
          refine wpAnyH_done (by kernel_rfl) ?_ _
          clear hW7 hth7 hk7 hone7 hsz7 hz hS7 hS hB
          go_upto_region 10 with fail
          have hS0 := (Below.refl W7.heap.size W7).drew
          refine wp_region_held_drew (S := (fun W => Below W7.heap.size W7 W)) (by kernel_rfl) (by exact hS0) ?_
          intro hHeld
          generalize W7.drew = w0 at *
          refine wpAnyH_take (i := 0) (v := ?_) (by simp only [gA, gB, gC]; rfl) (by kernel_rfl) (by kernel_rfl) (by kernel_rfl) (by exact fun _ _ _ h => h) (Or.inl ⟨by rfl, ?_⟩) (by assumption) ?_; rotate_left; (focus (intro w hSw; (try dsimp only at hSw); go_simp; try with_reducible rfl)); (try simp only [Act.put, sA, sB, sC])
          refine wpAnyH_take (i := 1) (v := ?_) (by simp only [gA, gB, gC]; rfl) (by kernel_rfl) (by kernel_rfl) (by kernel_rfl) (by exact fun _ _ _ h => h) (Or.inl ⟨by rfl, ?_⟩) (by assumption) ?_; rotate_left; (focus (intro w hSw; (try dsimp only at hSw); go_simp; try with_reducible rfl)); (try simp only [Act.put, sA, sB, sC])
          refine wpAnyH_take (i := 2) (v := ?_) (by simp only [gA, gB, gC]; rfl) (by kernel_rfl) (by kernel_rfl) (by kernel_rfl) (by exact fun _ _ _ h => h) (Or.inl ⟨by rfl, ?_⟩) (by assumption) ?_; rotate_left; (focus (intro w hSw; (try dsimp only at hSw); go_simp; try with_reducible rfl)); (try simp only [Act.put, sA, sB, sC])
          refine wpAnyH_take (i := 3) (v := ?_) (by simp only [gA, gB, gC]; rfl) (by kernel_rfl) (by kernel_rfl) (by kernel_rfl) (by exact fun _ _ _ h => h) (Or.inl ⟨by rfl, ?_⟩) (by assumption) ?_; rotate_left; (focus (intro w hSw; (try dsimp only at hSw); go_simp; try with_reducible rfl)); (try simp only [Act.put, sA, sB, sC])
          refine wpAnyH_take (i := 4) (v := _) (by simp only [gA, gB, gC]; rfl) (by kernel_rfl) (by kernel_rfl) (by kernel_rfl) (by exact fun _ _ _ h => h) (yields_cellI (by rfl) _ rfl ⟨gz, 3, none⟩ rfl (.int .i64 fw) (fun _ q => (hs7.keep q).a) int64_load) (by assumption) ?_; (try simp only [Act.put, sA, sB, sC])
          refine wpAnyH_take (i := 5) (v := ?_) (by simp only [gA, gB, gC]; rfl) (by kernel_rfl) (by kernel_rfl) (by kernel_rfl) (by exact fun _ _ _ h => h) (Or.inl ⟨by rfl, ?_⟩) (by assumption) ?_; rotate_left; (focus (intro w hSw; (try dsimp only at hSw); go_simp; try with_reducible rfl)); (try simp only [Act.put, sA, sB, sC])
          refine wpAnyH_ready (rs := [6]) (by kernel_rfl) (by simp) ?_
          refine AllReadyH.cons (by simp only [gA, gB, gC]; rfl) (fun K hK => ?_) AllReadyH.nil
          go_simp
          go_at_call 27
          refine (kfi w0).mono ?_
          rintro e w1 ⟨rfl, hb⟩
          have hS1 := Below.then hS0 hb
          clear hb
          refine hK.out _ _ (by exact hS1) ?_
          clear hHeld hK
          intro hHeld
          (try simp only [Act.put, sA, sB, sC])
          refine wpAnyH_take (i := 7) (v := ?_) (by simp only [gA, gB, gC]; rfl) (by kernel_rfl) (by kernel_rfl) (by kernel_rfl) (by exact fun _ _ _ h => h) (Or.inl ⟨by rfl, ?_⟩) (by assumption) ?_; rotate_left; (focus (intro w hSw; (try dsimp only at hSw); go_simp; try with_reducible rfl)); (try simp only [Act.put, sA, sB, sC])
          refine wpAnyH_take (i := 8) (v := ?_) (by simp only [gA, gB, gC]; rfl) (by kernel_rfl) (by kernel_rfl) (by kernel_rfl) (by exact fun _ _ _ h => h) (Or.inl ⟨by rfl, ?_⟩) (by assumption) ?_; rotate_left; (focus (intro w hSw; (try dsimp only at hSw); go_simp; try with_reducible rfl)); (try simp only [Act.put, sA, sB, sC])
          refine wpAnyH_take (i := 9) (v := ?_) (by simp only [gA, gB, gC]; rfl) (by kernel_rfl) (by kernel_rfl) (by kernel_rfl) (by exact fun _ _ _ h => h) (Or.inl ⟨by rfl, ?_⟩) (by assumption) ?_; rotate_left; (focus (intro w hSw; (try dsimp only at hSw); go_simp; try with_reducible rfl)); (try simp only [Act.put, sA, sB, sC])
          refine wpAnyH_done (by kernel_rfl) ?_ _
          have hB8 := Below.then hB7 hS1
          go_wp2_with fail
          go_ret
          exact ⟨rfl, hB8⟩
        refine AllReadyH.cons (by simp only [gA, gB, gC]; rfl) (fun K hK => ?_) AllReadyH.nil
        have hb := alloc_below w3 (.cells zS 33)
        have hz : BlkL w3.heap.size (stCs zeroC nilS) (w3.alloc (.cells zS 33)) := blkl_alloc w3 (stCs zeroC nilS).toArray 33
        have hgz := hB.size
        have hSz := hS.size
        refine step_allocC (z := zS) rfl rfl (fun _ => rfl) ?_
        (try simp only [Act.put, sA, sB, sC])
        refine hK.out _ _ (Below.then hS hb) ?_
        clear hHeld hK
        intro hHeld
        replace hB := Below.then hB hb
        replace hS := Below.then hS hb
        replace hxo := hxo.below hb
        replace hR := hR.below pg_len hb
        clear hb
        have hgS : Z.heap.size ≤ w3.heap.size := hSz
        generalize w3.alloc (.cells zS 33) = w4 at *
        generalize w3.heap.size = gz at *
        (try simp only [Act.put, sA, sB, sC])
        refine wpAnyH_ready (rs := [6]) (by kernel_rfl) (by simp) ?_
        refine AllReadyH.cons (by simp only [gA, gB, gC]; rfl) (fun K hK => ?_) AllReadyH.nil
        go_simp
        have hb : Below w4.heap.size w4 (w4.alloc (.cells #[.slice (some ⟨gG, 0, none⟩) 1 1, .bool false, .int .i64 0, .int .i64 0, .int .i64 0, .int .i64 0] 47)) := alloc_below w4 _
        have hm : BlkL w4.heap.size (memCs (.slice (some ⟨gG, 0, none⟩) 1 1) false 0 0 0 0) (w4.alloc (.cells #[.slice (some ⟨gG, 0, none⟩) 1 1, .bool false, .int .i64 0, .int .i64 0, .int .i64 0, .int .i64 0] 47)) := blkl_alloc w4 #[.slice (some ⟨gG, 0, none⟩) 1 1, .bool false, .int .i64 0, .int .i64 0, .int .i64 0, .int .i64 0] 47
        refine hK.out _ _ (Below.then hS hb) ?_
        clear hHeld hK
        intro hHeld
        replace hB := Below.then hB hb
        replace hS := Below.then hS hb
        replace hxo := hxo.below hb
        replace hR := hR.below pg_len hb
        replace hz := stab_blk _ _ _ _ hz hb
        have hM := MemO.of (by rw [hxg]; exact hok1) hxo hm ⟨hR, fun z hz => by rw [List.mem_singleton.1 hz]; exact own_at hxo⟩
        clear hb hm hR
        generalize w4.alloc (.cells #[.slice (some ⟨gG, 0, none⟩) 1 1, .bool false, .int .i64 0, .int .i64 0, .int .i64 0, .int .i64 0] 47) = w5 at *
        generalize w4.heap.size = bm at *
        (try simp only [Act.put, sA, sB, sC])
        refine wpAnyH_take (i := 7) (v := ?_) (by simp only [gA, gB, gC]; rfl) (by kernel_rfl) (by kernel_rfl) (by kernel_rfl) (by exact fun _ _ _ h => h) (Or.inl ⟨by rfl, ?_⟩) (by assumption) ?_; rotate_left; (focus (intro w hSw; (try dsimp only at hSw); go_simp; try with_reducible rfl)); (try simp only [Act.put, sA, sB, sC])
        refine wpAnyH_ready (rs := [8]) (by kernel_rfl) (by simp) ?_
        refine AllReadyH.cons (by simp only [gA, gB, gC]; rfl) (fun K hK => ?_) AllReadyH.nil
        go_simp
        go_at_call 17
        refine (cstepV { newC with a := a } hCok nilS hM (SV.nil _) (okC { newC with a := fw, off := 1 }) (by rw [show [x].map (·.g) = [oneG [⟨12, 0, 0⟩] []] by simp [hxg]]; exact hst)).mono ?_
        rintro e w6 hP
        obtain ⟨vA, rfl, hoA, hb⟩ := hP.okE
        have hvA := SV.own hoA
        replace hB := Below.then hB hb
        replace hS := Below.then hS hb
        replace hz := stab_blk _ _ _ _ hz hb
        clear hb hP hoA hM hxo
        refine hK.out _ _ (hS) ?_
        clear hHeld hK
        intro hHeld
        (try simp only [Act.put, sA, sB, sC])
        refine wpAnyH_take (i := 9) (v := ?_) (by simp only [gA, gB, gC]; rfl) (by kernel_rfl) (by kernel_rfl) (by kernel_rfl) (by exact fun _ _ _ h => h) (Or.inl ⟨by rfl, ?_⟩) (by assumption) ?_; rotate_left; (focus (intro w hSw; (try dsimp only at hSw); go_simp; try with_reducible rfl)); (try simp only [Act.put, sA, sB, sC])
        refine wpAnyH_take (i := 10) (v := ?_) (by simp only [gA, gB, gC]; rfl) (by kernel_rfl) (by kernel_rfl) (by kernel_rfl) (by exact fun _ _ _ h => h) (Or.inl ⟨by rfl, ?_⟩) (by assumption) ?_; rotate_left; (focus (intro w hSw; (try dsimp only at hSw); go_simp; try with_reducible rfl)); (try simp only [Act.put, sA, sB, sC])
        refine wpAnyH_take (i := 11) (v := ?_) (by simp only [gA, gB, gC]; rfl) (by kernel_rfl) (by kernel_rfl) (by kernel_rfl) (by exact fun _ _ _ h => h) (Or.inl ⟨by rfl, ?_⟩) (by assumption) ?_; rotate_left; (focus (intro w hSw; (try dsimp only at hSw); go_simp; try with_reducible rfl)); (try simp only [Act.put, sA, sB, sC])
        refine wpAnyH_take (i := 12) (v := ?_) (by simp only [gA, gB, gC]; rfl) (by kernel_rfl) (by kernel_rfl) (by kernel_rfl) (by exact fun _ _ _ h => h) (Or.inl ⟨by rfl, ?_⟩) (by assumption) ?_; rotate_left; (focus (intro w hSw; (try dsimp only at hSw); go_simp; try with_reducible rfl)); (try simp only [Act.put, sA, sB, sC])
        refine wpAnyH_take (i := 13) (v := ?_) (by simp only [gA, gB, gC]; rfl) (by kernel_rfl) (by kernel_rfl) (by kernel_rfl) (by exact fun _ _ _ h => h) (Or.inl ⟨by rfl, ?_⟩) (by assumption) ?_; rotate_left; (focus (intro w hSw; (try dsimp only at hSw); go_simp; try with_reducible rfl)); (try simp only [Act.put, sA, sB, sC])
        refine wpAnyH_ready (rs := [15]) (by kernel_rfl) (by simp) ?_
        refine AllReadyH.cons (by simp only [gA, gB, gC]; rfl) (fun K hK => ?_) AllReadyH.nil
        obtain ⟨W7, hW7, hth7, hs7, hk7⟩ := put_st (show StAt gz zeroC nilS w6 from ⟨rfl, hz⟩) (d := { newC with a := fw, off := 1 }) rfl vA
        have hB7 := hk7 _ _ hgz hB
        have hS7 := hk7 _ _ hgS hS
        have hone7 := st_one { newC with a := fw, off := 1 } vA hvA.one
        have hsz7 : (Try.prog.info? 33).map (·.size) = some (stCs { newC with a := fw, off := 1 } vA).length := by rw [st_len (show ({ newC with a := fw, off := 1 }).ps.length = 4 from rfl)]; exact hszS
        refine step_store_rowC rfl _ _ rfl gz rfl (stCs { newC with a := fw, off := 1 } vA) rfl hth7 hsz7 hone7 hW7 ?_
        (try simp only [Act.put, sA, sB, sC])
        refine hK.out _ _ (hS7) ?_
        clear hHeld hK
        intro hHeld
        (try simp only [Act.put, sA, sB, sC])
        refine wpAnyH_take (i := 16) (v := ?_) (by simp only [gA, gB, gC]; rfl) (by kernel_rfl) (by kernel_rfl) (by kernel_rfl) (by exact fun _ _ _ h => h) (Or.inl ⟨by rfl, ?_⟩) (by assumption) ?_; rotate_left; (focus (intro w hSw; (try dsimp only at hSw); go_simp; try with_reducible rfl)); (try simp only [Act.put, sA, sB, sC])
        refine wpAnyH_take (i := 17) (v := ?_) (by simp only [gA, gB, gC]; rfl) (by kernel_rfl) (by kernel_rfl) (by kernel_rfl) (by exact fun _ _ _ h => h) (Or.inl ⟨by rfl, ?_⟩) (by assumption) ?_; rotate_left; (focus (intro w hSw; (try dsimp only at hSw); go_simp; try with_reducible rfl)); (try simp only [Act.put, sA, sB, sC])
        refine wpAnyH_take (i := 18) (v := ?_) (by simp only [gA, gB, gC]; rfl) (by kernel_rfl) (by kernel_rfl) (by kernel_rfl) (by exact fun _ _ _ h => h) (Or.inl ⟨by rfl, ?_⟩) (by assumption) ?_; rotate_left; (focus (intro w hSw; (try dsimp only at hSw); go_simp; try with_reducible rfl)); (try simp only [Act.put, sA, sB, sC])
        refine wpAnyH_done (by kernel_rfl) ?_ _
        clear hW7 hth7 hk7 hone7 hsz7 hz hS7 hS hB
        go_upto_region 10 with fail
        have hS0 := (Below.refl W7.heap.size W7).drew
        refine wp_region_held_drew (S := (fun W => Below W7.heap.size W7 W)) (by kernel_rfl) (by exact hS0) ?_
        intro hHeld
        generalize W7.drew = w0 at *
        refine wpAnyH_take (i := 0) (v := ?_) (by simp only [gA, gB, gC]; rfl) (by kernel_rfl) (by kernel_rfl) (by kernel_rfl) (by exact fun _ _ _ h => h) (Or.inl ⟨by rfl, ?_⟩) (by assumption) ?_; rotate_left; (focus (intro w hSw; (try dsimp only at hSw); go_simp; try with_reducible rfl)); (try simp only [Act.put, sA, sB, sC])
        refine wpAnyH_take (i := 1) (v := ?_) (by simp only [gA, gB, gC]; rfl) (by kernel_rfl) (by kernel_rfl) (by kernel_rfl) (by exact fun _ _ _ h => h) (Or.inl ⟨by rfl, ?_⟩) (by assumption) ?_; rotate_left; (focus (intro w hSw; (try dsimp only at hSw); go_simp; try with_reducible rfl)); (try simp only [Act.put, sA, sB, sC])
        refine wpAnyH_take (i := 2) (v := ?_) (by simp only [gA, gB, gC]; rfl) (by kernel_rfl) (by kernel_rfl) (by kernel_rfl) (by exact fun _ _ _ h => h) (Or.inl ⟨by rfl, ?_⟩) (by assumption) ?_; rotate_left; (focus (intro w hSw; (try dsimp only at hSw); go_simp; try with_reducible rfl)); (try simp only [Act.put, sA, sB, sC])
        refine wpAnyH_take (i := 3) (v := ?_) (by simp only [gA, gB, gC]; rfl) (by kernel_rfl) (by kernel_rfl) (by kernel_rfl) (by exact fun _ _ _ h => h) (Or.inl ⟨by rfl, ?_⟩) (by assumption) ?_; rotate_left; (focus (intro w hSw; (try dsimp only at hSw); go_simp; try with_reducible rfl)); (try simp only [Act.put, sA, sB, sC])
        refine wpAnyH_take (i := 4) (v := _) (by simp only [gA, gB, gC]; rfl) (by kernel_rfl) (by kernel_rfl) (by kernel_rfl) (by exact fun _ _ _ h => h) (yields_cellI (by rfl) _ rfl ⟨gz, 3, none⟩ rfl (.int .i64 fw) (fun _ q => (hs7.keep q).a) int64_load) (by assumption) ?_; (try simp only [Act.put, sA, sB, sC])
        refine wpAnyH_take (i := 5) (v := ?_) (by simp only [gA, gB, gC]; rfl) (by kernel_rfl) (by kernel_rfl) (by kernel_rfl) (by exact fun _ _ _ h => h) (Or.inl ⟨by rfl, ?_⟩) (by assumption) ?_; rotate_left; (focus (intro w hSw; (try dsimp only at hSw); go_simp; try with_reducible rfl)); (try simp only [Act.put, sA, sB, sC])
        refine wpAnyH_ready (rs := [6]) (by kernel_rfl) (by simp) ?_
        refine AllReadyH.cons (by simp only [gA, gB, gC]; rfl) (fun K hK => ?_) AllReadyH.nil
        go_simp
        go_at_call 27
        refine (kfi w0).mono ?_
        rintro e w1 ⟨rfl, hb⟩
        have hS1 := Below.then hS0 hb
        clear hb
        refine hK.out _ _ (by exact hS1) ?_
        clear hHeld hK
        intro hHeld
        (try simp only [Act.put, sA, sB, sC])
        refine wpAnyH_take (i := 7) (v := ?_) (by simp only [gA, gB, gC]; rfl) (by kernel_rfl) (by kernel_rfl) (by kernel_rfl) (by exact fun _ _ _ h => h) (Or.inl ⟨by rfl, ?_⟩) (by assumption) ?_; rotate_left; (focus (intro w hSw; (try dsimp only at hSw); go_simp; try with_reducible rfl)); (try simp only [Act.put, sA, sB, sC])
        refine wpAnyH_take (i := 8) (v := ?_) (by simp only [gA, gB, gC]; rfl) (by kernel_rfl) (by kernel_rfl) (by kernel_rfl) (by exact fun _ _ _ h => h) (Or.inl ⟨by rfl, ?_⟩) (by assumption) ?_; rotate_left; (focus (intro w hSw; (try dsimp only at hSw); go_simp; try with_reducible rfl)); (try simp only [Act.put, sA, sB, sC])
        refine wpAnyH_take (i := 9) (v := ?_) (by simp only [gA, gB, gC]; rfl) (by kernel_rfl) (by kernel_rfl) (by kernel_rfl) (by exact fun _ _ _ h => h) (Or.inl ⟨by rfl, ?_⟩) (by assumption) ?_; rotate_left; (focus (intro w hSw; (try dsimp only at hSw); go_simp; try with_reducible rfl)); (try simp only [Act.put, sA, sB, sC])
        refine wpAnyH_done (by kernel_rfl) ?_ _
        have hB8 := Below.then hB7 hS1
        go_wp2_with fail
        go_ret
        exact ⟨rfl, hB8⟩
      refine AllReadyH.cons (by simp only [gA, gB, gC]; rfl) (fun K hK => ?_) AllReadyH.nil
      have hb := alloc_below w2 (.cells zS 33)
      have hz : BlkL w2.heap.size (stCs zeroC nilS) (w2.alloc (.cells zS 33)) := blkl_alloc w2 (stCs zeroC nilS).toArray 33
      have hgz := hB.size
      have hSz := hS.size
      refine step_allocC (z := zS) rfl rfl (fun _ => rfl) ?_
      (try simp only [Act.put, sA, sB, sC])
      refine hK.out _ _ (Below.then hS hb) ?_
      clear hHeld hK
      intro hHeld
      replace hB := Below.then hB hb
      replace hS := Below.then hS hb
      replace hxo := hxo.below hb
      clear hb
      have hgS : Z.heap.size ≤ w2.heap.size := hSz
      generalize w2.alloc (.cells zS 33) = w3 at *
      generalize w2.heap.size = gz at *
      (try simp only [Act.put, sA, sB, sC])
      refine wpAnyH_ready (rs := [4]) (by kernel_rfl) (by simp) ?_
      refine AllReadyH.cons (by simp only [gA, gB, gC]; rfl) (fun K hK => ?_) AllReadyH.nil
      have hb := alloc_below w3 (.cells x.cs.toArray 57)
      have hR := row_list pg_len w3 [x] x.cs.toArray (by simp) 57
      refine step_build1 pg_okC (by decide) rfl _ rfl x.cs rfl rfl ?_
      (try simp only [Act.put, sA, sB, sC])
      refine hK.out _ _ (Below.then hS hb) ?_
      clear hHeld hK
      intro hHeld
      replace hB := Below.then hB hb
      replace hS := Below.then hS hb
      replace hxo := hxo.below hb
      replace hz := stab_blk _ _ _ _ hz hb
      clear hb
      generalize w3.alloc (.cells x.cs.toArray 57) = w4 at *
      generalize w3.heap.size = gG at *
      (try simp only [Act.put, sA, sB, sC])
      refine wpAnyH_take (i := 5) (v := ?_) (by simp only [gA, gB, gC]; rfl) (by kernel_rfl) (by kernel_rfl) (by kernel_rfl) (by exact fun _ _ _ h => h) (Or.inl ⟨by rfl, ?_⟩) (by assumption) ?_; rotate_left; (focus (intro w hSw; (try dsimp only at hSw); go_simp; try with_reducible rfl)); (try simp only [Act.put, sA, sB, sC])
      refine wpAnyH_ready (rs := [6]) (by kernel_rfl) (by simp) ?_
      refine AllReadyH.cons (by simp only [gA, gB, gC]; rfl) (fun K hK => ?_) AllReadyH.nil
      go_simp
      have hb : Below w4.heap.size w4 (w4.alloc (.cells #[.slice (some ⟨gG, 0, none⟩) 1 1, .bool false, .int .i64 0, .int .i64 0, .int .i64 0, .int .i64 0] 47)) := alloc_below w4 _
      have hm : BlkL w4.heap.size (memCs (.slice (some ⟨gG, 0, none⟩) 1 1) false 0 0 0 0) (w4.alloc (.cells #[.slice (some ⟨gG, 0, none⟩) 1 1, .bool false, .int .i64 0, .int .i64 0, .int .i64 0, .int .i64 0] 47)) := blkl_alloc w4 #[.slice (some ⟨gG, 0, none⟩) 1 1, .bool false, .int .i64 0, .int .i64 0, .int .i64 0, .int .i64 0] 47
      refine hK.out _ _ (Below.then hS hb) ?_
      clear hHeld hK
      intro hHeld
      replace hB := Below.then hB hb
      replace hS := Below.then hS hb
      replace hxo := hxo.below hb
      replace hR := hR.below pg_len hb
      replace hz := stab_blk _ _ _ _ hz hb
      have hM := MemO.of (by rw [hxg]; exact hok1) hxo hm ⟨hR, fun z hz => by rw [List.mem_singleton.1 hz]; exact own_at hxo⟩
      clear hb hm hR
      generalize w4.alloc (.cells #[.slice (some ⟨gG, 0, none⟩) 1 1, .bool false, .int .i64 0, .int .i64 0, .int .i64 0, .int .i64 0] 47) = w5 at *
      generalize w4.heap.size = bm at *
      (try simp only [Act.put, sA, sB, sC])
      refine wpAnyH_take (i := 7) (v := ?_) (by simp only [gA, gB, gC]; rfl) (by kernel_rfl) (by kernel_rfl) (by kernel_rfl) (by exact fun _ _ _ h => h) (Or.inl ⟨by rfl, ?_⟩) (by assumption) ?_; rotate_left; (focus (intro w hSw; (try dsimp only at hSw); go_simp; try with_reducible rfl)); (try simp only [Act.put, sA, sB, sC])
      refine wpAnyH_ready (rs := [8]) (by kernel_rfl) (by simp) ?_
      refine AllReadyH.cons (by simp only [gA, gB, gC]; rfl) (fun K hK => ?_) AllReadyH.nil
      go_simp
      go_at_call 17
      refine (cstepV { newC with a := a } hCok nilS hM (SV.nil _) (okC { newC with a := fw, off := 1 }) (by rw [show [x].map (·.g) = [oneG [⟨12, 0, 0⟩] []] by simp [hxg]]; exact hst)).mono ?_
      rintro e w6 hP
      obtain ⟨vA, rfl, hoA, hb⟩ := hP.okE
      have hvA := SV.own hoA
      replace hB := Below.then hB hb
      replace hS := Below.then hS hb
      replace hz := stab_blk _ _ _ _ hz hb
      clear hb hP hoA hM hxo
      refine hK.out _ _ (hS) ?_
      clear hHeld hK
      intro hHeld
      (try simp only [Act.put, sA, sB, sC])
      refine wpAnyH_take (i := 9) (v := ?_) (by simp only [gA, gB, gC]; rfl) (by kernel_rfl) (by kernel_rfl) (by kernel_rfl) (by exact fun _ _ _ h => h) (Or.inl ⟨by rfl, ?_⟩) (by assumption) ?_; rotate_left; (focus (intro w hSw; (try dsimp only at hSw); go_simp; try with_reducible rfl)); (try simp only [Act.put, sA, sB, sC])
      refine wpAnyH_take (i := 10) (v := ?_) (by simp only [gA, gB, gC]; rfl) (by kernel_rfl) (by kernel_rfl) (by kernel_rfl) (by exact fun _ _ _ h => h) (Or.inl ⟨by rfl, ?_⟩) (by assumption) ?_; rotate_left; (focus (intro w hSw; (try dsimp only at hSw); go_simp; try with_reducible rfl)); (try simp only [Act.put, sA, sB, sC])
      refine wpAnyH_take (i := 11) (v := ?_) (by simp only [gA, gB, gC]; rfl) (by kernel_rfl) (by kernel_rfl) (by kernel_rfl) (by exact fun _ _ _ h => h) (Or.inl ⟨by rfl, ?_⟩) (by assumption) ?_; rotate_left; (focus (intro w hSw; (try dsimp only at hSw); go_simp; try with_reducible rfl)); (try simp only [Act.put, sA, sB, sC])
      refine wpAnyH_take (i := 12) (v := ?_) (by simp only [gA, gB, gC]; rfl) (by kernel_rfl) (by kernel_rfl) (by kernel_rfl) (by exact fun _ _ _ h => h) (Or.inl ⟨by rfl, ?_⟩) (by assumption) ?_; rotate_left; (focus (intro w hSw; (try dsimp only at hSw); go_simp; try with_reducible rfl)); (try simp only [Act.put, sA, sB, sC])
      refine wpAnyH_take (i := 13) (v := ?_) (by simp only [gA, gB, gC]; rfl) (by kernel_rfl) (by kernel_rfl) (by kernel_rfl) (by exact fun _ _ _ h => h) (Or.inl ⟨by rfl, ?_⟩) (by assumption) ?_; rotate_left; (focus (intro w hSw; (try dsimp only at hSw); go_simp; try with_reducible rfl)); (try simp only [Act.put, sA, sB, sC])
      refine wpAnyH_ready (rs := [15]) (by kernel_rfl) (by simp) ?_
      refine AllReadyH.cons (by simp only [gA, gB, gC]; rfl) (fun K hK => ?_) AllReadyH.nil
      obtain ⟨W7, hW7, hth7, hs7, hk7⟩ := put_st (show StAt gz zeroC nilS w6 from ⟨rfl, hz⟩) (d := { newC with a := fw, off := 1 }) rfl vA
      have hB7 := hk7 _ _ hgz hB
      have hS7 := hk7 _ _ hgS hS
      have hone7 := st_one { newC with a := fw, off := 1 } vA hvA.one
      have hsz7 : (Try.prog.info? 33).map (·.size) = some (stCs { newC with a := fw, off := 1 } vA).length := by rw [st_len (show ({ newC with a := fw, off := 1 }).ps.length = 4 from rfl)]; exact hszS
      refine step_store_rowC rfl _ _ rfl gz rfl (stCs { newC with a := fw, off := 1 } vA) rfl hth7 hsz7 hone7 hW7 ?_
      (try simp only [Act.put, sA, sB, sC])
      refine hK.out _ _ (hS7) ?_
      clear hHeld hK
      intro hHeld
      (try simp only [Act.put, sA, sB, sC])
      refine wpAnyH_take (i := 16) (v := ?_) (by simp only [gA, gB, gC]; rfl) (by kernel_rfl) (by kernel_rfl) (by kernel_rfl) (by exact fun _ _ _ h => h) (Or.inl ⟨by rfl, ?_⟩) (by assumption) ?_; rotate_left; (focus (intro w hSw; (try dsimp only at hSw); go_simp; try with_reducible rfl)); (try simp only [Act.put, sA, sB, sC])
      refine wpAnyH_take (i := 17) (v := ?_) (by simp only [gA, gB, gC]; rfl) (by kernel_rfl) (by kernel_rfl) (by kernel_rfl) (by exact fun _ _ _ h => h) (Or.inl ⟨by rfl, ?_⟩) (by assumption) ?_; rotate_left; (focus (intro w hSw; (try dsimp only at hSw); go_simp; try with_reducible rfl)); (try simp only [Act.put, sA, sB, sC])
      refine wpAnyH_take (i := 18) (v := ?_) (by simp only [gA, gB, gC]; rfl) (by kernel_rfl) (by kernel_rfl) (by kernel_rfl) (by exact fun _ _ _ h => h) (Or.inl ⟨by rfl, ?_⟩) (by assumption) ?_; rotate_left; (focus (intro w hSw; (try dsimp only at hSw); go_simp; try with_reducible rfl)); (try simp only [Act.put, sA, sB, sC])
      refine wpAnyH_done (by kernel_rfl) ?_ _
      clear hW7 hth7 hk7 hone7 hsz7 hz hS7 hS hB
      go_upto_region 10 with fail
      have hS0 := (Below.refl W7.heap.size W7).drew
      refine wp_region_held_drew (S := (fun W => Below W7.heap.size W7 W)) (by kernel_rfl) (by exact hS0) ?_
      intro hHeld
      generalize W7.drew = w0 at *
      refine wpAnyH_take (i := 0) (v := ?_) (by simp only [gA, gB, gC]; rfl) (by kernel_rfl) (by kernel_rfl) (by kernel_rfl) (by exact fun _ _ _ h => h) (Or.inl ⟨by rfl, ?_⟩) (by assumption) ?_; rotate_left; (focus (intro w hSw; (try dsimp only at hSw); go_simp; try with_reducible rfl)); (try simp only [Act.put, sA, sB, sC])
      refine wpAnyH_take (i := 1) (v := ?_) (by simp only [gA, gB, gC]; rfl) (by kernel_rfl) (by kernel_rfl) (by kernel_rfl) (by exact fun _ _ _ h => h) (Or.inl ⟨by rfl, ?_⟩) (by assumption) ?_; rotate_left; (focus (intro w hSw; (try dsimp only at hSw); go_simp; try with_reducible rfl)); (try simp only [Act.put, sA, sB, sC])
      refine wpAnyH_take (i := 2) (v := ?_) (by simp only [gA, gB, gC]; rfl) (by kernel_rfl) (by kernel_rfl) (by kernel_rfl) (by exact fun _ _ _ h => h) (Or.inl ⟨by rfl, ?_⟩) (by assumption) ?_; rotate_left; (focus (intro w hSw; (try dsimp only at hSw); go_simp; try with_reducible rfl)); (try simp only [Act.put, sA, sB, sC])
      refine wpAnyH_take (i := 3) (v := ?_) (by simp only [gA, gB, gC]; rfl) (by kernel_rfl) (by kernel_rfl) (by kernel_rfl) (by exact fun _ _ _ h => h) (Or.inl ⟨by rfl, ?_⟩) (by assumption) ?_; rotate_left; (focus (intro w hSw; (try dsimp only at hSw); go_simp; try with_reducible rfl)); (try simp only [Act.put, sA, sB, sC])
      refine wpAnyH_take (i := 4) (v := _) (by simp only [gA, gB, gC]; rfl) (by kernel_rfl) (by kernel_rfl) (by kernel_rfl) (by exact fun _ _ _ h => h) (yields_cellI (by rfl) _ rfl ⟨gz, 3, none⟩ rfl (.int .i64 fw) (fun _ q => (hs7.keep q).a) int64_load) (by assumption) ?_; (try simp only [Act.put, sA, sB, sC])
      refine wpAnyH_take (i := 5) (v := ?_) (by simp only [gA, gB, gC]; rfl) (by kernel_rfl) (by kernel_rfl) (by kernel_rfl) (by exact fun _ _ _ h => h) (Or.inl ⟨by rfl, ?_⟩) (by assumption) ?_; rotate_left; (focus (intro w hSw; (try dsimp only at hSw); go_simp; try with_reducible rfl)); (try simp only [Act.put, sA, sB, sC])
      refine wpAnyH_ready (rs := [6]) (by kernel_rfl) (by simp) ?_
      refine AllReadyH.cons (by simp only [gA, gB, gC]; rfl) (fun K hK => ?_) AllReadyH.nil
      go_simp
      go_at_call 27
      refine (kfi w0).mono ?_
      rintro e w1 ⟨rfl, hb⟩
      have hS1 := Below.then hS0 hb
      clear hb
      refine hK.out _ _ (by exact hS1) ?_
      clear hHeld hK
      intro hHeld
      (try simp only [Act.put, sA, sB, sC])
      refine wpAnyH_take (i := 7) (v := ?_) (by simp only [gA, gB, gC]; rfl) (by kernel_rfl) (by kernel_rfl) (by kernel_rfl) (by exact fun _ _ _ h => h) (Or.inl ⟨by rfl, ?_⟩) (by assumption) ?_; rotate_left; (focus (intro w hSw; (try dsimp only at hSw); go_simp; try with_reducible rfl)); (try simp only [Act.put, sA, sB, sC])
      refine wpAnyH_take (i := 8) (v := ?_) (by simp only [gA, gB, gC]; rfl) (by kernel_rfl) (by kernel_rfl) (by kernel_rfl) (by exact fun _ _ _ h => h) (Or.inl ⟨by rfl, ?_⟩) (by assumption) ?_; rotate_left; (focus (intro w hSw; (try dsimp only at hSw); go_simp; try with_reducible rfl)); (try simp only [Act.put, sA, sB, sC])
      refine wpAnyH_take (i := 9) (v := ?_) (by simp only [gA, gB, gC]; rfl) (by kernel_rfl) (by kernel_rfl) (by kernel_rfl) (by exact fun _ _ _ h => h) (Or.inl ⟨by rfl, ?_⟩) (by assumption) ?_; rotate_left; (focus (intro w hSw; (try dsimp only at hSw); go_simp; try with_reducible rfl)); (try simp only [Act.put, sA, sB, sC])
      refine wpAnyH_done (by kernel_rfl) ?_ _
      have hB8 := Below.then hB7 hS1
      go_wp2_with fail
      go_ret
      exact ⟨rfl, hB8⟩
    refine AllReadyH.cons (by simp only [gA, gB, gC]; rfl) (fun K hK => ?_) AllReadyH.nil
    have hb := alloc_below w1 (.cells zS 33)
    have hz : BlkL w1.heap.size (stCs zeroC nilS) (w1.alloc (.cells zS 33)) := blkl_alloc w1 (stCs zeroC nilS).toArray 33
    have hgz := hB.size
    have hSz := hS.size
    refine step_allocC (z := zS) rfl rfl (fun _ => rfl) ?_
    (try simp only [Act.put, sA, sB, sC])
    refine hK.out _ _ (Below.then hS hb) ?_
    clear hHeld hK
    intro hHeld
    replace hB := Below.then hB hb
    replace hS := Below.then hS hb
    replace hI := hI.below in_okC.len hb
    clear hb
    have hgS : Z.heap.size ≤ w1.heap.size := hSz
    generalize w1.alloc (.cells zS 33) = w2 at *
    generalize w1.heap.size = gz at *
    (try simp only [Act.put, sA, sB, sC])
    refine wpAnyH_ready (rs := [3]) (by kernel_rfl) (by simp) ?_
    refine AllReadyH.cons (by simp only [gA, gB, gC]; rfl) (fun K hK => ?_) AllReadyH.nil
    go_simp
    go_at_call 21
    refine (cone_any [⟨12, 0, 0⟩] [] (some ⟨gI, 0, none⟩) none 1 0 (by show 1 ≤ 100; decide) (by show 0 ≤ 100; decide) (fun _ => rfl) w2 hI (fun j y h => by simp at h)).mono ?_
    rintro e w3 ⟨x, hxg, rfl, hxo, hb⟩
    replace hB := Below.then hB hb
    replace hS := Below.then hS hb
    replace hz := stab_blk _ _ _ _ hz hb
    clear hb hI
    refine hK.out _ _ (hS) ?_
    clear hHeld hK
    intro hHeld
    (try simp only [Act.put, sA, sB, sC])
    refine wpAnyH_ready (rs := [4]) (by kernel_rfl) (by simp) ?_
    refine AllReadyH.cons (by simp only [gA, gB, gC]; rfl) (fun K hK => ?_) AllReadyH.nil
    have hb := alloc_below w3 (.cells x.cs.toArray 57)
    have hR := row_list pg_len w3 [x] x.cs.toArray (by simp) 57
    refine step_build1 pg_okC (by decide) rfl _ rfl x.cs rfl rfl ?_
    (try simp only [Act.put, sA, sB, sC])
    refine hK.out _ _ (Below.then hS hb) ?_
    clear hHeld hK
    intro hHeld
    replace hB := Below.then hB hb
    replace hS := Below.then hS hb
    replace hxo := hxo.below hb
    replace hz := stab_blk _ _ _ _ hz hb
    clear hb
    generalize w3.alloc (.cells x.cs.toArray 57) = w4 at *
    generalize w3.heap.size = gG at *
    (try simp only [Act.put, sA, sB, sC])
    refine wpAnyH_take (i := 5) (v := ?_) (by simp only [gA, gB, gC]; rfl) (by kernel_rfl) (by kernel_rfl) (by kernel_rfl) (by exact fun _ _ _ h => h) (Or.inl ⟨by rfl, ?_⟩) (by assumption) ?_; rotate_left; (focus (intro w hSw; (try dsimp only at hSw); go_simp; try with_reducible rfl)); (try simp only [Act.put, sA, sB, sC])
    refine wpAnyH_ready (rs := [6]) (by kernel_rfl) (by simp) ?_
    refine AllReadyH.cons (by simp only [gA, gB, gC]; rfl) (fun K hK => ?_) AllReadyH.nil
    go_simp
    have hb : Below w4.heap.size w4 (w4.alloc (.cells #[.slice (some ⟨gG, 0, none⟩) 1 1, .bool false, .int .i64 0, .int .i64 0, .int .i64 0, .int .i64 0] 47)) := alloc_below w4 _
    have hm : BlkL w4.heap.size (memCs (.slice (some ⟨gG, 0, none⟩) 1 1) false 0 0 0 0) (w4.alloc (.cells #[.slice (some ⟨gG, 0, none⟩) 1 1, .bool false, .int .i64 0, .int .i64 0, .int .i64 0, .int .i64 0] 47)) := blkl_alloc w4 #[.slice (some ⟨gG, 0, none⟩) 1 1, .bool false, .int .i64 0, .int .i64 0, .int .i64 0, .int .i64 0] 47
    refine hK.out _ _ (Below.then hS hb) ?_
    clear hHeld hK
    intro hHeld
    replace hB := Below.then hB hb
    replace hS := Below.then hS hb
    replace hxo := hxo.below hb
    replace hR := hR.below pg_len hb
    replace hz := stab_blk _ _ _ _ hz hb
    have hM := MemO.of (by rw [hxg]; exact hok1) hxo hm ⟨hR, fun z hz => by rw [List.mem_singleton.1 hz]; exact own_at hxo⟩
    clear hb hm hR
    generalize w4.alloc (.cells #[.slice (some ⟨gG, 0, none⟩) 1 1, .bool false, .int .i64 0, .int .i64 0, .int .i64 0, .int .i64 0] 47) = w5 at *
    generalize w4.heap.size = bm at *
    (try simp only [Act.put, sA, sB, sC])
    refine wpAnyH_take (i := 7) (v := ?_) (by simp only [gA, gB, gC]; rfl) (by kernel_rfl) (by kernel_rfl) (by kernel_rfl) (by exact fun _ _ _ h => h) (Or.inl ⟨by rfl, ?_⟩) (by assumption) ?_; rotate_left; (focus (intro w hSw; (try dsimp only at hSw); go_simp; try with_reducible rfl)); (try simp only [Act.put, sA, sB, sC])
    refine wpAnyH_ready (rs := [8]) (by kernel_rfl) (by simp) ?_
    refine AllReadyH.cons (by simp only [gA, gB, gC]; rfl) (fun K hK => ?_) AllReadyH.nil
    go_simp
    go_at_call 17
    refine (cstepV { newC with a := a } hCok nilS hM (SV.nil _) (okC { newC with a := fw, off := 1 }) (by rw [show [x].map (·.g) = [oneG [⟨12, 0, 0⟩] []] by simp [hxg]]; exact hst)).mono ?_
    rintro e w6 hP
    obtain ⟨vA, rfl, hoA, hb⟩ := hP.okE
    have hvA := SV.own hoA
    replace hB := Below.then hB hb
    replace hS := Below.then hS hb
    replace hz := stab_blk _ _ _ _ hz hb
    clear hb hP hoA hM hxo
    refine hK.out _ _ (hS) ?_
    clear hHeld hK
    intro hHeld
    (try simp only [Act.put, sA, sB, sC])
    refine wpAnyH_take (i := 9) (v := ?_) (by simp only [gA, gB, gC]; rfl) (by kernel_rfl) (by kernel_rfl) (by kernel_rfl) (by exact fun _ _ _ h => h) (Or.inl ⟨by rfl, ?_⟩) (by assumption) ?_; rotate_left; (focus (intro w hSw; (try dsimp only at hSw); go_simp; try with_reducible rfl)); (try simp only [Act.put, sA, sB, sC])
    refine wpAnyH_take (i := 10) (v := ?_) (by simp only [gA, gB, gC]; rfl) (by kernel_rfl) (by kernel_rfl) (by kernel_rfl) (by exact fun _ _ _ h => h) (Or.inl ⟨by rfl, ?_⟩) (by assumption) ?_; rotate_left; (focus (intro w hSw; (try dsimp only at hSw); go_simp; try with_reducible rfl)); (try simp only [Act.put, sA, sB, sC])
    refine wpAnyH_take (i := 11) (v := ?_) (by simp only [gA, gB, gC]; rfl) (by kernel_rfl) (by kernel_rfl) (by kernel_rfl) (by exact fun _ _ _ h => h) (Or.inl ⟨by rfl, ?_⟩) (by assumption) ?_; rotate_left; (focus (intro w hSw; (try dsimp only at hSw); go_simp; try with_reducible rfl)); (try simp only [Act.put, sA, sB, sC])
    refine wpAnyH_take (i := 12) (v := ?_) (by simp only [gA, gB, gC]; rfl) (by kernel_rfl) (by kernel_rfl) (by kernel_rfl) (by exact fun _ _ _ h => h) (Or.inl ⟨by rfl, ?_⟩) (by assumption) ?_; rotate_left; (focus (intro w hSw; (try dsimp only at hSw); go_simp; try with_reducible rfl)); (try simp only [Act.put, sA, sB, sC])
    refine wpAnyH_take (i := 13) (v := ?_) (by simp only [gA, gB, gC]; rfl) (by kernel_rfl) (by kernel_rfl) (by kernel_rfl) (by exact fun _ _ _ h => h) (Or.inl ⟨by rfl, ?_⟩) (by assumption) ?_; rotate_left; (focus (intro w hSw; (try dsimp only at hSw); go_simp; try with_reducible rfl)); (try simp only [Act.put, sA, sB, sC])
    refine wpAnyH_ready (rs := [15]) (by kernel_rfl) (by simp) ?_
    refine AllReadyH.cons (by simp only [gA, gB, gC]; rfl) (fun K hK => ?_) AllReadyH.nil
    obtain ⟨W7, hW7, hth7, hs7, hk7⟩ := put_st (show StAt gz zeroC nilS w6 from ⟨rfl, hz⟩) (d := { newC with a := fw, off := 1 }) rfl vA
    have hB7 := hk7 _ _ hgz hB
    have hS7 := hk7 _ _ hgS hS
    have hone7 := st_one { newC with a := fw, off := 1 } vA hvA.one
    have hsz7 : (Try.prog.info? 33).map (·.size) = some (stCs { newC with a := fw, off := 1 } vA).length := by rw [st_len (show ({ newC with a := fw, off := 1 }).ps.length = 4 from rfl)]; exact hszS
    refine step_store_rowC rfl _ _ rfl gz rfl (stCs { newC with a := fw, off := 1 } vA) rfl hth7 hsz7 hone7 hW7 ?_
    (try simp only [Act.put, sA, sB, sC])
    refine hK.out _ _ (hS7) ?_
    clear hHeld hK
    intro hHeld
    (try simp only [Act.put, sA, sB, sC])
    refine wpAnyH_take (i := 16) (v := ?_) (by simp only [gA, gB, gC]; rfl) (by kernel_rfl) (by kernel_rfl) (by kernel_rfl) (by exact fun _ _ _ h => h) (Or.inl ⟨by rfl, ?_⟩) (by assumption) ?_; rotate_left; (focus (intro w hSw; (try dsimp only at hSw); go_simp; try with_reducible rfl)); (try simp only [Act.put, sA, sB, sC])
    refine wpAnyH_take (i := 17) (v := ?_) (by simp only [gA, gB, gC]; rfl) (by kernel_rfl) (by kernel_rfl) (by kernel_rfl) (by exact fun _ _ _ h => h) (Or.inl ⟨by rfl, ?_⟩) (by assumption) ?_; rotate_left; (focus (intro w hSw; (try dsimp only at hSw); go_simp; try with_reducible rfl)); (try simp only [Act.put, sA, sB, sC])
    refine wpAnyH_take (i := 18) (v := ?_) (by simp only [gA, gB, gC]; rfl) (by kernel_rfl) (by kernel_rfl) (by kernel_rfl) (by exact fun _ _ _ h => h) (Or.inl ⟨by rfl, ?_⟩) (by assumption) ?_; rotate_left; (focus (intro w hSw; (try dsimp only at hSw); go_simp; try with_reducible rfl)); (try simp only [Act.put, sA, sB, sC])
    refine wpAnyH_done (by kernel_rfl) ?_ _
    clear hW7 hth7 hk7 hone7 hsz7 hz hS7 hS hB
    go_upto_region 10 with fail
    have hS0 := (Below.refl W7.heap.size W7).drew
    refine wp_region_held_drew (S := (fun W => Below W7.heap.size W7 W)) (by kernel_rfl) (by exact hS0) ?_
    intro hHeld
    generalize W7.drew = w0 at *
    refine wpAnyH_take (i := 0) (v := ?_) (by simp only [gA, gB, gC]; rfl) (by kernel_rfl) (by kernel_rfl) (by kernel_rfl) (by exact fun _ _ _ h => h) (Or.inl ⟨by rfl, ?_⟩) (by assumption) ?_; rotate_left; (focus (intro w hSw; (try dsimp only at hSw); go_simp; try with_reducible rfl)); (try simp only [Act.put, sA, sB, sC])
    refine wpAnyH_take (i := 1) (v := ?_) (by simp only [gA, gB, gC]; rfl) (by kernel_rfl) (by kernel_rfl) (by kernel_rfl) (by exact fun _ _ _ h => h) (Or.inl ⟨by rfl, ?_⟩) (by assumption) ?_; rotate_left; (focus (intro w hSw; (try dsimp only at hSw); go_simp; try with_reducible rfl)); (try simp only [Act.put, sA, sB, sC])
    refine wpAnyH_take (i := 2) (v := ?_) (by simp only [gA, gB, gC]; rfl) (by kernel_rfl) (by kernel_rfl) (by kernel_rfl) (by exact fun _ _ _ h => h) (Or.inl ⟨by rfl, ?_⟩) (by assumption) ?_; rotate_left; (focus (intro w hSw; (try dsimp only at hSw); go_simp; try with_reducible rfl)); (try simp only [Act.put, sA, sB, sC])
    refine wpAnyH_take (i := 3) (v := ?_) (by simp only [gA, gB, gC]; rfl) (by kernel_rfl) (by kernel_rfl) (by kernel_rfl) (by exact fun _ _ _ h => h) (Or.inl ⟨by rfl, ?_⟩) (by assumption) ?_; rotate_left; (focus (intro w hSw; (try dsimp only at hSw); go_simp; try with_reducible rfl)); (try simp only [Act.put, sA, sB, sC])
    refine wpAnyH_take (i := 4) (v := _) (by simp only [gA, gB, gC]; rfl) (by kernel_rfl) (by kernel_rfl) (by kernel_rfl) (by exact fun _ _ _ h => h) (yields_cellI (by rfl) _ rfl ⟨gz, 3, none⟩ rfl (.int .i64 fw) (fun _ q => (hs7.keep q).a) int64_load) (by assumption) ?_; (try simp only [Act.put, sA, sB, sC])
    refine wpAnyH_take (i := 5) (v := ?_) (by simp only [gA, gB, gC]; rfl) (by kernel_rfl) (by kernel_rfl) (by kernel_rfl) (by exact fun _ _ _ h => h) (Or.inl ⟨by rfl, ?_⟩) (by assumption) ?_; rotate_left; (focus (intro w hSw; (try dsimp only at hSw); go_simp; try with_reducible rfl)); (try simp only [Act.put, sA, sB, sC])
    refine wpAnyH_ready (rs := [6]) (by kernel_rfl) (by simp) ?_
    refine AllReadyH.cons (by simp only [gA, gB, gC]; rfl) (fun K hK => ?_) AllReadyH.nil
    go_simp
    go_at_call 27
    refine (kfi w0).mono ?_
    rintro e w1 ⟨rfl, hb⟩
    have hS1 := Below.then hS0 hb
    clear hb
    refine hK.out _ _ (by exact hS1) ?_
    clear hHeld hK
    intro hHeld
    (try simp only [Act.put, sA, sB, sC])
    refine wpAnyH_take (i := 7) (v := ?_) (by simp only [gA, gB, gC]; rfl) (by kernel_rfl) (by kernel_rfl) (by kernel_rfl) (by exact fun _ _ _ h => h) (Or.inl ⟨by rfl, ?_⟩) (by assumption) ?_; rotate_left; (focus (intro w hSw; (try dsimp only at hSw); go_simp; try with_reducible rfl)); (try simp only [Act.put, sA, sB, sC])
    refine wpAnyH_take (i := 8) (v := ?_) (by simp only [gA, gB, gC]; rfl) (by kernel_rfl) (by kernel_rfl) (by kernel_rfl) (by exact fun _ _ _ h => h) (Or.inl ⟨by rfl, ?_⟩) (by assumption) ?_; rotate_left; (focus (intro w hSw; (try dsimp only at hSw); go_simp; try with_reducible rfl)); (try simp only [Act.put, sA, sB, sC])
    refine wpAnyH_take (i := 9) (v := ?_) (by simp only [gA, gB, gC]; rfl) (by kernel_rfl) (by kernel_rfl) (by kernel_rfl) (by exact fun _ _ _ h => h) (Or.inl ⟨by rfl, ?_⟩) (by assumption) ?_; rotate_left; (focus (intro w hSw; (try dsimp only at hSw); go_simp; try with_reducible rfl)); (try simp only [Act.put, sA, sB, sC])
    refine wpAnyH_done (by kernel_rfl) ?_ _
    have hB8 := Below.then hB7 hS1
    go_wp2_with fail
    go_ret
    exact ⟨rfl, hB8⟩
  refine AllReadyH.cons (by simp only [gA, gB, gC]; rfl) (fun K hK => ?_) AllReadyH.nil
  have hb := alloc_below w0 (.cells zS 33)
  have hz : BlkL w0.heap.size (stCs zeroC nilS) (w0.alloc (.cells zS 33)) := blkl_alloc w0 (stCs zeroC nilS).toArray 33
  have hgz := hB.size
  have hSz := hS.size
  refine step_allocC (z := zS) rfl rfl (fun _ => rfl) ?_
  (try simp only [Act.put, sA, sB, sC])
  refine hK.out _ _ (Below.then hS hb) ?_
  clear hHeld hK
  intro hHeld
  replace hB := Below.then hB hb
  replace hS := Below.then hS hb
  clear hb
  have hgS : Z.heap.size ≤ w0.heap.size := hSz
  generalize w0.alloc (.cells zS 33) = w1 at *
  generalize w0.heap.size = gz at *
  (try simp only [Act.put, sA, sB, sC])
  refine wpAnyH_ready (rs := [2]) (by kernel_rfl) (by simp) ?_
  refine AllReadyH.cons (by simp only [gA, gB, gC]; rfl) (fun K hK => ?_) AllReadyH.nil
  have hb := alloc_below w1 (.cells (ins3 ⟨12, 0, 0⟩).toArray 64)
  have hI := row_list (f := ins3) (sz := 3) (fun _ => rfl) w1 [⟨12, 0, 0⟩] (ins3 ⟨12, 0, 0⟩).toArray (by simp) 64
  refine step_build1 in_okC (by decide) rfl _ rfl (ins3 ⟨12, 0, 0⟩) rfl rfl ?_
  (try simp only [Act.put, sA, sB, sC])
  refine hK.out _ _ (Below.then hS hb) ?_
  clear hHeld hK
  intro hHeld
  replace hB := Below.then hB hb
  replace hS := Below.then hS hb
  replace hz := stab_blk _ _ _ _ hz hb
  clear hb
  generalize w1.alloc (.cells (ins3 ⟨12, 0, 0⟩).toArray 64) = w2 at *
  generalize w1.heap.size = gI at *
  (try simp only [Act.put, sA, sB, sC])
  refine wpAnyH_ready (rs := [3]) (by kernel_rfl) (by simp) ?_
  refine AllReadyH.cons (by simp only [gA, gB, gC]; rfl) (fun K hK => ?_) AllReadyH.nil
  go_simp
  go_at_call 21
  refine (cone_any [⟨12, 0, 0⟩] [] (some ⟨gI, 0, none⟩) none 1 0 (by show 1 ≤ 100; decide) (by show 0 ≤ 100; decide) (fun _ => rfl) w2 hI (fun j y h => by simp at h)).mono ?_
  rintro e w3 ⟨x, hxg, rfl, hxo, hb⟩
  replace hB := Below.then hB hb
  replace hS := Below.then hS hb
  replace hz := stab_blk _ _ _ _ hz hb
  clear hb hI
  refine hK.out _ _ (hS) ?_
  clear hHeld hK
  intro hHeld
  (try simp only [Act.put, sA, sB, sC])
  refine wpAnyH_ready (rs := [4]) (by kernel_rfl) (by simp) ?_
  refine AllReadyH.cons (by simp only [gA, gB, gC]; rfl) (fun K hK => ?_) AllReadyH.nil
  have hb := alloc_below w3 (.cells x.cs.toArray 57)
  have hR := row_list pg_len w3 [x] x.cs.toArray (by simp) 57
  refine step_build1 pg_okC (by decide) rfl _ rfl x.cs rfl rfl ?_
  (try simp only [Act.put, sA, sB, sC])
  refine hK.out _ _ (Below.then hS hb) ?_
  clear hHeld hK
  intro hHeld
  replace hB := Below.then hB hb
  replace hS := Below.then hS hb
  replace hxo := hxo.below hb
  replace hz := stab_blk _ _ _ _ hz hb
  clear hb
  generalize w3.alloc (.cells x.cs.toArray 57) = w4 at *
  generalize w3.heap.size = gG at *
  (try simp only [Act.put, sA, sB, sC])
  refine wpAnyH_take (i := 5) (v := ?_) (by simp only [gA, gB, gC]; rfl) (by kernel_rfl) (by kernel_rfl) (by kernel_rfl) (by exact fun _ _ _ h => h) (Or.inl ⟨by rfl, ?_⟩) (by assumption) ?_; rotate_left; (focus (intro w hSw; (try dsimp only at hSw); go_simp; try with_reducible rfl)); (try simp only [Act.put, sA, sB, sC])
  refine wpAnyH_ready (rs := [6]) (by kernel_rfl) (by simp) ?_
  refine AllReadyH.cons (by simp only [gA, gB, gC]; rfl) (fun K hK => ?_) AllReadyH.nil
  go_simp
  have hb : Below w4.heap.size w4 (w4.alloc (.cells #[.slice (some ⟨gG, 0, none⟩) 1 1, .bool false, .int .i64 0, .int .i64 0, .int .i64 0, .int .i64 0] 47)) := alloc_below w4 _
  have hm : BlkL w4.heap.size (memCs (.slice (some ⟨gG, 0, none⟩) 1 1) false 0 0 0 0) (w4.alloc (.cells #[.slice (some ⟨gG, 0, none⟩) 1 1, .bool false, .int .i64 0, .int .i64 0, .int .i64 0, .int .i64 0] 47)) := blkl_alloc w4 #[.slice (some ⟨gG, 0, none⟩) 1 1, .bool false, .int .i64 0, .int .i64 0, .int .i64 0, .int .i64 0] 47
  refine hK.out _ _ (Below.then hS hb) ?_
  clear hHeld hK
  intro hHeld
  replace hB := Below.then hB hb
  replace hS := Below.then hS hb
  replace hxo := hxo.below hb
  replace hR := hR.below pg_len hb
  replace hz := stab_blk _ _ _ _ hz hb
  have hM := MemO.of (by rw [hxg]; exact hok1) hxo hm ⟨hR, fun z hz => by rw [List.mem_singleton.1 hz]; exact own_at hxo⟩
  clear hb hm hR
  generalize w4.alloc (.cells #[.slice (some ⟨gG, 0, none⟩) 1 1, .bool false, .int .i64 0, .int .i64 0, .int .i64 0, .int .i64 0] 47) = w5 at *
  generalize w4.heap.size = bm at *
  (try simp only [Act.put, sA, sB, sC])
  refine wpAnyH_take (i := 7) (v := ?_) (by simp only [gA, gB, gC]; rfl) (by kernel_rfl) (by kernel_rfl) (by kernel_rfl) (by exact fun _ _ _ h => h) (Or.inl ⟨by rfl, ?_⟩) (by assumption) ?_; rotate_left; (focus (intro w hSw; (try dsimp only at hSw); go_simp; try with_reducible rfl)); (try simp only [Act.put, sA, sB, sC])
  refine wpAnyH_ready (rs := [8]) (by kernel_rfl) (by simp) ?_
  refine AllReadyH.cons (by simp only [gA, gB, gC]; rfl) (fun K hK => ?_) AllReadyH.nil
  go_simp
  go_at_call 17
  refine (cstepV { newC with a := a } hCok nilS hM (SV.nil _) (okC { newC with a := fw, off := 1 }) (by rw [show [x].map (·.g) = [oneG [⟨12, 0, 0⟩] []] by simp [hxg]]; exact hst)).mono ?_
  rintro e w6 hP
  obtain ⟨vA, rfl, hoA, hb⟩ := hP.okE
  have hvA := SV.own hoA
  replace hB := Below.then hB hb
  replace hS := Below.then hS hb
  replace hz := stab_blk _ _ _ _ hz hb
  clear hb hP hoA hM hxo
  refine hK.out _ _ (hS) ?_
  clear hHeld hK
  intro hHeld
  (try simp only [Act.put, sA, sB, sC])
  refine wpAnyH_take (i := 9) (v := ?_) (by simp only [gA, gB, gC]; rfl) (by kernel_rfl) (by kernel_rfl) (by kernel_rfl) (by exact fun _ _ _ h => h) (Or.inl ⟨by rfl, ?_⟩) (by assumption) ?_; rotate_left; (focus (intro w hSw; (try dsimp only at hSw); go_simp; try with_reducible rfl)); (try simp only [Act.put, sA, sB, sC])
  refine wpAnyH_take (i := 10) (v := ?_) (by simp only [gA, gB, gC]; rfl) (by kernel_rfl) (by kernel_rfl) (by kernel_rfl) (by exact fun _ _ _ h => h) (Or.inl ⟨by rfl, ?_⟩) (by assumption) ?_; rotate_left; (focus (intro w hSw; (try dsimp only at hSw); go_simp; try with_reducible rfl)); (try simp only [Act.put, sA, sB, sC])
  refine wpAnyH_take (i := 11) (v := ?_) (by simp only [gA, gB, gC]; rfl) (by kernel_rfl) (by kernel_rfl) (by kernel_rfl) (by exact fun _ _ _ h => h) (Or.inl ⟨by rfl, ?_⟩) (by assumption) ?_; rotate_left; (focus (intro w hSw; (try dsimp only at hSw); go_simp; try with_reducible rfl)); (try simp only [Act.put, sA, sB, sC])
  refine wpAnyH_take (i := 12) (v := ?_) (by simp only [gA, gB, gC]; rfl) (by kernel_rfl) (by kernel_rfl) (by kernel_rfl) (by exact fun _ _ _ h => h) (Or.inl ⟨by rfl, ?_⟩) (by assumption) ?_; rotate_left; (focus (intro w hSw; (try dsimp only at hSw); go_simp; try with_reducible rfl)); (try simp only [Act.put, sA, sB, sC])
  refine wpAnyH_take (i := 13) (v := ?_) (by simp only [gA, gB, gC]; rfl) (by kernel_rfl) (by kernel_rfl) (by kernel_rfl) (by exact fun _ _ _ h => h) (Or.inl ⟨by rfl, ?_⟩) (by assumption) ?_; rotate_left; (focus (intro w hSw; (try dsimp only at hSw); go_simp; try with_reducible rfl)); (try simp only [Act.put, sA, sB, sC])
  refine wpAnyH_ready (rs := [15]) (by kernel_rfl) (by simp) ?_
  refine AllReadyH.cons (by simp only [gA, gB, gC]; rfl) (fun K hK => ?_) AllReadyH.nil
  obtain ⟨W7, hW7, hth7, hs7, hk7⟩ := put_st (show StAt gz zeroC nilS w6 from ⟨rfl, hz⟩) (d := { newC with a := fw, off := 1 }) rfl vA
  have hB7 := hk7 _ _ hgz hB
  have hS7 := hk7 _ _ hgS hS
  have hone7 := st_one { newC with a := fw, off := 1 } vA hvA.one
  have hsz7 : (Try.prog.info? 33).map (·.size) = some (stCs { newC with a := fw, off := 1 } vA).length := by rw [st_len (show ({ newC with a := fw, off := 1 }).ps.length = 4 from rfl)]; exact hszS
  refine step_store_rowC rfl _ _ rfl gz rfl (stCs { newC with a := fw, off := 1 } vA) rfl hth7 hsz7 hone7 hW7 ?_
  (try simp only [Act.put, sA, sB, sC])
  refine hK.out _ _ (hS7) ?_
  clear hHeld hK
  intro hHeld
  (try simp only [Act.put, sA, sB, sC])
  refine wpAnyH_take (i := 16) (v := ?_) (by simp only [gA, gB, gC]; rfl) (by kernel_rfl) (by kernel_rfl) (by kernel_rfl) (by exact fun _ _ _ h => h) (Or.inl ⟨by rfl, ?_⟩) (by assumption) ?_; rotate_left; (focus (intro w hSw; (try dsimp only at hSw); go_simp; try with_reducible rfl)); (try simp only [Act.put, sA, sB, sC])
  refine wpAnyH_take (i := 17) (v := ?_) (by simp only [gA, gB, gC]; rfl) (by kernel_rfl) (by kernel_rfl) (by kernel_rfl) (by exact fun _ _ _ h => h) (Or.inl ⟨by rfl, ?_⟩) (by assumption) ?_; rotate_left; (focus (intro w hSw; (try dsimp only at hSw); go_simp; try with_reducible rfl)); (try simp only [Act.put, sA, sB, sC])
  refine wpAnyH_take (i := 18) (v := ?_) (by simp only [gA, gB, gC]; rfl) (by kernel_rfl) (by kernel_rfl) (by kernel_rfl) (by exact fun _ _ _ h => h) (Or.inl ⟨by rfl, ?_⟩) (by assumption) ?_; rotate_left; (focus (intro w hSw; (try dsimp only at hSw); go_simp; try with_reducible rfl)); (try simp only [Act.put, sA, sB, sC])
  refine wpAnyH_done (by kernel_rfl) ?_ _
  clear hW7 hth7 hk7 hone7 hsz7 hz hS7 hS hB
  go_upto_region 10 with fail
  have hS0 := (Below.refl W7.heap.size W7).drew
  refine wp_region_held_drew (S := (fun W => Below W7.heap.size W7 W)) (by kernel_rfl) (by exact hS0) ?_
  intro hHeld
  generalize W7.drew = w0 at *
  refine wpAnyH_take (i := 0) (v := ?_) (by simp only [gA, gB, gC]; rfl) (by kernel_rfl) (by kernel_rfl) (by kernel_rfl) (by exact fun _ _ _ h => h) (Or.inl ⟨by rfl, ?_⟩) (by assumption) ?_; rotate_left; (focus (intro w hSw; (try dsimp only at hSw); go_simp; try with_reducible rfl)); (try simp only [Act.put, sA, sB, sC])
  refine wpAnyH_take (i := 1) (v := ?_) (by simp only [gA, gB, gC]; rfl) (by kernel_rfl) (by kernel_rfl) (by kernel_rfl) (by exact fun _ _ _ h => h) (Or.inl ⟨by rfl, ?_⟩) (by assumption) ?_; rotate_left; (focus (intro w hSw; (try dsimp only at hSw); go_simp; try with_reducible rfl)); (try simp only [Act.put, sA, sB, sC])
  refine wpAnyH_take (i := 2) (v := ?_) (by simp only [gA, gB, gC]; rfl) (by kernel_rfl) (by kernel_rfl) (by kernel_rfl) (by exact fun _ _ _ h => h) (Or.inl ⟨by rfl, ?_⟩) (by assumption) ?_; rotate_left; (focus (intro w hSw; (try dsimp only at hSw); go_simp; try with_reducible rfl)); (try simp only [Act.put, sA, sB, sC])
  refine wpAnyH_take (i := 3) (v := ?_) (by simp only [gA, gB, gC]; rfl) (by kernel_rfl) (by kernel_rfl) (by kernel_rfl) (by exact fun _ _ _ h => h) (Or.inl ⟨by rfl, ?_⟩) (by assumption) ?_; rotate_left; (focus (intro w hSw; (try dsimp only at hSw); go_simp; try with_reducible rfl)); (try simp only [Act.put, sA, sB, sC])
  refine wpAnyH_take (i := 4) (v := _) (by simp only [gA, gB, gC]; rfl) (by kernel_rfl) (by kernel_rfl) (by kernel_rfl) (by exact fun _ _ _ h => h) (yields_cellI (by rfl) _ rfl ⟨gz, 3, none⟩ rfl (.int .i64 fw) (fun _ q => (hs7.keep q).a) int64_load) (by assumption) ?_; (try simp only [Act.put, sA, sB, sC])
  refine wpAnyH_take (i := 5) (v := ?_) (by simp only [gA, gB, gC]; rfl) (by kernel_rfl) (by kernel_rfl) (by kernel_rfl) (by exact fun _ _ _ h => h) (Or.inl ⟨by rfl, ?_⟩) (by assumption) ?_; rotate_left; (focus (intro w hSw; (try dsimp only at hSw); go_simp; try with_reducible rfl)); (try simp only [Act.put, sA, sB, sC])
  refine wpAnyH_ready (rs := [6]) (by kernel_rfl) (by simp) ?_
  refine AllReadyH.cons (by simp only [gA, gB, gC]; rfl) (fun K hK => ?_) AllReadyH.nil
  go_simp
  go_at_call 27
  refine (kfi w0).mono ?_
  rintro e w1 ⟨rfl, hb⟩
  have hS1 := Below.then hS0 hb
  clear hb
  refine hK.out _ _ (by exact hS1) ?_
  clear hHeld hK
  intro hHeld
  (try simp only [Act.put, sA, sB, sC])
  refine wpAnyH_take (i := 7) (v := ?_) (by simp only [gA, gB, gC]; rfl) (by kernel_rfl) (by kernel_rfl) (by kernel_rfl) (by exact fun _ _ _ h => h) (Or.inl ⟨by rfl, ?_⟩) (by assumption) ?_; rotate_left; (focus (intro w hSw; (try dsimp only at hSw); go_simp; try with_reducible rfl)); (try simp only [Act.put, sA, sB, sC])
  refine wpAnyH_take (i := 8) (v := ?_) (by simp only [gA, gB, gC]; rfl) (by kernel_rfl) (by kernel_rfl) (by kernel_rfl) (by exact fun _ _ _ h => h) (Or.inl ⟨by rfl, ?_⟩) (by assumption) ?_; rotate_left; (focus (intro w hSw; (try dsimp only at hSw); go_simp; try with_reducible rfl)); (try simp only [Act.put, sA, sB, sC])
  refine wpAnyH_take (i := 9) (v := ?_) (by simp only [gA, gB, gC]; rfl) (by kernel_rfl) (by kernel_rfl) (by kernel_rfl) (by exact fun _ _ _ h => h) (Or.inl ⟨by rfl, ?_⟩) (by assumption) ?_; rotate_left; (focus (intro w hSw; (try dsimp only at hSw); go_simp; try with_reducible rfl)); (try simp only [Act.put, sA, sB, sC])
  refine wpAnyH_done (by kernel_rfl) ?_ _
  have hB8 := Below.then hB7 hS1
  go_wp2_with fail
  go_ret
  exact ⟨rfl, hB8⟩
set_option maxRecDepth 8000 in
set_option maxHeartbeats 8000000 in
theorem cpuConvB (a : Int) (tv : Int) (htv : toV a = tv) (he : toE a = 0) (ha : fit64 a) (w : World) :
    Calls Try.prog 8 #[.int .i64 a, .bool true] w fun e w' => e = .returned (.bool true) ∧ Below w.heap.size w w' := by
  have hundS := Try.underlying33
  have hszS : (Try.prog.info? 33).map (·.size) = some 18 := by kernel_rfl
  have hszC : (Try.prog.info? 33).map (·.size) = some (stCs { newC with a := a } nilS).length := hszS
  have hundI := Try.underlying64
  have hszI : (Try.prog.info? 64).map (·.size) = some 3 := by kernel_rfl
  have hmi : ∀ (v : Value) (w : World), (Instr.makeInterface 43 v).run Try.prog w = .ok (.iface 43 v) w := fun _ _ => rfl
  have hst : stepC { newC with a := a } [oneG [⟨13, 0, 0⟩] []] = okC { newC with a := tv, off := 1 } := by rw [cvt_step a 13 (by decide) (by decide), ← htv]; show (if toE a ≠ 0 then flt 36 else okC { newC with a := toV a, off := 1 }) = _; rw [if_neg (by rw [he]; decide)]
  have hok1 : (oneG [⟨13, 0, 0⟩] []).Ok := one_ok (fun z hz => by simp at hz) (by show 1 + 0 ≤ 1000; decide)
  have hCok : Cp.Ok { newC with a := a } := ⟨rfl, newC_ok.pp, newC_ok.ring, ha, newC_ok.st, newC_ok.sr⟩
  have kti : ∀ W : World, Calls Try.prog 28 #[.int .i64 a] W fun e w' => e = .returned (.tuple #[.int .i64 tv, .int .i64 0]) ∧ Below W.heap.size W w' := fun W => (donjonref1_ToInt_any ha.1 ha.2 W).mono fun e w' h => ⟨by rw [← htv, ← he]; exact h.1, by rw [h.2]; exact Below.refl _ _⟩
  clear htv he
  go_enter Try.func8, Try.ntmps8
  go_wp2_with fail
  refine (ck_any w).mono ?_
  rintro e W1 ⟨rfl, hB1⟩
  have hi1 := blkl_alloc W1 (ins3 ⟨13, 0, 0⟩).toArray 64
  have hbi := alloc_below W1 (.cells (ins3 ⟨13, 0, 0⟩).toArray 64)
  have hB2 := Below.then hB1 hbi
  replace hi1 : BlkL W1.heap.size (ins3 ⟨13, 0, 0⟩) (W1.alloc (.cells #[.int .i64 13, .int .i64 0, .int .i64 0] 64)) := hi1
  replace hB2 : Below w.heap.size w (W1.alloc (.cells #[.int .i64 13, .int .i64 0, .int .i64 0] 64)) := hB2
  clear hbi
  go_upto_region 6 with fail
  generalize W1.alloc (.cells #[.int .i64 13, .int .i64 0, .int .i64 0] 64) = W2 at *
  generalize W1.heap.size = bi at *
  go_wp2_with fail
  refine (cnew_any W2).mono ?_
  rintro e W6 ⟨rfl, hb6⟩
  obtain ⟨W7, hW7, hth7, hs7, hb7⟩ := new_stC W6 newC rfl nilS
  have hB6 := Below.then hB2 hb6
  have hi6 := stab_blk _ _ _ _ (stab_blk _ _ _ _ hi1 hb6) hb7
  have hil := (stab_blk _ _ _ _ hi1 hb6).2
  have y3 := hs7.a
  have yf := (hs7.blk.1 3 _ rfl).2
  have hs0 : StAt W6.heap.size { newC with a := a } nilS (W7.setCell ⟨W6.heap.size, 3, none⟩ (.int .i64 a)) := by
    have h1 := hs7.blk.1.set 3 (.int .i64 a) (by show 3 < 18; decide)
    exact ⟨rfl, h1, h1.lt rfl⟩
  have hi0 := far_blk hi6 (show W6.heap.size ≠ bi by omega) 3 (.int .i64 a)
  have hB0 := (Below.then hB6 hb7).setCell (p := ⟨W6.heap.size, 3, none⟩) hB6.size (.int .i64 a)
  have hone7 : ∀ u ∈ stCs newC nilS, u.oneCell' = true := st_one _ _ rfl
  have hsz7 : (Try.prog.info? 33).map (·.size) = some (stCs newC nilS).length := by kernel_rfl
  obtain ⟨Y, hY⟩ : ∃ Y, stCs newC nilS = Y := ⟨_, rfl⟩
  rw [hY] at hW7 hth7 hone7 hsz7
  have hYv : Aside (.agg (stCs newC nilS).toArray = Value.agg Y.toArray) := by rw [hY]; exact rfl
  clear hY hb6 hb7 hs7 hB6 hi6 hi1 hil
  go_upto_region 8 with (first | (refine wpList_store_row rfl _ _ rfl W6.heap.size rfl Y hYv.out hth7 hsz7 hone7 hW7 ?_) | fail)
  clear hW7 hth7 hone7 hsz7 hYv y3 yf
  generalize W7.setCell ⟨W6.heap.size, 3, none⟩ (.int .i64 a) = Z at *
  generalize W6.heap.size = bs at *
  have hS := (Below.refl Z.heap.size Z).drew
  have hB := Below.then hB0 hS
  clear hB0
  refine wp_region_held_drew (S := (fun W => Below Z.heap.size Z W)) (by kernel_rfl) (by exact hS) ?_
  intro hHeld
  generalize Z.drew = w0 at *
  refine wpAnyH_take (i := 0) (v := _) (by simp only [gA, gB, gC]; rfl) (by kernel_rfl) (by kernel_rfl) (by kernel_rfl) (by exact fun _ _ _ h => h) (yields_row (by rfl) _ rfl bs rfl (stCs { newC with a := a } nilS) (fun _ q => (hs0.keep q).blk.range) hundS rfl hszC) (by assumption) ?_; (try simp only [Act.put, sA, sB, sC])
  refine wpAnyH_take (i := 1) (v := _) (by simp only [gA, gB, gC]; rfl) (by kernel_rfl) (by kernel_rfl) (by kernel_rfl) (by exact fun _ _ _ h => h) (yields_row (by rfl) _ rfl bi rfl (ins3 ⟨13, 0, 0⟩) (fun _ q => (stab_blk _ _ _ _ hi0 q).range) hundI rfl hszI) (by assumption) ?_; (try simp only [Act.put, sA, sB, sC])
  refine wpAnyH_ready (rs := [2, 14]) (by kernel_rfl) (by simp) ?_
  refine AllReadyH.cons (by simp only [gA, gB, gC]; rfl) (fun K hK => ?_) ?_
  · skip
    have hb := alloc_below w0 (.cells (ins3 ⟨13, 0, 0⟩).toArray 64)
    have hI := row_list (f := ins3) (sz := 3) (fun _ => rfl) w0 [⟨13, 0, 0⟩] (ins3 ⟨13, 0, 0⟩).toArray (by simp) 64
    refine step_build1 in_okC (by decide) rfl _ rfl (ins3 ⟨13, 0, 0⟩) rfl rfl ?_
    (try simp only [Act.put, sA, sB, sC])
    refine hK.out _ _ (Below.then hS hb) ?_
    clear hHeld hK
    intro hHeld
    replace hB := Below.then hB hb
    replace hS := Below.then hS hb
    clear hb
    generalize w0.alloc (.cells (ins3 ⟨13, 0, 0⟩).toArray 64) = w1 at *
    generalize w0.heap.size = gI at *
    (try simp only [Act.put, sA, sB, sC])
    refine wpAnyH_ready (rs := [3, 14]) (by kernel_rfl) (by simp) ?_
    refine AllReadyH.cons (by simp only [gA, gB, gC]; rfl) (fun K hK => ?_) ?_
    · go_simp
      go_at_call 21
      refine (cone_any [⟨13, 0, 0⟩] [] (some ⟨gI, 0, none⟩) none 1 0 (by show 1 ≤ 100; decide) (by show 0 ≤ 100; decide) (fun _ => rfl) w1 hI (fun j y h => by simp at h)).mono ?_
      rintro e w2 ⟨x, hxg, rfl, hxo, hb⟩
      replace hB := Below.then hB hb
      replace hS := Below.then hS hb
      clear hb hI
      refine hK.out _ _ (hS) ?_
      clear hHeld hK
      intro hHeld
      (try simp only [Act.put, sA, sB, sC])
      refine wpAnyH_ready (rs := [4, 14]) (by kernel_rfl) (by simp) ?_
      refine AllReadyH.cons (by simp only [gA, gB, gC]; rfl) (fun K hK => ?_) ?_
      · skip
        have hb := alloc_below w2 (.cells x.cs.toArray 57)
        have hR := row_list pg_len w2 [x] x.cs.toArray (by simp) 57
        refine step_build1 pg_okC (by decide) rfl _ rfl x.cs rfl rfl ?_
        (try simp only [Act.put, sA, sB, sC])
        refine hK.out _ _ (Below.then hS hb) ?_
        clear hHeld hK
        intro hHeld
        replace hB := Below.then hB hb
        replace hS := Below.then hS hb
        replace hxo := hxo.below hb
        clear hb
        generalize w2.alloc (.cells x.cs.toArray 57) = w3 at *
        generalize w2.heap.size = gG at *
        (try simp only [Act.put, sA, sB, sC])
        refine wpAnyH_take (i := 5) (v := ?_) (by simp only [gA, gB, gC]; rfl) (by kernel_rfl) (by kernel_rfl) (by kernel_rfl) (by exact fun _ _ _ h => h) (Or.inl ⟨by rfl, ?_⟩) (by assumption) ?_; rotate_left; (focus (intro w hSw; (try dsimp only at hSw); go_simp; try with_reducible rfl)); (try simp only [Act.put, sA, sB, sC])
        refine wpAnyH_ready (rs := [6, 14]) (by kernel_rfl) (by simp) ?_
        refine AllReadyH.cons (by simp only [gA, gB, gC]; rfl) (fun K hK => ?_) ?_
        · go_simp
          have hb : Below w3.heap.size w3 (w3.alloc (.cells #[.slice (some ⟨gG, 0, none⟩) 1 1, .bool false, .int .i64 0, .int .i64 0, .int .i64 0, .int .i64 0] 47)) := alloc_below w3 _
          have hm : BlkL w3.heap.size (memCs (.slice (some ⟨gG, 0, none⟩) 1 1) false 0 0 0 0) (w3.alloc (.cells #[.slice (some ⟨gG, 0, none⟩) 1 1, .bool false, .int .i64 0, .int .i64 0, .int .i64 0, .int .i64 0] 47)) := blkl_alloc w3 #[.slice (some ⟨gG, 0, none⟩) 1 1, .bool false, .int .i64 0, .int .i64 0, .int .i64 0, .int .i64 0] 47
          refine hK.out _ _ (Below.then hS hb) ?_
          clear hHeld hK
          intro hHeld
          replace hB := Below.then hB hb
          replace hS := Below.then hS hb
          replace hxo := hxo.below hb
          replace hR := hR.below pg_len hb
          have hM := MemO.of (by rw [hxg]; exact hok1) hxo hm ⟨hR, fun z hz => by rw [List.mem_singleton.1 hz]; exact own_at hxo⟩
          clear hb hm hR
          generalize w3.alloc (.cells #[.slice (some ⟨gG, 0, none⟩) 1 1, .bool false, .int .i64 0, .int .i64 0, .int .i64 0, .int .i64 0] 47) = w4 at *
          generalize w3.heap.size = bm at *
          (try simp only [Act.put, sA, sB, sC])
          refine wpAnyH_take (i := 7) (v := ?_) (by simp only [gA, gB, gC]; rfl) (by kernel_rfl) (by kernel_rfl) (by kernel_rfl) (by exact fun _ _ _ h => h) (Or.inl ⟨by rfl, ?_⟩) (by assumption) ?_; rotate_left; (focus (intro w hSw; (try dsimp only at hSw); go_simp; try with_reducible rfl)); (try simp only [Act.put, sA, sB, sC])
          refine wpAnyH_ready (rs := [8, 14]) (by kernel_rfl) (by simp) ?_
          refine AllReadyH.cons (by simp only [gA, gB, gC]; rfl) (fun K hK => ?_) ?_
          · go_simp
            go_at_call 17
            refine (cstepV { newC with a := a } hCok nilS hM (SV.nil _) (okC { newC with a := tv, off := 1 }) (by rw [show [x].map (·.g) = [oneG [⟨13, 0, 0⟩] []] by simp [hxg]]; exact hst)).mono ?_
            rintro e w5 hP
            obtain ⟨vA, rfl, hoA, hb⟩ := hP.okE
            have hvA := SV.own hoA
            replace hB := Below.then hB hb
            replace hS := Below.then hS hb
            clear hb hP hoA hM hxo
            refine hK.out _ _ (hS) ?_
            clear hHeld hK
            intro hHeld
            (try simp only [Act.put, sA, sB, sC])
            refine wpAnyH_take (i := 9) (v := ?_) (by simp only [gA, gB, gC]; rfl) (by kernel_rfl) (by kernel_rfl) (by kernel_rfl) (by exact fun _ _ _ h => h) (Or.inl ⟨by rfl, ?_⟩) (by assumption) ?_; rotate_left; (focus (intro w hSw; (try dsimp only at hSw); go_simp; try with_reducible rfl)); (try simp only [Act.put, sA, sB, sC])
            refine wpAnyH_take (i := 10) (v := ?_) (by simp only [gA, gB, gC]; rfl) (by kernel_rfl) (by kernel_rfl) (by kernel_rfl) (by exact fun _ _ _ h => h) (Or.inl ⟨by rfl, ?_⟩) (by assumption) ?_; rotate_left; (focus (intro w hSw; (try dsimp only at hSw); go_simp; try with_reducible rfl)); (try simp only [Act.put, sA, sB, sC])
            refine wpAnyH_take (i := 11) (v := ?_) (by simp only [gA, gB, gC]; rfl) (by kernel_rfl) (by kernel_rfl) (by kernel_rfl) (by exact fun _ _ _ h => h) (Or.inl ⟨by rfl, ?_⟩) (by assumption) ?_; rotate_left; (focus (intro w hSw; (try dsimp only at hSw); go_simp; try with_reducible rfl)); (try simp only [Act.put, sA, sB, sC])
            refine wpAnyH_take (i := 12) (v := ?_) (by simp only [gA, gB, gC]; rfl) (by kernel_rfl) (by kernel_rfl) (by kernel_rfl) (by exact fun _ _ _ h => h) (Or.inl ⟨by rfl, ?_⟩) (by assumption) ?_; rotate_left; (focus (intro w hSw; (try dsimp only at hSw); go_simp; try with_reducible rfl)); (try simp only [Act.put, sA, sB, sC])
            refine wpAnyH_take (i := 13) (v := ?_) (by simp only [gA, gB, gC]; rfl) (by kernel_rfl) (by kernel_rfl) (by kernel_rfl) (by exact fun _ _ _ h => h) (Or.inl ⟨by rfl, ?_⟩) (by assumption) ?_; rotate_left; (focus (intro w hSw; (try dsimp only at hSw); go_simp; try with_reducible rfl)); (try simp only [Act.put, sA, sB, sC])
            refine wpAnyH_ready (rs := [14]) (by kernel_rfl) (by simp) ?_
            refine AllReadyH.cons (by simp only [gA, gB, gC]; rfl) (fun K hK => ?_) AllReadyH.nil
            have hb := alloc_below w5 (.cells zS 33)
            have hz : BlkL w5.heap.size (stCs zeroC nilS) (w5.alloc (.cells zS 33)) := blkl_alloc w5 (stCs zeroC nilS).toArray 33
            have hgz := hB.size
            have hSz := hS.size
            refine step_allocC (z := zS) rfl rfl (fun _ => rfl) ?_
            (try simp only [Act.put, sA, sB, sC])
            refine hK.out _ _ (Below.then hS hb) ?_
            clear hHeld hK
            intro hHeld
            replace hB := Below.then hB hb
            replace hS := Below.then hS hb
            replace hvA := hvA.below hb
            clear hb
            have hgS : Z.heap.size ≤ w5.heap.size := hSz
            generalize w5.alloc (.cells zS 33) = w6 at *
            generalize w5.heap.size = gz at *
            (try simp only [Act.put, sA, sB, sC])
            refine wpAnyH_ready (rs := [15]) (by kernel_rfl) (by simp) ?_
            refine AllReadyH.cons (by simp only [gA, gB, gC]; rfl) (fun K hK => ?_) AllReadyH.nil
            obtain ⟨W7, hW7, hth7, hs7, hk7⟩ := put_st (show StAt gz zeroC nilS w6 from ⟨rfl, hz⟩) (d := { newC with a := tv, off := 1 }) rfl vA
            have hB7 := hk7 _ _ hgz hB
            have hS7 := hk7 _ _ hgS hS
            have hone7 := st_one { newC with a := tv, off := 1 } vA hvA.one
            have hsz7 : (Try.prog.info? 33).map (·.size) = some (stCs { newC with a := tv, off := 1 } vA).length := by rw [st_len (show ({ newC with a := tv, off := 1 }).ps.length = 4 from rfl)]; exact hszS
            refine step_store_rowC rfl _ _ rfl gz rfl (stCs { newC with a := tv, off := 1 } vA) rfl hth7 hsz7 hone7 hW7 ?_
            (try simp only [Act.put, sA, sB, sC])
            refine hK.out _ _ (hS7) ?_
            clear hHeld hK
            intro hHeld
            (try simp only [Act.put, sA, sB, sC])
            refine wpAnyH_take (i := 16) (v := ?_) (by simp only [gA, gB, gC]; rfl) (by kernel_rfl) (by kernel_rfl) (by kernel_rfl) (by exact fun _ _ _ h => h) (Or.inl ⟨by rfl, ?_⟩) (by assumption) ?_; rotate_left; (focus (intro w hSw; (try dsimp only at hSw); go_simp; try with_reducible rfl)); (try simp only [Act.put, sA, sB, sC])
            refine wpAnyH_take (i := 17) (v := ?_) (by simp only [gA, gB, gC]; rfl) (by kernel_rfl) (by kernel_rfl) (by kernel_rfl) (by exact fun _ _ _ h => h) (Or.inl ⟨by rfl, ?_⟩) (by assumption) ?_; rotate_left; (focus (intro w hSw; (try dsimp only at hSw); go_simp; try with_reducible rfl)); (try simp only [Act.put, sA, sB, sC])
            refine wpAnyH_take (i := 18) (v := ?_) (by simp only [gA, gB, gC]; rfl) (by kernel_rfl) (by kernel_rfl) (by kernel_rfl) (by exact fun _ _ _ h => h) (Or.inl ⟨by rfl, ?_⟩) (by assumption) ?_; rotate_left; (focus (intro w hSw; (try dsimp only at hSw); go_simp; try with_reducible rfl)); (try simp only [Act.put, sA, sB, sC])
            refine wpAnyH_done (by kernel_rfl) ?_ _
            have z3 := hs7.a
            clear hs7 hW7 hth7 hk7 hone7 hsz7 hz hS7 hS hB
            go_wp2_with fail
            refine (kti W7).mono ?_
            rintro e W8 ⟨rfl, hb8⟩
            have z3 := (hb8.cell (World.block_lt_of_cell? _ _ z3)).trans z3
            have hB8 := Below.then hB7 hb8
            go_wp2_with fail
            go_ret
            exact ⟨rfl, hB8⟩
          refine AllReadyH.cons (by simp only [gA, gB, gC]; rfl) (fun K hK => ?_) AllReadyH.nil
          have hb := alloc_below w4 (.cells zS 33)
          have hz : BlkL w4.heap.size (stCs zeroC nilS) (w4.alloc (.cells zS 33)) := blkl_alloc w4 (stCs zeroC nilS).toArray 33
          have hgz := hB.size
          have hSz := hS.size
          refine step_allocC (z := zS) rfl rfl (fun _ => rfl) ?_
          (try simp only [Act.put, sA, sB, sC])
          refine hK.out _ _ (Below.then hS hb) ?_
          clear hHeld hK
          intro hHeld
          replace hB := Below.then hB hb
          replace hS := Below.then hS hb
          replace hxo := hxo.below hb
          replace hM := hM.below hb
          clear hb
          have hgS : Z.heap.size ≤ w4.heap.size := hSz
          generalize w4.alloc (.cells zS 33) = w5 at *
          generalize w4.heap.size = gz at *
          (try simp only [Act.put, sA, sB, sC])
          refine wpAnyH_ready (rs := [8]) (by kernel_rfl) (by simp) ?_
          refine AllReadyH.cons (by simp only [gA, gB, gC]; rfl) (fun K hK => ?_) AllReadyH.nil
          go_simp
          go_at_call 17
          refine (cstepV { newC with a := a } hCok nilS hM (SV.nil _) (okC { newC with a := tv, off := 1 }) (by rw [show [x].map (·.g) = [oneG [⟨13, 0, 0⟩] []] by simp [hxg]]; exact hst)).mono ?_
          rintro e w6 hP
          obtain ⟨vA, rfl, hoA, hb⟩ := hP.okE
          have hvA := SV.own hoA
          replace hB := Below.then hB hb
          replace hS := Below.then hS hb
          replace hz := stab_blk _ _ _ _ hz hb
          clear hb hP hoA hM hxo
          refine hK.out _ _ (hS) ?_
          clear hHeld hK
          intro hHeld
          (try simp only [Act.put, sA, sB, sC])
          refine wpAnyH_take (i := 9) (v := ?_) (by simp only [gA, gB, gC]; rfl) (by kernel_rfl) (by kernel_rfl) (by kernel_rfl) (by exact fun _ _ _ h => h) (Or.inl ⟨by rfl, ?_⟩) (by assumption) ?_; rotate_left; (focus (intro w hSw; (try dsimp only at hSw); go_simp; try with_reducible rfl)); (try simp only [Act.put, sA, sB, sC])
          refine wpAnyH_take (i := 10) (v := ?_) (by simp only [gA, gB, gC]; rfl) (by kernel_rfl) (by kernel_rfl) (by kernel_rfl) (by exact fun _ _ _ h => h) (Or.inl ⟨by rfl, ?_⟩) (by assumption) ?_; rotate_left; (focus (intro w hSw; (try dsimp only at hSw); go_simp; try with_reducible rfl)); (try simp only [Act.put, sA, sB, sC])
          refine wpAnyH_take (i := 11) (v := ?_) (by simp only [gA, gB, gC]; rfl) (by kernel_rfl) (by kernel_rfl) (by kernel_rfl) (by exact fun _ _ _ h => h) (Or.inl ⟨by rfl, ?_⟩) (by assumption) ?_; rotate_left; (focus (intro w hSw; (try dsimp only at hSw); go_simp; try with_reducible rfl)); (try simp only [Act.put, sA, sB, sC])
          refine wpAnyH_take (i := 12) (v := ?_) (by simp only [gA, gB, gC]; rfl) (by kernel_rfl) (by kernel_rfl) (by kernel_rfl) (by exact fun _ _ _ h => h) (Or.inl ⟨by rfl, ?_⟩) (by assumption) ?_; rotate_left; (focus (intro w hSw; (try dsimp only at hSw); go_simp; try with_reducible rfl)); (try simp only [Act.put, sA, sB, sC])
          refine wpAnyH_take (i := 13) (v := ?_) (by simp only [gA, gB, gC]; rfl) (by kernel_rfl) (by kernel_rfl) (by kernel_rfl) (by exact fun _ _ _ h => h) (Or.inl ⟨by rfl, ?_⟩) (by assumption) ?_; rotate_left; (focus (intro w hSw; (try dsimp only at hSw); go_simp; try with_reducible rfl)); (try simp only [Act.put, sA, sB, sC])
          refine wpAnyH_ready (rs := [15]) (by kernel_rfl) (by simp) ?_
          refine AllReadyH.cons (by simp only [gA, gB, gC]; rfl) (fun K hK => ?_) AllReadyH.nil
          obtain ⟨W7, hW7, hth7, hs7, hk7⟩ := put_st (show StAt gz zeroC nilS w6 from ⟨rfl, hz⟩) (d := { newC with a := tv, off := 1 }) rfl vA
          have hB7 := hk7 _ _ hgz hB
          have hS7 := hk7 _ _ hgS hS
          have hone7 := st_one { newC with a := tv, off := 1 } vA hvA.one
          have hsz7 : (Try.prog.info? 33).map (·.size) = some (stCs { newC with a := tv, off := 1 } vA).length := by rw [st_len (show ({ newC with a := tv, off := 1 }).ps.length = 4 from rfl)]; exact hszS
          refine step_store_rowC rfl _ _ rfl gz rfl (stCs { newC with a := tv, off := 1 } vA) rfl hth7 hsz7 hone7 hW7 ?_
          (try simp only [Act.put, sA, sB, sC])
          refine hK.out _ _ (hS7) ?_
          clear hHeld hK
          intro hHeld
          (try simp only [Act.put, sA, sB, sC])
          refine wpAnyH_take (i := 16) (v := ?_) (by simp only [gA, gB, gC]; rfl) (by kernel_rfl) (by kernel_rfl) (by kernel_rfl) (by exact fun _ _ _ h => h) (Or.inl ⟨by rfl, ?_⟩) (by assumption) ?_; rotate_left; (focus (intro w hSw; (try dsimp only at hSw); go_simp; try with_reducible rfl)); (try simp only [Act.put, sA, sB, sC])
          refine wpAnyH_take (i := 17) (v := ?_) (by simp only [gA, gB, gC]; rfl) (by kernel_rfl) (by kernel_rfl) (by kernel_rfl) (by exact fun _ _ _ h => h) (Or.inl ⟨by rfl, ?_⟩) (by assumption) ?_; rotate_left; (focus (intro w hSw; (try dsimp only at hSw); go_simp; try with_reducible rfl)); (try simp only [Act.put, sA, sB, sC])
          refine wpAnyH_take (i := 18) (v := ?_) (by simp only [gA, gB, gC]; rfl) (by kernel_rfl) (by kernel_rfl) (by kernel_rfl) (by exact fun _ _ _ h => h) (Or.inl ⟨by rfl, ?_⟩) (by assumption) ?_; rotate_left; (focus (intro w hSw; (try dsimp only at hSw); go_simp; try with_reducible rfl)); (try simp only [Act.put, sA, sB, sC])
          refine wpAnyH_done (by kernel_rfl) ?_ _
          have z3 := hs7.a
          clear hs7 hW7 hth7 hk7 hone7 hsz7 hz hS7 hS hB
          go_wp2_with fail
          refine (kti W7).mono ?_
          rintro e W8 ⟨rfl, hb8⟩
          have z3 := (hb8.cell (World.block_lt_of_cell? _ _ z3)).trans z3
          have hB8 := Below.then hB7 hb8
          go_wp2_with fail
          go_ret
          exact ⟨rfl, hB8⟩
        refine AllReadyH.cons (by simp only [gA, gB, gC]; rfl) (fun K hK => ?_) AllReadyH.nil
        have hb := alloc_below w3 (.cells zS 33)
        have hz : BlkL w3.heap.size (stCs zeroC nilS) (w3.alloc (.cells zS 33)) := blkl_alloc w3 (stCs zeroC nilS).toArray 33
        have hgz := hB.size
        have hSz := hS.size
        refine step_allocC (z := zS) rfl rfl (fun _ => rfl) ?_
        (try simp only [Act.put, sA, sB, sC])
        refine hK.out _ _ (Below.then hS hb) ?_
        clear hHeld hK
        intro hHeld
        replace hB := Below.then hB hb
        replace hS := Below.then hS hb
        replace hxo := hxo.below hb
        replace hR := hR.below pg_len hb
        clear hb
        have hgS : Z.heap.size ≤ w3.heap.size := hSz
        generalize w3.alloc (.cells zS 33) = w4 at *
        generalize w3.heap.size = gz at *
        (try simp only [Act.put, sA, sB, sC])
        refine wpAnyH_ready (rs := [6]) (by kernel_rfl) (by simp) ?_
        refine AllReadyH.cons (by simp only [gA, gB, gC]; rfl) (fun K hK => ?_) AllReadyH.nil
        go_simp
        have hb : Below w4.heap.size w4 (w4.alloc (.cells #[.slice (some ⟨gG, 0, none⟩) 1 1, .bool false, .int .i64 0, .int .i64 0, .int .i64 0, .int .i64 0] 47)) := alloc_below w4 _
        have hm : BlkL w4.heap.size (memCs (.slice (some ⟨gG, 0, none⟩) 1 1) false 0 0 0 0) (w4.alloc (.cells #[.slice (some ⟨gG, 0, none⟩) 1 1, .bool false, .int .i64 0, .int .i64 0, .int .i64 0, .int .i64 0] 47)) := blkl_alloc w4 #[.slice (some ⟨gG, 0, none⟩) 1 1, .bool false, .int .i64 0, .int .i64 0, .int .i64 0, .int .i64 0] 47
        refine hK.out _ _ (Below.then hS hb) ?_
        clear hHeld hK
        intro hHeld
        replace hB := Below.then hB hb
        replace hS := Below.then hS hb
        replace hxo := hxo.below hb
        replace hR := hR.below pg_len hb
        replace hz := stab_blk _ _ _ _ hz hb
        have hM := MemO.of (by rw [hxg]; exact hok1) hxo hm ⟨hR, fun z hz => by rw [List.mem_singleton.1 hz]; exact own_at hxo⟩
        clear hb hm hR
        generalize w4.alloc (.cells #[.slice (some ⟨gG, 0, none⟩) 1 1, .bool false, .int .i64 0, .int .i64 0, .int .i64 0, .int .i64 0] 47) = w5 at *
        generalize w4.heap.size = bm at *
        (try simp only [Act.put, sA, sB, sC])
        refine wpAnyH_take (i := 7) (v := ?_) (by simp only [gA, gB, gC]; rfl) (by kernel_rfl) (by kernel_rfl) (by kernel_rfl) (by exact fun _ _ _ h => h) (Or.inl ⟨by rfl, ?_⟩) (by assumption) ?_; rotate_left; (focus (intro w hSw; (try dsimp only at hSw); go_simp; try with_reducible rfl)); (try simp only [Act.put, sA, sB, sC])
        refine wpAnyH_ready (rs := [8]) (by kernel_rfl) (by simp) ?_
        refine AllReadyH.cons (by simp only [gA, gB, gC]; rfl) (fun K hK => ?_) AllReadyH.nil
        go_simp
        go_at_call 17
        refine (cstepV { newC with a := a } hCok nilS hM (SV.nil _) (okC { newC with a := tv, off := 1 }) (by rw [show [x].map (·.g) = [oneG [⟨13, 0, 0⟩] []] by simp [hxg]]; exact hst)).mono ?_
        rintro e w6 hP
        obtain ⟨vA, rfl, hoA, hb⟩ := hP.okE
        have hvA := SV.own hoA
        replace hB := Below.then hB hb
        replace hS := Below.then hS hb
        replace hz := stab_blk _ _ _ _ hz hb
        clear hb hP hoA hM hxo
        refine hK.out _ _ (hS) ?_
        clear hHeld hK
        intro hHeld
        (try simp only [Act.put, sA, sB, sC])
        refine wpAnyH_take (i := 9) (v := ?_) (by simp only [gA, gB, gC]; rfl) (by kernel_rfl) (by kernel_rfl) (by kernel_rfl) (by exact fun _ _ _ h => h) (Or.inl ⟨by rfl, ?_⟩) (by assumption) ?_; rotate_left; (focus (intro w hSw; (try dsimp only at hSw); go_simp; try with_reducible rfl)); (try simp only [Act.put, sA, sB, sC])
        refine wpAnyH_take (i := 10) (v := ?_) (by simp only [gA, gB, gC]; rfl) (by kernel_rfl) (by kernel_rfl) (by kernel_rfl) (by exact fun _ _ _ h => h) (Or.inl ⟨by rfl, ?_⟩) (by assumption) ?_; rotate_left; (focus (intro w hSw; (try dsimp only at hSw); go_simp; try with_reducible rfl)); (try simp only [Act.put, sA, sB, sC])
        refine wpAnyH_take (i := 11) (v := ?_) (by simp only [gA, gB, gC]; rfl) (by kernel_rfl) (by kernel_rfl) (by kernel_rfl) (by exact fun _ _ _ h => h) (Or.inl ⟨by rfl, ?_⟩) (by assumption) ?_; rotate_left; (focus (intro w hSw; (try dsimp only at hSw); go_simp; try with_reducible rfl)); (try simp only [Act.put, sA, sB, sC])
        refine wpAnyH_take (i := 12) (v := ?_) (by simp only [gA, gB, gC]; rfl) (by kernel_rfl) (by kernel_rfl) (by kernel_rfl) (by exact fun _ _ _ h => h) (Or.inl ⟨by rfl, ?_⟩) (by assumption) ?_; rotate_left; (focus (intro w hSw; (try dsimp only at hSw); go_simp; try with_reducible rfl)); (try simp only [Act.put, sA, sB, sC])
        refine wpAnyH_take (i := 13) (v := ?_) (by simp only [gA, gB, gC]; rfl) (by kernel_rfl) (by kernel_rfl) (by kernel_rfl) (by exact fun _ _ _ h => h) (Or.inl ⟨by rfl, ?_⟩) (by assumption) ?_; rotate_left; (focus (intro w hSw; (try dsimp only at hSw); go_simp; try with_reducible rfl)); (try simp only [Act.put, sA, sB, sC])
        refine wpAnyH_ready (rs := [15]) (by kernel_rfl) (by simp) ?_
        refine AllReadyH.cons (by simp only [gA, gB, gC]; rfl) (fun K hK => ?_) AllReadyH.nil
        obtain ⟨W7, hW7, hth7, hs7, hk7⟩ := put_st (show StAt gz zeroC nilS w6 from ⟨rfl, hz⟩) (d := { newC with a := tv, off := 1 }) rfl vA
        have hB7 := hk7 _ _ hgz hB
        have hS7 := hk7 _ _ hgS hS
        have hone7 := st_one { newC with a := tv, off := 1 } vA hvA.one
        have hsz7 : (Try.prog.info? 33).map (·.size) = some (stCs { newC with a := tv, off := 1 } vA).length := by rw [st_len (show ({ newC with a := tv, off := 1 }).ps.length = 4 from rfl)]; exact hszS
        refine step_store_rowC rfl _ _ rfl gz rfl (stCs { newC with a := tv, off := 1 } vA) rfl hth7 hsz7 hone7 hW7 ?_
        (try simp only [Act.put, sA, sB, sC])
        refine hK.out _ _ (hS7) ?_
        clear hHeld hK
        intro hHeld
        (try simp only [Act.put, sA, sB, sC])
        refine wpAnyH_take (i := 16) (v := ?_) (by simp only [gA, gB, gC]; rfl) (by kernel_rfl) (by kernel_rfl) (by kernel_rfl) (by exact fun _ _ _ h => h) (Or.inl ⟨by rfl, ?_⟩) (by assumption) ?_; rotate_left; (focus (intro w hSw; (try dsimp only at hSw); go_simp; try with_reducible rfl)); (try simp only [Act.put, sA, sB, sC])
        refine wpAnyH_take (i := 17) (v := ?_) (by simp only [gA, gB, gC]; rfl) (by kernel_rfl) (by kernel_rfl) (by kernel_rfl) (by exact fun _ _ _ h => h) (Or.inl ⟨by rfl, ?_⟩) (by assumption) ?_; rotate_left; (focus (intro w hSw; (try dsimp only at hSw); go_simp; try with_reducible rfl)); (try simp only [Act.put, sA, sB, sC])
        refine wpAnyH_take (i := 18) (v := ?_) (by simp only [gA, gB, gC]; rfl) (by kernel_rfl) (by kernel_rfl) (by kernel_rfl) (by exact fun _ _ _ h => h) (Or.inl ⟨by rfl, ?_⟩) (by assumption) ?_; rotate_left; (focus (intro w hSw; (try dsimp only at hSw); go_simp; try with_reducible rfl)); (try simp only [Act.put, sA, sB, sC])
        refine wpAnyH_done (by kernel_rfl) ?_ _
        have z3 := hs7.a
        clear hs7 hW7 hth7 hk7 hone7 hsz7 hz hS7 hS hB
        go_wp2_with fail
        refine (kti W7).mono ?_
        rintro e W8 ⟨rfl, hb8⟩
        have z3 := (hb8.cell (World.block_lt_of_cell? _ _ z3)).trans z3
        have hB8 := Below.then hB7 hb8
        go_wp2_with fail
        go_ret
        exact ⟨rfl, hB8⟩
      refine AllReadyH.cons (by simp only [gA, gB, gC]; rfl) (fun K hK => ?_) AllReadyH.nil
      have hb := alloc_below w2 (.cells zS 33)
      have hz : BlkL w2.heap.size (stCs zeroC nilS) (w2.alloc (.cells zS 33)) := blkl_alloc w2 (stCs zeroC nilS).toArray 33
      have hgz := hB.size
      have hSz := hS.size
      refine step_allocC (z := zS) rfl rfl (fun _ => rfl) ?_
      (try simp only [Act.put, sA, sB, sC])
      refine hK.out _ _ (Below.then hS hb) ?_
      clear hHeld hK
      intro hHeld
      replace hB := Below.then hB hb
      replace hS := Below.then hS hb
      replace hxo := hxo.below hb
      clear hb
      have hgS : Z.heap.size ≤ w2.heap.size := hSz
      generalize w2.alloc (.cells zS 33) = w3 at *
      generalize w2.heap.size = gz at *
      (try simp only [Act.put, sA, sB, sC])
      refine wpAnyH_ready (rs := [4]) (by kernel_rfl) (by simp) ?_
      refine AllReadyH.cons (by simp only [gA, gB, gC]; rfl) (fun K hK => ?_) AllReadyH.nil
      have hb := alloc_below w3 (.cells x.cs.toArray 57)
      have hR := row_list pg_len w3 [x] x.cs.toArray (by simp) 57
      refine step_build1 pg_okC (by decide) rfl _ rfl x.cs rfl rfl ?_
      (try simp only [Act.put, sA, sB, sC])
      refine hK.out _ _ (Below.then hS hb) ?_
      clear hHeld hK
      intro hHeld
      replace hB := Below.then hB hb
      replace hS := Below.then hS hb
      replace hxo := hxo.below hb
      replace hz := stab_blk _ _ _ _ hz hb
      clear hb
      generalize w3.alloc (.cells x.cs.toArray 57) = w4 at *
      generalize w3.heap.size = gG at *
      (try simp only [Act.put, sA, sB, sC])
      refine wpAnyH_take (i := 5) (v := ?_) (by simp only [gA, gB, gC]; rfl) (by kernel_rfl) (by kernel_rfl) (by kernel_rfl) (by exact fun _ _ _ h => h) (Or.inl ⟨by rfl, ?_⟩) (by assumption) ?_; rotate_left; (focus (intro w hSw; (try dsimp only at hSw); go_simp; try with_reducible rfl)); (try simp only [Act.put, sA, sB, sC])
      refine wpAnyH_ready (rs := [6]) (by kernel_rfl) (by simp) ?_
      refine AllReadyH.cons (by simp only [gA, gB, gC]; rfl) (fun K hK => ?_) AllReadyH.nil
      go_simp
      have hb : Below w4.heap.size w4 (w4.alloc (.cells #[.slice (some ⟨gG, 0, none⟩) 1 1, .bool false, .int .i64 0, .int .i64 0, .int .i64 0, .int .i64 0] 47)) := alloc_below w4 _
      have hm : BlkL w4.heap.size (memCs (.slice (some ⟨gG, 0, none⟩) 1 1) false 0 0 0 0) (w4.alloc (.cells #[.slice (some ⟨gG, 0, none⟩) 1 1, .bool false, .int .i64 0, .int .i64 0, .int .i64 0, .int .i64 0] 47)) := blkl_alloc w4 #[.slice (some ⟨gG, 0, none⟩) 1 1, .bool false, .int .i64 0, .int .i64 0, .int .i64 0, .int .i64 0] 47
      refine hK.out _ _ (Below.then hS hb) ?_
      clear hHeld hK
      intro hHeld
      replace hB := Below.then hB hb
      replace hS := Below.then hS hb
      replace hxo := hxo.below hb
      replace hR := hR.below pg_len hb
      replace hz := stab_blk _ _ _ _ hz hb
      have hM := MemO.of (by rw [hxg]; exact hok1) hxo hm ⟨hR, fun z hz => by rw [List.mem_singleton.1 hz]; exact own_at hxo⟩
      clear hb hm hR
      generalize w4.alloc (.cells #[.slice (some ⟨gG, 0, none⟩) 1 1, .bool false, .int .i64 0, .int .i64 0, .int .i64 0, .int .i64 0] 47) = w5 at *
      generalize w4.heap.size = bm at *
      (try simp only [Act.put, sA, sB, sC])
      refine wpAnyH_take (i := 7) (v := ?_) (by simp only [gA, gB, gC]; rfl) (by kernel_rfl) (by kernel_rfl) (by kernel_rfl) (by exact fun _ _ _ h => h) (Or.inl ⟨by rfl, ?_⟩) (by assumption) ?_; rotate_left; (focus (intro w hSw; (try dsimp only at hSw); go_simp; try with_reducible rfl)); (try simp only [Act.put, sA, sB, sC])
      refine wpAnyH_ready (rs := [8]) (by kernel_rfl) (by simp) ?_
      refine AllReadyH.cons (by simp only [gA, gB, gC]; rfl) (fun K hK => ?_) AllReadyH.nil
      go_simp
      go_at_call 17
      refine (cstepV { newC with a := a } hCok nilS hM (SV.nil _) (okC { newC with a := tv, off := 1 }) (by rw [show [x].map (·.g) = [oneG [⟨13, 0, 0⟩] []] by simp [hxg]]; exact hst)).mono ?_
      rintro e w6 hP
      obtain ⟨vA, rfl, hoA, hb⟩ := hP.okE
      have hvA := SV.own hoA
      replace hB := Below.then hB hb
      replace hS := Below.then hS hb
      replace hz := stab_blk _ _ _ _ hz hb
      clear hb hP hoA hM hxo
      refine hK.out _ _ (hS) ?_
      clear hHeld hK
      intro hHeld
      (try simp only [Act.put, sA, sB, sC])
      refine wpAnyH_take (i := 9) (v := ?_) (by simp only [gA, gB, gC]; rfl) (by kernel_rfl) (by kernel_rfl) (by kernel_rfl) (by exact fun _ _ _ h => h) (Or.inl ⟨by rfl, ?_⟩) (by assumption) ?_; rotate_left; (focus (intro w hSw; (try dsimp only at hSw); go_simp; try with_reducible rfl)); (try simp only [Act.put, sA, sB, sC])
      refine wpAnyH_take (i := 10) (v := ?_) (by simp only [gA, gB, gC]; rfl) (by kernel_rfl) (by kernel_rfl) (by kernel_rfl) (by exact fun _ _ _ h => h) (Or.inl ⟨by rfl, ?_⟩) (by assumption) ?_; rotate_left; (focus (intro w hSw; (try dsimp only at hSw); go_simp; try with_reducible rfl)); (try simp only [Act.put, sA, sB, sC])
      refine wpAnyH_take (i := 11) (v := ?_) (by simp only [gA, gB, gC]; rfl) (by kernel_rfl) (by kernel_rfl) (by kernel_rfl) (by exact fun _ _ _ h => h) (Or.inl ⟨by rfl, ?_⟩) (by assumption) ?_; rotate_left; (focus (intro w hSw; (try dsimp only at hSw); go_simp; try with_reducible rfl)); (try simp only [Act.put, sA, sB, sC])
      refine wpAnyH_take (i := 12) (v := ?_) (by simp only [gA, gB, gC]; rfl) (by kernel_rfl) (by kernel_rfl) (by kernel_rfl) (by exact fun _ _ _ h => h) (Or.inl ⟨by rfl, ?_⟩) (by assumption) ?_; rotate_left; (focus (intro w hSw; (try dsimp only at hSw); go_simp; try with_reducible rfl)); (try simp only [Act.put, sA, sB, sC])
      refine wpAnyH_take (i := 13) (v := ?_) (by simp only [gA, gB, gC]; rfl) (by kernel_rfl) (by kernel_rfl) (by kernel_rfl) (by exact fun _ _ _ h => h) (Or.inl ⟨by rfl, ?_⟩) (by assumption) ?_; rotate_left; (focus (intro w hSw; (try dsimp only at hSw); go_simp; try with_reducible rfl)); (try simp only [Act.put, sA, sB, sC])
      refine wpAnyH_ready (rs := [15]) (by kernel_rfl) (by simp) ?_
      refine AllReadyH.cons (by simp only [gA, gB, gC]; rfl) (fun K hK => ?_) AllReadyH.nil
      obtain ⟨W7, hW7, hth7, hs7, hk7⟩ := put_st (show StAt gz zeroC nilS w6 from ⟨rfl, hz⟩) (d := { newC with a := tv, off := 1 }) rfl vA
      have hB7 := hk7 _ _ hgz hB
      have hS7 := hk7 _ _ hgS hS
      have hone7 := st_one { newC with a := tv, off := 1 } vA hvA.one
      have hsz7 : (Try.prog.info? 33).map (·.size) = some (stCs { newC with a := tv, off := 1 } vA).length := by rw [st_len (show ({ newC with a := tv, off := 1 }).ps.length = 4 from rfl)]; exact hszS
      refine step_store_rowC rfl _ _ rfl gz rfl (stCs { newC with a := tv, off := 1 } vA) rfl hth7 hsz7 hone7 hW7 ?_
      (try simp only [Act.put, sA, sB, sC])
      refine hK.out _ _ (hS7) ?_
      clear hHeld hK
      intro hHeld
      (try simp only [Act.put, sA, sB, sC])
      refine wpAnyH_take (i := 16) (v := ?_) (by simp only [gA, gB, gC]; rfl) (by kernel_rfl) (by kernel_rfl) (by kernel_rfl) (by exact fun _ _ _ h => h) (Or.inl ⟨by rfl, ?_⟩) (by assumption) ?_; rotate_left; (focus (intro w hSw; (try dsimp only at hSw); go_simp; try with_reducible rfl)); (try simp only [Act.put, sA, sB, sC])
      refine wpAnyH_take (i := 17) (v := ?_) (by simp only [gA, gB, gC]; rfl) (by kernel_rfl) (by kernel_rfl) (by kernel_rfl) (by exact fun _ _ _ h => h) (Or.inl ⟨by rfl, ?_⟩) (by assumption) ?_; rotate_left; (focus (intro w hSw; (try dsimp only at hSw); go_simp; try with_reducible rfl)); (try simp only [Act.put, sA, sB, sC])
      refine wpAnyH_take (i := 18) (v := ?_) (by simp only [gA, gB, gC]; rfl) (by kernel_rfl) (by kernel_rfl) (by kernel_rfl) (by exact fun _ _ _ h => h) (Or.inl ⟨by rfl, ?_⟩) (by assumption) ?_; rotate_left; (focus (intro w hSw; (try dsimp only at hSw); go_simp; try with_reducible rfl)); (try simp only [Act.put, sA, sB, sC])
      refine wpAnyH_done (by kernel_rfl) ?_ _
      have z3 := hs7.a
      clear hs7 hW7 hth7 hk7 hone7 hsz7 hz hS7 hS hB
      go_wp2_with fail
      refine (kti W7).mono ?_
      rintro e W8 ⟨rfl, hb8⟩
      have z3 := (hb8.cell (World.block_lt_of_cell? _ _ z3)).trans z3
      have hB8 := Below.then hB7 hb8
      go_wp2_with fail
      go_ret
      exact ⟨rfl, hB8⟩
    refine AllReadyH.cons (by simp only [gA, gB, gC]; rfl) (fun K hK => ?_) AllReadyH.nil
    have hb := alloc_below w1 (.cells zS 33)
    have hz : BlkL w1.heap.size (stCs zeroC nilS) (w1.alloc (.cells zS 33)) := blkl_alloc w1 (stCs zeroC nilS).toArray 33
    have hgz := hB.size
    have hSz := hS.size
    refine step_allocC (z := zS) rfl rfl (fun _ => rfl) ?_
    (try simp only [Act.put, sA, sB, sC])
    refine hK.out _ _ (Below.then hS hb) ?_
    clear hHeld hK
    intro hHeld
    replace hB := Below.then hB hb
    replace hS := Below.then hS hb
    replace hI := hI.below in_okC.len hb
    clear hb
    have hgS : Z.heap.size ≤ w1.heap.size := hSz
    generalize w1.alloc (.cells zS 33) = w2 at *
    generalize w1.heap.size = gz at *
    (try simp only [Act.put, sA, sB, sC])
    refine wpAnyH_ready (rs := [3]) (by kernel_rfl) (by simp) ?_
    refine AllReadyH.cons (by simp only [gA, gB, gC]; rfl) (fun K hK => ?_) AllReadyH.nil
    go_simp
    go_at_call 21
    refine (cone_any [⟨13, 0, 0⟩] [] (some ⟨gI, 0, none⟩) none 1 0 (by show 1 ≤ 100; decide) (by show 0 ≤ 100; decide) (fun _ => rfl) w2 hI (fun j y h => by simp at h)).mono ?_
    rintro e w3 ⟨x, hxg, rfl, hxo, hb⟩
    replace hB := Below.then hB hb
    replace hS := Below.then hS hb
    replace hz := stab_blk _ _ _ _ hz hb
    clear hb hI
    refine hK.out _ _ (hS) ?_
    clear hHeld hK
    intro hHeld
    (try simp only [Act.put, sA, sB, sC])
    refine wpAnyH_ready (rs := [4]) (by kernel_rfl) (by simp) ?_
    refine AllReadyH.cons (by simp only [gA, gB, gC]; rfl) (fun K hK => ?_) AllReadyH.nil
    have hb := alloc_below w3 (.cells x.cs.toArray 57)
    have hR := row_list pg_len w3 [x] x.cs.toArray (by simp) 57
    refine step_build1 pg_okC (by decide) rfl _ rfl x.cs rfl rfl ?_
    (try simp only [Act.put, sA, sB, sC])
    refine hK.out _ _ (Below.then hS hb) ?_
    clear hHeld hK
    intro hHeld
    replace hB := Below.then hB hb
    replace hS := Below.then hS hb
    replace hxo := hxo.below hb
    replace hz := stab_blk _ _ _ _ hz hb
    clear hb
    generalize w3.alloc (.cells x.cs.toArray 57) = w4 at *
    generalize w3.heap.size = gG at *
    (try simp only [Act.put, sA, sB, sC])
    refine wpAnyH_take (i := 5) (v := ?_) (by simp only [gA, gB, gC]; rfl) (by kernel_rfl) (by kernel_rfl) (by kernel_rfl) (by exact fun _ _ _ h => h) (Or.inl ⟨by rfl, ?_⟩) (by assumption) ?_; rotate_left; (focus (intro w hSw; (try dsimp only at hSw); go_simp; try with_reducible rfl)); (try simp only [Act.put, sA, sB, sC])
    refine wpAnyH_ready (rs := [6]) (by kernel_rfl) (by simp) ?_
    refine AllReadyH.cons (by simp only [gA, gB, gC]; rfl) (fun K hK => ?_) AllReadyH.nil
    go_simp
    have hb : Below w4.heap.size w4 (w4.alloc (.cells #[.slice (some ⟨gG, 0, none⟩) 1 1, .bool false, .int .i64 0, .int .i64 0, .int .i64 0, .int .i64 0] 47)) := alloc_below w4 _
    have hm : BlkL w4.heap.size (memCs (.slice (some ⟨gG, 0, none⟩) 1 1) false 0 0 0 0) (w4.alloc (.cells #[.slice (some ⟨gG, 0, none⟩) 1 1, .bool false, .int .i64 0, .int .i64 0, .int .i64 0, .int .i64 0] 47)) := blkl_alloc w4 #[.slice (some ⟨gG, 0, none⟩) 1 1, .bool false, .int .i64 0, .int .i64 0, .int .i64 0, .int .i64 0] 47
    refine hK.out _ _ (Below.then hS hb) ?_
    clear hHeld hK
    intro hHeld
    replace hB := Below.then hB hb
    replace hS := Below.then hS hb
    replace hxo := hxo.below hb
    replace hR := hR.below pg_len hb
    replace hz := stab_blk _ _ _ _ hz hb
    have hM := MemO.of (by rw [hxg]; exact hok1) hxo hm ⟨hR, fun z hz => by rw [List.mem_singleton.1 hz]; exact own_at hxo⟩
    clear hb hm hR
    generalize w4.alloc (.cells #[.slice (some ⟨gG, 0, none⟩) 1 1, .bool false, .int .i64 0, .int .i64 0, .int .i64 0, .int .i64 0] 47) = w5 at *
    generalize w4.heap.size = bm at *
    (try simp only [Act.put, sA, sB, sC])
    refine wpAnyH_take (i := 7) (v := ?_) (by simp only [gA, gB, gC]; rfl) (by kernel_rfl) (by kernel_rfl) (by kernel_rfl) (by exact fun _ _ _ h => h) (Or.inl ⟨by rfl, ?_⟩) (by assumption) ?_; rotate_left; (focus (intro w hSw; (try dsimp only at hSw); go_simp; try with_reducible rfl)); (try simp only [Act.put, sA, sB, sC])
    refine wpAnyH_ready (rs := [8]) (by kernel_rfl) (by simp) ?_
    refine AllReadyH.cons (by simp only [gA, gB, gC]; rfl) (fun K hK => ?_) AllReadyH.nil
    go_simp
    go_at_call 17
    refine (cstepV { newC with a := a } hCok nilS hM (SV.nil _) (okC { newC with a := tv, off := 1 }) (by rw [show [x].map (·.g) = [oneG [⟨13, 0, 0⟩] []] by simp [hxg]]; exact hst)).mono ?_
    rintro e w6 hP
    obtain ⟨vA, rfl, hoA, hb⟩ := hP.okE
    have hvA := SV.own hoA
    replace hB := Below.then hB hb
    replace hS := Below.then hS hb
    replace hz := stab_blk _ _ _ _ hz hb
    clear hb hP hoA hM hxo
    refine hK.out _ _ (hS) ?_
    clear hHeld hK
    intro hHeld
    (try simp only [Act.put, sA, sB, sC])
    refine wpAnyH_take (i := 9) (v := ?_) (by simp only [gA, gB, gC]; rfl) (by kernel_rfl) (by kernel_rfl) (by kernel_rfl) (by exact fun _ _ _ h => h) (Or.inl ⟨by rfl, ?_⟩) (by assumption) ?_; rotate_left; (focus (intro w hSw; (try dsimp only at hSw); go_simp; try with_reducible rfl)); (try simp only [Act.put, sA, sB, sC])
    refine wpAnyH_take (i := 10) (v := ?_) (by simp only [gA, gB, gC]; rfl) (by kernel_rfl) (by kernel_rfl) (by kernel_rfl) (by exact fun _ _ _ h => h) (Or.inl ⟨by rfl, ?_⟩) (by assumption) ?_; rotate_left; (focus (intro w hSw; (try dsimp only at hSw); go_simp; try with_reducible rfl)); (try simp only [Act.put, sA, sB, sC])
    refine wpAnyH_take (i := 11) (v := ?_) (by simp only [gA, gB, gC]; rfl) (by kernel_rfl) (by kernel_rfl) (by kernel_rfl) (by exact fun _ _ _ h => h) (Or.inl ⟨by rfl, ?_⟩) (by assumption) ?_; rotate_left; (focus (intro w hSw; (try dsimp only at hSw); go_simp; try with_reducible rfl)); (try simp only [Act.put, sA, sB, sC])
    refine wpAnyH_take (i := 12) (v := ?_) (by simp only [gA, gB, gC]; rfl) (by kernel_rfl) (by kernel_rfl) (by kernel_rfl) (by exact fun _ _ _ h => h) (Or.inl ⟨by rfl, ?_⟩) (by assumption) ?_; rotate_left; (focus (intro w hSw; (try dsimp only at hSw); go_simp; try with_reducible rfl)); (try simp only [Act.put, sA, sB, sC])
    refine wpAnyH_take (i := 13) (v := ?_) (by simp only [gA, gB, gC]; rfl) (by kernel_rfl) (by kernel_rfl) (by kernel_rfl) (by exact fun _ _ _ h => h) (Or.inl ⟨by rfl, ?_⟩) (by assumption) ?_; rotate_left; (focus (intro w hSw; (try dsimp only at hSw); go_simp; try with_reducible rfl)); (try simp only [Act.put, sA, sB, sC])
    refine wpAnyH_ready (rs := [15]) (by kernel_rfl) (by simp) ?_
    refine AllReadyH.cons (by simp only [gA, gB, gC]; rfl) (fun K hK => ?_) AllReadyH.nil
    obtain ⟨W7, hW7, hth7, hs7, hk7⟩ := put_st (show StAt gz zeroC nilS w6 from ⟨rfl, hz⟩) (d := { newC with a := tv, off := 1 }) rfl vA
    have hB7 := hk7 _ _ hgz hB
    have hS7 := hk7 _ _ hgS hS
    have hone7 := st_one { newC with a := tv, off := 1 } vA hvA.one
    have hsz7 : (Try.prog.info? 33).map (·.size) = some (stCs { newC with a := tv, off := 1 } vA).length := by rw [st_len (show ({ newC with a := tv, off := 1 }).ps.length = 4 from rfl)]; exact hszS
    refine step_store_rowC rfl _ _ rfl gz rfl (stCs { newC with a := tv, off := 1 } vA) rfl hth7 hsz7 hone7 hW7 ?_
    (try simp only [Act.put, sA, sB, sC])
    refine hK.out _ _ (hS7) ?_
    clear hHeld hK
    intro hHeld
    (try simp only [Act.put, sA, sB, sC])
    refine wpAnyH_take (i := 16) (v := ?_) (by simp only [gA, gB, gC]; rfl) (by kernel_rfl) (by kernel_rfl) (by kernel_rfl) (by exact fun _ _ _ h => h) (Or.inl ⟨by rfl, ?_⟩) (by assumption) ?_; rotate_left; (focus (intro w hSw; (try dsimp only at hSw); go_simp; try with_reducible rfl)); (try simp only [Act.put, sA, sB, sC])
    refine wpAnyH_take (i := 17) (v := ?_) (by simp only [gA, gB, gC]; rfl) (by kernel_rfl) (by kernel_rfl) (by kernel_rfl) (by exact fun _ _ _ h => h) (Or.inl ⟨by rfl, ?_⟩) (by assumption) ?_; rotate_left; (focus (intro w hSw; (try dsimp only at hSw); go_simp; try with_reducible rfl)); (try simp only [Act.put, sA, sB, sC])
    refine wpAnyH_take (i := 18) (v := ?_) (by simp only [gA, gB, gC]; rfl) (by kernel_rfl) (by kernel_rfl) (by kernel_rfl) (by exact fun _ _ _ h => h) (Or.inl ⟨by rfl, ?_⟩) (by assumption) ?_; rotate_left; (focus (intro w hSw; (try dsimp only at hSw); go_simp; try with_reducible rfl)); (try simp only [Act.put, sA, sB, sC])
    refine wpAnyH_done (by kernel_rfl) ?_ _
    have z3 := hs7.a
    clear hs7 hW7 hth7 hk7 hone7 hsz7 hz hS7 hS hB
    go_wp2_with fail
    refine (kti W7).mono ?_
    rintro e W8 ⟨rfl, hb8⟩
    have z3 := (hb8.cell (World.block_lt_of_cell? _ _ z3)).trans z3
    have hB8 := Below.then hB7 hb8
    go_wp2_with fail
    go_ret
    exact ⟨rfl, hB8⟩
  refine AllReadyH.cons (by simp only [gA, gB, gC]; rfl) (fun K hK => ?_) AllReadyH.nil
  have hb := alloc_below w0 (.cells zS 33)
  have hz : BlkL w0.heap.size (stCs zeroC nilS) (w0.alloc (.cells zS 33)) := blkl_alloc w0 (stCs zeroC nilS).toArray 33
  have hgz := hB.size
  have hSz := hS.size
  refine step_allocC (z := zS) rfl rfl (fun _ => rfl) ?_
  (try simp only [Act.put, sA, sB, sC])
  refine hK.out _ _ (Below.then hS hb) ?_
  clear hHeld hK
  intro hHeld
  replace hB := Below.then hB hb
  replace hS := Below.then hS hb
  clear hb
  have hgS : Z.heap.size ≤ w0.heap.size := hSz
  generalize w0.alloc (.cells zS 33) = w1 at *
  generalize w0.heap.size = gz at *
  (try simp only [Act.put, sA, sB, sC])
  refine wpAnyH_ready (rs := [2]) (by kernel_rfl) (by simp) ?_
  refine AllReadyH.cons (by simp only [gA, gB, gC]; rfl) (fun K hK => ?_) AllReadyH.nil
  have hb := alloc_below w1 (.cells (ins3 ⟨13, 0, 0⟩).toArray 64)
  have hI := row_list (f := ins3) (sz := 3) (fun _ => rfl) w1 [⟨13, 0, 0⟩] (ins3 ⟨13, 0, 0⟩).toArray (by simp) 64
  refine step_build1 in_okC (by decide) rfl _ rfl (ins3 ⟨13, 0, 0⟩) rfl rfl ?_
  (try simp only [Act.put, sA, sB, sC])
  refine hK.out _ _ (Below.then hS hb) ?_
  clear hHeld hK
  intro hHeld
  replace hB := Below.then hB hb
  replace hS := Below.then hS hb
  replace hz := stab_blk _ _ _ _ hz hb
  clear hb
  generalize w1.alloc (.cells (ins3 ⟨13, 0, 0⟩).toArray 64) = w2 at *
  generalize w1.heap.size = gI at *
  (try simp only [Act.put, sA, sB, sC])
  refine wpAnyH_ready (rs := [3]) (by kernel_rfl) (by simp) ?_
  refine AllReadyH.cons (by simp only [gA, gB, gC]; rfl) (fun K hK => ?_) AllReadyH.nil
  go_simp
  go_at_call 21
  refine (cone_any [⟨13, 0, 0⟩] [] (some ⟨gI, 0, none⟩) none 1 0 (by show 1 ≤ 100; decide) (by show 0 ≤ 100; decide) (fun _ => rfl) w2 hI (fun j y h => by simp at h)).mono ?_
  rintro e w3 ⟨x, hxg, rfl, hxo, hb⟩
  replace hB := Below.then hB hb
  replace hS := Below.then hS hb
  replace hz := stab_blk _ _ _ _ hz hb
  clear hb hI
  refine hK.out _ _ (hS) ?_
  clear hHeld hK
  intro hHeld
  (try simp only [Act.put, sA, sB, sC])
  refine wpAnyH_ready (rs := [4]) (by kernel_rfl) (by simp) ?_
  refine AllReadyH.cons (by simp only [gA, gB, gC]; rfl) (fun K hK => ?_) AllReadyH.nil
  have hb := alloc_below w3 (.cells x.cs.toArray 57)
  have hR := row_list pg_len w3 [x] x.cs.toArray (by simp) 57
  refine step_build1 pg_okC (by decide) rfl _ rfl x.cs rfl rfl ?_
  (try simp only [Act.put, sA, sB, sC])
  refine hK.out _ _ (Below.then hS hb) ?_
  clear hHeld hK
  intro hHeld
  replace hB := Below.then hB hb
  replace hS := Below.then hS hb
  replace hxo := hxo.below hb
  replace hz := stab_blk _ _ _ _ hz hb
  clear hb
  generalize w3.alloc (.cells x.cs.toArray 57) = w4 at *
  generalize w3.heap.size = gG at *
  (try simp only [Act.put, sA, sB, sC])
  refine wpAnyH_take (i := 5) (v := ?_) (by simp only [gA, gB, gC]; rfl) (by kernel_rfl) (by kernel_rfl) (by kernel_rfl) (by exact fun _ _ _ h => h) (Or.inl ⟨by rfl, ?_⟩) (by assumption) ?_; rotate_left; (focus (intro w hSw; (try dsimp only at hSw); go_simp; try with_reducible rfl)); (try simp only [Act.put, sA, sB, sC])
  refine wpAnyH_ready (rs := [6]) (by kernel_rfl) (by simp) ?_
  refine AllReadyH.cons (by simp only [gA, gB, gC]; rfl) (fun K hK => ?_) AllReadyH.nil
  go_simp
  have hb : Below w4.heap.size w4 (w4.alloc (.cells #[.slice (some ⟨gG, 0, none⟩) 1 1, .bool false, .int .i64 0, .int .i64 0, .int .i64 0, .int .i64 0] 47)) := alloc_below w4 _
  have hm : BlkL w4.heap.size (memCs (.slice (some ⟨gG, 0, none⟩) 1 1) false 0 0 0 0) (w4.alloc (.cells #[.slice (some ⟨gG, 0, none⟩) 1 1, .bool false, .int .i64 0, .int .i64 0, .int .i64 0, .int .i64 0] 47)) := blkl_alloc w4 #[.slice (some ⟨gG, 0, none⟩) 1 1, .bool false, .int .i64 0, .int .i64 0, .int .i64 0, .int .i64 0] 47
  refine hK.out _ _ (Below.then hS hb) ?_
  clear hHeld hK
  intro hHeld
  replace hB := Below.then hB hb
  replace hS := Below.then hS hb
  replace hxo := hxo.below hb
  replace hR := hR.below pg_len hb
  replace hz := stab_blk _ _ _ _ hz hb
  have hM := MemO.of (by rw [hxg]; exact hok1) hxo hm ⟨hR, fun z hz => by rw [List.mem_singleton.1 hz]; exact own_at hxo⟩
  clear hb hm hR
  generalize w4.alloc (.cells #[.slice (some ⟨gG, 0, none⟩) 1 1, .bool false, .int .i64 0, .int .i64 0, .int .i64 0, .int .i64 0] 47) = w5 at *
  generalize w4.heap.size = bm at *
  (try simp only [Act.put, sA, sB, sC])
  refine wpAnyH_take (i := 7) (v := ?_) (by simp only [gA, gB, gC]; rfl) (by kernel_rfl) (by kernel_rfl) (by kernel_rfl) (by exact fun _ _ _ h => h) (Or.inl ⟨by rfl, ?_⟩) (by assumption) ?_; rotate_left; (focus (intro w hSw; (try dsimp only at hSw); go_simp; try with_reducible rfl)); (try simp only [Act.put, sA, sB, sC])
  refine wpAnyH_ready (rs := [8]) (by kernel_rfl) (by simp) ?_
  refine AllReadyH.cons (by simp only [gA, gB, gC]; rfl) (fun K hK => ?_) AllReadyH.nil
  go_simp
  go_at_call 17
  refine (cstepV { newC with a := a } hCok nilS hM (SV.nil _) (okC { newC with a := tv, off := 1 }) (by rw [show [x].map (·.g) = [oneG [⟨13, 0, 0⟩] []] by simp [hxg]]; exact hst)).mono ?_
  rintro e w6 hP
  obtain ⟨vA, rfl, hoA, hb⟩ := hP.okE
  have hvA := SV.own hoA
  replace hB := Below.then hB hb
  replace hS := Below.then hS hb
  replace hz := stab_blk _ _ _ _ hz hb
  clear hb hP hoA hM hxo
  refine hK.out _ _ (hS) ?_
  clear hHeld hK
  intro hHeld
  (try simp only [Act.put, sA, sB, sC])
  refine wpAnyH_take (i := 9) (v := ?_) (by simp only [gA, gB, gC]; rfl) (by kernel_rfl) (by kernel_rfl) (by kernel_rfl) (by exact fun _ _ _ h => h) (Or.inl ⟨by rfl, ?_⟩) (by assumption) ?_; rotate_left; (focus (intro w hSw; (try dsimp only at hSw); go_simp; try with_reducible rfl)); (try simp only [Act.put, sA, sB, sC])
  refine wpAnyH_take (i := 10) (v := ?_) (by simp only [gA, gB, gC]; rfl) (by kernel_rfl) (by kernel_rfl) (by kernel_rfl) (by exact fun _ _ _ h => h) (Or.inl ⟨by rfl, ?_⟩) (by assumption) ?_; rotate_left; (focus (intro w hSw; (try dsimp only at hSw); go_simp; try with_reducible rfl)); (try simp only [Act.put, sA, sB, sC])
  refine wpAnyH_take (i := 11) (v := ?_) (by simp only [gA, gB, gC]; rfl) (by kernel_rfl) (by kernel_rfl) (by kernel_rfl) (by exact fun _ _ _ h => h) (Or.inl ⟨by rfl, ?_⟩) (by assumption) ?_; rotate_left; (focus (intro w hSw; (try dsimp only at hSw); go_simp; try with_reducible rfl)); (try simp only [Act.put, sA, sB, sC])
  refine wpAnyH_take (i := 12) (v := ?_) (by simp only [gA, gB, gC]; rfl) (by kernel_rfl) (by kernel_rfl) (by kernel_rfl) (by exact fun _ _ _ h => h) (Or.inl ⟨by rfl, ?_⟩) (by assumption) ?_; rotate_left; (focus (intro w hSw; (try dsimp only at hSw); go_simp; try with_reducible rfl)); (try simp only [Act.put, sA, sB, sC])
  refine wpAnyH_take (i := 13) (v := ?_) (by simp only [gA, gB, gC]; rfl) (by kernel_rfl) (by kernel_rfl) (by kernel_rfl) (by exact fun _ _ _ h => h) (Or.inl ⟨by rfl, ?_⟩) (by assumption) ?_; rotate_left; (focus (intro w hSw; (try dsimp only at hSw); go_simp; try with_reducible rfl)); (try simp only [Act.put, sA, sB, sC])
  refine wpAnyH_ready (rs := [15]) (by kernel_rfl) (by simp) ?_
  refine AllReadyH.cons (by simp only [gA, gB, gC]; rfl) (fun K hK => ?_) AllReadyH.nil
  obtain ⟨W7, hW7, hth7, hs7, hk7⟩ := put_st (show StAt gz zeroC nilS w6 from ⟨rfl, hz⟩) (d := { newC with a := tv, off := 1 }) rfl vA
  have hB7 := hk7 _ _ hgz hB
  have hS7 := hk7 _ _ hgS hS
  have hone7 := st_one { newC with a := tv, off := 1 } vA hvA.one
  have hsz7 : (Try.prog.info? 33).map (·.size) = some (stCs { newC with a := tv, off := 1 } vA).length := by rw [st_len (show ({ newC with a := tv, off := 1 }).ps.length = 4 from rfl)]; exact hszS
  refine step_store_rowC rfl _ _ rfl gz rfl (stCs { newC with a := tv, off := 1 } vA) rfl hth7 hsz7 hone7 hW7 ?_
  (try simp only [Act.put, sA, sB, sC])
  refine hK.out _ _ (hS7) ?_
  clear hHeld hK
  intro hHeld
  (try simp only [Act.put, sA, sB, sC])
  refine wpAnyH_take (i := 16) (v := ?_) (by simp only [gA, gB, gC]; rfl) (by kernel_rfl) (by kernel_rfl) (by kernel_rfl) (by exact fun _ _ _ h => h) (Or.inl ⟨by rfl, ?_⟩) (by assumption) ?_; rotate_left; (focus (intro w hSw; (try dsimp only at hSw); go_simp; try with_reducible rfl)); (try simp only [Act.put, sA, sB, sC])
  refine wpAnyH_take (i := 17) (v := ?_) (by simp only [gA, gB, gC]; rfl) (by kernel_rfl) (by kernel_rfl) (by kernel_rfl) (by exact fun _ _ _ h => h) (Or.inl ⟨by rfl, ?_⟩) (by assumption) ?_; rotate_left; (focus (intro w hSw; (try dsimp only at hSw); go_simp; try with_reducible rfl)); (try simp only [Act.put, sA, sB, sC])
  refine wpAnyH_take (i := 18) (v := ?_) (by simp only [gA, gB, gC]; rfl) (by kernel_rfl) (by kernel_rfl) (by kernel_rfl) (by exact fun _ _ _ h => h) (Or.inl ⟨by rfl, ?_⟩) (by assumption) ?_; rotate_left; (focus (intro w hSw; (try dsimp only at hSw); go_simp; try with_reducible rfl)); (try simp only [Act.put, sA, sB, sC])
  refine wpAnyH_done (by kernel_rfl) ?_ _
  have z3 := hs7.a
  clear hs7 hW7 hth7 hk7 hone7 hsz7 hz hS7 hS hB
  go_wp2_with fail
  refine (kti W7).mono ?_
  rintro e W8 ⟨rfl, hb8⟩
  have z3 := (hb8.cell (World.block_lt_of_cell? _ _ z3)).trans z3
  have hB8 := Below.then hB7 hb8
  go_wp2_with fail
  go_ret
  exact ⟨rfl, hB8⟩
set_option maxRecDepth 8000 in
set_option maxHeartbeats 8000000 in
theorem cpuConvC (a : Int) (ee : Int) (hee : toE a = ee) (he : ee ≠ 0) (ha : fit64 a) (w : World) :
    Calls Try.prog 8 #[.int .i64 a, .bool true] w fun e w' => e = .returned (.bool true) ∧ Below w.heap.size w w' := by
  have hundS := Try.underlying33
  have hszS : (Try.prog.info? 33).map (·.size) = some 18 := by kernel_rfl
  have hszC : (Try.prog.info? 33).map (·.size) = some (stCs { newC with a := a } nilS).length := hszS
  have hundI := Try.underlying64
  have hszI : (Try.prog.info? 64).map (·.size) = some 3 := by kernel_rfl
  have hmi : ∀ (v : Value) (w : World), (Instr.makeInterface 43 v).run Try.prog w = .ok (.iface 43 v) w := fun _ _ => rfl
  have hst : stepC { newC with a := a } [oneG [⟨13, 0, 0⟩] []] = flt 36 := by rw [cvt_step a 13 (by decide) (by decide)]; show (if toE a ≠ 0 then flt 36 else okC { newC with a := toV a, off := 1 }) = _; rw [if_pos (by rw [hee]; exact he)]
  have hok1 : (oneG [⟨13, 0, 0⟩] []).Ok := one_ok (fun z hz => by simp at hz) (by show 1 + 0 ≤ 1000; decide)
  have hCok : Cp.Ok { newC with a := a } := ⟨rfl, newC_ok.pp, newC_ok.ring, ha, newC_ok.st, newC_ok.sr⟩
  have kti : ∀ W : World, Calls Try.prog 28 #[.int .i64 a] W fun e w' => e = .returned (.tuple #[.int .i64 (toV a), .int .i64 ee]) ∧ Below W.heap.size W w' := fun W => (donjonref1_ToInt_any ha.1 ha.2 W).mono fun e w' h => ⟨by rw [← hee]; exact h.1, by rw [h.2]; exact Below.refl _ _⟩
  have qe : (ee != 0) = true := by simpa using he
  generalize toV a = tv at *
  clear hee he
  go_enter Try.func8, Try.ntmps8
  go_wp2_with fail
  refine (ck_any w).mono ?_
  rintro e W1 ⟨rfl, hB1⟩
  have hi1 := blkl_alloc W1 (ins3 ⟨13, 0, 0⟩).toArray 64
  have hbi := alloc_below W1 (.cells (ins3 ⟨13, 0, 0⟩).toArray 64)
  have hB2 := Below.then hB1 hbi
  replace hi1 : BlkL W1.heap.size (ins3 ⟨13, 0, 0⟩) (W1.alloc (.cells #[.int .i64 13, .int .i64 0, .int .i64 0] 64)) := hi1
  replace hB2 : Below w.heap.size w (W1.alloc (.cells #[.int .i64 13, .int .i64 0, .int .i64 0] 64)) := hB2
  clear hbi
  go_upto_region 6 with fail
  generalize W1.alloc (.cells #[.int .i64 13, .int .i64 0, .int .i64 0] 64) = W2 at *
  generalize W1.heap.size = bi at *
  go_wp2_with fail
  refine (cnew_any W2).mono ?_
  rintro e W6 ⟨rfl, hb6⟩
  obtain ⟨W7, hW7, hth7, hs7, hb7⟩ := new_stC W6 newC rfl nilS
  have hB6 := Below.then hB2 hb6
  have hi6 := stab_blk _ _ _ _ (stab_blk _ _ _ _ hi1 hb6) hb7
  have hil := (stab_blk _ _ _ _ hi1 hb6).2
  have y3 := hs7.a
  have yf := (hs7.blk.1 3 _ rfl).2
  have hs0 : StAt W6.heap.size { newC with a := a } nilS (W7.setCell ⟨W6.heap.size, 3, none⟩ (.int .i64 a)) := by
    have h1 := hs7.blk.1.set 3 (.int .i64 a) (by show 3 < 18; decide)
    exact ⟨rfl, h1, h1.lt rfl⟩
  have hi0 := far_blk hi6 (show W6.heap.size ≠ bi by omega) 3 (.int .i64 a)
  have hB0 := (Below.then hB6 hb7).setCell (p := ⟨W6.heap.size, 3, none⟩) hB6.size (.int .i64 a)
  have hone7 : ∀ u ∈ stCs newC nilS, u.oneCell' = true := st_one _ _ rfl
  have hsz7 : (Try.prog.info? 33).map (·.size) = some (stCs newC nilS).length := by kernel_rfl
  obtain ⟨Y, hY⟩ : ∃ Y, stCs newC nilS = Y := ⟨_, rfl⟩
  rw [hY] at hW7 hth7 hone7 hsz7
  have hYv : Aside (.agg (stCs newC nilS).toArray = Value.agg Y.toArray) := by rw [hY]; exact rfl
  clear hY hb6 hb7 hs7 hB6 hi6 hi1 hil
  go_upto_region 8 with (first | (refine wpList_store_row rfl _ _ rfl W6.heap.size rfl Y hYv.out hth7 hsz7 hone7 hW7 ?_) | fail)
  clear hW7 hth7 hone7 hsz7 hYv y3 yf
  generalize W7.setCell ⟨W6.heap.size, 3, none⟩ (.int .i64 a) = Z at *
  generalize W6.heap.size = bs at *
  have hS := (Below.refl Z.heap.size Z).drew
  have hB := Below.then hB0 hS
  clear hB0
  refine wp_region_held_drew (S := (fun W => Below Z.heap.size Z W)) (by kernel_rfl) (by exact hS) ?_
  intro hHeld
  generalize Z.drew = w0 at *
  refine wpAnyH_take (i := 0) (v := _) (by simp only [gA, gB, gC]; rfl) (by kernel_rfl) (by kernel_rfl) (by kernel_rfl) (by exact fun _ _ _ h => h) (yields_row (by rfl) _ rfl bs rfl (stCs { newC with a := a } nilS) (fun _ q => (hs0.keep q).blk.range) hundS rfl hszC) (by assumption) ?_; (try simp only [Act.put, sA, sB, sC])
  refine wpAnyH_take (i := 1) (v := _) (by simp only [gA, gB, gC]; rfl) (by kernel_rfl) (by kernel_rfl) (by kernel_rfl) (by exact fun _ _ _ h => h) (yields_row (by rfl) _ rfl bi rfl (ins3 ⟨13, 0, 0⟩) (fun _ q => (stab_blk _ _ _ _ hi0 q).range) hundI rfl hszI) (by assumption) ?_; (try simp only [Act.put, sA, sB, sC])
  refine wpAnyH_ready (rs := [2, 14]) (by kernel_rfl) (by simp) ?_
  refine AllReadyH.cons (by simp only [gA, gB, gC]; rfl) (fun K hK => ?_) ?_
  · skip
    have hb := alloc_below w0 (.cells (ins3 ⟨13, 0, 0⟩).toArray 64)
    have hI := row_list (f := ins3) (sz := 3) (fun _ => rfl) w0 [⟨13, 0, 0⟩] (ins3 ⟨13, 0, 0⟩).toArray (by simp) 64
    refine step_build1 in_okC (by decide) rfl _ rfl (ins3 ⟨13, 0, 0⟩) rfl rfl ?_
    (try simp only [Act.put, sA, sB, sC])
    refine hK.out _ _ (Below.then hS hb) ?_
    clear hHeld hK
    intro hHeld
    replace hB := Below.then hB hb
    replace hS := Below.then hS hb
    clear hb
    generalize w0.alloc (.cells (ins3 ⟨13, 0, 0⟩).toArray 64) = w1 at *
    generalize w0.heap.size = gI at *
    (try simp only [Act.put, sA, sB, sC])
    refine wpAnyH_ready (rs := [3, 14]) (by kernel_rfl) (by simp) ?_
    refine AllReadyH.cons (by simp only [gA, gB, gC]; rfl) (fun K hK => ?_) ?_
    · go_simp
      go_at_call 21
      refine (cone_any [⟨13, 0, 0⟩] [] (some ⟨gI, 0, none⟩) none 1 0 (by show 1 ≤ 100; decide) (by show 0 ≤ 100; decide) (fun _ => rfl) w1 hI (fun j y h => by simp at h)).mono ?_
      rintro e w2 ⟨x, hxg, rfl, hxo, hb⟩
      replace hB := Below.then hB hb
      replace hS := Below.then hS hb
      clear hb hI
      refine hK.out _ _ (hS) ?_
      clear hHeld hK
      intro hHeld
      (try simp only [Act.put, sA, sB, sC])
      refine wpAnyH_ready (rs := [4, 14]) (by kernel_rfl) (by simp) ?_
      refine AllReadyH.cons (by simp only [gA, gB, gC]; rfl) (fun K hK => ?_) ?_
      · skip
        have hb := alloc_below w2 (.cells x.cs.toArray 57)
        have hR := row_list pg_len w2 [x] x.cs.toArray (by simp) 57
        refine step_build1 pg_okC (by decide) rfl _ rfl x.cs rfl rfl ?_
        (try simp only [Act.put, sA, sB, sC])
        refine hK.out _ _ (Below.then hS hb) ?_
        clear hHeld hK
        intro hHeld
        replace hB := Below.then hB hb
        replace hS := Below.then hS hb
        replace hxo := hxo.below hb
        clear hb
        generalize w2.alloc (.cells x.cs.toArray 57) = w3 at *
        generalize w2.heap.size = gG at *
        (try simp only [Act.put, sA, sB, sC])
        refine wpAnyH_take (i := 5) (v := ?_) (by simp only [gA, gB, gC]; rfl) (by kernel_rfl) (by kernel_rfl) (by kernel_rfl) (by exact fun _ _ _ h => h) (Or.inl ⟨by rfl, ?_⟩) (by assumption) ?_; rotate_left; (focus (intro w hSw; (try dsimp only at hSw); go_simp; try with_reducible rfl)); (try simp only [Act.put, sA, sB, sC])
        refine wpAnyH_ready (rs := [6, 14]) (by kernel_rfl) (by simp) ?_
        refine AllReadyH.cons (by simp only [gA, gB, gC]; rfl) (fun K hK => ?_) ?_
        · go_simp
          have hb : Below w3.heap.size w3 (w3.alloc (.cells #[.slice (some ⟨gG, 0, none⟩) 1 1, .bool false, .int .i64 0, .int .i64 0, .int .i64 0, .int .i64 0] 47)) := alloc_below w3 _
          have hm : BlkL w3.heap.size (memCs (.slice (some ⟨gG, 0, none⟩) 1 1) false 0 0 0 0) (w3.alloc (.cells #[.slice (some ⟨gG, 0, none⟩) 1 1, .bool false, .int .i64 0, .int .i64 0, .int .i64 0, .int .i64 0] 47)) := blkl_alloc w3 #[.slice (some ⟨gG, 0, none⟩) 1 1, .bool false, .int .i64 0, .int .i64 0, .int .i64 0, .int .i64 0] 47
          refine hK.out _ _ (Below.then hS hb) ?_
          clear hHeld hK
          intro hHeld
          replace hB := Below.then hB hb
          replace hS := Below.then hS hb
          replace hxo := hxo.below hb
          replace hR := hR.below pg_len hb
          have hM := MemO.of (by rw [hxg]; exact hok1) hxo hm ⟨hR, fun z hz => by rw [List.mem_singleton.1 hz]; exact own_at hxo⟩
          clear hb hm hR
          generalize w3.alloc (.cells #[.slice (some ⟨gG, 0, none⟩) 1 1, .bool false, .int .i64 0, .int .i64 0, .int .i64 0, .int .i64 0] 47) = w4 at *
          generalize w3.heap.size = bm at *
          (try simp only [Act.put, sA, sB, sC])
          refine wpAnyH_take (i := 7) (v := ?_) (by simp only [gA, gB, gC]; rfl) (by kernel_rfl) (by kernel_rfl) (by kernel_rfl) (by exact fun _ _ _ h => h) (Or.inl ⟨by rfl, ?_⟩) (by assumption) ?_; rotate_left; (focus (intro w hSw; (try dsimp only at hSw); go_simp; try with_reducible rfl)); (try simp only [Act.put, sA, sB, sC])
          refine wpAnyH_ready (rs := [8, 14]) (by kernel_rfl) (by simp) ?_
          refine AllReadyH.cons (by simp only [gA, gB, gC]; rfl) (fun K hK => ?_) ?_
          · go_simp
            go_at_call 17
            refine (cstepV { newC with a := a } hCok nilS hM (SV.nil _) (flt 36) (by rw [show [x].map (·.g) = [oneG [⟨13, 0, 0⟩] []] by simp [hxg]]; exact hst)).mono ?_
            rintro e w5 hP
            obtain ⟨vA, rfl, hoA, hb⟩ := hP.fltE
            have hvA := SV.own hoA
            replace hB := Below.then hB hb
            replace hS := Below.then hS hb
            clear hb hP hoA hM hxo
            refine hK.out _ _ (hS) ?_
            clear hHeld hK
            intro hHeld
            (try simp only [Act.put, sA, sB, sC])
            refine wpAnyH_take (i := 9) (v := ?_) (by simp only [gA, gB, gC]; rfl) (by kernel_rfl) (by kernel_rfl) (by kernel_rfl) (by exact fun _ _ _ h => h) (Or.inl ⟨by rfl, ?_⟩) (by assumption) ?_; rotate_left; (focus (intro w hSw; (try dsimp only at hSw); go_simp; try with_reducible rfl)); (try simp only [Act.put, sA, sB, sC])
            refine wpAnyH_take (i := 10) (v := ?_) (by simp only [gA, gB, gC]; rfl) (by kernel_rfl) (by kernel_rfl) (by kernel_rfl) (by exact fun _ _ _ h => h) (Or.inl ⟨by rfl, ?_⟩) (by assumption) ?_; rotate_left; (focus (intro w hSw; (try dsimp only at hSw); go_simp; try with_reducible rfl)); (try simp only [Act.put, sA, sB, sC])
            refine wpAnyH_take (i := 11) (v := ?_) (by simp only [gA, gB, gC]; rfl) (by kernel_rfl) (by kernel_rfl) (by kernel_rfl) (by exact fun _ _ _ h => h) (Or.inl ⟨by rfl, ?_⟩) (by assumption) ?_; rotate_left; (focus (intro w hSw; (try dsimp only at hSw); go_simp; try with_reducible rfl)); (try simp only [Act.put, sA, sB, sC])
            refine wpAnyH_take (i := 12) (v := ?_) (by simp only [gA, gB, gC]; rfl) (by kernel_rfl) (by kernel_rfl) (by kernel_rfl) (by exact fun _ _ _ h => h) (Or.inl ⟨by rfl, ?_⟩) (by assumption) ?_; rotate_left; (focus (intro w hSw; (try dsimp only at hSw); go_simp; try with_reducible rfl)); (try simp only [Act.put, sA, sB, sC])
            refine wpAnyH_take (i := 13) (v := ?_) (by simp only [gA, gB, gC]; rfl) (by kernel_rfl) (by kernel_rfl) (by kernel_rfl) (by exact fun _ _ _ h => h) (Or.inl ⟨by rfl, ?_⟩) (by assumption) ?_; rotate_left; (focus (intro w hSw; (try dsimp only at hSw); go_simp; try with_reducible rfl)); (try simp only [Act.put, sA, sB, sC])
            refine wpAnyH_ready (rs := [14]) (by kernel_rfl) (by simp) ?_
            refine AllReadyH.cons (by simp only [gA, gB, gC]; rfl) (fun K hK => ?_) AllReadyH.nil
            have hb := alloc_below w5 (.cells zS 33)
            have hz : BlkL w5.heap.size (stCs zeroC nilS) (w5.alloc (.cells zS 33)) := blkl_alloc w5 (stCs zeroC nilS).toArray 33
            have hgz := hB.size
            have hSz := hS.size
            refine step_allocC (z := zS) rfl rfl (fun _ => rfl) ?_
            (try simp only [Act.put, sA, sB, sC])
            refine hK.out _ _ (Below.then hS hb) ?_
            clear hHeld hK
            intro hHeld
            replace hB := Below.then hB hb
            replace hS := Below.then hS hb
            replace hvA := hvA.below hb
            clear hb
            have hgS : Z.heap.size ≤ w5.heap.size := hSz
            generalize w5.alloc (.cells zS 33) = w6 at *
            generalize w5.heap.size = gz at *
            (try simp only [Act.put, sA, sB, sC])
            refine wpAnyH_ready (rs := [15]) (by kernel_rfl) (by simp) ?_
            refine AllReadyH.cons (by simp only [gA, gB, gC]; rfl) (fun K hK => ?_) AllReadyH.nil
            obtain ⟨W7, hW7, hth7, hs7, hk7⟩ := put_st (show StAt gz zeroC nilS w6 from ⟨rfl, hz⟩) (d := zeroC) rfl vA
            have hB7 := hk7 _ _ hgz hB
            have hS7 := hk7 _ _ hgS hS
            have hone7 := st_one zeroC vA hvA.one
            have hsz7 : (Try.prog.info? 33).map (·.size) = some (stCs zeroC vA).length := by rw [st_len (show (zeroC).ps.length = 4 from rfl)]; exact hszS
            refine step_store_rowC rfl _ _ rfl gz rfl (stCs zeroC vA) rfl hth7 hsz7 hone7 hW7 ?_
            (try simp only [Act.put, sA, sB, sC])
            refine hK.out _ _ (hS7) ?_
            clear hHeld hK
            intro hHeld
            (try simp only [Act.put, sA, sB, sC])
            refine wpAnyH_take (i := 16) (v := ?_) (by simp only [gA, gB, gC]; rfl) (by kernel_rfl) (by kernel_rfl) (by kernel_rfl) (by exact fun _ _ _ h => h) (Or.inl ⟨by rfl, ?_⟩) (by assumption) ?_; rotate_left; (focus (intro w hSw; (try dsimp only at hSw); go_simp; try with_reducible rfl)); (try simp only [Act.put, sA, sB, sC])
            refine wpAnyH_take (i := 17) (v := ?_) (by simp only [gA, gB, gC]; rfl) (by kernel_rfl) (by kernel_rfl) (by kernel_rfl) (by exact fun _ _ _ h => h) (Or.inl ⟨by rfl, ?_⟩) (by assumption) ?_; rotate_left; (focus (intro w hSw; (try dsimp only at hSw); go_simp; try with_reducible rfl)); (try simp only [Act.put, sA, sB, sC])
            refine wpAnyH_take (i := 18) (v := ?_) (by simp only [gA, gB, gC]; rfl) (by kernel_rfl) (by kernel_rfl) (by kernel_rfl) (by exact fun _ _ _ h => h) (Or.inl ⟨by rfl, ?_⟩) (by assumption) ?_; rotate_left; (focus (intro w hSw; (try dsimp only at hSw); go_simp; try with_reducible rfl)); (try simp only [Act.put, sA, sB, sC])
            refine wpAnyH_done (by kernel_rfl) ?_ _
            have z3 := hs7.a
            clear hs7 hW7 hth7 hk7 hone7 hsz7 hz hS7 hS hB
            go_wp2_with fail
            refine (kti W7).mono ?_
            rintro e W8 ⟨rfl, hb8⟩
            have z3 := (hb8.cell (World.block_lt_of_cell? _ _ z3)).trans z3
            have hB8 := Below.then hB7 hb8
            go_wp2_with fail
            go_ret
            exact ⟨rfl, hB8⟩
          refine AllReadyH.cons (by simp only [gA, gB, gC]; rfl) (fun K hK => ?_) AllReadyH.nil
          have hb := alloc_below w4 (.cells zS 33)
          have hz : BlkL w4.heap.size (stCs zeroC nilS) (w4.alloc (.cells zS 33)) := blkl_alloc w4 (stCs zeroC nilS).toArray 33
          have hgz := hB.size
          have hSz := hS.size
          refine step_allocC (z := zS) rfl rfl (fun _ => rfl) ?_
          (try simp only [Act.put, sA, sB, sC])
          refine hK.out _ _ (Below.then hS hb) ?_
          clear hHeld hK
          intro hHeld
          replace hB := Below.then hB hb
          replace hS := Below.then hS hb
          replace hxo := hxo.below hb
          replace hM := hM.below hb
          clear hb
          have hgS : Z.heap.size ≤ w4.heap.size := hSz
          generalize w4.alloc (.cells zS 33) = w5 at *
          generalize w4.heap.size = gz at *
          (try simp only [Act.put, sA, sB, sC])
          refine wpAnyH_ready (rs := [8]) (by kernel_rfl) (by simp) ?_
          refine AllReadyH.cons (by simp only [gA, gB, gC]; rfl) (fun K hK => ?_) AllReadyH.nil
          go_simp
          go_at_call 17
          refine (cstepV { newC with a := a } hCok nilS hM (SV.nil _) (flt 36) (by rw [show [x].map (·.g) = [oneG [⟨13, 0, 0⟩] []] by simp [hxg]]; exact hst)).mono ?_
          rintro e w6 hP
          obtain ⟨vA, rfl, hoA, hb⟩ := hP.fltE
          have hvA := SV.own hoA
          replace hB := Below.then hB hb
          replace hS := Below.then hS hb
          replace hz := stab_blk _ _ _ _ hz hb
          clear hb hP hoA hM hxo
          refine hK.out _ _ (hS) ?_
          clear hHeld hK
          intro hHeld
          (try simp only [Act.put, sA, sB, sC])
          refine wpAnyH_take (i := 9) (v := ?_) (by simp only [gA, gB, gC]; rfl) (by kernel_rfl) (by kernel_rfl) (by kernel_rfl) (by exact fun _ _ _ h => h) (Or.inl ⟨by rfl, ?_⟩) (by assumption) ?_; rotate_left; (focus (intro w hSw; (try dsimp only at hSw); go_simp; try with_reducible rfl)); (try simp only [Act.put, sA, sB, sC])
          refine wpAnyH_take (i := 10) (v := ?_) (by simp only [gA, gB, gC]; rfl) (by kernel_rfl) (by kernel_rfl) (by kernel_rfl) (by exact fun _ _ _ h => h) (Or.inl ⟨by rfl, ?_⟩) (by assumption) ?_; rotate_left; (focus (intro w hSw; (try dsimp only at hSw); go_simp; try with_reducible rfl)); (try simp only [Act.put, sA, sB, sC])
          refine wpAnyH_take (i := 11) (v := ?_) (by simp only [gA, gB, gC]; rfl) (by kernel_rfl) (by kernel_rfl) (by kernel_rfl) (by exact fun _ _ _ h => h) (Or.inl ⟨by rfl, ?_⟩) (by assumption) ?_; rotate_left; (focus (intro w hSw; (try dsimp only at hSw); go_simp; try with_reducible rfl)); (try simp only [Act.put, sA, sB, sC])
          refine wpAnyH_take (i := 12) (v := ?_) (by simp only [gA, gB, gC]; rfl) (by kernel_rfl) (by kernel_rfl) (by kernel_rfl) (by exact fun _ _ _ h => h) (Or.inl ⟨by rfl, ?_⟩) (by assumption) ?_; rotate_left; (focus (intro w hSw; (try dsimp only at hSw); go_simp; try with_reducible rfl)); (try simp only [Act.put, sA, sB, sC])
          refine wpAnyH_take (i := 13) (v := ?_) (by simp only [gA, gB, gC]; rfl) (by kernel_rfl) (by kernel_rfl) (by kernel_rfl) (by exact fun _ _ _ h => h) (Or.inl ⟨by rfl, ?_⟩) (by assumption) ?_; rotate_left; (focus (intro w hSw; (try dsimp only at hSw); go_simp; try with_reducible rfl)); (try simp only [Act.put, sA, sB, sC])
          refine wpAnyH_ready (rs := [15]) (by kernel_rfl) (by simp) ?_
          refine AllReadyH.cons (by simp only [gA, gB, gC]; rfl) (fun K hK => ?_) AllReadyH.nil
          obtain ⟨W7, hW7, hth7, hs7, hk7⟩ := put_st (show StAt gz zeroC nilS w6 from ⟨rfl, hz⟩) (d := zeroC) rfl vA
          have hB7 := hk7 _ _ hgz hB
          have hS7 := hk7 _ _ hgS hS
          have hone7 := st_one zeroC vA hvA.one
          have hsz7 : (Try.prog.info? 33).map (·.size) = some (stCs zeroC vA).length := by rw [st_len (show (zeroC).ps.length = 4 from rfl)]; exact hszS
          refine step_store_rowC rfl _ _ rfl gz rfl (stCs zeroC vA) rfl hth7 hsz7 hone7 hW7 ?_
          (try simp only [Act.put, sA, sB, sC])
          refine hK.out _ _ (hS7) ?_
          clear hHeld hK
          intro hHeld
          (try simp only [Act.put, sA, sB, sC])
          refine wpAnyH_take (i := 16) (v := ?_) (by simp only [gA, gB, gC]; rfl) (by kernel_rfl) (by kernel_rfl) (by kernel_rfl) (by exact fun _ _ _ h => h) (Or.inl ⟨by rfl, ?_⟩) (by assumption) ?_; rotate_left; (focus (intro w hSw; (try dsimp only at hSw); go_simp; try with_reducible rfl)); (try simp only [Act.put, sA, sB, sC])
          refine wpAnyH_take (i := 17) (v := ?_) (by simp only [gA, gB, gC]; rfl) (by kernel_rfl) (by kernel_rfl) (by kernel_rfl) (by exact fun _ _ _ h => h) (Or.inl ⟨by rfl, ?_⟩) (by assumption) ?_; rotate_left; (focus (intro w hSw; (try dsimp only at hSw); go_simp; try with_reducible rfl)); (try simp only [Act.put, sA, sB, sC])
          refine wpAnyH_take (i := 18) (v := ?_) (by simp only [gA, gB, gC]; rfl) (by kernel_rfl) (by kernel_rfl) (by kernel_rfl) (by exact fun _ _ _ h => h) (Or.inl ⟨by rfl, ?_⟩) (by assumption) ?_; rotate_left; (focus (intro w hSw; (try dsimp only at hSw); go_simp; try with_reducible rfl)); (try simp only [Act.put, sA, sB, sC])
          refine wpAnyH_done (by kernel_rfl) ?_ _
          have z3 := hs7.a
          clear hs7 hW7 hth7 hk7 hone7 hsz7 hz hS7 hS hB
          go_wp2_with fail
          refine (kti W7).mono ?_
          rintro e W8 ⟨rfl, hb8⟩
          have z3 := (hb8.cell (World.block_lt_of_cell? _ _ z3)).trans z3
          have hB8 := Below.then hB7 hb8
          go_wp2_with fail
          go_ret
          exact ⟨rfl, hB8⟩
        refine AllReadyH.cons (by simp only [gA, gB, gC]; rfl) (fun K hK => ?_) AllReadyH.nil
        have hb := alloc_below w3 (.cells zS 33)
        have hz : BlkL w3.heap.size (stCs zeroC nilS) (w3.alloc (.cells zS 33)) := blkl_alloc w3 (stCs zeroC nilS).toArray 33
        have hgz := hB.size
        have hSz := hS.size
        refine step_allocC (z := zS) rfl rfl (fun _ => rfl) ?_
        (try simp only [Act.put, sA, sB, sC])
        refine hK.out _ _ (Below.then hS hb) ?_
        clear hHeld hK
        intro hHeld
        replace hB := Below.then hB hb
        replace hS := Below.then hS hb
        replace hxo := hxo.below hb
        replace hR := hR.below pg_len hb
        clear hb
        have hgS : Z.heap.size ≤ w3.heap.size := hSz
        generalize w3.alloc (.cells zS 33) = w4 at *
        generalize w3.heap.size = gz at *
        (try simp only [Act.put, sA, sB, sC])
        refine wpAnyH_ready (rs := [6]) (by kernel_rfl) (by simp) ?_
        refine AllReadyH.cons (by simp only [gA, gB, gC]; rfl) (fun K hK => ?_) AllReadyH.nil
        go_simp
        have hb : Below w4.heap.size w4 (w4.alloc (.cells #[.slice (some ⟨gG, 0, none⟩) 1 1, .bool false, .int .i64 0, .int .i64 0, .int .i64 0, .int .i64 0] 47)) := alloc_below w4 _
        have hm : BlkL w4.heap.size (memCs (.slice (some ⟨gG, 0, none⟩) 1 1) false 0 0 0 0) (w4.alloc (.cells #[.slice (some ⟨gG, 0, none⟩) 1 1, .bool false, .int .i64 0, .int .i64 0, .int .i64 0, .int .i64 0] 47)) := blkl_alloc w4 #[.slice (some ⟨gG, 0, none⟩) 1 1, .bool false, .int .i64 0, .int .i64 0, .int .i64 0, .int .i64 0] 47
        refine hK.out _ _ (Below.then hS hb) ?_
        clear hHeld hK
        intro hHeld
        replace hB := Below.then hB hb
        replace hS := Below.then hS hb
        replace hxo := hxo.below hb
        replace hR := hR.below pg_len hb
        replace hz := stab_blk _ _ _ _ hz hb
        have hM := MemO.of (by rw [hxg]; exact hok1) hxo hm ⟨hR, fun z hz => by rw [List.mem_singleton.1 hz]; exact own_at hxo⟩
        clear hb hm hR
        generalize w4.alloc (.cells #[.slice (some ⟨gG, 0, none⟩) 1 1, .bool false, .int .i64 0, .int .i64 0, .int .i64 0, .int .i64 0] 47) = w5 at *
        generalize w4.heap.size = bm at *
        (try simp only [Act.put, sA, sB, sC])
        refine wpAnyH_take (i := 7) (v := ?_) (by simp only [gA, gB, gC]; rfl) (by kernel_rfl) (by kernel_rfl) (by kernel_rfl) (by exact fun _ _ _ h => h) (Or.inl ⟨by rfl, ?_⟩) (by assumption) ?_; rotate_left; (focus (intro w hSw; (try dsimp only at hSw); go_simp; try with_reducible rfl)); (try simp only [Act.put, sA, sB, sC])
        refine wpAnyH_ready (rs := [8]) (by kernel_rfl) (by simp) ?_
        refine AllReadyH.cons (by simp only [gA, gB, gC]; rfl) (fun K hK => ?_) AllReadyH.nil
        go_simp
        go_at_call 17
        refine (cstepV { newC with a := a } hCok nilS hM (SV.nil _) (flt 36) (by rw [show [x].map (·.g) = [oneG [⟨13, 0, 0⟩] []] by simp [hxg]]; exact hst)).mono ?_
        rintro e w6 hP
        obtain ⟨vA, rfl, hoA, hb⟩ := hP.fltE
        have hvA := SV.own hoA
        replace hB := Below.then hB hb
        replace hS := Below.then hS hb
        replace hz := stab_blk _ _ _ _ hz hb
        clear hb hP hoA hM hxo
        refine hK.out _ _ (hS) ?_
        clear hHeld hK
        intro hHeld
        (try simp only [Act.put, sA, sB, sC])
        refine wpAnyH_take (i := 9) (v := ?_) (by simp only [gA, gB, gC]; rfl) (by kernel_rfl) (by kernel_rfl) (by kernel_rfl) (by exact fun _ _ _ h => h) (Or.inl ⟨by rfl, ?_⟩) (by assumption) ?_; rotate_left; (focus (intro w hSw; (try dsimp only at hSw); go_simp; try with_reducible rfl)); (try simp only [Act.put, sA, sB, sC])
        refine wpAnyH_take (i := 10) (v := ?_) (by simp only [gA, gB, gC]; rfl) (by kernel_rfl) (by kernel_rfl) (by kernel_rfl) (by exact fun _ _ _ h => h) (Or.inl ⟨by rfl, ?_⟩) (by assumption) ?_; rotate_left; (focus (intro w hSw; (try dsimp only at hSw); go_simp; try with_reducible rfl)); (try simp only [Act.put, sA, sB, sC])
        refine wpAnyH_take (i := 11) (v := ?_) (by simp only [gA, gB, gC]; rfl) (by kernel_rfl) (by kernel_rfl) (by kernel_rfl) (by exact fun _ _ _ h => h) (Or.inl ⟨by rfl, ?_⟩) (by assumption) ?_; rotate_left; (focus (intro w hSw; (try dsimp only at hSw); go_simp; try with_reducible rfl)); (try simp only [Act.put, sA, sB, sC])
        refine wpAnyH_take (i := 12) (v := ?_) (by simp only [gA, gB, gC]; rfl) (by kernel_rfl) (by kernel_rfl) (by kernel_rfl) (by exact fun _ _ _ h => h) (Or.inl ⟨by rfl, ?_⟩) (by assumption) ?_; rotate_left; (focus (intro w hSw; (try dsimp only at hSw); go_simp; try with_reducible rfl)); (try simp only [Act.put, sA, sB, sC])
        refine wpAnyH_take (i := 13) (v := ?_) (by simp only [gA, gB, gC]; rfl) (by kernel_rfl) (by kernel_rfl) (by kernel_rfl) (by exact fun _ _ _ h => h) (Or.inl ⟨by rfl, ?_⟩) (by assumption) ?_; rotate_left; (focus (intro w hSw; (try dsimp only at hSw); go_simp; try with_reducible rfl)); (try simp only [Act.put, sA, sB, sC])
        refine wpAnyH_ready (rs := [15]) (by kernel_rfl) (by simp) ?_
        refine AllReadyH.cons (by simp only [gA, gB, gC]; rfl) (fun K hK => ?_) AllReadyH.nil
        obtain ⟨W7, hW7, hth7, hs7, hk7⟩ := put_st (show StAt gz zeroC nilS w6 from ⟨rfl, hz⟩) (d := zeroC) rfl vA
        have hB7 := hk7 _ _ hgz hB
        have hS7 := hk7 _ _ hgS hS
        have hone7 := st_one zeroC vA hvA.one
        have hsz7 : (Try.prog.info? 33).map (·.size) = some (stCs zeroC vA).length := by rw [st_len (show (zeroC).ps.length = 4 from rfl)]; exact hszS
        refine step_store_rowC rfl _ _ rfl gz rfl (stCs zeroC vA) rfl hth7 hsz7 hone7 hW7 ?_
        (try simp only [Act.put, sA, sB, sC])
        refine hK.out _ _ (hS7) ?_
        clear hHeld hK
        intro hHeld
        (try simp only [Act.put, sA, sB, sC])
        refine wpAnyH_take (i := 16) (v := ?_) (by simp only [gA, gB, gC]; rfl) (by kernel_rfl) (by kernel_rfl) (by kernel_rfl) (by exact fun _ _ _ h => h) (Or.inl ⟨by rfl, ?_⟩) (by assumption) ?_; rotate_left; (focus (intro w hSw; (try dsimp only at hSw); go_simp; try with_reducible rfl)); (try simp only [Act.put, sA, sB, sC])
        refine wpAnyH_take (i := 17) (v := ?_) (by simp only [gA, gB, gC]; rfl) (by kernel_rfl) (by kernel_rfl) (by kernel_rfl) (by exact fun _ _ _ h => h) (Or.inl ⟨by rfl, ?_⟩) (by assumption) ?_; rotate_left; (focus (intro w hSw; (try dsimp only at hSw); go_simp; try with_reducible rfl)); (try simp only [Act.put, sA, sB, sC])
        refine wpAnyH_take (i := 18) (v := ?_) (by simp only [gA, gB, gC]; rfl) (by kernel_rfl) (by kernel_rfl) (by kernel_rfl) (by exact fun _ _ _ h => h) (Or.inl ⟨by rfl, ?_⟩) (by assumption) ?_; rotate_left; (focus (intro w hSw; (try dsimp only at hSw); go_simp; try with_reducible rfl)); (try simp only [Act.put, sA, sB, sC])
        refine wpAnyH_done (by kernel_rfl) ?_ _
        have z3 := hs7.a
        clear hs7 hW7 hth7 hk7 hone7 hsz7 hz hS7 hS hB
        go_wp2_with fail
        refine (kti W7).mono ?_
        rintro e W8 ⟨rfl, hb8⟩
        have z3 := (hb8.cell (World.block_lt_of_cell? _ _ z3)).trans z3
        have hB8 := Below.then hB7 hb8
        go_wp2_with fail
        go_ret
        exact ⟨rfl, hB8⟩
      refine AllReadyH.cons (by simp only [gA, gB, gC]; rfl) (fun K hK => ?_) AllReadyH.nil
      have hb := alloc_below w2 (.cells zS 33)
      have hz : BlkL w2.heap.size (stCs zeroC nilS) (w2.alloc (.cells zS 33)) := blkl_alloc w2 (stCs zeroC nilS).toArray 33
      have hgz := hB.size
      have hSz := hS.size
      refine step_allocC (z := zS) rfl rfl (fun _ => rfl) ?_
      (try simp only [Act.put, sA, sB, sC])
      refine hK.out _ _ (Below.then hS hb) ?_
      clear hHeld hK
      intro hHeld
      replace hB := Below.then hB hb
      replace hS := Below.then hS hb
      replace hxo := hxo.below hb
      clear hb
      have hgS : Z.heap.size ≤ w2.heap.size := hSz
      generalize w2.alloc (.cells zS 33) = w3 at *
      generalize w2.heap.size = gz at *
      (try simp only [Act.put, sA, sB, sC])
      refine wpAnyH_ready (rs := [4]) (by kernel_rfl) (by simp) ?_
      refine AllReadyH.cons (by simp only [gA, gB, gC]; rfl) (fun K hK => ?_) AllReadyH.nil
      have hb := alloc_below w3 (.cells x.cs.toArray 57)
      have hR := row_list pg_len w3 [x] x.cs.toArray (by simp) 57
      refine step_build1 pg_okC (by decide) rfl _ rfl x.cs rfl rfl ?_
      (try simp only [Act.put, sA, sB, sC])
      refine hK.out _ _ (Below.then hS hb) ?_
      clear hHeld hK
      intro hHeld
      replace hB := Below.then hB hb
      replace hS := Below.then hS hb
      replace hxo := hxo.below hb
      replace hz := stab_blk _ _ _ _ hz hb
      clear hb
      generalize w3.alloc (.cells x.cs.toArray 57) = w4 at *
      generalize w3.heap.size = gG at *
      (try simp only [Act.put, sA, sB, sC])
      refine wpAnyH_take (i := 5) (v := ?_) (by simp only [gA, gB, gC]; rfl) (by kernel_rfl) (by kernel_rfl) (by kernel_rfl) (by exact fun _ _ _ h => h) (Or.inl ⟨by rfl, ?_⟩) (by assumption) ?_; rotate_left; (focus (intro w hSw; (try dsimp only at hSw); go_simp; try with_reducible rfl)); (try simp only [Act.put, sA, sB, sC])
      refine wpAnyH_ready (rs := [6]) (by kernel_rfl) (by simp) ?_
      refine AllReadyH.cons (by simp only [gA, gB, gC]; rfl) (fun K hK => ?_) AllReadyH.nil
      go_simp
      have hb : Below w4.heap.size w4 (w4.alloc (.cells #[.slice (some ⟨gG, 0, none⟩) 1 1, .bool false, .int .i64 0, .int .i64 0, .int .i64 0, .int .i64 0] 47)) := alloc_below w4 _
      have hm : BlkL w4.heap.size (memCs (.slice (some ⟨gG, 0, none⟩) 1 1) false 0 0 0 0) (w4.alloc (.cells #[.slice (some ⟨gG, 0, none⟩) 1 1, .bool false, .int .i64 0, .int .i64 0, .int .i64 0, .int .i64 0] 47)) := blkl_alloc w4 #[.slice (some ⟨gG, 0, none⟩) 1 1, .bool false, .int .i64 0, .int .i64 0, .int .i64 0, .int .i64 0] 47
      refine hK.out _ _ (Below.then hS hb) ?_
      clear hHeld hK
      intro hHeld
      replace hB := Below.then hB hb
      replace hS := Below.then hS hb
      replace hxo := hxo.below hb
      replace hR := hR.below pg_len hb
      replace hz := stab_blk _ _ _ _ hz hb
      have hM := MemO.of (by rw [hxg]; exact hok1) hxo hm ⟨hR, fun z hz => by rw [List.mem_singleton.1 hz]; exact own_at hxo⟩
      clear hb hm hR
      generalize w4.alloc (.cells #[.slice (some ⟨gG, 0, none⟩) 1 1, .bool false, .int .i64 0, .int .i64 0, .int .i64 0, .int .i64 0] 47) = w5 at *
      generalize w4.heap.size = bm at *
      (try simp only [Act.put, sA, sB, sC])
      refine wpAnyH_take (i := 7) (v := ?_) (by simp only [gA, gB, gC]; rfl) (by kernel_rfl) (by kernel_rfl) (by kernel_rfl) (by exact fun _ _ _ h => h) (Or.inl ⟨by rfl, ?_⟩) (by assumption) ?_; rotate_left; (focus (intro w hSw; (try dsimp only at hSw); go_simp; try with_reducible rfl)); (try simp only [Act.put, sA, sB, sC])
      refine wpAnyH_ready (rs := [8]) (by kernel_rfl) (by simp) ?_
      refine AllReadyH.cons (by simp only [gA, gB, gC]; rfl) (fun K hK => ?_) AllReadyH.nil
      go_simp
      go_at_call 17
      refine (cstepV { newC with a := a } hCok nilS hM (SV.nil _) (flt 36) (by rw [show [x].map (·.g) = [oneG [⟨13, 0, 0⟩] []] by simp [hxg]]; exact hst)).mono ?_
      rintro e w6 hP
      obtain ⟨vA, rfl, hoA, hb⟩ := hP.fltE
      have hvA := SV.own hoA
      replace hB := Below.then hB hb
      replace hS := Below.then hS hb
      replace hz := stab_blk _ _ _ _ hz hb
      clear hb hP hoA hM hxo
      refine hK.out _ _ (hS) ?_
      clear hHeld hK
      intro hHeld
      (try simp only [Act.put, sA, sB, sC])
      refine wpAnyH_take (i := 9) (v := ?_) (by simp only [gA, gB, gC]; rfl) (by kernel_rfl) (by kernel_rfl) (by kernel_rfl) (by exact fun _ _ _ h => h) (Or.inl ⟨by rfl, ?_⟩) (by assumption) ?_; rotate_left; (focus (intro w hSw; (try dsimp only at hSw); go_simp; try with_reducible rfl)); (try simp only [Act.put, sA, sB, sC])
      refine wpAnyH_take (i := 10) (v := ?_) (by simp only [gA, gB, gC]; rfl) (by kernel_rfl) (by kernel_rfl) (by kernel_rfl) (by exact fun _ _ _ h => h) (Or.inl ⟨by rfl, ?_⟩) (by assumption) ?_; rotate_left; (focus (intro w hSw; (try dsimp only at hSw); go_simp; try with_reducible rfl)); (try simp only [Act.put, sA, sB, sC])
      refine wpAnyH_take (i := 11) (v := ?_) (by simp only [gA, gB, gC]; rfl) (by kernel_rfl) (by kernel_rfl) (by kernel_rfl) (by exact fun _ _ _ h => h) (Or.inl ⟨by rfl, ?_⟩) (by assumption) ?_; rotate_left; (focus (intro w hSw; (try dsimp only at hSw); go_simp; try with_reducible rfl)); (try simp only [Act.put, sA, sB, sC])
      refine wpAnyH_take (i := 12) (v := ?_) (by simp only [gA, gB, gC]; rfl) (by kernel_rfl) (by kernel_rfl) (by kernel_rfl) (by exact fun _ _ _ h => h) (Or.inl ⟨by rfl, ?_⟩) (by assumption) ?_; rotate_left; (focus (intro w hSw; (try dsimp only at hSw); go_simp; try with_reducible rfl)); (try simp only [Act.put, sA, sB, sC])
      refine wpAnyH_take (i := 13) (v := ?_) (by simp only [gA, gB, gC]; rfl) (by kernel_rfl) (by kernel_rfl) (by kernel_rfl) (by exact fun _ _ _ h => h) (Or.inl ⟨by rfl, ?_⟩) (by assumption) ?_; rotate_left; (focus (intro w hSw; (try dsimp only at hSw); go_simp; try with_reducible rfl)); (try simp only [Act.put, sA, sB, sC])
      refine wpAnyH_ready (rs := [15]) (by kernel_rfl) (by simp) ?_
      refine AllReadyH.cons (by simp only [gA, gB, gC]; rfl) (fun K hK => ?_) AllReadyH.nil
      obtain ⟨W7, hW7, hth7, hs7, hk7⟩ := put_st (show StAt gz zeroC nilS w6 from ⟨rfl, hz⟩) (d := zeroC) rfl vA
      have hB7 := hk7 _ _ hgz hB
      have hS7 := hk7 _ _ hgS hS
      have hone7 := st_one zeroC vA hvA.one
      have hsz7 : (Try.prog.info? 33).map (·.size) = some (stCs zeroC vA).length := by rw [st_len (show (zeroC).ps.length = 4 from rfl)]; exact hszS
      refine step_store_rowC rfl _ _ rfl gz rfl (stCs zeroC vA) rfl hth7 hsz7 hone7 hW7 ?_
      (try simp only [Act.put, sA, sB, sC])
      refine hK.out _ _ (hS7) ?_
      clear hHeld hK
      intro hHeld
      (try simp only [Act.put, sA, sB, sC])
      refine wpAnyH_take (i := 16) (v := ?_) (by simp only [gA, gB, gC]; rfl) (by kernel_rfl) (by kernel_rfl) (by kernel_rfl) (by exact fun _ _ _ h => h) (Or.inl ⟨by rfl, ?_⟩) (by assumption) ?_; rotate_left; (focus (intro w hSw; (try dsimp only at hSw); go_simp; try with_reducible rfl)); (try simp only [Act.put, sA, sB, sC])
      refine wpAnyH_take (i := 17) (v := ?_) (by simp only [gA, gB, gC]; rfl) (by kernel_rfl) (by kernel_rfl) (by kernel_rfl) (by exact fun _ _ _ h => h) (Or.inl ⟨by rfl, ?_⟩) (by assumption) ?_; rotate_left; (focus (intro w hSw; (try dsimp only at hSw); go_simp; try with_reducible rfl)); (try simp only [Act.put, sA, sB, sC])
      refine wpAnyH_take (i := 18) (v := ?_) (by simp only [gA, gB, gC]; rfl) (by kernel_rfl) (by kernel_rfl) (by kernel_rfl) (by exact fun _ _ _ h => h) (Or.inl ⟨by rfl, ?_⟩) (by assumption) ?_; rotate_left; (focus (intro w hSw; (try dsimp only at hSw); go_simp; try with_reducible rfl)); (try simp only [Act.put, sA, sB, sC])
      refine wpAnyH_done (by kernel_rfl) ?_ _
      have z3 := hs7.a
      clear hs7 hW7 hth7 hk7 hone7 hsz7 hz hS7 hS hB
      go_wp2_with fail
      refine (kti W7).mono ?_
      rintro e W8 ⟨rfl, hb8⟩
      have z3 := (hb8.cell (World.block_lt_of_cell? _ _ z3)).trans z3
      have hB8 := Below.then hB7 hb8
      go_wp2_with fail
      go_ret
      exact ⟨rfl, hB8⟩
    refine AllReadyH.cons (by simp only [gA, gB, gC]; rfl) (fun K hK => ?_) AllReadyH.nil
    have hb := alloc_below w1 (.cells zS 33)
    have hz : BlkL w1.heap.size (stCs zeroC nilS) (w1.alloc (.cells zS 33)) := blkl_alloc w1 (stCs zeroC nilS).toArray 33
    have hgz := hB.size
    have hSz := hS.size
    refine step_allocC (z := zS) rfl rfl (fun _ => rfl) ?_
    (try simp only [Act.put, sA, sB, sC])
    refine hK.out _ _ (Below.then hS hb) ?_
    clear hHeld hK
    intro hHeld
    replace hB := Below.then hB hb
    replace hS := Below.then hS hb
    replace hI := hI.below in_okC.len hb
    clear hb
    have hgS : Z.heap.size ≤ w1.heap.size := hSz
    generalize w1.alloc (.cells zS 33) = w2 at *
    generalize w1.heap.size = gz at *
    (try simp only [Act.put, sA, sB, sC])
    refine wpAnyH_ready (rs := [3]) (by kernel_rfl) (by simp) ?_
    refine AllReadyH.cons (by simp only [gA, gB, gC]; rfl) (fun K hK => ?_) AllReadyH.nil
    go_simp
    go_at_call 21
    refine (cone_any [⟨13, 0, 0⟩] [] (some ⟨gI, 0, none⟩) none 1 0 (by show 1 ≤ 100; decide) (by show 0 ≤ 100; decide) (fun _ => rfl) w2 hI (fun j y h => by simp at h)).mono ?_
    rintro e w3 ⟨x, hxg, rfl, hxo, hb⟩
    replace hB := Below.then hB hb
    replace hS := Below.then hS hb
    replace hz := stab_blk _ _ _ _ hz hb
    clear hb hI
    refine hK.out _ _ (hS) ?_
    clear hHeld hK
    intro hHeld
    (try simp only [Act.put, sA, sB, sC])
    refine wpAnyH_ready (rs := [4]) (by kernel_rfl) (by simp) ?_
    refine AllReadyH.cons (by simp only [gA, gB, gC]; rfl) (fun K hK => ?_) AllReadyH.nil
    have hb := alloc_below w3 (.cells x.cs.toArray 57)
    have hR := row_list pg_len w3 [x] x.cs.toArray (by simp) 57
    refine step_build1 pg_okC (by decide) rfl _ rfl x.cs rfl rfl ?_
    (try simp only [Act.put, sA, sB, sC])
    refine hK.out _ _ (Below.then hS hb) ?_
    clear hHeld hK
    intro hHeld
    replace hB := Below.then hB hb
    replace hS := Below.then hS hb
    replace hxo := hxo.below hb
    replace hz := stab_blk _ _ _ _ hz hb
    clear hb
    generalize w3.alloc (.cells x.cs.toArray 57) = w4 at *
    generalize w3.heap.size = gG at *
    (try simp only [Act.put, sA, sB, sC])
    refine wpAnyH_take (i := 5) (v := ?_) (by simp only [gA, gB, gC]; rfl) (by kernel_rfl) (by kernel_rfl) (by kernel_rfl) (by exact fun _ _ _ h => h) (Or.inl ⟨by rfl, ?_⟩) (by assumption) ?_; rotate_left; (focus (intro w hSw; (try dsimp only at hSw); go_simp; try with_reducible rfl)); (try simp only [Act.put, sA, sB, sC])
    refine wpAnyH_ready (rs := [6]) (by kernel_rfl) (by simp) ?_
    refine AllReadyH.cons (by simp only [gA, gB, gC]; rfl) (fun K hK => ?_) AllReadyH.nil
    go_simp
    have hb : Below w4.heap.size w4 (w4.alloc (.cells #[.slice (some ⟨gG, 0, none⟩) 1 1, .bool false, .int .i64 0, .int .i64 0, .int .i64 0, .int .i64 0] 47)) := alloc_below w4 _
    have hm : BlkL w4.heap.size (memCs (.slice (some ⟨gG, 0, none⟩) 1 1) false 0 0 0 0) (w4.alloc (.cells #[.slice (some ⟨gG, 0, none⟩) 1 1, .bool false, .int .i64 0, .int .i64 0, .int .i64 0, .int .i64 0] 47)) := blkl_alloc w4 #[.slice (some ⟨gG, 0, none⟩) 1 1, .bool false, .int .i64 0, .int .i64 0, .int .i64 0, .int .i64 0] 47
    refine hK.out _ _ (Below.then hS hb) ?_
    clear hHeld hK
    intro hHeld
    replace hB := Below.then hB hb
    replace hS := Below.then hS hb
    replace hxo := hxo.below hb
    replace hR := hR.below pg_len hb
    replace hz := stab_blk _ _ _ _ hz hb
    have hM := MemO.of (by rw [hxg]; exact hok1) hxo hm ⟨hR, fun z hz => by rw [List.mem_singleton.1 hz]; exact own_at hxo⟩
    clear hb hm hR
    generalize w4.alloc (.cells #[.slice (some ⟨gG, 0, none⟩) 1 1, .bool false, .int .i64 0, .int .i64 0, .int .i64 0, .int .i64 0] 47) = w5 at *
    generalize w4.heap.size = bm at *
    (try simp only [Act.put, sA, sB, sC])
    refine wpAnyH_take (i := 7) (v := ?_) (by simp only [gA, gB, gC]; rfl) (by kernel_rfl) (by kernel_rfl) (by kernel_rfl) (by exact fun _ _ _ h => h) (Or.inl ⟨by rfl, ?_⟩) (by assumption) ?_; rotate_left; (focus (intro w hSw; (try dsimp only at hSw); go_simp; try with_reducible rfl)); (try simp only [Act.put, sA, sB, sC])
    refine wpAnyH_ready (rs := [8]) (by kernel_rfl) (by simp) ?_
    refine AllReadyH.cons (by simp only [gA, gB, gC]; rfl) (fun K hK => ?_) AllReadyH.nil
    go_simp
    go_at_call 17
    refine (cstepV { newC with a := a } hCok nilS hM (SV.nil _) (flt 36) (by rw [show [x].map (·.g) = [oneG [⟨13, 0, 0⟩] []] by simp [hxg]]; exact hst)).mono ?_
    rintro e w6 hP
    obtain ⟨vA, rfl, hoA, hb⟩ := hP.fltE
    have hvA := SV.own hoA
    replace hB := Below.then hB hb
    replace hS := Below.then hS hb
    replace hz := stab_blk _ _ _ _ hz hb
    clear hb hP hoA hM hxo
    refine hK.out _ _ (hS) ?_
    clear hHeld hK
    intro hHeld
    (try simp only [Act.put, sA, sB, sC])
    refine wpAnyH_take (i := 9) (v := ?_) (by simp only [gA, gB, gC]; rfl) (by kernel_rfl) (by kernel_rfl) (by kernel_rfl) (by exact fun _ _ _ h => h) (Or.inl ⟨by rfl, ?_⟩) (by assumption) ?_; rotate_left; (focus (intro w hSw; (try dsimp only at hSw); go_simp; try with_reducible rfl)); (try simp only [Act.put, sA, sB, sC])
    refine wpAnyH_take (i := 10) (v := ?_) (by simp only [gA, gB, gC]; rfl) (by kernel_rfl) (by kernel_rfl) (by kernel_rfl) (by exact fun _ _ _ h => h) (Or.inl ⟨by rfl, ?_⟩) (by assumption) ?_; rotate_left; (focus (intro w hSw; (try dsimp only at hSw); go_simp; try with_reducible rfl)); (try simp only [Act.put, sA, sB, sC])
    refine wpAnyH_take (i := 11) (v := ?_) (by simp only [gA, gB, gC]; rfl) (by kernel_rfl) (by kernel_rfl) (by kernel_rfl) (by exact fun _ _ _ h => h) (Or.inl ⟨by rfl, ?_⟩) (by assumption) ?_; rotate_left; (focus (intro w hSw; (try dsimp only at hSw); go_simp; try with_reducible rfl)); (try simp only [Act.put, sA, sB, sC])
    refine wpAnyH_take (i := 12) (v := ?_) (by simp only [gA, gB, gC]; rfl) (by kernel_rfl) (by kernel_rfl) (by kernel_rfl) (by exact fun _ _ _ h => h) (Or.inl ⟨by rfl, ?_⟩) (by assumption) ?_; rotate_left; (focus (intro w hSw; (try dsimp only at hSw); go_simp; try with_reducible rfl)); (try simp only [Act.put, sA, sB, sC])
    refine wpAnyH_take (i := 13) (v := ?_) (by simp only [gA, gB, gC]; rfl) (by kernel_rfl) (by kernel_rfl) (by kernel_rfl) (by exact fun _ _ _ h => h) (Or.inl ⟨by rfl, ?_⟩) (by assumption) ?_; rotate_left; (focus (intro w hSw; (try dsimp only at hSw); go_simp; try with_reducible rfl)); (try simp only [Act.put, sA, sB, sC])
    refine wpAnyH_ready (rs := [15]) (by kernel_rfl) (by simp) ?_
    refine AllReadyH.cons (by simp only [gA, gB, gC]; rfl) (fun K hK => ?_) AllReadyH.nil
    obtain ⟨W7, hW7, hth7, hs7, hk7⟩ := put_st (show StAt gz zeroC nilS w6 from ⟨rfl, hz⟩) (d := zeroC) rfl vA
    have hB7 := hk7 _ _ hgz hB
    have hS7 := hk7 _ _ hgS hS
    have hone7 := st_one zeroC vA hvA.one
    have hsz7 : (Try.prog.info? 33).map (·.size) = some (stCs zeroC vA).length := by rw [st_len (show (zeroC).ps.length = 4 from rfl)]; exact hszS
    refine step_store_rowC rfl _ _ rfl gz rfl (stCs zeroC vA) rfl hth7 hsz7 hone7 hW7 ?_
    (try simp only [Act.put, sA, sB, sC])
    refine hK.out _ _ (hS7) ?_
    clear hHeld hK
    intro hHeld
    (try simp only [Act.put, sA, sB, sC])
    refine wpAnyH_take (i := 16) (v := ?_) (by simp only [gA, gB, gC]; rfl) (by kernel_rfl) (by kernel_rfl) (by kernel_rfl) (by exact fun _ _ _ h => h) (Or.inl ⟨by rfl, ?_⟩) (by assumption) ?_; rotate_left; (focus (intro w hSw; (try dsimp only at hSw); go_simp; try with_reducible rfl)); (try simp only [Act.put, sA, sB, sC])
    refine wpAnyH_take (i := 17) (v := ?_) (by simp only [gA, gB, gC]; rfl) (by kernel_rfl) (by kernel_rfl) (by kernel_rfl) (by exact fun _ _ _ h => h) (Or.inl ⟨by rfl, ?_⟩) (by assumption) ?_; rotate_left; (focus (intro w hSw; (try dsimp only at hSw); go_simp; try with_reducible rfl)); (try simp only [Act.put, sA, sB, sC])
    refine wpAnyH_take (i := 18) (v := ?_) (by simp only [gA, gB, gC]; rfl) (by kernel_rfl) (by kernel_rfl) (by kernel_rfl) (by exact fun _ _ _ h => h) (Or.inl ⟨by rfl, ?_⟩) (by assumption) ?_; rotate_left; (focus (intro w hSw; (try dsimp only at hSw); go_simp; try with_reducible rfl)); (try simp only [Act.put, sA, sB, sC])
    refine wpAnyH_done (by kernel_rfl) ?_ _
    have z3 := hs7.a
    clear hs7 hW7 hth7 hk7 hone7 hsz7 hz hS7 hS hB
    go_wp2_with fail
    refine (kti W7).mono ?_
    rintro e W8 ⟨rfl, hb8⟩
    have z3 := (hb8.cell (World.block_lt_of_cell? _ _ z3)).trans z3
    have hB8 := Below.then hB7 hb8
    go_wp2_with fail
    go_ret
    exact ⟨rfl, hB8⟩
  refine AllReadyH.cons (by simp only [gA, gB, gC]; rfl) (fun K hK => ?_) AllReadyH.nil
  have hb := alloc_below w0 (.cells zS 33)
  have hz : BlkL w0.heap.size (stCs zeroC nilS) (w0.alloc (.cells zS 33)) := blkl_alloc w0 (stCs zeroC nilS).toArray 33
  have hgz := hB.size
  have hSz := hS.size
  refine step_allocC (z := zS) rfl rfl (fun _ => rfl) ?_
  (try simp only [Act.put, sA, sB, sC])
  refine hK.out _ _ (Below.then hS hb) ?_
  clear hHeld hK
  intro hHeld
  replace hB := Below.then hB hb
  replace hS := Below.then hS hb
  clear hb
  have hgS : Z.heap.size ≤ w0.heap.size := hSz
  generalize w0.alloc (.cells zS 33) = w1 at *
  generalize w0.heap.size = gz at *
  (try simp only [Act.put, sA, sB, sC])
  refine wpAnyH_ready (rs := [2]) (by kernel_rfl) (by simp) ?_
  refine AllReadyH.cons (by simp only [gA, gB, gC]; rfl) (fun K hK => ?_) AllReadyH.nil
  have hb := alloc_below w1 (.cells (ins3 ⟨13, 0, 0⟩).toArray 64)
  have hI := row_list (f := ins3) (sz := 3) (fun _ => rfl) w1 [⟨13, 0, 0⟩] (ins3 ⟨13, 0, 0⟩).toArray (by simp) 64
  refine step_build1 in_okC (by decide) rfl _ rfl (ins3 ⟨13, 0, 0⟩) rfl rfl ?_
  (try simp only [Act.put, sA, sB, sC])
  refine hK.out _ _ (Below.then hS hb) ?_
  clear hHeld hK
  intro hHeld
  replace hB := Below.then hB hb
  replace hS := Below.then hS hb
  replace hz := stab_blk _ _ _ _ hz hb
  clear hb
  generalize w1.alloc (.cells (ins3 ⟨13, 0, 0⟩).toArray 64) = w2 at *
  generalize w1.heap.size = gI at *
  (try simp only [Act.put, sA, sB, sC])
  refine wpAnyH_ready (rs := [3]) (by kernel_rfl) (by simp) ?_
  refine AllReadyH.cons (by simp only [gA, gB, gC]; rfl) (fun K hK => ?_) AllReadyH.nil
  go_simp
  go_at_call 21
  refine (cone_any [⟨13, 0, 0⟩] [] (some ⟨gI, 0, none⟩) none 1 0 (by show 1 ≤ 100; decide) (by show 0 ≤ 100; decide) (fun _ => rfl) w2 hI (fun j y h => by simp at h)).mono ?_
  rintro e w3 ⟨x, hxg, rfl, hxo, hb⟩
  replace hB := Below.then hB hb
  replace hS := Below.then hS hb
  replace hz := stab_blk _ _ _ _ hz hb
  clear hb hI
  refine hK.out _ _ (hS) ?_
  clear hHeld hK
  intro hHeld
  (try simp only [Act.put, sA, sB, sC])
  refine wpAnyH_ready (rs := [4]) (by kernel_rfl) (by simp) ?_
  refine AllReadyH.cons (by simp only [gA, gB, gC]; rfl) (fun K hK => ?_) AllReadyH.nil
  have hb := alloc_below w3 (.cells x.cs.toArray 57)
  have hR := row_list pg_len w3 [x] x.cs.toArray (by simp) 57
  refine step_build1 pg_okC (by decide) rfl _ rfl x.cs rfl rfl ?_
  (try simp only [Act.put, sA, sB, sC])
  refine hK.out _ _ (Below.then hS hb) ?_
  clear hHeld hK
  intro hHeld
  replace hB := Below.then hB hb
  replace hS := Below.then hS hb
  replace hxo := hxo.below hb
  replace hz := stab_blk _ _ _ _ hz hb
  clear hb
  generalize w3.alloc (.cells x.cs.toArray 57) = w4 at *
  generalize w3.heap.size = gG at *
  (try simp only [Act.put, sA, sB, sC])
  refine wpAnyH_take (i := 5) (v := ?_) (by simp only [gA, gB, gC]; rfl) (by kernel_rfl) (by kernel_rfl) (by kernel_rfl) (by exact fun _ _ _ h => h) (Or.inl ⟨by rfl, ?_⟩) (by assumption) ?_; rotate_left; (focus (intro w hSw; (try dsimp only at hSw); go_simp; try with_reducible rfl)); (try simp only [Act.put, sA, sB, sC])
  refine wpAnyH_ready (rs := [6]) (by kernel_rfl) (by simp) ?_
  refine AllReadyH.cons (by simp only [gA, gB, gC]; rfl) (fun K hK => ?_) AllReadyH.nil
  go_simp
  have hb : Below w4.heap.size w4 (w4.alloc (.cells #[.slice (some ⟨gG, 0, none⟩) 1 1, .bool false, .int .i64 0, .int .i64 0, .int .i64 0, .int .i64 0] 47)) := alloc_below w4 _
  have hm : BlkL w4.heap.size (memCs (.slice (some ⟨gG, 0, none⟩) 1 1) false 0 0 0 0) (w4.alloc (.cells #[.slice (some ⟨gG, 0, none⟩) 1 1, .bool false, .int .i64 0, .int .i64 0, .int .i64 0, .int .i64 0] 47)) := blkl_alloc w4 #[.slice (some ⟨gG, 0, none⟩) 1 1, .bool false, .int .i64 0, .int .i64 0, .int .i64 0, .int .i64 0] 47
  refine hK.out _ _ (Below.then hS hb) ?_
  clear hHeld hK
  intro hHeld
  replace hB := Below.then hB hb
  replace hS := Below.then hS hb
  replace hxo := hxo.below hb
  replace hR := hR.below pg_len hb
  replace hz := stab_blk _ _ _ _ hz hb
  have hM := MemO.of (by rw [hxg]; exact hok1) hxo hm ⟨hR, fun z hz => by rw [List.mem_singleton.1 hz]; exact own_at hxo⟩
  clear hb hm hR
  generalize w4.alloc (.cells #[.slice (some ⟨gG, 0, none⟩) 1 1, .bool false, .int .i64 0, .int .i64 0, .int .i64 0, .int .i64 0] 47) = w5 at *
  generalize w4.heap.size = bm at *
  (try simp only [Act.put, sA, sB, sC])
  refine wpAnyH_take (i := 7) (v := ?_) (by simp only [gA, gB, gC]; rfl) (by kernel_rfl) (by kernel_rfl) (by kernel_rfl) (by exact fun _ _ _ h => h) (Or.inl ⟨by rfl, ?_⟩) (by assumption) ?_; rotate_left; (focus (intro w hSw; (try dsimp only at hSw); go_simp; try with_reducible rfl)); (try simp only [Act.put, sA, sB, sC])
  refine wpAnyH_ready (rs := [8]) (by kernel_rfl) (by simp) ?_
  refine AllReadyH.cons (by simp only [gA, gB, gC]; rfl) (fun K hK => ?_) AllReadyH.nil
  go_simp
  go_at_call 17
  refine (cstepV { newC with a := a } hCok nilS hM (SV.nil _) (flt 36) (by rw [show [x].map (·.g) = [oneG [⟨13, 0, 0⟩] []] by simp [hxg]]; exact hst)).mono ?_
  rintro e w6 hP
  obtain ⟨vA, rfl, hoA, hb⟩ := hP.fltE
  have hvA := SV.own hoA
  replace hB := Below.then hB hb
  replace hS := Below.then hS hb
  replace hz := stab_blk _ _ _ _ hz hb
  clear hb hP hoA hM hxo
  refine hK.out _ _ (hS) ?_
  clear hHeld hK
  intro hHeld
  (try simp only [Act.put, sA, sB, sC])
  refine wpAnyH_take (i := 9) (v := ?_) (by simp only [gA, gB, gC]; rfl) (by kernel_rfl) (by kernel_rfl) (by kernel_rfl) (by exact fun _ _ _ h => h) (Or.inl ⟨by rfl, ?_⟩) (by assumption) ?_; rotate_left; (focus (intro w hSw; (try dsimp only at hSw); go_simp; try with_reducible rfl)); (try simp only [Act.put, sA, sB, sC])
  refine wpAnyH_take (i := 10) (v := ?_) (by simp only [gA, gB, gC]; rfl) (by kernel_rfl) (by kernel_rfl) (by kernel_rfl) (by exact fun _ _ _ h => h) (Or.inl ⟨by rfl, ?_⟩) (by assumption) ?_; rotate_left; (focus (intro w hSw; (try dsimp only at hSw); go_simp; try with_reducible rfl)); (try simp only [Act.put, sA, sB, sC])
  refine wpAnyH_take (i := 11) (v := ?_) (by simp only [gA, gB, gC]; rfl) (by kernel_rfl) (by kernel_rfl) (by kernel_rfl) (by exact fun _ _ _ h => h) (Or.inl ⟨by rfl, ?_⟩) (by assumption) ?_; rotate_left; (focus (intro w hSw; (try dsimp only at hSw); go_simp; try with_reducible rfl)); (try simp only [Act.put, sA, sB, sC])
  refine wpAnyH_take (i := 12) (v := ?_) (by simp only [gA, gB, gC]; rfl) (by kernel_rfl) (by kernel_rfl) (by kernel_rfl) (by exact fun _ _ _ h => h) (Or.inl ⟨by rfl, ?_⟩) (by assumption) ?_; rotate_left; (focus (intro w hSw; (try dsimp only at hSw); go_simp; try with_reducible rfl)); (try simp only [Act.put, sA, sB, sC])
  refine wpAnyH_take (i := 13) (v := ?_) (by simp only [gA, gB, gC]; rfl) (by kernel_rfl) (by kernel_rfl) (by kernel_rfl) (by exact fun _ _ _ h => h) (Or.inl ⟨by rfl, ?_⟩) (by assumption) ?_; rotate_left; (focus (intro w hSw; (try dsimp only at hSw); go_simp; try with_reducible rfl)); (try simp only [Act.put, sA, sB, sC])
  refine wpAnyH_ready (rs := [15]) (by kernel_rfl) (by simp) ?_
  refine AllReadyH.cons (by simp only [gA, gB, gC]; rfl) (fun K hK => ?_) AllReadyH.nil
  obtain ⟨W7, hW7, hth7, hs7, hk7⟩ := put_st (show StAt gz zeroC nilS w6 from ⟨rfl, hz⟩) (d := zeroC) rfl vA
  have hB7 := hk7 _ _ hgz hB
  have hS7 := hk7 _ _ hgS hS
  have hone7 := st_one zeroC vA hvA.one
  have hsz7 : (Try.prog.info? 33).map (·.size) = some (stCs zeroC vA).length := by rw [st_len (show (zeroC).ps.length = 4 from rfl)]; exact hszS
  refine step_store_rowC rfl _ _ rfl gz rfl (stCs zeroC vA) rfl hth7 hsz7 hone7 hW7 ?_
  (try simp only [Act.put, sA, sB, sC])
  refine hK.out _ _ (hS7) ?_
  clear hHeld hK
  intro hHeld
  (try simp only [Act.put, sA, sB, sC])
  refine wpAnyH_take (i := 16) (v := ?_) (by simp only [gA, gB, gC]; rfl) (by kernel_rfl) (by kernel_rfl) (by kernel_rfl) (by exact fun _ _ _ h => h) (Or.inl ⟨by rfl, ?_⟩) (by assumption) ?_; rotate_left; (focus (intro w hSw; (try dsimp only at hSw); go_simp; try with_reducible rfl)); (try simp only [Act.put, sA, sB, sC])
  refine wpAnyH_take (i := 17) (v := ?_) (by simp only [gA, gB, gC]; rfl) (by kernel_rfl) (by kernel_rfl) (by kernel_rfl) (by exact fun _ _ _ h => h) (Or.inl ⟨by rfl, ?_⟩) (by assumption) ?_; rotate_left; (focus (intro w hSw; (try dsimp only at hSw); go_simp; try with_reducible rfl)); (try simp only [Act.put, sA, sB, sC])
  refine wpAnyH_take (i := 18) (v := ?_) (by simp only [gA, gB, gC]; rfl) (by kernel_rfl) (by kernel_rfl) (by kernel_rfl) (by exact fun _ _ _ h => h) (Or.inl ⟨by rfl, ?_⟩) (by assumption) ?_; rotate_left; (focus (intro w hSw; (try dsimp only at hSw); go_simp; try with_reducible rfl)); (try simp only [Act.put, sA, sB, sC])
  refine wpAnyH_done (by kernel_rfl) ?_ _
  have z3 := hs7.a
  clear hs7 hW7 hth7 hk7 hone7 hsz7 hz hS7 hS hB
  go_wp2_with fail
  refine (kti W7).mono ?_
  rintro e W8 ⟨rfl, hb8⟩
  have z3 := (hb8.cell (World.block_lt_of_cell? _ _ z3)).trans z3
  have hB8 := Below.then hB7 hb8
  go_wp2_with fail
  go_ret
  exact ⟨rfl, hB8⟩
theorem cpuConverts_walk (a : Int) (fix : Bool) (ha : fit64 a) (w : World) :
    Calls Try.prog 8 #[.int .i64 a, .bool fix] w fun e w' => e = .returned (.bool true) ∧ Below w.heap.size w w' := by
  cases fix with
  | false => exact cpuConvA a _ rfl ha w
  | true =>
    by_cases h : toE a = 0
    · exact cpuConvB a _ rfl h ha w
    · exact cpuConvC a _ rfl h ha w
end Go.Proofs.Ytinibccphecdfaa
