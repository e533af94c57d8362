/-
  CpuJumps, walked. Written by mk_cpujumps.py.
-/
import Derived.Test.YtinibccphecdfabPt3
namespace Go.Proofs.Ytinibccphecdfab
open Go.RowKit
set_option maxRecDepth 8000
set_option linter.unusedSimpArgs false
set_option linter.unusedVariables false

theorem jmp_step (a o n : Int) (h0 : 14 ≤ o) (h1 : o ≤ 16) (n0 : -2147483648 ≤ n) (n1 : n ≤ 2147483647) : stepC { newC with a := a } [oneG [⟨o, 0, n⟩] []] = okC (jmpC { newC with a := a, off := 1 } ⟨o, 0, n⟩) := by
  have hi : insE ⟨o, 0, n⟩ = 0 := insE_zero.2 ⟨⟨by show 0 ≤ o; omega, by show o ≤ 22; omega⟩, by show (0 : Int) ≤ 0; decide, by show (0 : Int) ≤ 3; decide, n0, n1⟩
  have hs := step_of (c := { newC with a := a }) (m := [oneG [⟨o, 0, n⟩] []]) (g := oneG [⟨o, 0, n⟩] []) (i := ⟨o, 0, n⟩) rfl rfl rfl (show hasM 7 4 = true by decide +kernel) (show mayX ⟨4, 4, 4, 0⟩ 4 = true by decide +kernel) ⟨by show (0 : Int) ≤ 0; decide, by show (0 : Int) < ((1 : Nat) : Int); decide⟩ rfl hi
  have hg : (mSeg { newC with a := a } [oneG [⟨o, 0, n⟩] []] ⟨o, 0, n⟩).Ok := kn_ok (fun g hg => by rw [List.mem_singleton.1 hg]; exact one_ok (fun z hz => by simp at hz) (by show 1 + 0 ≤ 1000; decide)) _
  rw [hs, op_eq hg hi]
  unfold opD
  rw [if_neg (by show ¬ o = 0; omega), if_neg (by show ¬ (o = 1 ∨ 4 ≤ o ∧ o ≤ 11); omega), if_neg (by show ¬ o = 2; omega), if_neg (by show ¬ o = 3; omega), if_neg (by show ¬ o = 12; omega), if_neg (by show ¬ o = 13; omega), if_pos (by show 14 ≤ o ∧ o ≤ 16; omega)]
  rfl
set_option maxRecDepth 8000 in
set_option maxHeartbeats 8000000 in
theorem cpuJumpsA (a op n NN : Int) (hk : op % 3 = 0) (hN : n % 1048576 - 524288 = NN)  (ha : fit64 a) (w : World) :
    Calls Try.prog 3 #[.int .i64 a, .int .i64 op, .int .i64 n] w fun e w' => e = .returned (.bool true) ∧ Below w.heap.size w w' := by
  have hundS := Try.underlying29
  have hszS : (Try.prog.info? 29).map (·.size) = some 18 := by kernel_rfl
  have hszC : (Try.prog.info? 29).map (·.size) = some (stCs { newC with a := a } nilS).length := hszS
  have hmi : ∀ (v : Value) (w : World), (Instr.makeInterface 34 v).run Try.prog w = .ok (.iface 34 v) w := fun _ _ => rfl
  have kw := fun W : World => w16_any op 3 (by decide) (by decide) W
  simp only [hk] at kw
  have kn := fun W : World => w16_any n 1048576 (by decide) (by decide) W
  have hn0 := Int.emod_nonneg n (by decide : (1048576 : Int) ≠ 0)
  have hn1 := Int.emod_lt_of_pos n (by decide : (0 : Int) < 1048576)
  have hst0 := jmp_step a 14 NN (by decide) (by decide) (by omega) (by omega)
  have hst : stepC { newC with a := a } [oneG [⟨14, 0, NN⟩] []] = okC { newC with a := a, off := NN } := by
    rw [hst0]
    exact congrArg okC (if_pos (.inl rfl))
  have hwr : IntKind.i64.wrap (n % 1048576 - 524288) = NN := by rw [IntKind.wrap_i64]; omega
  have hok1 : (oneG [⟨14, 0, NN⟩] []).Ok := one_ok (fun z hz => by simp at hz) (by show 1 + 0 ≤ 1000; decide)
  have hCok : Cp.Ok { newC with a := a } := ⟨rfl, newC_ok.pp, newC_ok.ring, ha, newC_ok.st, newC_ok.sr⟩
  generalize n % 1048576 = nm at *
  replace hN : Aside (nm - 524288 = NN) := hN
  clear hk hst0 hn0 hn1
  go_enter Try.func3, Try.ntmps3
  go_wp2_with fail
  refine (ck_any w).mono ?_
  rintro e W1 ⟨rfl, hB1⟩
  go_wp2_with fail
  refine (kw W1).mono ?_
  rintro e W2 ⟨rfl, hw2⟩
  rw [hw2]
  go_wp2_with fail
  refine (kn W1).mono ?_
  rintro e W3 ⟨rfl, hw3⟩
  rw [hw3]
  clear kw kn hw2 hw3 W2 W3
  go_wp2_with fail
  refine (cnew_any W1).mono ?_
  rintro e W6 ⟨rfl, hb6⟩
  obtain ⟨W7, hW7, hth7, hs7, hb7⟩ := new_stC W6 newC rfl nilS
  have hB6 := Below.then hB1 hb6
  have y3 := hs7.a
  have yf := (hs7.blk.1 3 _ rfl).2
  have hs0 : StAt W6.heap.size { newC with a := a } nilS (W7.setCell ⟨W6.heap.size, 3, none⟩ (.int .i64 a)) := by
    have h1 := hs7.blk.1.set 3 (.int .i64 a) (by show 3 < 18; decide)
    exact ⟨rfl, h1, h1.lt rfl⟩
  have hB0 := (Below.then hB6 hb7).setCell (p := ⟨W6.heap.size, 3, none⟩) hB6.size (.int .i64 a)
  have hone7 : ∀ u ∈ stCs newC nilS, u.oneCell' = true := st_one _ _ rfl
  have hsz7 : (Try.prog.info? 29).map (·.size) = some (stCs newC nilS).length := by kernel_rfl
  obtain ⟨Y, hY⟩ : ∃ Y, stCs newC nilS = Y := ⟨_, rfl⟩
  rw [hY] at hW7 hth7 hone7 hsz7
  have hYv : Aside (.agg (stCs newC nilS).toArray = Value.agg Y.toArray) := by rw [hY]; exact rfl
  clear hY hb6 hb7 hs7 hB6
  go_upto_region 6 with (first | (refine wpList_store_row rfl _ _ rfl W6.heap.size rfl Y hYv.out hth7 hsz7 hone7 hW7 ?_) | fail)
  clear hW7 hth7 hone7 hsz7 hYv y3 yf
  generalize W7.setCell ⟨W6.heap.size, 3, none⟩ (.int .i64 a) = Z at *
  generalize W6.heap.size = bs at *
  have hS := (Below.refl Z.heap.size Z).drew
  have hB := Below.then hB0 hS
  clear hB0
  refine wp_region_held_drew (S := (fun W => Below Z.heap.size Z W)) (by kernel_rfl) (by exact hS) ?_
  intro hHeld
  generalize Z.drew = w0 at *
  refine wpAnyH_take (i := 0) (v := _) (by simp only [gA, gB, gC]; rfl) (by kernel_rfl) (by kernel_rfl) (by kernel_rfl) (by exact fun _ _ _ h => h) (yields_row (by rfl) _ rfl bs rfl (stCs { newC with a := a } nilS) (fun _ q => (hs0.keep q).blk.range) hundS rfl hszC) (by assumption) ?_; (try simp only [Act.put, sA, sB, sC])
  refine wpAnyH_take (i := 1) (v := ?_) (by simp only [gA, gB, gC]; rfl) (by kernel_rfl) (by kernel_rfl) (by kernel_rfl) (by exact fun _ _ _ h => h) (Or.inl ⟨by rfl, ?_⟩) (by assumption) ?_; rotate_left; (focus (intro w hSw; (try dsimp only at hSw); go_simp; try with_reducible rfl)); (try simp only [Act.put, sA, sB, sC])
  refine wpAnyH_take (i := 2) (v := ?_) (by simp only [gA, gB, gC]; rfl) (by kernel_rfl) (by kernel_rfl) (by kernel_rfl) (by exact fun _ _ _ h => h) (Or.inl ⟨by rfl, ?_⟩) (by assumption) ?_; rotate_left; (focus (intro w hSw; (try dsimp only at hSw); go_simp; try with_reducible rfl)); (try simp only [Act.put, sA, sB, sC])
  refine wpAnyH_take (i := 3) (v := ?_) (by simp only [gA, gB, gC]; rfl) (by kernel_rfl) (by kernel_rfl) (by kernel_rfl) (by exact fun _ _ _ h => h) (Or.inl ⟨by rfl, ?_⟩) (by assumption) ?_; rotate_left; (focus (intro w hSw; (try dsimp only at hSw); go_simp; try with_reducible rfl)); (try simp only [Act.put, sA, sB, sC])
  refine wpAnyH_ready (rs := [4, 16]) (by kernel_rfl) (by simp) ?_
  refine AllReadyH.cons (by simp only [gA, gB, gC]; rfl) (fun K hK => ?_) ?_
  · skip
    have hb := alloc_below w0 (.cells (ins3 ⟨14, 0, NN⟩).toArray 42)
    have hI := row_list (f := ins3) (sz := 3) (fun _ => rfl) w0 [⟨14, 0, NN⟩] (ins3 ⟨14, 0, NN⟩).toArray (by simp) 42
    refine step_build1 in_okC (by decide) rfl _ rfl (ins3 ⟨14, 0, NN⟩) rfl rfl ?_
    (try simp only [Act.put, sA, sB, sC])
    refine hK.out _ _ (Below.then hS hb) ?_
    clear hHeld hK
    intro hHeld
    replace hB := Below.then hB hb
    replace hS := Below.then hS hb
    clear hb
    generalize w0.alloc (.cells (ins3 ⟨14, 0, NN⟩).toArray 42) = w1 at *
    generalize w0.heap.size = gI at *
    (try simp only [Act.put, sA, sB, sC])
    refine wpAnyH_ready (rs := [5, 16]) (by kernel_rfl) (by simp) ?_
    refine AllReadyH.cons (by simp only [gA, gB, gC]; rfl) (fun K hK => ?_) ?_
    · go_simp
      go_at_call 12
      refine (cone_any [⟨14, 0, NN⟩] [] (some ⟨gI, 0, none⟩) none 1 0 (by show 1 ≤ 100; decide) (by show 0 ≤ 100; decide) (fun _ => rfl) w1 hI (fun j y h => by simp at h)).mono ?_
      rintro e w2 ⟨x, hxg, rfl, hxo, hb⟩
      replace hB := Below.then hB hb
      replace hS := Below.then hS hb
      clear hb hI
      refine hK.out _ _ (hS) ?_
      clear hHeld hK
      intro hHeld
      (try simp only [Act.put, sA, sB, sC])
      refine wpAnyH_ready (rs := [6, 16]) (by kernel_rfl) (by simp) ?_
      refine AllReadyH.cons (by simp only [gA, gB, gC]; rfl) (fun K hK => ?_) ?_
      · skip
        have hb := alloc_below w2 (.cells x.cs.toArray 39)
        have hR := row_list pg_len w2 [x] x.cs.toArray (by simp) 39
        refine step_build1 pg_okC (by decide) rfl _ rfl x.cs rfl rfl ?_
        (try simp only [Act.put, sA, sB, sC])
        refine hK.out _ _ (Below.then hS hb) ?_
        clear hHeld hK
        intro hHeld
        replace hB := Below.then hB hb
        replace hS := Below.then hS hb
        replace hxo := hxo.below hb
        clear hb
        generalize w2.alloc (.cells x.cs.toArray 39) = w3 at *
        generalize w2.heap.size = gG at *
        (try simp only [Act.put, sA, sB, sC])
        refine wpAnyH_take (i := 7) (v := ?_) (by simp only [gA, gB, gC]; rfl) (by kernel_rfl) (by kernel_rfl) (by kernel_rfl) (by exact fun _ _ _ h => h) (Or.inl ⟨by rfl, ?_⟩) (by assumption) ?_; rotate_left; (focus (intro w hSw; (try dsimp only at hSw); go_simp; try with_reducible rfl)); (try simp only [Act.put, sA, sB, sC])
        refine wpAnyH_ready (rs := [8, 16]) (by kernel_rfl) (by simp) ?_
        refine AllReadyH.cons (by simp only [gA, gB, gC]; rfl) (fun K hK => ?_) ?_
        · go_simp
          have hb : Below w3.heap.size w3 (w3.alloc (.cells #[.slice (some ⟨gG, 0, none⟩) 1 1, .bool false, .int .i64 0, .int .i64 0, .int .i64 0, .int .i64 0] 48)) := alloc_below w3 _
          have hm : BlkL w3.heap.size (memCs (.slice (some ⟨gG, 0, none⟩) 1 1) false 0 0 0 0) (w3.alloc (.cells #[.slice (some ⟨gG, 0, none⟩) 1 1, .bool false, .int .i64 0, .int .i64 0, .int .i64 0, .int .i64 0] 48)) := blkl_alloc w3 #[.slice (some ⟨gG, 0, none⟩) 1 1, .bool false, .int .i64 0, .int .i64 0, .int .i64 0, .int .i64 0] 48
          refine hK.out _ _ (Below.then hS hb) ?_
          clear hHeld hK
          intro hHeld
          replace hB := Below.then hB hb
          replace hS := Below.then hS hb
          replace hxo := hxo.below hb
          replace hR := hR.below pg_len hb
          have hM := MemO.of (by rw [hxg]; exact hok1) hxo hm ⟨hR, fun z hz => by rw [List.mem_singleton.1 hz]; exact own_at hxo⟩
          clear hb hm hR
          generalize w3.alloc (.cells #[.slice (some ⟨gG, 0, none⟩) 1 1, .bool false, .int .i64 0, .int .i64 0, .int .i64 0, .int .i64 0] 48) = w4 at *
          generalize w3.heap.size = bm at *
          (try simp only [Act.put, sA, sB, sC])
          refine wpAnyH_take (i := 9) (v := ?_) (by simp only [gA, gB, gC]; rfl) (by kernel_rfl) (by kernel_rfl) (by kernel_rfl) (by exact fun _ _ _ h => h) (Or.inl ⟨by rfl, ?_⟩) (by assumption) ?_; rotate_left; (focus (intro w hSw; (try dsimp only at hSw); go_simp; try with_reducible rfl)); (try simp only [Act.put, sA, sB, sC])
          refine wpAnyH_ready (rs := [10, 16]) (by kernel_rfl) (by simp) ?_
          refine AllReadyH.cons (by simp only [gA, gB, gC]; rfl) (fun K hK => ?_) ?_
          · go_simp
            go_at_call 11
            refine (cstepV { newC with a := a } hCok nilS hM (SV.nil _) (okC { newC with a := a, off := NN }) (by rw [show [x].map (·.g) = [oneG [⟨14, 0, NN⟩] []] by simp [hxg]]; exact hst)).mono ?_
            rintro e w5 hP
            obtain ⟨vA, rfl, hoA, hb⟩ := hP.okE
            have hvA := SV.own hoA
            replace hB := Below.then hB hb
            replace hS := Below.then hS hb
            clear hb hP hoA hM hxo
            refine hK.out _ _ (hS) ?_
            clear hHeld hK
            intro hHeld
            (try simp only [Act.put, sA, sB, sC])
            refine wpAnyH_take (i := 11) (v := ?_) (by simp only [gA, gB, gC]; rfl) (by kernel_rfl) (by kernel_rfl) (by kernel_rfl) (by exact fun _ _ _ h => h) (Or.inl ⟨by rfl, ?_⟩) (by assumption) ?_; rotate_left; (focus (intro w hSw; (try dsimp only at hSw); go_simp; try with_reducible rfl)); (try simp only [Act.put, sA, sB, sC])
            refine wpAnyH_take (i := 12) (v := ?_) (by simp only [gA, gB, gC]; rfl) (by kernel_rfl) (by kernel_rfl) (by kernel_rfl) (by exact fun _ _ _ h => h) (Or.inl ⟨by rfl, ?_⟩) (by assumption) ?_; rotate_left; (focus (intro w hSw; (try dsimp only at hSw); go_simp; try with_reducible rfl)); (try simp only [Act.put, sA, sB, sC])
            refine wpAnyH_take (i := 13) (v := ?_) (by simp only [gA, gB, gC]; rfl) (by kernel_rfl) (by kernel_rfl) (by kernel_rfl) (by exact fun _ _ _ h => h) (Or.inl ⟨by rfl, ?_⟩) (by assumption) ?_; rotate_left; (focus (intro w hSw; (try dsimp only at hSw); go_simp; try with_reducible rfl)); (try simp only [Act.put, sA, sB, sC])
            refine wpAnyH_take (i := 14) (v := ?_) (by simp only [gA, gB, gC]; rfl) (by kernel_rfl) (by kernel_rfl) (by kernel_rfl) (by exact fun _ _ _ h => h) (Or.inl ⟨by rfl, ?_⟩) (by assumption) ?_; rotate_left; (focus (intro w hSw; (try dsimp only at hSw); go_simp; try with_reducible rfl)); (try simp only [Act.put, sA, sB, sC])
            refine wpAnyH_take (i := 15) (v := ?_) (by simp only [gA, gB, gC]; rfl) (by kernel_rfl) (by kernel_rfl) (by kernel_rfl) (by exact fun _ _ _ h => h) (Or.inl ⟨by rfl, ?_⟩) (by assumption) ?_; rotate_left; (focus (intro w hSw; (try dsimp only at hSw); go_simp; try with_reducible rfl)); (try simp only [Act.put, sA, sB, sC])
            refine wpAnyH_ready (rs := [16]) (by kernel_rfl) (by simp) ?_
            refine AllReadyH.cons (by simp only [gA, gB, gC]; rfl) (fun K hK => ?_) AllReadyH.nil
            have hb := alloc_below w5 (.cells zS 29)
            have hz : BlkL w5.heap.size (stCs zeroC nilS) (w5.alloc (.cells zS 29)) := blkl_alloc w5 (stCs zeroC nilS).toArray 29
            have hgz := hB.size
            have hSz := hS.size
            refine step_allocC (z := zS) rfl rfl (fun _ => rfl) ?_
            (try simp only [Act.put, sA, sB, sC])
            refine hK.out _ _ (Below.then hS hb) ?_
            clear hHeld hK
            intro hHeld
            replace hB := Below.then hB hb
            replace hS := Below.then hS hb
            replace hvA := hvA.below hb
            clear hb
            have hgS : Z.heap.size ≤ w5.heap.size := hSz
            generalize w5.alloc (.cells zS 29) = w6 at *
            generalize w5.heap.size = gz at *
            (try simp only [Act.put, sA, sB, sC])
            refine wpAnyH_ready (rs := [17]) (by kernel_rfl) (by simp) ?_
            refine AllReadyH.cons (by simp only [gA, gB, gC]; rfl) (fun K hK => ?_) AllReadyH.nil
            obtain ⟨W7, hW7, hth7, hs7, hk7⟩ := put_st (show StAt gz zeroC nilS w6 from ⟨rfl, hz⟩) (d := { newC with a := a, off := NN }) rfl vA
            have hB7 := hk7 _ _ hgz hB
            have hS7 := hk7 _ _ hgS hS
            have hone7 := st_one { newC with a := a, off := NN } vA hvA.one
            have hsz7 : (Try.prog.info? 29).map (·.size) = some (stCs { newC with a := a, off := NN } vA).length := by rw [st_len (show ({ newC with a := a, off := NN }).ps.length = 4 from rfl)]; exact hszS
            refine step_store_rowC rfl _ _ rfl gz rfl (stCs { newC with a := a, off := NN } vA) rfl hth7 hsz7 hone7 hW7 ?_
            (try simp only [Act.put, sA, sB, sC])
            refine hK.out _ _ (hS7) ?_
            clear hHeld hK
            intro hHeld
            (try simp only [Act.put, sA, sB, sC])
            refine wpAnyH_take (i := 18) (v := ?_) (by simp only [gA, gB, gC]; rfl) (by kernel_rfl) (by kernel_rfl) (by kernel_rfl) (by exact fun _ _ _ h => h) (Or.inl ⟨by rfl, ?_⟩) (by assumption) ?_; rotate_left; (focus (intro w hSw; (try dsimp only at hSw); go_simp; try with_reducible rfl)); (try simp only [Act.put, sA, sB, sC])
            refine wpAnyH_take (i := 19) (v := ?_) (by simp only [gA, gB, gC]; rfl) (by kernel_rfl) (by kernel_rfl) (by kernel_rfl) (by exact fun _ _ _ h => h) (Or.inl ⟨by rfl, ?_⟩) (by assumption) ?_; rotate_left; (focus (intro w hSw; (try dsimp only at hSw); go_simp; try with_reducible rfl)); (try simp only [Act.put, sA, sB, sC])
            refine wpAnyH_take (i := 20) (v := ?_) (by simp only [gA, gB, gC]; rfl) (by kernel_rfl) (by kernel_rfl) (by kernel_rfl) (by exact fun _ _ _ h => h) (Or.inl ⟨by rfl, ?_⟩) (by assumption) ?_; rotate_left; (focus (intro w hSw; (try dsimp only at hSw); go_simp; try with_reducible rfl)); (try simp only [Act.put, sA, sB, sC])
            refine wpAnyH_done (by kernel_rfl) ?_ _
            have z1 := hs7.off
            have z2 := hs7.ring
            have z3 := hs7.a
            clear hs7 hW7 hth7 hk7 hone7 hsz7 hz hS7 hS hB
            go_wp2_with fail
            go_ret
            exact ⟨rfl, hB7⟩
          refine AllReadyH.cons (by simp only [gA, gB, gC]; rfl) (fun K hK => ?_) AllReadyH.nil
          have hb := alloc_below w4 (.cells zS 29)
          have hz : BlkL w4.heap.size (stCs zeroC nilS) (w4.alloc (.cells zS 29)) := blkl_alloc w4 (stCs zeroC nilS).toArray 29
          have hgz := hB.size
          have hSz := hS.size
          refine step_allocC (z := zS) rfl rfl (fun _ => rfl) ?_
          (try simp only [Act.put, sA, sB, sC])
          refine hK.out _ _ (Below.then hS hb) ?_
          clear hHeld hK
          intro hHeld
          replace hB := Below.then hB hb
          replace hS := Below.then hS hb
          replace hxo := hxo.below hb
          replace hM := hM.below hb
          clear hb
          have hgS : Z.heap.size ≤ w4.heap.size := hSz
          generalize w4.alloc (.cells zS 29) = w5 at *
          generalize w4.heap.size = gz at *
          (try simp only [Act.put, sA, sB, sC])
          refine wpAnyH_ready (rs := [10]) (by kernel_rfl) (by simp) ?_
          refine AllReadyH.cons (by simp only [gA, gB, gC]; rfl) (fun K hK => ?_) AllReadyH.nil
          go_simp
          go_at_call 11
          refine (cstepV { newC with a := a } hCok nilS hM (SV.nil _) (okC { newC with a := a, off := NN }) (by rw [show [x].map (·.g) = [oneG [⟨14, 0, NN⟩] []] by simp [hxg]]; exact hst)).mono ?_
          rintro e w6 hP
          obtain ⟨vA, rfl, hoA, hb⟩ := hP.okE
          have hvA := SV.own hoA
          replace hB := Below.then hB hb
          replace hS := Below.then hS hb
          replace hz := stab_blk _ _ _ _ hz hb
          clear hb hP hoA hM hxo
          refine hK.out _ _ (hS) ?_
          clear hHeld hK
          intro hHeld
          (try simp only [Act.put, sA, sB, sC])
          refine wpAnyH_take (i := 11) (v := ?_) (by simp only [gA, gB, gC]; rfl) (by kernel_rfl) (by kernel_rfl) (by kernel_rfl) (by exact fun _ _ _ h => h) (Or.inl ⟨by rfl, ?_⟩) (by assumption) ?_; rotate_left; (focus (intro w hSw; (try dsimp only at hSw); go_simp; try with_reducible rfl)); (try simp only [Act.put, sA, sB, sC])
          refine wpAnyH_take (i := 12) (v := ?_) (by simp only [gA, gB, gC]; rfl) (by kernel_rfl) (by kernel_rfl) (by kernel_rfl) (by exact fun _ _ _ h => h) (Or.inl ⟨by rfl, ?_⟩) (by assumption) ?_; rotate_left; (focus (intro w hSw; (try dsimp only at hSw); go_simp; try with_reducible rfl)); (try simp only [Act.put, sA, sB, sC])
          refine wpAnyH_take (i := 13) (v := ?_) (by simp only [gA, gB, gC]; rfl) (by kernel_rfl) (by kernel_rfl) (by kernel_rfl) (by exact fun _ _ _ h => h) (Or.inl ⟨by rfl, ?_⟩) (by assumption) ?_; rotate_left; (focus (intro w hSw; (try dsimp only at hSw); go_simp; try with_reducible rfl)); (try simp only [Act.put, sA, sB, sC])
          refine wpAnyH_take (i := 14) (v := ?_) (by simp only [gA, gB, gC]; rfl) (by kernel_rfl) (by kernel_rfl) (by kernel_rfl) (by exact fun _ _ _ h => h) (Or.inl ⟨by rfl, ?_⟩) (by assumption) ?_; rotate_left; (focus (intro w hSw; (try dsimp only at hSw); go_simp; try with_reducible rfl)); (try simp only [Act.put, sA, sB, sC])
          refine wpAnyH_take (i := 15) (v := ?_) (by simp only [gA, gB, gC]; rfl) (by kernel_rfl) (by kernel_rfl) (by kernel_rfl) (by exact fun _ _ _ h => h) (Or.inl ⟨by rfl, ?_⟩) (by assumption) ?_; rotate_left; (focus (intro w hSw; (try dsimp only at hSw); go_simp; try with_reducible rfl)); (try simp only [Act.put, sA, sB, sC])
          refine wpAnyH_ready (rs := [17]) (by kernel_rfl) (by simp) ?_
          refine AllReadyH.cons (by simp only [gA, gB, gC]; rfl) (fun K hK => ?_) AllReadyH.nil
          obtain ⟨W7, hW7, hth7, hs7, hk7⟩ := put_st (show StAt gz zeroC nilS w6 from ⟨rfl, hz⟩) (d := { newC with a := a, off := NN }) rfl vA
          have hB7 := hk7 _ _ hgz hB
          have hS7 := hk7 _ _ hgS hS
          have hone7 := st_one { newC with a := a, off := NN } vA hvA.one
          have hsz7 : (Try.prog.info? 29).map (·.size) = some (stCs { newC with a := a, off := NN } vA).length := by rw [st_len (show ({ newC with a := a, off := NN }).ps.length = 4 from rfl)]; exact hszS
          refine step_store_rowC rfl _ _ rfl gz rfl (stCs { newC with a := a, off := NN } vA) rfl hth7 hsz7 hone7 hW7 ?_
          (try simp only [Act.put, sA, sB, sC])
          refine hK.out _ _ (hS7) ?_
          clear hHeld hK
          intro hHeld
          (try simp only [Act.put, sA, sB, sC])
          refine wpAnyH_take (i := 18) (v := ?_) (by simp only [gA, gB, gC]; rfl) (by kernel_rfl) (by kernel_rfl) (by kernel_rfl) (by exact fun _ _ _ h => h) (Or.inl ⟨by rfl, ?_⟩) (by assumption) ?_; rotate_left; (focus (intro w hSw; (try dsimp only at hSw); go_simp; try with_reducible rfl)); (try simp only [Act.put, sA, sB, sC])
          refine wpAnyH_take (i := 19) (v := ?_) (by simp only [gA, gB, gC]; rfl) (by kernel_rfl) (by kernel_rfl) (by kernel_rfl) (by exact fun _ _ _ h => h) (Or.inl ⟨by rfl, ?_⟩) (by assumption) ?_; rotate_left; (focus (intro w hSw; (try dsimp only at hSw); go_simp; try with_reducible rfl)); (try simp only [Act.put, sA, sB, sC])
          refine wpAnyH_take (i := 20) (v := ?_) (by simp only [gA, gB, gC]; rfl) (by kernel_rfl) (by kernel_rfl) (by kernel_rfl) (by exact fun _ _ _ h => h) (Or.inl ⟨by rfl, ?_⟩) (by assumption) ?_; rotate_left; (focus (intro w hSw; (try dsimp only at hSw); go_simp; try with_reducible rfl)); (try simp only [Act.put, sA, sB, sC])
          refine wpAnyH_done (by kernel_rfl) ?_ _
          have z1 := hs7.off
          have z2 := hs7.ring
          have z3 := hs7.a
          clear hs7 hW7 hth7 hk7 hone7 hsz7 hz hS7 hS hB
          go_wp2_with fail
          go_ret
          exact ⟨rfl, hB7⟩
        refine AllReadyH.cons (by simp only [gA, gB, gC]; rfl) (fun K hK => ?_) AllReadyH.nil
        have hb := alloc_below w3 (.cells zS 29)
        have hz : BlkL w3.heap.size (stCs zeroC nilS) (w3.alloc (.cells zS 29)) := blkl_alloc w3 (stCs zeroC nilS).toArray 29
        have hgz := hB.size
        have hSz := hS.size
        refine step_allocC (z := zS) rfl rfl (fun _ => rfl) ?_
        (try simp only [Act.put, sA, sB, sC])
        refine hK.out _ _ (Below.then hS hb) ?_
        clear hHeld hK
        intro hHeld
        replace hB := Below.then hB hb
        replace hS := Below.then hS hb
        replace hxo := hxo.below hb
        replace hR := hR.below pg_len hb
        clear hb
        have hgS : Z.heap.size ≤ w3.heap.size := hSz
        generalize w3.alloc (.cells zS 29) = w4 at *
        generalize w3.heap.size = gz at *
        (try simp only [Act.put, sA, sB, sC])
        refine wpAnyH_ready (rs := [8]) (by kernel_rfl) (by simp) ?_
        refine AllReadyH.cons (by simp only [gA, gB, gC]; rfl) (fun K hK => ?_) AllReadyH.nil
        go_simp
        have hb : Below w4.heap.size w4 (w4.alloc (.cells #[.slice (some ⟨gG, 0, none⟩) 1 1, .bool false, .int .i64 0, .int .i64 0, .int .i64 0, .int .i64 0] 48)) := alloc_below w4 _
        have hm : BlkL w4.heap.size (memCs (.slice (some ⟨gG, 0, none⟩) 1 1) false 0 0 0 0) (w4.alloc (.cells #[.slice (some ⟨gG, 0, none⟩) 1 1, .bool false, .int .i64 0, .int .i64 0, .int .i64 0, .int .i64 0] 48)) := blkl_alloc w4 #[.slice (some ⟨gG, 0, none⟩) 1 1, .bool false, .int .i64 0, .int .i64 0, .int .i64 0, .int .i64 0] 48
        refine hK.out _ _ (Below.then hS hb) ?_
        clear hHeld hK
        intro hHeld
        replace hB := Below.then hB hb
        replace hS := Below.then hS hb
        replace hxo := hxo.below hb
        replace hR := hR.below pg_len hb
        replace hz := stab_blk _ _ _ _ hz hb
        have hM := MemO.of (by rw [hxg]; exact hok1) hxo hm ⟨hR, fun z hz => by rw [List.mem_singleton.1 hz]; exact own_at hxo⟩
        clear hb hm hR
        generalize w4.alloc (.cells #[.slice (some ⟨gG, 0, none⟩) 1 1, .bool false, .int .i64 0, .int .i64 0, .int .i64 0, .int .i64 0] 48) = w5 at *
        generalize w4.heap.size = bm at *
        (try simp only [Act.put, sA, sB, sC])
        refine wpAnyH_take (i := 9) (v := ?_) (by simp only [gA, gB, gC]; rfl) (by kernel_rfl) (by kernel_rfl) (by kernel_rfl) (by exact fun _ _ _ h => h) (Or.inl ⟨by rfl, ?_⟩) (by assumption) ?_; rotate_left; (focus (intro w hSw; (try dsimp only at hSw); go_simp; try with_reducible rfl)); (try simp only [Act.put, sA, sB, sC])
        refine wpAnyH_ready (rs := [10]) (by kernel_rfl) (by simp) ?_
        refine AllReadyH.cons (by simp only [gA, gB, gC]; rfl) (fun K hK => ?_) AllReadyH.nil
        go_simp
        go_at_call 11
        refine (cstepV { newC with a := a } hCok nilS hM (SV.nil _) (okC { newC with a := a, off := NN }) (by rw [show [x].map (·.g) = [oneG [⟨14, 0, NN⟩] []] by simp [hxg]]; exact hst)).mono ?_
        rintro e w6 hP
        obtain ⟨vA, rfl, hoA, hb⟩ := hP.okE
        have hvA := SV.own hoA
        replace hB := Below.then hB hb
        replace hS := Below.then hS hb
        replace hz := stab_blk _ _ _ _ hz hb
        clear hb hP hoA hM hxo
        refine hK.out _ _ (hS) ?_
        clear hHeld hK
        intro hHeld
        (try simp only [Act.put, sA, sB, sC])
        refine wpAnyH_take (i := 11) (v := ?_) (by simp only [gA, gB, gC]; rfl) (by kernel_rfl) (by kernel_rfl) (by kernel_rfl) (by exact fun _ _ _ h => h) (Or.inl ⟨by rfl, ?_⟩) (by assumption) ?_; rotate_left; (focus (intro w hSw; (try dsimp only at hSw); go_simp; try with_reducible rfl)); (try simp only [Act.put, sA, sB, sC])
        refine wpAnyH_take (i := 12) (v := ?_) (by simp only [gA, gB, gC]; rfl) (by kernel_rfl) (by kernel_rfl) (by kernel_rfl) (by exact fun _ _ _ h => h) (Or.inl ⟨by rfl, ?_⟩) (by assumption) ?_; rotate_left; (focus (intro w hSw; (try dsimp only at hSw); go_simp; try with_reducible rfl)); (try simp only [Act.put, sA, sB, sC])
        refine wpAnyH_take (i := 13) (v := ?_) (by simp only [gA, gB, gC]; rfl) (by kernel_rfl) (by kernel_rfl) (by kernel_rfl) (by exact fun _ _ _ h => h) (Or.inl ⟨by rfl, ?_⟩) (by assumption) ?_; rotate_left; (focus (intro w hSw; (try dsimp only at hSw); go_simp; try with_reducible rfl)); (try simp only [Act.put, sA, sB, sC])
        refine wpAnyH_take (i := 14) (v := ?_) (by simp only [gA, gB, gC]; rfl) (by kernel_rfl) (by kernel_rfl) (by kernel_rfl) (by exact fun _ _ _ h => h) (Or.inl ⟨by rfl, ?_⟩) (by assumption) ?_; rotate_left; (focus (intro w hSw; (try dsimp only at hSw); go_simp; try with_reducible rfl)); (try simp only [Act.put, sA, sB, sC])
        refine wpAnyH_take (i := 15) (v := ?_) (by simp only [gA, gB, gC]; rfl) (by kernel_rfl) (by kernel_rfl) (by kernel_rfl) (by exact fun _ _ _ h => h) (Or.inl ⟨by rfl, ?_⟩) (by assumption) ?_; rotate_left; (focus (intro w hSw; (try dsimp only at hSw); go_simp; try with_reducible rfl)); (try simp only [Act.put, sA, sB, sC])
        refine wpAnyH_ready (rs := [17]) (by kernel_rfl) (by simp) ?_
        refine AllReadyH.cons (by simp only [gA, gB, gC]; rfl) (fun K hK => ?_) AllReadyH.nil
        obtain ⟨W7, hW7, hth7, hs7, hk7⟩ := put_st (show StAt gz zeroC nilS w6 from ⟨rfl, hz⟩) (d := { newC with a := a, off := NN }) rfl vA
        have hB7 := hk7 _ _ hgz hB
        have hS7 := hk7 _ _ hgS hS
        have hone7 := st_one { newC with a := a, off := NN } vA hvA.one
        have hsz7 : (Try.prog.info? 29).map (·.size) = some (stCs { newC with a := a, off := NN } vA).length := by rw [st_len (show ({ newC with a := a, off := NN }).ps.length = 4 from rfl)]; exact hszS
        refine step_store_rowC rfl _ _ rfl gz rfl (stCs { newC with a := a, off := NN } vA) rfl hth7 hsz7 hone7 hW7 ?_
        (try simp only [Act.put, sA, sB, sC])
        refine hK.out _ _ (hS7) ?_
        clear hHeld hK
        intro hHeld
        (try simp only [Act.put, sA, sB, sC])
        refine wpAnyH_take (i := 18) (v := ?_) (by simp only [gA, gB, gC]; rfl) (by kernel_rfl) (by kernel_rfl) (by kernel_rfl) (by exact fun _ _ _ h => h) (Or.inl ⟨by rfl, ?_⟩) (by assumption) ?_; rotate_left; (focus (intro w hSw; (try dsimp only at hSw); go_simp; try with_reducible rfl)); (try simp only [Act.put, sA, sB, sC])
        refine wpAnyH_take (i := 19) (v := ?_) (by simp only [gA, gB, gC]; rfl) (by kernel_rfl) (by kernel_rfl) (by kernel_rfl) (by exact fun _ _ _ h => h) (Or.inl ⟨by rfl, ?_⟩) (by assumption) ?_; rotate_left; (focus (intro w hSw; (try dsimp only at hSw); go_simp; try with_reducible rfl)); (try simp only [Act.put, sA, sB, sC])
        refine wpAnyH_take (i := 20) (v := ?_) (by simp only [gA, gB, gC]; rfl) (by kernel_rfl) (by kernel_rfl) (by kernel_rfl) (by exact fun _ _ _ h => h) (Or.inl ⟨by rfl, ?_⟩) (by assumption) ?_; rotate_left; (focus (intro w hSw; (try dsimp only at hSw); go_simp; try with_reducible rfl)); (try simp only [Act.put, sA, sB, sC])
        refine wpAnyH_done (by kernel_rfl) ?_ _
        have z1 := hs7.off
        have z2 := hs7.ring
        have z3 := hs7.a
        clear hs7 hW7 hth7 hk7 hone7 hsz7 hz hS7 hS hB
        go_wp2_with fail
        go_ret
        exact ⟨rfl, hB7⟩
      refine AllReadyH.cons (by simp only [gA, gB, gC]; rfl) (fun K hK => ?_) AllReadyH.nil
      have hb := alloc_below w2 (.cells zS 29)
      have hz : BlkL w2.heap.size (stCs zeroC nilS) (w2.alloc (.cells zS 29)) := blkl_alloc w2 (stCs zeroC nilS).toArray 29
      have hgz := hB.size
      have hSz := hS.size
      refine step_allocC (z := zS) rfl rfl (fun _ => rfl) ?_
      (try simp only [Act.put, sA, sB, sC])
      refine hK.out _ _ (Below.then hS hb) ?_
      clear hHeld hK
      intro hHeld
      replace hB := Below.then hB hb
      replace hS := Below.then hS hb
      replace hxo := hxo.below hb
      clear hb
      have hgS : Z.heap.size ≤ w2.heap.size := hSz
      generalize w2.alloc (.cells zS 29) = w3 at *
      generalize w2.heap.size = gz at *
      (try simp only [Act.put, sA, sB, sC])
      refine wpAnyH_ready (rs := [6]) (by kernel_rfl) (by simp) ?_
      refine AllReadyH.cons (by simp only [gA, gB, gC]; rfl) (fun K hK => ?_) AllReadyH.nil
      have hb := alloc_below w3 (.cells x.cs.toArray 39)
      have hR := row_list pg_len w3 [x] x.cs.toArray (by simp) 39
      refine step_build1 pg_okC (by decide) rfl _ rfl x.cs rfl rfl ?_
      (try simp only [Act.put, sA, sB, sC])
      refine hK.out _ _ (Below.then hS hb) ?_
      clear hHeld hK
      intro hHeld
      replace hB := Below.then hB hb
      replace hS := Below.then hS hb
      replace hxo := hxo.below hb
      replace hz := stab_blk _ _ _ _ hz hb
      clear hb
      generalize w3.alloc (.cells x.cs.toArray 39) = w4 at *
      generalize w3.heap.size = gG at *
      (try simp only [Act.put, sA, sB, sC])
      refine wpAnyH_take (i := 7) (v := ?_) (by simp only [gA, gB, gC]; rfl) (by kernel_rfl) (by kernel_rfl) (by kernel_rfl) (by exact fun _ _ _ h => h) (Or.inl ⟨by rfl, ?_⟩) (by assumption) ?_; rotate_left; (focus (intro w hSw; (try dsimp only at hSw); go_simp; try with_reducible rfl)); (try simp only [Act.put, sA, sB, sC])
      refine wpAnyH_ready (rs := [8]) (by kernel_rfl) (by simp) ?_
      refine AllReadyH.cons (by simp only [gA, gB, gC]; rfl) (fun K hK => ?_) AllReadyH.nil
      go_simp
      have hb : Below w4.heap.size w4 (w4.alloc (.cells #[.slice (some ⟨gG, 0, none⟩) 1 1, .bool false, .int .i64 0, .int .i64 0, .int .i64 0, .int .i64 0] 48)) := alloc_below w4 _
      have hm : BlkL w4.heap.size (memCs (.slice (some ⟨gG, 0, none⟩) 1 1) false 0 0 0 0) (w4.alloc (.cells #[.slice (some ⟨gG, 0, none⟩) 1 1, .bool false, .int .i64 0, .int .i64 0, .int .i64 0, .int .i64 0] 48)) := blkl_alloc w4 #[.slice (some ⟨gG, 0, none⟩) 1 1, .bool false, .int .i64 0, .int .i64 0, .int .i64 0, .int .i64 0] 48
      refine hK.out _ _ (Below.then hS hb) ?_
      clear hHeld hK
      intro hHeld
      replace hB := Below.then hB hb
      replace hS := Below.then hS hb
      replace hxo := hxo.below hb
      replace hR := hR.below pg_len hb
      replace hz := stab_blk _ _ _ _ hz hb
      have hM := MemO.of (by rw [hxg]; exact hok1) hxo hm ⟨hR, fun z hz => by rw [List.mem_singleton.1 hz]; exact own_at hxo⟩
      clear hb hm hR
      generalize w4.alloc (.cells #[.slice (some ⟨gG, 0, none⟩) 1 1, .bool false, .int .i64 0, .int .i64 0, .int .i64 0, .int .i64 0] 48) = w5 at *
      generalize w4.heap.size = bm at *
      (try simp only [Act.put, sA, sB, sC])
      refine wpAnyH_take (i := 9) (v := ?_) (by simp only [gA, gB, gC]; rfl) (by kernel_rfl) (by kernel_rfl) (by kernel_rfl) (by exact fun _ _ _ h => h) (Or.inl ⟨by rfl, ?_⟩) (by assumption) ?_; rotate_left; (focus (intro w hSw; (try dsimp only at hSw); go_simp; try with_reducible rfl)); (try simp only [Act.put, sA, sB, sC])
      refine wpAnyH_ready (rs := [10]) (by kernel_rfl) (by simp) ?_
      refine AllReadyH.cons (by simp only [gA, gB, gC]; rfl) (fun K hK => ?_) AllReadyH.nil
      go_simp
      go_at_call 11
      refine (cstepV { newC with a := a } hCok nilS hM (SV.nil _) (okC { newC with a := a, off := NN }) (by rw [show [x].map (·.g) = [oneG [⟨14, 0, NN⟩] []] by simp [hxg]]; exact hst)).mono ?_
      rintro e w6 hP
      obtain ⟨vA, rfl, hoA, hb⟩ := hP.okE
      have hvA := SV.own hoA
      replace hB := Below.then hB hb
      replace hS := Below.then hS hb
      replace hz := stab_blk _ _ _ _ hz hb
      clear hb hP hoA hM hxo
      refine hK.out _ _ (hS) ?_
      clear hHeld hK
      intro hHeld
      (try simp only [Act.put, sA, sB, sC])
      refine wpAnyH_take (i := 11) (v := ?_) (by simp only [gA, gB, gC]; rfl) (by kernel_rfl) (by kernel_rfl) (by kernel_rfl) (by exact fun _ _ _ h => h) (Or.inl ⟨by rfl, ?_⟩) (by assumption) ?_; rotate_left; (focus (intro w hSw; (try dsimp only at hSw); go_simp; try with_reducible rfl)); (try simp only [Act.put, sA, sB, sC])
      refine wpAnyH_take (i := 12) (v := ?_) (by simp only [gA, gB, gC]; rfl) (by kernel_rfl) (by kernel_rfl) (by kernel_rfl) (by exact fun _ _ _ h => h) (Or.inl ⟨by rfl, ?_⟩) (by assumption) ?_; rotate_left; (focus (intro w hSw; (try dsimp only at hSw); go_simp; try with_reducible rfl)); (try simp only [Act.put, sA, sB, sC])
      refine wpAnyH_take (i := 13) (v := ?_) (by simp only [gA, gB, gC]; rfl) (by kernel_rfl) (by kernel_rfl) (by kernel_rfl) (by exact fun _ _ _ h => h) (Or.inl ⟨by rfl, ?_⟩) (by assumption) ?_; rotate_left; (focus (intro w hSw; (try dsimp only at hSw); go_simp; try with_reducible rfl)); (try simp only [Act.put, sA, sB, sC])
      refine wpAnyH_take (i := 14) (v := ?_) (by simp only [gA, gB, gC]; rfl) (by kernel_rfl) (by kernel_rfl) (by kernel_rfl) (by exact fun _ _ _ h => h) (Or.inl ⟨by rfl, ?_⟩) (by assumption) ?_; rotate_left; (focus (intro w hSw; (try dsimp only at hSw); go_simp; try with_reducible rfl)); (try simp only [Act.put, sA, sB, sC])
      refine wpAnyH_take (i := 15) (v := ?_) (by simp only [gA, gB, gC]; rfl) (by kernel_rfl) (by kernel_rfl) (by kernel_rfl) (by exact fun _ _ _ h => h) (Or.inl ⟨by rfl, ?_⟩) (by assumption) ?_; rotate_left; (focus (intro w hSw; (try dsimp only at hSw); go_simp; try with_reducible rfl)); (try simp only [Act.put, sA, sB, sC])
      refine wpAnyH_ready (rs := [17]) (by kernel_rfl) (by simp) ?_
      refine AllReadyH.cons (by simp only [gA, gB, gC]; rfl) (fun K hK => ?_) AllReadyH.nil
      obtain ⟨W7, hW7, hth7, hs7, hk7⟩ := put_st (show StAt gz zeroC nilS w6 from ⟨rfl, hz⟩) (d := { newC with a := a, off := NN }) rfl vA
      have hB7 := hk7 _ _ hgz hB
      have hS7 := hk7 _ _ hgS hS
      have hone7 := st_one { newC with a := a, off := NN } vA hvA.one
      have hsz7 : (Try.prog.info? 29).map (·.size) = some (stCs { newC with a := a, off := NN } vA).length := by rw [st_len (show ({ newC with a := a, off := NN }).ps.length = 4 from rfl)]; exact hszS
      refine step_store_rowC rfl _ _ rfl gz rfl (stCs { newC with a := a, off := NN } vA) rfl hth7 hsz7 hone7 hW7 ?_
      (try simp only [Act.put, sA, sB, sC])
      refine hK.out _ _ (hS7) ?_
      clear hHeld hK
      intro hHeld
      (try simp only [Act.put, sA, sB, sC])
      refine wpAnyH_take (i := 18) (v := ?_) (by simp only [gA, gB, gC]; rfl) (by kernel_rfl) (by kernel_rfl) (by kernel_rfl) (by exact fun _ _ _ h => h) (Or.inl ⟨by rfl, ?_⟩) (by assumption) ?_; rotate_left; (focus (intro w hSw; (try dsimp only at hSw); go_simp; try with_reducible rfl)); (try simp only [Act.put, sA, sB, sC])
      refine wpAnyH_take (i := 19) (v := ?_) (by simp only [gA, gB, gC]; rfl) (by kernel_rfl) (by kernel_rfl) (by kernel_rfl) (by exact fun _ _ _ h => h) (Or.inl ⟨by rfl, ?_⟩) (by assumption) ?_; rotate_left; (focus (intro w hSw; (try dsimp only at hSw); go_simp; try with_reducible rfl)); (try simp only [Act.put, sA, sB, sC])
      refine wpAnyH_take (i := 20) (v := ?_) (by simp only [gA, gB, gC]; rfl) (by kernel_rfl) (by kernel_rfl) (by kernel_rfl) (by exact fun _ _ _ h => h) (Or.inl ⟨by rfl, ?_⟩) (by assumption) ?_; rotate_left; (focus (intro w hSw; (try dsimp only at hSw); go_simp; try with_reducible rfl)); (try simp only [Act.put, sA, sB, sC])
      refine wpAnyH_done (by kernel_rfl) ?_ _
      have z1 := hs7.off
      have z2 := hs7.ring
      have z3 := hs7.a
      clear hs7 hW7 hth7 hk7 hone7 hsz7 hz hS7 hS hB
      go_wp2_with fail
      go_ret
      exact ⟨rfl, hB7⟩
    refine AllReadyH.cons (by simp only [gA, gB, gC]; rfl) (fun K hK => ?_) AllReadyH.nil
    have hb := alloc_below w1 (.cells zS 29)
    have hz : BlkL w1.heap.size (stCs zeroC nilS) (w1.alloc (.cells zS 29)) := blkl_alloc w1 (stCs zeroC nilS).toArray 29
    have hgz := hB.size
    have hSz := hS.size
    refine step_allocC (z := zS) rfl rfl (fun _ => rfl) ?_
    (try simp only [Act.put, sA, sB, sC])
    refine hK.out _ _ (Below.then hS hb) ?_
    clear hHeld hK
    intro hHeld
    replace hB := Below.then hB hb
    replace hS := Below.then hS hb
    replace hI := hI.below in_okC.len hb
    clear hb
    have hgS : Z.heap.size ≤ w1.heap.size := hSz
    generalize w1.alloc (.cells zS 29) = w2 at *
    generalize w1.heap.size = gz at *
    (try simp only [Act.put, sA, sB, sC])
    refine wpAnyH_ready (rs := [5]) (by kernel_rfl) (by simp) ?_
    refine AllReadyH.cons (by simp only [gA, gB, gC]; rfl) (fun K hK => ?_) AllReadyH.nil
    go_simp
    go_at_call 12
    refine (cone_any [⟨14, 0, NN⟩] [] (some ⟨gI, 0, none⟩) none 1 0 (by show 1 ≤ 100; decide) (by show 0 ≤ 100; decide) (fun _ => rfl) w2 hI (fun j y h => by simp at h)).mono ?_
    rintro e w3 ⟨x, hxg, rfl, hxo, hb⟩
    replace hB := Below.then hB hb
    replace hS := Below.then hS hb
    replace hz := stab_blk _ _ _ _ hz hb
    clear hb hI
    refine hK.out _ _ (hS) ?_
    clear hHeld hK
    intro hHeld
    (try simp only [Act.put, sA, sB, sC])
    refine wpAnyH_ready (rs := [6]) (by kernel_rfl) (by simp) ?_
    refine AllReadyH.cons (by simp only [gA, gB, gC]; rfl) (fun K hK => ?_) AllReadyH.nil
    have hb := alloc_below w3 (.cells x.cs.toArray 39)
    have hR := row_list pg_len w3 [x] x.cs.toArray (by simp) 39
    refine step_build1 pg_okC (by decide) rfl _ rfl x.cs rfl rfl ?_
    (try simp only [Act.put, sA, sB, sC])
    refine hK.out _ _ (Below.then hS hb) ?_
    clear hHeld hK
    intro hHeld
    replace hB := Below.then hB hb
    replace hS := Below.then hS hb
    replace hxo := hxo.below hb
    replace hz := stab_blk _ _ _ _ hz hb
    clear hb
    generalize w3.alloc (.cells x.cs.toArray 39) = w4 at *
    generalize w3.heap.size = gG at *
    (try simp only [Act.put, sA, sB, sC])
    refine wpAnyH_take (i := 7) (v := ?_) (by simp only [gA, gB, gC]; rfl) (by kernel_rfl) (by kernel_rfl) (by kernel_rfl) (by exact fun _ _ _ h => h) (Or.inl ⟨by rfl, ?_⟩) (by assumption) ?_; rotate_left; (focus (intro w hSw; (try dsimp only at hSw); go_simp; try with_reducible rfl)); (try simp only [Act.put, sA, sB, sC])
    refine wpAnyH_ready (rs := [8]) (by kernel_rfl) (by simp) ?_
    refine AllReadyH.cons (by simp only [gA, gB, gC]; rfl) (fun K hK => ?_) AllReadyH.nil
    go_simp
    have hb : Below w4.heap.size w4 (w4.alloc (.cells #[.slice (some ⟨gG, 0, none⟩) 1 1, .bool false, .int .i64 0, .int .i64 0, .int .i64 0, .int .i64 0] 48)) := alloc_below w4 _
    have hm : BlkL w4.heap.size (memCs (.slice (some ⟨gG, 0, none⟩) 1 1) false 0 0 0 0) (w4.alloc (.cells #[.slice (some ⟨gG, 0, none⟩) 1 1, .bool false, .int .i64 0, .int .i64 0, .int .i64 0, .int .i64 0] 48)) := blkl_alloc w4 #[.slice (some ⟨gG, 0, none⟩) 1 1, .bool false, .int .i64 0, .int .i64 0, .int .i64 0, .int .i64 0] 48
    refine hK.out _ _ (Below.then hS hb) ?_
    clear hHeld hK
    intro hHeld
    replace hB := Below.then hB hb
    replace hS := Below.then hS hb
    replace hxo := hxo.below hb
    replace hR := hR.below pg_len hb
    replace hz := stab_blk _ _ _ _ hz hb
    have hM := MemO.of (by rw [hxg]; exact hok1) hxo hm ⟨hR, fun z hz => by rw [List.mem_singleton.1 hz]; exact own_at hxo⟩
    clear hb hm hR
    generalize w4.alloc (.cells #[.slice (some ⟨gG, 0, none⟩) 1 1, .bool false, .int .i64 0, .int .i64 0, .int .i64 0, .int .i64 0] 48) = w5 at *
    generalize w4.heap.size = bm at *
    (try simp only [Act.put, sA, sB, sC])
    refine wpAnyH_take (i := 9) (v := ?_) (by simp only [gA, gB, gC]; rfl) (by kernel_rfl) (by kernel_rfl) (by kernel_rfl) (by exact fun _ _ _ h => h) (Or.inl ⟨by rfl, ?_⟩) (by assumption) ?_; rotate_left; (focus (intro w hSw; (try dsimp only at hSw); go_simp; try with_reducible rfl)); (try simp only [Act.put, sA, sB, sC])
    refine wpAnyH_ready (rs := [10]) (by kernel_rfl) (by simp) ?_
    refine AllReadyH.cons (by simp only [gA, gB, gC]; rfl) (fun K hK => ?_) AllReadyH.nil
    go_simp
    go_at_call 11
    refine (cstepV { newC with a := a } hCok nilS hM (SV.nil _) (okC { newC with a := a, off := NN }) (by rw [show [x].map (·.g) = [oneG [⟨14, 0, NN⟩] []] by simp [hxg]]; exact hst)).mono ?_
    rintro e w6 hP
    obtain ⟨vA, rfl, hoA, hb⟩ := hP.okE
    have hvA := SV.own hoA
    replace hB := Below.then hB hb
    replace hS := Below.then hS hb
    replace hz := stab_blk _ _ _ _ hz hb
    clear hb hP hoA hM hxo
    refine hK.out _ _ (hS) ?_
    clear hHeld hK
    intro hHeld
    (try simp only [Act.put, sA, sB, sC])
    refine wpAnyH_take (i := 11) (v := ?_) (by simp only [gA, gB, gC]; rfl) (by kernel_rfl) (by kernel_rfl) (by kernel_rfl) (by exact fun _ _ _ h => h) (Or.inl ⟨by rfl, ?_⟩) (by assumption) ?_; rotate_left; (focus (intro w hSw; (try dsimp only at hSw); go_simp; try with_reducible rfl)); (try simp only [Act.put, sA, sB, sC])
    refine wpAnyH_take (i := 12) (v := ?_) (by simp only [gA, gB, gC]; rfl) (by kernel_rfl) (by kernel_rfl) (by kernel_rfl) (by exact fun _ _ _ h => h) (Or.inl ⟨by rfl, ?_⟩) (by assumption) ?_; rotate_left; (focus (intro w hSw; (try dsimp only at hSw); go_simp; try with_reducible rfl)); (try simp only [Act.put, sA, sB, sC])
    refine wpAnyH_take (i := 13) (v := ?_) (by simp only [gA, gB, gC]; rfl) (by kernel_rfl) (by kernel_rfl) (by kernel_rfl) (by exact fun _ _ _ h => h) (Or.inl ⟨by rfl, ?_⟩) (by assumption) ?_; rotate_left; (focus (intro w hSw; (try dsimp only at hSw); go_simp; try with_reducible rfl)); (try simp only [Act.put, sA, sB, sC])
    refine wpAnyH_take (i := 14) (v := ?_) (by simp only [gA, gB, gC]; rfl) (by kernel_rfl) (by kernel_rfl) (by kernel_rfl) (by exact fun _ _ _ h => h) (Or.inl ⟨by rfl, ?_⟩) (by assumption) ?_; rotate_left; (focus (intro w hSw; (try dsimp only at hSw); go_simp; try with_reducible rfl)); (try simp only [Act.put, sA, sB, sC])
    refine wpAnyH_take (i := 15) (v := ?_) (by simp only [gA, gB, gC]; rfl) (by kernel_rfl) (by kernel_rfl) (by kernel_rfl) (by exact fun _ _ _ h => h) (Or.inl ⟨by rfl, ?_⟩) (by assumption) ?_; rotate_left; (focus (intro w hSw; (try dsimp only at hSw); go_simp; try with_reducible rfl)); (try simp only [Act.put, sA, sB, sC])
    refine wpAnyH_ready (rs := [17]) (by kernel_rfl) (by simp) ?_
    refine AllReadyH.cons (by simp only [gA, gB, gC]; rfl) (fun K hK => ?_) AllReadyH.nil
    obtain ⟨W7, hW7, hth7, hs7, hk7⟩ := put_st (show StAt gz zeroC nilS w6 from ⟨rfl, hz⟩) (d := { newC with a := a, off := NN }) rfl vA
    have hB7 := hk7 _ _ hgz hB
    have hS7 := hk7 _ _ hgS hS
    have hone7 := st_one { newC with a := a, off := NN } vA hvA.one
    have hsz7 : (Try.prog.info? 29).map (·.size) = some (stCs { newC with a := a, off := NN } vA).length := by rw [st_len (show ({ newC with a := a, off := NN }).ps.length = 4 from rfl)]; exact hszS
    refine step_store_rowC rfl _ _ rfl gz rfl (stCs { newC with a := a, off := NN } vA) rfl hth7 hsz7 hone7 hW7 ?_
    (try simp only [Act.put, sA, sB, sC])
    refine hK.out _ _ (hS7) ?_
    clear hHeld hK
    intro hHeld
    (try simp only [Act.put, sA, sB, sC])
    refine wpAnyH_take (i := 18) (v := ?_) (by simp only [gA, gB, gC]; rfl) (by kernel_rfl) (by kernel_rfl) (by kernel_rfl) (by exact fun _ _ _ h => h) (Or.inl ⟨by rfl, ?_⟩) (by assumption) ?_; rotate_left; (focus (intro w hSw; (try dsimp only at hSw); go_simp; try with_reducible rfl)); (try simp only [Act.put, sA, sB, sC])
    refine wpAnyH_take (i := 19) (v := ?_) (by simp only [gA, gB, gC]; rfl) (by kernel_rfl) (by kernel_rfl) (by kernel_rfl) (by exact fun _ _ _ h => h) (Or.inl ⟨by rfl, ?_⟩) (by assumption) ?_; rotate_left; (focus (intro w hSw; (try dsimp only at hSw); go_simp; try with_reducible rfl)); (try simp only [Act.put, sA, sB, sC])
    refine wpAnyH_take (i := 20) (v := ?_) (by simp only [gA, gB, gC]; rfl) (by kernel_rfl) (by kernel_rfl) (by kernel_rfl) (by exact fun _ _ _ h => h) (Or.inl ⟨by rfl, ?_⟩) (by assumption) ?_; rotate_left; (focus (intro w hSw; (try dsimp only at hSw); go_simp; try with_reducible rfl)); (try simp only [Act.put, sA, sB, sC])
    refine wpAnyH_done (by kernel_rfl) ?_ _
    have z1 := hs7.off
    have z2 := hs7.ring
    have z3 := hs7.a
    clear hs7 hW7 hth7 hk7 hone7 hsz7 hz hS7 hS hB
    go_wp2_with fail
    go_ret
    exact ⟨rfl, hB7⟩
  refine AllReadyH.cons (by simp only [gA, gB, gC]; rfl) (fun K hK => ?_) AllReadyH.nil
  have hb := alloc_below w0 (.cells zS 29)
  have hz : BlkL w0.heap.size (stCs zeroC nilS) (w0.alloc (.cells zS 29)) := blkl_alloc w0 (stCs zeroC nilS).toArray 29
  have hgz := hB.size
  have hSz := hS.size
  refine step_allocC (z := zS) rfl rfl (fun _ => rfl) ?_
  (try simp only [Act.put, sA, sB, sC])
  refine hK.out _ _ (Below.then hS hb) ?_
  clear hHeld hK
  intro hHeld
  replace hB := Below.then hB hb
  replace hS := Below.then hS hb
  clear hb
  have hgS : Z.heap.size ≤ w0.heap.size := hSz
  generalize w0.alloc (.cells zS 29) = w1 at *
  generalize w0.heap.size = gz at *
  (try simp only [Act.put, sA, sB, sC])
  refine wpAnyH_ready (rs := [4]) (by kernel_rfl) (by simp) ?_
  refine AllReadyH.cons (by simp only [gA, gB, gC]; rfl) (fun K hK => ?_) AllReadyH.nil
  have hb := alloc_below w1 (.cells (ins3 ⟨14, 0, NN⟩).toArray 42)
  have hI := row_list (f := ins3) (sz := 3) (fun _ => rfl) w1 [⟨14, 0, NN⟩] (ins3 ⟨14, 0, NN⟩).toArray (by simp) 42
  refine step_build1 in_okC (by decide) rfl _ rfl (ins3 ⟨14, 0, NN⟩) rfl rfl ?_
  (try simp only [Act.put, sA, sB, sC])
  refine hK.out _ _ (Below.then hS hb) ?_
  clear hHeld hK
  intro hHeld
  replace hB := Below.then hB hb
  replace hS := Below.then hS hb
  replace hz := stab_blk _ _ _ _ hz hb
  clear hb
  generalize w1.alloc (.cells (ins3 ⟨14, 0, NN⟩).toArray 42) = w2 at *
  generalize w1.heap.size = gI at *
  (try simp only [Act.put, sA, sB, sC])
  refine wpAnyH_ready (rs := [5]) (by kernel_rfl) (by simp) ?_
  refine AllReadyH.cons (by simp only [gA, gB, gC]; rfl) (fun K hK => ?_) AllReadyH.nil
  go_simp
  go_at_call 12
  refine (cone_any [⟨14, 0, NN⟩] [] (some ⟨gI, 0, none⟩) none 1 0 (by show 1 ≤ 100; decide) (by show 0 ≤ 100; decide) (fun _ => rfl) w2 hI (fun j y h => by simp at h)).mono ?_
  rintro e w3 ⟨x, hxg, rfl, hxo, hb⟩
  replace hB := Below.then hB hb
  replace hS := Below.then hS hb
  replace hz := stab_blk _ _ _ _ hz hb
  clear hb hI
  refine hK.out _ _ (hS) ?_
  clear hHeld hK
  intro hHeld
  (try simp only [Act.put, sA, sB, sC])
  refine wpAnyH_ready (rs := [6]) (by kernel_rfl) (by simp) ?_
  refine AllReadyH.cons (by simp only [gA, gB, gC]; rfl) (fun K hK => ?_) AllReadyH.nil
  have hb := alloc_below w3 (.cells x.cs.toArray 39)
  have hR := row_list pg_len w3 [x] x.cs.toArray (by simp) 39
  refine step_build1 pg_okC (by decide) rfl _ rfl x.cs rfl rfl ?_
  (try simp only [Act.put, sA, sB, sC])
  refine hK.out _ _ (Below.then hS hb) ?_
  clear hHeld hK
  intro hHeld
  replace hB := Below.then hB hb
  replace hS := Below.then hS hb
  replace hxo := hxo.below hb
  replace hz := stab_blk _ _ _ _ hz hb
  clear hb
  generalize w3.alloc (.cells x.cs.toArray 39) = w4 at *
  generalize w3.heap.size = gG at *
  (try simp only [Act.put, sA, sB, sC])
  refine wpAnyH_take (i := 7) (v := ?_) (by simp only [gA, gB, gC]; rfl) (by kernel_rfl) (by kernel_rfl) (by kernel_rfl) (by exact fun _ _ _ h => h) (Or.inl ⟨by rfl, ?_⟩) (by assumption) ?_; rotate_left; (focus (intro w hSw; (try dsimp only at hSw); go_simp; try with_reducible rfl)); (try simp only [Act.put, sA, sB, sC])
  refine wpAnyH_ready (rs := [8]) (by kernel_rfl) (by simp) ?_
  refine AllReadyH.cons (by simp only [gA, gB, gC]; rfl) (fun K hK => ?_) AllReadyH.nil
  go_simp
  have hb : Below w4.heap.size w4 (w4.alloc (.cells #[.slice (some ⟨gG, 0, none⟩) 1 1, .bool false, .int .i64 0, .int .i64 0, .int .i64 0, .int .i64 0] 48)) := alloc_below w4 _
  have hm : BlkL w4.heap.size (memCs (.slice (some ⟨gG, 0, none⟩) 1 1) false 0 0 0 0) (w4.alloc (.cells #[.slice (some ⟨gG, 0, none⟩) 1 1, .bool false, .int .i64 0, .int .i64 0, .int .i64 0, .int .i64 0] 48)) := blkl_alloc w4 #[.slice (some ⟨gG, 0, none⟩) 1 1, .bool false, .int .i64 0, .int .i64 0, .int .i64 0, .int .i64 0] 48
  refine hK.out _ _ (Below.then hS hb) ?_
  clear hHeld hK
  intro hHeld
  replace hB := Below.then hB hb
  replace hS := Below.then hS hb
  replace hxo := hxo.below hb
  replace hR := hR.below pg_len hb
  replace hz := stab_blk _ _ _ _ hz hb
  have hM := MemO.of (by rw [hxg]; exact hok1) hxo hm ⟨hR, fun z hz => by rw [List.mem_singleton.1 hz]; exact own_at hxo⟩
  clear hb hm hR
  generalize w4.alloc (.cells #[.slice (some ⟨gG, 0, none⟩) 1 1, .bool false, .int .i64 0, .int .i64 0, .int .i64 0, .int .i64 0] 48) = w5 at *
  generalize w4.heap.size = bm at *
  (try simp only [Act.put, sA, sB, sC])
  refine wpAnyH_take (i := 9) (v := ?_) (by simp only [gA, gB, gC]; rfl) (by kernel_rfl) (by kernel_rfl) (by kernel_rfl) (by exact fun _ _ _ h => h) (Or.inl ⟨by rfl, ?_⟩) (by assumption) ?_; rotate_left; (focus (intro w hSw; (try dsimp only at hSw); go_simp; try with_reducible rfl)); (try simp only [Act.put, sA, sB, sC])
  refine wpAnyH_ready (rs := [10]) (by kernel_rfl) (by simp) ?_
  refine AllReadyH.cons (by simp only [gA, gB, gC]; rfl) (fun K hK => ?_) AllReadyH.nil
  go_simp
  go_at_call 11
  refine (cstepV { newC with a := a } hCok nilS hM (SV.nil _) (okC { newC with a := a, off := NN }) (by rw [show [x].map (·.g) = [oneG [⟨14, 0, NN⟩] []] by simp [hxg]]; exact hst)).mono ?_
  rintro e w6 hP
  obtain ⟨vA, rfl, hoA, hb⟩ := hP.okE
  have hvA := SV.own hoA
  replace hB := Below.then hB hb
  replace hS := Below.then hS hb
  replace hz := stab_blk _ _ _ _ hz hb
  clear hb hP hoA hM hxo
  refine hK.out _ _ (hS) ?_
  clear hHeld hK
  intro hHeld
  (try simp only [Act.put, sA, sB, sC])
  refine wpAnyH_take (i := 11) (v := ?_) (by simp only [gA, gB, gC]; rfl) (by kernel_rfl) (by kernel_rfl) (by kernel_rfl) (by exact fun _ _ _ h => h) (Or.inl ⟨by rfl, ?_⟩) (by assumption) ?_; rotate_left; (focus (intro w hSw; (try dsimp only at hSw); go_simp; try with_reducible rfl)); (try simp only [Act.put, sA, sB, sC])
  refine wpAnyH_take (i := 12) (v := ?_) (by simp only [gA, gB, gC]; rfl) (by kernel_rfl) (by kernel_rfl) (by kernel_rfl) (by exact fun _ _ _ h => h) (Or.inl ⟨by rfl, ?_⟩) (by assumption) ?_; rotate_left; (focus (intro w hSw; (try dsimp only at hSw); go_simp; try with_reducible rfl)); (try simp only [Act.put, sA, sB, sC])
  refine wpAnyH_take (i := 13) (v := ?_) (by simp only [gA, gB, gC]; rfl) (by kernel_rfl) (by kernel_rfl) (by kernel_rfl) (by exact fun _ _ _ h => h) (Or.inl ⟨by rfl, ?_⟩) (by assumption) ?_; rotate_left; (focus (intro w hSw; (try dsimp only at hSw); go_simp; try with_reducible rfl)); (try simp only [Act.put, sA, sB, sC])
  refine wpAnyH_take (i := 14) (v := ?_) (by simp only [gA, gB, gC]; rfl) (by kernel_rfl) (by kernel_rfl) (by kernel_rfl) (by exact fun _ _ _ h => h) (Or.inl ⟨by rfl, ?_⟩) (by assumption) ?_; rotate_left; (focus (intro w hSw; (try dsimp only at hSw); go_simp; try with_reducible rfl)); (try simp only [Act.put, sA, sB, sC])
  refine wpAnyH_take (i := 15) (v := ?_) (by simp only [gA, gB, gC]; rfl) (by kernel_rfl) (by kernel_rfl) (by kernel_rfl) (by exact fun _ _ _ h => h) (Or.inl ⟨by rfl, ?_⟩) (by assumption) ?_; rotate_left; (focus (intro w hSw; (try dsimp only at hSw); go_simp; try with_reducible rfl)); (try simp only [Act.put, sA, sB, sC])
  refine wpAnyH_ready (rs := [17]) (by kernel_rfl) (by simp) ?_
  refine AllReadyH.cons (by simp only [gA, gB, gC]; rfl) (fun K hK => ?_) AllReadyH.nil
  obtain ⟨W7, hW7, hth7, hs7, hk7⟩ := put_st (show StAt gz zeroC nilS w6 from ⟨rfl, hz⟩) (d := { newC with a := a, off := NN }) rfl vA
  have hB7 := hk7 _ _ hgz hB
  have hS7 := hk7 _ _ hgS hS
  have hone7 := st_one { newC with a := a, off := NN } vA hvA.one
  have hsz7 : (Try.prog.info? 29).map (·.size) = some (stCs { newC with a := a, off := NN } vA).length := by rw [st_len (show ({ newC with a := a, off := NN }).ps.length = 4 from rfl)]; exact hszS
  refine step_store_rowC rfl _ _ rfl gz rfl (stCs { newC with a := a, off := NN } vA) rfl hth7 hsz7 hone7 hW7 ?_
  (try simp only [Act.put, sA, sB, sC])
  refine hK.out _ _ (hS7) ?_
  clear hHeld hK
  intro hHeld
  (try simp only [Act.put, sA, sB, sC])
  refine wpAnyH_take (i := 18) (v := ?_) (by simp only [gA, gB, gC]; rfl) (by kernel_rfl) (by kernel_rfl) (by kernel_rfl) (by exact fun _ _ _ h => h) (Or.inl ⟨by rfl, ?_⟩) (by assumption) ?_; rotate_left; (focus (intro w hSw; (try dsimp only at hSw); go_simp; try with_reducible rfl)); (try simp only [Act.put, sA, sB, sC])
  refine wpAnyH_take (i := 19) (v := ?_) (by simp only [gA, gB, gC]; rfl) (by kernel_rfl) (by kernel_rfl) (by kernel_rfl) (by exact fun _ _ _ h => h) (Or.inl ⟨by rfl, ?_⟩) (by assumption) ?_; rotate_left; (focus (intro w hSw; (try dsimp only at hSw); go_simp; try with_reducible rfl)); (try simp only [Act.put, sA, sB, sC])
  refine wpAnyH_take (i := 20) (v := ?_) (by simp only [gA, gB, gC]; rfl) (by kernel_rfl) (by kernel_rfl) (by kernel_rfl) (by exact fun _ _ _ h => h) (Or.inl ⟨by rfl, ?_⟩) (by assumption) ?_; rotate_left; (focus (intro w hSw; (try dsimp only at hSw); go_simp; try with_reducible rfl)); (try simp only [Act.put, sA, sB, sC])
  refine wpAnyH_done (by kernel_rfl) ?_ _
  have z1 := hs7.off
  have z2 := hs7.ring
  have z3 := hs7.a
  clear hs7 hW7 hth7 hk7 hone7 hsz7 hz hS7 hS hB
  go_wp2_with fail
  go_ret
  exact ⟨rfl, hB7⟩
set_option maxRecDepth 8000 in
set_option maxHeartbeats 8000000 in
theorem cpuJumpsB (a op n NN : Int) (hk : op % 3 = 1) (hN : n % 1048576 - 524288 = NN) (hz : a = 0) (ha : fit64 a) (w : World) :
    Calls Try.prog 3 #[.int .i64 a, .int .i64 op, .int .i64 n] w fun e w' => e = .returned (.bool true) ∧ Below w.heap.size w w' := by
  have hundS := Try.underlying29
  have hszS : (Try.prog.info? 29).map (·.size) = some 18 := by kernel_rfl
  have hszC : (Try.prog.info? 29).map (·.size) = some (stCs { newC with a := a } nilS).length := hszS
  have hmi : ∀ (v : Value) (w : World), (Instr.makeInterface 34 v).run Try.prog w = .ok (.iface 34 v) w := fun _ _ => rfl
  have kw := fun W : World => w16_any op 3 (by decide) (by decide) W
  simp only [hk] at kw
  have kn := fun W : World => w16_any n 1048576 (by decide) (by decide) W
  have hn0 := Int.emod_nonneg n (by decide : (1048576 : Int) ≠ 0)
  have hn1 := Int.emod_lt_of_pos n (by decide : (0 : Int) < 1048576)
  have hst0 := jmp_step a 15 NN (by decide) (by decide) (by omega) (by omega)
  have hst : stepC { newC with a := a } [oneG [⟨15, 0, NN⟩] []] = okC { newC with a := a, off := NN } := by
    rw [hst0]
    exact congrArg okC (if_pos (.inr (.inl ⟨rfl, hz⟩)))
  have hwr : IntKind.i64.wrap (n % 1048576 - 524288) = NN := by rw [IntKind.wrap_i64]; omega
  have hok1 : (oneG [⟨15, 0, NN⟩] []).Ok := one_ok (fun z hz => by simp at hz) (by show 1 + 0 ≤ 1000; decide)
  have hCok : Cp.Ok { newC with a := a } := ⟨rfl, newC_ok.pp, newC_ok.ring, ha, newC_ok.st, newC_ok.sr⟩
  generalize n % 1048576 = nm at *
  have q1 : (a == 0) = true := by simpa using hz
  replace hN : Aside (nm - 524288 = NN) := hN
  clear hk hst0 hn0 hn1 hz
  go_enter Try.func3, Try.ntmps3
  go_wp2_with fail
  refine (ck_any w).mono ?_
  rintro e W1 ⟨rfl, hB1⟩
  go_wp2_with fail
  refine (kw W1).mono ?_
  rintro e W2 ⟨rfl, hw2⟩
  rw [hw2]
  go_wp2_with fail
  refine (kn W1).mono ?_
  rintro e W3 ⟨rfl, hw3⟩
  rw [hw3]
  clear kw kn hw2 hw3 W2 W3
  go_wp2_with fail
  refine (cnew_any W1).mono ?_
  rintro e W6 ⟨rfl, hb6⟩
  obtain ⟨W7, hW7, hth7, hs7, hb7⟩ := new_stC W6 newC rfl nilS
  have hB6 := Below.then hB1 hb6
  have y3 := hs7.a
  have yf := (hs7.blk.1 3 _ rfl).2
  have hs0 : StAt W6.heap.size { newC with a := a } nilS (W7.setCell ⟨W6.heap.size, 3, none⟩ (.int .i64 a)) := by
    have h1 := hs7.blk.1.set 3 (.int .i64 a) (by show 3 < 18; decide)
    exact ⟨rfl, h1, h1.lt rfl⟩
  have hB0 := (Below.then hB6 hb7).setCell (p := ⟨W6.heap.size, 3, none⟩) hB6.size (.int .i64 a)
  have hone7 : ∀ u ∈ stCs newC nilS, u.oneCell' = true := st_one _ _ rfl
  have hsz7 : (Try.prog.info? 29).map (·.size) = some (stCs newC nilS).length := by kernel_rfl
  obtain ⟨Y, hY⟩ : ∃ Y, stCs newC nilS = Y := ⟨_, rfl⟩
  rw [hY] at hW7 hth7 hone7 hsz7
  have hYv : Aside (.agg (stCs newC nilS).toArray = Value.agg Y.toArray) := by rw [hY]; exact rfl
  clear hY hb6 hb7 hs7 hB6
  go_upto_region 6 with (first | (refine wpList_store_row rfl _ _ rfl W6.heap.size rfl Y hYv.out hth7 hsz7 hone7 hW7 ?_) | fail)
  clear hW7 hth7 hone7 hsz7 hYv y3 yf
  generalize W7.setCell ⟨W6.heap.size, 3, none⟩ (.int .i64 a) = Z at *
  generalize W6.heap.size = bs at *
  have hS := (Below.refl Z.heap.size Z).drew
  have hB := Below.then hB0 hS
  clear hB0
  refine wp_region_held_drew (S := (fun W => Below Z.heap.size Z W)) (by kernel_rfl) (by exact hS) ?_
  intro hHeld
  generalize Z.drew = w0 at *
  refine wpAnyH_take (i := 0) (v := _) (by simp only [gA, gB, gC]; rfl) (by kernel_rfl) (by kernel_rfl) (by kernel_rfl) (by exact fun _ _ _ h => h) (yields_row (by rfl) _ rfl bs rfl (stCs { newC with a := a } nilS) (fun _ q => (hs0.keep q).blk.range) hundS rfl hszC) (by assumption) ?_; (try simp only [Act.put, sA, sB, sC])
  refine wpAnyH_take (i := 1) (v := ?_) (by simp only [gA, gB, gC]; rfl) (by kernel_rfl) (by kernel_rfl) (by kernel_rfl) (by exact fun _ _ _ h => h) (Or.inl ⟨by rfl, ?_⟩) (by assumption) ?_; rotate_left; (focus (intro w hSw; (try dsimp only at hSw); go_simp; try with_reducible rfl)); (try simp only [Act.put, sA, sB, sC])
  refine wpAnyH_take (i := 2) (v := ?_) (by simp only [gA, gB, gC]; rfl) (by kernel_rfl) (by kernel_rfl) (by kernel_rfl) (by exact fun _ _ _ h => h) (Or.inl ⟨by rfl, ?_⟩) (by assumption) ?_; rotate_left; (focus (intro w hSw; (try dsimp only at hSw); go_simp; try with_reducible rfl)); (try simp only [Act.put, sA, sB, sC])
  refine wpAnyH_take (i := 3) (v := ?_) (by simp only [gA, gB, gC]; rfl) (by kernel_rfl) (by kernel_rfl) (by kernel_rfl) (by exact fun _ _ _ h => h) (Or.inl ⟨by rfl, ?_⟩) (by assumption) ?_; rotate_left; (focus (intro w hSw; (try dsimp only at hSw); go_simp; try with_reducible rfl)); (try simp only [Act.put, sA, sB, sC])
  refine wpAnyH_ready (rs := [4, 16]) (by kernel_rfl) (by simp) ?_
  refine AllReadyH.cons (by simp only [gA, gB, gC]; rfl) (fun K hK => ?_) ?_
  · skip
    have hb := alloc_below w0 (.cells (ins3 ⟨15, 0, NN⟩).toArray 42)
    have hI := row_list (f := ins3) (sz := 3) (fun _ => rfl) w0 [⟨15, 0, NN⟩] (ins3 ⟨15, 0, NN⟩).toArray (by simp) 42
    refine step_build1 in_okC (by decide) rfl _ rfl (ins3 ⟨15, 0, NN⟩) rfl rfl ?_
    (try simp only [Act.put, sA, sB, sC])
    refine hK.out _ _ (Below.then hS hb) ?_
    clear hHeld hK
    intro hHeld
    replace hB := Below.then hB hb
    replace hS := Below.then hS hb
    clear hb
    generalize w0.alloc (.cells (ins3 ⟨15, 0, NN⟩).toArray 42) = w1 at *
    generalize w0.heap.size = gI at *
    (try simp only [Act.put, sA, sB, sC])
    refine wpAnyH_ready (rs := [5, 16]) (by kernel_rfl) (by simp) ?_
    refine AllReadyH.cons (by simp only [gA, gB, gC]; rfl) (fun K hK => ?_) ?_
    · go_simp
      go_at_call 12
      refine (cone_any [⟨15, 0, NN⟩] [] (some ⟨gI, 0, none⟩) none 1 0 (by show 1 ≤ 100; decide) (by show 0 ≤ 100; decide) (fun _ => rfl) w1 hI (fun j y h => by simp at h)).mono ?_
      rintro e w2 ⟨x, hxg, rfl, hxo, hb⟩
      replace hB := Below.then hB hb
      replace hS := Below.then hS hb
      clear hb hI
      refine hK.out _ _ (hS) ?_
      clear hHeld hK
      intro hHeld
      (try simp only [Act.put, sA, sB, sC])
      refine wpAnyH_ready (rs := [6, 16]) (by kernel_rfl) (by simp) ?_
      refine AllReadyH.cons (by simp only [gA, gB, gC]; rfl) (fun K hK => ?_) ?_
      · skip
        have hb := alloc_below w2 (.cells x.cs.toArray 39)
        have hR := row_list pg_len w2 [x] x.cs.toArray (by simp) 39
        refine step_build1 pg_okC (by decide) rfl _ rfl x.cs rfl rfl ?_
        (try simp only [Act.put, sA, sB, sC])
        refine hK.out _ _ (Below.then hS hb) ?_
        clear hHeld hK
        intro hHeld
        replace hB := Below.then hB hb
        replace hS := Below.then hS hb
        replace hxo := hxo.below hb
        clear hb
        generalize w2.alloc (.cells x.cs.toArray 39) = w3 at *
        generalize w2.heap.size = gG at *
        (try simp only [Act.put, sA, sB, sC])
        refine wpAnyH_take (i := 7) (v := ?_) (by simp only [gA, gB, gC]; rfl) (by kernel_rfl) (by kernel_rfl) (by kernel_rfl) (by exact fun _ _ _ h => h) (Or.inl ⟨by rfl, ?_⟩) (by assumption) ?_; rotate_left; (focus (intro w hSw; (try dsimp only at hSw); go_simp; try with_reducible rfl)); (try simp only [Act.put, sA, sB, sC])
        refine wpAnyH_ready (rs := [8, 16]) (by kernel_rfl) (by simp) ?_
        refine AllReadyH.cons (by simp only [gA, gB, gC]; rfl) (fun K hK => ?_) ?_
        · go_simp
          have hb : Below w3.heap.size w3 (w3.alloc (.cells #[.slice (some ⟨gG, 0, none⟩) 1 1, .bool false, .int .i64 0, .int .i64 0, .int .i64 0, .int .i64 0] 48)) := alloc_below w3 _
          have hm : BlkL w3.heap.size (memCs (.slice (some ⟨gG, 0, none⟩) 1 1) false 0 0 0 0) (w3.alloc (.cells #[.slice (some ⟨gG, 0, none⟩) 1 1, .bool false, .int .i64 0, .int .i64 0, .int .i64 0, .int .i64 0] 48)) := blkl_alloc w3 #[.slice (some ⟨gG, 0, none⟩) 1 1, .bool false, .int .i64 0, .int .i64 0, .int .i64 0, .int .i64 0] 48
          refine hK.out _ _ (Below.then hS hb) ?_
          clear hHeld hK
          intro hHeld
          replace hB := Below.then hB hb
          replace hS := Below.then hS hb
          replace hxo := hxo.below hb
          replace hR := hR.below pg_len hb
          have hM := MemO.of (by rw [hxg]; exact hok1) hxo hm ⟨hR, fun z hz => by rw [List.mem_singleton.1 hz]; exact own_at hxo⟩
          clear hb hm hR
          generalize w3.alloc (.cells #[.slice (some ⟨gG, 0, none⟩) 1 1, .bool false, .int .i64 0, .int .i64 0, .int .i64 0, .int .i64 0] 48) = w4 at *
          generalize w3.heap.size = bm at *
          (try simp only [Act.put, sA, sB, sC])
          refine wpAnyH_take (i := 9) (v := ?_) (by simp only [gA, gB, gC]; rfl) (by kernel_rfl) (by kernel_rfl) (by kernel_rfl) (by exact fun _ _ _ h => h) (Or.inl ⟨by rfl, ?_⟩) (by assumption) ?_; rotate_left; (focus (intro w hSw; (try dsimp only at hSw); go_simp; try with_reducible rfl)); (try simp only [Act.put, sA, sB, sC])
          refine wpAnyH_ready (rs := [10, 16]) (by kernel_rfl) (by simp) ?_
          refine AllReadyH.cons (by simp only [gA, gB, gC]; rfl) (fun K hK => ?_) ?_
          · go_simp
            go_at_call 11
            refine (cstepV { newC with a := a } hCok nilS hM (SV.nil _) (okC { newC with a := a, off := NN }) (by rw [show [x].map (·.g) = [oneG [⟨15, 0, NN⟩] []] by simp [hxg]]; exact hst)).mono ?_
            rintro e w5 hP
            obtain ⟨vA, rfl, hoA, hb⟩ := hP.okE
            have hvA := SV.own hoA
            replace hB := Below.then hB hb
            replace hS := Below.then hS hb
            clear hb hP hoA hM hxo
            refine hK.out _ _ (hS) ?_
            clear hHeld hK
            intro hHeld
            (try simp only [Act.put, sA, sB, sC])
            refine wpAnyH_take (i := 11) (v := ?_) (by simp only [gA, gB, gC]; rfl) (by kernel_rfl) (by kernel_rfl) (by kernel_rfl) (by exact fun _ _ _ h => h) (Or.inl ⟨by rfl, ?_⟩) (by assumption) ?_; rotate_left; (focus (intro w hSw; (try dsimp only at hSw); go_simp; try with_reducible rfl)); (try simp only [Act.put, sA, sB, sC])
            refine wpAnyH_take (i := 12) (v := ?_) (by simp only [gA, gB, gC]; rfl) (by kernel_rfl) (by kernel_rfl) (by kernel_rfl) (by exact fun _ _ _ h => h) (Or.inl ⟨by rfl, ?_⟩) (by assumption) ?_; rotate_left; (focus (intro w hSw; (try dsimp only at hSw); go_simp; try with_reducible rfl)); (try simp only [Act.put, sA, sB, sC])
            refine wpAnyH_take (i := 13) (v := ?_) (by simp only [gA, gB, gC]; rfl) (by kernel_rfl) (by kernel_rfl) (by kernel_rfl) (by exact fun _ _ _ h => h) (Or.inl ⟨by rfl, ?_⟩) (by assumption) ?_; rotate_left; (focus (intro w hSw; (try dsimp only at hSw); go_simp; try with_reducible rfl)); (try simp only [Act.put, sA, sB, sC])
            refine wpAnyH_take (i := 14) (v := ?_) (by simp only [gA, gB, gC]; rfl) (by kernel_rfl) (by kernel_rfl) (by kernel_rfl) (by exact fun _ _ _ h => h) (Or.inl ⟨by rfl, ?_⟩) (by assumption) ?_; rotate_left; (focus (intro w hSw; (try dsimp only at hSw); go_simp; try with_reducible rfl)); (try simp only [Act.put, sA, sB, sC])
            refine wpAnyH_take (i := 15) (v := ?_) (by simp only [gA, gB, gC]; rfl) (by kernel_rfl) (by kernel_rfl) (by kernel_rfl) (by exact fun _ _ _ h => h) (Or.inl ⟨by rfl, ?_⟩) (by assumption) ?_; rotate_left; (focus (intro w hSw; (try dsimp only at hSw); go_simp; try with_reducible rfl)); (try simp only [Act.put, sA, sB, sC])
            refine wpAnyH_ready (rs := [16]) (by kernel_rfl) (by simp) ?_
            refine AllReadyH.cons (by simp only [gA, gB, gC]; rfl) (fun K hK => ?_) AllReadyH.nil
            have hb := alloc_below w5 (.cells zS 29)
            have hz : BlkL w5.heap.size (stCs zeroC nilS) (w5.alloc (.cells zS 29)) := blkl_alloc w5 (stCs zeroC nilS).toArray 29
            have hgz := hB.size
            have hSz := hS.size
            refine step_allocC (z := zS) rfl rfl (fun _ => rfl) ?_
            (try simp only [Act.put, sA, sB, sC])
            refine hK.out _ _ (Below.then hS hb) ?_
            clear hHeld hK
            intro hHeld
            replace hB := Below.then hB hb
            replace hS := Below.then hS hb
            replace hvA := hvA.below hb
            clear hb
            have hgS : Z.heap.size ≤ w5.heap.size := hSz
            generalize w5.alloc (.cells zS 29) = w6 at *
            generalize w5.heap.size = gz at *
            (try simp only [Act.put, sA, sB, sC])
            refine wpAnyH_ready (rs := [17]) (by kernel_rfl) (by simp) ?_
            refine AllReadyH.cons (by simp only [gA, gB, gC]; rfl) (fun K hK => ?_) AllReadyH.nil
            obtain ⟨W7, hW7, hth7, hs7, hk7⟩ := put_st (show StAt gz zeroC nilS w6 from ⟨rfl, hz⟩) (d := { newC with a := a, off := NN }) rfl vA
            have hB7 := hk7 _ _ hgz hB
            have hS7 := hk7 _ _ hgS hS
            have hone7 := st_one { newC with a := a, off := NN } vA hvA.one
            have hsz7 : (Try.prog.info? 29).map (·.size) = some (stCs { newC with a := a, off := NN } vA).length := by rw [st_len (show ({ newC with a := a, off := NN }).ps.length = 4 from rfl)]; exact hszS
            refine step_store_rowC rfl _ _ rfl gz rfl (stCs { newC with a := a, off := NN } vA) rfl hth7 hsz7 hone7 hW7 ?_
            (try simp only [Act.put, sA, sB, sC])
            refine hK.out _ _ (hS7) ?_
            clear hHeld hK
            intro hHeld
            (try simp only [Act.put, sA, sB, sC])
            refine wpAnyH_take (i := 18) (v := ?_) (by simp only [gA, gB, gC]; rfl) (by kernel_rfl) (by kernel_rfl) (by kernel_rfl) (by exact fun _ _ _ h => h) (Or.inl ⟨by rfl, ?_⟩) (by assumption) ?_; rotate_left; (focus (intro w hSw; (try dsimp only at hSw); go_simp; try with_reducible rfl)); (try simp only [Act.put, sA, sB, sC])
            refine wpAnyH_take (i := 19) (v := ?_) (by simp only [gA, gB, gC]; rfl) (by kernel_rfl) (by kernel_rfl) (by kernel_rfl) (by exact fun _ _ _ h => h) (Or.inl ⟨by rfl, ?_⟩) (by assumption) ?_; rotate_left; (focus (intro w hSw; (try dsimp only at hSw); go_simp; try with_reducible rfl)); (try simp only [Act.put, sA, sB, sC])
            refine wpAnyH_take (i := 20) (v := ?_) (by simp only [gA, gB, gC]; rfl) (by kernel_rfl) (by kernel_rfl) (by kernel_rfl) (by exact fun _ _ _ h => h) (Or.inl ⟨by rfl, ?_⟩) (by assumption) ?_; rotate_left; (focus (intro w hSw; (try dsimp only at hSw); go_simp; try with_reducible rfl)); (try simp only [Act.put, sA, sB, sC])
            refine wpAnyH_done (by kernel_rfl) ?_ _
            have z1 := hs7.off
            have z2 := hs7.ring
            have z3 := hs7.a
            clear hs7 hW7 hth7 hk7 hone7 hsz7 hz hS7 hS hB
            go_wp2_with fail
            go_ret
            exact ⟨rfl, hB7⟩
          refine AllReadyH.cons (by simp only [gA, gB, gC]; rfl) (fun K hK => ?_) AllReadyH.nil
          have hb := alloc_below w4 (.cells zS 29)
          have hz : BlkL w4.heap.size (stCs zeroC nilS) (w4.alloc (.cells zS 29)) := blkl_alloc w4 (stCs zeroC nilS).toArray 29
          have hgz := hB.size
          have hSz := hS.size
          refine step_allocC (z := zS) rfl rfl (fun _ => rfl) ?_
          (try simp only [Act.put, sA, sB, sC])
          refine hK.out _ _ (Below.then hS hb) ?_
          clear hHeld hK
          intro hHeld
          replace hB := Below.then hB hb
          replace hS := Below.then hS hb
          replace hxo := hxo.below hb
          replace hM := hM.below hb
          clear hb
          have hgS : Z.heap.size ≤ w4.heap.size := hSz
          generalize w4.alloc (.cells zS 29) = w5 at *
          generalize w4.heap.size = gz at *
          (try simp only [Act.put, sA, sB, sC])
          refine wpAnyH_ready (rs := [10]) (by kernel_rfl) (by simp) ?_
          refine AllReadyH.cons (by simp only [gA, gB, gC]; rfl) (fun K hK => ?_) AllReadyH.nil
          go_simp
          go_at_call 11
          refine (cstepV { newC with a := a } hCok nilS hM (SV.nil _) (okC { newC with a := a, off := NN }) (by rw [show [x].map (·.g) = [oneG [⟨15, 0, NN⟩] []] by simp [hxg]]; exact hst)).mono ?_
          rintro e w6 hP
          obtain ⟨vA, rfl, hoA, hb⟩ := hP.okE
          have hvA := SV.own hoA
          replace hB := Below.then hB hb
          replace hS := Below.then hS hb
          replace hz := stab_blk _ _ _ _ hz hb
          clear hb hP hoA hM hxo
          refine hK.out _ _ (hS) ?_
          clear hHeld hK
          intro hHeld
          (try simp only [Act.put, sA, sB, sC])
          refine wpAnyH_take (i := 11) (v := ?_) (by simp only [gA, gB, gC]; rfl) (by kernel_rfl) (by kernel_rfl) (by kernel_rfl) (by exact fun _ _ _ h => h) (Or.inl ⟨by rfl, ?_⟩) (by assumption) ?_; rotate_left; (focus (intro w hSw; (try dsimp only at hSw); go_simp; try with_reducible rfl)); (try simp only [Act.put, sA, sB, sC])
          refine wpAnyH_take (i := 12) (v := ?_) (by simp only [gA, gB, gC]; rfl) (by kernel_rfl) (by kernel_rfl) (by kernel_rfl) (by exact fun _ _ _ h => h) (Or.inl ⟨by rfl, ?_⟩) (by assumption) ?_; rotate_left; (focus (intro w hSw; (try dsimp only at hSw); go_simp; try with_reducible rfl)); (try simp only [Act.put, sA, sB, sC])
          refine wpAnyH_take (i := 13) (v := ?_) (by simp only [gA, gB, gC]; rfl) (by kernel_rfl) (by kernel_rfl) (by kernel_rfl) (by exact fun _ _ _ h => h) (Or.inl ⟨by rfl, ?_⟩) (by assumption) ?_; rotate_left; (focus (intro w hSw; (try dsimp only at hSw); go_simp; try with_reducible rfl)); (try simp only [Act.put, sA, sB, sC])
          refine wpAnyH_take (i := 14) (v := ?_) (by simp only [gA, gB, gC]; rfl) (by kernel_rfl) (by kernel_rfl) (by kernel_rfl) (by exact fun _ _ _ h => h) (Or.inl ⟨by rfl, ?_⟩) (by assumption) ?_; rotate_left; (focus (intro w hSw; (try dsimp only at hSw); go_simp; try with_reducible rfl)); (try simp only [Act.put, sA, sB, sC])
          refine wpAnyH_take (i := 15) (v := ?_) (by simp only [gA, gB, gC]; rfl) (by kernel_rfl) (by kernel_rfl) (by kernel_rfl) (by exact fun _ _ _ h => h) (Or.inl ⟨by rfl, ?_⟩) (by assumption) ?_; rotate_left; (focus (intro w hSw; (try dsimp only at hSw); go_simp; try with_reducible rfl)); (try simp only [Act.put, sA, sB, sC])
          refine wpAnyH_ready (rs := [17]) (by kernel_rfl) (by simp) ?_
          refine AllReadyH.cons (by simp only [gA, gB, gC]; rfl) (fun K hK => ?_) AllReadyH.nil
          obtain ⟨W7, hW7, hth7, hs7, hk7⟩ := put_st (show StAt gz zeroC nilS w6 from ⟨rfl, hz⟩) (d := { newC with a := a, off := NN }) rfl vA
          have hB7 := hk7 _ _ hgz hB
          have hS7 := hk7 _ _ hgS hS
          have hone7 := st_one { newC with a := a, off := NN } vA hvA.one
          have hsz7 : (Try.prog.info? 29).map (·.size) = some (stCs { newC with a := a, off := NN } vA).length := by rw [st_len (show ({ newC with a := a, off := NN }).ps.length = 4 from rfl)]; exact hszS
          refine step_store_rowC rfl _ _ rfl gz rfl (stCs { newC with a := a, off := NN } vA) rfl hth7 hsz7 hone7 hW7 ?_
          (try simp only [Act.put, sA, sB, sC])
          refine hK.out _ _ (hS7) ?_
          clear hHeld hK
          intro hHeld
          (try simp only [Act.put, sA, sB, sC])
          refine wpAnyH_take (i := 18) (v := ?_) (by simp only [gA, gB, gC]; rfl) (by kernel_rfl) (by kernel_rfl) (by kernel_rfl) (by exact fun _ _ _ h => h) (Or.inl ⟨by rfl, ?_⟩) (by assumption) ?_; rotate_left; (focus (intro w hSw; (try dsimp only at hSw); go_simp; try with_reducible rfl)); (try simp only [Act.put, sA, sB, sC])
          refine wpAnyH_take (i := 19) (v := ?_) (by simp only [gA, gB, gC]; rfl) (by kernel_rfl) (by kernel_rfl) (by kernel_rfl) (by exact fun _ _ _ h => h) (Or.inl ⟨by rfl, ?_⟩) (by assumption) ?_; rotate_left; (focus (intro w hSw; (try dsimp only at hSw); go_simp; try with_reducible rfl)); (try simp only [Act.put, sA, sB, sC])
          refine wpAnyH_take (i := 20) (v := ?_) (by simp only [gA, gB, gC]; rfl) (by kernel_rfl) (by kernel_rfl) (by kernel_rfl) (by exact fun _ _ _ h => h) (Or.inl ⟨by rfl, ?_⟩) (by assumption) ?_; rotate_left; (focus (intro w hSw; (try dsimp only at hSw); go_simp; try with_reducible rfl)); (try simp only [Act.put, sA, sB, sC])
          refine wpAnyH_done (by kernel_rfl) ?_ _
          have z1 := hs7.off
          have z2 := hs7.ring
          have z3 := hs7.a
          clear hs7 hW7 hth7 hk7 hone7 hsz7 hz hS7 hS hB
          go_wp2_with fail
          go_ret
          exact ⟨rfl, hB7⟩
        refine AllReadyH.cons (by simp only [gA, gB, gC]; rfl) (fun K hK => ?_) AllReadyH.nil
        have hb := alloc_below w3 (.cells zS 29)
        have hz : BlkL w3.heap.size (stCs zeroC nilS) (w3.alloc (.cells zS 29)) := blkl_alloc w3 (stCs zeroC nilS).toArray 29
        have hgz := hB.size
        have hSz := hS.size
        refine step_allocC (z := zS) rfl rfl (fun _ => rfl) ?_
        (try simp only [Act.put, sA, sB, sC])
        refine hK.out _ _ (Below.then hS hb) ?_
        clear hHeld hK
        intro hHeld
        replace hB := Below.then hB hb
        replace hS := Below.then hS hb
        replace hxo := hxo.below hb
        replace hR := hR.below pg_len hb
        clear hb
        have hgS : Z.heap.size ≤ w3.heap.size := hSz
        generalize w3.alloc (.cells zS 29) = w4 at *
        generalize w3.heap.size = gz at *
        (try simp only [Act.put, sA, sB, sC])
        refine wpAnyH_ready (rs := [8]) (by kernel_rfl) (by simp) ?_
        refine AllReadyH.cons (by simp only [gA, gB, gC]; rfl) (fun K hK => ?_) AllReadyH.nil
        go_simp
        have hb : Below w4.heap.size w4 (w4.alloc (.cells #[.slice (some ⟨gG, 0, none⟩) 1 1, .bool false, .int .i64 0, .int .i64 0, .int .i64 0, .int .i64 0] 48)) := alloc_below w4 _
        have hm : BlkL w4.heap.size (memCs (.slice (some ⟨gG, 0, none⟩) 1 1) false 0 0 0 0) (w4.alloc (.cells #[.slice (some ⟨gG, 0, none⟩) 1 1, .bool false, .int .i64 0, .int .i64 0, .int .i64 0, .int .i64 0] 48)) := blkl_alloc w4 #[.slice (some ⟨gG, 0, none⟩) 1 1, .bool false, .int .i64 0, .int .i64 0, .int .i64 0, .int .i64 0] 48
        refine hK.out _ _ (Below.then hS hb) ?_
        clear hHeld hK
        intro hHeld
        replace hB := Below.then hB hb
        replace hS := Below.then hS hb
        replace hxo := hxo.below hb
        replace hR := hR.below pg_len hb
        replace hz := stab_blk _ _ _ _ hz hb
        have hM := MemO.of (by rw [hxg]; exact hok1) hxo hm ⟨hR, fun z hz => by rw [List.mem_singleton.1 hz]; exact own_at hxo⟩
        clear hb hm hR
        generalize w4.alloc (.cells #[.slice (some ⟨gG, 0, none⟩) 1 1, .bool false, .int .i64 0, .int .i64 0, .int .i64 0, .int .i64 0] 48) = w5 at *
        generalize w4.heap.size = bm at *
        (try simp only [Act.put, sA, sB, sC])
        refine wpAnyH_take (i := 9) (v := ?_) (by simp only [gA, gB, gC]; rfl) (by kernel_rfl) (by kernel_rfl) (by kernel_rfl) (by exact fun _ _ _ h => h) (Or.inl ⟨by rfl, ?_⟩) (by assumption) ?_; rotate_left; (focus (intro w hSw; (try dsimp only at hSw); go_simp; try with_reducible rfl)); (try simp only [Act.put, sA, sB, sC])
        refine wpAnyH_ready (rs := [10]) (by kernel_rfl) (by simp) ?_
        refine AllReadyH.cons (by simp only [gA, gB, gC]; rfl) (fun K hK => ?_) AllReadyH.nil
        go_simp
        go_at_call 11
        refine (cstepV { newC with a := a } hCok nilS hM (SV.nil _) (okC { newC with a := a, off := NN }) (by rw [show [x].map (·.g) = [oneG [⟨15, 0, NN⟩] []] by simp [hxg]]; exact hst)).mono ?_
        rintro e w6 hP
        obtain ⟨vA, rfl, hoA, hb⟩ := hP.okE
        have hvA := SV.own hoA
        replace hB := Below.then hB hb
        replace hS := Below.then hS hb
        replace hz := stab_blk _ _ _ _ hz hb
        clear hb hP hoA hM hxo
        refine hK.out _ _ (hS) ?_
        clear hHeld hK
        intro hHeld
        (try simp only [Act.put, sA, sB, sC])
        refine wpAnyH_take (i := 11) (v := ?_) (by simp only [gA, gB, gC]; rfl) (by kernel_rfl) (by kernel_rfl) (by kernel_rfl) (by exact fun _ _ _ h => h) (Or.inl ⟨by rfl, ?_⟩) (by assumption) ?_; rotate_left; (focus (intro w hSw; (try dsimp only at hSw); go_simp; try with_reducible rfl)); (try simp only [Act.put, sA, sB, sC])
        refine wpAnyH_take (i := 12) (v := ?_) (by simp only [gA, gB, gC]; rfl) (by kernel_rfl) (by kernel_rfl) (by kernel_rfl) (by exact fun _ _ _ h => h) (Or.inl ⟨by rfl, ?_⟩) (by assumption) ?_; rotate_left; (focus (intro w hSw; (try dsimp only at hSw); go_simp; try with_reducible rfl)); (try simp only [Act.put, sA, sB, sC])
        refine wpAnyH_take (i := 13) (v := ?_) (by simp only [gA, gB, gC]; rfl) (by kernel_rfl) (by kernel_rfl) (by kernel_rfl) (by exact fun _ _ _ h => h) (Or.inl ⟨by rfl, ?_⟩) (by assumption) ?_; rotate_left; (focus (intro w hSw; (try dsimp only at hSw); go_simp; try with_reducible rfl)); (try simp only [Act.put, sA, sB, sC])
        refine wpAnyH_take (i := 14) (v := ?_) (by simp only [gA, gB, gC]; rfl) (by kernel_rfl) (by kernel_rfl) (by kernel_rfl) (by exact fun _ _ _ h => h) (Or.inl ⟨by rfl, ?_⟩) (by assumption) ?_; rotate_left; (focus (intro w hSw; (try dsimp only at hSw); go_simp; try with_reducible rfl)); (try simp only [Act.put, sA, sB, sC])
        refine wpAnyH_take (i := 15) (v := ?_) (by simp only [gA, gB, gC]; rfl) (by kernel_rfl) (by kernel_rfl) (by kernel_rfl) (by exact fun _ _ _ h => h) (Or.inl ⟨by rfl, ?_⟩) (by assumption) ?_; rotate_left; (focus (intro w hSw; (try dsimp only at hSw); go_simp; try with_reducible rfl)); (try simp only [Act.put, sA, sB, sC])
        refine wpAnyH_ready (rs := [17]) (by kernel_rfl) (by simp) ?_
        refine AllReadyH.cons (by simp only [gA, gB, gC]; rfl) (fun K hK => ?_) AllReadyH.nil
        obtain ⟨W7, hW7, hth7, hs7, hk7⟩ := put_st (show StAt gz zeroC nilS w6 from ⟨rfl, hz⟩) (d := { newC with a := a, off := NN }) rfl vA
        have hB7 := hk7 _ _ hgz hB
        have hS7 := hk7 _ _ hgS hS
        have hone7 := st_one { newC with a := a, off := NN } vA hvA.one
        have hsz7 : (Try.prog.info? 29).map (·.size) = some (stCs { newC with a := a, off := NN } vA).length := by rw [st_len (show ({ newC with a := a, off := NN }).ps.length = 4 from rfl)]; exact hszS
        refine step_store_rowC rfl _ _ rfl gz rfl (stCs { newC with a := a, off := NN } vA) rfl hth7 hsz7 hone7 hW7 ?_
        (try simp only [Act.put, sA, sB, sC])
        refine hK.out _ _ (hS7) ?_
        clear hHeld hK
        intro hHeld
        (try simp only [Act.put, sA, sB, sC])
        refine wpAnyH_take (i := 18) (v := ?_) (by simp only [gA, gB, gC]; rfl) (by kernel_rfl) (by kernel_rfl) (by kernel_rfl) (by exact fun _ _ _ h => h) (Or.inl ⟨by rfl, ?_⟩) (by assumption) ?_; rotate_left; (focus (intro w hSw; (try dsimp only at hSw); go_simp; try with_reducible rfl)); (try simp only [Act.put, sA, sB, sC])
        refine wpAnyH_take (i := 19) (v := ?_) (by simp only [gA, gB, gC]; rfl) (by kernel_rfl) (by kernel_rfl) (by kernel_rfl) (by exact fun _ _ _ h => h) (Or.inl ⟨by rfl, ?_⟩) (by assumption) ?_; rotate_left; (focus (intro w hSw; (try dsimp only at hSw); go_simp; try with_reducible rfl)); (try simp only [Act.put, sA, sB, sC])
        refine wpAnyH_take (i := 20) (v := ?_) (by simp only [gA, gB, gC]; rfl) (by kernel_rfl) (by kernel_rfl) (by kernel_rfl) (by exact fun _ _ _ h => h) (Or.inl ⟨by rfl, ?_⟩) (by assumption) ?_; rotate_left; (focus (intro w hSw; (try dsimp only at hSw); go_simp; try with_reducible rfl)); (try simp only [Act.put, sA, sB, sC])
        refine wpAnyH_done (by kernel_rfl) ?_ _
        have z1 := hs7.off
        have z2 := hs7.ring
        have z3 := hs7.a
        clear hs7 hW7 hth7 hk7 hone7 hsz7 hz hS7 hS hB
        go_wp2_with fail
        go_ret
        exact ⟨rfl, hB7⟩
      refine AllReadyH.cons (by simp only [gA, gB, gC]; rfl) (fun K hK => ?_) AllReadyH.nil
      have hb := alloc_below w2 (.cells zS 29)
      have hz : BlkL w2.heap.size (stCs zeroC nilS) (w2.alloc (.cells zS 29)) := blkl_alloc w2 (stCs zeroC nilS).toArray 29
      have hgz := hB.size
      have hSz := hS.size
      refine step_allocC (z := zS) rfl rfl (fun _ => rfl) ?_
      (try simp only [Act.put, sA, sB, sC])
      refine hK.out _ _ (Below.then hS hb) ?_
      clear hHeld hK
      intro hHeld
      replace hB := Below.then hB hb
      replace hS := Below.then hS hb
      replace hxo := hxo.below hb
      clear hb
      have hgS : Z.heap.size ≤ w2.heap.size := hSz
      generalize w2.alloc (.cells zS 29) = w3 at *
      generalize w2.heap.size = gz at *
      (try simp only [Act.put, sA, sB, sC])
      refine wpAnyH_ready (rs := [6]) (by kernel_rfl) (by simp) ?_
      refine AllReadyH.cons (by simp only [gA, gB, gC]; rfl) (fun K hK => ?_) AllReadyH.nil
      have hb := alloc_below w3 (.cells x.cs.toArray 39)
      have hR := row_list pg_len w3 [x] x.cs.toArray (by simp) 39
      refine step_build1 pg_okC (by decide) rfl _ rfl x.cs rfl rfl ?_
      (try simp only [Act.put, sA, sB, sC])
      refine hK.out _ _ (Below.then hS hb) ?_
      clear hHeld hK
      intro hHeld
      replace hB := Below.then hB hb
      replace hS := Below.then hS hb
      replace hxo := hxo.below hb
      replace hz := stab_blk _ _ _ _ hz hb
      clear hb
      generalize w3.alloc (.cells x.cs.toArray 39) = w4 at *
      generalize w3.heap.size = gG at *
      (try simp only [Act.put, sA, sB, sC])
      refine wpAnyH_take (i := 7) (v := ?_) (by simp only [gA, gB, gC]; rfl) (by kernel_rfl) (by kernel_rfl) (by kernel_rfl) (by exact fun _ _ _ h => h) (Or.inl ⟨by rfl, ?_⟩) (by assumption) ?_; rotate_left; (focus (intro w hSw; (try dsimp only at hSw); go_simp; try with_reducible rfl)); (try simp only [Act.put, sA, sB, sC])
      refine wpAnyH_ready (rs := [8]) (by kernel_rfl) (by simp) ?_
      refine AllReadyH.cons (by simp only [gA, gB, gC]; rfl) (fun K hK => ?_) AllReadyH.nil
      go_simp
      have hb : Below w4.heap.size w4 (w4.alloc (.cells #[.slice (some ⟨gG, 0, none⟩) 1 1, .bool false, .int .i64 0, .int .i64 0, .int .i64 0, .int .i64 0] 48)) := alloc_below w4 _
      have hm : BlkL w4.heap.size (memCs (.slice (some ⟨gG, 0, none⟩) 1 1) false 0 0 0 0) (w4.alloc (.cells #[.slice (some ⟨gG, 0, none⟩) 1 1, .bool false, .int .i64 0, .int .i64 0, .int .i64 0, .int .i64 0] 48)) := blkl_alloc w4 #[.slice (some ⟨gG, 0, none⟩) 1 1, .bool false, .int .i64 0, .int .i64 0, .int .i64 0, .int .i64 0] 48
      refine hK.out _ _ (Below.then hS hb) ?_
      clear hHeld hK
      intro hHeld
      replace hB := Below.then hB hb
      replace hS := Below.then hS hb
      replace hxo := hxo.below hb
      replace hR := hR.below pg_len hb
      replace hz := stab_blk _ _ _ _ hz hb
      have hM := MemO.of (by rw [hxg]; exact hok1) hxo hm ⟨hR, fun z hz => by rw [List.mem_singleton.1 hz]; exact own_at hxo⟩
      clear hb hm hR
      generalize w4.alloc (.cells #[.slice (some ⟨gG, 0, none⟩) 1 1, .bool false, .int .i64 0, .int .i64 0, .int .i64 0, .int .i64 0] 48) = w5 at *
      generalize w4.heap.size = bm at *
      (try simp only [Act.put, sA, sB, sC])
      refine wpAnyH_take (i := 9) (v := ?_) (by simp only [gA, gB, gC]; rfl) (by kernel_rfl) (by kernel_rfl) (by kernel_rfl) (by exact fun _ _ _ h => h) (Or.inl ⟨by rfl, ?_⟩) (by assumption) ?_; rotate_left; (focus (intro w hSw; (try dsimp only at hSw); go_simp; try with_reducible rfl)); (try simp only [Act.put, sA, sB, sC])
      refine wpAnyH_ready (rs := [10]) (by kernel_rfl) (by simp) ?_
      refine AllReadyH.cons (by simp only [gA, gB, gC]; rfl) (fun K hK => ?_) AllReadyH.nil
      go_simp
      go_at_call 11
      refine (cstepV { newC with a := a } hCok nilS hM (SV.nil _) (okC { newC with a := a, off := NN }) (by rw [show [x].map (·.g) = [oneG [⟨15, 0, NN⟩] []] by simp [hxg]]; exact hst)).mono ?_
      rintro e w6 hP
      obtain ⟨vA, rfl, hoA, hb⟩ := hP.okE
      have hvA := SV.own hoA
      replace hB := Below.then hB hb
      replace hS := Below.then hS hb
      replace hz := stab_blk _ _ _ _ hz hb
      clear hb hP hoA hM hxo
      refine hK.out _ _ (hS) ?_
      clear hHeld hK
      intro hHeld
      (try simp only [Act.put, sA, sB, sC])
      refine wpAnyH_take (i := 11) (v := ?_) (by simp only [gA, gB, gC]; rfl) (by kernel_rfl) (by kernel_rfl) (by kernel_rfl) (by exact fun _ _ _ h => h) (Or.inl ⟨by rfl, ?_⟩) (by assumption) ?_; rotate_left; (focus (intro w hSw; (try dsimp only at hSw); go_simp; try with_reducible rfl)); (try simp only [Act.put, sA, sB, sC])
      refine wpAnyH_take (i := 12) (v := ?_) (by simp only [gA, gB, gC]; rfl) (by kernel_rfl) (by kernel_rfl) (by kernel_rfl) (by exact fun _ _ _ h => h) (Or.inl ⟨by rfl, ?_⟩) (by assumption) ?_; rotate_left; (focus (intro w hSw; (try dsimp only at hSw); go_simp; try with_reducible rfl)); (try simp only [Act.put, sA, sB, sC])
      refine wpAnyH_take (i := 13) (v := ?_) (by simp only [gA, gB, gC]; rfl) (by kernel_rfl) (by kernel_rfl) (by kernel_rfl) (by exact fun _ _ _ h => h) (Or.inl ⟨by rfl, ?_⟩) (by assumption) ?_; rotate_left; (focus (intro w hSw; (try dsimp only at hSw); go_simp; try with_reducible rfl)); (try simp only [Act.put, sA, sB, sC])
      refine wpAnyH_take (i := 14) (v := ?_) (by simp only [gA, gB, gC]; rfl) (by kernel_rfl) (by kernel_rfl) (by kernel_rfl) (by exact fun _ _ _ h => h) (Or.inl ⟨by rfl, ?_⟩) (by assumption) ?_; rotate_left; (focus (intro w hSw; (try dsimp only at hSw); go_simp; try with_reducible rfl)); (try simp only [Act.put, sA, sB, sC])
      refine wpAnyH_take (i := 15) (v := ?_) (by simp only [gA, gB, gC]; rfl) (by kernel_rfl) (by kernel_rfl) (by kernel_rfl) (by exact fun _ _ _ h => h) (Or.inl ⟨by rfl, ?_⟩) (by assumption) ?_; rotate_left; (focus (intro w hSw; (try dsimp only at hSw); go_simp; try with_reducible rfl)); (try simp only [Act.put, sA, sB, sC])
      refine wpAnyH_ready (rs := [17]) (by kernel_rfl) (by simp) ?_
      refine AllReadyH.cons (by simp only [gA, gB, gC]; rfl) (fun K hK => ?_) AllReadyH.nil
      obtain ⟨W7, hW7, hth7, hs7, hk7⟩ := put_st (show StAt gz zeroC nilS w6 from ⟨rfl, hz⟩) (d := { newC with a := a, off := NN }) rfl vA
      have hB7 := hk7 _ _ hgz hB
      have hS7 := hk7 _ _ hgS hS
      have hone7 := st_one { newC with a := a, off := NN } vA hvA.one
      have hsz7 : (Try.prog.info? 29).map (·.size) = some (stCs { newC with a := a, off := NN } vA).length := by rw [st_len (show ({ newC with a := a, off := NN }).ps.length = 4 from rfl)]; exact hszS
      refine step_store_rowC rfl _ _ rfl gz rfl (stCs { newC with a := a, off := NN } vA) rfl hth7 hsz7 hone7 hW7 ?_
      (try simp only [Act.put, sA, sB, sC])
      refine hK.out _ _ (hS7) ?_
      clear hHeld hK
      intro hHeld
      (try simp only [Act.put, sA, sB, sC])
      refine wpAnyH_take (i := 18) (v := ?_) (by simp only [gA, gB, gC]; rfl) (by kernel_rfl) (by kernel_rfl) (by kernel_rfl) (by exact fun _ _ _ h => h) (Or.inl ⟨by rfl, ?_⟩) (by assumption) ?_; rotate_left; (focus (intro w hSw; (try dsimp only at hSw); go_simp; try with_reducible rfl)); (try simp only [Act.put, sA, sB, sC])
      refine wpAnyH_take (i := 19) (v := ?_) (by simp only [gA, gB, gC]; rfl) (by kernel_rfl) (by kernel_rfl) (by kernel_rfl) (by exact fun _ _ _ h => h) (Or.inl ⟨by rfl, ?_⟩) (by assumption) ?_; rotate_left; (focus (intro w hSw; (try dsimp only at hSw); go_simp; try with_reducible rfl)); (try simp only [Act.put, sA, sB, sC])
      refine wpAnyH_take (i := 20) (v := ?_) (by simp only [gA, gB, gC]; rfl) (by kernel_rfl) (by kernel_rfl) (by kernel_rfl) (by exact fun _ _ _ h => h) (Or.inl ⟨by rfl, ?_⟩) (by assumption) ?_; rotate_left; (focus (intro w hSw; (try dsimp only at hSw); go_simp; try with_reducible rfl)); (try simp only [Act.put, sA, sB, sC])
      refine wpAnyH_done (by kernel_rfl) ?_ _
      have z1 := hs7.off
      have z2 := hs7.ring
      have z3 := hs7.a
      clear hs7 hW7 hth7 hk7 hone7 hsz7 hz hS7 hS hB
      go_wp2_with fail
      go_ret
      exact ⟨rfl, hB7⟩
    refine AllReadyH.cons (by simp only [gA, gB, gC]; rfl) (fun K hK => ?_) AllReadyH.nil
    have hb := alloc_below w1 (.cells zS 29)
    have hz : BlkL w1.heap.size (stCs zeroC nilS) (w1.alloc (.cells zS 29)) := blkl_alloc w1 (stCs zeroC nilS).toArray 29
    have hgz := hB.size
    have hSz := hS.size
    refine step_allocC (z := zS) rfl rfl (fun _ => rfl) ?_
    (try simp only [Act.put, sA, sB, sC])
    refine hK.out _ _ (Below.then hS hb) ?_
    clear hHeld hK
    intro hHeld
    replace hB := Below.then hB hb
    replace hS := Below.then hS hb
    replace hI := hI.below in_okC.len hb
    clear hb
    have hgS : Z.heap.size ≤ w1.heap.size := hSz
    generalize w1.alloc (.cells zS 29) = w2 at *
    generalize w1.heap.size = gz at *
    (try simp only [Act.put, sA, sB, sC])
    refine wpAnyH_ready (rs := [5]) (by kernel_rfl) (by simp) ?_
    refine AllReadyH.cons (by simp only [gA, gB, gC]; rfl) (fun K hK => ?_) AllReadyH.nil
    go_simp
    go_at_call 12
    refine (cone_any [⟨15, 0, NN⟩] [] (some ⟨gI, 0, none⟩) none 1 0 (by show 1 ≤ 100; decide) (by show 0 ≤ 100; decide) (fun _ => rfl) w2 hI (fun j y h => by simp at h)).mono ?_
    rintro e w3 ⟨x, hxg, rfl, hxo, hb⟩
    replace hB := Below.then hB hb
    replace hS := Below.then hS hb
    replace hz := stab_blk _ _ _ _ hz hb
    clear hb hI
    refine hK.out _ _ (hS) ?_
    clear hHeld hK
    intro hHeld
    (try simp only [Act.put, sA, sB, sC])
    refine wpAnyH_ready (rs := [6]) (by kernel_rfl) (by simp) ?_
    refine AllReadyH.cons (by simp only [gA, gB, gC]; rfl) (fun K hK => ?_) AllReadyH.nil
    have hb := alloc_below w3 (.cells x.cs.toArray 39)
    have hR := row_list pg_len w3 [x] x.cs.toArray (by simp) 39
    refine step_build1 pg_okC (by decide) rfl _ rfl x.cs rfl rfl ?_
    (try simp only [Act.put, sA, sB, sC])
    refine hK.out _ _ (Below.then hS hb) ?_
    clear hHeld hK
    intro hHeld
    replace hB := Below.then hB hb
    replace hS := Below.then hS hb
    replace hxo := hxo.below hb
    replace hz := stab_blk _ _ _ _ hz hb
    clear hb
    generalize w3.alloc (.cells x.cs.toArray 39) = w4 at *
    generalize w3.heap.size = gG at *
    (try simp only [Act.put, sA, sB, sC])
    refine wpAnyH_take (i := 7) (v := ?_) (by simp only [gA, gB, gC]; rfl) (by kernel_rfl) (by kernel_rfl) (by kernel_rfl) (by exact fun _ _ _ h => h) (Or.inl ⟨by rfl, ?_⟩) (by assumption) ?_; rotate_left; (focus (intro w hSw; (try dsimp only at hSw); go_simp; try with_reducible rfl)); (try simp only [Act.put, sA, sB, sC])
    refine wpAnyH_ready (rs := [8]) (by kernel_rfl) (by simp) ?_
    refine AllReadyH.cons (by simp only [gA, gB, gC]; rfl) (fun K hK => ?_) AllReadyH.nil
    go_simp
    have hb : Below w4.heap.size w4 (w4.alloc (.cells #[.slice (some ⟨gG, 0, none⟩) 1 1, .bool false, .int .i64 0, .int .i64 0, .int .i64 0, .int .i64 0] 48)) := alloc_below w4 _
    have hm : BlkL w4.heap.size (memCs (.slice (some ⟨gG, 0, none⟩) 1 1) false 0 0 0 0) (w4.alloc (.cells #[.slice (some ⟨gG, 0, none⟩) 1 1, .bool false, .int .i64 0, .int .i64 0, .int .i64 0, .int .i64 0] 48)) := blkl_alloc w4 #[.slice (some ⟨gG, 0, none⟩) 1 1, .bool false, .int .i64 0, .int .i64 0, .int .i64 0, .int .i64 0] 48
    refine hK.out _ _ (Below.then hS hb) ?_
    clear hHeld hK
    intro hHeld
    replace hB := Below.then hB hb
    replace hS := Below.then hS hb
    replace hxo := hxo.below hb
    replace hR := hR.below pg_len hb
    replace hz := stab_blk _ _ _ _ hz hb
    have hM := MemO.of (by rw [hxg]; exact hok1) hxo hm ⟨hR, fun z hz => by rw [List.mem_singleton.1 hz]; exact own_at hxo⟩
    clear hb hm hR
    generalize w4.alloc (.cells #[.slice (some ⟨gG, 0, none⟩) 1 1, .bool false, .int .i64 0, .int .i64 0, .int .i64 0, .int .i64 0] 48) = w5 at *
    generalize w4.heap.size = bm at *
    (try simp only [Act.put, sA, sB, sC])
    refine wpAnyH_take (i := 9) (v := ?_) (by simp only [gA, gB, gC]; rfl) (by kernel_rfl) (by kernel_rfl) (by kernel_rfl) (by exact fun _ _ _ h => h) (Or.inl ⟨by rfl, ?_⟩) (by assumption) ?_; rotate_left; (focus (intro w hSw; (try dsimp only at hSw); go_simp; try with_reducible rfl)); (try simp only [Act.put, sA, sB, sC])
    refine wpAnyH_ready (rs := [10]) (by kernel_rfl) (by simp) ?_
    refine AllReadyH.cons (by simp only [gA, gB, gC]; rfl) (fun K hK => ?_) AllReadyH.nil
    go_simp
    go_at_call 11
    refine (cstepV { newC with a := a } hCok nilS hM (SV.nil _) (okC { newC with a := a, off := NN }) (by rw [show [x].map (·.g) = [oneG [⟨15, 0, NN⟩] []] by simp [hxg]]; exact hst)).mono ?_
    rintro e w6 hP
    obtain ⟨vA, rfl, hoA, hb⟩ := hP.okE
    have hvA := SV.own hoA
    replace hB := Below.then hB hb
    replace hS := Below.then hS hb
    replace hz := stab_blk _ _ _ _ hz hb
    clear hb hP hoA hM hxo
    refine hK.out _ _ (hS) ?_
    clear hHeld hK
    intro hHeld
    (try simp only [Act.put, sA, sB, sC])
    refine wpAnyH_take (i := 11) (v := ?_) (by simp only [gA, gB, gC]; rfl) (by kernel_rfl) (by kernel_rfl) (by kernel_rfl) (by exact fun _ _ _ h => h) (Or.inl ⟨by rfl, ?_⟩) (by assumption) ?_; rotate_left; (focus (intro w hSw; (try dsimp only at hSw); go_simp; try with_reducible rfl)); (try simp only [Act.put, sA, sB, sC])
    refine wpAnyH_take (i := 12) (v := ?_) (by simp only [gA, gB, gC]; rfl) (by kernel_rfl) (by kernel_rfl) (by kernel_rfl) (by exact fun _ _ _ h => h) (Or.inl ⟨by rfl, ?_⟩) (by assumption) ?_; rotate_left; (focus (intro w hSw; (try dsimp only at hSw); go_simp; try with_reducible rfl)); (try simp only [Act.put, sA, sB, sC])
    refine wpAnyH_take (i := 13) (v := ?_) (by simp only [gA, gB, gC]; rfl) (by kernel_rfl) (by kernel_rfl) (by kernel_rfl) (by exact fun _ _ _ h => h) (Or.inl ⟨by rfl, ?_⟩) (by assumption) ?_; rotate_left; (focus (intro w hSw; (try dsimp only at hSw); go_simp; try with_reducible rfl)); (try simp only [Act.put, sA, sB, sC])
    refine wpAnyH_take (i := 14) (v := ?_) (by simp only [gA, gB, gC]; rfl) (by kernel_rfl) (by kernel_rfl) (by kernel_rfl) (by exact fun _ _ _ h => h) (Or.inl ⟨by rfl, ?_⟩) (by assumption) ?_; rotate_left; (focus (intro w hSw; (try dsimp only at hSw); go_simp; try with_reducible rfl)); (try simp only [Act.put, sA, sB, sC])
    refine wpAnyH_take (i := 15) (v := ?_) (by simp only [gA, gB, gC]; rfl) (by kernel_rfl) (by kernel_rfl) (by kernel_rfl) (by exact fun _ _ _ h => h) (Or.inl ⟨by rfl, ?_⟩) (by assumption) ?_; rotate_left; (focus (intro w hSw; (try dsimp only at hSw); go_simp; try with_reducible rfl)); (try simp only [Act.put, sA, sB, sC])
    refine wpAnyH_ready (rs := [17]) (by kernel_rfl) (by simp) ?_
    refine AllReadyH.cons (by simp only [gA, gB, gC]; rfl) (fun K hK => ?_) AllReadyH.nil
    obtain ⟨W7, hW7, hth7, hs7, hk7⟩ := put_st (show StAt gz zeroC nilS w6 from ⟨rfl, hz⟩) (d := { newC with a := a, off := NN }) rfl vA
    have hB7 := hk7 _ _ hgz hB
    have hS7 := hk7 _ _ hgS hS
    have hone7 := st_one { newC with a := a, off := NN } vA hvA.one
    have hsz7 : (Try.prog.info? 29).map (·.size) = some (stCs { newC with a := a, off := NN } vA).length := by rw [st_len (show ({ newC with a := a, off := NN }).ps.length = 4 from rfl)]; exact hszS
    refine step_store_rowC rfl _ _ rfl gz rfl (stCs { newC with a := a, off := NN } vA) rfl hth7 hsz7 hone7 hW7 ?_
    (try simp only [Act.put, sA, sB, sC])
    refine hK.out _ _ (hS7) ?_
    clear hHeld hK
    intro hHeld
    (try simp only [Act.put, sA, sB, sC])
    refine wpAnyH_take (i := 18) (v := ?_) (by simp only [gA, gB, gC]; rfl) (by kernel_rfl) (by kernel_rfl) (by kernel_rfl) (by exact fun _ _ _ h => h) (Or.inl ⟨by rfl, ?_⟩) (by assumption) ?_; rotate_left; (focus (intro w hSw; (try dsimp only at hSw); go_simp; try with_reducible rfl)); (try simp only [Act.put, sA, sB, sC])
    refine wpAnyH_take (i := 19) (v := ?_) (by simp only [gA, gB, gC]; rfl) (by kernel_rfl) (by kernel_rfl) (by kernel_rfl) (by exact fun _ _ _ h => h) (Or.inl ⟨by rfl, ?_⟩) (by assumption) ?_; rotate_left; (focus (intro w hSw; (try dsimp only at hSw); go_simp; try with_reducible rfl)); (try simp only [Act.put, sA, sB, sC])
    refine wpAnyH_take (i := 20) (v := ?_) (by simp only [gA, gB, gC]; rfl) (by kernel_rfl) (by kernel_rfl) (by kernel_rfl) (by exact fun _ _ _ h => h) (Or.inl ⟨by rfl, ?_⟩) (by assumption) ?_; rotate_left; (focus (intro w hSw; (try dsimp only at hSw); go_simp; try with_reducible rfl)); (try simp only [Act.put, sA, sB, sC])
    refine wpAnyH_done (by kernel_rfl) ?_ _
    have z1 := hs7.off
    have z2 := hs7.ring
    have z3 := hs7.a
    clear hs7 hW7 hth7 hk7 hone7 hsz7 hz hS7 hS hB
    go_wp2_with fail
    go_ret
    exact ⟨rfl, hB7⟩
  refine AllReadyH.cons (by simp only [gA, gB, gC]; rfl) (fun K hK => ?_) AllReadyH.nil
  have hb := alloc_below w0 (.cells zS 29)
  have hz : BlkL w0.heap.size (stCs zeroC nilS) (w0.alloc (.cells zS 29)) := blkl_alloc w0 (stCs zeroC nilS).toArray 29
  have hgz := hB.size
  have hSz := hS.size
  refine step_allocC (z := zS) rfl rfl (fun _ => rfl) ?_
  (try simp only [Act.put, sA, sB, sC])
  refine hK.out _ _ (Below.then hS hb) ?_
  clear hHeld hK
  intro hHeld
  replace hB := Below.then hB hb
  replace hS := Below.then hS hb
  clear hb
  have hgS : Z.heap.size ≤ w0.heap.size := hSz
  generalize w0.alloc (.cells zS 29) = w1 at *
  generalize w0.heap.size = gz at *
  (try simp only [Act.put, sA, sB, sC])
  refine wpAnyH_ready (rs := [4]) (by kernel_rfl) (by simp) ?_
  refine AllReadyH.cons (by simp only [gA, gB, gC]; rfl) (fun K hK => ?_) AllReadyH.nil
  have hb := alloc_below w1 (.cells (ins3 ⟨15, 0, NN⟩).toArray 42)
  have hI := row_list (f := ins3) (sz := 3) (fun _ => rfl) w1 [⟨15, 0, NN⟩] (ins3 ⟨15, 0, NN⟩).toArray (by simp) 42
  refine step_build1 in_okC (by decide) rfl _ rfl (ins3 ⟨15, 0, NN⟩) rfl rfl ?_
  (try simp only [Act.put, sA, sB, sC])
  refine hK.out _ _ (Below.then hS hb) ?_
  clear hHeld hK
  intro hHeld
  replace hB := Below.then hB hb
  replace hS := Below.then hS hb
  replace hz := stab_blk _ _ _ _ hz hb
  clear hb
  generalize w1.alloc (.cells (ins3 ⟨15, 0, NN⟩).toArray 42) = w2 at *
  generalize w1.heap.size = gI at *
  (try simp only [Act.put, sA, sB, sC])
  refine wpAnyH_ready (rs := [5]) (by kernel_rfl) (by simp) ?_
  refine AllReadyH.cons (by simp only [gA, gB, gC]; rfl) (fun K hK => ?_) AllReadyH.nil
  go_simp
  go_at_call 12
  refine (cone_any [⟨15, 0, NN⟩] [] (some ⟨gI, 0, none⟩) none 1 0 (by show 1 ≤ 100; decide) (by show 0 ≤ 100; decide) (fun _ => rfl) w2 hI (fun j y h => by simp at h)).mono ?_
  rintro e w3 ⟨x, hxg, rfl, hxo, hb⟩
  replace hB := Below.then hB hb
  replace hS := Below.then hS hb
  replace hz := stab_blk _ _ _ _ hz hb
  clear hb hI
  refine hK.out _ _ (hS) ?_
  clear hHeld hK
  intro hHeld
  (try simp only [Act.put, sA, sB, sC])
  refine wpAnyH_ready (rs := [6]) (by kernel_rfl) (by simp) ?_
  refine AllReadyH.cons (by simp only [gA, gB, gC]; rfl) (fun K hK => ?_) AllReadyH.nil
  have hb := alloc_below w3 (.cells x.cs.toArray 39)
  have hR := row_list pg_len w3 [x] x.cs.toArray (by simp) 39
  refine step_build1 pg_okC (by decide) rfl _ rfl x.cs rfl rfl ?_
  (try simp only [Act.put, sA, sB, sC])
  refine hK.out _ _ (Below.then hS hb) ?_
  clear hHeld hK
  intro hHeld
  replace hB := Below.then hB hb
  replace hS := Below.then hS hb
  replace hxo := hxo.below hb
  replace hz := stab_blk _ _ _ _ hz hb
  clear hb
  generalize w3.alloc (.cells x.cs.toArray 39) = w4 at *
  generalize w3.heap.size = gG at *
  (try simp only [Act.put, sA, sB, sC])
  refine wpAnyH_take (i := 7) (v := ?_) (by simp only [gA, gB, gC]; rfl) (by kernel_rfl) (by kernel_rfl) (by kernel_rfl) (by exact fun _ _ _ h => h) (Or.inl ⟨by rfl, ?_⟩) (by assumption) ?_; rotate_left; (focus (intro w hSw; (try dsimp only at hSw); go_simp; try with_reducible rfl)); (try simp only [Act.put, sA, sB, sC])
  refine wpAnyH_ready (rs := [8]) (by kernel_rfl) (by simp) ?_
  refine AllReadyH.cons (by simp only [gA, gB, gC]; rfl) (fun K hK => ?_) AllReadyH.nil
  go_simp
  have hb : Below w4.heap.size w4 (w4.alloc (.cells #[.slice (some ⟨gG, 0, none⟩) 1 1, .bool false, .int .i64 0, .int .i64 0, .int .i64 0, .int .i64 0] 48)) := alloc_below w4 _
  have hm : BlkL w4.heap.size (memCs (.slice (some ⟨gG, 0, none⟩) 1 1) false 0 0 0 0) (w4.alloc (.cells #[.slice (some ⟨gG, 0, none⟩) 1 1, .bool false, .int .i64 0, .int .i64 0, .int .i64 0, .int .i64 0] 48)) := blkl_alloc w4 #[.slice (some ⟨gG, 0, none⟩) 1 1, .bool false, .int .i64 0, .int .i64 0, .int .i64 0, .int .i64 0] 48
  refine hK.out _ _ (Below.then hS hb) ?_
  clear hHeld hK
  intro hHeld
  replace hB := Below.then hB hb
  replace hS := Below.then hS hb
  replace hxo := hxo.below hb
  replace hR := hR.below pg_len hb
  replace hz := stab_blk _ _ _ _ hz hb
  have hM := MemO.of (by rw [hxg]; exact hok1) hxo hm ⟨hR, fun z hz => by rw [List.mem_singleton.1 hz]; exact own_at hxo⟩
  clear hb hm hR
  generalize w4.alloc (.cells #[.slice (some ⟨gG, 0, none⟩) 1 1, .bool false, .int .i64 0, .int .i64 0, .int .i64 0, .int .i64 0] 48) = w5 at *
  generalize w4.heap.size = bm at *
  (try simp only [Act.put, sA, sB, sC])
  refine wpAnyH_take (i := 9) (v := ?_) (by simp only [gA, gB, gC]; rfl) (by kernel_rfl) (by kernel_rfl) (by kernel_rfl) (by exact fun _ _ _ h => h) (Or.inl ⟨by rfl, ?_⟩) (by assumption) ?_; rotate_left; (focus (intro w hSw; (try dsimp only at hSw); go_simp; try with_reducible rfl)); (try simp only [Act.put, sA, sB, sC])
  refine wpAnyH_ready (rs := [10]) (by kernel_rfl) (by simp) ?_
  refine AllReadyH.cons (by simp only [gA, gB, gC]; rfl) (fun K hK => ?_) AllReadyH.nil
  go_simp
  go_at_call 11
  refine (cstepV { newC with a := a } hCok nilS hM (SV.nil _) (okC { newC with a := a, off := NN }) (by rw [show [x].map (·.g) = [oneG [⟨15, 0, NN⟩] []] by simp [hxg]]; exact hst)).mono ?_
  rintro e w6 hP
  obtain ⟨vA, rfl, hoA, hb⟩ := hP.okE
  have hvA := SV.own hoA
  replace hB := Below.then hB hb
  replace hS := Below.then hS hb
  replace hz := stab_blk _ _ _ _ hz hb
  clear hb hP hoA hM hxo
  refine hK.out _ _ (hS) ?_
  clear hHeld hK
  intro hHeld
  (try simp only [Act.put, sA, sB, sC])
  refine wpAnyH_take (i := 11) (v := ?_) (by simp only [gA, gB, gC]; rfl) (by kernel_rfl) (by kernel_rfl) (by kernel_rfl) (by exact fun _ _ _ h => h) (Or.inl ⟨by rfl, ?_⟩) (by assumption) ?_; rotate_left; (focus (intro w hSw; (try dsimp only at hSw); go_simp; try with_reducible rfl)); (try simp only [Act.put, sA, sB, sC])
  refine wpAnyH_take (i := 12) (v := ?_) (by simp only [gA, gB, gC]; rfl) (by kernel_rfl) (by kernel_rfl) (by kernel_rfl) (by exact fun _ _ _ h => h) (Or.inl ⟨by rfl, ?_⟩) (by assumption) ?_; rotate_left; (focus (intro w hSw; (try dsimp only at hSw); go_simp; try with_reducible rfl)); (try simp only [Act.put, sA, sB, sC])
  refine wpAnyH_take (i := 13) (v := ?_) (by simp only [gA, gB, gC]; rfl) (by kernel_rfl) (by kernel_rfl) (by kernel_rfl) (by exact fun _ _ _ h => h) (Or.inl ⟨by rfl, ?_⟩) (by assumption) ?_; rotate_left; (focus (intro w hSw; (try dsimp only at hSw); go_simp; try with_reducible rfl)); (try simp only [Act.put, sA, sB, sC])
  refine wpAnyH_take (i := 14) (v := ?_) (by simp only [gA, gB, gC]; rfl) (by kernel_rfl) (by kernel_rfl) (by kernel_rfl) (by exact fun _ _ _ h => h) (Or.inl ⟨by rfl, ?_⟩) (by assumption) ?_; rotate_left; (focus (intro w hSw; (try dsimp only at hSw); go_simp; try with_reducible rfl)); (try simp only [Act.put, sA, sB, sC])
  refine wpAnyH_take (i := 15) (v := ?_) (by simp only [gA, gB, gC]; rfl) (by kernel_rfl) (by kernel_rfl) (by kernel_rfl) (by exact fun _ _ _ h => h) (Or.inl ⟨by rfl, ?_⟩) (by assumption) ?_; rotate_left; (focus (intro w hSw; (try dsimp only at hSw); go_simp; try with_reducible rfl)); (try simp only [Act.put, sA, sB, sC])
  refine wpAnyH_ready (rs := [17]) (by kernel_rfl) (by simp) ?_
  refine AllReadyH.cons (by simp only [gA, gB, gC]; rfl) (fun K hK => ?_) AllReadyH.nil
  obtain ⟨W7, hW7, hth7, hs7, hk7⟩ := put_st (show StAt gz zeroC nilS w6 from ⟨rfl, hz⟩) (d := { newC with a := a, off := NN }) rfl vA
  have hB7 := hk7 _ _ hgz hB
  have hS7 := hk7 _ _ hgS hS
  have hone7 := st_one { newC with a := a, off := NN } vA hvA.one
  have hsz7 : (Try.prog.info? 29).map (·.size) = some (stCs { newC with a := a, off := NN } vA).length := by rw [st_len (show ({ newC with a := a, off := NN }).ps.length = 4 from rfl)]; exact hszS
  refine step_store_rowC rfl _ _ rfl gz rfl (stCs { newC with a := a, off := NN } vA) rfl hth7 hsz7 hone7 hW7 ?_
  (try simp only [Act.put, sA, sB, sC])
  refine hK.out _ _ (hS7) ?_
  clear hHeld hK
  intro hHeld
  (try simp only [Act.put, sA, sB, sC])
  refine wpAnyH_take (i := 18) (v := ?_) (by simp only [gA, gB, gC]; rfl) (by kernel_rfl) (by kernel_rfl) (by kernel_rfl) (by exact fun _ _ _ h => h) (Or.inl ⟨by rfl, ?_⟩) (by assumption) ?_; rotate_left; (focus (intro w hSw; (try dsimp only at hSw); go_simp; try with_reducible rfl)); (try simp only [Act.put, sA, sB, sC])
  refine wpAnyH_take (i := 19) (v := ?_) (by simp only [gA, gB, gC]; rfl) (by kernel_rfl) (by kernel_rfl) (by kernel_rfl) (by exact fun _ _ _ h => h) (Or.inl ⟨by rfl, ?_⟩) (by assumption) ?_; rotate_left; (focus (intro w hSw; (try dsimp only at hSw); go_simp; try with_reducible rfl)); (try simp only [Act.put, sA, sB, sC])
  refine wpAnyH_take (i := 20) (v := ?_) (by simp only [gA, gB, gC]; rfl) (by kernel_rfl) (by kernel_rfl) (by kernel_rfl) (by exact fun _ _ _ h => h) (Or.inl ⟨by rfl, ?_⟩) (by assumption) ?_; rotate_left; (focus (intro w hSw; (try dsimp only at hSw); go_simp; try with_reducible rfl)); (try simp only [Act.put, sA, sB, sC])
  refine wpAnyH_done (by kernel_rfl) ?_ _
  have z1 := hs7.off
  have z2 := hs7.ring
  have z3 := hs7.a
  clear hs7 hW7 hth7 hk7 hone7 hsz7 hz hS7 hS hB
  go_wp2_with fail
  go_ret
  exact ⟨rfl, hB7⟩
set_option maxRecDepth 8000 in
set_option maxHeartbeats 8000000 in
theorem cpuJumpsC (a op n NN : Int) (hk : op % 3 = 1) (hN : n % 1048576 - 524288 = NN) (hz : a ≠ 0) (ha : fit64 a) (w : World) :
    Calls Try.prog 3 #[.int .i64 a, .int .i64 op, .int .i64 n] w fun e w' => e = .returned (.bool true) ∧ Below w.heap.size w w' := by
  have hundS := Try.underlying29
  have hszS : (Try.prog.info? 29).map (·.size) = some 18 := by kernel_rfl
  have hszC : (Try.prog.info? 29).map (·.size) = some (stCs { newC with a := a } nilS).length := hszS
  have hmi : ∀ (v : Value) (w : World), (Instr.makeInterface 34 v).run Try.prog w = .ok (.iface 34 v) w := fun _ _ => rfl
  have kw := fun W : World => w16_any op 3 (by decide) (by decide) W
  simp only [hk] at kw
  have kn := fun W : World => w16_any n 1048576 (by decide) (by decide) W
  have hn0 := Int.emod_nonneg n (by decide : (1048576 : Int) ≠ 0)
  have hn1 := Int.emod_lt_of_pos n (by decide : (0 : Int) < 1048576)
  have hst0 := jmp_step a 15 NN (by decide) (by decide) (by omega) (by omega)
  have hst : stepC { newC with a := a } [oneG [⟨15, 0, NN⟩] []] = okC { newC with a := a, off := 1 } := by
    rw [hst0]
    exact congrArg okC (if_neg (by show ¬ ((15 : Int) = 14 ∨ (15 : Int) = 15 ∧ a = 0 ∨ (15 : Int) = 16 ∧ a < 0); omega))
  have hwr : IntKind.i64.wrap (n % 1048576 - 524288) = NN := by rw [IntKind.wrap_i64]; omega
  have hok1 : (oneG [⟨15, 0, NN⟩] []).Ok := one_ok (fun z hz => by simp at hz) (by show 1 + 0 ≤ 1000; decide)
  have hCok : Cp.Ok { newC with a := a } := ⟨rfl, newC_ok.pp, newC_ok.ring, ha, newC_ok.st, newC_ok.sr⟩
  generalize n % 1048576 = nm at *
  have q1 : (a == 0) = false := by simpa using hz
  replace hN : Aside (nm - 524288 = NN) := hN
  clear hk hst0 hn0 hn1 hz
  go_enter Try.func3, Try.ntmps3
  go_wp2_with fail
  refine (ck_any w).mono ?_
  rintro e W1 ⟨rfl, hB1⟩
  go_wp2_with fail
  refine (kw W1).mono ?_
  rintro e W2 ⟨rfl, hw2⟩
  rw [hw2]
  go_wp2_with fail
  refine (kn W1).mono ?_
  rintro e W3 ⟨rfl, hw3⟩
  rw [hw3]
  clear kw kn hw2 hw3 W2 W3
  go_wp2_with fail
  refine (cnew_any W1).mono ?_
  rintro e W6 ⟨rfl, hb6⟩
  obtain ⟨W7, hW7, hth7, hs7, hb7⟩ := new_stC W6 newC rfl nilS
  have hB6 := Below.then hB1 hb6
  have y3 := hs7.a
  have yf := (hs7.blk.1 3 _ rfl).2
  have hs0 : StAt W6.heap.size { newC with a := a } nilS (W7.setCell ⟨W6.heap.size, 3, none⟩ (.int .i64 a)) := by
    have h1 := hs7.blk.1.set 3 (.int .i64 a) (by show 3 < 18; decide)
    exact ⟨rfl, h1, h1.lt rfl⟩
  have hB0 := (Below.then hB6 hb7).setCell (p := ⟨W6.heap.size, 3, none⟩) hB6.size (.int .i64 a)
  have hone7 : ∀ u ∈ stCs newC nilS, u.oneCell' = true := st_one _ _ rfl
  have hsz7 : (Try.prog.info? 29).map (·.size) = some (stCs newC nilS).length := by kernel_rfl
  obtain ⟨Y, hY⟩ : ∃ Y, stCs newC nilS = Y := ⟨_, rfl⟩
  rw [hY] at hW7 hth7 hone7 hsz7
  have hYv : Aside (.agg (stCs newC nilS).toArray = Value.agg Y.toArray) := by rw [hY]; exact rfl
  clear hY hb6 hb7 hs7 hB6
  go_upto_region 6 with (first | (refine wpList_store_row rfl _ _ rfl W6.heap.size rfl Y hYv.out hth7 hsz7 hone7 hW7 ?_) | fail)
  clear hW7 hth7 hone7 hsz7 hYv y3 yf
  generalize W7.setCell ⟨W6.heap.size, 3, none⟩ (.int .i64 a) = Z at *
  generalize W6.heap.size = bs at *
  have hS := (Below.refl Z.heap.size Z).drew
  have hB := Below.then hB0 hS
  clear hB0
  refine wp_region_held_drew (S := (fun W => Below Z.heap.size Z W)) (by kernel_rfl) (by exact hS) ?_
  intro hHeld
  generalize Z.drew = w0 at *
  refine wpAnyH_take (i := 0) (v := _) (by simp only [gA, gB, gC]; rfl) (by kernel_rfl) (by kernel_rfl) (by kernel_rfl) (by exact fun _ _ _ h => h) (yields_row (by rfl) _ rfl bs rfl (stCs { newC with a := a } nilS) (fun _ q => (hs0.keep q).blk.range) hundS rfl hszC) (by assumption) ?_; (try simp only [Act.put, sA, sB, sC])
  refine wpAnyH_take (i := 1) (v := ?_) (by simp only [gA, gB, gC]; rfl) (by kernel_rfl) (by kernel_rfl) (by kernel_rfl) (by exact fun _ _ _ h => h) (Or.inl ⟨by rfl, ?_⟩) (by assumption) ?_; rotate_left; (focus (intro w hSw; (try dsimp only at hSw); go_simp; try with_reducible rfl)); (try simp only [Act.put, sA, sB, sC])
  refine wpAnyH_take (i := 2) (v := ?_) (by simp only [gA, gB, gC]; rfl) (by kernel_rfl) (by kernel_rfl) (by kernel_rfl) (by exact fun _ _ _ h => h) (Or.inl ⟨by rfl, ?_⟩) (by assumption) ?_; rotate_left; (focus (intro w hSw; (try dsimp only at hSw); go_simp; try with_reducible rfl)); (try simp only [Act.put, sA, sB, sC])
  refine wpAnyH_take (i := 3) (v := ?_) (by simp only [gA, gB, gC]; rfl) (by kernel_rfl) (by kernel_rfl) (by kernel_rfl) (by exact fun _ _ _ h => h) (Or.inl ⟨by rfl, ?_⟩) (by assumption) ?_; rotate_left; (focus (intro w hSw; (try dsimp only at hSw); go_simp; try with_reducible rfl)); (try simp only [Act.put, sA, sB, sC])
  refine wpAnyH_ready (rs := [4, 16]) (by kernel_rfl) (by simp) ?_
  refine AllReadyH.cons (by simp only [gA, gB, gC]; rfl) (fun K hK => ?_) ?_
  · skip
    have hb := alloc_below w0 (.cells (ins3 ⟨15, 0, NN⟩).toArray 42)
    have hI := row_list (f := ins3) (sz := 3) (fun _ => rfl) w0 [⟨15, 0, NN⟩] (ins3 ⟨15, 0, NN⟩).toArray (by simp) 42
    refine step_build1 in_okC (by decide) rfl _ rfl (ins3 ⟨15, 0, NN⟩) rfl rfl ?_
    (try simp only [Act.put, sA, sB, sC])
    refine hK.out _ _ (Below.then hS hb) ?_
    clear hHeld hK
    intro hHeld
    replace hB := Below.then hB hb
    replace hS := Below.then hS hb
    clear hb
    generalize w0.alloc (.cells (ins3 ⟨15, 0, NN⟩).toArray 42) = w1 at *
    generalize w0.heap.size = gI at *
    (try simp only [Act.put, sA, sB, sC])
    refine wpAnyH_ready (rs := [5, 16]) (by kernel_rfl) (by simp) ?_
    refine AllReadyH.cons (by simp only [gA, gB, gC]; rfl) (fun K hK => ?_) ?_
    · go_simp
      go_at_call 12
      refine (cone_any [⟨15, 0, NN⟩] [] (some ⟨gI, 0, none⟩) none 1 0 (by show 1 ≤ 100; decide) (by show 0 ≤ 100; decide) (fun _ => rfl) w1 hI (fun j y h => by simp at h)).mono ?_
      rintro e w2 ⟨x, hxg, rfl, hxo, hb⟩
      replace hB := Below.then hB hb
      replace hS := Below.then hS hb
      clear hb hI
      refine hK.out _ _ (hS) ?_
      clear hHeld hK
      intro hHeld
      (try simp only [Act.put, sA, sB, sC])
      refine wpAnyH_ready (rs := [6, 16]) (by kernel_rfl) (by simp) ?_
      refine AllReadyH.cons (by simp only [gA, gB, gC]; rfl) (fun K hK => ?_) ?_
      · skip
        have hb := alloc_below w2 (.cells x.cs.toArray 39)
        have hR := row_list pg_len w2 [x] x.cs.toArray (by simp) 39
        refine step_build1 pg_okC (by decide) rfl _ rfl x.cs rfl rfl ?_
        (try simp only [Act.put, sA, sB, sC])
        refine hK.out _ _ (Below.then hS hb) ?_
        clear hHeld hK
        intro hHeld
        replace hB := Below.then hB hb
        replace hS := Below.then hS hb
        replace hxo := hxo.below hb
        clear hb
        generalize w2.alloc (.cells x.cs.toArray 39) = w3 at *
        generalize w2.heap.size = gG at *
        (try simp only [Act.put, sA, sB, sC])
        refine wpAnyH_take (i := 7) (v := ?_) (by simp only [gA, gB, gC]; rfl) (by kernel_rfl) (by kernel_rfl) (by kernel_rfl) (by exact fun _ _ _ h => h) (Or.inl ⟨by rfl, ?_⟩) (by assumption) ?_; rotate_left; (focus (intro w hSw; (try dsimp only at hSw); go_simp; try with_reducible rfl)); (try simp only [Act.put, sA, sB, sC])
        refine wpAnyH_ready (rs := [8, 16]) (by kernel_rfl) (by simp) ?_
        refine AllReadyH.cons (by simp only [gA, gB, gC]; rfl) (fun K hK => ?_) ?_
        · go_simp
          have hb : Below w3.heap.size w3 (w3.alloc (.cells #[.slice (some ⟨gG, 0, none⟩) 1 1, .bool false, .int .i64 0, .int .i64 0, .int .i64 0, .int .i64 0] 48)) := alloc_below w3 _
          have hm : BlkL w3.heap.size (memCs (.slice (some ⟨gG, 0, none⟩) 1 1) false 0 0 0 0) (w3.alloc (.cells #[.slice (some ⟨gG, 0, none⟩) 1 1, .bool false, .int .i64 0, .int .i64 0, .int .i64 0, .int .i64 0] 48)) := blkl_alloc w3 #[.slice (some ⟨gG, 0, none⟩) 1 1, .bool false, .int .i64 0, .int .i64 0, .int .i64 0, .int .i64 0] 48
          refine hK.out _ _ (Below.then hS hb) ?_
          clear hHeld hK
          intro hHeld
          replace hB := Below.then hB hb
          replace hS := Below.then hS hb
          replace hxo := hxo.below hb
          replace hR := hR.below pg_len hb
          have hM := MemO.of (by rw [hxg]; exact hok1) hxo hm ⟨hR, fun z hz => by rw [List.mem_singleton.1 hz]; exact own_at hxo⟩
          clear hb hm hR
          generalize w3.alloc (.cells #[.slice (some ⟨gG, 0, none⟩) 1 1, .bool false, .int .i64 0, .int .i64 0, .int .i64 0, .int .i64 0] 48) = w4 at *
          generalize w3.heap.size = bm at *
          (try simp only [Act.put, sA, sB, sC])
          refine wpAnyH_take (i := 9) (v := ?_) (by simp only [gA, gB, gC]; rfl) (by kernel_rfl) (by kernel_rfl) (by kernel_rfl) (by exact fun _ _ _ h => h) (Or.inl ⟨by rfl, ?_⟩) (by assumption) ?_; rotate_left; (focus (intro w hSw; (try dsimp only at hSw); go_simp; try with_reducible rfl)); (try simp only [Act.put, sA, sB, sC])
          refine wpAnyH_ready (rs := [10, 16]) (by kernel_rfl) (by simp) ?_
          refine AllReadyH.cons (by simp only [gA, gB, gC]; rfl) (fun K hK => ?_) ?_
          · go_simp
            go_at_call 11
            refine (cstepV { newC with a := a } hCok nilS hM (SV.nil _) (okC { newC with a := a, off := 1 }) (by rw [show [x].map (·.g) = [oneG [⟨15, 0, NN⟩] []] by simp [hxg]]; exact hst)).mono ?_
            rintro e w5 hP
            obtain ⟨vA, rfl, hoA, hb⟩ := hP.okE
            have hvA := SV.own hoA
            replace hB := Below.then hB hb
            replace hS := Below.then hS hb
            clear hb hP hoA hM hxo
            refine hK.out _ _ (hS) ?_
            clear hHeld hK
            intro hHeld
            (try simp only [Act.put, sA, sB, sC])
            refine wpAnyH_take (i := 11) (v := ?_) (by simp only [gA, gB, gC]; rfl) (by kernel_rfl) (by kernel_rfl) (by kernel_rfl) (by exact fun _ _ _ h => h) (Or.inl ⟨by rfl, ?_⟩) (by assumption) ?_; rotate_left; (focus (intro w hSw; (try dsimp only at hSw); go_simp; try with_reducible rfl)); (try simp only [Act.put, sA, sB, sC])
            refine wpAnyH_take (i := 12) (v := ?_) (by simp only [gA, gB, gC]; rfl) (by kernel_rfl) (by kernel_rfl) (by kernel_rfl) (by exact fun _ _ _ h => h) (Or.inl ⟨by rfl, ?_⟩) (by assumption) ?_; rotate_left; (focus (intro w hSw; (try dsimp only at hSw); go_simp; try with_reducible rfl)); (try simp only [Act.put, sA, sB, sC])
            refine wpAnyH_take (i := 13) (v := ?_) (by simp only [gA, gB, gC]; rfl) (by kernel_rfl) (by kernel_rfl) (by kernel_rfl) (by exact fun _ _ _ h => h) (Or.inl ⟨by rfl, ?_⟩) (by assumption) ?_; rotate_left; (focus (intro w hSw; (try dsimp only at hSw); go_simp; try with_reducible rfl)); (try simp only [Act.put, sA, sB, sC])
            refine wpAnyH_take (i := 14) (v := ?_) (by simp only [gA, gB, gC]; rfl) (by kernel_rfl) (by kernel_rfl) (by kernel_rfl) (by exact fun _ _ _ h => h) (Or.inl ⟨by rfl, ?_⟩) (by assumption) ?_; rotate_left; (focus (intro w hSw; (try dsimp only at hSw); go_simp; try with_reducible rfl)); (try simp only [Act.put, sA, sB, sC])
            refine wpAnyH_take (i := 15) (v := ?_) (by simp only [gA, gB, gC]; rfl) (by kernel_rfl) (by kernel_rfl) (by kernel_rfl) (by exact fun _ _ _ h => h) (Or.inl ⟨by rfl, ?_⟩) (by assumption) ?_; rotate_left; (focus (intro w hSw; (try dsimp only at hSw); go_simp; try with_reducible rfl)); (try simp only [Act.put, sA, sB, sC])
            refine wpAnyH_ready (rs := [16]) (by kernel_rfl) (by simp) ?_
            refine AllReadyH.cons (by simp only [gA, gB, gC]; rfl) (fun K hK => ?_) AllReadyH.nil
            have hb := alloc_below w5 (.cells zS 29)
            have hz : BlkL w5.heap.size (stCs zeroC nilS) (w5.alloc (.cells zS 29)) := blkl_alloc w5 (stCs zeroC nilS).toArray 29
            have hgz := hB.size
            have hSz := hS.size
            refine step_allocC (z := zS) rfl rfl (fun _ => rfl) ?_
            (try simp only [Act.put, sA, sB, sC])
            refine hK.out _ _ (Below.then hS hb) ?_
            clear hHeld hK
            intro hHeld
            replace hB := Below.then hB hb
            replace hS := Below.then hS hb
            replace hvA := hvA.below hb
            clear hb
            have hgS : Z.heap.size ≤ w5.heap.size := hSz
            generalize w5.alloc (.cells zS 29) = w6 at *
            generalize w5.heap.size = gz at *
            (try simp only [Act.put, sA, sB, sC])
            refine wpAnyH_ready (rs := [17]) (by kernel_rfl) (by simp) ?_
            refine AllReadyH.cons (by simp only [gA, gB, gC]; rfl) (fun K hK => ?_) AllReadyH.nil
            obtain ⟨W7, hW7, hth7, hs7, hk7⟩ := put_st (show StAt gz zeroC nilS w6 from ⟨rfl, hz⟩) (d := { newC with a := a, off := 1 }) rfl vA
            have hB7 := hk7 _ _ hgz hB
            have hS7 := hk7 _ _ hgS hS
            have hone7 := st_one { newC with a := a, off := 1 } vA hvA.one
            have hsz7 : (Try.prog.info? 29).map (·.size) = some (stCs { newC with a := a, off := 1 } vA).length := by rw [st_len (show ({ newC with a := a, off := 1 }).ps.length = 4 from rfl)]; exact hszS
            refine step_store_rowC rfl _ _ rfl gz rfl (stCs { newC with a := a, off := 1 } vA) rfl hth7 hsz7 hone7 hW7 ?_
            (try simp only [Act.put, sA, sB, sC])
            refine hK.out _ _ (hS7) ?_
            clear hHeld hK
            intro hHeld
            (try simp only [Act.put, sA, sB, sC])
            refine wpAnyH_take (i := 18) (v := ?_) (by simp only [gA, gB, gC]; rfl) (by kernel_rfl) (by kernel_rfl) (by kernel_rfl) (by exact fun _ _ _ h => h) (Or.inl ⟨by rfl, ?_⟩) (by assumption) ?_; rotate_left; (focus (intro w hSw; (try dsimp only at hSw); go_simp; try with_reducible rfl)); (try simp only [Act.put, sA, sB, sC])
            refine wpAnyH_take (i := 19) (v := ?_) (by simp only [gA, gB, gC]; rfl) (by kernel_rfl) (by kernel_rfl) (by kernel_rfl) (by exact fun _ _ _ h => h) (Or.inl ⟨by rfl, ?_⟩) (by assumption) ?_; rotate_left; (focus (intro w hSw; (try dsimp only at hSw); go_simp; try with_reducible rfl)); (try simp only [Act.put, sA, sB, sC])
            refine wpAnyH_take (i := 20) (v := ?_) (by simp only [gA, gB, gC]; rfl) (by kernel_rfl) (by kernel_rfl) (by kernel_rfl) (by exact fun _ _ _ h => h) (Or.inl ⟨by rfl, ?_⟩) (by assumption) ?_; rotate_left; (focus (intro w hSw; (try dsimp only at hSw); go_simp; try with_reducible rfl)); (try simp only [Act.put, sA, sB, sC])
            refine wpAnyH_done (by kernel_rfl) ?_ _
            have z1 := hs7.off
            have z2 := hs7.ring
            have z3 := hs7.a
            clear hs7 hW7 hth7 hk7 hone7 hsz7 hz hS7 hS hB
            go_wp2_with fail
            go_ret
            exact ⟨rfl, hB7⟩
          refine AllReadyH.cons (by simp only [gA, gB, gC]; rfl) (fun K hK => ?_) AllReadyH.nil
          have hb := alloc_below w4 (.cells zS 29)
          have hz : BlkL w4.heap.size (stCs zeroC nilS) (w4.alloc (.cells zS 29)) := blkl_alloc w4 (stCs zeroC nilS).toArray 29
          have hgz := hB.size
          have hSz := hS.size
          refine step_allocC (z := zS) rfl rfl (fun _ => rfl) ?_
          (try simp only [Act.put, sA, sB, sC])
          refine hK.out _ _ (Below.then hS hb) ?_
          clear hHeld hK
          intro hHeld
          replace hB := Below.then hB hb
          replace hS := Below.then hS hb
          replace hxo := hxo.below hb
          replace hM := hM.below hb
          clear hb
          have hgS : Z.heap.size ≤ w4.heap.size := hSz
          generalize w4.alloc (.cells zS 29) = w5 at *
          generalize w4.heap.size = gz at *
          (try simp only [Act.put, sA, sB, sC])
          refine wpAnyH_ready (rs := [10]) (by kernel_rfl) (by simp) ?_
          refine AllReadyH.cons (by simp only [gA, gB, gC]; rfl) (fun K hK => ?_) AllReadyH.nil
          go_simp
          go_at_call 11
          refine (cstepV { newC with a := a } hCok nilS hM (SV.nil _) (okC { newC with a := a, off := 1 }) (by rw [show [x].map (·.g) = [oneG [⟨15, 0, NN⟩] []] by simp [hxg]]; exact hst)).mono ?_
          rintro e w6 hP
          obtain ⟨vA, rfl, hoA, hb⟩ := hP.okE
          have hvA := SV.own hoA
          replace hB := Below.then hB hb
          replace hS := Below.then hS hb
          replace hz := stab_blk _ _ _ _ hz hb
          clear hb hP hoA hM hxo
          refine hK.out _ _ (hS) ?_
          clear hHeld hK
          intro hHeld
          (try simp only [Act.put, sA, sB, sC])
          refine wpAnyH_take (i := 11) (v := ?_) (by simp only [gA, gB, gC]; rfl) (by kernel_rfl) (by kernel_rfl) (by kernel_rfl) (by exact fun _ _ _ h => h) (Or.inl ⟨by rfl, ?_⟩) (by assumption) ?_; rotate_left; (focus (intro w hSw; (try dsimp only at hSw); go_simp; try with_reducible rfl)); (try simp only [Act.put, sA, sB, sC])
          refine wpAnyH_take (i := 12) (v := ?_) (by simp only [gA, gB, gC]; rfl) (by kernel_rfl) (by kernel_rfl) (by kernel_rfl) (by exact fun _ _ _ h => h) (Or.inl ⟨by rfl, ?_⟩) (by assumption) ?_; rotate_left; (focus (intro w hSw; (try dsimp only at hSw); go_simp; try with_reducible rfl)); (try simp only [Act.put, sA, sB, sC])
          refine wpAnyH_take (i := 13) (v := ?_) (by simp only [gA, gB, gC]; rfl) (by kernel_rfl) (by kernel_rfl) (by kernel_rfl) (by exact fun _ _ _ h => h) (Or.inl ⟨by rfl, ?_⟩) (by assumption) ?_; rotate_left; (focus (intro w hSw; (try dsimp only at hSw); go_simp; try with_reducible rfl)); (try simp only [Act.put, sA, sB, sC])
          refine wpAnyH_take (i := 14) (v := ?_) (by simp only [gA, gB, gC]; rfl) (by kernel_rfl) (by kernel_rfl) (by kernel_rfl) (by exact fun _ _ _ h => h) (Or.inl ⟨by rfl, ?_⟩) (by assumption) ?_; rotate_left; (focus (intro w hSw; (try dsimp only at hSw); go_simp; try with_reducible rfl)); (try simp only [Act.put, sA, sB, sC])
          refine wpAnyH_take (i := 15) (v := ?_) (by simp only [gA, gB, gC]; rfl) (by kernel_rfl) (by kernel_rfl) (by kernel_rfl) (by exact fun _ _ _ h => h) (Or.inl ⟨by rfl, ?_⟩) (by assumption) ?_; rotate_left; (focus (intro w hSw; (try dsimp only at hSw); go_simp; try with_reducible rfl)); (try simp only [Act.put, sA, sB, sC])
          refine wpAnyH_ready (rs := [17]) (by kernel_rfl) (by simp) ?_
          refine AllReadyH.cons (by simp only [gA, gB, gC]; rfl) (fun K hK => ?_) AllReadyH.nil
          obtain ⟨W7, hW7, hth7, hs7, hk7⟩ := put_st (show StAt gz zeroC nilS w6 from ⟨rfl, hz⟩) (d := { newC with a := a, off := 1 }) rfl vA
          have hB7 := hk7 _ _ hgz hB
          have hS7 := hk7 _ _ hgS hS
          have hone7 := st_one { newC with a := a, off := 1 } vA hvA.one
          have hsz7 : (Try.prog.info? 29).map (·.size) = some (stCs { newC with a := a, off := 1 } vA).length := by rw [st_len (show ({ newC with a := a, off := 1 }).ps.length = 4 from rfl)]; exact hszS
          refine step_store_rowC rfl _ _ rfl gz rfl (stCs { newC with a := a, off := 1 } vA) rfl hth7 hsz7 hone7 hW7 ?_
          (try simp only [Act.put, sA, sB, sC])
          refine hK.out _ _ (hS7) ?_
          clear hHeld hK
          intro hHeld
          (try simp only [Act.put, sA, sB, sC])
          refine wpAnyH_take (i := 18) (v := ?_) (by simp only [gA, gB, gC]; rfl) (by kernel_rfl) (by kernel_rfl) (by kernel_rfl) (by exact fun _ _ _ h => h) (Or.inl ⟨by rfl, ?_⟩) (by assumption) ?_; rotate_left; (focus (intro w hSw; (try dsimp only at hSw); go_simp; try with_reducible rfl)); (try simp only [Act.put, sA, sB, sC])
          refine wpAnyH_take (i := 19) (v := ?_) (by simp only [gA, gB, gC]; rfl) (by kernel_rfl) (by kernel_rfl) (by kernel_rfl) (by exact fun _ _ _ h => h) (Or.inl ⟨by rfl, ?_⟩) (by assumption) ?_; rotate_left; (focus (intro w hSw; (try dsimp only at hSw); go_simp; try with_reducible rfl)); (try simp only [Act.put, sA, sB, sC])
          refine wpAnyH_take (i := 20) (v := ?_) (by simp only [gA, gB, gC]; rfl) (by kernel_rfl) (by kernel_rfl) (by kernel_rfl) (by exact fun _ _ _ h => h) (Or.inl ⟨by rfl, ?_⟩) (by assumption) ?_; rotate_left; (focus (intro w hSw; (try dsimp only at hSw); go_simp; try with_reducible rfl)); (try simp only [Act.put, sA, sB, sC])
          refine wpAnyH_done (by kernel_rfl) ?_ _
          have z1 := hs7.off
          have z2 := hs7.ring
          have z3 := hs7.a
          clear hs7 hW7 hth7 hk7 hone7 hsz7 hz hS7 hS hB
          go_wp2_with fail
          go_ret
          exact ⟨rfl, hB7⟩
        refine AllReadyH.cons (by simp only [gA, gB, gC]; rfl) (fun K hK => ?_) AllReadyH.nil
        have hb := alloc_below w3 (.cells zS 29)
        have hz : BlkL w3.heap.size (stCs zeroC nilS) (w3.alloc (.cells zS 29)) := blkl_alloc w3 (stCs zeroC nilS).toArray 29
        have hgz := hB.size
        have hSz := hS.size
        refine step_allocC (z := zS) rfl rfl (fun _ => rfl) ?_
        (try simp only [Act.put, sA, sB, sC])
        refine hK.out _ _ (Below.then hS hb) ?_
        clear hHeld hK
        intro hHeld
        replace hB := Below.then hB hb
        replace hS := Below.then hS hb
        replace hxo := hxo.below hb
        replace hR := hR.below pg_len hb
        clear hb
        have hgS : Z.heap.size ≤ w3.heap.size := hSz
        generalize w3.alloc (.cells zS 29) = w4 at *
        generalize w3.heap.size = gz at *
        (try simp only [Act.put, sA, sB, sC])
        refine wpAnyH_ready (rs := [8]) (by kernel_rfl) (by simp) ?_
        refine AllReadyH.cons (by simp only [gA, gB, gC]; rfl) (fun K hK => ?_) AllReadyH.nil
        go_simp
        have hb : Below w4.heap.size w4 (w4.alloc (.cells #[.slice (some ⟨gG, 0, none⟩) 1 1, .bool false, .int .i64 0, .int .i64 0, .int .i64 0, .int .i64 0] 48)) := alloc_below w4 _
        have hm : BlkL w4.heap.size (memCs (.slice (some ⟨gG, 0, none⟩) 1 1) false 0 0 0 0) (w4.alloc (.cells #[.slice (some ⟨gG, 0, none⟩) 1 1, .bool false, .int .i64 0, .int .i64 0, .int .i64 0, .int .i64 0] 48)) := blkl_alloc w4 #[.slice (some ⟨gG, 0, none⟩) 1 1, .bool false, .int .i64 0, .int .i64 0, .int .i64 0, .int .i64 0] 48
        refine hK.out _ _ (Below.then hS hb) ?_
        clear hHeld hK
        intro hHeld
        replace hB := Below.then hB hb
        replace hS := Below.then hS hb
        replace hxo := hxo.below hb
        replace hR := hR.below pg_len hb
        replace hz := stab_blk _ _ _ _ hz hb
        have hM := MemO.of (by rw [hxg]; exact hok1) hxo hm ⟨hR, fun z hz => by rw [List.mem_singleton.1 hz]; exact own_at hxo⟩
        clear hb hm hR
        generalize w4.alloc (.cells #[.slice (some ⟨gG, 0, none⟩) 1 1, .bool false, .int .i64 0, .int .i64 0, .int .i64 0, .int .i64 0] 48) = w5 at *
        generalize w4.heap.size = bm at *
        (try simp only [Act.put, sA, sB, sC])
        refine wpAnyH_take (i := 9) (v := ?_) (by simp only [gA, gB, gC]; rfl) (by kernel_rfl) (by kernel_rfl) (by kernel_rfl) (by exact fun _ _ _ h => h) (Or.inl ⟨by rfl, ?_⟩) (by assumption) ?_; rotate_left; (focus (intro w hSw; (try dsimp only at hSw); go_simp; try with_reducible rfl)); (try simp only [Act.put, sA, sB, sC])
        refine wpAnyH_ready (rs := [10]) (by kernel_rfl) (by simp) ?_
        refine AllReadyH.cons (by simp only [gA, gB, gC]; rfl) (fun K hK => ?_) AllReadyH.nil
        go_simp
        go_at_call 11
        refine (cstepV { newC with a := a } hCok nilS hM (SV.nil _) (okC { newC with a := a, off := 1 }) (by rw [show [x].map (·.g) = [oneG [⟨15, 0, NN⟩] []] by simp [hxg]]; exact hst)).mono ?_
        rintro e w6 hP
        obtain ⟨vA, rfl, hoA, hb⟩ := hP.okE
        have hvA := SV.own hoA
        replace hB := Below.then hB hb
        replace hS := Below.then hS hb
        replace hz := stab_blk _ _ _ _ hz hb
        clear hb hP hoA hM hxo
        refine hK.out _ _ (hS) ?_
        clear hHeld hK
        intro hHeld
        (try simp only [Act.put, sA, sB, sC])
        refine wpAnyH_take (i := 11) (v := ?_) (by simp only [gA, gB, gC]; rfl) (by kernel_rfl) (by kernel_rfl) (by kernel_rfl) (by exact fun _ _ _ h => h) (Or.inl ⟨by rfl, ?_⟩) (by assumption) ?_; rotate_left; (focus (intro w hSw; (try dsimp only at hSw); go_simp; try with_reducible rfl)); (try simp only [Act.put, sA, sB, sC])
        refine wpAnyH_take (i := 12) (v := ?_) (by simp only [gA, gB, gC]; rfl) (by kernel_rfl) (by kernel_rfl) (by kernel_rfl) (by exact fun _ _ _ h => h) (Or.inl ⟨by rfl, ?_⟩) (by assumption) ?_; rotate_left; (focus (intro w hSw; (try dsimp only at hSw); go_simp; try with_reducible rfl)); (try simp only [Act.put, sA, sB, sC])
        refine wpAnyH_take (i := 13) (v := ?_) (by simp only [gA, gB, gC]; rfl) (by kernel_rfl) (by kernel_rfl) (by kernel_rfl) (by exact fun _ _ _ h => h) (Or.inl ⟨by rfl, ?_⟩) (by assumption) ?_; rotate_left; (focus (intro w hSw; (try dsimp only at hSw); go_simp; try with_reducible rfl)); (try simp only [Act.put, sA, sB, sC])
        refine wpAnyH_take (i := 14) (v := ?_) (by simp only [gA, gB, gC]; rfl) (by kernel_rfl) (by kernel_rfl) (by kernel_rfl) (by exact fun _ _ _ h => h) (Or.inl ⟨by rfl, ?_⟩) (by assumption) ?_; rotate_left; (focus (intro w hSw; (try dsimp only at hSw); go_simp; try with_reducible rfl)); (try simp only [Act.put, sA, sB, sC])
        refine wpAnyH_take (i := 15) (v := ?_) (by simp only [gA, gB, gC]; rfl) (by kernel_rfl) (by kernel_rfl) (by kernel_rfl) (by exact fun _ _ _ h => h) (Or.inl ⟨by rfl, ?_⟩) (by assumption) ?_; rotate_left; (focus (intro w hSw; (try dsimp only at hSw); go_simp; try with_reducible rfl)); (try simp only [Act.put, sA, sB, sC])
        refine wpAnyH_ready (rs := [17]) (by kernel_rfl) (by simp) ?_
        refine AllReadyH.cons (by simp only [gA, gB, gC]; rfl) (fun K hK => ?_) AllReadyH.nil
        obtain ⟨W7, hW7, hth7, hs7, hk7⟩ := put_st (show StAt gz zeroC nilS w6 from ⟨rfl, hz⟩) (d := { newC with a := a, off := 1 }) rfl vA
        have hB7 := hk7 _ _ hgz hB
        have hS7 := hk7 _ _ hgS hS
        have hone7 := st_one { newC with a := a, off := 1 } vA hvA.one
        have hsz7 : (Try.prog.info? 29).map (·.size) = some (stCs { newC with a := a, off := 1 } vA).length := by rw [st_len (show ({ newC with a := a, off := 1 }).ps.length = 4 from rfl)]; exact hszS
        refine step_store_rowC rfl _ _ rfl gz rfl (stCs { newC with a := a, off := 1 } vA) rfl hth7 hsz7 hone7 hW7 ?_
        (try simp only [Act.put, sA, sB, sC])
        refine hK.out _ _ (hS7) ?_
        clear hHeld hK
        intro hHeld
        (try simp only [Act.put, sA, sB, sC])
        refine wpAnyH_take (i := 18) (v := ?_) (by simp only [gA, gB, gC]; rfl) (by kernel_rfl) (by kernel_rfl) (by kernel_rfl) (by exact fun _ _ _ h => h) (Or.inl ⟨by rfl, ?_⟩) (by assumption) ?_; rotate_left; (focus (intro w hSw; (try dsimp only at hSw); go_simp; try with_reducible rfl)); (try simp only [Act.put, sA, sB, sC])
        refine wpAnyH_take (i := 19) (v := ?_) (by simp only [gA, gB, gC]; rfl) (by kernel_rfl) (by kernel_rfl) (by kernel_rfl) (by exact fun _ _ _ h => h) (Or.inl ⟨by rfl, ?_⟩) (by assumption) ?_; rotate_left; (focus (intro w hSw; (try dsimp only at hSw); go_simp; try with_reducible rfl)); (try simp only [Act.put, sA, sB, sC])
        refine wpAnyH_take (i := 20) (v := ?_) (by simp only [gA, gB, gC]; rfl) (by kernel_rfl) (by kernel_rfl) (by kernel_rfl) (by exact fun _ _ _ h => h) (Or.inl ⟨by rfl, ?_⟩) (by assumption) ?_; rotate_left; (focus (intro w hSw; (try dsimp only at hSw); go_simp; try with_reducible rfl)); (try simp only [Act.put, sA, sB, sC])
        refine wpAnyH_done (by kernel_rfl) ?_ _
        have z1 := hs7.off
        have z2 := hs7.ring
        have z3 := hs7.a
        clear hs7 hW7 hth7 hk7 hone7 hsz7 hz hS7 hS hB
        go_wp2_with fail
        go_ret
        exact ⟨rfl, hB7⟩
      refine AllReadyH.cons (by simp only [gA, gB, gC]; rfl) (fun K hK => ?_) AllReadyH.nil
      have hb := alloc_below w2 (.cells zS 29)
      have hz : BlkL w2.heap.size (stCs zeroC nilS) (w2.alloc (.cells zS 29)) := blkl_alloc w2 (stCs zeroC nilS).toArray 29
      have hgz := hB.size
      have hSz := hS.size
      refine step_allocC (z := zS) rfl rfl (fun _ => rfl) ?_
      (try simp only [Act.put, sA, sB, sC])
      refine hK.out _ _ (Below.then hS hb) ?_
      clear hHeld hK
      intro hHeld
      replace hB := Below.then hB hb
      replace hS := Below.then hS hb
      replace hxo := hxo.below hb
      clear hb
      have hgS : Z.heap.size ≤ w2.heap.size := hSz
      generalize w2.alloc (.cells zS 29) = w3 at *
      generalize w2.heap.size = gz at *
      (try simp only [Act.put, sA, sB, sC])
      refine wpAnyH_ready (rs := [6]) (by kernel_rfl) (by simp) ?_
      refine AllReadyH.cons (by simp only [gA, gB, gC]; rfl) (fun K hK => ?_) AllReadyH.nil
      have hb := alloc_below w3 (.cells x.cs.toArray 39)
      have hR := row_list pg_len w3 [x] x.cs.toArray (by simp) 39
      refine step_build1 pg_okC (by decide) rfl _ rfl x.cs rfl rfl ?_
      (try simp only [Act.put, sA, sB, sC])
      refine hK.out _ _ (Below.then hS hb) ?_
      clear hHeld hK
      intro hHeld
      replace hB := Below.then hB hb
      replace hS := Below.then hS hb
      replace hxo := hxo.below hb
      replace hz := stab_blk _ _ _ _ hz hb
      clear hb
      generalize w3.alloc (.cells x.cs.toArray 39) = w4 at *
      generalize w3.heap.size = gG at *
      (try simp only [Act.put, sA, sB, sC])
      refine wpAnyH_take (i := 7) (v := ?_) (by simp only [gA, gB, gC]; rfl) (by kernel_rfl) (by kernel_rfl) (by kernel_rfl) (by exact fun _ _ _ h => h) (Or.inl ⟨by rfl, ?_⟩) (by assumption) ?_; rotate_left; (focus (intro w hSw; (try dsimp only at hSw); go_simp; try with_reducible rfl)); (try simp only [Act.put, sA, sB, sC])
      refine wpAnyH_ready (rs := [8]) (by kernel_rfl) (by simp) ?_
      refine AllReadyH.cons (by simp only [gA, gB, gC]; rfl) (fun K hK => ?_) AllReadyH.nil
      go_simp
      have hb : Below w4.heap.size w4 (w4.alloc (.cells #[.slice (some ⟨gG, 0, none⟩) 1 1, .bool false, .int .i64 0, .int .i64 0, .int .i64 0, .int .i64 0] 48)) := alloc_below w4 _
      have hm : BlkL w4.heap.size (memCs (.slice (some ⟨gG, 0, none⟩) 1 1) false 0 0 0 0) (w4.alloc (.cells #[.slice (some ⟨gG, 0, none⟩) 1 1, .bool false, .int .i64 0, .int .i64 0, .int .i64 0, .int .i64 0] 48)) := blkl_alloc w4 #[.slice (some ⟨gG, 0, none⟩) 1 1, .bool false, .int .i64 0, .int .i64 0, .int .i64 0, .int .i64 0] 48
      refine hK.out _ _ (Below.then hS hb) ?_
      clear hHeld hK
      intro hHeld
      replace hB := Below.then hB hb
      replace hS := Below.then hS hb
      replace hxo := hxo.below hb
      replace hR := hR.below pg_len hb
      replace hz := stab_blk _ _ _ _ hz hb
      have hM := MemO.of (by rw [hxg]; exact hok1) hxo hm ⟨hR, fun z hz => by rw [List.mem_singleton.1 hz]; exact own_at hxo⟩
      clear hb hm hR
      generalize w4.alloc (.cells #[.slice (some ⟨gG, 0, none⟩) 1 1, .bool false, .int .i64 0, .int .i64 0, .int .i64 0, .int .i64 0] 48) = w5 at *
      generalize w4.heap.size = bm at *
      (try simp only [Act.put, sA, sB, sC])
      refine wpAnyH_take (i := 9) (v := ?_) (by simp only [gA, gB, gC]; rfl) (by kernel_rfl) (by kernel_rfl) (by kernel_rfl) (by exact fun _ _ _ h => h) (Or.inl ⟨by rfl, ?_⟩) (by assumption) ?_; rotate_left; (focus (intro w hSw; (try dsimp only at hSw); go_simp; try with_reducible rfl)); (try simp only [Act.put, sA, sB, sC])
      refine wpAnyH_ready (rs := [10]) (by kernel_rfl) (by simp) ?_
      refine AllReadyH.cons (by simp only [gA, gB, gC]; rfl) (fun K hK => ?_) AllReadyH.nil
      go_simp
      go_at_call 11
      refine (cstepV { newC with a := a } hCok nilS hM (SV.nil _) (okC { newC with a := a, off := 1 }) (by rw [show [x].map (·.g) = [oneG [⟨15, 0, NN⟩] []] by simp [hxg]]; exact hst)).mono ?_
      rintro e w6 hP
      obtain ⟨vA, rfl, hoA, hb⟩ := hP.okE
      have hvA := SV.own hoA
      replace hB := Below.then hB hb
      replace hS := Below.then hS hb
      replace hz := stab_blk _ _ _ _ hz hb
      clear hb hP hoA hM hxo
      refine hK.out _ _ (hS) ?_
      clear hHeld hK
      intro hHeld
      (try simp only [Act.put, sA, sB, sC])
      refine wpAnyH_take (i := 11) (v := ?_) (by simp only [gA, gB, gC]; rfl) (by kernel_rfl) (by kernel_rfl) (by kernel_rfl) (by exact fun _ _ _ h => h) (Or.inl ⟨by rfl, ?_⟩) (by assumption) ?_; rotate_left; (focus (intro w hSw; (try dsimp only at hSw); go_simp; try with_reducible rfl)); (try simp only [Act.put, sA, sB, sC])
      refine wpAnyH_take (i := 12) (v := ?_) (by simp only [gA, gB, gC]; rfl) (by kernel_rfl) (by kernel_rfl) (by kernel_rfl) (by exact fun _ _ _ h => h) (Or.inl ⟨by rfl, ?_⟩) (by assumption) ?_; rotate_left; (focus (intro w hSw; (try dsimp only at hSw); go_simp; try with_reducible rfl)); (try simp only [Act.put, sA, sB, sC])
      refine wpAnyH_take (i := 13) (v := ?_) (by simp only [gA, gB, gC]; rfl) (by kernel_rfl) (by kernel_rfl) (by kernel_rfl) (by exact fun _ _ _ h => h) (Or.inl ⟨by rfl, ?_⟩) (by assumption) ?_; rotate_left; (focus (intro w hSw; (try dsimp only at hSw); go_simp; try with_reducible rfl)); (try simp only [Act.put, sA, sB, sC])
      refine wpAnyH_take (i := 14) (v := ?_) (by simp only [gA, gB, gC]; rfl) (by kernel_rfl) (by kernel_rfl) (by kernel_rfl) (by exact fun _ _ _ h => h) (Or.inl ⟨by rfl, ?_⟩) (by assumption) ?_; rotate_left; (focus (intro w hSw; (try dsimp only at hSw); go_simp; try with_reducible rfl)); (try simp only [Act.put, sA, sB, sC])
      refine wpAnyH_take (i := 15) (v := ?_) (by simp only [gA, gB, gC]; rfl) (by kernel_rfl) (by kernel_rfl) (by kernel_rfl) (by exact fun _ _ _ h => h) (Or.inl ⟨by rfl, ?_⟩) (by assumption) ?_; rotate_left; (focus (intro w hSw; (try dsimp only at hSw); go_simp; try with_reducible rfl)); (try simp only [Act.put, sA, sB, sC])
      refine wpAnyH_ready (rs := [17]) (by kernel_rfl) (by simp) ?_
      refine AllReadyH.cons (by simp only [gA, gB, gC]; rfl) (fun K hK => ?_) AllReadyH.nil
      obtain ⟨W7, hW7, hth7, hs7, hk7⟩ := put_st (show StAt gz zeroC nilS w6 from ⟨rfl, hz⟩) (d := { newC with a := a, off := 1 }) rfl vA
      have hB7 := hk7 _ _ hgz hB
      have hS7 := hk7 _ _ hgS hS
      have hone7 := st_one { newC with a := a, off := 1 } vA hvA.one
      have hsz7 : (Try.prog.info? 29).map (·.size) = some (stCs { newC with a := a, off := 1 } vA).length := by rw [st_len (show ({ newC with a := a, off := 1 }).ps.length = 4 from rfl)]; exact hszS
      refine step_store_rowC rfl _ _ rfl gz rfl (stCs { newC with a := a, off := 1 } vA) rfl hth7 hsz7 hone7 hW7 ?_
      (try simp only [Act.put, sA, sB, sC])
      refine hK.out _ _ (hS7) ?_
      clear hHeld hK
      intro hHeld
      (try simp only [Act.put, sA, sB, sC])
      refine wpAnyH_take (i := 18) (v := ?_) (by simp only [gA, gB, gC]; rfl) (by kernel_rfl) (by kernel_rfl) (by kernel_rfl) (by exact fun _ _ _ h => h) (Or.inl ⟨by rfl, ?_⟩) (by assumption) ?_; rotate_left; (focus (intro w hSw; (try dsimp only at hSw); go_simp; try with_reducible rfl)); (try simp only [Act.put, sA, sB, sC])
      refine wpAnyH_take (i := 19) (v := ?_) (by simp only [gA, gB, gC]; rfl) (by kernel_rfl) (by kernel_rfl) (by kernel_rfl) (by exact fun _ _ _ h => h) (Or.inl ⟨by rfl, ?_⟩) (by assumption) ?_; rotate_left; (focus (intro w hSw; (try dsimp only at hSw); go_simp; try with_reducible rfl)); (try simp only [Act.put, sA, sB, sC])
      refine wpAnyH_take (i := 20) (v := ?_) (by simp only [gA, gB, gC]; rfl) (by kernel_rfl) (by kernel_rfl) (by kernel_rfl) (by exact fun _ _ _ h => h) (Or.inl ⟨by rfl, ?_⟩) (by assumption) ?_; rotate_left; (focus (intro w hSw; (try dsimp only at hSw); go_simp; try with_reducible rfl)); (try simp only [Act.put, sA, sB, sC])
      refine wpAnyH_done (by kernel_rfl) ?_ _
      have z1 := hs7.off
      have z2 := hs7.ring
      have z3 := hs7.a
      clear hs7 hW7 hth7 hk7 hone7 hsz7 hz hS7 hS hB
      go_wp2_with fail
      go_ret
      exact ⟨rfl, hB7⟩
    refine AllReadyH.cons (by simp only [gA, gB, gC]; rfl) (fun K hK => ?_) AllReadyH.nil
    have hb := alloc_below w1 (.cells zS 29)
    have hz : BlkL w1.heap.size (stCs zeroC nilS) (w1.alloc (.cells zS 29)) := blkl_alloc w1 (stCs zeroC nilS).toArray 29
    have hgz := hB.size
    have hSz := hS.size
    refine step_allocC (z := zS) rfl rfl (fun _ => rfl) ?_
    (try simp only [Act.put, sA, sB, sC])
    refine hK.out _ _ (Below.then hS hb) ?_
    clear hHeld hK
    intro hHeld
    replace hB := Below.then hB hb
    replace hS := Below.then hS hb
    replace hI := hI.below in_okC.len hb
    clear hb
    have hgS : Z.heap.size ≤ w1.heap.size := hSz
    generalize w1.alloc (.cells zS 29) = w2 at *
    generalize w1.heap.size = gz at *
    (try simp only [Act.put, sA, sB, sC])
    refine wpAnyH_ready (rs := [5]) (by kernel_rfl) (by simp) ?_
    refine AllReadyH.cons (by simp only [gA, gB, gC]; rfl) (fun K hK => ?_) AllReadyH.nil
    go_simp
    go_at_call 12
    refine (cone_any [⟨15, 0, NN⟩] [] (some ⟨gI, 0, none⟩) none 1 0 (by show 1 ≤ 100; decide) (by show 0 ≤ 100; decide) (fun _ => rfl) w2 hI (fun j y h => by simp at h)).mono ?_
    rintro e w3 ⟨x, hxg, rfl, hxo, hb⟩
    replace hB := Below.then hB hb
    replace hS := Below.then hS hb
    replace hz := stab_blk _ _ _ _ hz hb
    clear hb hI
    refine hK.out _ _ (hS) ?_
    clear hHeld hK
    intro hHeld
    (try simp only [Act.put, sA, sB, sC])
    refine wpAnyH_ready (rs := [6]) (by kernel_rfl) (by simp) ?_
    refine AllReadyH.cons (by simp only [gA, gB, gC]; rfl) (fun K hK => ?_) AllReadyH.nil
    have hb := alloc_below w3 (.cells x.cs.toArray 39)
    have hR := row_list pg_len w3 [x] x.cs.toArray (by simp) 39
    refine step_build1 pg_okC (by decide) rfl _ rfl x.cs rfl rfl ?_
    (try simp only [Act.put, sA, sB, sC])
    refine hK.out _ _ (Below.then hS hb) ?_
    clear hHeld hK
    intro hHeld
    replace hB := Below.then hB hb
    replace hS := Below.then hS hb
    replace hxo := hxo.below hb
    replace hz := stab_blk _ _ _ _ hz hb
    clear hb
    generalize w3.alloc (.cells x.cs.toArray 39) = w4 at *
    generalize w3.heap.size = gG at *
    (try simp only [Act.put, sA, sB, sC])
    refine wpAnyH_take (i := 7) (v := ?_) (by simp only [gA, gB, gC]; rfl) (by kernel_rfl) (by kernel_rfl) (by kernel_rfl) (by exact fun _ _ _ h => h) (Or.inl ⟨by rfl, ?_⟩) (by assumption) ?_; rotate_left; (focus (intro w hSw; (try dsimp only at hSw); go_simp; try with_reducible rfl)); (try simp only [Act.put, sA, sB, sC])
    refine wpAnyH_ready (rs := [8]) (by kernel_rfl) (by simp) ?_
    refine AllReadyH.cons (by simp only [gA, gB, gC]; rfl) (fun K hK => ?_) AllReadyH.nil
    go_simp
    have hb : Below w4.heap.size w4 (w4.alloc (.cells #[.slice (some ⟨gG, 0, none⟩) 1 1, .bool false, .int .i64 0, .int .i64 0, .int .i64 0, .int .i64 0] 48)) := alloc_below w4 _
    have hm : BlkL w4.heap.size (memCs (.slice (some ⟨gG, 0, none⟩) 1 1) false 0 0 0 0) (w4.alloc (.cells #[.slice (some ⟨gG, 0, none⟩) 1 1, .bool false, .int .i64 0, .int .i64 0, .int .i64 0, .int .i64 0] 48)) := blkl_alloc w4 #[.slice (some ⟨gG, 0, none⟩) 1 1, .bool false, .int .i64 0, .int .i64 0, .int .i64 0, .int .i64 0] 48
    refine hK.out _ _ (Below.then hS hb) ?_
    clear hHeld hK
    intro hHeld
    replace hB := Below.then hB hb
    replace hS := Below.then hS hb
    replace hxo := hxo.below hb
    replace hR := hR.below pg_len hb
    replace hz := stab_blk _ _ _ _ hz hb
    have hM := MemO.of (by rw [hxg]; exact hok1) hxo hm ⟨hR, fun z hz => by rw [List.mem_singleton.1 hz]; exact own_at hxo⟩
    clear hb hm hR
    generalize w4.alloc (.cells #[.slice (some ⟨gG, 0, none⟩) 1 1, .bool false, .int .i64 0, .int .i64 0, .int .i64 0, .int .i64 0] 48) = w5 at *
    generalize w4.heap.size = bm at *
    (try simp only [Act.put, sA, sB, sC])
    refine wpAnyH_take (i := 9) (v := ?_) (by simp only [gA, gB, gC]; rfl) (by kernel_rfl) (by kernel_rfl) (by kernel_rfl) (by exact fun _ _ _ h => h) (Or.inl ⟨by rfl, ?_⟩) (by assumption) ?_; rotate_left; (focus (intro w hSw; (try dsimp only at hSw); go_simp; try with_reducible rfl)); (try simp only [Act.put, sA, sB, sC])
    refine wpAnyH_ready (rs := [10]) (by kernel_rfl) (by simp) ?_
    refine AllReadyH.cons (by simp only [gA, gB, gC]; rfl) (fun K hK => ?_) AllReadyH.nil
    go_simp
    go_at_call 11
    refine (cstepV { newC with a := a } hCok nilS hM (SV.nil _) (okC { newC with a := a, off := 1 }) (by rw [show [x].map (·.g) = [oneG [⟨15, 0, NN⟩] []] by simp [hxg]]; exact hst)).mono ?_
    rintro e w6 hP
    obtain ⟨vA, rfl, hoA, hb⟩ := hP.okE
    have hvA := SV.own hoA
    replace hB := Below.then hB hb
    replace hS := Below.then hS hb
    replace hz := stab_blk _ _ _ _ hz hb
    clear hb hP hoA hM hxo
    refine hK.out _ _ (hS) ?_
    clear hHeld hK
    intro hHeld
    (try simp only [Act.put, sA, sB, sC])
    refine wpAnyH_take (i := 11) (v := ?_) (by simp only [gA, gB, gC]; rfl) (by kernel_rfl) (by kernel_rfl) (by kernel_rfl) (by exact fun _ _ _ h => h) (Or.inl ⟨by rfl, ?_⟩) (by assumption) ?_; rotate_left; (focus (intro w hSw; (try dsimp only at hSw); go_simp; try with_reducible rfl)); (try simp only [Act.put, sA, sB, sC])
    refine wpAnyH_take (i := 12) (v := ?_) (by simp only [gA, gB, gC]; rfl) (by kernel_rfl) (by kernel_rfl) (by kernel_rfl) (by exact fun _ _ _ h => h) (Or.inl ⟨by rfl, ?_⟩) (by assumption) ?_; rotate_left; (focus (intro w hSw; (try dsimp only at hSw); go_simp; try with_reducible rfl)); (try simp only [Act.put, sA, sB, sC])
    refine wpAnyH_take (i := 13) (v := ?_) (by simp only [gA, gB, gC]; rfl) (by kernel_rfl) (by kernel_rfl) (by kernel_rfl) (by exact fun _ _ _ h => h) (Or.inl ⟨by rfl, ?_⟩) (by assumption) ?_; rotate_left; (focus (intro w hSw; (try dsimp only at hSw); go_simp; try with_reducible rfl)); (try simp only [Act.put, sA, sB, sC])
    refine wpAnyH_take (i := 14) (v := ?_) (by simp only [gA, gB, gC]; rfl) (by kernel_rfl) (by kernel_rfl) (by kernel_rfl) (by exact fun _ _ _ h => h) (Or.inl ⟨by rfl, ?_⟩) (by assumption) ?_; rotate_left; (focus (intro w hSw; (try dsimp only at hSw); go_simp; try with_reducible rfl)); (try simp only [Act.put, sA, sB, sC])
    refine wpAnyH_take (i := 15) (v := ?_) (by simp only [gA, gB, gC]; rfl) (by kernel_rfl) (by kernel_rfl) (by kernel_rfl) (by exact fun _ _ _ h => h) (Or.inl ⟨by rfl, ?_⟩) (by assumption) ?_; rotate_left; (focus (intro w hSw; (try dsimp only at hSw); go_simp; try with_reducible rfl)); (try simp only [Act.put, sA, sB, sC])
    refine wpAnyH_ready (rs := [17]) (by kernel_rfl) (by simp) ?_
    refine AllReadyH.cons (by simp only [gA, gB, gC]; rfl) (fun K hK => ?_) AllReadyH.nil
    obtain ⟨W7, hW7, hth7, hs7, hk7⟩ := put_st (show StAt gz zeroC nilS w6 from ⟨rfl, hz⟩) (d := { newC with a := a, off := 1 }) rfl vA
    have hB7 := hk7 _ _ hgz hB
    have hS7 := hk7 _ _ hgS hS
    have hone7 := st_one { newC with a := a, off := 1 } vA hvA.one
    have hsz7 : (Try.prog.info? 29).map (·.size) = some (stCs { newC with a := a, off := 1 } vA).length := by rw [st_len (show ({ newC with a := a, off := 1 }).ps.length = 4 from rfl)]; exact hszS
    refine step_store_rowC rfl _ _ rfl gz rfl (stCs { newC with a := a, off := 1 } vA) rfl hth7 hsz7 hone7 hW7 ?_
    (try simp only [Act.put, sA, sB, sC])
    refine hK.out _ _ (hS7) ?_
    clear hHeld hK
    intro hHeld
    (try simp only [Act.put, sA, sB, sC])
    refine wpAnyH_take (i := 18) (v := ?_) (by simp only [gA, gB, gC]; rfl) (by kernel_rfl) (by kernel_rfl) (by kernel_rfl) (by exact fun _ _ _ h => h) (Or.inl ⟨by rfl, ?_⟩) (by assumption) ?_; rotate_left; (focus (intro w hSw; (try dsimp only at hSw); go_simp; try with_reducible rfl)); (try simp only [Act.put, sA, sB, sC])
    refine wpAnyH_take (i := 19) (v := ?_) (by simp only [gA, gB, gC]; rfl) (by kernel_rfl) (by kernel_rfl) (by kernel_rfl) (by exact fun _ _ _ h => h) (Or.inl ⟨by rfl, ?_⟩) (by assumption) ?_; rotate_left; (focus (intro w hSw; (try dsimp only at hSw); go_simp; try with_reducible rfl)); (try simp only [Act.put, sA, sB, sC])
    refine wpAnyH_take (i := 20) (v := ?_) (by simp only [gA, gB, gC]; rfl) (by kernel_rfl) (by kernel_rfl) (by kernel_rfl) (by exact fun _ _ _ h => h) (Or.inl ⟨by rfl, ?_⟩) (by assumption) ?_; rotate_left; (focus (intro w hSw; (try dsimp only at hSw); go_simp; try with_reducible rfl)); (try simp only [Act.put, sA, sB, sC])
    refine wpAnyH_done (by kernel_rfl) ?_ _
    have z1 := hs7.off
    have z2 := hs7.ring
    have z3 := hs7.a
    clear hs7 hW7 hth7 hk7 hone7 hsz7 hz hS7 hS hB
    go_wp2_with fail
    go_ret
    exact ⟨rfl, hB7⟩
  refine AllReadyH.cons (by simp only [gA, gB, gC]; rfl) (fun K hK => ?_) AllReadyH.nil
  have hb := alloc_below w0 (.cells zS 29)
  have hz : BlkL w0.heap.size (stCs zeroC nilS) (w0.alloc (.cells zS 29)) := blkl_alloc w0 (stCs zeroC nilS).toArray 29
  have hgz := hB.size
  have hSz := hS.size
  refine step_allocC (z := zS) rfl rfl (fun _ => rfl) ?_
  (try simp only [Act.put, sA, sB, sC])
  refine hK.out _ _ (Below.then hS hb) ?_
  clear hHeld hK
  intro hHeld
  replace hB := Below.then hB hb
  replace hS := Below.then hS hb
  clear hb
  have hgS : Z.heap.size ≤ w0.heap.size := hSz
  generalize w0.alloc (.cells zS 29) = w1 at *
  generalize w0.heap.size = gz at *
  (try simp only [Act.put, sA, sB, sC])
  refine wpAnyH_ready (rs := [4]) (by kernel_rfl) (by simp) ?_
  refine AllReadyH.cons (by simp only [gA, gB, gC]; rfl) (fun K hK => ?_) AllReadyH.nil
  have hb := alloc_below w1 (.cells (ins3 ⟨15, 0, NN⟩).toArray 42)
  have hI := row_list (f := ins3) (sz := 3) (fun _ => rfl) w1 [⟨15, 0, NN⟩] (ins3 ⟨15, 0, NN⟩).toArray (by simp) 42
  refine step_build1 in_okC (by decide) rfl _ rfl (ins3 ⟨15, 0, NN⟩) rfl rfl ?_
  (try simp only [Act.put, sA, sB, sC])
  refine hK.out _ _ (Below.then hS hb) ?_
  clear hHeld hK
  intro hHeld
  replace hB := Below.then hB hb
  replace hS := Below.then hS hb
  replace hz := stab_blk _ _ _ _ hz hb
  clear hb
  generalize w1.alloc (.cells (ins3 ⟨15, 0, NN⟩).toArray 42) = w2 at *
  generalize w1.heap.size = gI at *
  (try simp only [Act.put, sA, sB, sC])
  refine wpAnyH_ready (rs := [5]) (by kernel_rfl) (by simp) ?_
  refine AllReadyH.cons (by simp only [gA, gB, gC]; rfl) (fun K hK => ?_) AllReadyH.nil
  go_simp
  go_at_call 12
  refine (cone_any [⟨15, 0, NN⟩] [] (some ⟨gI, 0, none⟩) none 1 0 (by show 1 ≤ 100; decide) (by show 0 ≤ 100; decide) (fun _ => rfl) w2 hI (fun j y h => by simp at h)).mono ?_
  rintro e w3 ⟨x, hxg, rfl, hxo, hb⟩
  replace hB := Below.then hB hb
  replace hS := Below.then hS hb
  replace hz := stab_blk _ _ _ _ hz hb
  clear hb hI
  refine hK.out _ _ (hS) ?_
  clear hHeld hK
  intro hHeld
  (try simp only [Act.put, sA, sB, sC])
  refine wpAnyH_ready (rs := [6]) (by kernel_rfl) (by simp) ?_
  refine AllReadyH.cons (by simp only [gA, gB, gC]; rfl) (fun K hK => ?_) AllReadyH.nil
  have hb := alloc_below w3 (.cells x.cs.toArray 39)
  have hR := row_list pg_len w3 [x] x.cs.toArray (by simp) 39
  refine step_build1 pg_okC (by decide) rfl _ rfl x.cs rfl rfl ?_
  (try simp only [Act.put, sA, sB, sC])
  refine hK.out _ _ (Below.then hS hb) ?_
  clear hHeld hK
  intro hHeld
  replace hB := Below.then hB hb
  replace hS := Below.then hS hb
  replace hxo := hxo.below hb
  replace hz := stab_blk _ _ _ _ hz hb
  clear hb
  generalize w3.alloc (.cells x.cs.toArray 39) = w4 at *
  generalize w3.heap.size = gG at *
  (try simp only [Act.put, sA, sB, sC])
  refine wpAnyH_take (i := 7) (v := ?_) (by simp only [gA, gB, gC]; rfl) (by kernel_rfl) (by kernel_rfl) (by kernel_rfl) (by exact fun _ _ _ h => h) (Or.inl ⟨by rfl, ?_⟩) (by assumption) ?_; rotate_left; (focus (intro w hSw; (try dsimp only at hSw); go_simp; try with_reducible rfl)); (try simp only [Act.put, sA, sB, sC])
  refine wpAnyH_ready (rs := [8]) (by kernel_rfl) (by simp) ?_
  refine AllReadyH.cons (by simp only [gA, gB, gC]; rfl) (fun K hK => ?_) AllReadyH.nil
  go_simp
  have hb : Below w4.heap.size w4 (w4.alloc (.cells #[.slice (some ⟨gG, 0, none⟩) 1 1, .bool false, .int .i64 0, .int .i64 0, .int .i64 0, .int .i64 0] 48)) := alloc_below w4 _
  have hm : BlkL w4.heap.size (memCs (.slice (some ⟨gG, 0, none⟩) 1 1) false 0 0 0 0) (w4.alloc (.cells #[.slice (some ⟨gG, 0, none⟩) 1 1, .bool false, .int .i64 0, .int .i64 0, .int .i64 0, .int .i64 0] 48)) := blkl_alloc w4 #[.slice (some ⟨gG, 0, none⟩) 1 1, .bool false, .int .i64 0, .int .i64 0, .int .i64 0, .int .i64 0] 48
  refine hK.out _ _ (Below.then hS hb) ?_
  clear hHeld hK
  intro hHeld
  replace hB := Below.then hB hb
  replace hS := Below.then hS hb
  replace hxo := hxo.below hb
  replace hR := hR.below pg_len hb
  replace hz := stab_blk _ _ _ _ hz hb
  have hM := MemO.of (by rw [hxg]; exact hok1) hxo hm ⟨hR, fun z hz => by rw [List.mem_singleton.1 hz]; exact own_at hxo⟩
  clear hb hm hR
  generalize w4.alloc (.cells #[.slice (some ⟨gG, 0, none⟩) 1 1, .bool false, .int .i64 0, .int .i64 0, .int .i64 0, .int .i64 0] 48) = w5 at *
  generalize w4.heap.size = bm at *
  (try simp only [Act.put, sA, sB, sC])
  refine wpAnyH_take (i := 9) (v := ?_) (by simp only [gA, gB, gC]; rfl) (by kernel_rfl) (by kernel_rfl) (by kernel_rfl) (by exact fun _ _ _ h => h) (Or.inl ⟨by rfl, ?_⟩) (by assumption) ?_; rotate_left; (focus (intro w hSw; (try dsimp only at hSw); go_simp; try with_reducible rfl)); (try simp only [Act.put, sA, sB, sC])
  refine wpAnyH_ready (rs := [10]) (by kernel_rfl) (by simp) ?_
  refine AllReadyH.cons (by simp only [gA, gB, gC]; rfl) (fun K hK => ?_) AllReadyH.nil
  go_simp
  go_at_call 11
  refine (cstepV { newC with a := a } hCok nilS hM (SV.nil _) (okC { newC with a := a, off := 1 }) (by rw [show [x].map (·.g) = [oneG [⟨15, 0, NN⟩] []] by simp [hxg]]; exact hst)).mono ?_
  rintro e w6 hP
  obtain ⟨vA, rfl, hoA, hb⟩ := hP.okE
  have hvA := SV.own hoA
  replace hB := Below.then hB hb
  replace hS := Below.then hS hb
  replace hz := stab_blk _ _ _ _ hz hb
  clear hb hP hoA hM hxo
  refine hK.out _ _ (hS) ?_
  clear hHeld hK
  intro hHeld
  (try simp only [Act.put, sA, sB, sC])
  refine wpAnyH_take (i := 11) (v := ?_) (by simp only [gA, gB, gC]; rfl) (by kernel_rfl) (by kernel_rfl) (by kernel_rfl) (by exact fun _ _ _ h => h) (Or.inl ⟨by rfl, ?_⟩) (by assumption) ?_; rotate_left; (focus (intro w hSw; (try dsimp only at hSw); go_simp; try with_reducible rfl)); (try simp only [Act.put, sA, sB, sC])
  refine wpAnyH_take (i := 12) (v := ?_) (by simp only [gA, gB, gC]; rfl) (by kernel_rfl) (by kernel_rfl) (by kernel_rfl) (by exact fun _ _ _ h => h) (Or.inl ⟨by rfl, ?_⟩) (by assumption) ?_; rotate_left; (focus (intro w hSw; (try dsimp only at hSw); go_simp; try with_reducible rfl)); (try simp only [Act.put, sA, sB, sC])
  refine wpAnyH_take (i := 13) (v := ?_) (by simp only [gA, gB, gC]; rfl) (by kernel_rfl) (by kernel_rfl) (by kernel_rfl) (by exact fun _ _ _ h => h) (Or.inl ⟨by rfl, ?_⟩) (by assumption) ?_; rotate_left; (focus (intro w hSw; (try dsimp only at hSw); go_simp; try with_reducible rfl)); (try simp only [Act.put, sA, sB, sC])
  refine wpAnyH_take (i := 14) (v := ?_) (by simp only [gA, gB, gC]; rfl) (by kernel_rfl) (by kernel_rfl) (by kernel_rfl) (by exact fun _ _ _ h => h) (Or.inl ⟨by rfl, ?_⟩) (by assumption) ?_; rotate_left; (focus (intro w hSw; (try dsimp only at hSw); go_simp; try with_reducible rfl)); (try simp only [Act.put, sA, sB, sC])
  refine wpAnyH_take (i := 15) (v := ?_) (by simp only [gA, gB, gC]; rfl) (by kernel_rfl) (by kernel_rfl) (by kernel_rfl) (by exact fun _ _ _ h => h) (Or.inl ⟨by rfl, ?_⟩) (by assumption) ?_; rotate_left; (focus (intro w hSw; (try dsimp only at hSw); go_simp; try with_reducible rfl)); (try simp only [Act.put, sA, sB, sC])
  refine wpAnyH_ready (rs := [17]) (by kernel_rfl) (by simp) ?_
  refine AllReadyH.cons (by simp only [gA, gB, gC]; rfl) (fun K hK => ?_) AllReadyH.nil
  obtain ⟨W7, hW7, hth7, hs7, hk7⟩ := put_st (show StAt gz zeroC nilS w6 from ⟨rfl, hz⟩) (d := { newC with a := a, off := 1 }) rfl vA
  have hB7 := hk7 _ _ hgz hB
  have hS7 := hk7 _ _ hgS hS
  have hone7 := st_one { newC with a := a, off := 1 } vA hvA.one
  have hsz7 : (Try.prog.info? 29).map (·.size) = some (stCs { newC with a := a, off := 1 } vA).length := by rw [st_len (show ({ newC with a := a, off := 1 }).ps.length = 4 from rfl)]; exact hszS
  refine step_store_rowC rfl _ _ rfl gz rfl (stCs { newC with a := a, off := 1 } vA) rfl hth7 hsz7 hone7 hW7 ?_
  (try simp only [Act.put, sA, sB, sC])
  refine hK.out _ _ (hS7) ?_
  clear hHeld hK
  intro hHeld
  (try simp only [Act.put, sA, sB, sC])
  refine wpAnyH_take (i := 18) (v := ?_) (by simp only [gA, gB, gC]; rfl) (by kernel_rfl) (by kernel_rfl) (by kernel_rfl) (by exact fun _ _ _ h => h) (Or.inl ⟨by rfl, ?_⟩) (by assumption) ?_; rotate_left; (focus (intro w hSw; (try dsimp only at hSw); go_simp; try with_reducible rfl)); (try simp only [Act.put, sA, sB, sC])
  refine wpAnyH_take (i := 19) (v := ?_) (by simp only [gA, gB, gC]; rfl) (by kernel_rfl) (by kernel_rfl) (by kernel_rfl) (by exact fun _ _ _ h => h) (Or.inl ⟨by rfl, ?_⟩) (by assumption) ?_; rotate_left; (focus (intro w hSw; (try dsimp only at hSw); go_simp; try with_reducible rfl)); (try simp only [Act.put, sA, sB, sC])
  refine wpAnyH_take (i := 20) (v := ?_) (by simp only [gA, gB, gC]; rfl) (by kernel_rfl) (by kernel_rfl) (by kernel_rfl) (by exact fun _ _ _ h => h) (Or.inl ⟨by rfl, ?_⟩) (by assumption) ?_; rotate_left; (focus (intro w hSw; (try dsimp only at hSw); go_simp; try with_reducible rfl)); (try simp only [Act.put, sA, sB, sC])
  refine wpAnyH_done (by kernel_rfl) ?_ _
  have z1 := hs7.off
  have z2 := hs7.ring
  have z3 := hs7.a
  clear hs7 hW7 hth7 hk7 hone7 hsz7 hz hS7 hS hB
  go_wp2_with fail
  go_ret
  exact ⟨rfl, hB7⟩
set_option maxRecDepth 8000 in
set_option maxHeartbeats 8000000 in
theorem cpuJumpsD (a op n NN : Int) (hk : op % 3 = 2) (hN : n % 1048576 - 524288 = NN) (hz : a < 0) (ha : fit64 a) (w : World) :
    Calls Try.prog 3 #[.int .i64 a, .int .i64 op, .int .i64 n] w fun e w' => e = .returned (.bool true) ∧ Below w.heap.size w w' := by
  have hundS := Try.underlying29
  have hszS : (Try.prog.info? 29).map (·.size) = some 18 := by kernel_rfl
  have hszC : (Try.prog.info? 29).map (·.size) = some (stCs { newC with a := a } nilS).length := hszS
  have hmi : ∀ (v : Value) (w : World), (Instr.makeInterface 34 v).run Try.prog w = .ok (.iface 34 v) w := fun _ _ => rfl
  have kw := fun W : World => w16_any op 3 (by decide) (by decide) W
  simp only [hk] at kw
  have kn := fun W : World => w16_any n 1048576 (by decide) (by decide) W
  have hn0 := Int.emod_nonneg n (by decide : (1048576 : Int) ≠ 0)
  have hn1 := Int.emod_lt_of_pos n (by decide : (0 : Int) < 1048576)
  have hst0 := jmp_step a 16 NN (by decide) (by decide) (by omega) (by omega)
  have hst : stepC { newC with a := a } [oneG [⟨16, 0, NN⟩] []] = okC { newC with a := a, off := NN } := by
    rw [hst0]
    exact congrArg okC (if_pos (.inr (.inr ⟨rfl, hz⟩)))
  have hwr : IntKind.i64.wrap (n % 1048576 - 524288) = NN := by rw [IntKind.wrap_i64]; omega
  have hok1 : (oneG [⟨16, 0, NN⟩] []).Ok := one_ok (fun z hz => by simp at hz) (by show 1 + 0 ≤ 1000; decide)
  have hCok : Cp.Ok { newC with a := a } := ⟨rfl, newC_ok.pp, newC_ok.ring, ha, newC_ok.st, newC_ok.sr⟩
  generalize n % 1048576 = nm at *
  have q1 : decide (a < 0) = true := by simpa using hz
  replace hN : Aside (nm - 524288 = NN) := hN
  clear hk hst0 hn0 hn1 hz
  go_enter Try.func3, Try.ntmps3
  go_wp2_with fail
  refine (ck_any w).mono ?_
  rintro e W1 ⟨rfl, hB1⟩
  go_wp2_with fail
  refine (kw W1).mono ?_
  rintro e W2 ⟨rfl, hw2⟩
  rw [hw2]
  go_wp2_with fail
  refine (kn W1).mono ?_
  rintro e W3 ⟨rfl, hw3⟩
  rw [hw3]
  clear kw kn hw2 hw3 W2 W3
  go_wp2_with fail
  refine (cnew_any W1).mono ?_
  rintro e W6 ⟨rfl, hb6⟩
  obtain ⟨W7, hW7, hth7, hs7, hb7⟩ := new_stC W6 newC rfl nilS
  have hB6 := Below.then hB1 hb6
  have y3 := hs7.a
  have yf := (hs7.blk.1 3 _ rfl).2
  have hs0 : StAt W6.heap.size { newC with a := a } nilS (W7.setCell ⟨W6.heap.size, 3, none⟩ (.int .i64 a)) := by
    have h1 := hs7.blk.1.set 3 (.int .i64 a) (by show 3 < 18; decide)
    exact ⟨rfl, h1, h1.lt rfl⟩
  have hB0 := (Below.then hB6 hb7).setCell (p := ⟨W6.heap.size, 3, none⟩) hB6.size (.int .i64 a)
  have hone7 : ∀ u ∈ stCs newC nilS, u.oneCell' = true := st_one _ _ rfl
  have hsz7 : (Try.prog.info? 29).map (·.size) = some (stCs newC nilS).length := by kernel_rfl
  obtain ⟨Y, hY⟩ : ∃ Y, stCs newC nilS = Y := ⟨_, rfl⟩
  rw [hY] at hW7 hth7 hone7 hsz7
  have hYv : Aside (.agg (stCs newC nilS).toArray = Value.agg Y.toArray) := by rw [hY]; exact rfl
  clear hY hb6 hb7 hs7 hB6
  go_upto_region 6 with (first | (refine wpList_store_row rfl _ _ rfl W6.heap.size rfl Y hYv.out hth7 hsz7 hone7 hW7 ?_) | fail)
  clear hW7 hth7 hone7 hsz7 hYv y3 yf
  generalize W7.setCell ⟨W6.heap.size, 3, none⟩ (.int .i64 a) = Z at *
  generalize W6.heap.size = bs at *
  have hS := (Below.refl Z.heap.size Z).drew
  have hB := Below.then hB0 hS
  clear hB0
  refine wp_region_held_drew (S := (fun W => Below Z.heap.size Z W)) (by kernel_rfl) (by exact hS) ?_
  intro hHeld
  generalize Z.drew = w0 at *
  refine wpAnyH_take (i := 0) (v := _) (by simp only [gA, gB, gC]; rfl) (by kernel_rfl) (by kernel_rfl) (by kernel_rfl) (by exact fun _ _ _ h => h) (yields_row (by rfl) _ rfl bs rfl (stCs { newC with a := a } nilS) (fun _ q => (hs0.keep q).blk.range) hundS rfl hszC) (by assumption) ?_; (try simp only [Act.put, sA, sB, sC])
  refine wpAnyH_take (i := 1) (v := ?_) (by simp only [gA, gB, gC]; rfl) (by kernel_rfl) (by kernel_rfl) (by kernel_rfl) (by exact fun _ _ _ h => h) (Or.inl ⟨by rfl, ?_⟩) (by assumption) ?_; rotate_left; (focus (intro w hSw; (try dsimp only at hSw); go_simp; try with_reducible rfl)); (try simp only [Act.put, sA, sB, sC])
  refine wpAnyH_take (i := 2) (v := ?_) (by simp only [gA, gB, gC]; rfl) (by kernel_rfl) (by kernel_rfl) (by kernel_rfl) (by exact fun _ _ _ h => h) (Or.inl ⟨by rfl, ?_⟩) (by assumption) ?_; rotate_left; (focus (intro w hSw; (try dsimp only at hSw); go_simp; try with_reducible rfl)); (try simp only [Act.put, sA, sB, sC])
  refine wpAnyH_take (i := 3) (v := ?_) (by simp only [gA, gB, gC]; rfl) (by kernel_rfl) (by kernel_rfl) (by kernel_rfl) (by exact fun _ _ _ h => h) (Or.inl ⟨by rfl, ?_⟩) (by assumption) ?_; rotate_left; (focus (intro w hSw; (try dsimp only at hSw); go_simp; try with_reducible rfl)); (try simp only [Act.put, sA, sB, sC])
  refine wpAnyH_ready (rs := [4, 16]) (by kernel_rfl) (by simp) ?_
  refine AllReadyH.cons (by simp only [gA, gB, gC]; rfl) (fun K hK => ?_) ?_
  · skip
    have hb := alloc_below w0 (.cells (ins3 ⟨16, 0, NN⟩).toArray 42)
    have hI := row_list (f := ins3) (sz := 3) (fun _ => rfl) w0 [⟨16, 0, NN⟩] (ins3 ⟨16, 0, NN⟩).toArray (by simp) 42
    refine step_build1 in_okC (by decide) rfl _ rfl (ins3 ⟨16, 0, NN⟩) rfl rfl ?_
    (try simp only [Act.put, sA, sB, sC])
    refine hK.out _ _ (Below.then hS hb) ?_
    clear hHeld hK
    intro hHeld
    replace hB := Below.then hB hb
    replace hS := Below.then hS hb
    clear hb
    generalize w0.alloc (.cells (ins3 ⟨16, 0, NN⟩).toArray 42) = w1 at *
    generalize w0.heap.size = gI at *
    (try simp only [Act.put, sA, sB, sC])
    refine wpAnyH_ready (rs := [5, 16]) (by kernel_rfl) (by simp) ?_
    refine AllReadyH.cons (by simp only [gA, gB, gC]; rfl) (fun K hK => ?_) ?_
    · go_simp
      go_at_call 12
      refine (cone_any [⟨16, 0, NN⟩] [] (some ⟨gI, 0, none⟩) none 1 0 (by show 1 ≤ 100; decide) (by show 0 ≤ 100; decide) (fun _ => rfl) w1 hI (fun j y h => by simp at h)).mono ?_
      rintro e w2 ⟨x, hxg, rfl, hxo, hb⟩
      replace hB := Below.then hB hb
      replace hS := Below.then hS hb
      clear hb hI
      refine hK.out _ _ (hS) ?_
      clear hHeld hK
      intro hHeld
      (try simp only [Act.put, sA, sB, sC])
      refine wpAnyH_ready (rs := [6, 16]) (by kernel_rfl) (by simp) ?_
      refine AllReadyH.cons (by simp only [gA, gB, gC]; rfl) (fun K hK => ?_) ?_
      · skip
        have hb := alloc_below w2 (.cells x.cs.toArray 39)
        have hR := row_list pg_len w2 [x] x.cs.toArray (by simp) 39
        refine step_build1 pg_okC (by decide) rfl _ rfl x.cs rfl rfl ?_
        (try simp only [Act.put, sA, sB, sC])
        refine hK.out _ _ (Below.then hS hb) ?_
        clear hHeld hK
        intro hHeld
        replace hB := Below.then hB hb
        replace hS := Below.then hS hb
        replace hxo := hxo.below hb
        clear hb
        generalize w2.alloc (.cells x.cs.toArray 39) = w3 at *
        generalize w2.heap.size = gG at *
        (try simp only [Act.put, sA, sB, sC])
        refine wpAnyH_take (i := 7) (v := ?_) (by simp only [gA, gB, gC]; rfl) (by kernel_rfl) (by kernel_rfl) (by kernel_rfl) (by exact fun _ _ _ h => h) (Or.inl ⟨by rfl, ?_⟩) (by assumption) ?_; rotate_left; (focus (intro w hSw; (try dsimp only at hSw); go_simp; try with_reducible rfl)); (try simp only [Act.put, sA, sB, sC])
        refine wpAnyH_ready (rs := [8, 16]) (by kernel_rfl) (by simp) ?_
        refine AllReadyH.cons (by simp only [gA, gB, gC]; rfl) (fun K hK => ?_) ?_
        · go_simp
          have hb : Below w3.heap.size w3 (w3.alloc (.cells #[.slice (some ⟨gG, 0, none⟩) 1 1, .bool false, .int .i64 0, .int .i64 0, .int .i64 0, .int .i64 0] 48)) := alloc_below w3 _
          have hm : BlkL w3.heap.size (memCs (.slice (some ⟨gG, 0, none⟩) 1 1) false 0 0 0 0) (w3.alloc (.cells #[.slice (some ⟨gG, 0, none⟩) 1 1, .bool false, .int .i64 0, .int .i64 0, .int .i64 0, .int .i64 0] 48)) := blkl_alloc w3 #[.slice (some ⟨gG, 0, none⟩) 1 1, .bool false, .int .i64 0, .int .i64 0, .int .i64 0, .int .i64 0] 48
          refine hK.out _ _ (Below.then hS hb) ?_
          clear hHeld hK
          intro hHeld
          replace hB := Below.then hB hb
          replace hS := Below.then hS hb
          replace hxo := hxo.below hb
          replace hR := hR.below pg_len hb
          have hM := MemO.of (by rw [hxg]; exact hok1) hxo hm ⟨hR, fun z hz => by rw [List.mem_singleton.1 hz]; exact own_at hxo⟩
          clear hb hm hR
          generalize w3.alloc (.cells #[.slice (some ⟨gG, 0, none⟩) 1 1, .bool false, .int .i64 0, .int .i64 0, .int .i64 0, .int .i64 0] 48) = w4 at *
          generalize w3.heap.size = bm at *
          (try simp only [Act.put, sA, sB, sC])
          refine wpAnyH_take (i := 9) (v := ?_) (by simp only [gA, gB, gC]; rfl) (by kernel_rfl) (by kernel_rfl) (by kernel_rfl) (by exact fun _ _ _ h => h) (Or.inl ⟨by rfl, ?_⟩) (by assumption) ?_; rotate_left; (focus (intro w hSw; (try dsimp only at hSw); go_simp; try with_reducible rfl)); (try simp only [Act.put, sA, sB, sC])
          refine wpAnyH_ready (rs := [10, 16]) (by kernel_rfl) (by simp) ?_
          refine AllReadyH.cons (by simp only [gA, gB, gC]; rfl) (fun K hK => ?_) ?_
          · go_simp
            go_at_call 11
            refine (cstepV { newC with a := a } hCok nilS hM (SV.nil _) (okC { newC with a := a, off := NN }) (by rw [show [x].map (·.g) = [oneG [⟨16, 0, NN⟩] []] by simp [hxg]]; exact hst)).mono ?_
            rintro e w5 hP
            obtain ⟨vA, rfl, hoA, hb⟩ := hP.okE
            have hvA := SV.own hoA
            replace hB := Below.then hB hb
            replace hS := Below.then hS hb
            clear hb hP hoA hM hxo
            refine hK.out _ _ (hS) ?_
            clear hHeld hK
            intro hHeld
            (try simp only [Act.put, sA, sB, sC])
            refine wpAnyH_take (i := 11) (v := ?_) (by simp only [gA, gB, gC]; rfl) (by kernel_rfl) (by kernel_rfl) (by kernel_rfl) (by exact fun _ _ _ h => h) (Or.inl ⟨by rfl, ?_⟩) (by assumption) ?_; rotate_left; (focus (intro w hSw; (try dsimp only at hSw); go_simp; try with_reducible rfl)); (try simp only [Act.put, sA, sB, sC])
            refine wpAnyH_take (i := 12) (v := ?_) (by simp only [gA, gB, gC]; rfl) (by kernel_rfl) (by kernel_rfl) (by kernel_rfl) (by exact fun _ _ _ h => h) (Or.inl ⟨by rfl, ?_⟩) (by assumption) ?_; rotate_left; (focus (intro w hSw; (try dsimp only at hSw); go_simp; try with_reducible rfl)); (try simp only [Act.put, sA, sB, sC])
            refine wpAnyH_take (i := 13) (v := ?_) (by simp only [gA, gB, gC]; rfl) (by kernel_rfl) (by kernel_rfl) (by kernel_rfl) (by exact fun _ _ _ h => h) (Or.inl ⟨by rfl, ?_⟩) (by assumption) ?_; rotate_left; (focus (intro w hSw; (try dsimp only at hSw); go_simp; try with_reducible rfl)); (try simp only [Act.put, sA, sB, sC])
            refine wpAnyH_take (i := 14) (v := ?_) (by simp only [gA, gB, gC]; rfl) (by kernel_rfl) (by kernel_rfl) (by kernel_rfl) (by exact fun _ _ _ h => h) (Or.inl ⟨by rfl, ?_⟩) (by assumption) ?_; rotate_left; (focus (intro w hSw; (try dsimp only at hSw); go_simp; try with_reducible rfl)); (try simp only [Act.put, sA, sB, sC])
            refine wpAnyH_take (i := 15) (v := ?_) (by simp only [gA, gB, gC]; rfl) (by kernel_rfl) (by kernel_rfl) (by kernel_rfl) (by exact fun _ _ _ h => h) (Or.inl ⟨by rfl, ?_⟩) (by assumption) ?_; rotate_left; (focus (intro w hSw; (try dsimp only at hSw); go_simp; try with_reducible rfl)); (try simp only [Act.put, sA, sB, sC])
            refine wpAnyH_ready (rs := [16]) (by kernel_rfl) (by simp) ?_
            refine AllReadyH.cons (by simp only [gA, gB, gC]; rfl) (fun K hK => ?_) AllReadyH.nil
            have hb := alloc_below w5 (.cells zS 29)
            have hz : BlkL w5.heap.size (stCs zeroC nilS) (w5.alloc (.cells zS 29)) := blkl_alloc w5 (stCs zeroC nilS).toArray 29
            have hgz := hB.size
            have hSz := hS.size
            refine step_allocC (z := zS) rfl rfl (fun _ => rfl) ?_
            (try simp only [Act.put, sA, sB, sC])
            refine hK.out _ _ (Below.then hS hb) ?_
            clear hHeld hK
            intro hHeld
            replace hB := Below.then hB hb
            replace hS := Below.then hS hb
            replace hvA := hvA.below hb
            clear hb
            have hgS : Z.heap.size ≤ w5.heap.size := hSz
            generalize w5.alloc (.cells zS 29) = w6 at *
            generalize w5.heap.size = gz at *
            (try simp only [Act.put, sA, sB, sC])
            refine wpAnyH_ready (rs := [17]) (by kernel_rfl) (by simp) ?_
            refine AllReadyH.cons (by simp only [gA, gB, gC]; rfl) (fun K hK => ?_) AllReadyH.nil
            obtain ⟨W7, hW7, hth7, hs7, hk7⟩ := put_st (show StAt gz zeroC nilS w6 from ⟨rfl, hz⟩) (d := { newC with a := a, off := NN }) rfl vA
            have hB7 := hk7 _ _ hgz hB
            have hS7 := hk7 _ _ hgS hS
            have hone7 := st_one { newC with a := a, off := NN } vA hvA.one
            have hsz7 : (Try.prog.info? 29).map (·.size) = some (stCs { newC with a := a, off := NN } vA).length := by rw [st_len (show ({ newC with a := a, off := NN }).ps.length = 4 from rfl)]; exact hszS
            refine step_store_rowC rfl _ _ rfl gz rfl (stCs { newC with a := a, off := NN } vA) rfl hth7 hsz7 hone7 hW7 ?_
            (try simp only [Act.put, sA, sB, sC])
            refine hK.out _ _ (hS7) ?_
            clear hHeld hK
            intro hHeld
            (try simp only [Act.put, sA, sB, sC])
            refine wpAnyH_take (i := 18) (v := ?_) (by simp only [gA, gB, gC]; rfl) (by kernel_rfl) (by kernel_rfl) (by kernel_rfl) (by exact fun _ _ _ h => h) (Or.inl ⟨by rfl, ?_⟩) (by assumption) ?_; rotate_left; (focus (intro w hSw; (try dsimp only at hSw); go_simp; try with_reducible rfl)); (try simp only [Act.put, sA, sB, sC])
            refine wpAnyH_take (i := 19) (v := ?_) (by simp only [gA, gB, gC]; rfl) (by kernel_rfl) (by kernel_rfl) (by kernel_rfl) (by exact fun _ _ _ h => h) (Or.inl ⟨by rfl, ?_⟩) (by assumption) ?_; rotate_left; (focus (intro w hSw; (try dsimp only at hSw); go_simp; try with_reducible rfl)); (try simp only [Act.put, sA, sB, sC])
            refine wpAnyH_take (i := 20) (v := ?_) (by simp only [gA, gB, gC]; rfl) (by kernel_rfl) (by kernel_rfl) (by kernel_rfl) (by exact fun _ _ _ h => h) (Or.inl ⟨by rfl, ?_⟩) (by assumption) ?_; rotate_left; (focus (intro w hSw; (try dsimp only at hSw); go_simp; try with_reducible rfl)); (try simp only [Act.put, sA, sB, sC])
            refine wpAnyH_done (by kernel_rfl) ?_ _
            have z1 := hs7.off
            have z2 := hs7.ring
            have z3 := hs7.a
            clear hs7 hW7 hth7 hk7 hone7 hsz7 hz hS7 hS hB
            go_wp2_with fail
            go_ret
            exact ⟨rfl, hB7⟩
          refine AllReadyH.cons (by simp only [gA, gB, gC]; rfl) (fun K hK => ?_) AllReadyH.nil
          have hb := alloc_below w4 (.cells zS 29)
          have hz : BlkL w4.heap.size (stCs zeroC nilS) (w4.alloc (.cells zS 29)) := blkl_alloc w4 (stCs zeroC nilS).toArray 29
          have hgz := hB.size
          have hSz := hS.size
          refine step_allocC (z := zS) rfl rfl (fun _ => rfl) ?_
          (try simp only [Act.put, sA, sB, sC])
          refine hK.out _ _ (Below.then hS hb) ?_
          clear hHeld hK
          intro hHeld
          replace hB := Below.then hB hb
          replace hS := Below.then hS hb
          replace hxo := hxo.below hb
          replace hM := hM.below hb
          clear hb
          have hgS : Z.heap.size ≤ w4.heap.size := hSz
          generalize w4.alloc (.cells zS 29) = w5 at *
          generalize w4.heap.size = gz at *
          (try simp only [Act.put, sA, sB, sC])
          refine wpAnyH_ready (rs := [10]) (by kernel_rfl) (by simp) ?_
          refine AllReadyH.cons (by simp only [gA, gB, gC]; rfl) (fun K hK => ?_) AllReadyH.nil
          go_simp
          go_at_call 11
          refine (cstepV { newC with a := a } hCok nilS hM (SV.nil _) (okC { newC with a := a, off := NN }) (by rw [show [x].map (·.g) = [oneG [⟨16, 0, NN⟩] []] by simp [hxg]]; exact hst)).mono ?_
          rintro e w6 hP
          obtain ⟨vA, rfl, hoA, hb⟩ := hP.okE
          have hvA := SV.own hoA
          replace hB := Below.then hB hb
          replace hS := Below.then hS hb
          replace hz := stab_blk _ _ _ _ hz hb
          clear hb hP hoA hM hxo
          refine hK.out _ _ (hS) ?_
          clear hHeld hK
          intro hHeld
          (try simp only [Act.put, sA, sB, sC])
          refine wpAnyH_take (i := 11) (v := ?_) (by simp only [gA, gB, gC]; rfl) (by kernel_rfl) (by kernel_rfl) (by kernel_rfl) (by exact fun _ _ _ h => h) (Or.inl ⟨by rfl, ?_⟩) (by assumption) ?_; rotate_left; (focus (intro w hSw; (try dsimp only at hSw); go_simp; try with_reducible rfl)); (try simp only [Act.put, sA, sB, sC])
          refine wpAnyH_take (i := 12) (v := ?_) (by simp only [gA, gB, gC]; rfl) (by kernel_rfl) (by kernel_rfl) (by kernel_rfl) (by exact fun _ _ _ h => h) (Or.inl ⟨by rfl, ?_⟩) (by assumption) ?_; rotate_left; (focus (intro w hSw; (try dsimp only at hSw); go_simp; try with_reducible rfl)); (try simp only [Act.put, sA, sB, sC])
          refine wpAnyH_take (i := 13) (v := ?_) (by simp only [gA, gB, gC]; rfl) (by kernel_rfl) (by kernel_rfl) (by kernel_rfl) (by exact fun _ _ _ h => h) (Or.inl ⟨by rfl, ?_⟩) (by assumption) ?_; rotate_left; (focus (intro w hSw; (try dsimp only at hSw); go_simp; try with_reducible rfl)); (try simp only [Act.put, sA, sB, sC])
          refine wpAnyH_take (i := 14) (v := ?_) (by simp only [gA, gB, gC]; rfl) (by kernel_rfl) (by kernel_rfl) (by kernel_rfl) (by exact fun _ _ _ h => h) (Or.inl ⟨by rfl, ?_⟩) (by assumption) ?_; rotate_left; (focus (intro w hSw; (try dsimp only at hSw); go_simp; try with_reducible rfl)); (try simp only [Act.put, sA, sB, sC])
          refine wpAnyH_take (i := 15) (v := ?_) (by simp only [gA, gB, gC]; rfl) (by kernel_rfl) (by kernel_rfl) (by kernel_rfl) (by exact fun _ _ _ h => h) (Or.inl ⟨by rfl, ?_⟩) (by assumption) ?_; rotate_left; (focus (intro w hSw; (try dsimp only at hSw); go_simp; try with_reducible rfl)); (try simp only [Act.put, sA, sB, sC])
          refine wpAnyH_ready (rs := [17]) (by kernel_rfl) (by simp) ?_
          refine AllReadyH.cons (by simp only [gA, gB, gC]; rfl) (fun K hK => ?_) AllReadyH.nil
          obtain ⟨W7, hW7, hth7, hs7, hk7⟩ := put_st (show StAt gz zeroC nilS w6 from ⟨rfl, hz⟩) (d := { newC with a := a, off := NN }) rfl vA
          have hB7 := hk7 _ _ hgz hB
          have hS7 := hk7 _ _ hgS hS
          have hone7 := st_one { newC with a := a, off := NN } vA hvA.one
          have hsz7 : (Try.prog.info? 29).map (·.size) = some (stCs { newC with a := a, off := NN } vA).length := by rw [st_len (show ({ newC with a := a, off := NN }).ps.length = 4 from rfl)]; exact hszS
          refine step_store_rowC rfl _ _ rfl gz rfl (stCs { newC with a := a, off := NN } vA) rfl hth7 hsz7 hone7 hW7 ?_
          (try simp only [Act.put, sA, sB, sC])
          refine hK.out _ _ (hS7) ?_
          clear hHeld hK
          intro hHeld
          (try simp only [Act.put, sA, sB, sC])
          refine wpAnyH_take (i := 18) (v := ?_) (by simp only [gA, gB, gC]; rfl) (by kernel_rfl) (by kernel_rfl) (by kernel_rfl) (by exact fun _ _ _ h => h) (Or.inl ⟨by rfl, ?_⟩) (by assumption) ?_; rotate_left; (focus (intro w hSw; (try dsimp only at hSw); go_simp; try with_reducible rfl)); (try simp only [Act.put, sA, sB, sC])
          refine wpAnyH_take (i := 19) (v := ?_) (by simp only [gA, gB, gC]; rfl) (by kernel_rfl) (by kernel_rfl) (by kernel_rfl) (by exact fun _ _ _ h => h) (Or.inl ⟨by rfl, ?_⟩) (by assumption) ?_; rotate_left; (focus (intro w hSw; (try dsimp only at hSw); go_simp; try with_reducible rfl)); (try simp only [Act.put, sA, sB, sC])
          refine wpAnyH_take (i := 20) (v := ?_) (by simp only [gA, gB, gC]; rfl) (by kernel_rfl) (by kernel_rfl) (by kernel_rfl) (by exact fun _ _ _ h => h) (Or.inl ⟨by rfl, ?_⟩) (by assumption) ?_; rotate_left; (focus (intro w hSw; (try dsimp only at hSw); go_simp; try with_reducible rfl)); (try simp only [Act.put, sA, sB, sC])
          refine wpAnyH_done (by kernel_rfl) ?_ _
          have z1 := hs7.off
          have z2 := hs7.ring
          have z3 := hs7.a
          clear hs7 hW7 hth7 hk7 hone7 hsz7 hz hS7 hS hB
          go_wp2_with fail
          go_ret
          exact ⟨rfl, hB7⟩
        refine AllReadyH.cons (by simp only [gA, gB, gC]; rfl) (fun K hK => ?_) AllReadyH.nil
        have hb := alloc_below w3 (.cells zS 29)
        have hz : BlkL w3.heap.size (stCs zeroC nilS) (w3.alloc (.cells zS 29)) := blkl_alloc w3 (stCs zeroC nilS).toArray 29
        have hgz := hB.size
        have hSz := hS.size
        refine step_allocC (z := zS) rfl rfl (fun _ => rfl) ?_
        (try simp only [Act.put, sA, sB, sC])
        refine hK.out _ _ (Below.then hS hb) ?_
        clear hHeld hK
        intro hHeld
        replace hB := Below.then hB hb
        replace hS := Below.then hS hb
        replace hxo := hxo.below hb
        replace hR := hR.below pg_len hb
        clear hb
        have hgS : Z.heap.size ≤ w3.heap.size := hSz
        generalize w3.alloc (.cells zS 29) = w4 at *
        generalize w3.heap.size = gz at *
        (try simp only [Act.put, sA, sB, sC])
        refine wpAnyH_ready (rs := [8]) (by kernel_rfl) (by simp) ?_
        refine AllReadyH.cons (by simp only [gA, gB, gC]; rfl) (fun K hK => ?_) AllReadyH.nil
        go_simp
        have hb : Below w4.heap.size w4 (w4.alloc (.cells #[.slice (some ⟨gG, 0, none⟩) 1 1, .bool false, .int .i64 0, .int .i64 0, .int .i64 0, .int .i64 0] 48)) := alloc_below w4 _
        have hm : BlkL w4.heap.size (memCs (.slice (some ⟨gG, 0, none⟩) 1 1) false 0 0 0 0) (w4.alloc (.cells #[.slice (some ⟨gG, 0, none⟩) 1 1, .bool false, .int .i64 0, .int .i64 0, .int .i64 0, .int .i64 0] 48)) := blkl_alloc w4 #[.slice (some ⟨gG, 0, none⟩) 1 1, .bool false, .int .i64 0, .int .i64 0, .int .i64 0, .int .i64 0] 48
        refine hK.out _ _ (Below.then hS hb) ?_
        clear hHeld hK
        intro hHeld
        replace hB := Below.then hB hb
        replace hS := Below.then hS hb
        replace hxo := hxo.below hb
        replace hR := hR.below pg_len hb
        replace hz := stab_blk _ _ _ _ hz hb
        have hM := MemO.of (by rw [hxg]; exact hok1) hxo hm ⟨hR, fun z hz => by rw [List.mem_singleton.1 hz]; exact own_at hxo⟩
        clear hb hm hR
        generalize w4.alloc (.cells #[.slice (some ⟨gG, 0, none⟩) 1 1, .bool false, .int .i64 0, .int .i64 0, .int .i64 0, .int .i64 0] 48) = w5 at *
        generalize w4.heap.size = bm at *
        (try simp only [Act.put, sA, sB, sC])
        refine wpAnyH_take (i := 9) (v := ?_) (by simp only [gA, gB, gC]; rfl) (by kernel_rfl) (by kernel_rfl) (by kernel_rfl) (by exact fun _ _ _ h => h) (Or.inl ⟨by rfl, ?_⟩) (by assumption) ?_; rotate_left; (focus (intro w hSw; (try dsimp only at hSw); go_simp; try with_reducible rfl)); (try simp only [Act.put, sA, sB, sC])
        refine wpAnyH_ready (rs := [10]) (by kernel_rfl) (by simp) ?_
        refine AllReadyH.cons (by simp only [gA, gB, gC]; rfl) (fun K hK => ?_) AllReadyH.nil
        go_simp
        go_at_call 11
        refine (cstepV { newC with a := a } hCok nilS hM (SV.nil _) (okC { newC with a := a, off := NN }) (by rw [show [x].map (·.g) = [oneG [⟨16, 0, NN⟩] []] by simp [hxg]]; exact hst)).mono ?_
        rintro e w6 hP
        obtain ⟨vA, rfl, hoA, hb⟩ := hP.okE
        have hvA := SV.own hoA
        replace hB := Below.then hB hb
        replace hS := Below.then hS hb
        replace hz := stab_blk _ _ _ _ hz hb
        clear hb hP hoA hM hxo
        refine hK.out _ _ (hS) ?_
        clear hHeld hK
        intro hHeld
        (try simp only [Act.put, sA, sB, sC])
        refine wpAnyH_take (i := 11) (v := ?_) (by simp only [gA, gB, gC]; rfl) (by kernel_rfl) (by kernel_rfl) (by kernel_rfl) (by exact fun _ _ _ h => h) (Or.inl ⟨by rfl, ?_⟩) (by assumption) ?_; rotate_left; (focus (intro w hSw; (try dsimp only at hSw); go_simp; try with_reducible rfl)); (try simp only [Act.put, sA, sB, sC])
        refine wpAnyH_take (i := 12) (v := ?_) (by simp only [gA, gB, gC]; rfl) (by kernel_rfl) (by kernel_rfl) (by kernel_rfl) (by exact fun _ _ _ h => h) (Or.inl ⟨by rfl, ?_⟩) (by assumption) ?_; rotate_left; (focus (intro w hSw; (try dsimp only at hSw); go_simp; try with_reducible rfl)); (try simp only [Act.put, sA, sB, sC])
        refine wpAnyH_take (i := 13) (v := ?_) (by simp only [gA, gB, gC]; rfl) (by kernel_rfl) (by kernel_rfl) (by kernel_rfl) (by exact fun _ _ _ h => h) (Or.inl ⟨by rfl, ?_⟩) (by assumption) ?_; rotate_left; (focus (intro w hSw; (try dsimp only at hSw); go_simp; try with_reducible rfl)); (try simp only [Act.put, sA, sB, sC])
        refine wpAnyH_take (i := 14) (v := ?_) (by simp only [gA, gB, gC]; rfl) (by kernel_rfl) (by kernel_rfl) (by kernel_rfl) (by exact fun _ _ _ h => h) (Or.inl ⟨by rfl, ?_⟩) (by assumption) ?_; rotate_left; (focus (intro w hSw; (try dsimp only at hSw); go_simp; try with_reducible rfl)); (try simp only [Act.put, sA, sB, sC])
        refine wpAnyH_take (i := 15) (v := ?_) (by simp only [gA, gB, gC]; rfl) (by kernel_rfl) (by kernel_rfl) (by kernel_rfl) (by exact fun _ _ _ h => h) (Or.inl ⟨by rfl, ?_⟩) (by assumption) ?_; rotate_left; (focus (intro w hSw; (try dsimp only at hSw); go_simp; try with_reducible rfl)); (try simp only [Act.put, sA, sB, sC])
        refine wpAnyH_ready (rs := [17]) (by kernel_rfl) (by simp) ?_
        refine AllReadyH.cons (by simp only [gA, gB, gC]; rfl) (fun K hK => ?_) AllReadyH.nil
        obtain ⟨W7, hW7, hth7, hs7, hk7⟩ := put_st (show StAt gz zeroC nilS w6 from ⟨rfl, hz⟩) (d := { newC with a := a, off := NN }) rfl vA
        have hB7 := hk7 _ _ hgz hB
        have hS7 := hk7 _ _ hgS hS
        have hone7 := st_one { newC with a := a, off := NN } vA hvA.one
        have hsz7 : (Try.prog.info? 29).map (·.size) = some (stCs { newC with a := a, off := NN } vA).length := by rw [st_len (show ({ newC with a := a, off := NN }).ps.length = 4 from rfl)]; exact hszS
        refine step_store_rowC rfl _ _ rfl gz rfl (stCs { newC with a := a, off := NN } vA) rfl hth7 hsz7 hone7 hW7 ?_
        (try simp only [Act.put, sA, sB, sC])
        refine hK.out _ _ (hS7) ?_
        clear hHeld hK
        intro hHeld
        (try simp only [Act.put, sA, sB, sC])
        refine wpAnyH_take (i := 18) (v := ?_) (by simp only [gA, gB, gC]; rfl) (by kernel_rfl) (by kernel_rfl) (by kernel_rfl) (by exact fun _ _ _ h => h) (Or.inl ⟨by rfl, ?_⟩) (by assumption) ?_; rotate_left; (focus (intro w hSw; (try dsimp only at hSw); go_simp; try with_reducible rfl)); (try simp only [Act.put, sA, sB, sC])
        refine wpAnyH_take (i := 19) (v := ?_) (by simp only [gA, gB, gC]; rfl) (by kernel_rfl) (by kernel_rfl) (by kernel_rfl) (by exact fun _ _ _ h => h) (Or.inl ⟨by rfl, ?_⟩) (by assumption) ?_; rotate_left; (focus (intro w hSw; (try dsimp only at hSw); go_simp; try with_reducible rfl)); (try simp only [Act.put, sA, sB, sC])
        refine wpAnyH_take (i := 20) (v := ?_) (by simp only [gA, gB, gC]; rfl) (by kernel_rfl) (by kernel_rfl) (by kernel_rfl) (by exact fun _ _ _ h => h) (Or.inl ⟨by rfl, ?_⟩) (by assumption) ?_; rotate_left; (focus (intro w hSw; (try dsimp only at hSw); go_simp; try with_reducible rfl)); (try simp only [Act.put, sA, sB, sC])
        refine wpAnyH_done (by kernel_rfl) ?_ _
        have z1 := hs7.off
        have z2 := hs7.ring
        have z3 := hs7.a
        clear hs7 hW7 hth7 hk7 hone7 hsz7 hz hS7 hS hB
        go_wp2_with fail
        go_ret
        exact ⟨rfl, hB7⟩
      refine AllReadyH.cons (by simp only [gA, gB, gC]; rfl) (fun K hK => ?_) AllReadyH.nil
      have hb := alloc_below w2 (.cells zS 29)
      have hz : BlkL w2.heap.size (stCs zeroC nilS) (w2.alloc (.cells zS 29)) := blkl_alloc w2 (stCs zeroC nilS).toArray 29
      have hgz := hB.size
      have hSz := hS.size
      refine step_allocC (z := zS) rfl rfl (fun _ => rfl) ?_
      (try simp only [Act.put, sA, sB, sC])
      refine hK.out _ _ (Below.then hS hb) ?_
      clear hHeld hK
      intro hHeld
      replace hB := Below.then hB hb
      replace hS := Below.then hS hb
      replace hxo := hxo.below hb
      clear hb
      have hgS : Z.heap.size ≤ w2.heap.size := hSz
      generalize w2.alloc (.cells zS 29) = w3 at *
      generalize w2.heap.size = gz at *
      (try simp only [Act.put, sA, sB, sC])
      refine wpAnyH_ready (rs := [6]) (by kernel_rfl) (by simp) ?_
      refine AllReadyH.cons (by simp only [gA, gB, gC]; rfl) (fun K hK => ?_) AllReadyH.nil
      have hb := alloc_below w3 (.cells x.cs.toArray 39)
      have hR := row_list pg_len w3 [x] x.cs.toArray (by simp) 39
      refine step_build1 pg_okC (by decide) rfl _ rfl x.cs rfl rfl ?_
      (try simp only [Act.put, sA, sB, sC])
      refine hK.out _ _ (Below.then hS hb) ?_
      clear hHeld hK
      intro hHeld
      replace hB := Below.then hB hb
      replace hS := Below.then hS hb
      replace hxo := hxo.below hb
      replace hz := stab_blk _ _ _ _ hz hb
      clear hb
      generalize w3.alloc (.cells x.cs.toArray 39) = w4 at *
      generalize w3.heap.size = gG at *
      (try simp only [Act.put, sA, sB, sC])
      refine wpAnyH_take (i := 7) (v := ?_) (by simp only [gA, gB, gC]; rfl) (by kernel_rfl) (by kernel_rfl) (by kernel_rfl) (by exact fun _ _ _ h => h) (Or.inl ⟨by rfl, ?_⟩) (by assumption) ?_; rotate_left; (focus (intro w hSw; (try dsimp only at hSw); go_simp; try with_reducible rfl)); (try simp only [Act.put, sA, sB, sC])
      refine wpAnyH_ready (rs := [8]) (by kernel_rfl) (by simp) ?_
      refine AllReadyH.cons (by simp only [gA, gB, gC]; rfl) (fun K hK => ?_) AllReadyH.nil
      go_simp
      have hb : Below w4.heap.size w4 (w4.alloc (.cells #[.slice (some ⟨gG, 0, none⟩) 1 1, .bool false, .int .i64 0, .int .i64 0, .int .i64 0, .int .i64 0] 48)) := alloc_below w4 _
      have hm : BlkL w4.heap.size (memCs (.slice (some ⟨gG, 0, none⟩) 1 1) false 0 0 0 0) (w4.alloc (.cells #[.slice (some ⟨gG, 0, none⟩) 1 1, .bool false, .int .i64 0, .int .i64 0, .int .i64 0, .int .i64 0] 48)) := blkl_alloc w4 #[.slice (some ⟨gG, 0, none⟩) 1 1, .bool false, .int .i64 0, .int .i64 0, .int .i64 0, .int .i64 0] 48
      refine hK.out _ _ (Below.then hS hb) ?_
      clear hHeld hK
      intro hHeld
      replace hB := Below.then hB hb
      replace hS := Below.then hS hb
      replace hxo := hxo.below hb
      replace hR := hR.below pg_len hb
      replace hz := stab_blk _ _ _ _ hz hb
      have hM := MemO.of (by rw [hxg]; exact hok1) hxo hm ⟨hR, fun z hz => by rw [List.mem_singleton.1 hz]; exact own_at hxo⟩
      clear hb hm hR
      generalize w4.alloc (.cells #[.slice (some ⟨gG, 0, none⟩) 1 1, .bool false, .int .i64 0, .int .i64 0, .int .i64 0, .int .i64 0] 48) = w5 at *
      generalize w4.heap.size = bm at *
      (try simp only [Act.put, sA, sB, sC])
      refine wpAnyH_take (i := 9) (v := ?_) (by simp only [gA, gB, gC]; rfl) (by kernel_rfl) (by kernel_rfl) (by kernel_rfl) (by exact fun _ _ _ h => h) (Or.inl ⟨by rfl, ?_⟩) (by assumption) ?_; rotate_left; (focus (intro w hSw; (try dsimp only at hSw); go_simp; try with_reducible rfl)); (try simp only [Act.put, sA, sB, sC])
      refine wpAnyH_ready (rs := [10]) (by kernel_rfl) (by simp) ?_
      refine AllReadyH.cons (by simp only [gA, gB, gC]; rfl) (fun K hK => ?_) AllReadyH.nil
      go_simp
      go_at_call 11
      refine (cstepV { newC with a := a } hCok nilS hM (SV.nil _) (okC { newC with a := a, off := NN }) (by rw [show [x].map (·.g) = [oneG [⟨16, 0, NN⟩] []] by simp [hxg]]; exact hst)).mono ?_
      rintro e w6 hP
      obtain ⟨vA, rfl, hoA, hb⟩ := hP.okE
      have hvA := SV.own hoA
      replace hB := Below.then hB hb
      replace hS := Below.then hS hb
      replace hz := stab_blk _ _ _ _ hz hb
      clear hb hP hoA hM hxo
      refine hK.out _ _ (hS) ?_
      clear hHeld hK
      intro hHeld
      (try simp only [Act.put, sA, sB, sC])
      refine wpAnyH_take (i := 11) (v := ?_) (by simp only [gA, gB, gC]; rfl) (by kernel_rfl) (by kernel_rfl) (by kernel_rfl) (by exact fun _ _ _ h => h) (Or.inl ⟨by rfl, ?_⟩) (by assumption) ?_; rotate_left; (focus (intro w hSw; (try dsimp only at hSw); go_simp; try with_reducible rfl)); (try simp only [Act.put, sA, sB, sC])
      refine wpAnyH_take (i := 12) (v := ?_) (by simp only [gA, gB, gC]; rfl) (by kernel_rfl) (by kernel_rfl) (by kernel_rfl) (by exact fun _ _ _ h => h) (Or.inl ⟨by rfl, ?_⟩) (by assumption) ?_; rotate_left; (focus (intro w hSw; (try dsimp only at hSw); go_simp; try with_reducible rfl)); (try simp only [Act.put, sA, sB, sC])
      refine wpAnyH_take (i := 13) (v := ?_) (by simp only [gA, gB, gC]; rfl) (by kernel_rfl) (by kernel_rfl) (by kernel_rfl) (by exact fun _ _ _ h => h) (Or.inl ⟨by rfl, ?_⟩) (by assumption) ?_; rotate_left; (focus (intro w hSw; (try dsimp only at hSw); go_simp; try with_reducible rfl)); (try simp only [Act.put, sA, sB, sC])
      refine wpAnyH_take (i := 14) (v := ?_) (by simp only [gA, gB, gC]; rfl) (by kernel_rfl) (by kernel_rfl) (by kernel_rfl) (by exact fun _ _ _ h => h) (Or.inl ⟨by rfl, ?_⟩) (by assumption) ?_; rotate_left; (focus (intro w hSw; (try dsimp only at hSw); go_simp; try with_reducible rfl)); (try simp only [Act.put, sA, sB, sC])
      refine wpAnyH_take (i := 15) (v := ?_) (by simp only [gA, gB, gC]; rfl) (by kernel_rfl) (by kernel_rfl) (by kernel_rfl) (by exact fun _ _ _ h => h) (Or.inl ⟨by rfl, ?_⟩) (by assumption) ?_; rotate_left; (focus (intro w hSw; (try dsimp only at hSw); go_simp; try with_reducible rfl)); (try simp only [Act.put, sA, sB, sC])
      refine wpAnyH_ready (rs := [17]) (by kernel_rfl) (by simp) ?_
      refine AllReadyH.cons (by simp only [gA, gB, gC]; rfl) (fun K hK => ?_) AllReadyH.nil
      obtain ⟨W7, hW7, hth7, hs7, hk7⟩ := put_st (show StAt gz zeroC nilS w6 from ⟨rfl, hz⟩) (d := { newC with a := a, off := NN }) rfl vA
      have hB7 := hk7 _ _ hgz hB
      have hS7 := hk7 _ _ hgS hS
      have hone7 := st_one { newC with a := a, off := NN } vA hvA.one
      have hsz7 : (Try.prog.info? 29).map (·.size) = some (stCs { newC with a := a, off := NN } vA).length := by rw [st_len (show ({ newC with a := a, off := NN }).ps.length = 4 from rfl)]; exact hszS
      refine step_store_rowC rfl _ _ rfl gz rfl (stCs { newC with a := a, off := NN } vA) rfl hth7 hsz7 hone7 hW7 ?_
      (try simp only [Act.put, sA, sB, sC])
      refine hK.out _ _ (hS7) ?_
      clear hHeld hK
      intro hHeld
      (try simp only [Act.put, sA, sB, sC])
      refine wpAnyH_take (i := 18) (v := ?_) (by simp only [gA, gB, gC]; rfl) (by kernel_rfl) (by kernel_rfl) (by kernel_rfl) (by exact fun _ _ _ h => h) (Or.inl ⟨by rfl, ?_⟩) (by assumption) ?_; rotate_left; (focus (intro w hSw; (try dsimp only at hSw); go_simp; try with_reducible rfl)); (try simp only [Act.put, sA, sB, sC])
      refine wpAnyH_take (i := 19) (v := ?_) (by simp only [gA, gB, gC]; rfl) (by kernel_rfl) (by kernel_rfl) (by kernel_rfl) (by exact fun _ _ _ h => h) (Or.inl ⟨by rfl, ?_⟩) (by assumption) ?_; rotate_left; (focus (intro w hSw; (try dsimp only at hSw); go_simp; try with_reducible rfl)); (try simp only [Act.put, sA, sB, sC])
      refine wpAnyH_take (i := 20) (v := ?_) (by simp only [gA, gB, gC]; rfl) (by kernel_rfl) (by kernel_rfl) (by kernel_rfl) (by exact fun _ _ _ h => h) (Or.inl ⟨by rfl, ?_⟩) (by assumption) ?_; rotate_left; (focus (intro w hSw; (try dsimp only at hSw); go_simp; try with_reducible rfl)); (try simp only [Act.put, sA, sB, sC])
      refine wpAnyH_done (by kernel_rfl) ?_ _
      have z1 := hs7.off
      have z2 := hs7.ring
      have z3 := hs7.a
      clear hs7 hW7 hth7 hk7 hone7 hsz7 hz hS7 hS hB
      go_wp2_with fail
      go_ret
      exact ⟨rfl, hB7⟩
    refine AllReadyH.cons (by simp only [gA, gB, gC]; rfl) (fun K hK => ?_) AllReadyH.nil
    have hb := alloc_below w1 (.cells zS 29)
    have hz : BlkL w1.heap.size (stCs zeroC nilS) (w1.alloc (.cells zS 29)) := blkl_alloc w1 (stCs zeroC nilS).toArray 29
    have hgz := hB.size
    have hSz := hS.size
    refine step_allocC (z := zS) rfl rfl (fun _ => rfl) ?_
    (try simp only [Act.put, sA, sB, sC])
    refine hK.out _ _ (Below.then hS hb) ?_
    clear hHeld hK
    intro hHeld
    replace hB := Below.then hB hb
    replace hS := Below.then hS hb
    replace hI := hI.below in_okC.len hb
    clear hb
    have hgS : Z.heap.size ≤ w1.heap.size := hSz
    generalize w1.alloc (.cells zS 29) = w2 at *
    generalize w1.heap.size = gz at *
    (try simp only [Act.put, sA, sB, sC])
    refine wpAnyH_ready (rs := [5]) (by kernel_rfl) (by simp) ?_
    refine AllReadyH.cons (by simp only [gA, gB, gC]; rfl) (fun K hK => ?_) AllReadyH.nil
    go_simp
    go_at_call 12
    refine (cone_any [⟨16, 0, NN⟩] [] (some ⟨gI, 0, none⟩) none 1 0 (by show 1 ≤ 100; decide) (by show 0 ≤ 100; decide) (fun _ => rfl) w2 hI (fun j y h => by simp at h)).mono ?_
    rintro e w3 ⟨x, hxg, rfl, hxo, hb⟩
    replace hB := Below.then hB hb
    replace hS := Below.then hS hb
    replace hz := stab_blk _ _ _ _ hz hb
    clear hb hI
    refine hK.out _ _ (hS) ?_
    clear hHeld hK
    intro hHeld
    (try simp only [Act.put, sA, sB, sC])
    refine wpAnyH_ready (rs := [6]) (by kernel_rfl) (by simp) ?_
    refine AllReadyH.cons (by simp only [gA, gB, gC]; rfl) (fun K hK => ?_) AllReadyH.nil
    have hb := alloc_below w3 (.cells x.cs.toArray 39)
    have hR := row_list pg_len w3 [x] x.cs.toArray (by simp) 39
    refine step_build1 pg_okC (by decide) rfl _ rfl x.cs rfl rfl ?_
    (try simp only [Act.put, sA, sB, sC])
    refine hK.out _ _ (Below.then hS hb) ?_
    clear hHeld hK
    intro hHeld
    replace hB := Below.then hB hb
    replace hS := Below.then hS hb
    replace hxo := hxo.below hb
    replace hz := stab_blk _ _ _ _ hz hb
    clear hb
    generalize w3.alloc (.cells x.cs.toArray 39) = w4 at *
    generalize w3.heap.size = gG at *
    (try simp only [Act.put, sA, sB, sC])
    refine wpAnyH_take (i := 7) (v := ?_) (by simp only [gA, gB, gC]; rfl) (by kernel_rfl) (by kernel_rfl) (by kernel_rfl) (by exact fun _ _ _ h => h) (Or.inl ⟨by rfl, ?_⟩) (by assumption) ?_; rotate_left; (focus (intro w hSw; (try dsimp only at hSw); go_simp; try with_reducible rfl)); (try simp only [Act.put, sA, sB, sC])
    refine wpAnyH_ready (rs := [8]) (by kernel_rfl) (by simp) ?_
    refine AllReadyH.cons (by simp only [gA, gB, gC]; rfl) (fun K hK => ?_) AllReadyH.nil
    go_simp
    have hb : Below w4.heap.size w4 (w4.alloc (.cells #[.slice (some ⟨gG, 0, none⟩) 1 1, .bool false, .int .i64 0, .int .i64 0, .int .i64 0, .int .i64 0] 48)) := alloc_below w4 _
    have hm : BlkL w4.heap.size (memCs (.slice (some ⟨gG, 0, none⟩) 1 1) false 0 0 0 0) (w4.alloc (.cells #[.slice (some ⟨gG, 0, none⟩) 1 1, .bool false, .int .i64 0, .int .i64 0, .int .i64 0, .int .i64 0] 48)) := blkl_alloc w4 #[.slice (some ⟨gG, 0, none⟩) 1 1, .bool false, .int .i64 0, .int .i64 0, .int .i64 0, .int .i64 0] 48
    refine hK.out _ _ (Below.then hS hb) ?_
    clear hHeld hK
    intro hHeld
    replace hB := Below.then hB hb
    replace hS := Below.then hS hb
    replace hxo := hxo.below hb
    replace hR := hR.below pg_len hb
    replace hz := stab_blk _ _ _ _ hz hb
    have hM := MemO.of (by rw [hxg]; exact hok1) hxo hm ⟨hR, fun z hz => by rw [List.mem_singleton.1 hz]; exact own_at hxo⟩
    clear hb hm hR
    generalize w4.alloc (.cells #[.slice (some ⟨gG, 0, none⟩) 1 1, .bool false, .int .i64 0, .int .i64 0, .int .i64 0, .int .i64 0] 48) = w5 at *
    generalize w4.heap.size = bm at *
    (try simp only [Act.put, sA, sB, sC])
    refine wpAnyH_take (i := 9) (v := ?_) (by simp only [gA, gB, gC]; rfl) (by kernel_rfl) (by kernel_rfl) (by kernel_rfl) (by exact fun _ _ _ h => h) (Or.inl ⟨by rfl, ?_⟩) (by assumption) ?_; rotate_left; (focus (intro w hSw; (try dsimp only at hSw); go_simp; try with_reducible rfl)); (try simp only [Act.put, sA, sB, sC])
    refine wpAnyH_ready (rs := [10]) (by kernel_rfl) (by simp) ?_
    refine AllReadyH.cons (by simp only [gA, gB, gC]; rfl) (fun K hK => ?_) AllReadyH.nil
    go_simp
    go_at_call 11
    refine (cstepV { newC with a := a } hCok nilS hM (SV.nil _) (okC { newC with a := a, off := NN }) (by rw [show [x].map (·.g) = [oneG [⟨16, 0, NN⟩] []] by simp [hxg]]; exact hst)).mono ?_
    rintro e w6 hP
    obtain ⟨vA, rfl, hoA, hb⟩ := hP.okE
    have hvA := SV.own hoA
    replace hB := Below.then hB hb
    replace hS := Below.then hS hb
    replace hz := stab_blk _ _ _ _ hz hb
    clear hb hP hoA hM hxo
    refine hK.out _ _ (hS) ?_
    clear hHeld hK
    intro hHeld
    (try simp only [Act.put, sA, sB, sC])
    refine wpAnyH_take (i := 11) (v := ?_) (by simp only [gA, gB, gC]; rfl) (by kernel_rfl) (by kernel_rfl) (by kernel_rfl) (by exact fun _ _ _ h => h) (Or.inl ⟨by rfl, ?_⟩) (by assumption) ?_; rotate_left; (focus (intro w hSw; (try dsimp only at hSw); go_simp; try with_reducible rfl)); (try simp only [Act.put, sA, sB, sC])
    refine wpAnyH_take (i := 12) (v := ?_) (by simp only [gA, gB, gC]; rfl) (by kernel_rfl) (by kernel_rfl) (by kernel_rfl) (by exact fun _ _ _ h => h) (Or.inl ⟨by rfl, ?_⟩) (by assumption) ?_; rotate_left; (focus (intro w hSw; (try dsimp only at hSw); go_simp; try with_reducible rfl)); (try simp only [Act.put, sA, sB, sC])
    refine wpAnyH_take (i := 13) (v := ?_) (by simp only [gA, gB, gC]; rfl) (by kernel_rfl) (by kernel_rfl) (by kernel_rfl) (by exact fun _ _ _ h => h) (Or.inl ⟨by rfl, ?_⟩) (by assumption) ?_; rotate_left; (focus (intro w hSw; (try dsimp only at hSw); go_simp; try with_reducible rfl)); (try simp only [Act.put, sA, sB, sC])
    refine wpAnyH_take (i := 14) (v := ?_) (by simp only [gA, gB, gC]; rfl) (by kernel_rfl) (by kernel_rfl) (by kernel_rfl) (by exact fun _ _ _ h => h) (Or.inl ⟨by rfl, ?_⟩) (by assumption) ?_; rotate_left; (focus (intro w hSw; (try dsimp only at hSw); go_simp; try with_reducible rfl)); (try simp only [Act.put, sA, sB, sC])
    refine wpAnyH_take (i := 15) (v := ?_) (by simp only [gA, gB, gC]; rfl) (by kernel_rfl) (by kernel_rfl) (by kernel_rfl) (by exact fun _ _ _ h => h) (Or.inl ⟨by rfl, ?_⟩) (by assumption) ?_; rotate_left; (focus (intro w hSw; (try dsimp only at hSw); go_simp; try with_reducible rfl)); (try simp only [Act.put, sA, sB, sC])
    refine wpAnyH_ready (rs := [17]) (by kernel_rfl) (by simp) ?_
    refine AllReadyH.cons (by simp only [gA, gB, gC]; rfl) (fun K hK => ?_) AllReadyH.nil
    obtain ⟨W7, hW7, hth7, hs7, hk7⟩ := put_st (show StAt gz zeroC nilS w6 from ⟨rfl, hz⟩) (d := { newC with a := a, off := NN }) rfl vA
    have hB7 := hk7 _ _ hgz hB
    have hS7 := hk7 _ _ hgS hS
    have hone7 := st_one { newC with a := a, off := NN } vA hvA.one
    have hsz7 : (Try.prog.info? 29).map (·.size) = some (stCs { newC with a := a, off := NN } vA).length := by rw [st_len (show ({ newC with a := a, off := NN }).ps.length = 4 from rfl)]; exact hszS
    refine step_store_rowC rfl _ _ rfl gz rfl (stCs { newC with a := a, off := NN } vA) rfl hth7 hsz7 hone7 hW7 ?_
    (try simp only [Act.put, sA, sB, sC])
    refine hK.out _ _ (hS7) ?_
    clear hHeld hK
    intro hHeld
    (try simp only [Act.put, sA, sB, sC])
    refine wpAnyH_take (i := 18) (v := ?_) (by simp only [gA, gB, gC]; rfl) (by kernel_rfl) (by kernel_rfl) (by kernel_rfl) (by exact fun _ _ _ h => h) (Or.inl ⟨by rfl, ?_⟩) (by assumption) ?_; rotate_left; (focus (intro w hSw; (try dsimp only at hSw); go_simp; try with_reducible rfl)); (try simp only [Act.put, sA, sB, sC])
    refine wpAnyH_take (i := 19) (v := ?_) (by simp only [gA, gB, gC]; rfl) (by kernel_rfl) (by kernel_rfl) (by kernel_rfl) (by exact fun _ _ _ h => h) (Or.inl ⟨by rfl, ?_⟩) (by assumption) ?_; rotate_left; (focus (intro w hSw; (try dsimp only at hSw); go_simp; try with_reducible rfl)); (try simp only [Act.put, sA, sB, sC])
    refine wpAnyH_take (i := 20) (v := ?_) (by simp only [gA, gB, gC]; rfl) (by kernel_rfl) (by kernel_rfl) (by kernel_rfl) (by exact fun _ _ _ h => h) (Or.inl ⟨by rfl, ?_⟩) (by assumption) ?_; rotate_left; (focus (intro w hSw; (try dsimp only at hSw); go_simp; try with_reducible rfl)); (try simp only [Act.put, sA, sB, sC])
    refine wpAnyH_done (by kernel_rfl) ?_ _
    have z1 := hs7.off
    have z2 := hs7.ring
    have z3 := hs7.a
    clear hs7 hW7 hth7 hk7 hone7 hsz7 hz hS7 hS hB
    go_wp2_with fail
    go_ret
    exact ⟨rfl, hB7⟩
  refine AllReadyH.cons (by simp only [gA, gB, gC]; rfl) (fun K hK => ?_) AllReadyH.nil
  have hb := alloc_below w0 (.cells zS 29)
  have hz : BlkL w0.heap.size (stCs zeroC nilS) (w0.alloc (.cells zS 29)) := blkl_alloc w0 (stCs zeroC nilS).toArray 29
  have hgz := hB.size
  have hSz := hS.size
  refine step_allocC (z := zS) rfl rfl (fun _ => rfl) ?_
  (try simp only [Act.put, sA, sB, sC])
  refine hK.out _ _ (Below.then hS hb) ?_
  clear hHeld hK
  intro hHeld
  replace hB := Below.then hB hb
  replace hS := Below.then hS hb
  clear hb
  have hgS : Z.heap.size ≤ w0.heap.size := hSz
  generalize w0.alloc (.cells zS 29) = w1 at *
  generalize w0.heap.size = gz at *
  (try simp only [Act.put, sA, sB, sC])
  refine wpAnyH_ready (rs := [4]) (by kernel_rfl) (by simp) ?_
  refine AllReadyH.cons (by simp only [gA, gB, gC]; rfl) (fun K hK => ?_) AllReadyH.nil
  have hb := alloc_below w1 (.cells (ins3 ⟨16, 0, NN⟩).toArray 42)
  have hI := row_list (f := ins3) (sz := 3) (fun _ => rfl) w1 [⟨16, 0, NN⟩] (ins3 ⟨16, 0, NN⟩).toArray (by simp) 42
  refine step_build1 in_okC (by decide) rfl _ rfl (ins3 ⟨16, 0, NN⟩) rfl rfl ?_
  (try simp only [Act.put, sA, sB, sC])
  refine hK.out _ _ (Below.then hS hb) ?_
  clear hHeld hK
  intro hHeld
  replace hB := Below.then hB hb
  replace hS := Below.then hS hb
  replace hz := stab_blk _ _ _ _ hz hb
  clear hb
  generalize w1.alloc (.cells (ins3 ⟨16, 0, NN⟩).toArray 42) = w2 at *
  generalize w1.heap.size = gI at *
  (try simp only [Act.put, sA, sB, sC])
  refine wpAnyH_ready (rs := [5]) (by kernel_rfl) (by simp) ?_
  refine AllReadyH.cons (by simp only [gA, gB, gC]; rfl) (fun K hK => ?_) AllReadyH.nil
  go_simp
  go_at_call 12
  refine (cone_any [⟨16, 0, NN⟩] [] (some ⟨gI, 0, none⟩) none 1 0 (by show 1 ≤ 100; decide) (by show 0 ≤ 100; decide) (fun _ => rfl) w2 hI (fun j y h => by simp at h)).mono ?_
  rintro e w3 ⟨x, hxg, rfl, hxo, hb⟩
  replace hB := Below.then hB hb
  replace hS := Below.then hS hb
  replace hz := stab_blk _ _ _ _ hz hb
  clear hb hI
  refine hK.out _ _ (hS) ?_
  clear hHeld hK
  intro hHeld
  (try simp only [Act.put, sA, sB, sC])
  refine wpAnyH_ready (rs := [6]) (by kernel_rfl) (by simp) ?_
  refine AllReadyH.cons (by simp only [gA, gB, gC]; rfl) (fun K hK => ?_) AllReadyH.nil
  have hb := alloc_below w3 (.cells x.cs.toArray 39)
  have hR := row_list pg_len w3 [x] x.cs.toArray (by simp) 39
  refine step_build1 pg_okC (by decide) rfl _ rfl x.cs rfl rfl ?_
  (try simp only [Act.put, sA, sB, sC])
  refine hK.out _ _ (Below.then hS hb) ?_
  clear hHeld hK
  intro hHeld
  replace hB := Below.then hB hb
  replace hS := Below.then hS hb
  replace hxo := hxo.below hb
  replace hz := stab_blk _ _ _ _ hz hb
  clear hb
  generalize w3.alloc (.cells x.cs.toArray 39) = w4 at *
  generalize w3.heap.size = gG at *
  (try simp only [Act.put, sA, sB, sC])
  refine wpAnyH_take (i := 7) (v := ?_) (by simp only [gA, gB, gC]; rfl) (by kernel_rfl) (by kernel_rfl) (by kernel_rfl) (by exact fun _ _ _ h => h) (Or.inl ⟨by rfl, ?_⟩) (by assumption) ?_; rotate_left; (focus (intro w hSw; (try dsimp only at hSw); go_simp; try with_reducible rfl)); (try simp only [Act.put, sA, sB, sC])
  refine wpAnyH_ready (rs := [8]) (by kernel_rfl) (by simp) ?_
  refine AllReadyH.cons (by simp only [gA, gB, gC]; rfl) (fun K hK => ?_) AllReadyH.nil
  go_simp
  have hb : Below w4.heap.size w4 (w4.alloc (.cells #[.slice (some ⟨gG, 0, none⟩) 1 1, .bool false, .int .i64 0, .int .i64 0, .int .i64 0, .int .i64 0] 48)) := alloc_below w4 _
  have hm : BlkL w4.heap.size (memCs (.slice (some ⟨gG, 0, none⟩) 1 1) false 0 0 0 0) (w4.alloc (.cells #[.slice (some ⟨gG, 0, none⟩) 1 1, .bool false, .int .i64 0, .int .i64 0, .int .i64 0, .int .i64 0] 48)) := blkl_alloc w4 #[.slice (some ⟨gG, 0, none⟩) 1 1, .bool false, .int .i64 0, .int .i64 0, .int .i64 0, .int .i64 0] 48
  refine hK.out _ _ (Below.then hS hb) ?_
  clear hHeld hK
  intro hHeld
  replace hB := Below.then hB hb
  replace hS := Below.then hS hb
  replace hxo := hxo.below hb
  replace hR := hR.below pg_len hb
  replace hz := stab_blk _ _ _ _ hz hb
  have hM := MemO.of (by rw [hxg]; exact hok1) hxo hm ⟨hR, fun z hz => by rw [List.mem_singleton.1 hz]; exact own_at hxo⟩
  clear hb hm hR
  generalize w4.alloc (.cells #[.slice (some ⟨gG, 0, none⟩) 1 1, .bool false, .int .i64 0, .int .i64 0, .int .i64 0, .int .i64 0] 48) = w5 at *
  generalize w4.heap.size = bm at *
  (try simp only [Act.put, sA, sB, sC])
  refine wpAnyH_take (i := 9) (v := ?_) (by simp only [gA, gB, gC]; rfl) (by kernel_rfl) (by kernel_rfl) (by kernel_rfl) (by exact fun _ _ _ h => h) (Or.inl ⟨by rfl, ?_⟩) (by assumption) ?_; rotate_left; (focus (intro w hSw; (try dsimp only at hSw); go_simp; try with_reducible rfl)); (try simp only [Act.put, sA, sB, sC])
  refine wpAnyH_ready (rs := [10]) (by kernel_rfl) (by simp) ?_
  refine AllReadyH.cons (by simp only [gA, gB, gC]; rfl) (fun K hK => ?_) AllReadyH.nil
  go_simp
  go_at_call 11
  refine (cstepV { newC with a := a } hCok nilS hM (SV.nil _) (okC { newC with a := a, off := NN }) (by rw [show [x].map (·.g) = [oneG [⟨16, 0, NN⟩] []] by simp [hxg]]; exact hst)).mono ?_
  rintro e w6 hP
  obtain ⟨vA, rfl, hoA, hb⟩ := hP.okE
  have hvA := SV.own hoA
  replace hB := Below.then hB hb
  replace hS := Below.then hS hb
  replace hz := stab_blk _ _ _ _ hz hb
  clear hb hP hoA hM hxo
  refine hK.out _ _ (hS) ?_
  clear hHeld hK
  intro hHeld
  (try simp only [Act.put, sA, sB, sC])
  refine wpAnyH_take (i := 11) (v := ?_) (by simp only [gA, gB, gC]; rfl) (by kernel_rfl) (by kernel_rfl) (by kernel_rfl) (by exact fun _ _ _ h => h) (Or.inl ⟨by rfl, ?_⟩) (by assumption) ?_; rotate_left; (focus (intro w hSw; (try dsimp only at hSw); go_simp; try with_reducible rfl)); (try simp only [Act.put, sA, sB, sC])
  refine wpAnyH_take (i := 12) (v := ?_) (by simp only [gA, gB, gC]; rfl) (by kernel_rfl) (by kernel_rfl) (by kernel_rfl) (by exact fun _ _ _ h => h) (Or.inl ⟨by rfl, ?_⟩) (by assumption) ?_; rotate_left; (focus (intro w hSw; (try dsimp only at hSw); go_simp; try with_reducible rfl)); (try simp only [Act.put, sA, sB, sC])
  refine wpAnyH_take (i := 13) (v := ?_) (by simp only [gA, gB, gC]; rfl) (by kernel_rfl) (by kernel_rfl) (by kernel_rfl) (by exact fun _ _ _ h => h) (Or.inl ⟨by rfl, ?_⟩) (by assumption) ?_; rotate_left; (focus (intro w hSw; (try dsimp only at hSw); go_simp; try with_reducible rfl)); (try simp only [Act.put, sA, sB, sC])
  refine wpAnyH_take (i := 14) (v := ?_) (by simp only [gA, gB, gC]; rfl) (by kernel_rfl) (by kernel_rfl) (by kernel_rfl) (by exact fun _ _ _ h => h) (Or.inl ⟨by rfl, ?_⟩) (by assumption) ?_; rotate_left; (focus (intro w hSw; (try dsimp only at hSw); go_simp; try with_reducible rfl)); (try simp only [Act.put, sA, sB, sC])
  refine wpAnyH_take (i := 15) (v := ?_) (by simp only [gA, gB, gC]; rfl) (by kernel_rfl) (by kernel_rfl) (by kernel_rfl) (by exact fun _ _ _ h => h) (Or.inl ⟨by rfl, ?_⟩) (by assumption) ?_; rotate_left; (focus (intro w hSw; (try dsimp only at hSw); go_simp; try with_reducible rfl)); (try simp only [Act.put, sA, sB, sC])
  refine wpAnyH_ready (rs := [17]) (by kernel_rfl) (by simp) ?_
  refine AllReadyH.cons (by simp only [gA, gB, gC]; rfl) (fun K hK => ?_) AllReadyH.nil
  obtain ⟨W7, hW7, hth7, hs7, hk7⟩ := put_st (show StAt gz zeroC nilS w6 from ⟨rfl, hz⟩) (d := { newC with a := a, off := NN }) rfl vA
  have hB7 := hk7 _ _ hgz hB
  have hS7 := hk7 _ _ hgS hS
  have hone7 := st_one { newC with a := a, off := NN } vA hvA.one
  have hsz7 : (Try.prog.info? 29).map (·.size) = some (stCs { newC with a := a, off := NN } vA).length := by rw [st_len (show ({ newC with a := a, off := NN }).ps.length = 4 from rfl)]; exact hszS
  refine step_store_rowC rfl _ _ rfl gz rfl (stCs { newC with a := a, off := NN } vA) rfl hth7 hsz7 hone7 hW7 ?_
  (try simp only [Act.put, sA, sB, sC])
  refine hK.out _ _ (hS7) ?_
  clear hHeld hK
  intro hHeld
  (try simp only [Act.put, sA, sB, sC])
  refine wpAnyH_take (i := 18) (v := ?_) (by simp only [gA, gB, gC]; rfl) (by kernel_rfl) (by kernel_rfl) (by kernel_rfl) (by exact fun _ _ _ h => h) (Or.inl ⟨by rfl, ?_⟩) (by assumption) ?_; rotate_left; (focus (intro w hSw; (try dsimp only at hSw); go_simp; try with_reducible rfl)); (try simp only [Act.put, sA, sB, sC])
  refine wpAnyH_take (i := 19) (v := ?_) (by simp only [gA, gB, gC]; rfl) (by kernel_rfl) (by kernel_rfl) (by kernel_rfl) (by exact fun _ _ _ h => h) (Or.inl ⟨by rfl, ?_⟩) (by assumption) ?_; rotate_left; (focus (intro w hSw; (try dsimp only at hSw); go_simp; try with_reducible rfl)); (try simp only [Act.put, sA, sB, sC])
  refine wpAnyH_take (i := 20) (v := ?_) (by simp only [gA, gB, gC]; rfl) (by kernel_rfl) (by kernel_rfl) (by kernel_rfl) (by exact fun _ _ _ h => h) (Or.inl ⟨by rfl, ?_⟩) (by assumption) ?_; rotate_left; (focus (intro w hSw; (try dsimp only at hSw); go_simp; try with_reducible rfl)); (try simp only [Act.put, sA, sB, sC])
  refine wpAnyH_done (by kernel_rfl) ?_ _
  have z1 := hs7.off
  have z2 := hs7.ring
  have z3 := hs7.a
  clear hs7 hW7 hth7 hk7 hone7 hsz7 hz hS7 hS hB
  go_wp2_with fail
  go_ret
  exact ⟨rfl, hB7⟩
set_option maxRecDepth 8000 in
set_option maxHeartbeats 8000000 in
theorem cpuJumpsE (a op n NN : Int) (hk : op % 3 = 2) (hN : n % 1048576 - 524288 = NN) (hz : ¬ a < 0) (ha : fit64 a) (w : World) :
    Calls Try.prog 3 #[.int .i64 a, .int .i64 op, .int .i64 n] w fun e w' => e = .returned (.bool true) ∧ Below w.heap.size w w' := by
  have hundS := Try.underlying29
  have hszS : (Try.prog.info? 29).map (·.size) = some 18 := by kernel_rfl
  have hszC : (Try.prog.info? 29).map (·.size) = some (stCs { newC with a := a } nilS).length := hszS
  have hmi : ∀ (v : Value) (w : World), (Instr.makeInterface 34 v).run Try.prog w = .ok (.iface 34 v) w := fun _ _ => rfl
  have kw := fun W : World => w16_any op 3 (by decide) (by decide) W
  simp only [hk] at kw
  have kn := fun W : World => w16_any n 1048576 (by decide) (by decide) W
  have hn0 := Int.emod_nonneg n (by decide : (1048576 : Int) ≠ 0)
  have hn1 := Int.emod_lt_of_pos n (by decide : (0 : Int) < 1048576)
  have hst0 := jmp_step a 16 NN (by decide) (by decide) (by omega) (by omega)
  have hst : stepC { newC with a := a } [oneG [⟨16, 0, NN⟩] []] = okC { newC with a := a, off := 1 } := by
    rw [hst0]
    exact congrArg okC (if_neg (by show ¬ ((16 : Int) = 14 ∨ (16 : Int) = 15 ∧ a = 0 ∨ (16 : Int) = 16 ∧ a < 0); omega))
  have hwr : IntKind.i64.wrap (n % 1048576 - 524288) = NN := by rw [IntKind.wrap_i64]; omega
  have hok1 : (oneG [⟨16, 0, NN⟩] []).Ok := one_ok (fun z hz => by simp at hz) (by show 1 + 0 ≤ 1000; decide)
  have hCok : Cp.Ok { newC with a := a } := ⟨rfl, newC_ok.pp, newC_ok.ring, ha, newC_ok.st, newC_ok.sr⟩
  generalize n % 1048576 = nm at *
  have q1 : decide (a < 0) = false := by simpa using hz
  replace hN : Aside (nm - 524288 = NN) := hN
  clear hk hst0 hn0 hn1 hz
  go_enter Try.func3, Try.ntmps3
  go_wp2_with fail
  refine (ck_any w).mono ?_
  rintro e W1 ⟨rfl, hB1⟩
  go_wp2_with fail
  refine (kw W1).mono ?_
  rintro e W2 ⟨rfl, hw2⟩
  rw [hw2]
  go_wp2_with fail
  refine (kn W1).mono ?_
  rintro e W3 ⟨rfl, hw3⟩
  rw [hw3]
  clear kw kn hw2 hw3 W2 W3
  go_wp2_with fail
  refine (cnew_any W1).mono ?_
  rintro e W6 ⟨rfl, hb6⟩
  obtain ⟨W7, hW7, hth7, hs7, hb7⟩ := new_stC W6 newC rfl nilS
  have hB6 := Below.then hB1 hb6
  have y3 := hs7.a
  have yf := (hs7.blk.1 3 _ rfl).2
  have hs0 : StAt W6.heap.size { newC with a := a } nilS (W7.setCell ⟨W6.heap.size, 3, none⟩ (.int .i64 a)) := by
    have h1 := hs7.blk.1.set 3 (.int .i64 a) (by show 3 < 18; decide)
    exact ⟨rfl, h1, h1.lt rfl⟩
  have hB0 := (Below.then hB6 hb7).setCell (p := ⟨W6.heap.size, 3, none⟩) hB6.size (.int .i64 a)
  have hone7 : ∀ u ∈ stCs newC nilS, u.oneCell' = true := st_one _ _ rfl
  have hsz7 : (Try.prog.info? 29).map (·.size) = some (stCs newC nilS).length := by kernel_rfl
  obtain ⟨Y, hY⟩ : ∃ Y, stCs newC nilS = Y := ⟨_, rfl⟩
  rw [hY] at hW7 hth7 hone7 hsz7
  have hYv : Aside (.agg (stCs newC nilS).toArray = Value.agg Y.toArray) := by rw [hY]; exact rfl
  clear hY hb6 hb7 hs7 hB6
  go_upto_region 6 with (first | (refine wpList_store_row rfl _ _ rfl W6.heap.size rfl Y hYv.out hth7 hsz7 hone7 hW7 ?_) | fail)
  clear hW7 hth7 hone7 hsz7 hYv y3 yf
  generalize W7.setCell ⟨W6.heap.size, 3, none⟩ (.int .i64 a) = Z at *
  generalize W6.heap.size = bs at *
  have hS := (Below.refl Z.heap.size Z).drew
  have hB := Below.then hB0 hS
  clear hB0
  refine wp_region_held_drew (S := (fun W => Below Z.heap.size Z W)) (by kernel_rfl) (by exact hS) ?_
  intro hHeld
  generalize Z.drew = w0 at *
  refine wpAnyH_take (i := 0) (v := _) (by simp only [gA, gB, gC]; rfl) (by kernel_rfl) (by kernel_rfl) (by kernel_rfl) (by exact fun _ _ _ h => h) (yields_row (by rfl) _ rfl bs rfl (stCs { newC with a := a } nilS) (fun _ q => (hs0.keep q).blk.range) hundS rfl hszC) (by assumption) ?_; (try simp only [Act.put, sA, sB, sC])
  refine wpAnyH_take (i := 1) (v := ?_) (by simp only [gA, gB, gC]; rfl) (by kernel_rfl) (by kernel_rfl) (by kernel_rfl) (by exact fun _ _ _ h => h) (Or.inl ⟨by rfl, ?_⟩) (by assumption) ?_; rotate_left; (focus (intro w hSw; (try dsimp only at hSw); go_simp; try with_reducible rfl)); (try simp only [Act.put, sA, sB, sC])
  refine wpAnyH_take (i := 2) (v := ?_) (by simp only [gA, gB, gC]; rfl) (by kernel_rfl) (by kernel_rfl) (by kernel_rfl) (by exact fun _ _ _ h => h) (Or.inl ⟨by rfl, ?_⟩) (by assumption) ?_; rotate_left; (focus (intro w hSw; (try dsimp only at hSw); go_simp; try with_reducible rfl)); (try simp only [Act.put, sA, sB, sC])
  refine wpAnyH_take (i := 3) (v := ?_) (by simp only [gA, gB, gC]; rfl) (by kernel_rfl) (by kernel_rfl) (by kernel_rfl) (by exact fun _ _ _ h => h) (Or.inl ⟨by rfl, ?_⟩) (by assumption) ?_; rotate_left; (focus (intro w hSw; (try dsimp only at hSw); go_simp; try with_reducible rfl)); (try simp only [Act.put, sA, sB, sC])
  refine wpAnyH_ready (rs := [4, 16]) (by kernel_rfl) (by simp) ?_
  refine AllReadyH.cons (by simp only [gA, gB, gC]; rfl) (fun K hK => ?_) ?_
  · skip
    have hb := alloc_below w0 (.cells (ins3 ⟨16, 0, NN⟩).toArray 42)
    have hI := row_list (f := ins3) (sz := 3) (fun _ => rfl) w0 [⟨16, 0, NN⟩] (ins3 ⟨16, 0, NN⟩).toArray (by simp) 42
    refine step_build1 in_okC (by decide) rfl _ rfl (ins3 ⟨16, 0, NN⟩) rfl rfl ?_
    (try simp only [Act.put, sA, sB, sC])
    refine hK.out _ _ (Below.then hS hb) ?_
    clear hHeld hK
    intro hHeld
    replace hB := Below.then hB hb
    replace hS := Below.then hS hb
    clear hb
    generalize w0.alloc (.cells (ins3 ⟨16, 0, NN⟩).toArray 42) = w1 at *
    generalize w0.heap.size = gI at *
    (try simp only [Act.put, sA, sB, sC])
    refine wpAnyH_ready (rs := [5, 16]) (by kernel_rfl) (by simp) ?_
    refine AllReadyH.cons (by simp only [gA, gB, gC]; rfl) (fun K hK => ?_) ?_
    · go_simp
      go_at_call 12
      refine (cone_any [⟨16, 0, NN⟩] [] (some ⟨gI, 0, none⟩) none 1 0 (by show 1 ≤ 100; decide) (by show 0 ≤ 100; decide) (fun _ => rfl) w1 hI (fun j y h => by simp at h)).mono ?_
      rintro e w2 ⟨x, hxg, rfl, hxo, hb⟩
      replace hB := Below.then hB hb
      replace hS := Below.then hS hb
      clear hb hI
      refine hK.out _ _ (hS) ?_
      clear hHeld hK
      intro hHeld
      (try simp only [Act.put, sA, sB, sC])
      refine wpAnyH_ready (rs := [6, 16]) (by kernel_rfl) (by simp) ?_
      refine AllReadyH.cons (by simp only [gA, gB, gC]; rfl) (fun K hK => ?_) ?_
      · skip
        have hb := alloc_below w2 (.cells x.cs.toArray 39)
        have hR := row_list pg_len w2 [x] x.cs.toArray (by simp) 39
        refine step_build1 pg_okC (by decide) rfl _ rfl x.cs rfl rfl ?_
        (try simp only [Act.put, sA, sB, sC])
        refine hK.out _ _ (Below.then hS hb) ?_
        clear hHeld hK
        intro hHeld
        replace hB := Below.then hB hb
        replace hS := Below.then hS hb
        replace hxo := hxo.below hb
        clear hb
        generalize w2.alloc (.cells x.cs.toArray 39) = w3 at *
        generalize w2.heap.size = gG at *
        (try simp only [Act.put, sA, sB, sC])
        refine wpAnyH_take (i := 7) (v := ?_) (by simp only [gA, gB, gC]; rfl) (by kernel_rfl) (by kernel_rfl) (by kernel_rfl) (by exact fun _ _ _ h => h) (Or.inl ⟨by rfl, ?_⟩) (by assumption) ?_; rotate_left; (focus (intro w hSw; (try dsimp only at hSw); go_simp; try with_reducible rfl)); (try simp only [Act.put, sA, sB, sC])
        refine wpAnyH_ready (rs := [8, 16]) (by kernel_rfl) (by simp) ?_
        refine AllReadyH.cons (by simp only [gA, gB, gC]; rfl) (fun K hK => ?_) ?_
        · go_simp
          have hb : Below w3.heap.size w3 (w3.alloc (.cells #[.slice (some ⟨gG, 0, none⟩) 1 1, .bool false, .int .i64 0, .int .i64 0, .int .i64 0, .int .i64 0] 48)) := alloc_below w3 _
          have hm : BlkL w3.heap.size (memCs (.slice (some ⟨gG, 0, none⟩) 1 1) false 0 0 0 0) (w3.alloc (.cells #[.slice (some ⟨gG, 0, none⟩) 1 1, .bool false, .int .i64 0, .int .i64 0, .int .i64 0, .int .i64 0] 48)) := blkl_alloc w3 #[.slice (some ⟨gG, 0, none⟩) 1 1, .bool false, .int .i64 0, .int .i64 0, .int .i64 0, .int .i64 0] 48
          refine hK.out _ _ (Below.then hS hb) ?_
          clear hHeld hK
          intro hHeld
          replace hB := Below.then hB hb
          replace hS := Below.then hS hb
          replace hxo := hxo.below hb
          replace hR := hR.below pg_len hb
          have hM := MemO.of (by rw [hxg]; exact hok1) hxo hm ⟨hR, fun z hz => by rw [List.mem_singleton.1 hz]; exact own_at hxo⟩
          clear hb hm hR
          generalize w3.alloc (.cells #[.slice (some ⟨gG, 0, none⟩) 1 1, .bool false, .int .i64 0, .int .i64 0, .int .i64 0, .int .i64 0] 48) = w4 at *
          generalize w3.heap.size = bm at *
          (try simp only [Act.put, sA, sB, sC])
          refine wpAnyH_take (i := 9) (v := ?_) (by simp only [gA, gB, gC]; rfl) (by kernel_rfl) (by kernel_rfl) (by kernel_rfl) (by exact fun _ _ _ h => h) (Or.inl ⟨by rfl, ?_⟩) (by assumption) ?_; rotate_left; (focus (intro w hSw; (try dsimp only at hSw); go_simp; try with_reducible rfl)); (try simp only [Act.put, sA, sB, sC])
          refine wpAnyH_ready (rs := [10, 16]) (by kernel_rfl) (by simp) ?_
          refine AllReadyH.cons (by simp only [gA, gB, gC]; rfl) (fun K hK => ?_) ?_
          · go_simp
            go_at_call 11
            refine (cstepV { newC with a := a } hCok nilS hM (SV.nil _) (okC { newC with a := a, off := 1 }) (by rw [show [x].map (·.g) = [oneG [⟨16, 0, NN⟩] []] by simp [hxg]]; exact hst)).mono ?_
            rintro e w5 hP
            obtain ⟨vA, rfl, hoA, hb⟩ := hP.okE
            have hvA := SV.own hoA
            replace hB := Below.then hB hb
            replace hS := Below.then hS hb
            clear hb hP hoA hM hxo
            refine hK.out _ _ (hS) ?_
            clear hHeld hK
            intro hHeld
            (try simp only [Act.put, sA, sB, sC])
            refine wpAnyH_take (i := 11) (v := ?_) (by simp only [gA, gB, gC]; rfl) (by kernel_rfl) (by kernel_rfl) (by kernel_rfl) (by exact fun _ _ _ h => h) (Or.inl ⟨by rfl, ?_⟩) (by assumption) ?_; rotate_left; (focus (intro w hSw; (try dsimp only at hSw); go_simp; try with_reducible rfl)); (try simp only [Act.put, sA, sB, sC])
            refine wpAnyH_take (i := 12) (v := ?_) (by simp only [gA, gB, gC]; rfl) (by kernel_rfl) (by kernel_rfl) (by kernel_rfl) (by exact fun _ _ _ h => h) (Or.inl ⟨by rfl, ?_⟩) (by assumption) ?_; rotate_left; (focus (intro w hSw; (try dsimp only at hSw); go_simp; try with_reducible rfl)); (try simp only [Act.put, sA, sB, sC])
            refine wpAnyH_take (i := 13) (v := ?_) (by simp only [gA, gB, gC]; rfl) (by kernel_rfl) (by kernel_rfl) (by kernel_rfl) (by exact fun _ _ _ h => h) (Or.inl ⟨by rfl, ?_⟩) (by assumption) ?_; rotate_left; (focus (intro w hSw; (try dsimp only at hSw); go_simp; try with_reducible rfl)); (try simp only [Act.put, sA, sB, sC])
            refine wpAnyH_take (i := 14) (v := ?_) (by simp only [gA, gB, gC]; rfl) (by kernel_rfl) (by kernel_rfl) (by kernel_rfl) (by exact fun _ _ _ h => h) (Or.inl ⟨by rfl, ?_⟩) (by assumption) ?_; rotate_left; (focus (intro w hSw; (try dsimp only at hSw); go_simp; try with_reducible rfl)); (try simp only [Act.put, sA, sB, sC])
            refine wpAnyH_take (i := 15) (v := ?_) (by simp only [gA, gB, gC]; rfl) (by kernel_rfl) (by kernel_rfl) (by kernel_rfl) (by exact fun _ _ _ h => h) (Or.inl ⟨by rfl, ?_⟩) (by assumption) ?_; rotate_left; (focus (intro w hSw; (try dsimp only at hSw); go_simp; try with_reducible rfl)); (try simp only [Act.put, sA, sB, sC])
            refine wpAnyH_ready (rs := [16]) (by kernel_rfl) (by simp) ?_
            refine AllReadyH.cons (by simp only [gA, gB, gC]; rfl) (fun K hK => ?_) AllReadyH.nil
            have hb := alloc_below w5 (.cells zS 29)
            have hz : BlkL w5.heap.size (stCs zeroC nilS) (w5.alloc (.cells zS 29)) := blkl_alloc w5 (stCs zeroC nilS).toArray 29
            have hgz := hB.size
            have hSz := hS.size
            refine step_allocC (z := zS) rfl rfl (fun _ => rfl) ?_
            (try simp only [Act.put, sA, sB, sC])
            refine hK.out _ _ (Below.then hS hb) ?_
            clear hHeld hK
            intro hHeld
            replace hB := Below.then hB hb
            replace hS := Below.then hS hb
            replace hvA := hvA.below hb
            clear hb
            have hgS : Z.heap.size ≤ w5.heap.size := hSz
            generalize w5.alloc (.cells zS 29) = w6 at *
            generalize w5.heap.size = gz at *
            (try simp only [Act.put, sA, sB, sC])
            refine wpAnyH_ready (rs := [17]) (by kernel_rfl) (by simp) ?_
            refine AllReadyH.cons (by simp only [gA, gB, gC]; rfl) (fun K hK => ?_) AllReadyH.nil
            obtain ⟨W7, hW7, hth7, hs7, hk7⟩ := put_st (show StAt gz zeroC nilS w6 from ⟨rfl, hz⟩) (d := { newC with a := a, off := 1 }) rfl vA
            have hB7 := hk7 _ _ hgz hB
            have hS7 := hk7 _ _ hgS hS
            have hone7 := st_one { newC with a := a, off := 1 } vA hvA.one
            have hsz7 : (Try.prog.info? 29).map (·.size) = some (stCs { newC with a := a, off := 1 } vA).length := by rw [st_len (show ({ newC with a := a, off := 1 }).ps.length = 4 from rfl)]; exact hszS
            refine step_store_rowC rfl _ _ rfl gz rfl (stCs { newC with a := a, off := 1 } vA) rfl hth7 hsz7 hone7 hW7 ?_
            (try simp only [Act.put, sA, sB, sC])
            refine hK.out _ _ (hS7) ?_
            clear hHeld hK
            intro hHeld
            (try simp only [Act.put, sA, sB, sC])
            refine wpAnyH_take (i := 18) (v := ?_) (by simp only [gA, gB, gC]; rfl) (by kernel_rfl) (by kernel_rfl) (by kernel_rfl) (by exact fun _ _ _ h => h) (Or.inl ⟨by rfl, ?_⟩) (by assumption) ?_; rotate_left; (focus (intro w hSw; (try dsimp only at hSw); go_simp; try with_reducible rfl)); (try simp only [Act.put, sA, sB, sC])
            refine wpAnyH_take (i := 19) (v := ?_) (by simp only [gA, gB, gC]; rfl) (by kernel_rfl) (by kernel_rfl) (by kernel_rfl) (by exact fun _ _ _ h => h) (Or.inl ⟨by rfl, ?_⟩) (by assumption) ?_; rotate_left; (focus (intro w hSw; (try dsimp only at hSw); go_simp; try with_reducible rfl)); (try simp only [Act.put, sA, sB, sC])
            refine wpAnyH_take (i := 20) (v := ?_) (by simp only [gA, gB, gC]; rfl) (by kernel_rfl) (by kernel_rfl) (by kernel_rfl) (by exact fun _ _ _ h => h) (Or.inl ⟨by rfl, ?_⟩) (by assumption) ?_; rotate_left; (focus (intro w hSw; (try dsimp only at hSw); go_simp; try with_reducible rfl)); (try simp only [Act.put, sA, sB, sC])
            refine wpAnyH_done (by kernel_rfl) ?_ _
            have z1 := hs7.off
            have z2 := hs7.ring
            have z3 := hs7.a
            clear hs7 hW7 hth7 hk7 hone7 hsz7 hz hS7 hS hB
            go_wp2_with fail
            go_ret
            exact ⟨rfl, hB7⟩
          refine AllReadyH.cons (by simp only [gA, gB, gC]; rfl) (fun K hK => ?_) AllReadyH.nil
          have hb := alloc_below w4 (.cells zS 29)
          have hz : BlkL w4.heap.size (stCs zeroC nilS) (w4.alloc (.cells zS 29)) := blkl_alloc w4 (stCs zeroC nilS).toArray 29
          have hgz := hB.size
          have hSz := hS.size
          refine step_allocC (z := zS) rfl rfl (fun _ => rfl) ?_
          (try simp only [Act.put, sA, sB, sC])
          refine hK.out _ _ (Below.then hS hb) ?_
          clear hHeld hK
          intro hHeld
          replace hB := Below.then hB hb
          replace hS := Below.then hS hb
          replace hxo := hxo.below hb
          replace hM := hM.below hb
          clear hb
          have hgS : Z.heap.size ≤ w4.heap.size := hSz
          generalize w4.alloc (.cells zS 29) = w5 at *
          generalize w4.heap.size = gz at *
          (try simp only [Act.put, sA, sB, sC])
          refine wpAnyH_ready (rs := [10]) (by kernel_rfl) (by simp) ?_
          refine AllReadyH.cons (by simp only [gA, gB, gC]; rfl) (fun K hK => ?_) AllReadyH.nil
          go_simp
          go_at_call 11
          refine (cstepV { newC with a := a } hCok nilS hM (SV.nil _) (okC { newC with a := a, off := 1 }) (by rw [show [x].map (·.g) = [oneG [⟨16, 0, NN⟩] []] by simp [hxg]]; exact hst)).mono ?_
          rintro e w6 hP
          obtain ⟨vA, rfl, hoA, hb⟩ := hP.okE
          have hvA := SV.own hoA
          replace hB := Below.then hB hb
          replace hS := Below.then hS hb
          replace hz := stab_blk _ _ _ _ hz hb
          clear hb hP hoA hM hxo
          refine hK.out _ _ (hS) ?_
          clear hHeld hK
          intro hHeld
          (try simp only [Act.put, sA, sB, sC])
          refine wpAnyH_take (i := 11) (v := ?_) (by simp only [gA, gB, gC]; rfl) (by kernel_rfl) (by kernel_rfl) (by kernel_rfl) (by exact fun _ _ _ h => h) (Or.inl ⟨by rfl, ?_⟩) (by assumption) ?_; rotate_left; (focus (intro w hSw; (try dsimp only at hSw); go_simp; try with_reducible rfl)); (try simp only [Act.put, sA, sB, sC])
          refine wpAnyH_take (i := 12) (v := ?_) (by simp only [gA, gB, gC]; rfl) (by kernel_rfl) (by kernel_rfl) (by kernel_rfl) (by exact fun _ _ _ h => h) (Or.inl ⟨by rfl, ?_⟩) (by assumption) ?_; rotate_left; (focus (intro w hSw; (try dsimp only at hSw); go_simp; try with_reducible rfl)); (try simp only [Act.put, sA, sB, sC])
          refine wpAnyH_take (i := 13) (v := ?_) (by simp only [gA, gB, gC]; rfl) (by kernel_rfl) (by kernel_rfl) (by kernel_rfl) (by exact fun _ _ _ h => h) (Or.inl ⟨by rfl, ?_⟩) (by assumption) ?_; rotate_left; (focus (intro w hSw; (try dsimp only at hSw); go_simp; try with_reducible rfl)); (try simp only [Act.put, sA, sB, sC])
          refine wpAnyH_take (i := 14) (v := ?_) (by simp only [gA, gB, gC]; rfl) (by kernel_rfl) (by kernel_rfl) (by kernel_rfl) (by exact fun _ _ _ h => h) (Or.inl ⟨by rfl, ?_⟩) (by assumption) ?_; rotate_left; (focus (intro w hSw; (try dsimp only at hSw); go_simp; try with_reducible rfl)); (try simp only [Act.put, sA, sB, sC])
          refine wpAnyH_take (i := 15) (v := ?_) (by simp only [gA, gB, gC]; rfl) (by kernel_rfl) (by kernel_rfl) (by kernel_rfl) (by exact fun _ _ _ h => h) (Or.inl ⟨by rfl, ?_⟩) (by assumption) ?_; rotate_left; (focus (intro w hSw; (try dsimp only at hSw); go_simp; try with_reducible rfl)); (try simp only [Act.put, sA, sB, sC])
          refine wpAnyH_ready (rs := [17]) (by kernel_rfl) (by simp) ?_
          refine AllReadyH.cons (by simp only [gA, gB, gC]; rfl) (fun K hK => ?_) AllReadyH.nil
          obtain ⟨W7, hW7, hth7, hs7, hk7⟩ := put_st (show StAt gz zeroC nilS w6 from ⟨rfl, hz⟩) (d := { newC with a := a, off := 1 }) rfl vA
          have hB7 := hk7 _ _ hgz hB
          have hS7 := hk7 _ _ hgS hS
          have hone7 := st_one { newC with a := a, off := 1 } vA hvA.one
          have hsz7 : (Try.prog.info? 29).map (·.size) = some (stCs { newC with a := a, off := 1 } vA).length := by rw [st_len (show ({ newC with a := a, off := 1 }).ps.length = 4 from rfl)]; exact hszS
          refine step_store_rowC rfl _ _ rfl gz rfl (stCs { newC with a := a, off := 1 } vA) rfl hth7 hsz7 hone7 hW7 ?_
          (try simp only [Act.put, sA, sB, sC])
          refine hK.out _ _ (hS7) ?_
          clear hHeld hK
          intro hHeld
          (try simp only [Act.put, sA, sB, sC])
          refine wpAnyH_take (i := 18) (v := ?_) (by simp only [gA, gB, gC]; rfl) (by kernel_rfl) (by kernel_rfl) (by kernel_rfl) (by exact fun _ _ _ h => h) (Or.inl ⟨by rfl, ?_⟩) (by assumption) ?_; rotate_left; (focus (intro w hSw; (try dsimp only at hSw); go_simp; try with_reducible rfl)); (try simp only [Act.put, sA, sB, sC])
          refine wpAnyH_take (i := 19) (v := ?_) (by simp only [gA, gB, gC]; rfl) (by kernel_rfl) (by kernel_rfl) (by kernel_rfl) (by exact fun _ _ _ h => h) (Or.inl ⟨by rfl, ?_⟩) (by assumption) ?_; rotate_left; (focus (intro w hSw; (try dsimp only at hSw); go_simp; try with_reducible rfl)); (try simp only [Act.put, sA, sB, sC])
          refine wpAnyH_take (i := 20) (v := ?_) (by simp only [gA, gB, gC]; rfl) (by kernel_rfl) (by kernel_rfl) (by kernel_rfl) (by exact fun _ _ _ h => h) (Or.inl ⟨by rfl, ?_⟩) (by assumption) ?_; rotate_left; (focus (intro w hSw; (try dsimp only at hSw); go_simp; try with_reducible rfl)); (try simp only [Act.put, sA, sB, sC])
          refine wpAnyH_done (by kernel_rfl) ?_ _
          have z1 := hs7.off
          have z2 := hs7.ring
          have z3 := hs7.a
          clear hs7 hW7 hth7 hk7 hone7 hsz7 hz hS7 hS hB
          go_wp2_with fail
          go_ret
          exact ⟨rfl, hB7⟩
        refine AllReadyH.cons (by simp only [gA, gB, gC]; rfl) (fun K hK => ?_) AllReadyH.nil
        have hb := alloc_below w3 (.cells zS 29)
        have hz : BlkL w3.heap.size (stCs zeroC nilS) (w3.alloc (.cells zS 29)) := blkl_alloc w3 (stCs zeroC nilS).toArray 29
        have hgz := hB.size
        have hSz := hS.size
        refine step_allocC (z := zS) rfl rfl (fun _ => rfl) ?_
        (try simp only [Act.put, sA, sB, sC])
        refine hK.out _ _ (Below.then hS hb) ?_
        clear hHeld hK
        intro hHeld
        replace hB := Below.then hB hb
        replace hS := Below.then hS hb
        replace hxo := hxo.below hb
        replace hR := hR.below pg_len hb
        clear hb
        have hgS : Z.heap.size ≤ w3.heap.size := hSz
        generalize w3.alloc (.cells zS 29) = w4 at *
        generalize w3.heap.size = gz at *
        (try simp only [Act.put, sA, sB, sC])
        refine wpAnyH_ready (rs := [8]) (by kernel_rfl) (by simp) ?_
        refine AllReadyH.cons (by simp only [gA, gB, gC]; rfl) (fun K hK => ?_) AllReadyH.nil
        go_simp
        have hb : Below w4.heap.size w4 (w4.alloc (.cells #[.slice (some ⟨gG, 0, none⟩) 1 1, .bool false, .int .i64 0, .int .i64 0, .int .i64 0, .int .i64 0] 48)) := alloc_below w4 _
        have hm : BlkL w4.heap.size (memCs (.slice (some ⟨gG, 0, none⟩) 1 1) false 0 0 0 0) (w4.alloc (.cells #[.slice (some ⟨gG, 0, none⟩) 1 1, .bool false, .int .i64 0, .int .i64 0, .int .i64 0, .int .i64 0] 48)) := blkl_alloc w4 #[.slice (some ⟨gG, 0, none⟩) 1 1, .bool false, .int .i64 0, .int .i64 0, .int .i64 0, .int .i64 0] 48
        refine hK.out _ _ (Below.then hS hb) ?_
        clear hHeld hK
        intro hHeld
        replace hB := Below.then hB hb
        replace hS := Below.then hS hb
        replace hxo := hxo.below hb
        replace hR := hR.below pg_len hb
        replace hz := stab_blk _ _ _ _ hz hb
        have hM := MemO.of (by rw [hxg]; exact hok1) hxo hm ⟨hR, fun z hz => by rw [List.mem_singleton.1 hz]; exact own_at hxo⟩
        clear hb hm hR
        generalize w4.alloc (.cells #[.slice (some ⟨gG, 0, none⟩) 1 1, .bool false, .int .i64 0, .int .i64 0, .int .i64 0, .int .i64 0] 48) = w5 at *
        generalize w4.heap.size = bm at *
        (try simp only [Act.put, sA, sB, sC])
        refine wpAnyH_take (i := 9) (v := ?_) (by simp only [gA, gB, gC]; rfl) (by kernel_rfl) (by kernel_rfl) (by kernel_rfl) (by exact fun _ _ _ h => h) (Or.inl ⟨by rfl, ?_⟩) (by assumption) ?_; rotate_left; (focus (intro w hSw; (try dsimp only at hSw); go_simp; try with_reducible rfl)); (try simp only [Act.put, sA, sB, sC])
        refine wpAnyH_ready (rs := [10]) (by kernel_rfl) (by simp) ?_
        refine AllReadyH.cons (by simp only [gA, gB, gC]; rfl) (fun K hK => ?_) AllReadyH.nil
        go_simp
        go_at_call 11
        refine (cstepV { newC with a := a } hCok nilS hM (SV.nil _) (okC { newC with a := a, off := 1 }) (by rw [show [x].map (·.g) = [oneG [⟨16, 0, NN⟩] []] by simp [hxg]]; exact hst)).mono ?_
        rintro e w6 hP
        obtain ⟨vA, rfl, hoA, hb⟩ := hP.okE
        have hvA := SV.own hoA
        replace hB := Below.then hB hb
        replace hS := Below.then hS hb
        replace hz := stab_blk _ _ _ _ hz hb
        clear hb hP hoA hM hxo
        refine hK.out _ _ (hS) ?_
        clear hHeld hK
        intro hHeld
        (try simp only [Act.put, sA, sB, sC])
        refine wpAnyH_take (i := 11) (v := ?_) (by simp only [gA, gB, gC]; rfl) (by kernel_rfl) (by kernel_rfl) (by kernel_rfl) (by exact fun _ _ _ h => h) (Or.inl ⟨by rfl, ?_⟩) (by assumption) ?_; rotate_left; (focus (intro w hSw; (try dsimp only at hSw); go_simp; try with_reducible rfl)); (try simp only [Act.put, sA, sB, sC])
        refine wpAnyH_take (i := 12) (v := ?_) (by simp only [gA, gB, gC]; rfl) (by kernel_rfl) (by kernel_rfl) (by kernel_rfl) (by exact fun _ _ _ h => h) (Or.inl ⟨by rfl, ?_⟩) (by assumption) ?_; rotate_left; (focus (intro w hSw; (try dsimp only at hSw); go_simp; try with_reducible rfl)); (try simp only [Act.put, sA, sB, sC])
        refine wpAnyH_take (i := 13) (v := ?_) (by simp only [gA, gB, gC]; rfl) (by kernel_rfl) (by kernel_rfl) (by kernel_rfl) (by exact fun _ _ _ h => h) (Or.inl ⟨by rfl, ?_⟩) (by assumption) ?_; rotate_left; (focus (intro w hSw; (try dsimp only at hSw); go_simp; try with_reducible rfl)); (try simp only [Act.put, sA, sB, sC])
        refine wpAnyH_take (i := 14) (v := ?_) (by simp only [gA, gB, gC]; rfl) (by kernel_rfl) (by kernel_rfl) (by kernel_rfl) (by exact fun _ _ _ h => h) (Or.inl ⟨by rfl, ?_⟩) (by assumption) ?_; rotate_left; (focus (intro w hSw; (try dsimp only at hSw); go_simp; try with_reducible rfl)); (try simp only [Act.put, sA, sB, sC])
        refine wpAnyH_take (i := 15) (v := ?_) (by simp only [gA, gB, gC]; rfl) (by kernel_rfl) (by kernel_rfl) (by kernel_rfl) (by exact fun _ _ _ h => h) (Or.inl ⟨by rfl, ?_⟩) (by assumption) ?_; rotate_left; (focus (intro w hSw; (try dsimp only at hSw); go_simp; try with_reducible rfl)); (try simp only [Act.put, sA, sB, sC])
        refine wpAnyH_ready (rs := [17]) (by kernel_rfl) (by simp) ?_
        refine AllReadyH.cons (by simp only [gA, gB, gC]; rfl) (fun K hK => ?_) AllReadyH.nil
        obtain ⟨W7, hW7, hth7, hs7, hk7⟩ := put_st (show StAt gz zeroC nilS w6 from ⟨rfl, hz⟩) (d := { newC with a := a, off := 1 }) rfl vA
        have hB7 := hk7 _ _ hgz hB
        have hS7 := hk7 _ _ hgS hS
        have hone7 := st_one { newC with a := a, off := 1 } vA hvA.one
        have hsz7 : (Try.prog.info? 29).map (·.size) = some (stCs { newC with a := a, off := 1 } vA).length := by rw [st_len (show ({ newC with a := a, off := 1 }).ps.length = 4 from rfl)]; exact hszS
        refine step_store_rowC rfl _ _ rfl gz rfl (stCs { newC with a := a, off := 1 } vA) rfl hth7 hsz7 hone7 hW7 ?_
        (try simp only [Act.put, sA, sB, sC])
        refine hK.out _ _ (hS7) ?_
        clear hHeld hK
        intro hHeld
        (try simp only [Act.put, sA, sB, sC])
        refine wpAnyH_take (i := 18) (v := ?_) (by simp only [gA, gB, gC]; rfl) (by kernel_rfl) (by kernel_rfl) (by kernel_rfl) (by exact fun _ _ _ h => h) (Or.inl ⟨by rfl, ?_⟩) (by assumption) ?_; rotate_left; (focus (intro w hSw; (try dsimp only at hSw); go_simp; try with_reducible rfl)); (try simp only [Act.put, sA, sB, sC])
        refine wpAnyH_take (i := 19) (v := ?_) (by simp only [gA, gB, gC]; rfl) (by kernel_rfl) (by kernel_rfl) (by kernel_rfl) (by exact fun _ _ _ h => h) (Or.inl ⟨by rfl, ?_⟩) (by assumption) ?_; rotate_left; (focus (intro w hSw; (try dsimp only at hSw); go_simp; try with_reducible rfl)); (try simp only [Act.put, sA, sB, sC])
        refine wpAnyH_take (i := 20) (v := ?_) (by simp only [gA, gB, gC]; rfl) (by kernel_rfl) (by kernel_rfl) (by kernel_rfl) (by exact fun _ _ _ h => h) (Or.inl ⟨by rfl, ?_⟩) (by assumption) ?_; rotate_left; (focus (intro w hSw; (try dsimp only at hSw); go_simp; try with_reducible rfl)); (try simp only [Act.put, sA, sB, sC])
        refine wpAnyH_done (by kernel_rfl) ?_ _
        have z1 := hs7.off
        have z2 := hs7.ring
        have z3 := hs7.a
        clear hs7 hW7 hth7 hk7 hone7 hsz7 hz hS7 hS hB
        go_wp2_with fail
        go_ret
        exact ⟨rfl, hB7⟩
      refine AllReadyH.cons (by simp only [gA, gB, gC]; rfl) (fun K hK => ?_) AllReadyH.nil
      have hb := alloc_below w2 (.cells zS 29)
      have hz : BlkL w2.heap.size (stCs zeroC nilS) (w2.alloc (.cells zS 29)) := blkl_alloc w2 (stCs zeroC nilS).toArray 29
      have hgz := hB.size
      have hSz := hS.size
      refine step_allocC (z := zS) rfl rfl (fun _ => rfl) ?_
      (try simp only [Act.put, sA, sB, sC])
      refine hK.out _ _ (Below.then hS hb) ?_
      clear hHeld hK
      intro hHeld
      replace hB := Below.then hB hb
      replace hS := Below.then hS hb
      replace hxo := hxo.below hb
      clear hb
      have hgS : Z.heap.size ≤ w2.heap.size := hSz
      generalize w2.alloc (.cells zS 29) = w3 at *
      generalize w2.heap.size = gz at *
      (try simp only [Act.put, sA, sB, sC])
      refine wpAnyH_ready (rs := [6]) (by kernel_rfl) (by simp) ?_
      refine AllReadyH.cons (by simp only [gA, gB, gC]; rfl) (fun K hK => ?_) AllReadyH.nil
      have hb := alloc_below w3 (.cells x.cs.toArray 39)
      have hR := row_list pg_len w3 [x] x.cs.toArray (by simp) 39
      refine step_build1 pg_okC (by decide) rfl _ rfl x.cs rfl rfl ?_
      (try simp only [Act.put, sA, sB, sC])
      refine hK.out _ _ (Below.then hS hb) ?_
      clear hHeld hK
      intro hHeld
      replace hB := Below.then hB hb
      replace hS := Below.then hS hb
      replace hxo := hxo.below hb
      replace hz := stab_blk _ _ _ _ hz hb
      clear hb
      generalize w3.alloc (.cells x.cs.toArray 39) = w4 at *
      generalize w3.heap.size = gG at *
      (try simp only [Act.put, sA, sB, sC])
      refine wpAnyH_take (i := 7) (v := ?_) (by simp only [gA, gB, gC]; rfl) (by kernel_rfl) (by kernel_rfl) (by kernel_rfl) (by exact fun _ _ _ h => h) (Or.inl ⟨by rfl, ?_⟩) (by assumption) ?_; rotate_left; (focus (intro w hSw; (try dsimp only at hSw); go_simp; try with_reducible rfl)); (try simp only [Act.put, sA, sB, sC])
      refine wpAnyH_ready (rs := [8]) (by kernel_rfl) (by simp) ?_
      refine AllReadyH.cons (by simp only [gA, gB, gC]; rfl) (fun K hK => ?_) AllReadyH.nil
      go_simp
      have hb : Below w4.heap.size w4 (w4.alloc (.cells #[.slice (some ⟨gG, 0, none⟩) 1 1, .bool false, .int .i64 0, .int .i64 0, .int .i64 0, .int .i64 0] 48)) := alloc_below w4 _
      have hm : BlkL w4.heap.size (memCs (.slice (some ⟨gG, 0, none⟩) 1 1) false 0 0 0 0) (w4.alloc (.cells #[.slice (some ⟨gG, 0, none⟩) 1 1, .bool false, .int .i64 0, .int .i64 0, .int .i64 0, .int .i64 0] 48)) := blkl_alloc w4 #[.slice (some ⟨gG, 0, none⟩) 1 1, .bool false, .int .i64 0, .int .i64 0, .int .i64 0, .int .i64 0] 48
      refine hK.out _ _ (Below.then hS hb) ?_
      clear hHeld hK
      intro hHeld
      replace hB := Below.then hB hb
      replace hS := Below.then hS hb
      replace hxo := hxo.below hb
      replace hR := hR.below pg_len hb
      replace hz := stab_blk _ _ _ _ hz hb
      have hM := MemO.of (by rw [hxg]; exact hok1) hxo hm ⟨hR, fun z hz => by rw [List.mem_singleton.1 hz]; exact own_at hxo⟩
      clear hb hm hR
      generalize w4.alloc (.cells #[.slice (some ⟨gG, 0, none⟩) 1 1, .bool false, .int .i64 0, .int .i64 0, .int .i64 0, .int .i64 0] 48) = w5 at *
      generalize w4.heap.size = bm at *
      (try simp only [Act.put, sA, sB, sC])
      refine wpAnyH_take (i := 9) (v := ?_) (by simp only [gA, gB, gC]; rfl) (by kernel_rfl) (by kernel_rfl) (by kernel_rfl) (by exact fun _ _ _ h => h) (Or.inl ⟨by rfl, ?_⟩) (by assumption) ?_; rotate_left; (focus (intro w hSw; (try dsimp only at hSw); go_simp; try with_reducible rfl)); (try simp only [Act.put, sA, sB, sC])
      refine wpAnyH_ready (rs := [10]) (by kernel_rfl) (by simp) ?_
      refine AllReadyH.cons (by simp only [gA, gB, gC]; rfl) (fun K hK => ?_) AllReadyH.nil
      go_simp
      go_at_call 11
      refine (cstepV { newC with a := a } hCok nilS hM (SV.nil _) (okC { newC with a := a, off := 1 }) (by rw [show [x].map (·.g) = [oneG [⟨16, 0, NN⟩] []] by simp [hxg]]; exact hst)).mono ?_
      rintro e w6 hP
      obtain ⟨vA, rfl, hoA, hb⟩ := hP.okE
      have hvA := SV.own hoA
      replace hB := Below.then hB hb
      replace hS := Below.then hS hb
      replace hz := stab_blk _ _ _ _ hz hb
      clear hb hP hoA hM hxo
      refine hK.out _ _ (hS) ?_
      clear hHeld hK
      intro hHeld
      (try simp only [Act.put, sA, sB, sC])
      refine wpAnyH_take (i := 11) (v := ?_) (by simp only [gA, gB, gC]; rfl) (by kernel_rfl) (by kernel_rfl) (by kernel_rfl) (by exact fun _ _ _ h => h) (Or.inl ⟨by rfl, ?_⟩) (by assumption) ?_; rotate_left; (focus (intro w hSw; (try dsimp only at hSw); go_simp; try with_reducible rfl)); (try simp only [Act.put, sA, sB, sC])
      refine wpAnyH_take (i := 12) (v := ?_) (by simp only [gA, gB, gC]; rfl) (by kernel_rfl) (by kernel_rfl) (by kernel_rfl) (by exact fun _ _ _ h => h) (Or.inl ⟨by rfl, ?_⟩) (by assumption) ?_; rotate_left; (focus (intro w hSw; (try dsimp only at hSw); go_simp; try with_reducible rfl)); (try simp only [Act.put, sA, sB, sC])
      refine wpAnyH_take (i := 13) (v := ?_) (by simp only [gA, gB, gC]; rfl) (by kernel_rfl) (by kernel_rfl) (by kernel_rfl) (by exact fun _ _ _ h => h) (Or.inl ⟨by rfl, ?_⟩) (by assumption) ?_; rotate_left; (focus (intro w hSw; (try dsimp only at hSw); go_simp; try with_reducible rfl)); (try simp only [Act.put, sA, sB, sC])
      refine wpAnyH_take (i := 14) (v := ?_) (by simp only [gA, gB, gC]; rfl) (by kernel_rfl) (by kernel_rfl) (by kernel_rfl) (by exact fun _ _ _ h => h) (Or.inl ⟨by rfl, ?_⟩) (by assumption) ?_; rotate_left; (focus (intro w hSw; (try dsimp only at hSw); go_simp; try with_reducible rfl)); (try simp only [Act.put, sA, sB, sC])
      refine wpAnyH_take (i := 15) (v := ?_) (by simp only [gA, gB, gC]; rfl) (by kernel_rfl) (by kernel_rfl) (by kernel_rfl) (by exact fun _ _ _ h => h) (Or.inl ⟨by rfl, ?_⟩) (by assumption) ?_; rotate_left; (focus (intro w hSw; (try dsimp only at hSw); go_simp; try with_reducible rfl)); (try simp only [Act.put, sA, sB, sC])
      refine wpAnyH_ready (rs := [17]) (by kernel_rfl) (by simp) ?_
      refine AllReadyH.cons (by simp only [gA, gB, gC]; rfl) (fun K hK => ?_) AllReadyH.nil
      obtain ⟨W7, hW7, hth7, hs7, hk7⟩ := put_st (show StAt gz zeroC nilS w6 from ⟨rfl, hz⟩) (d := { newC with a := a, off := 1 }) rfl vA
      have hB7 := hk7 _ _ hgz hB
      have hS7 := hk7 _ _ hgS hS
      have hone7 := st_one { newC with a := a, off := 1 } vA hvA.one
      have hsz7 : (Try.prog.info? 29).map (·.size) = some (stCs { newC with a := a, off := 1 } vA).length := by rw [st_len (show ({ newC with a := a, off := 1 }).ps.length = 4 from rfl)]; exact hszS
      refine step_store_rowC rfl _ _ rfl gz rfl (stCs { newC with a := a, off := 1 } vA) rfl hth7 hsz7 hone7 hW7 ?_
      (try simp only [Act.put, sA, sB, sC])
      refine hK.out _ _ (hS7) ?_
      clear hHeld hK
      intro hHeld
      (try simp only [Act.put, sA, sB, sC])
      refine wpAnyH_take (i := 18) (v := ?_) (by simp only [gA, gB, gC]; rfl) (by kernel_rfl) (by kernel_rfl) (by kernel_rfl) (by exact fun _ _ _ h => h) (Or.inl ⟨by rfl, ?_⟩) (by assumption) ?_; rotate_left; (focus (intro w hSw; (try dsimp only at hSw); go_simp; try with_reducible rfl)); (try simp only [Act.put, sA, sB, sC])
      refine wpAnyH_take (i := 19) (v := ?_) (by simp only [gA, gB, gC]; rfl) (by kernel_rfl) (by kernel_rfl) (by kernel_rfl) (by exact fun _ _ _ h => h) (Or.inl ⟨by rfl, ?_⟩) (by assumption) ?_; rotate_left; (focus (intro w hSw; (try dsimp only at hSw); go_simp; try with_reducible rfl)); (try simp only [Act.put, sA, sB, sC])
      refine wpAnyH_take (i := 20) (v := ?_) (by simp only [gA, gB, gC]; rfl) (by kernel_rfl) (by kernel_rfl) (by kernel_rfl) (by exact fun _ _ _ h => h) (Or.inl ⟨by rfl, ?_⟩) (by assumption) ?_; rotate_left; (focus (intro w hSw; (try dsimp only at hSw); go_simp; try with_reducible rfl)); (try simp only [Act.put, sA, sB, sC])
      refine wpAnyH_done (by kernel_rfl) ?_ _
      have z1 := hs7.off
      have z2 := hs7.ring
      have z3 := hs7.a
      clear hs7 hW7 hth7 hk7 hone7 hsz7 hz hS7 hS hB
      go_wp2_with fail
      go_ret
      exact ⟨rfl, hB7⟩
    refine AllReadyH.cons (by simp only [gA, gB, gC]; rfl) (fun K hK => ?_) AllReadyH.nil
    have hb := alloc_below w1 (.cells zS 29)
    have hz : BlkL w1.heap.size (stCs zeroC nilS) (w1.alloc (.cells zS 29)) := blkl_alloc w1 (stCs zeroC nilS).toArray 29
    have hgz := hB.size
    have hSz := hS.size
    refine step_allocC (z := zS) rfl rfl (fun _ => rfl) ?_
    (try simp only [Act.put, sA, sB, sC])
    refine hK.out _ _ (Below.then hS hb) ?_
    clear hHeld hK
    intro hHeld
    replace hB := Below.then hB hb
    replace hS := Below.then hS hb
    replace hI := hI.below in_okC.len hb
    clear hb
    have hgS : Z.heap.size ≤ w1.heap.size := hSz
    generalize w1.alloc (.cells zS 29) = w2 at *
    generalize w1.heap.size = gz at *
    (try simp only [Act.put, sA, sB, sC])
    refine wpAnyH_ready (rs := [5]) (by kernel_rfl) (by simp) ?_
    refine AllReadyH.cons (by simp only [gA, gB, gC]; rfl) (fun K hK => ?_) AllReadyH.nil
    go_simp
    go_at_call 12
    refine (cone_any [⟨16, 0, NN⟩] [] (some ⟨gI, 0, none⟩) none 1 0 (by show 1 ≤ 100; decide) (by show 0 ≤ 100; decide) (fun _ => rfl) w2 hI (fun j y h => by simp at h)).mono ?_
    rintro e w3 ⟨x, hxg, rfl, hxo, hb⟩
    replace hB := Below.then hB hb
    replace hS := Below.then hS hb
    replace hz := stab_blk _ _ _ _ hz hb
    clear hb hI
    refine hK.out _ _ (hS) ?_
    clear hHeld hK
    intro hHeld
    (try simp only [Act.put, sA, sB, sC])
    refine wpAnyH_ready (rs := [6]) (by kernel_rfl) (by simp) ?_
    refine AllReadyH.cons (by simp only [gA, gB, gC]; rfl) (fun K hK => ?_) AllReadyH.nil
    have hb := alloc_below w3 (.cells x.cs.toArray 39)
    have hR := row_list pg_len w3 [x] x.cs.toArray (by simp) 39
    refine step_build1 pg_okC (by decide) rfl _ rfl x.cs rfl rfl ?_
    (try simp only [Act.put, sA, sB, sC])
    refine hK.out _ _ (Below.then hS hb) ?_
    clear hHeld hK
    intro hHeld
    replace hB := Below.then hB hb
    replace hS := Below.then hS hb
    replace hxo := hxo.below hb
    replace hz := stab_blk _ _ _ _ hz hb
    clear hb
    generalize w3.alloc (.cells x.cs.toArray 39) = w4 at *
    generalize w3.heap.size = gG at *
    (try simp only [Act.put, sA, sB, sC])
    refine wpAnyH_take (i := 7) (v := ?_) (by simp only [gA, gB, gC]; rfl) (by kernel_rfl) (by kernel_rfl) (by kernel_rfl) (by exact fun _ _ _ h => h) (Or.inl ⟨by rfl, ?_⟩) (by assumption) ?_; rotate_left; (focus (intro w hSw; (try dsimp only at hSw); go_simp; try with_reducible rfl)); (try simp only [Act.put, sA, sB, sC])
    refine wpAnyH_ready (rs := [8]) (by kernel_rfl) (by simp) ?_
    refine AllReadyH.cons (by simp only [gA, gB, gC]; rfl) (fun K hK => ?_) AllReadyH.nil
    go_simp
    have hb : Below w4.heap.size w4 (w4.alloc (.cells #[.slice (some ⟨gG, 0, none⟩) 1 1, .bool false, .int .i64 0, .int .i64 0, .int .i64 0, .int .i64 0] 48)) := alloc_below w4 _
    have hm : BlkL w4.heap.size (memCs (.slice (some ⟨gG, 0, none⟩) 1 1) false 0 0 0 0) (w4.alloc (.cells #[.slice (some ⟨gG, 0, none⟩) 1 1, .bool false, .int .i64 0, .int .i64 0, .int .i64 0, .int .i64 0] 48)) := blkl_alloc w4 #[.slice (some ⟨gG, 0, none⟩) 1 1, .bool false, .int .i64 0, .int .i64 0, .int .i64 0, .int .i64 0] 48
    refine hK.out _ _ (Below.then hS hb) ?_
    clear hHeld hK
    intro hHeld
    replace hB := Below.then hB hb
    replace hS := Below.then hS hb
    replace hxo := hxo.below hb
    replace hR := hR.below pg_len hb
    replace hz := stab_blk _ _ _ _ hz hb
    have hM := MemO.of (by rw [hxg]; exact hok1) hxo hm ⟨hR, fun z hz => by rw [List.mem_singleton.1 hz]; exact own_at hxo⟩
    clear hb hm hR
    generalize w4.alloc (.cells #[.slice (some ⟨gG, 0, none⟩) 1 1, .bool false, .int .i64 0, .int .i64 0, .int .i64 0, .int .i64 0] 48) = w5 at *
    generalize w4.heap.size = bm at *
    (try simp only [Act.put, sA, sB, sC])
    refine wpAnyH_take (i := 9) (v := ?_) (by simp only [gA, gB, gC]; rfl) (by kernel_rfl) (by kernel_rfl) (by kernel_rfl) (by exact fun _ _ _ h => h) (Or.inl ⟨by rfl, ?_⟩) (by assumption) ?_; rotate_left; (focus (intro w hSw; (try dsimp only at hSw); go_simp; try with_reducible rfl)); (try simp only [Act.put, sA, sB, sC])
    refine wpAnyH_ready (rs := [10]) (by kernel_rfl) (by simp) ?_
    refine AllReadyH.cons (by simp only [gA, gB, gC]; rfl) (fun K hK => ?_) AllReadyH.nil
    go_simp
    go_at_call 11
    refine (cstepV { newC with a := a } hCok nilS hM (SV.nil _) (okC { newC with a := a, off := 1 }) (by rw [show [x].map (·.g) = [oneG [⟨16, 0, NN⟩] []] by simp [hxg]]; exact hst)).mono ?_
    rintro e w6 hP
    obtain ⟨vA, rfl, hoA, hb⟩ := hP.okE
    have hvA := SV.own hoA
    replace hB := Below.then hB hb
    replace hS := Below.then hS hb
    replace hz := stab_blk _ _ _ _ hz hb
    clear hb hP hoA hM hxo
    refine hK.out _ _ (hS) ?_
    clear hHeld hK
    intro hHeld
    (try simp only [Act.put, sA, sB, sC])
    refine wpAnyH_take (i := 11) (v := ?_) (by simp only [gA, gB, gC]; rfl) (by kernel_rfl) (by kernel_rfl) (by kernel_rfl) (by exact fun _ _ _ h => h) (Or.inl ⟨by rfl, ?_⟩) (by assumption) ?_; rotate_left; (focus (intro w hSw; (try dsimp only at hSw); go_simp; try with_reducible rfl)); (try simp only [Act.put, sA, sB, sC])
    refine wpAnyH_take (i := 12) (v := ?_) (by simp only [gA, gB, gC]; rfl) (by kernel_rfl) (by kernel_rfl) (by kernel_rfl) (by exact fun _ _ _ h => h) (Or.inl ⟨by rfl, ?_⟩) (by assumption) ?_; rotate_left; (focus (intro w hSw; (try dsimp only at hSw); go_simp; try with_reducible rfl)); (try simp only [Act.put, sA, sB, sC])
    refine wpAnyH_take (i := 13) (v := ?_) (by simp only [gA, gB, gC]; rfl) (by kernel_rfl) (by kernel_rfl) (by kernel_rfl) (by exact fun _ _ _ h => h) (Or.inl ⟨by rfl, ?_⟩) (by assumption) ?_; rotate_left; (focus (intro w hSw; (try dsimp only at hSw); go_simp; try with_reducible rfl)); (try simp only [Act.put, sA, sB, sC])
    refine wpAnyH_take (i := 14) (v := ?_) (by simp only [gA, gB, gC]; rfl) (by kernel_rfl) (by kernel_rfl) (by kernel_rfl) (by exact fun _ _ _ h => h) (Or.inl ⟨by rfl, ?_⟩) (by assumption) ?_; rotate_left; (focus (intro w hSw; (try dsimp only at hSw); go_simp; try with_reducible rfl)); (try simp only [Act.put, sA, sB, sC])
    refine wpAnyH_take (i := 15) (v := ?_) (by simp only [gA, gB, gC]; rfl) (by kernel_rfl) (by kernel_rfl) (by kernel_rfl) (by exact fun _ _ _ h => h) (Or.inl ⟨by rfl, ?_⟩) (by assumption) ?_; rotate_left; (focus (intro w hSw; (try dsimp only at hSw); go_simp; try with_reducible rfl)); (try simp only [Act.put, sA, sB, sC])
    refine wpAnyH_ready (rs := [17]) (by kernel_rfl) (by simp) ?_
    refine AllReadyH.cons (by simp only [gA, gB, gC]; rfl) (fun K hK => ?_) AllReadyH.nil
    obtain ⟨W7, hW7, hth7, hs7, hk7⟩ := put_st (show StAt gz zeroC nilS w6 from ⟨rfl, hz⟩) (d := { newC with a := a, off := 1 }) rfl vA
    have hB7 := hk7 _ _ hgz hB
    have hS7 := hk7 _ _ hgS hS
    have hone7 := st_one { newC with a := a, off := 1 } vA hvA.one
    have hsz7 : (Try.prog.info? 29).map (·.size) = some (stCs { newC with a := a, off := 1 } vA).length := by rw [st_len (show ({ newC with a := a, off := 1 }).ps.length = 4 from rfl)]; exact hszS
    refine step_store_rowC rfl _ _ rfl gz rfl (stCs { newC with a := a, off := 1 } vA) rfl hth7 hsz7 hone7 hW7 ?_
    (try simp only [Act.put, sA, sB, sC])
    refine hK.out _ _ (hS7) ?_
    clear hHeld hK
    intro hHeld
    (try simp only [Act.put, sA, sB, sC])
    refine wpAnyH_take (i := 18) (v := ?_) (by simp only [gA, gB, gC]; rfl) (by kernel_rfl) (by kernel_rfl) (by kernel_rfl) (by exact fun _ _ _ h => h) (Or.inl ⟨by rfl, ?_⟩) (by assumption) ?_; rotate_left; (focus (intro w hSw; (try dsimp only at hSw); go_simp; try with_reducible rfl)); (try simp only [Act.put, sA, sB, sC])
    refine wpAnyH_take (i := 19) (v := ?_) (by simp only [gA, gB, gC]; rfl) (by kernel_rfl) (by kernel_rfl) (by kernel_rfl) (by exact fun _ _ _ h => h) (Or.inl ⟨by rfl, ?_⟩) (by assumption) ?_; rotate_left; (focus (intro w hSw; (try dsimp only at hSw); go_simp; try with_reducible rfl)); (try simp only [Act.put, sA, sB, sC])
    refine wpAnyH_take (i := 20) (v := ?_) (by simp only [gA, gB, gC]; rfl) (by kernel_rfl) (by kernel_rfl) (by kernel_rfl) (by exact fun _ _ _ h => h) (Or.inl ⟨by rfl, ?_⟩) (by assumption) ?_; rotate_left; (focus (intro w hSw; (try dsimp only at hSw); go_simp; try with_reducible rfl)); (try simp only [Act.put, sA, sB, sC])
    refine wpAnyH_done (by kernel_rfl) ?_ _
    have z1 := hs7.off
    have z2 := hs7.ring
    have z3 := hs7.a
    clear hs7 hW7 hth7 hk7 hone7 hsz7 hz hS7 hS hB
    go_wp2_with fail
    go_ret
    exact ⟨rfl, hB7⟩
  refine AllReadyH.cons (by simp only [gA, gB, gC]; rfl) (fun K hK => ?_) AllReadyH.nil
  have hb := alloc_below w0 (.cells zS 29)
  have hz : BlkL w0.heap.size (stCs zeroC nilS) (w0.alloc (.cells zS 29)) := blkl_alloc w0 (stCs zeroC nilS).toArray 29
  have hgz := hB.size
  have hSz := hS.size
  refine step_allocC (z := zS) rfl rfl (fun _ => rfl) ?_
  (try simp only [Act.put, sA, sB, sC])
  refine hK.out _ _ (Below.then hS hb) ?_
  clear hHeld hK
  intro hHeld
  replace hB := Below.then hB hb
  replace hS := Below.then hS hb
  clear hb
  have hgS : Z.heap.size ≤ w0.heap.size := hSz
  generalize w0.alloc (.cells zS 29) = w1 at *
  generalize w0.heap.size = gz at *
  (try simp only [Act.put, sA, sB, sC])
  refine wpAnyH_ready (rs := [4]) (by kernel_rfl) (by simp) ?_
  refine AllReadyH.cons (by simp only [gA, gB, gC]; rfl) (fun K hK => ?_) AllReadyH.nil
  have hb := alloc_below w1 (.cells (ins3 ⟨16, 0, NN⟩).toArray 42)
  have hI := row_list (f := ins3) (sz := 3) (fun _ => rfl) w1 [⟨16, 0, NN⟩] (ins3 ⟨16, 0, NN⟩).toArray (by simp) 42
  refine step_build1 in_okC (by decide) rfl _ rfl (ins3 ⟨16, 0, NN⟩) rfl rfl ?_
  (try simp only [Act.put, sA, sB, sC])
  refine hK.out _ _ (Below.then hS hb) ?_
  clear hHeld hK
  intro hHeld
  replace hB := Below.then hB hb
  replace hS := Below.then hS hb
  replace hz := stab_blk _ _ _ _ hz hb
  clear hb
  generalize w1.alloc (.cells (ins3 ⟨16, 0, NN⟩).toArray 42) = w2 at *
  generalize w1.heap.size = gI at *
  (try simp only [Act.put, sA, sB, sC])
  refine wpAnyH_ready (rs := [5]) (by kernel_rfl) (by simp) ?_
  refine AllReadyH.cons (by simp only [gA, gB, gC]; rfl) (fun K hK => ?_) AllReadyH.nil
  go_simp
  go_at_call 12
  refine (cone_any [⟨16, 0, NN⟩] [] (some ⟨gI, 0, none⟩) none 1 0 (by show 1 ≤ 100; decide) (by show 0 ≤ 100; decide) (fun _ => rfl) w2 hI (fun j y h => by simp at h)).mono ?_
  rintro e w3 ⟨x, hxg, rfl, hxo, hb⟩
  replace hB := Below.then hB hb
  replace hS := Below.then hS hb
  replace hz := stab_blk _ _ _ _ hz hb
  clear hb hI
  refine hK.out _ _ (hS) ?_
  clear hHeld hK
  intro hHeld
  (try simp only [Act.put, sA, sB, sC])
  refine wpAnyH_ready (rs := [6]) (by kernel_rfl) (by simp) ?_
  refine AllReadyH.cons (by simp only [gA, gB, gC]; rfl) (fun K hK => ?_) AllReadyH.nil
  have hb := alloc_below w3 (.cells x.cs.toArray 39)
  have hR := row_list pg_len w3 [x] x.cs.toArray (by simp) 39
  refine step_build1 pg_okC (by decide) rfl _ rfl x.cs rfl rfl ?_
  (try simp only [Act.put, sA, sB, sC])
  refine hK.out _ _ (Below.then hS hb) ?_
  clear hHeld hK
  intro hHeld
  replace hB := Below.then hB hb
  replace hS := Below.then hS hb
  replace hxo := hxo.below hb
  replace hz := stab_blk _ _ _ _ hz hb
  clear hb
  generalize w3.alloc (.cells x.cs.toArray 39) = w4 at *
  generalize w3.heap.size = gG at *
  (try simp only [Act.put, sA, sB, sC])
  refine wpAnyH_take (i := 7) (v := ?_) (by simp only [gA, gB, gC]; rfl) (by kernel_rfl) (by kernel_rfl) (by kernel_rfl) (by exact fun _ _ _ h => h) (Or.inl ⟨by rfl, ?_⟩) (by assumption) ?_; rotate_left; (focus (intro w hSw; (try dsimp only at hSw); go_simp; try with_reducible rfl)); (try simp only [Act.put, sA, sB, sC])
  refine wpAnyH_ready (rs := [8]) (by kernel_rfl) (by simp) ?_
  refine AllReadyH.cons (by simp only [gA, gB, gC]; rfl) (fun K hK => ?_) AllReadyH.nil
  go_simp
  have hb : Below w4.heap.size w4 (w4.alloc (.cells #[.slice (some ⟨gG, 0, none⟩) 1 1, .bool false, .int .i64 0, .int .i64 0, .int .i64 0, .int .i64 0] 48)) := alloc_below w4 _
  have hm : BlkL w4.heap.size (memCs (.slice (some ⟨gG, 0, none⟩) 1 1) false 0 0 0 0) (w4.alloc (.cells #[.slice (some ⟨gG, 0, none⟩) 1 1, .bool false, .int .i64 0, .int .i64 0, .int .i64 0, .int .i64 0] 48)) := blkl_alloc w4 #[.slice (some ⟨gG, 0, none⟩) 1 1, .bool false, .int .i64 0, .int .i64 0, .int .i64 0, .int .i64 0] 48
  refine hK.out _ _ (Below.then hS hb) ?_
  clear hHeld hK
  intro hHeld
  replace hB := Below.then hB hb
  replace hS := Below.then hS hb
  replace hxo := hxo.below hb
  replace hR := hR.below pg_len hb
  replace hz := stab_blk _ _ _ _ hz hb
  have hM := MemO.of (by rw [hxg]; exact hok1) hxo hm ⟨hR, fun z hz => by rw [List.mem_singleton.1 hz]; exact own_at hxo⟩
  clear hb hm hR
  generalize w4.alloc (.cells #[.slice (some ⟨gG, 0, none⟩) 1 1, .bool false, .int .i64 0, .int .i64 0, .int .i64 0, .int .i64 0] 48) = w5 at *
  generalize w4.heap.size = bm at *
  (try simp only [Act.put, sA, sB, sC])
  refine wpAnyH_take (i := 9) (v := ?_) (by simp only [gA, gB, gC]; rfl) (by kernel_rfl) (by kernel_rfl) (by kernel_rfl) (by exact fun _ _ _ h => h) (Or.inl ⟨by rfl, ?_⟩) (by assumption) ?_; rotate_left; (focus (intro w hSw; (try dsimp only at hSw); go_simp; try with_reducible rfl)); (try simp only [Act.put, sA, sB, sC])
  refine wpAnyH_ready (rs := [10]) (by kernel_rfl) (by simp) ?_
  refine AllReadyH.cons (by simp only [gA, gB, gC]; rfl) (fun K hK => ?_) AllReadyH.nil
  go_simp
  go_at_call 11
  refine (cstepV { newC with a := a } hCok nilS hM (SV.nil _) (okC { newC with a := a, off := 1 }) (by rw [show [x].map (·.g) = [oneG [⟨16, 0, NN⟩] []] by simp [hxg]]; exact hst)).mono ?_
  rintro e w6 hP
  obtain ⟨vA, rfl, hoA, hb⟩ := hP.okE
  have hvA := SV.own hoA
  replace hB := Below.then hB hb
  replace hS := Below.then hS hb
  replace hz := stab_blk _ _ _ _ hz hb
  clear hb hP hoA hM hxo
  refine hK.out _ _ (hS) ?_
  clear hHeld hK
  intro hHeld
  (try simp only [Act.put, sA, sB, sC])
  refine wpAnyH_take (i := 11) (v := ?_) (by simp only [gA, gB, gC]; rfl) (by kernel_rfl) (by kernel_rfl) (by kernel_rfl) (by exact fun _ _ _ h => h) (Or.inl ⟨by rfl, ?_⟩) (by assumption) ?_; rotate_left; (focus (intro w hSw; (try dsimp only at hSw); go_simp; try with_reducible rfl)); (try simp only [Act.put, sA, sB, sC])
  refine wpAnyH_take (i := 12) (v := ?_) (by simp only [gA, gB, gC]; rfl) (by kernel_rfl) (by kernel_rfl) (by kernel_rfl) (by exact fun _ _ _ h => h) (Or.inl ⟨by rfl, ?_⟩) (by assumption) ?_; rotate_left; (focus (intro w hSw; (try dsimp only at hSw); go_simp; try with_reducible rfl)); (try simp only [Act.put, sA, sB, sC])
  refine wpAnyH_take (i := 13) (v := ?_) (by simp only [gA, gB, gC]; rfl) (by kernel_rfl) (by kernel_rfl) (by kernel_rfl) (by exact fun _ _ _ h => h) (Or.inl ⟨by rfl, ?_⟩) (by assumption) ?_; rotate_left; (focus (intro w hSw; (try dsimp only at hSw); go_simp; try with_reducible rfl)); (try simp only [Act.put, sA, sB, sC])
  refine wpAnyH_take (i := 14) (v := ?_) (by simp only [gA, gB, gC]; rfl) (by kernel_rfl) (by kernel_rfl) (by kernel_rfl) (by exact fun _ _ _ h => h) (Or.inl ⟨by rfl, ?_⟩) (by assumption) ?_; rotate_left; (focus (intro w hSw; (try dsimp only at hSw); go_simp; try with_reducible rfl)); (try simp only [Act.put, sA, sB, sC])
  refine wpAnyH_take (i := 15) (v := ?_) (by simp only [gA, gB, gC]; rfl) (by kernel_rfl) (by kernel_rfl) (by kernel_rfl) (by exact fun _ _ _ h => h) (Or.inl ⟨by rfl, ?_⟩) (by assumption) ?_; rotate_left; (focus (intro w hSw; (try dsimp only at hSw); go_simp; try with_reducible rfl)); (try simp only [Act.put, sA, sB, sC])
  refine wpAnyH_ready (rs := [17]) (by kernel_rfl) (by simp) ?_
  refine AllReadyH.cons (by simp only [gA, gB, gC]; rfl) (fun K hK => ?_) AllReadyH.nil
  obtain ⟨W7, hW7, hth7, hs7, hk7⟩ := put_st (show StAt gz zeroC nilS w6 from ⟨rfl, hz⟩) (d := { newC with a := a, off := 1 }) rfl vA
  have hB7 := hk7 _ _ hgz hB
  have hS7 := hk7 _ _ hgS hS
  have hone7 := st_one { newC with a := a, off := 1 } vA hvA.one
  have hsz7 : (Try.prog.info? 29).map (·.size) = some (stCs { newC with a := a, off := 1 } vA).length := by rw [st_len (show ({ newC with a := a, off := 1 }).ps.length = 4 from rfl)]; exact hszS
  refine step_store_rowC rfl _ _ rfl gz rfl (stCs { newC with a := a, off := 1 } vA) rfl hth7 hsz7 hone7 hW7 ?_
  (try simp only [Act.put, sA, sB, sC])
  refine hK.out _ _ (hS7) ?_
  clear hHeld hK
  intro hHeld
  (try simp only [Act.put, sA, sB, sC])
  refine wpAnyH_take (i := 18) (v := ?_) (by simp only [gA, gB, gC]; rfl) (by kernel_rfl) (by kernel_rfl) (by kernel_rfl) (by exact fun _ _ _ h => h) (Or.inl ⟨by rfl, ?_⟩) (by assumption) ?_; rotate_left; (focus (intro w hSw; (try dsimp only at hSw); go_simp; try with_reducible rfl)); (try simp only [Act.put, sA, sB, sC])
  refine wpAnyH_take (i := 19) (v := ?_) (by simp only [gA, gB, gC]; rfl) (by kernel_rfl) (by kernel_rfl) (by kernel_rfl) (by exact fun _ _ _ h => h) (Or.inl ⟨by rfl, ?_⟩) (by assumption) ?_; rotate_left; (focus (intro w hSw; (try dsimp only at hSw); go_simp; try with_reducible rfl)); (try simp only [Act.put, sA, sB, sC])
  refine wpAnyH_take (i := 20) (v := ?_) (by simp only [gA, gB, gC]; rfl) (by kernel_rfl) (by kernel_rfl) (by kernel_rfl) (by exact fun _ _ _ h => h) (Or.inl ⟨by rfl, ?_⟩) (by assumption) ?_; rotate_left; (focus (intro w hSw; (try dsimp only at hSw); go_simp; try with_reducible rfl)); (try simp only [Act.put, sA, sB, sC])
  refine wpAnyH_done (by kernel_rfl) ?_ _
  have z1 := hs7.off
  have z2 := hs7.ring
  have z3 := hs7.a
  clear hs7 hW7 hth7 hk7 hone7 hsz7 hz hS7 hS hB
  go_wp2_with fail
  go_ret
  exact ⟨rfl, hB7⟩
theorem cpuJumps_walk (a op n : Int) (ha : fit64 a) (w : World) :
    Calls Try.prog 3 #[.int .i64 a, .int .i64 op, .int .i64 n] w fun e w' => e = .returned (.bool true) ∧ Below w.heap.size w w' := by
  have h : op % 3 = 0 ∨ op % 3 = 1 ∨ op % 3 = 2 := by omega
  rcases h with h | h | h
  · exact cpuJumpsA a op n _ h rfl ha w
  · by_cases q : a = 0
    · exact cpuJumpsB a op n _ h rfl q ha w
    · exact cpuJumpsC a op n _ h rfl q ha w
  · by_cases q : a < 0
    · exact cpuJumpsD a op n _ h rfl q ha w
    · exact cpuJumpsE a op n _ h rfl q ha w
end Go.Proofs.Ytinibccphecdfab
