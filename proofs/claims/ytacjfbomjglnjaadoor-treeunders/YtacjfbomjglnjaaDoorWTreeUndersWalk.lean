/-
  P1102: in a tree each node but the root lies under one directory, and is told there once; names rise: the law's walk. Written by mk_tunders.py.
-/
import Derived.Test.YtacjfbomjglnjaaDoorPt6
namespace Go.Proofs.YtacjfbomjglnjaaDoor
open Go.RowKit
set_option maxRecDepth 8000
set_option linter.unusedSimpArgs false
set_option linter.unusedVariables false

theorem str_load (w : World) (y : Addr) (v : Value) (h : w.cell? y = some v) : (Instr.loadAt 9 (.pointer (some y))).run Tryd.prog w = .ok v w := by
  have h1 := Tryd.underlying9
  go_simp
theorem set_all (f : PN) : setM ndz.toList 0 f.cs = f.cs := rfl
def sumU (L : List Nod) (i : Nat) : Nat := sumL ((L.take i).map fun x => (underN L x.path).length)
theorem sumL_append : ∀ (a b : List Nat), sumL (a ++ b) = sumL a + sumL b
  | [], b => by simp [sumL]
  | x :: r, b => by rw [List.cons_append, sumL, sumL, sumL_append r b]; omega
theorem sumU_succ {L : List Nod} {i : Nat} {x : Nod} (h : L[i]? = some x) : sumU L (i + 1) = sumU L i + (underN L x.path).length := by
  unfold sumU
  rw [List.take_add_one, h, List.map_append, sumL_append]
  simp [sumL]
theorem sum_mono : ∀ (l : List Nod) (i : Nat) (g : Nod → Nat), sumL ((l.take i).map g) ≤ sumL (l.map g)
  | [], i, g => by simp
  | x :: r, 0, g => by simp [sumL]
  | x :: r, i + 1, g => by
    have := sum_mono r i g
    simp only [List.take_succ_cons, List.map_cons, sumL]
    omega
set_option maxRecDepth 20000 in
set_option maxHeartbeats 8000000 in
theorem treeUnders_walk (ta : Option Addr) (ct : Nat) (ts : List Lab) (ma : Option Addr) (mc : Nat) (ms : List PM) (w : World) (hlr : RowAt 4 lrow w ta ts) (hmr : RowM w ma ms) :
    Calls Tryd.prog 7 #[.slice ta ts.length ct, .slice ma ms.length mc] w fun e w' => e = .returned (.bool true) ∧ Below w.heap.size w w' := by
  have hszN : (Tryd.prog.info? 32).map (·.size) = some 16 := by kernel_rfl
  have kg := fun W (q1 : RowAt 4 lrow W ta ts) (q2 : RowM W ma ms) => growT_any ta ct ts ma mc ms W q1 q2
  obtain ⟨nt, hnt⟩ : ∃ nt, ts.length = nt := ⟨_, rfl⟩
  obtain ⟨nm, hnm⟩ : ∃ nm, ms.length = nm := ⟨_, rfl⟩
  rw [hnt, hnm] at kg ⊢
  clear hnt hnm
  go_enter Tryd.func7, Tryd.ntmps7
  go_wp2_with fail
  refine (tknown_any w).mono ?_
  rintro e W1 ⟨rfl, hB1⟩
  go_wp2_with fail
  refine (kg W1 (hlr.below lab_ok.len hB1) (hmr.below hB1)).mono ?_
  rintro e W2 ⟨v, l, rfl, ho, hat, hnm, hB2⟩
  obtain ⟨a, c, rfl, hg2⟩ := grown_of ho hat hnm
  have hB02 := Below.then hB1 hB2
  have hT := hg2.tree
  have hF := hg2.fine
  have hO : OrdP l := ordP.1 hT.ord
  have kf := fun W p (q : RowN W a l) => tfind_any a c l p (by have := hg2.len; omega) hO hF.few W q
  have ku := fun W p (q : RowN W a l) => tunder_any a c l p (by have := hg2.len; omega) hF.slashed W q
  have hlen := hg2.len
  have hcnt := hT.count
  have hnl : (namesP l).length = l.length := by simp [namesP]
  rw [hnl] at hcnt
  have hsum : ∀ i, sumU (namesP l) i + 1 ≤ l.length := fun i => by
    have := sum_mono (namesP l) i (fun x => (underN (namesP l) x.path).length)
    unfold sumU
    omega
  have hend : sumU (namesP l) l.length + 1 = l.length := by
    unfold sumU
    rw [List.take_of_length_le (by omega)]
    exact hcnt
  obtain ⟨n, hn⟩ : ∃ n, l.length = n := ⟨_, rfl⟩
  rw [hn] at kf ku hlen hsum hend ⊢
  replace hn : Aside (l.length = n) := hn
  replace hend : Aside _ := hend
  clear kg ho hat hnm hB2 hlr hmr hcnt hnl
  go_wp2_with fail
  go_loopw [6, 7] (fun t6 t7 wr => ∃ i : Nat, i ≤ n ∧ t7 = .int .i64 (i : Int) ∧ t6 = .int .i64 ((sumU (namesP l) i + 1 : Nat) : Int) ∧ Grown wr a c l ∧ Below w.heap.size w wr) (fun _ t7 _ => n - (Go.RowKit.intOf t7).toNat)
  case atStart => exact ⟨0, by omega, rfl, rfl, hg2, hB02⟩
  case round =>
    clear hg2 hB02
    obtain ⟨i, hi, rfl, rfl, hg, hB⟩ := hrel
    by_cases hlt : i < n
    · obtain ⟨x, hx⟩ : ∃ x, l[i]? = some x := ⟨_, List.getElem?_eq_getElem (by rw [hn.out]; exact hlt)⟩
      have hxm := List.mem_of_getElem? hx
      have hxn : x.n ∈ namesP l := List.mem_map.2 ⟨x, hxm, rfl⟩
      obtain ⟨ya, rfl⟩ := hg.row.some_ hx
      have hc := hg.row.path hx
      have hps := (hF.slashed x hxm).2
      have hss := sumU_succ (names_at hx)
      have hsi := hsum (i + 1)
      have kux := ku wr x.n.path hg.row
      rw [under_names] at kux
      have htold := fun u (q : u ∈ underN (namesP l) x.n.path) => hT.told q
      have hrise := hT.rise x.n.path
      have hseg := fun (q : x.n.dir = false) => hT.seg hxn q
      have husz : ∀ u ∈ underN (namesP l) x.n.path, u.size ≤ 12 := fun u hu => by
        obtain ⟨y, hy, h1, h2, h3⟩ := under_mem.1 hu
        obtain ⟨ns, hnn, hp⟩ := hT.names hy
        rw [hp] at h1 h3
        obtain ⟨m2, n2, rfl, e1, e2, hm2, hn2⟩ := names_split hnn h1
        rw [← h3, e2]
        exact (name_size hn2).2
      obtain ⟨U, hU⟩ : ∃ U, underN (namesP l) x.n.path = U := ⟨_, rfl⟩
      rw [hU] at hss kux htold hrise hseg husz
      rw [hss] at hsi
      obtain ⟨s0, hs0⟩ : ∃ s0, sumU (namesP l) i = s0 := ⟨_, rfl⟩
      rw [hs0] at hss hsi ⊢
      replace hss : Aside _ := hss
      clear hU hs0
      go_wp2_with fail
      refine kux.mono ?_
      rintro e W4 ⟨vu, rfl, hou, hB4⟩
      obtain ⟨ua0, uc, rfl, -, -, hur⟩ := OwnR.slice str_ok.len hou
      have hg4 := hg.below hB4
      have hB04 := Below.then hB hB4
      have hd1 : W4.cell? ⟨(ya.add (i * 16)).block, (ya.add (i * 16)).off + 1, none⟩ = some (.bool x.n.dir) := pn_dir (hg4.row.r.at pn_len hx)
      obtain ⟨m, hm⟩ : ∃ m, U.length = m := ⟨_, rfl⟩
      rw [hm] at hss hsi ⊢
      clear kux hou hg hB hc
      replace hm : Aside (U.length = m) := hm
      have hdir : 0 < m → x.n.dir = true := fun q => by
        cases hd : x.n.dir
        · have := hseg hd
          rw [this] at hm
          have := hm.out
          simp at this
          omega
        · rfl
      rcases Nat.eq_zero_or_pos m with hm0 | hm0
      · subst hm0
        clear hdir htold hrise hseg husz hur
        go_wp2_with fail
        go_loopw [6, 9] (fun t6 t9 wq => t9 = .int .i64 0 ∧ t6 = .int .i64 ((s0 + 1 : Nat) : Int) ∧ Grown wq (some ya) c l ∧ Below w.heap.size w wq) (fun _ _ _ => 0)
        case atStart => exact ⟨rfl, rfl, hg4, hB04⟩
        case round =>
          clear hg4 hB04 hd1
          obtain ⟨rfl, rfl, hg, hB⟩ := hrel
          go_wp2_with fail
          exact ⟨⟨i + 1, by omega, by simp, by rw [hss.out], hg, hB⟩, by simp [Go.RowKit.intOf]; omega⟩
      · have hdt := hdir hm0
        rw [hdt] at hd1
        have hm1 : (0 : Int) < (m : Int) := by omega
        obtain ⟨u0, hu0⟩ : ∃ u0, U[0]? = some u0 := ⟨_, List.getElem?_eq_getElem (by rw [hm.out]; exact hm0)⟩
        obtain ⟨ua, rfl, -⟩ := hur 0 u0 hu0
        have hck0 : ∀ j u, U[j]? = some u → W4.cell? (ua.add j) = some (.string u) := fun j u hu => by
          obtain ⟨y', hy', hc'⟩ := hur j u hu
          obtain rfl := Option.some.inj hy'
          simpa [scell] using hc' 0 (by decide)
        clear hdir hseg hur hu0
        go_wp2_with fail
        go_loopw [6, 9] (fun t6 t9 wq => ∃ k : Nat, k ≤ m ∧ t9 = .int .i64 (k : Int) ∧ t6 = .int .i64 ((s0 + 1 + k : Nat) : Int) ∧ Below W4.heap.size W4 wq) (fun _ t9 _ => m - (Go.RowKit.intOf t9).toNat)
        case atStart => exact ⟨0, by omega, rfl, rfl, Below.refl _ _⟩
        case round =>
          clear hd1
          obtain ⟨k, hk, rfl, rfl, hBq⟩ := hrel
          obtain ⟨Z, hZ⟩ : ∃ Z, wr = Z := ⟨_, rfl⟩
          rw [hZ] at hBq ⊢
          clear hZ
          have hg := hg4.below hBq
          by_cases hlk : k < m
          · obtain ⟨uk, huk⟩ : ∃ uk, U[k]? = some uk := ⟨_, List.getElem?_eq_getElem (by rw [hm.out]; exact hlk)⟩
            have hukm := List.mem_of_getElem? huk
            have hck : Z.cell? (ua.add k) = some (.string uk) := (hBq.cell (World.block_lt_of_cell? _ _ (hck0 k uk huk))).trans (hck0 k uk huk)
            have huks := husz uk hukm
            obtain ⟨yn, hyn, hyf, hyp⟩ := htold uk hukm
            obtain ⟨jp, hjp⟩ : ∃ jp, joinOf x.n.path uk = jp := ⟨_, rfl⟩
            rw [hjp] at hyf
            rw [find_names] at hyf
            obtain ⟨yy, hyy, hyyn⟩ : ∃ yy, findP l jp = some yy ∧ yy.n = yn := by
              cases hq : findP l jp with
              | none => rw [hq] at hyf; cases hyf
              | some z => rw [hq] at hyf; exact ⟨z, rfl, Option.some.inj hyf⟩
            have hyps : yy.n.path.size ≤ 100000 := by
              obtain ⟨z, hz, hzn⟩ := mem_names hyn
              rw [hyyn, ← hzn]
              exact (hF.slashed z hz).2
            have hyp2 : parentOf yy.n.path = x.n.path := by rw [hyyn]; exact hyp
            have hJ : Aside (joinOf x.n.path uk = jp) := hjp
            have hfd : Aside (findP l jp = some yy) := hyy
            have hS0 : Below Z.heap.size Z Z.drew := (Below.refl _ _).drew
            have i1 : (k : Int) < (m : Int) := by omega
            clear hjp hyy hyf hyn hyp hyyn
            go_upto_region 14 with fail
            go_cut [10, 11] from 41 to 92 (fun s10 s11 wq => ∃ (bn : Nat) (f : PN), s10 = .pointer (some ⟨bn, 0, none⟩) ∧ s11 = .bool true ∧ Below Z.heap.size Z wq ∧ BlkL bn f.cs wq ∧ f.n = yy.n)
            case first =>
              refine wp_region_held_drew (S := (fun W => Below Z.heap.size Z W)) (by kernel_rfl) (by exact hS0) ?_
              intro hHeld
              generalize Z.drew = w0 at *
              refine wpAnyH_take (i := 0) (v := ?_) (by simp only [gA, gB, gC]; rfl) (by kernel_rfl) (by kernel_rfl) (by kernel_rfl) (by exact fun _ _ _ h => h) (Or.inl ⟨by rfl, ?_⟩) (by assumption) ?_; rotate_left; (focus (intro w hSw; (try dsimp only at hSw); go_simp; try with_reducible rfl)); (try simp only [Act.put, sA, sB, sC])
              refine wpAnyH_take (i := 1) (v := ?_) (by simp only [gA, gB, gC]; rfl) (by kernel_rfl) (by kernel_rfl) (by kernel_rfl) (by exact fun _ _ _ h => h) (Or.inl ⟨by rfl, ?_⟩) (by assumption) ?_; rotate_left; (focus (intro w hSw; (try dsimp only at hSw); go_simp; try with_reducible rfl)); (try simp only [Act.put, sA, sB, sC])
              refine wpAnyH_take (i := 2) (v := ?_) (by simp only [gA, gB, gC]; rfl) (by kernel_rfl) (by kernel_rfl) (by kernel_rfl) (by exact fun _ _ _ h => h) (Or.inl ⟨by rfl, ?_⟩) (by assumption) ?_; rotate_left; (focus (intro w hSw; (try dsimp only at hSw); go_simp; try with_reducible rfl)); (try simp only [Act.put, sA, sB, sC])
              refine wpAnyH_take (i := 3) (v := ?_) (by simp only [gA, gB, gC]; rfl) (by kernel_rfl) (by kernel_rfl) (by kernel_rfl) (by exact fun _ _ _ h => h) (Or.inl ⟨by rfl, ?_⟩) (by assumption) ?_; rotate_left; (focus (intro w hSw; (try dsimp only at hSw); go_simp; try with_reducible rfl)); (try simp only [Act.put, sA, sB, sC])
              refine wpAnyH_take (i := 4) (v := ?_) (by simp only [gA, gB, gC]; rfl) (by kernel_rfl) (by kernel_rfl) (by kernel_rfl) (by exact fun _ _ _ h => h) (Or.inl ⟨by rfl, ?_⟩) (by assumption) ?_; rotate_left; (focus (intro w hSw; (try dsimp only at hSw); go_simp; try with_reducible rfl)); (try simp only [Act.put, sA, sB, sC])
              refine wpAnyH_take (i := 5) (v := _) (by simp only [gA, gB, gC]; rfl) (by kernel_rfl) (by kernel_rfl) (by kernel_rfl) (by exact fun _ _ _ h => h) (yields_one (by rfl) _ rfl (ya.add (i * 16)) rfl (.string x.n.path) (fun _ q => (hg.below q).row.path hx) str_load) (by assumption) ?_; (try simp only [Act.put, sA, sB, sC])
              refine wpAnyH_take (i := 6) (v := ?_) (by simp only [gA, gB, gC]; rfl) (by kernel_rfl) (by kernel_rfl) (by kernel_rfl) (by exact fun _ _ _ h => h) (Or.inl ⟨by rfl, ?_⟩) (by assumption) ?_; rotate_left; (focus (intro w hSw; (try dsimp only at hSw); go_simp; try with_reducible rfl)); (try simp only [Act.put, sA, sB, sC])
              refine wpAnyH_take (i := 7) (v := ?_) (by simp only [gA, gB, gC]; rfl) (by kernel_rfl) (by kernel_rfl) (by kernel_rfl) (by exact fun _ _ _ h => h) (Or.inl ⟨by rfl, ?_⟩) (by assumption) ?_; rotate_left; (focus (intro w hSw; (try dsimp only at hSw); go_simp; try with_reducible rfl)); (try simp only [Act.put, sA, sB, sC])
              refine wpAnyH_take (i := 8) (v := ?_) (by simp only [gA, gB, gC]; rfl) (by kernel_rfl) (by kernel_rfl) (by kernel_rfl) (by exact fun _ _ _ h => h) (Or.inl ⟨by rfl, ?_⟩) (by assumption) ?_; rotate_left; (focus (intro w hSw; (try dsimp only at hSw); go_simp; try with_reducible rfl)); (try simp only [Act.put, sA, sB, sC])
              refine wpAnyH_take (i := 9) (v := _) (by simp only [gA, gB, gC]; rfl) (by kernel_rfl) (by kernel_rfl) (by kernel_rfl) (by exact fun _ _ _ h => h) (yields_one (by rfl) _ rfl (ua.add k) rfl (.string uk) (fun _ q => (q.cell (World.block_lt_of_cell? _ _ hck)).trans hck) str_load) (by assumption) ?_; (try simp only [Act.put, sA, sB, sC])
              refine wpAnyH_ready (rs := [10, 15]) (by kernel_rfl) (by simp) ?_
              refine AllReadyH.cons (by simp only [gA, gB, gC]; rfl) (fun K hK => ?_) ?_
              · go_simp
                go_at_call 30
                refine (rjoin_any x.n.path uk (by omega) (by omega) _).mono ?_
                rintro e w1 ⟨rfl, hww⟩
                have hbb : Below w0.heap.size w0 w1 := by rw [hww]; exact Below.refl _ _
                have hS1 := Below.then hS0 hbb
                rw [hJ.out]
                clear hbb hww
                refine hK.out _ _ (hS1) ?_
                clear hHeld hK
                intro hHeld
                (try simp only [Act.put, sA, sB, sC])
                refine wpAnyH_ready (rs := [11, 15]) (by kernel_rfl) (by simp) ?_
                refine AllReadyH.cons (by simp only [gA, gB, gC]; rfl) (fun K hK => ?_) ?_
                · go_simp
                  go_at_call 22
                  refine (kf _ _ (hg.below hS1).row).mono ?_
                  rintro e w2 ⟨f, rfl, hfn, hfa, hbb⟩
                  have hS2 := Below.then hS1 hbb
                  rw [hfd.out]
                  clear hbb
                  refine hK.out _ _ (hS2) ?_
                  clear hHeld hK
                  intro hHeld
                  replace hfn : f.n = yy.n := by rw [hfn, hfd.out]; rfl
                  (try simp only [Option.isSome_some])
                  (try simp only [Act.put, sA, sB, sC])
                  refine wpAnyH_take (i := 12) (v := ?_) (by simp only [gA, gB, gC]; rfl) (by kernel_rfl) (by kernel_rfl) (by kernel_rfl) (by exact fun _ _ _ h => h) (Or.inl ⟨by rfl, ?_⟩) (by assumption) ?_; rotate_left; (focus (intro w hSw; (try dsimp only at hSw); go_simp; try with_reducible rfl)); (try simp only [Act.put, sA, sB, sC])
                  refine wpAnyH_take (i := 13) (v := ?_) (by simp only [gA, gB, gC]; rfl) (by kernel_rfl) (by kernel_rfl) (by kernel_rfl) (by exact fun _ _ _ h => h) (Or.inl ⟨by rfl, ?_⟩) (by assumption) ?_; rotate_left; (focus (intro w hSw; (try dsimp only at hSw); go_simp; try with_reducible rfl)); (try simp only [Act.put, sA, sB, sC])
                  refine wpAnyH_take (i := 14) (v := ?_) (by simp only [gA, gB, gC]; rfl) (by kernel_rfl) (by kernel_rfl) (by kernel_rfl) (by exact fun _ _ _ h => h) (Or.inl ⟨by rfl, ?_⟩) (by assumption) ?_; rotate_left; (focus (intro w hSw; (try dsimp only at hSw); go_simp; try with_reducible rfl)); (try simp only [Act.put, sA, sB, sC])
                  refine wpAnyH_ready (rs := [15]) (by kernel_rfl) (by simp) ?_
                  refine AllReadyH.cons (by simp only [gA, gB, gC]; rfl) (fun K hK => ?_) AllReadyH.nil
                  go_simp
                  refine hK.out _ _ (Below.then hS2 (alloc_below _ _)) ?_
                  clear hHeld hK
                  intro hHeld
                  have hb3 := blkl_alloc w2 ndz 32
                  have hS3 := Below.then hS2 (alloc_below w2 (.cells ndz 32))
                  have hbn : Z.heap.size ≤ w2.heap.size := hS2.size
                  generalize hwx : w2.alloc (.cells ndz 32) = w3 at *
                  clear hwx
                  generalize w2.heap.size = bn at *
                  (try simp only [Act.put, sA, sB, sC])
                  refine wpAnyH_ready (rs := [16]) (by kernel_rfl) (by simp) ?_
                  refine AllReadyH.cons (by simp only [gA, gB, gC]; rfl) (fun K hK => ?_) AllReadyH.nil
                  obtain ⟨wz, hwz, hth, hbz, hBz⟩ := put_mid hb3 0 f.cs (by rw [pn_len]; decide) (by decide) hS3 hbn
                  rw [set_all f] at hbz
                  refine step_store_part rfl _ _ rfl bn 0 rfl f.cs rfl hth hszN (pn_one f) hwz ?_
                  (try simp only [Act.put, sA, sB, sC])
                  refine hK.out _ _ (hBz) ?_
                  clear hHeld hK
                  intro hHeld
                  (try simp only [Act.put, sA, sB, sC])
                  refine wpAnyH_take (i := 17) (v := ?_) (by simp only [gA, gB, gC]; rfl) (by kernel_rfl) (by kernel_rfl) (by kernel_rfl) (by exact fun _ _ _ h => h) (Or.inl ⟨by rfl, ?_⟩) (by assumption) ?_; rotate_left; (focus (intro w hSw; (try dsimp only at hSw); go_simp; try with_reducible rfl)); (try simp only [Act.put, sA, sB, sC])
                  refine wpAnyH_done (by kernel_rfl) ?_ _
                  go_wp2_with fail
                  go_meet
                  exact ⟨_, f, rfl, rfl, hBz, hbz, hfn⟩
                refine AllReadyH.cons (by simp only [gA, gB, gC]; rfl) (fun K hK => ?_) AllReadyH.nil
                go_simp
                refine hK.out _ _ (Below.then hS1 (alloc_below _ _)) ?_
                clear hHeld hK
                intro hHeld
                have hb2 := blkl_alloc w1 ndz 32
                have hS2 := Below.then hS1 (alloc_below w1 (.cells ndz 32))
                have hbn : Z.heap.size ≤ w1.heap.size := hS1.size
                generalize hwx : w1.alloc (.cells ndz 32) = w2 at *
                clear hwx
                generalize w1.heap.size = bn at *
                (try simp only [Act.put, sA, sB, sC])
                refine wpAnyH_ready (rs := [11]) (by kernel_rfl) (by simp) ?_
                refine AllReadyH.cons (by simp only [gA, gB, gC]; rfl) (fun K hK => ?_) AllReadyH.nil
                go_simp
                go_at_call 22
                refine (kf _ _ (hg.below hS2).row).mono ?_
                rintro e w3 ⟨f, rfl, hfn, hfa, hbb⟩
                have hS3 := Below.then hS2 hbb
                have hb3 := stab_blk _ _ _ _ hb2 hbb
                rw [hfd.out]
                clear hbb
                refine hK.out _ _ (hS3) ?_
                clear hHeld hK
                intro hHeld
                replace hfn : f.n = yy.n := by rw [hfn, hfd.out]; rfl
                (try simp only [Option.isSome_some])
                (try simp only [Act.put, sA, sB, sC])
                refine wpAnyH_take (i := 12) (v := ?_) (by simp only [gA, gB, gC]; rfl) (by kernel_rfl) (by kernel_rfl) (by kernel_rfl) (by exact fun _ _ _ h => h) (Or.inl ⟨by rfl, ?_⟩) (by assumption) ?_; rotate_left; (focus (intro w hSw; (try dsimp only at hSw); go_simp; try with_reducible rfl)); (try simp only [Act.put, sA, sB, sC])
                refine wpAnyH_take (i := 13) (v := ?_) (by simp only [gA, gB, gC]; rfl) (by kernel_rfl) (by kernel_rfl) (by kernel_rfl) (by exact fun _ _ _ h => h) (Or.inl ⟨by rfl, ?_⟩) (by assumption) ?_; rotate_left; (focus (intro w hSw; (try dsimp only at hSw); go_simp; try with_reducible rfl)); (try simp only [Act.put, sA, sB, sC])
                refine wpAnyH_take (i := 14) (v := ?_) (by simp only [gA, gB, gC]; rfl) (by kernel_rfl) (by kernel_rfl) (by kernel_rfl) (by exact fun _ _ _ h => h) (Or.inl ⟨by rfl, ?_⟩) (by assumption) ?_; rotate_left; (focus (intro w hSw; (try dsimp only at hSw); go_simp; try with_reducible rfl)); (try simp only [Act.put, sA, sB, sC])
                refine wpAnyH_ready (rs := [16]) (by kernel_rfl) (by simp) ?_
                refine AllReadyH.cons (by simp only [gA, gB, gC]; rfl) (fun K hK => ?_) AllReadyH.nil
                obtain ⟨wz, hwz, hth, hbz, hBz⟩ := put_mid hb3 0 f.cs (by rw [pn_len]; decide) (by decide) hS3 hbn
                rw [set_all f] at hbz
                refine step_store_part rfl _ _ rfl bn 0 rfl f.cs rfl hth hszN (pn_one f) hwz ?_
                (try simp only [Act.put, sA, sB, sC])
                refine hK.out _ _ (hBz) ?_
                clear hHeld hK
                intro hHeld
                (try simp only [Act.put, sA, sB, sC])
                refine wpAnyH_take (i := 17) (v := ?_) (by simp only [gA, gB, gC]; rfl) (by kernel_rfl) (by kernel_rfl) (by kernel_rfl) (by exact fun _ _ _ h => h) (Or.inl ⟨by rfl, ?_⟩) (by assumption) ?_; rotate_left; (focus (intro w hSw; (try dsimp only at hSw); go_simp; try with_reducible rfl)); (try simp only [Act.put, sA, sB, sC])
                refine wpAnyH_done (by kernel_rfl) ?_ _
                go_wp2_with fail
                go_meet
                exact ⟨_, f, rfl, rfl, hBz, hbz, hfn⟩
              refine AllReadyH.cons (by simp only [gA, gB, gC]; rfl) (fun K hK => ?_) AllReadyH.nil
              go_simp
              refine hK.out _ _ (Below.then hS0 (alloc_below _ _)) ?_
              clear hHeld hK
              intro hHeld
              have hb1 := blkl_alloc w0 ndz 32
              have hS1 := Below.then hS0 (alloc_below w0 (.cells ndz 32))
              have hbn : Z.heap.size ≤ w0.heap.size := hS0.size
              generalize hwx : w0.alloc (.cells ndz 32) = w1 at *
              clear hwx
              generalize w0.heap.size = bn at *
              (try simp only [Act.put, sA, sB, sC])
              refine wpAnyH_ready (rs := [10]) (by kernel_rfl) (by simp) ?_
              refine AllReadyH.cons (by simp only [gA, gB, gC]; rfl) (fun K hK => ?_) AllReadyH.nil
              go_simp
              go_at_call 30
              refine (rjoin_any x.n.path uk (by omega) (by omega) _).mono ?_
              rintro e w2 ⟨rfl, hww⟩
              have hbb : Below w1.heap.size w1 w2 := by rw [hww]; exact Below.refl _ _
              have hS2 := Below.then hS1 hbb
              have hb2 := stab_blk _ _ _ _ hb1 hbb
              rw [hJ.out]
              clear hbb hww
              refine hK.out _ _ (hS2) ?_
              clear hHeld hK
              intro hHeld
              (try simp only [Act.put, sA, sB, sC])
              refine wpAnyH_ready (rs := [11]) (by kernel_rfl) (by simp) ?_
              refine AllReadyH.cons (by simp only [gA, gB, gC]; rfl) (fun K hK => ?_) AllReadyH.nil
              go_simp
              go_at_call 22
              refine (kf _ _ (hg.below hS2).row).mono ?_
              rintro e w3 ⟨f, rfl, hfn, hfa, hbb⟩
              have hS3 := Below.then hS2 hbb
              have hb3 := stab_blk _ _ _ _ hb2 hbb
              rw [hfd.out]
              clear hbb
              refine hK.out _ _ (hS3) ?_
              clear hHeld hK
              intro hHeld
              replace hfn : f.n = yy.n := by rw [hfn, hfd.out]; rfl
              (try simp only [Option.isSome_some])
              (try simp only [Act.put, sA, sB, sC])
              refine wpAnyH_take (i := 12) (v := ?_) (by simp only [gA, gB, gC]; rfl) (by kernel_rfl) (by kernel_rfl) (by kernel_rfl) (by exact fun _ _ _ h => h) (Or.inl ⟨by rfl, ?_⟩) (by assumption) ?_; rotate_left; (focus (intro w hSw; (try dsimp only at hSw); go_simp; try with_reducible rfl)); (try simp only [Act.put, sA, sB, sC])
              refine wpAnyH_take (i := 13) (v := ?_) (by simp only [gA, gB, gC]; rfl) (by kernel_rfl) (by kernel_rfl) (by kernel_rfl) (by exact fun _ _ _ h => h) (Or.inl ⟨by rfl, ?_⟩) (by assumption) ?_; rotate_left; (focus (intro w hSw; (try dsimp only at hSw); go_simp; try with_reducible rfl)); (try simp only [Act.put, sA, sB, sC])
              refine wpAnyH_take (i := 14) (v := ?_) (by simp only [gA, gB, gC]; rfl) (by kernel_rfl) (by kernel_rfl) (by kernel_rfl) (by exact fun _ _ _ h => h) (Or.inl ⟨by rfl, ?_⟩) (by assumption) ?_; rotate_left; (focus (intro w hSw; (try dsimp only at hSw); go_simp; try with_reducible rfl)); (try simp only [Act.put, sA, sB, sC])
              refine wpAnyH_ready (rs := [16]) (by kernel_rfl) (by simp) ?_
              refine AllReadyH.cons (by simp only [gA, gB, gC]; rfl) (fun K hK => ?_) AllReadyH.nil
              obtain ⟨wz, hwz, hth, hbz, hBz⟩ := put_mid hb3 0 f.cs (by rw [pn_len]; decide) (by decide) hS3 hbn
              rw [set_all f] at hbz
              refine step_store_part rfl _ _ rfl bn 0 rfl f.cs rfl hth hszN (pn_one f) hwz ?_
              (try simp only [Act.put, sA, sB, sC])
              refine hK.out _ _ (hBz) ?_
              clear hHeld hK
              intro hHeld
              (try simp only [Act.put, sA, sB, sC])
              refine wpAnyH_take (i := 17) (v := ?_) (by simp only [gA, gB, gC]; rfl) (by kernel_rfl) (by kernel_rfl) (by kernel_rfl) (by exact fun _ _ _ h => h) (Or.inl ⟨by rfl, ?_⟩) (by assumption) ?_; rotate_left; (focus (intro w hSw; (try dsimp only at hSw); go_simp; try with_reducible rfl)); (try simp only [Act.put, sA, sB, sC])
              refine wpAnyH_done (by kernel_rfl) ?_ _
              go_wp2_with fail
              go_meet
              exact ⟨_, f, rfl, rfl, hBz, hbz, hfn⟩
            case rest =>
              obtain ⟨bn, f, rfl, rfl, hBz, hbz, hfn⟩ := hcut
              have hgz := hg.below hBz
              have hb0 := (hbz.1 0 _ rfl).1
              rw [hfn] at hb0
              replace hb0 : wc.cell? ⟨bn, 0, none⟩ = some (.string yy.n.path) := hb0
              have kp := rparent_any yy.n.path (by omega) wc.drew
              rw [hyp2] at kp
              have hS : (fun W => W.cell? ⟨bn, 0, none⟩ = some (.string yy.n.path) ∧ Below Z.heap.size Z W) wc.drew := ⟨hb0, hBz.drew⟩
              have hz0 : decide ((0 : Int) < ((0 : Nat) : Int)) = false := by decide
              rcases Nat.eq_zero_or_pos k with hk0 | hk0
              · subst hk0
                go_wp2_with fail
                refine wp_region_held_drew (S := (fun W => W.cell? ⟨bn, 0, none⟩ = some (.string yy.n.path) ∧ Below Z.heap.size Z W)) (by kernel_rfl) (by exact hS) ?_
                intro hHeld
                (first | (refine wpAnyH_take (i := 0) (v := ?_) (by simp only [gA, gB, gC]; rfl) (by kernel_rfl) (by kernel_rfl) (by kernel_rfl) (by exact fun _ _ _ h => h) (Or.inl ⟨by rfl, ?_⟩) (by assumption) ?_; rotate_left; (focus (intro w hSw; (try dsimp only at hSw); go_simp; try with_reducible rfl))) | (refine wpAnyH_take (i := 0) (v := undef) (by simp only [gA, gB, gC]; rfl) (by kernel_rfl) (by kernel_rfl) (by kernel_rfl) (by exact fun _ _ _ h => h) (Or.inr ⟨by rfl, rfl⟩) (by assumption) ?_) | fail); simp only [Act.put, sA, sB, sC, Bool.not_true, Bool.not_false, beq_self_eq_true, hz0]
                (first | (refine wpAnyH_take (i := 1) (v := ?_) (by simp only [gA, gB, gC]; rfl) (by kernel_rfl) (by kernel_rfl) (by kernel_rfl) (by exact fun _ _ _ h => h) (Or.inl ⟨by rfl, ?_⟩) (by assumption) ?_; rotate_left; (focus (intro w hSw; (try dsimp only at hSw); go_simp; try with_reducible rfl))) | (refine wpAnyH_take (i := 1) (v := undef) (by simp only [gA, gB, gC]; rfl) (by kernel_rfl) (by kernel_rfl) (by kernel_rfl) (by exact fun _ _ _ h => h) (Or.inr ⟨by rfl, rfl⟩) (by assumption) ?_) | fail); simp only [Act.put, sA, sB, sC, Bool.not_true, Bool.not_false, beq_self_eq_true, hz0]
                (first | (refine wpAnyH_take (i := 2) (v := ?_) (by simp only [gA, gB, gC]; rfl) (by kernel_rfl) (by kernel_rfl) (by kernel_rfl) (by exact fun _ _ _ h => h) (Or.inl ⟨by rfl, ?_⟩) (by assumption) ?_; rotate_left; (focus (intro w hSw; (try dsimp only at hSw); go_simp; try with_reducible rfl))) | (refine wpAnyH_take (i := 2) (v := undef) (by simp only [gA, gB, gC]; rfl) (by kernel_rfl) (by kernel_rfl) (by kernel_rfl) (by exact fun _ _ _ h => h) (Or.inr ⟨by rfl, rfl⟩) (by assumption) ?_) | fail); simp only [Act.put, sA, sB, sC, Bool.not_true, Bool.not_false, beq_self_eq_true, hz0]
                (first | (refine wpAnyH_take (i := 3) (v := ?_) (by simp only [gA, gB, gC]; rfl) (by kernel_rfl) (by kernel_rfl) (by kernel_rfl) (by exact fun _ _ _ h => h) (Or.inl ⟨by rfl, ?_⟩) (by assumption) ?_; rotate_left; (focus (intro w hSw; (try dsimp only at hSw); go_simp; try with_reducible rfl))) | (refine wpAnyH_take (i := 3) (v := undef) (by simp only [gA, gB, gC]; rfl) (by kernel_rfl) (by kernel_rfl) (by kernel_rfl) (by exact fun _ _ _ h => h) (Or.inr ⟨by rfl, rfl⟩) (by assumption) ?_) | fail); simp only [Act.put, sA, sB, sC, Bool.not_true, Bool.not_false, beq_self_eq_true, hz0]
                (first | (refine wpAnyH_take (i := 4) (v := _) (by simp only [gA, gB, gC]; rfl) (by kernel_rfl) (by kernel_rfl) (by kernel_rfl) (by exact fun _ _ _ h => h) (yields_one (by rfl) _ rfl ⟨bn, 0, none⟩ rfl (.string yy.n.path) (fun _ q => q.1) str_load) (by assumption) ?_) | (refine wpAnyH_take (i := 4) (v := undef) (by simp only [gA, gB, gC]; rfl) (by kernel_rfl) (by kernel_rfl) (by kernel_rfl) (by exact fun _ _ _ h => h) (Or.inr ⟨by rfl, rfl⟩) (by assumption) ?_) | fail); simp only [Act.put, sA, sB, sC, Bool.not_true, Bool.not_false, beq_self_eq_true, hz0]
                (first | (refine wpAnyH_take (i := 6) (v := ?_) (by simp only [gA, gB, gC]; rfl) (by kernel_rfl) (by kernel_rfl) (by kernel_rfl) (by exact fun _ _ _ h => h) (Or.inl ⟨by rfl, ?_⟩) (by assumption) ?_; rotate_left; (focus (intro w hSw; (try dsimp only at hSw); go_simp; try with_reducible rfl))) | (refine wpAnyH_take (i := 6) (v := undef) (by simp only [gA, gB, gC]; rfl) (by kernel_rfl) (by kernel_rfl) (by kernel_rfl) (by exact fun _ _ _ h => h) (Or.inr ⟨by rfl, rfl⟩) (by assumption) ?_) | fail); simp only [Act.put, sA, sB, sC, Bool.not_true, Bool.not_false, beq_self_eq_true, hz0]
                (first | (refine wpAnyH_take (i := 7) (v := ?_) (by simp only [gA, gB, gC]; rfl) (by kernel_rfl) (by kernel_rfl) (by kernel_rfl) (by exact fun _ _ _ h => h) (Or.inl ⟨by rfl, ?_⟩) (by assumption) ?_; rotate_left; (focus (intro w hSw; (try dsimp only at hSw); go_simp; try with_reducible rfl))) | (refine wpAnyH_take (i := 7) (v := undef) (by simp only [gA, gB, gC]; rfl) (by kernel_rfl) (by kernel_rfl) (by kernel_rfl) (by exact fun _ _ _ h => h) (Or.inr ⟨by rfl, rfl⟩) (by assumption) ?_) | fail); simp only [Act.put, sA, sB, sC, Bool.not_true, Bool.not_false, beq_self_eq_true, hz0]
                (first | (refine wpAnyH_take (i := 8) (v := ?_) (by simp only [gA, gB, gC]; rfl) (by kernel_rfl) (by kernel_rfl) (by kernel_rfl) (by exact fun _ _ _ h => h) (Or.inl ⟨by rfl, ?_⟩) (by assumption) ?_; rotate_left; (focus (intro w hSw; (try dsimp only at hSw); go_simp; try with_reducible rfl))) | (refine wpAnyH_take (i := 8) (v := undef) (by simp only [gA, gB, gC]; rfl) (by kernel_rfl) (by kernel_rfl) (by kernel_rfl) (by exact fun _ _ _ h => h) (Or.inr ⟨by rfl, rfl⟩) (by assumption) ?_) | fail); simp only [Act.put, sA, sB, sC, Bool.not_true, Bool.not_false, beq_self_eq_true, hz0]
                (first | (refine wpAnyH_take (i := 9) (v := ?_) (by simp only [gA, gB, gC]; rfl) (by kernel_rfl) (by kernel_rfl) (by kernel_rfl) (by exact fun _ _ _ h => h) (Or.inl ⟨by rfl, ?_⟩) (by assumption) ?_; rotate_left; (focus (intro w hSw; (try dsimp only at hSw); go_simp; try with_reducible rfl))) | (refine wpAnyH_take (i := 9) (v := undef) (by simp only [gA, gB, gC]; rfl) (by kernel_rfl) (by kernel_rfl) (by kernel_rfl) (by exact fun _ _ _ h => h) (Or.inr ⟨by rfl, rfl⟩) (by assumption) ?_) | fail); simp only [Act.put, sA, sB, sC, Bool.not_true, Bool.not_false, beq_self_eq_true, hz0]
                (first | (refine wpAnyH_take (i := 10) (v := _) (by simp only [gA, gB, gC]; rfl) (by kernel_rfl) (by kernel_rfl) (by kernel_rfl) (by exact fun _ _ _ h => h) (yields_one (by rfl) _ rfl (ya.add (i * 16)) rfl (.string x.n.path) (fun _ q => (hg.below q.2).row.path hx) str_load) (by assumption) ?_) | (refine wpAnyH_take (i := 10) (v := undef) (by simp only [gA, gB, gC]; rfl) (by kernel_rfl) (by kernel_rfl) (by kernel_rfl) (by exact fun _ _ _ h => h) (Or.inr ⟨by rfl, rfl⟩) (by assumption) ?_) | fail); simp only [Act.put, sA, sB, sC, Bool.not_true, Bool.not_false, beq_self_eq_true, hz0]
                first | (refine wpAnyH_take (i := 5) (v := undef) (by simp only [gA, gB, gC]; rfl) (by kernel_rfl) (by kernel_rfl) (by kernel_rfl) (by exact fun _ _ _ h => h) (Or.inr ⟨by rfl, rfl⟩) (by assumption) ?_; simp only [Act.put, sA, sB, sC, Bool.not_true, Bool.not_false, beq_self_eq_true, hz0]) | (refine wpAnyH_ready (rs := [5]) (by kernel_rfl) (by simp) ?_; refine AllReadyH.cons (by simp only [gA, gB, gC]; rfl) (fun K hK => ?_) AllReadyH.nil; go_simp; (first | (go_at_call 28; refine kp.mono ?_; rintro e W9 ⟨rfl, rfl⟩)); refine hK.out _ _ (by exact hS) ?_; clear hHeld hK; intro hHeld; (try simp only [Act.put, sA, sB, sC, Bool.not_true, Bool.not_false, beq_self_eq_true, hz0])) | fail
                (first | (refine wpAnyH_take (i := 11) (v := ?_) (by simp only [gA, gB, gC]; rfl) (by kernel_rfl) (by kernel_rfl) (by kernel_rfl) (by exact fun _ _ _ h => h) (Or.inl ⟨by rfl, ?_⟩) (by assumption) ?_; rotate_left; (focus (intro w hSw; (try dsimp only at hSw); go_simp; try with_reducible rfl))) | (refine wpAnyH_take (i := 11) (v := undef) (by simp only [gA, gB, gC]; rfl) (by kernel_rfl) (by kernel_rfl) (by kernel_rfl) (by exact fun _ _ _ h => h) (Or.inr ⟨by rfl, rfl⟩) (by assumption) ?_) | fail); simp only [Act.put, sA, sB, sC, Bool.not_true, Bool.not_false, beq_self_eq_true, hz0]
                (first | (refine wpAnyH_take (i := 12) (v := ?_) (by simp only [gA, gB, gC]; rfl) (by kernel_rfl) (by kernel_rfl) (by kernel_rfl) (by exact fun _ _ _ h => h) (Or.inl ⟨by rfl, ?_⟩) (by assumption) ?_; rotate_left; (focus (intro w hSw; (try dsimp only at hSw); go_simp; try with_reducible rfl))) | (refine wpAnyH_take (i := 12) (v := undef) (by simp only [gA, gB, gC]; rfl) (by kernel_rfl) (by kernel_rfl) (by kernel_rfl) (by exact fun _ _ _ h => h) (Or.inr ⟨by rfl, rfl⟩) (by assumption) ?_) | fail); simp only [Act.put, sA, sB, sC, Bool.not_true, Bool.not_false, beq_self_eq_true, hz0]
                (first | (refine wpAnyH_take (i := 13) (v := ?_) (by simp only [gA, gB, gC]; rfl) (by kernel_rfl) (by kernel_rfl) (by kernel_rfl) (by exact fun _ _ _ h => h) (Or.inl ⟨by rfl, ?_⟩) (by assumption) ?_; rotate_left; (focus (intro w hSw; (try dsimp only at hSw); go_simp; try with_reducible rfl))) | (refine wpAnyH_take (i := 13) (v := undef) (by simp only [gA, gB, gC]; rfl) (by kernel_rfl) (by kernel_rfl) (by kernel_rfl) (by exact fun _ _ _ h => h) (Or.inr ⟨by rfl, rfl⟩) (by assumption) ?_) | fail); simp only [Act.put, sA, sB, sC, Bool.not_true, Bool.not_false, beq_self_eq_true, hz0]
                (first | (refine wpAnyH_take (i := 14) (v := ?_) (by simp only [gA, gB, gC]; rfl) (by kernel_rfl) (by kernel_rfl) (by kernel_rfl) (by exact fun _ _ _ h => h) (Or.inl ⟨by rfl, ?_⟩) (by assumption) ?_; rotate_left; (focus (intro w hSw; (try dsimp only at hSw); go_simp; try with_reducible rfl))) | (refine wpAnyH_take (i := 14) (v := undef) (by simp only [gA, gB, gC]; rfl) (by kernel_rfl) (by kernel_rfl) (by kernel_rfl) (by exact fun _ _ _ h => h) (Or.inr ⟨by rfl, rfl⟩) (by assumption) ?_) | fail); simp only [Act.put, sA, sB, sC, Bool.not_true, Bool.not_false, beq_self_eq_true, hz0]
                (first | (refine wpAnyH_take (i := 15) (v := ?_) (by simp only [gA, gB, gC]; rfl) (by kernel_rfl) (by kernel_rfl) (by kernel_rfl) (by exact fun _ _ _ h => h) (Or.inl ⟨by rfl, ?_⟩) (by assumption) ?_; rotate_left; (focus (intro w hSw; (try dsimp only at hSw); go_simp; try with_reducible rfl))) | (refine wpAnyH_take (i := 15) (v := undef) (by simp only [gA, gB, gC]; rfl) (by kernel_rfl) (by kernel_rfl) (by kernel_rfl) (by exact fun _ _ _ h => h) (Or.inr ⟨by rfl, rfl⟩) (by assumption) ?_) | fail); simp only [Act.put, sA, sB, sC, Bool.not_true, Bool.not_false, beq_self_eq_true, hz0]
                (first | (refine wpAnyH_take (i := 16) (v := ?_) (by simp only [gA, gB, gC]; rfl) (by kernel_rfl) (by kernel_rfl) (by kernel_rfl) (by exact fun _ _ _ h => h) (Or.inl ⟨by rfl, ?_⟩) (by assumption) ?_; rotate_left; (focus (intro w hSw; (try dsimp only at hSw); go_simp; try with_reducible rfl))) | (refine wpAnyH_take (i := 16) (v := undef) (by simp only [gA, gB, gC]; rfl) (by kernel_rfl) (by kernel_rfl) (by kernel_rfl) (by exact fun _ _ _ h => h) (Or.inr ⟨by rfl, rfl⟩) (by assumption) ?_) | fail); simp only [Act.put, sA, sB, sC, Bool.not_true, Bool.not_false, beq_self_eq_true, hz0]
                (first | (refine wpAnyH_take (i := 17) (v := ?_) (by simp only [gA, gB, gC]; rfl) (by kernel_rfl) (by kernel_rfl) (by kernel_rfl) (by exact fun _ _ _ h => h) (Or.inl ⟨by rfl, ?_⟩) (by assumption) ?_; rotate_left; (focus (intro w hSw; (try dsimp only at hSw); go_simp; try with_reducible rfl))) | (refine wpAnyH_take (i := 17) (v := undef) (by simp only [gA, gB, gC]; rfl) (by kernel_rfl) (by kernel_rfl) (by kernel_rfl) (by exact fun _ _ _ h => h) (Or.inr ⟨by rfl, rfl⟩) (by assumption) ?_) | fail); simp only [Act.put, sA, sB, sC, Bool.not_true, Bool.not_false, beq_self_eq_true, hz0]
                (first | (refine wpAnyH_take (i := 18) (v := ?_) (by simp only [gA, gB, gC]; rfl) (by kernel_rfl) (by kernel_rfl) (by kernel_rfl) (by exact fun _ _ _ h => h) (Or.inl ⟨by rfl, ?_⟩) (by assumption) ?_; rotate_left; (focus (intro w hSw; (try dsimp only at hSw); go_simp; try with_reducible rfl))) | (refine wpAnyH_take (i := 18) (v := undef) (by simp only [gA, gB, gC]; rfl) (by kernel_rfl) (by kernel_rfl) (by kernel_rfl) (by exact fun _ _ _ h => h) (Or.inr ⟨by rfl, rfl⟩) (by assumption) ?_) | fail); simp only [Act.put, sA, sB, sC, Bool.not_true, Bool.not_false, beq_self_eq_true, hz0]
                (first | (refine wpAnyH_take (i := 19) (v := ?_) (by simp only [gA, gB, gC]; rfl) (by kernel_rfl) (by kernel_rfl) (by kernel_rfl) (by exact fun _ _ _ h => h) (Or.inl ⟨by rfl, ?_⟩) (by assumption) ?_; rotate_left; (focus (intro w hSw; (try dsimp only at hSw); go_simp; try with_reducible rfl))) | (refine wpAnyH_take (i := 19) (v := undef) (by simp only [gA, gB, gC]; rfl) (by kernel_rfl) (by kernel_rfl) (by kernel_rfl) (by exact fun _ _ _ h => h) (Or.inr ⟨by rfl, rfl⟩) (by assumption) ?_) | fail); simp only [Act.put, sA, sB, sC, Bool.not_true, Bool.not_false, beq_self_eq_true, hz0]
                (first | (refine wpAnyH_take (i := 20) (v := ?_) (by simp only [gA, gB, gC]; rfl) (by kernel_rfl) (by kernel_rfl) (by kernel_rfl) (by exact fun _ _ _ h => h) (Or.inl ⟨by rfl, ?_⟩) (by assumption) ?_; rotate_left; (focus (intro w hSw; (try dsimp only at hSw); go_simp; try with_reducible rfl))) | (refine wpAnyH_take (i := 20) (v := undef) (by simp only [gA, gB, gC]; rfl) (by kernel_rfl) (by kernel_rfl) (by kernel_rfl) (by exact fun _ _ _ h => h) (Or.inr ⟨by rfl, rfl⟩) (by assumption) ?_) | fail); simp only [Act.put, sA, sB, sC, Bool.not_true, Bool.not_false, beq_self_eq_true, hz0]
                (first | (refine wpAnyH_take (i := 21) (v := ?_) (by simp only [gA, gB, gC]; rfl) (by kernel_rfl) (by kernel_rfl) (by kernel_rfl) (by exact fun _ _ _ h => h) (Or.inl ⟨by rfl, ?_⟩) (by assumption) ?_; rotate_left; (focus (intro w hSw; (try dsimp only at hSw); go_simp; try with_reducible rfl))) | (refine wpAnyH_take (i := 21) (v := undef) (by simp only [gA, gB, gC]; rfl) (by kernel_rfl) (by kernel_rfl) (by kernel_rfl) (by exact fun _ _ _ h => h) (Or.inr ⟨by rfl, rfl⟩) (by assumption) ?_) | fail); simp only [Act.put, sA, sB, sC, Bool.not_true, Bool.not_false, beq_self_eq_true, hz0]
                (first | (refine wpAnyH_take (i := 22) (v := ?_) (by simp only [gA, gB, gC]; rfl) (by kernel_rfl) (by kernel_rfl) (by kernel_rfl) (by exact fun _ _ _ h => h) (Or.inl ⟨by rfl, ?_⟩) (by assumption) ?_; rotate_left; (focus (intro w hSw; (try dsimp only at hSw); go_simp; try with_reducible rfl))) | (refine wpAnyH_take (i := 22) (v := undef) (by simp only [gA, gB, gC]; rfl) (by kernel_rfl) (by kernel_rfl) (by kernel_rfl) (by exact fun _ _ _ h => h) (Or.inr ⟨by rfl, rfl⟩) (by assumption) ?_) | fail); simp only [Act.put, sA, sB, sC, Bool.not_true, Bool.not_false, beq_self_eq_true, hz0]
                (first | (refine wpAnyH_take (i := 23) (v := ?_) (by simp only [gA, gB, gC]; rfl) (by kernel_rfl) (by kernel_rfl) (by kernel_rfl) (by exact fun _ _ _ h => h) (Or.inl ⟨by rfl, ?_⟩) (by assumption) ?_; rotate_left; (focus (intro w hSw; (try dsimp only at hSw); go_simp; try with_reducible rfl))) | (refine wpAnyH_take (i := 23) (v := undef) (by simp only [gA, gB, gC]; rfl) (by kernel_rfl) (by kernel_rfl) (by kernel_rfl) (by exact fun _ _ _ h => h) (Or.inr ⟨by rfl, rfl⟩) (by assumption) ?_) | fail); simp only [Act.put, sA, sB, sC, Bool.not_true, Bool.not_false, beq_self_eq_true, hz0]
                (first | (refine wpAnyH_take (i := 24) (v := ?_) (by simp only [gA, gB, gC]; rfl) (by kernel_rfl) (by kernel_rfl) (by kernel_rfl) (by exact fun _ _ _ h => h) (Or.inl ⟨by rfl, ?_⟩) (by assumption) ?_; rotate_left; (focus (intro w hSw; (try dsimp only at hSw); go_simp; try with_reducible rfl))) | (refine wpAnyH_take (i := 24) (v := undef) (by simp only [gA, gB, gC]; rfl) (by kernel_rfl) (by kernel_rfl) (by kernel_rfl) (by exact fun _ _ _ h => h) (Or.inr ⟨by rfl, rfl⟩) (by assumption) ?_) | fail); simp only [Act.put, sA, sB, sC, Bool.not_true, Bool.not_false, beq_self_eq_true, hz0]
                (first | (refine wpAnyH_take (i := 25) (v := ?_) (by simp only [gA, gB, gC]; rfl) (by kernel_rfl) (by kernel_rfl) (by kernel_rfl) (by exact fun _ _ _ h => h) (Or.inl ⟨by rfl, ?_⟩) (by assumption) ?_; rotate_left; (focus (intro w hSw; (try dsimp only at hSw); go_simp; try with_reducible rfl))) | (refine wpAnyH_take (i := 25) (v := undef) (by simp only [gA, gB, gC]; rfl) (by kernel_rfl) (by kernel_rfl) (by kernel_rfl) (by exact fun _ _ _ h => h) (Or.inr ⟨by rfl, rfl⟩) (by assumption) ?_) | fail); simp only [Act.put, sA, sB, sC, Bool.not_true, Bool.not_false, beq_self_eq_true, hz0]
                (first | (refine wpAnyH_take (i := 26) (v := ?_) (by simp only [gA, gB, gC]; rfl) (by kernel_rfl) (by kernel_rfl) (by kernel_rfl) (by exact fun _ _ _ h => h) (Or.inl ⟨by rfl, ?_⟩) (by assumption) ?_; rotate_left; (focus (intro w hSw; (try dsimp only at hSw); go_simp; try with_reducible rfl))) | (refine wpAnyH_take (i := 26) (v := undef) (by simp only [gA, gB, gC]; rfl) (by kernel_rfl) (by kernel_rfl) (by kernel_rfl) (by exact fun _ _ _ h => h) (Or.inr ⟨by rfl, rfl⟩) (by assumption) ?_) | fail); simp only [Act.put, sA, sB, sC, Bool.not_true, Bool.not_false, beq_self_eq_true, hz0]
                (first | (refine wpAnyH_take (i := 27) (v := ?_) (by simp only [gA, gB, gC]; rfl) (by kernel_rfl) (by kernel_rfl) (by kernel_rfl) (by exact fun _ _ _ h => h) (Or.inl ⟨by rfl, ?_⟩) (by assumption) ?_; rotate_left; (focus (intro w hSw; (try dsimp only at hSw); go_simp; try with_reducible rfl))) | (refine wpAnyH_take (i := 27) (v := undef) (by simp only [gA, gB, gC]; rfl) (by kernel_rfl) (by kernel_rfl) (by kernel_rfl) (by exact fun _ _ _ h => h) (Or.inr ⟨by rfl, rfl⟩) (by assumption) ?_) | fail); simp only [Act.put, sA, sB, sC, Bool.not_true, Bool.not_false, beq_self_eq_true, hz0]
                (first | (refine wpAnyH_take (i := 28) (v := ?_) (by simp only [gA, gB, gC]; rfl) (by kernel_rfl) (by kernel_rfl) (by kernel_rfl) (by exact fun _ _ _ h => h) (Or.inl ⟨by rfl, ?_⟩) (by assumption) ?_; rotate_left; (focus (intro w hSw; (try dsimp only at hSw); go_simp; try with_reducible rfl))) | (refine wpAnyH_take (i := 28) (v := undef) (by simp only [gA, gB, gC]; rfl) (by kernel_rfl) (by kernel_rfl) (by kernel_rfl) (by exact fun _ _ _ h => h) (Or.inr ⟨by rfl, rfl⟩) (by assumption) ?_) | fail); simp only [Act.put, sA, sB, sC, Bool.not_true, Bool.not_false, beq_self_eq_true, hz0]
                refine wpAnyH_done (by kernel_rfl) ?_ _
                go_wp2_with fail
                exact ⟨⟨1, by omega, by simp, by simp, Below.then hBq hBz.drew⟩, by simp [Go.RowKit.intOf]; omega⟩
              · obtain ⟨p, hkp⟩ : ∃ p, k = p + 1 := ⟨k - 1, by omega⟩
                obtain ⟨up, hup⟩ : ∃ up, U[p]? = some up := ⟨_, List.getElem?_eq_getElem (by rw [hm.out]; omega)⟩
                have hcp : Z.cell? (ua.add p) = some (.string up) := (hBq.cell (World.block_lt_of_cell? _ _ (hck0 p up hup))).trans (hck0 p up hup)
                have hlp : lt up uk = true := by
                  obtain ⟨hp1, hp2⟩ := List.getElem?_eq_some_iff.1 hup
                  rw [hkp] at huk
                  obtain ⟨hk1, hk2⟩ := List.getElem?_eq_some_iff.1 huk
                  have := List.pairwise_iff_getElem.1 hrise p (p + 1) hp1 hk1 (Nat.lt_succ_self p)
                  rwa [hp2, hk2] at this
                have f1 := leq_not hlp
                have hwr : IntKind.i64.wrap ((k : Int) - 1) = (p : Int) := by rw [IntKind.wrap_i64]; omega
                have hz1 : decide ((0 : Int) < (k : Int)) = true := by simp; omega
                have j1 : (0 : Int) < (k : Int) := by omega
                have j2 : (p : Int) < (m : Int) := by omega
                replace hkp : Aside _ := hkp
                go_wp2_with fail
                refine wp_region_held_drew (S := (fun W => W.cell? ⟨bn, 0, none⟩ = some (.string yy.n.path) ∧ Below Z.heap.size Z W)) (by kernel_rfl) (by exact hS) ?_
                intro hHeld
                (first | (refine wpAnyH_take (i := 0) (v := ?_) (by simp only [gA, gB, gC]; rfl) (by kernel_rfl) (by kernel_rfl) (by kernel_rfl) (by exact fun _ _ _ h => h) (Or.inl ⟨by rfl, ?_⟩) (by assumption) ?_; rotate_left; (focus (intro w hSw; (try dsimp only at hSw); go_simp; try with_reducible rfl))) | (refine wpAnyH_take (i := 0) (v := undef) (by simp only [gA, gB, gC]; rfl) (by kernel_rfl) (by kernel_rfl) (by kernel_rfl) (by exact fun _ _ _ h => h) (Or.inr ⟨by rfl, rfl⟩) (by assumption) ?_) | fail); simp only [Act.put, sA, sB, sC, Bool.not_true, Bool.not_false, beq_self_eq_true, hwr, hz1, f1]
                (first | (refine wpAnyH_take (i := 1) (v := ?_) (by simp only [gA, gB, gC]; rfl) (by kernel_rfl) (by kernel_rfl) (by kernel_rfl) (by exact fun _ _ _ h => h) (Or.inl ⟨by rfl, ?_⟩) (by assumption) ?_; rotate_left; (focus (intro w hSw; (try dsimp only at hSw); go_simp; try with_reducible rfl))) | (refine wpAnyH_take (i := 1) (v := undef) (by simp only [gA, gB, gC]; rfl) (by kernel_rfl) (by kernel_rfl) (by kernel_rfl) (by exact fun _ _ _ h => h) (Or.inr ⟨by rfl, rfl⟩) (by assumption) ?_) | fail); simp only [Act.put, sA, sB, sC, Bool.not_true, Bool.not_false, beq_self_eq_true, hwr, hz1, f1]
                (first | (refine wpAnyH_take (i := 2) (v := ?_) (by simp only [gA, gB, gC]; rfl) (by kernel_rfl) (by kernel_rfl) (by kernel_rfl) (by exact fun _ _ _ h => h) (Or.inl ⟨by rfl, ?_⟩) (by assumption) ?_; rotate_left; (focus (intro w hSw; (try dsimp only at hSw); go_simp; try with_reducible rfl))) | (refine wpAnyH_take (i := 2) (v := undef) (by simp only [gA, gB, gC]; rfl) (by kernel_rfl) (by kernel_rfl) (by kernel_rfl) (by exact fun _ _ _ h => h) (Or.inr ⟨by rfl, rfl⟩) (by assumption) ?_) | fail); simp only [Act.put, sA, sB, sC, Bool.not_true, Bool.not_false, beq_self_eq_true, hwr, hz1, f1]
                (first | (refine wpAnyH_take (i := 3) (v := ?_) (by simp only [gA, gB, gC]; rfl) (by kernel_rfl) (by kernel_rfl) (by kernel_rfl) (by exact fun _ _ _ h => h) (Or.inl ⟨by rfl, ?_⟩) (by assumption) ?_; rotate_left; (focus (intro w hSw; (try dsimp only at hSw); go_simp; try with_reducible rfl))) | (refine wpAnyH_take (i := 3) (v := undef) (by simp only [gA, gB, gC]; rfl) (by kernel_rfl) (by kernel_rfl) (by kernel_rfl) (by exact fun _ _ _ h => h) (Or.inr ⟨by rfl, rfl⟩) (by assumption) ?_) | fail); simp only [Act.put, sA, sB, sC, Bool.not_true, Bool.not_false, beq_self_eq_true, hwr, hz1, f1]
                (first | (refine wpAnyH_take (i := 4) (v := _) (by simp only [gA, gB, gC]; rfl) (by kernel_rfl) (by kernel_rfl) (by kernel_rfl) (by exact fun _ _ _ h => h) (yields_one (by rfl) _ rfl ⟨bn, 0, none⟩ rfl (.string yy.n.path) (fun _ q => q.1) str_load) (by assumption) ?_) | (refine wpAnyH_take (i := 4) (v := undef) (by simp only [gA, gB, gC]; rfl) (by kernel_rfl) (by kernel_rfl) (by kernel_rfl) (by exact fun _ _ _ h => h) (Or.inr ⟨by rfl, rfl⟩) (by assumption) ?_) | fail); simp only [Act.put, sA, sB, sC, Bool.not_true, Bool.not_false, beq_self_eq_true, hwr, hz1, f1]
                (first | (refine wpAnyH_take (i := 6) (v := ?_) (by simp only [gA, gB, gC]; rfl) (by kernel_rfl) (by kernel_rfl) (by kernel_rfl) (by exact fun _ _ _ h => h) (Or.inl ⟨by rfl, ?_⟩) (by assumption) ?_; rotate_left; (focus (intro w hSw; (try dsimp only at hSw); go_simp; try with_reducible rfl))) | (refine wpAnyH_take (i := 6) (v := undef) (by simp only [gA, gB, gC]; rfl) (by kernel_rfl) (by kernel_rfl) (by kernel_rfl) (by exact fun _ _ _ h => h) (Or.inr ⟨by rfl, rfl⟩) (by assumption) ?_) | fail); simp only [Act.put, sA, sB, sC, Bool.not_true, Bool.not_false, beq_self_eq_true, hwr, hz1, f1]
                (first | (refine wpAnyH_take (i := 7) (v := ?_) (by simp only [gA, gB, gC]; rfl) (by kernel_rfl) (by kernel_rfl) (by kernel_rfl) (by exact fun _ _ _ h => h) (Or.inl ⟨by rfl, ?_⟩) (by assumption) ?_; rotate_left; (focus (intro w hSw; (try dsimp only at hSw); go_simp; try with_reducible rfl))) | (refine wpAnyH_take (i := 7) (v := undef) (by simp only [gA, gB, gC]; rfl) (by kernel_rfl) (by kernel_rfl) (by kernel_rfl) (by exact fun _ _ _ h => h) (Or.inr ⟨by rfl, rfl⟩) (by assumption) ?_) | fail); simp only [Act.put, sA, sB, sC, Bool.not_true, Bool.not_false, beq_self_eq_true, hwr, hz1, f1]
                (first | (refine wpAnyH_take (i := 8) (v := ?_) (by simp only [gA, gB, gC]; rfl) (by kernel_rfl) (by kernel_rfl) (by kernel_rfl) (by exact fun _ _ _ h => h) (Or.inl ⟨by rfl, ?_⟩) (by assumption) ?_; rotate_left; (focus (intro w hSw; (try dsimp only at hSw); go_simp; try with_reducible rfl))) | (refine wpAnyH_take (i := 8) (v := undef) (by simp only [gA, gB, gC]; rfl) (by kernel_rfl) (by kernel_rfl) (by kernel_rfl) (by exact fun _ _ _ h => h) (Or.inr ⟨by rfl, rfl⟩) (by assumption) ?_) | fail); simp only [Act.put, sA, sB, sC, Bool.not_true, Bool.not_false, beq_self_eq_true, hwr, hz1, f1]
                (first | (refine wpAnyH_take (i := 9) (v := ?_) (by simp only [gA, gB, gC]; rfl) (by kernel_rfl) (by kernel_rfl) (by kernel_rfl) (by exact fun _ _ _ h => h) (Or.inl ⟨by rfl, ?_⟩) (by assumption) ?_; rotate_left; (focus (intro w hSw; (try dsimp only at hSw); go_simp; try with_reducible rfl))) | (refine wpAnyH_take (i := 9) (v := undef) (by simp only [gA, gB, gC]; rfl) (by kernel_rfl) (by kernel_rfl) (by kernel_rfl) (by exact fun _ _ _ h => h) (Or.inr ⟨by rfl, rfl⟩) (by assumption) ?_) | fail); simp only [Act.put, sA, sB, sC, Bool.not_true, Bool.not_false, beq_self_eq_true, hwr, hz1, f1]
                (first | (refine wpAnyH_take (i := 10) (v := _) (by simp only [gA, gB, gC]; rfl) (by kernel_rfl) (by kernel_rfl) (by kernel_rfl) (by exact fun _ _ _ h => h) (yields_one (by rfl) _ rfl (ya.add (i * 16)) rfl (.string x.n.path) (fun _ q => (hg.below q.2).row.path hx) str_load) (by assumption) ?_) | (refine wpAnyH_take (i := 10) (v := undef) (by simp only [gA, gB, gC]; rfl) (by kernel_rfl) (by kernel_rfl) (by kernel_rfl) (by exact fun _ _ _ h => h) (Or.inr ⟨by rfl, rfl⟩) (by assumption) ?_) | fail); simp only [Act.put, sA, sB, sC, Bool.not_true, Bool.not_false, beq_self_eq_true, hwr, hz1, f1]
                first | (refine wpAnyH_take (i := 5) (v := undef) (by simp only [gA, gB, gC]; rfl) (by kernel_rfl) (by kernel_rfl) (by kernel_rfl) (by exact fun _ _ _ h => h) (Or.inr ⟨by rfl, rfl⟩) (by assumption) ?_; simp only [Act.put, sA, sB, sC, Bool.not_true, Bool.not_false, beq_self_eq_true, hwr, hz1, f1]) | (refine wpAnyH_ready (rs := [5]) (by kernel_rfl) (by simp) ?_; refine AllReadyH.cons (by simp only [gA, gB, gC]; rfl) (fun K hK => ?_) AllReadyH.nil; go_simp; (first | (go_at_call 28; refine kp.mono ?_; rintro e W9 ⟨rfl, rfl⟩)); refine hK.out _ _ (by exact hS) ?_; clear hHeld hK; intro hHeld; (try simp only [Act.put, sA, sB, sC, Bool.not_true, Bool.not_false, beq_self_eq_true, hwr, hz1, f1])) | fail
                (first | (refine wpAnyH_take (i := 11) (v := ?_) (by simp only [gA, gB, gC]; rfl) (by kernel_rfl) (by kernel_rfl) (by kernel_rfl) (by exact fun _ _ _ h => h) (Or.inl ⟨by rfl, ?_⟩) (by assumption) ?_; rotate_left; (focus (intro w hSw; (try dsimp only at hSw); go_simp; try with_reducible rfl))) | (refine wpAnyH_take (i := 11) (v := undef) (by simp only [gA, gB, gC]; rfl) (by kernel_rfl) (by kernel_rfl) (by kernel_rfl) (by exact fun _ _ _ h => h) (Or.inr ⟨by rfl, rfl⟩) (by assumption) ?_) | fail); simp only [Act.put, sA, sB, sC, Bool.not_true, Bool.not_false, beq_self_eq_true, hwr, hz1, f1]
                (first | (refine wpAnyH_take (i := 12) (v := ?_) (by simp only [gA, gB, gC]; rfl) (by kernel_rfl) (by kernel_rfl) (by kernel_rfl) (by exact fun _ _ _ h => h) (Or.inl ⟨by rfl, ?_⟩) (by assumption) ?_; rotate_left; (focus (intro w hSw; (try dsimp only at hSw); go_simp; try with_reducible rfl))) | (refine wpAnyH_take (i := 12) (v := undef) (by simp only [gA, gB, gC]; rfl) (by kernel_rfl) (by kernel_rfl) (by kernel_rfl) (by exact fun _ _ _ h => h) (Or.inr ⟨by rfl, rfl⟩) (by assumption) ?_) | fail); simp only [Act.put, sA, sB, sC, Bool.not_true, Bool.not_false, beq_self_eq_true, hwr, hz1, f1]
                (first | (refine wpAnyH_take (i := 13) (v := ?_) (by simp only [gA, gB, gC]; rfl) (by kernel_rfl) (by kernel_rfl) (by kernel_rfl) (by exact fun _ _ _ h => h) (Or.inl ⟨by rfl, ?_⟩) (by assumption) ?_; rotate_left; (focus (intro w hSw; (try dsimp only at hSw); go_simp; try with_reducible rfl))) | (refine wpAnyH_take (i := 13) (v := undef) (by simp only [gA, gB, gC]; rfl) (by kernel_rfl) (by kernel_rfl) (by kernel_rfl) (by exact fun _ _ _ h => h) (Or.inr ⟨by rfl, rfl⟩) (by assumption) ?_) | fail); simp only [Act.put, sA, sB, sC, Bool.not_true, Bool.not_false, beq_self_eq_true, hwr, hz1, f1]
                (first | (refine wpAnyH_take (i := 14) (v := ?_) (by simp only [gA, gB, gC]; rfl) (by kernel_rfl) (by kernel_rfl) (by kernel_rfl) (by exact fun _ _ _ h => h) (Or.inl ⟨by rfl, ?_⟩) (by assumption) ?_; rotate_left; (focus (intro w hSw; (try dsimp only at hSw); go_simp; try with_reducible rfl))) | (refine wpAnyH_take (i := 14) (v := undef) (by simp only [gA, gB, gC]; rfl) (by kernel_rfl) (by kernel_rfl) (by kernel_rfl) (by exact fun _ _ _ h => h) (Or.inr ⟨by rfl, rfl⟩) (by assumption) ?_) | fail); simp only [Act.put, sA, sB, sC, Bool.not_true, Bool.not_false, beq_self_eq_true, hwr, hz1, f1]
                (first | (refine wpAnyH_take (i := 15) (v := ?_) (by simp only [gA, gB, gC]; rfl) (by kernel_rfl) (by kernel_rfl) (by kernel_rfl) (by exact fun _ _ _ h => h) (Or.inl ⟨by rfl, ?_⟩) (by assumption) ?_; rotate_left; (focus (intro w hSw; (try dsimp only at hSw); go_simp; try with_reducible rfl))) | (refine wpAnyH_take (i := 15) (v := undef) (by simp only [gA, gB, gC]; rfl) (by kernel_rfl) (by kernel_rfl) (by kernel_rfl) (by exact fun _ _ _ h => h) (Or.inr ⟨by rfl, rfl⟩) (by assumption) ?_) | fail); simp only [Act.put, sA, sB, sC, Bool.not_true, Bool.not_false, beq_self_eq_true, hwr, hz1, f1]
                (first | (refine wpAnyH_take (i := 16) (v := ?_) (by simp only [gA, gB, gC]; rfl) (by kernel_rfl) (by kernel_rfl) (by kernel_rfl) (by exact fun _ _ _ h => h) (Or.inl ⟨by rfl, ?_⟩) (by assumption) ?_; rotate_left; (focus (intro w hSw; (try dsimp only at hSw); go_simp; try with_reducible rfl))) | (refine wpAnyH_take (i := 16) (v := undef) (by simp only [gA, gB, gC]; rfl) (by kernel_rfl) (by kernel_rfl) (by kernel_rfl) (by exact fun _ _ _ h => h) (Or.inr ⟨by rfl, rfl⟩) (by assumption) ?_) | fail); simp only [Act.put, sA, sB, sC, Bool.not_true, Bool.not_false, beq_self_eq_true, hwr, hz1, f1]
                (first | (refine wpAnyH_take (i := 17) (v := ?_) (by simp only [gA, gB, gC]; rfl) (by kernel_rfl) (by kernel_rfl) (by kernel_rfl) (by exact fun _ _ _ h => h) (Or.inl ⟨by rfl, ?_⟩) (by assumption) ?_; rotate_left; (focus (intro w hSw; (try dsimp only at hSw); go_simp; try with_reducible rfl))) | (refine wpAnyH_take (i := 17) (v := undef) (by simp only [gA, gB, gC]; rfl) (by kernel_rfl) (by kernel_rfl) (by kernel_rfl) (by exact fun _ _ _ h => h) (Or.inr ⟨by rfl, rfl⟩) (by assumption) ?_) | fail); simp only [Act.put, sA, sB, sC, Bool.not_true, Bool.not_false, beq_self_eq_true, hwr, hz1, f1]
                (first | (refine wpAnyH_take (i := 18) (v := ?_) (by simp only [gA, gB, gC]; rfl) (by kernel_rfl) (by kernel_rfl) (by kernel_rfl) (by exact fun _ _ _ h => h) (Or.inl ⟨by rfl, ?_⟩) (by assumption) ?_; rotate_left; (focus (intro w hSw; (try dsimp only at hSw); go_simp; try with_reducible rfl))) | (refine wpAnyH_take (i := 18) (v := undef) (by simp only [gA, gB, gC]; rfl) (by kernel_rfl) (by kernel_rfl) (by kernel_rfl) (by exact fun _ _ _ h => h) (Or.inr ⟨by rfl, rfl⟩) (by assumption) ?_) | fail); simp only [Act.put, sA, sB, sC, Bool.not_true, Bool.not_false, beq_self_eq_true, hwr, hz1, f1]
                (first | (refine wpAnyH_take (i := 19) (v := ?_) (by simp only [gA, gB, gC]; rfl) (by kernel_rfl) (by kernel_rfl) (by kernel_rfl) (by exact fun _ _ _ h => h) (Or.inl ⟨by rfl, ?_⟩) (by assumption) ?_; rotate_left; (focus (intro w hSw; (try dsimp only at hSw); go_simp; try with_reducible rfl))) | (refine wpAnyH_take (i := 19) (v := undef) (by simp only [gA, gB, gC]; rfl) (by kernel_rfl) (by kernel_rfl) (by kernel_rfl) (by exact fun _ _ _ h => h) (Or.inr ⟨by rfl, rfl⟩) (by assumption) ?_) | fail); simp only [Act.put, sA, sB, sC, Bool.not_true, Bool.not_false, beq_self_eq_true, hwr, hz1, f1]
                (first | (refine wpAnyH_take (i := 20) (v := _) (by simp only [gA, gB, gC]; rfl) (by kernel_rfl) (by kernel_rfl) (by kernel_rfl) (by exact fun _ _ _ h => h) (yields_one (by rfl) _ rfl (ua.add k) rfl (.string uk) (fun _ q => (q.2.cell (World.block_lt_of_cell? _ _ hck)).trans hck) str_load) (by assumption) ?_) | (refine wpAnyH_take (i := 20) (v := undef) (by simp only [gA, gB, gC]; rfl) (by kernel_rfl) (by kernel_rfl) (by kernel_rfl) (by exact fun _ _ _ h => h) (Or.inr ⟨by rfl, rfl⟩) (by assumption) ?_) | fail); simp only [Act.put, sA, sB, sC, Bool.not_true, Bool.not_false, beq_self_eq_true, hwr, hz1, f1]
                (first | (refine wpAnyH_take (i := 21) (v := ?_) (by simp only [gA, gB, gC]; rfl) (by kernel_rfl) (by kernel_rfl) (by kernel_rfl) (by exact fun _ _ _ h => h) (Or.inl ⟨by rfl, ?_⟩) (by assumption) ?_; rotate_left; (focus (intro w hSw; (try dsimp only at hSw); go_simp; try with_reducible rfl))) | (refine wpAnyH_take (i := 21) (v := undef) (by simp only [gA, gB, gC]; rfl) (by kernel_rfl) (by kernel_rfl) (by kernel_rfl) (by exact fun _ _ _ h => h) (Or.inr ⟨by rfl, rfl⟩) (by assumption) ?_) | fail); simp only [Act.put, sA, sB, sC, Bool.not_true, Bool.not_false, beq_self_eq_true, hwr, hz1, f1]
                (first | (refine wpAnyH_take (i := 22) (v := ?_) (by simp only [gA, gB, gC]; rfl) (by kernel_rfl) (by kernel_rfl) (by kernel_rfl) (by exact fun _ _ _ h => h) (Or.inl ⟨by rfl, ?_⟩) (by assumption) ?_; rotate_left; (focus (intro w hSw; (try dsimp only at hSw); go_simp; try with_reducible rfl))) | (refine wpAnyH_take (i := 22) (v := undef) (by simp only [gA, gB, gC]; rfl) (by kernel_rfl) (by kernel_rfl) (by kernel_rfl) (by exact fun _ _ _ h => h) (Or.inr ⟨by rfl, rfl⟩) (by assumption) ?_) | fail); simp only [Act.put, sA, sB, sC, Bool.not_true, Bool.not_false, beq_self_eq_true, hwr, hz1, f1]
                (first | (refine wpAnyH_take (i := 23) (v := ?_) (by simp only [gA, gB, gC]; rfl) (by kernel_rfl) (by kernel_rfl) (by kernel_rfl) (by exact fun _ _ _ h => h) (Or.inl ⟨by rfl, ?_⟩) (by assumption) ?_; rotate_left; (focus (intro w hSw; (try dsimp only at hSw); go_simp; try with_reducible rfl))) | (refine wpAnyH_take (i := 23) (v := undef) (by simp only [gA, gB, gC]; rfl) (by kernel_rfl) (by kernel_rfl) (by kernel_rfl) (by exact fun _ _ _ h => h) (Or.inr ⟨by rfl, rfl⟩) (by assumption) ?_) | fail); simp only [Act.put, sA, sB, sC, Bool.not_true, Bool.not_false, beq_self_eq_true, hwr, hz1, f1]
                (first | (refine wpAnyH_take (i := 24) (v := ?_) (by simp only [gA, gB, gC]; rfl) (by kernel_rfl) (by kernel_rfl) (by kernel_rfl) (by exact fun _ _ _ h => h) (Or.inl ⟨by rfl, ?_⟩) (by assumption) ?_; rotate_left; (focus (intro w hSw; (try dsimp only at hSw); go_simp; try with_reducible rfl))) | (refine wpAnyH_take (i := 24) (v := undef) (by simp only [gA, gB, gC]; rfl) (by kernel_rfl) (by kernel_rfl) (by kernel_rfl) (by exact fun _ _ _ h => h) (Or.inr ⟨by rfl, rfl⟩) (by assumption) ?_) | fail); simp only [Act.put, sA, sB, sC, Bool.not_true, Bool.not_false, beq_self_eq_true, hwr, hz1, f1]
                (first | (refine wpAnyH_take (i := 25) (v := _) (by simp only [gA, gB, gC]; rfl) (by kernel_rfl) (by kernel_rfl) (by kernel_rfl) (by exact fun _ _ _ h => h) (yields_one (by rfl) _ rfl (ua.add p) rfl (.string up) (fun _ q => (q.2.cell (World.block_lt_of_cell? _ _ hcp)).trans hcp) str_load) (by assumption) ?_) | (refine wpAnyH_take (i := 25) (v := undef) (by simp only [gA, gB, gC]; rfl) (by kernel_rfl) (by kernel_rfl) (by kernel_rfl) (by exact fun _ _ _ h => h) (Or.inr ⟨by rfl, rfl⟩) (by assumption) ?_) | fail); simp only [Act.put, sA, sB, sC, Bool.not_true, Bool.not_false, beq_self_eq_true, hwr, hz1, f1]
                (first | (refine wpAnyH_take (i := 26) (v := ?_) (by simp only [gA, gB, gC]; rfl) (by kernel_rfl) (by kernel_rfl) (by kernel_rfl) (by exact fun _ _ _ h => h) (Or.inl ⟨by rfl, ?_⟩) (by assumption) ?_; rotate_left; (focus (intro w hSw; (try dsimp only at hSw); go_simp; try with_reducible rfl))) | (refine wpAnyH_take (i := 26) (v := undef) (by simp only [gA, gB, gC]; rfl) (by kernel_rfl) (by kernel_rfl) (by kernel_rfl) (by exact fun _ _ _ h => h) (Or.inr ⟨by rfl, rfl⟩) (by assumption) ?_) | fail); simp only [Act.put, sA, sB, sC, Bool.not_true, Bool.not_false, beq_self_eq_true, hwr, hz1, f1]
                (first | (refine wpAnyH_take (i := 27) (v := ?_) (by simp only [gA, gB, gC]; rfl) (by kernel_rfl) (by kernel_rfl) (by kernel_rfl) (by exact fun _ _ _ h => h) (Or.inl ⟨by rfl, ?_⟩) (by assumption) ?_; rotate_left; (focus (intro w hSw; (try dsimp only at hSw); go_simp; try with_reducible rfl))) | (refine wpAnyH_take (i := 27) (v := undef) (by simp only [gA, gB, gC]; rfl) (by kernel_rfl) (by kernel_rfl) (by kernel_rfl) (by exact fun _ _ _ h => h) (Or.inr ⟨by rfl, rfl⟩) (by assumption) ?_) | fail); simp only [Act.put, sA, sB, sC, Bool.not_true, Bool.not_false, beq_self_eq_true, hwr, hz1, f1]
                (first | (refine wpAnyH_take (i := 28) (v := ?_) (by simp only [gA, gB, gC]; rfl) (by kernel_rfl) (by kernel_rfl) (by kernel_rfl) (by exact fun _ _ _ h => h) (Or.inl ⟨by rfl, ?_⟩) (by assumption) ?_; rotate_left; (focus (intro w hSw; (try dsimp only at hSw); go_simp; try with_reducible rfl))) | (refine wpAnyH_take (i := 28) (v := undef) (by simp only [gA, gB, gC]; rfl) (by kernel_rfl) (by kernel_rfl) (by kernel_rfl) (by exact fun _ _ _ h => h) (Or.inr ⟨by rfl, rfl⟩) (by assumption) ?_) | fail); simp only [Act.put, sA, sB, sC, Bool.not_true, Bool.not_false, beq_self_eq_true, hwr, hz1, f1]
                refine wpAnyH_done (by kernel_rfl) ?_ _
                go_wp2_with fail
                exact ⟨⟨k + 1, by omega, by simp, by simp; omega, Below.then hBq hBz.drew⟩, by simp [Go.RowKit.intOf]; omega⟩
          · obtain rfl : k = m := by omega
            have hfin := Below.then hB04 hBq
            go_wp2_with fail
            exact ⟨⟨i + 1, by omega, by simp, by rw [hss.out, show s0 + k + 1 = s0 + 1 + k by omega], hg, hfin⟩, by simp [Go.RowKit.intOf]; omega⟩
    · obtain rfl : i = n := by omega
      have he := hend.out
      rw [he]
      go_wp2_with fail
      go_ret
      exact ⟨rfl, hB⟩
end Go.Proofs.YtacjfbomjglnjaaDoor
