/-
  A PROGRAM AS THE LAWS OF CHAPTER 16 ARE HANDED IT: the memory made of it.
-/
import Derived.Test.YtinibccphecdfaaWCpuWord
import Derived.Test.YtinibccphecdfaaWCpuBeg
import Derived.Test.YtinibccphecdfaaPt4
namespace Go.Proofs.Ytinibccphecdfaa
open Go.RowKit
set_option maxRecDepth 8000
set_option linter.unusedSimpArgs false
set_option linter.unusedVariables false

theorem addC_two (g j : Nat) : (⟨g, 2, none⟩ : Addr).add j = ⟨g, 2 + j, none⟩ := by
  unfold Addr.add
  split
  · rename_i h; rw [h]
  · rfl
def pc0 (p : Pc) : Sg := ⟨!p.no, [], p.md % 8, goodR p.rg⟩
abbrev zG7 : Array Value := #[.bool false, .slice none 0 0, .int .i64 0, .int .i64 0, .int .i64 0, .int .i64 0, .int .i64 0]
theorem own_apart {α β : Type} {e e' : TypeId} {sz sz' base base' : Nat} {f : α → List Value} {f' : β → List Value} {w : World} {v v' : Value} {l : List α} {l' : List β} (h : OwnR e sz f w base v l) (h' : OwnR e' sz' f' w base' v' l') (hne : e ≠ e') {k : Nat} (hk : v.ownBlock = some k) : v'.ownBlock ≠ some k := fun hk' => by
  rcases h.2 with ⟨rfl, _⟩ | ⟨g, cap, cur, rfl, _, hh, _⟩
  · cases hk
  rcases h'.2 with ⟨rfl, _⟩ | ⟨g', cap', cur', rfl, _, hh', _⟩
  · cases hk'
  have e1 : g = k := by simpa [Value.ownBlock] using hk
  have e2 : g' = k := by simpa [Value.ownBlock] using hk'
  rw [e1] at hh
  rw [e2, hh] at hh'
  injection hh' with hh'
  injection hh' with _ h2 _
  exact hne h2
theorem boolC_load (w : World) (y : Addr) (v : Value) (h : w.cell? y = some v) : (Instr.loadAt 4 (.pointer (some y))).run Try.prog w = .ok v w := by
  have h1 := Try.underlying4
  go_simp
theorem wdxs_load (w : World) (y : Addr) (v : Value) (h : w.cell? y = some v) : (Instr.loadAt 77 (.pointer (some y))).run Try.prog w = .ok v w := by
  have h1 := Try.underlying77
  go_simp
theorem wdsC_store (w : World) (y : Addr) (u v : Value) {b : Option Addr} {n c : Nat} (hs : v = .slice b n c) (hc : w.cell? y = some u) (hf : w.frozen? y = false) : (Instr.storeAt 53 (.pointer (some y)) v).run Try.prog w = .ok () (w.setCell y v) := by
  subst hs
  have h1 := Try.underlying53
  go_simp
/-- Segments that were made, and their words. -/
def MadeM (W : World) (B : Nat) (M : List PG) : Prop := ∀ x ∈ M, OwnR 2 1 wcl W B x.v x.g.ws
theorem MadeM.below {W W' : World} {B : Nat} {M : List PG} (h : MadeM W B M) (b : Below W.heap.size W W') : MadeM W' B M := fun x hx => (h x hx).below b
theorem MadeM.row {W : World} {B : Nat} {M : List PG} {a : Option Addr} (h : MadeM W B M) (hr : RowAt 7 PG.cs W a M) : RowG W a M := ⟨hr, fun x hx => own_at (h x hx)⟩
theorem MadeM.mg {W : World} {B : Nat} {M : List PG} (h : MadeM W B M) (hl : M.length < 1000000) (hk : ∀ g ∈ M.map (·.g), g.Ok) : MG M := ⟨hl, fun x hx => hk _ (List.mem_map_of_mem hx), fun x hx => by
  obtain ⟨a1, c1, hv, -, hn, -⟩ := (h x hx).slice wd_okC.len
  have hv' : Value.slice x.wa x.g.ws.length x.wc = .slice a1 x.g.ws.length c1 := hv
  injection hv' with e1 e2 e3
  rw [e1, e3]
  exact hn⟩
set_option maxRecDepth 8000 in
set_option maxHeartbeats 8000000 in
theorem cmemo_any (l : List PP) (a1 : Option Addr) (c1 : Nat) (w : World) (hL : RowP w a1 l) :
    Calls Try.prog 10 #[.slice a1 l.length c1] w fun e w' => ∃ (M : List PG) (v : Value), e = .returned v ∧ OwnR 57 7 PG.cs w' w.heap.size v M ∧ MadeM w' w.heap.size M ∧ M.map (·.g) = memPc l ∧ Below w.heap.size w w' := by
  have hundG := Try.underlying57
  have hszG : (Try.prog.info? 57).map (·.size) = some 7 := by kernel_rfl
  have hundP := Try.underlying79
  have hszP : (Try.prog.info? 79).map (·.size) = some 7 := by kernel_rfl
  have hundW := Try.underlying83
  have hszW : (Try.prog.info? 83).map (·.size) = some 8 := by kernel_rfl
  have hundR := Try.underlying55
  have hszR : (Try.prog.info? 55).map (·.size) = some 4 := by kernel_rfl
  obtain ⟨n, hnn⟩ : ∃ n, l.length = n := ⟨_, rfl⟩
  have hnl := hL.len
  rw [hnn] at hnl ⊢
  replace hnn : Aside (l.length = n) := hnn
  go_enter Try.func10, Try.ntmps10
  go_wp2_with fail
  go_loopw [3, 4] (fun t3 t4 wr => ∃ (k : Nat) (M : List PG), k ≤ n ∧ k ≤ 5 ∧ t4 = .int .i64 (k : Int) ∧ OwnR 57 7 PG.cs wr w.heap.size t3 M ∧ MadeM wr w.heap.size M ∧ M.map (·.g) = (l.take k).map (fun x => pcG x.p) ∧ Below w.heap.size w wr) (fun _ t4 _ => 5 - (Go.RowKit.intOf t4).toNat)
  case atStart => exact ⟨0, [], by omega, by omega, rfl, OwnR.nil _ _ _ _ _, fun x hx => (by cases hx), rfl, Below.refl _ _⟩
  case round =>
  rename_i t3 t4
  obtain ⟨k, M, hkn, hk5, rfl, hoM, hM, hMg, hB⟩ := hrel
  by_cases hgo : k < n ∧ k < 5
  rotate_left
  · have hend : l.take k = l.take 5 := by
      have := hnn.out
      by_cases h8 : k = 5
      · rw [h8]
      · rw [List.take_of_length_le (by omega), List.take_of_length_le (by omega)]
    rw [hend] at hMg
    have hsplit : ¬ (k : Int) < (n : Int) ∨ (k : Int) < (n : Int) ∧ ¬ (k : Int) < 5 := by omega
    replace hMg : Aside (M.map (·.g) = memPc l) := hMg
    rcases hsplit with j1 | ⟨j1, j2⟩
    all_goals
      go_wp2_with fail
      go_ret
      exact ⟨M, _, rfl, hoM, hM, hMg.out, hB⟩
  obtain ⟨x, hx⟩ : ∃ x, l[k]? = some x := ⟨_, List.getElem?_eq_getElem (by rw [hnn.out]; exact hgo.1)⟩
  have hstepM : (l.take (k + 1)).map (fun x => pcG x.p) = (l.take k).map (fun x => pcG x.p) ++ [pcG x.p] := by rw [List.take_add_one, hx, List.map_append]; rfl
  replace hstepM : Aside ((l.take (k + 1)).map (fun x => pcG x.p) = (l.take k).map (fun x => pcG x.p) ++ [pcG x.p]) := hstepM
  have hL2 := hL.below hB
  obtain ⟨z1, hz1, -⟩ := hL.row k x hx
  subst hz1
  have hclP := hL2.row.at pp_len hx
  have hxAt := hL2.at_ x (List.mem_of_getElem? hx)
  have j1 : (k : Int) < (n : Int) := by omega
  have j2 : (k : Int) < 5 := by omega
  have j3 : ¬ (k : Int) < 0 := by omega
  have j4 : ¬ (n : Int) ≤ (k : Int) := by omega
  have hMl : M.length < 900000 := by
    have := congrArg List.length hMg
    rw [List.length_map, List.length_map, List.length_take] at this
    omega
  replace hMg : Aside (M.map (·.g) = (l.take k).map (fun x => pcG x.p)) := hMg
  clear hx hL2
  obtain ⟨V1, hV1, hth1, hp1, hb1⟩ := put_new wr #[.bool false, .int .i64 0, .int .i64 0, .int .i64 0, .int .i64 0, .int .i64 0, .slice none 0 0] 79 x.cs rfl (by show 0 < 7; decide)
  have honeP : ∀ u ∈ x.cs, u.oneCell' = true := fun u hu => by
    simp [PP.cs] at hu
    rcases hu with rfl | rfl | rfl | rfl | rfl | rfl | rfl <;> rfl
  obtain ⟨X, hX⟩ : ∃ X, x.cs = X := ⟨_, rfl⟩
  have hszX : (Try.prog.info? 79).map (·.size) = some x.cs.length := hszP
  rw [hX] at hclP hV1 hth1 honeP hszX
  go_upto_region 6 with (first | (refine wpList_load_at rfl _ rfl (z1.add (k * 7)) rfl X hclP hundP rfl hszX ?_) | (refine wpList_store_row rfl _ _ rfl wr.heap.size rfl X rfl hth1 hszX honeP hV1 ?_) | fail)
  clear hclP hV1 hth1 honeP hszX hX
  obtain ⟨V, hV⟩ : ∃ V, wr = V := ⟨_, rfl⟩
  rw [hV] at hoM hM hB hp1 hb1 hxAt ⊢
  clear hV
  obtain ⟨bp, hbp⟩ : ∃ bp, V.heap.size = bp := ⟨_, rfl⟩
  rw [hbp] at hp1 ⊢
  have hlt := hp1.2
  have y0 := (hp1.1 0 (.bool x.p.no) rfl).1
  have y1 := (hp1.1 1 (.int .i64 x.p.md) rfl).1
  have hrg : ∀ W, Below V1.heap.size V1 W → CellsAt W ⟨bp, 2, none⟩ [.int .i64 x.p.rg.a, .int .i64 x.p.rg.b, .int .i64 x.p.rg.c, .int .i64 x.p.rg.g] := fun W q j u hu => by
    have h1 : x.cs[2 + j]? = some u := by
      match j, hu with
      | 0, hu => exact hu
      | 1, hu => exact hu
      | 2, hu => exact hu
      | 3, hu => exact hu
    rw [addC_two]
    exact ((stab_blk _ _ _ _ hp1 q).1 _ u h1).1
  have hS0 := (Below.refl V1.heap.size V1).drew
  refine wp_region_held_drew (S := (fun W => Below V1.heap.size V1 W)) (by kernel_rfl) (by exact hS0) ?_
  intro hHeld
  generalize V1.drew = w0 at *
  have hS := hS0
  refine wpAnyH_take (i := 0) (v := ?_) (by simp only [gA, gB, gC]; rfl) (by kernel_rfl) (by kernel_rfl) (by kernel_rfl) (by exact fun _ _ _ h => h) (Or.inl ⟨by rfl, ?_⟩) (by assumption) ?_; rotate_left; (focus (intro w hSw; (try dsimp only at hSw); go_simp; try with_reducible rfl)); (try simp only [Act.put, sA, sB, sC])
  refine wpAnyH_take (i := 1) (v := _) (by simp only [gA, gB, gC]; rfl) (by kernel_rfl) (by kernel_rfl) (by kernel_rfl) (by exact fun _ _ _ h => h) (yields_cellI (by rfl) _ rfl ⟨bp, 0, none⟩ rfl (.bool x.p.no) (fun _ q => (q.cell (p := ⟨bp, 0, none⟩) hlt).trans y0) boolC_load) (by assumption) ?_; (try simp only [Act.put, sA, sB, sC])
  refine wpAnyH_take (i := 2) (v := ?_) (by simp only [gA, gB, gC]; rfl) (by kernel_rfl) (by kernel_rfl) (by kernel_rfl) (by exact fun _ _ _ h => h) (Or.inl ⟨by rfl, ?_⟩) (by assumption) ?_; rotate_left; (focus (intro w hSw; (try dsimp only at hSw); go_simp; try with_reducible rfl)); (try simp only [Act.put, sA, sB, sC])
  refine wpAnyH_take (i := 3) (v := ?_) (by simp only [gA, gB, gC]; rfl) (by kernel_rfl) (by kernel_rfl) (by kernel_rfl) (by exact fun _ _ _ h => h) (Or.inl ⟨by rfl, ?_⟩) (by assumption) ?_; rotate_left; (focus (intro w hSw; (try dsimp only at hSw); go_simp; try with_reducible rfl)); (try simp only [Act.put, sA, sB, sC])
  refine wpAnyH_take (i := 4) (v := _) (by simp only [gA, gB, gC]; rfl) (by kernel_rfl) (by kernel_rfl) (by kernel_rfl) (by exact fun _ _ _ h => h) (yields_cellI (by rfl) _ rfl ⟨bp, 1, none⟩ rfl (.int .i64 x.p.md) (fun _ q => (q.cell (p := ⟨bp, 1, none⟩) hlt).trans y1) intI_load) (by assumption) ?_; (try simp only [Act.put, sA, sB, sC])
  refine wpAnyH_take (i := 6) (v := ?_) (by simp only [gA, gB, gC]; rfl) (by kernel_rfl) (by kernel_rfl) (by kernel_rfl) (by exact fun _ _ _ h => h) (Or.inl ⟨by rfl, ?_⟩) (by assumption) ?_; rotate_left; (focus (intro w hSw; (try dsimp only at hSw); go_simp; try with_reducible rfl)); (try simp only [Act.put, sA, sB, sC])
  refine wpAnyH_take (i := 7) (v := _) (by simp only [gA, gB, gC]; rfl) (by kernel_rfl) (by kernel_rfl) (by kernel_rfl) (by exact fun _ _ _ h => h) (yields_at (by rfl) _ rfl ⟨bp, 2, none⟩ rfl [.int .i64 x.p.rg.a, .int .i64 x.p.rg.b, .int .i64 x.p.rg.c, .int .i64 x.p.rg.g] (fun _ q => hrg _ q) hundR rfl hszR) (by assumption) ?_; (try simp only [Act.put, sA, sB, sC])
  refine wpAnyH_ready (rs := [5, 10]) (by kernel_rfl) (by simp) ?_
  refine AllReadyH.cons (by simp only [gA, gB, gC]; rfl) (fun K hK => ?_) ?_
  · go_simp
    go_at_call 16
    refine (w16_any x.p.md 8 (by decide) (by decide) _).mono ?_
    rintro e w' ⟨rfl, hw⟩
    rw [hw]
    clear hw w'
    obtain ⟨w1, hwe⟩ : ∃ x, w0 = x := ⟨_, rfl⟩
    rw [hwe] at hS ⊢
    clear hwe
    refine hK.out _ _ (hS) ?_
    clear hHeld hK
    intro hHeld
    (try simp only [Act.put, sA, sB, sC])
    refine wpAnyH_ready (rs := [8, 10]) (by kernel_rfl) (by simp) ?_
    refine AllReadyH.cons (by simp only [gA, gB, gC]; rfl) (fun K hK => ?_) ?_
    · go_simp
      go_at_call 30
      refine (rggood_any x.p.rg _).mono ?_
      rintro e w2 ⟨rfl, hb⟩
      replace hS := Below.then hS hb
      clear hb
      refine hK.out _ _ (hS) ?_
      clear hHeld hK
      intro hHeld
      (try simp only [Act.put, sA, sB, sC])
      refine wpAnyH_take (i := 9) (v := ?_) (by simp only [gA, gB, gC]; rfl) (by kernel_rfl) (by kernel_rfl) (by kernel_rfl) (by exact fun _ _ _ h => h) (Or.inl ⟨by rfl, ?_⟩) (by assumption) ?_; rotate_left; (focus (intro w hSw; (try dsimp only at hSw); go_simp; try with_reducible rfl)); (try simp only [Act.put, sA, sB, sC])
      refine wpAnyH_ready (rs := [10]) (by kernel_rfl) (by simp) ?_
      refine AllReadyH.cons (by simp only [gA, gB, gC]; rfl) (fun K hK => ?_) AllReadyH.nil
      have hb := alloc_below w2 (.cells zG7 57)
      have hz : BlkL w2.heap.size zeroPG.cs (w2.alloc (.cells zG7 57)) := blkl_alloc w2 zeroPG.cs.toArray 57
      have hgz := hS.size
      refine step_allocC (z := zG7) rfl rfl (fun _ => rfl) ?_
      (try simp only [Act.put, sA, sB, sC])
      refine hK.out _ _ (Below.then hS hb) ?_
      clear hHeld hK
      intro hHeld
      replace hS := Below.then hS hb
      clear hb
      generalize w2.alloc (.cells zG7 57) = w3 at *
      generalize w2.heap.size = gz at *
      (try simp only [Act.put, sA, sB, sC])
      refine wpAnyH_ready (rs := [11]) (by kernel_rfl) (by simp) ?_
      refine AllReadyH.cons (by simp only [gA, gB, gC]; rfl) (fun K hK => ?_) AllReadyH.nil
      obtain ⟨W7, hW7, hth7, hb7, hk7⟩ := put_any hz (ds := sgCs (pc0 x.p) nilS) rfl (by show 0 < 7; decide)
      have hS7 := hk7 _ _ hgz hS
      refine step_store_rowC rfl _ _ rfl gz rfl (sgCs (pc0 x.p) nilS) rfl hth7 hszG (sgCs_one _ _ _ _) hW7 ?_
      (try simp only [Act.put, sA, sB, sC])
      refine hK.out _ _ (hS7) ?_
      clear hHeld hK
      intro hHeld
      (try simp only [Act.put, sA, sB, sC])
      refine wpAnyH_done (by kernel_rfl) ?_ _
      have hgc := hb7
      have hSc := hS7
      have hgv := hgz
      clear hb7 hS7 hgz hz hS hW7 hth7 hk7
      generalize W7 = wc at *
      generalize gz = bg at *
      have hpc := stab_blk _ _ _ _ hp1 hSc
      have hVc := Below.then hb1 hSc
      replace hlt : bp < bg := Nat.lt_of_lt_of_le hp1.2 hgv
      have hle : V.heap.size ≤ bg := by omega
      clear hp1 hb1 hSc y0 y1 hrg hS0 hgv
      obtain ⟨wn, hwn⟩ : ∃ wn, x.p.ws.length = wn := ⟨_, rfl⟩
      have hwl := hxAt.len
      rw [hwn] at hwl
      go_wp2_with fail
      go_loopw [7] (fun t7 wr => ∃ (j : Nat) (v : Value), j ≤ wn ∧ j ≤ 16 ∧ t7 = .int .i64 (j : Int) ∧ BlkL bp x.cs wr ∧ BlkL bg (sgCs (pc0 x.p) v) wr ∧ OwnR 2 1 wcl wr (bg + 1) v ((x.p.ws.take j).map wdW) ∧ Below V.heap.size V wr) (fun t7 _ => 16 - (Go.RowKit.intOf t7).toNat)
      case atStart => exact ⟨0, nilS, by omega, by omega, rfl, hpc, hgc, OwnR.nil _ _ _ _ _, hVc⟩
      case round =>
      clear hpc hgc hVc
      obtain ⟨j, v, hjn, hj16, rfl, hp, hg, ho, hV⟩ := hrel
      have y6 : wr.cell? ⟨bp, 6, none⟩ = some (.slice x.wa wn x.wc) := by rw [← hwn]; exact (hp.1 6 _ rfl).1
      by_cases hgo2 : j < wn ∧ j < 16
      · obtain ⟨q, hq⟩ : ∃ q, x.p.ws[j]? = some q := ⟨_, List.getElem?_eq_getElem (by rw [hwn]; exact hgo2.1)⟩
        have hstep : (x.p.ws.take (j + 1)).map wdW = (x.p.ws.take j).map wdW ++ [wdW q] := by rw [List.take_add_one, hq, List.map_append]; rfl
        have hll : ((x.p.ws.take j).map wdW).length < 900000 := by rw [List.length_map, List.length_take]; omega
        obtain ⟨z2, hz2, -⟩ := hxAt.row j q hq
        have hrow := hxAt.row
        rw [hz2] at y6 hrow
        have hrowW : RowAt 8 wd8 V (some z2) x.p.ws := hrow
        have hqb : (z2.add (j * 8)).block < V.heap.size := by
          obtain ⟨z3, hz3, hc3⟩ := hrowW j q hq
          obtain rfl := Option.some.inj hz3
          have h0 := hc3 0 (by decide)
          have := World.block_lt_of_cell? _ _ (h0.trans rfl)
          rw [Nat.add_zero] at this
          exact this
        have hcl : ∀ W, Below bg wr W → CellsAt W (z2.add (j * 8)) (wd8 q) := fun W r i u hu => by
          have h1 := ((hrowW.below wd8_len hV).at wd8_len hq) i u hu
          exact (r.cell (p := (z2.add (j * 8)).add i) (by rw [addC_block]; omega)).trans h1
        have i1 : (j : Int) < (wn : Int) := by omega
        have i2 : (j : Int) < 16 := by omega
        have i3 : ¬ (j : Int) < 0 := by omega
        have i4 : ¬ (wn : Int) ≤ (j : Int) := by omega
        replace hstep : Aside ((x.p.ws.take (j + 1)).map wdW = (x.p.ws.take j).map wdW ++ [wdW q]) := hstep
        replace hll : Aside (((x.p.ws.take j).map wdW).length < 900000) := hll
        clear hq hrow hz2 hrowW hqb
        go_upto_region 10 with fail
        obtain ⟨Z, hZ⟩ : ∃ Z, wr = Z := ⟨_, rfl⟩
        rw [hZ] at y6 hp hg ho hV ⊢
        simp only [hZ] at hcl
        clear hZ
        have hdr := (Below.refl Z.heap.size Z).drew
        have ho0 := ho.below hdr
        have hg0 := stab_blk _ _ _ _ hg hdr
        have hS0 : Below bg Z Z.drew := hdr.mono (Nat.le_of_lt hg.2)
        have hstep := hstep.out
        have hll := hll.out
        clear ho hg
        refine wp_region_held_drew (S := (fun W => Below bg Z W)) (by kernel_rfl) (by exact hS0) ?_
        intro hHeld
        generalize Z.drew = w0 at *
        have hS := hS0
        have hg := hg0
        have ho := ho0
        refine wpAnyH_take (i := 0) (v := ?_) (by simp only [gA, gB, gC]; rfl) (by kernel_rfl) (by kernel_rfl) (by kernel_rfl) (by exact fun _ _ _ h => h) (Or.inl ⟨by rfl, ?_⟩) (by assumption) ?_; rotate_left; (focus (intro w hSw; (try dsimp only at hSw); go_simp; try with_reducible rfl)); (try simp only [Act.put, sA, sB, sC])
        refine wpAnyH_take (i := 2) (v := ?_) (by simp only [gA, gB, gC]; rfl) (by kernel_rfl) (by kernel_rfl) (by kernel_rfl) (by exact fun _ _ _ h => h) (Or.inl ⟨by rfl, ?_⟩) (by assumption) ?_; rotate_left; (focus (intro w hSw; (try dsimp only at hSw); go_simp; try with_reducible rfl)); (try simp only [Act.put, sA, sB, sC])
        refine wpAnyH_take (i := 3) (v := _) (by simp only [gA, gB, gC]; rfl) (by kernel_rfl) (by kernel_rfl) (by kernel_rfl) (by exact fun _ _ _ h => h) (yields_cellI (by rfl) _ rfl ⟨bp, 6, none⟩ rfl (.slice (some z2) wn x.wc) (fun _ q => (q.cell (p := ⟨bp, 6, none⟩) hlt).trans y6) wdxs_load) (by assumption) ?_; (try simp only [Act.put, sA, sB, sC])
        refine wpAnyH_take (i := 4) (v := ?_) (by simp only [gA, gB, gC]; rfl) (by kernel_rfl) (by kernel_rfl) (by kernel_rfl) (by exact fun _ _ _ h => h) (Or.inl ⟨by rfl, ?_⟩) (by assumption) ?_; rotate_left; (focus (intro w hSw; (try dsimp only at hSw); go_simp; try with_reducible rfl)); (try simp only [Act.put, sA, sB, sC])
        refine wpAnyH_take (i := 5) (v := ?_) (by simp only [gA, gB, gC]; rfl) (by kernel_rfl) (by kernel_rfl) (by kernel_rfl) (by exact fun _ _ _ h => h) (Or.inl ⟨by rfl, ?_⟩) (by assumption) ?_; rotate_left; (focus (intro w hSw; (try dsimp only at hSw); go_simp; try with_reducible rfl)); (try simp only [Act.put, sA, sB, sC])
        refine wpAnyH_take (i := 6) (v := _) (by simp only [gA, gB, gC]; rfl) (by kernel_rfl) (by kernel_rfl) (by kernel_rfl) (by exact fun _ _ _ h => h) (yields_at (by rfl) _ rfl (z2.add (j * 8)) rfl (wd8 q) (fun _ r => hcl _ r) hundW rfl hszW) (by assumption) ?_; (try simp only [Act.put, sA, sB, sC])
        refine wpAnyH_ready (rs := [1, 7]) (by kernel_rfl) (by simp) ?_
        refine AllReadyH.cons (by simp only [gA, gB, gC]; rfl) (fun K hK => ?_) ?_
        · skip
          refine step_oneJ rfl _ rfl ⟨bg, 1, none⟩ rfl v (hg.1 1 _ rfl).1 wds_loadC ?_
          (try simp only [Act.put, sA, sB, sC])
          refine hK.out _ _ (hS) ?_
          clear hHeld hK
          intro hHeld
          (try simp only [Act.put, sA, sB, sC])
          refine wpAnyH_ready (rs := [7]) (by kernel_rfl) (by simp) ?_
          refine AllReadyH.cons (by simp only [gA, gB, gC]; rfl) (fun K hK => ?_) AllReadyH.nil
          go_simp
          go_at_call 31
          refine (word_any q _).mono ?_
          rintro e w1 ⟨rfl, hb⟩
          replace hS := hS.trans (hb.mono (Nat.le_of_lt hg.2))
          replace hg := stab_blk _ _ _ _ hg hb
          replace ho := ho.below hb
          clear hb
          obtain ⟨v3, W3, hap, ho3, hgr⟩ := OwnR.push wd_okC ho (show bg + 1 ≤ w1.heap.size from hg.2) (wdW q) (wcl (wdW q)).toArray rfl 2 hll
          have hb3 := ho.grew_below (show bg + 1 ≤ w1.heap.size from hg.2) hgr
          have hbA := alloc_below w1 (.cells (wcl (wdW q)).toArray 2)
          have hgA := stab_blk _ _ _ _ hg hbA
          have hSA := hS.trans (hbA.mono (Nat.le_of_lt hg.2))
          have hS3 := hS.trans (hb3.mono (Nat.le_succ _))
          have hg3 : BlkL bg (sgCs (pc0 x.p) v) W3 := ⟨hg.1.same (hb3.block _ (Nat.lt_succ_self _)), Nat.lt_of_lt_of_le hg.2 hb3.size⟩
          obtain ⟨a3, c3, hv3, -, -, -⟩ := ho3.slice wd_okC.len
          clear hgr hbA hb3
          refine hK.out _ _ (hS) ?_
          clear hHeld hK
          intro hHeld
          (try simp only [Act.put, sA, sB, sC])
          refine wpAnyH_ready (rs := [8]) (by kernel_rfl) (by simp) ?_
          refine AllReadyH.cons (by simp only [gA, gB, gC]; rfl) (fun K hK => ?_) AllReadyH.nil
          go_simp
          refine hK.out _ _ (hSA) ?_
          clear hHeld hK
          intro hHeld
          (try simp only [Act.put, sA, sB, sC])
          refine wpAnyH_ready (rs := [9]) (by kernel_rfl) (by simp) ?_
          refine AllReadyH.cons (by simp only [gA, gB, gC]; rfl) (fun K hK => ?_) AllReadyH.nil
          refine step_append rfl _ _ rfl rfl rfl rfl hap ?_
          (try simp only [Act.put, sA, sB, sC])
          refine hK.out _ _ (hS3) ?_
          clear hHeld hK
          intro hHeld
          clear hap
          (try simp only [Act.put, sA, sB, sC])
          refine wpAnyH_take (i := 10) (v := ?_) (by simp only [gA, gB, gC]; rfl) (by kernel_rfl) (by kernel_rfl) (by kernel_rfl) (by exact fun _ _ _ h => h) (Or.inl ⟨by rfl, ?_⟩) (by assumption) ?_; rotate_left; (focus (intro w hSw; (try dsimp only at hSw); go_simp; try with_reducible rfl)); (try simp only [Act.put, sA, sB, sC])
          refine wpAnyH_ready (rs := [11]) (by kernel_rfl) (by simp) ?_
          refine AllReadyH.cons (by simp only [gA, gB, gC]; rfl) (fun K hK => ?_) AllReadyH.nil
          have xf := hg3.1 1 _ rfl
          have hg4 := gset _ _ v3 hg3
          have ho4 := ho3.keep (w' := W3.setCell ⟨bg, 1, none⟩ v3) (fun q hq => heap_setCell_other _ ⟨bg, 1, none⟩ q _ (by have := (ho3.lt hq).1; show q ≠ bg; omega))
          rw [← hstep] at ho4
          have hS4 := hS3.setCell (p := ⟨bg, 1, none⟩) (Nat.le_refl _) v3
          have hp4 : BlkL bp x.cs (W3.setCell ⟨bg, 1, none⟩ v3) := ⟨hp.1.same (hS4.block _ hlt), Nat.lt_of_lt_of_le hp.2 hS4.size⟩
          have hV4 := hV.trans (hS4.mono hle)
          refine step_storeK rfl _ _ rfl ⟨bg, 1, none⟩ rfl v3 rfl (wdsC_store _ _ _ _ hv3 xf.1 xf.2) ?_
          (try simp only [Act.put, sA, sB, sC])
          refine hK.out _ _ (hS4) ?_
          clear hHeld hK
          intro hHeld
          (try simp only [Act.put, sA, sB, sC])
          refine wpAnyH_done (by kernel_rfl) ?_ _
          clear hv3
          go_wp2_with fail
          exact ⟨⟨j + 1, v3, by omega, by omega, by simp, hp4, hg4, ho4, hV4⟩, by simp [Go.RowKit.intOf]; omega⟩
        refine AllReadyH.cons (by simp only [gA, gB, gC]; rfl) (fun K hK => ?_) AllReadyH.nil
        go_simp
        go_at_call 31
        refine (word_any q _).mono ?_
        rintro e w1 ⟨rfl, hb⟩
        replace hS := hS.trans (hb.mono (Nat.le_of_lt hg.2))
        replace hg := stab_blk _ _ _ _ hg hb
        replace ho := ho.below hb
        clear hb
        obtain ⟨v3, W3, hap, ho3, hgr⟩ := OwnR.push wd_okC ho (show bg + 1 ≤ w1.heap.size from hg.2) (wdW q) (wcl (wdW q)).toArray rfl 2 hll
        have hb3 := ho.grew_below (show bg + 1 ≤ w1.heap.size from hg.2) hgr
        have hbA := alloc_below w1 (.cells (wcl (wdW q)).toArray 2)
        have hgA := stab_blk _ _ _ _ hg hbA
        have hSA := hS.trans (hbA.mono (Nat.le_of_lt hg.2))
        have hS3 := hS.trans (hb3.mono (Nat.le_succ _))
        have hg3 : BlkL bg (sgCs (pc0 x.p) v) W3 := ⟨hg.1.same (hb3.block _ (Nat.lt_succ_self _)), Nat.lt_of_lt_of_le hg.2 hb3.size⟩
        obtain ⟨a3, c3, hv3, -, -, -⟩ := ho3.slice wd_okC.len
        clear hgr hbA hb3
        refine hK.out _ _ (hS) ?_
        clear hHeld hK
        intro hHeld
        (try simp only [Act.put, sA, sB, sC])
        refine wpAnyH_ready (rs := [1, 8]) (by kernel_rfl) (by simp) ?_
        refine AllReadyH.cons (by simp only [gA, gB, gC]; rfl) (fun K hK => ?_) ?_
        · skip
          refine step_oneJ rfl _ rfl ⟨bg, 1, none⟩ rfl v (hg.1 1 _ rfl).1 wds_loadC ?_
          (try simp only [Act.put, sA, sB, sC])
          refine hK.out _ _ (hS) ?_
          clear hHeld hK
          intro hHeld
          (try simp only [Act.put, sA, sB, sC])
          refine wpAnyH_ready (rs := [8]) (by kernel_rfl) (by simp) ?_
          refine AllReadyH.cons (by simp only [gA, gB, gC]; rfl) (fun K hK => ?_) AllReadyH.nil
          go_simp
          refine hK.out _ _ (hSA) ?_
          clear hHeld hK
          intro hHeld
          (try simp only [Act.put, sA, sB, sC])
          refine wpAnyH_ready (rs := [9]) (by kernel_rfl) (by simp) ?_
          refine AllReadyH.cons (by simp only [gA, gB, gC]; rfl) (fun K hK => ?_) AllReadyH.nil
          refine step_append rfl _ _ rfl rfl rfl rfl hap ?_
          (try simp only [Act.put, sA, sB, sC])
          refine hK.out _ _ (hS3) ?_
          clear hHeld hK
          intro hHeld
          clear hap
          (try simp only [Act.put, sA, sB, sC])
          refine wpAnyH_take (i := 10) (v := ?_) (by simp only [gA, gB, gC]; rfl) (by kernel_rfl) (by kernel_rfl) (by kernel_rfl) (by exact fun _ _ _ h => h) (Or.inl ⟨by rfl, ?_⟩) (by assumption) ?_; rotate_left; (focus (intro w hSw; (try dsimp only at hSw); go_simp; try with_reducible rfl)); (try simp only [Act.put, sA, sB, sC])
          refine wpAnyH_ready (rs := [11]) (by kernel_rfl) (by simp) ?_
          refine AllReadyH.cons (by simp only [gA, gB, gC]; rfl) (fun K hK => ?_) AllReadyH.nil
          have xf := hg3.1 1 _ rfl
          have hg4 := gset _ _ v3 hg3
          have ho4 := ho3.keep (w' := W3.setCell ⟨bg, 1, none⟩ v3) (fun q hq => heap_setCell_other _ ⟨bg, 1, none⟩ q _ (by have := (ho3.lt hq).1; show q ≠ bg; omega))
          rw [← hstep] at ho4
          have hS4 := hS3.setCell (p := ⟨bg, 1, none⟩) (Nat.le_refl _) v3
          have hp4 : BlkL bp x.cs (W3.setCell ⟨bg, 1, none⟩ v3) := ⟨hp.1.same (hS4.block _ hlt), Nat.lt_of_lt_of_le hp.2 hS4.size⟩
          have hV4 := hV.trans (hS4.mono hle)
          refine step_storeK rfl _ _ rfl ⟨bg, 1, none⟩ rfl v3 rfl (wdsC_store _ _ _ _ hv3 xf.1 xf.2) ?_
          (try simp only [Act.put, sA, sB, sC])
          refine hK.out _ _ (hS4) ?_
          clear hHeld hK
          intro hHeld
          (try simp only [Act.put, sA, sB, sC])
          refine wpAnyH_done (by kernel_rfl) ?_ _
          clear hv3
          go_wp2_with fail
          exact ⟨⟨j + 1, v3, by omega, by omega, by simp, hp4, hg4, ho4, hV4⟩, by simp [Go.RowKit.intOf]; omega⟩
        refine AllReadyH.cons (by simp only [gA, gB, gC]; rfl) (fun K hK => ?_) AllReadyH.nil
        go_simp
        refine hK.out _ _ (hSA) ?_
        clear hHeld hK
        intro hHeld
        (try simp only [Act.put, sA, sB, sC])
        refine wpAnyH_ready (rs := [1]) (by kernel_rfl) (by simp) ?_
        refine AllReadyH.cons (by simp only [gA, gB, gC]; rfl) (fun K hK => ?_) AllReadyH.nil
        refine step_oneJ rfl _ rfl ⟨bg, 1, none⟩ rfl v (hgA.1 1 _ rfl).1 wds_loadC ?_
        (try simp only [Act.put, sA, sB, sC])
        refine hK.out _ _ (hSA) ?_
        clear hHeld hK
        intro hHeld
        (try simp only [Act.put, sA, sB, sC])
        refine wpAnyH_ready (rs := [9]) (by kernel_rfl) (by simp) ?_
        refine AllReadyH.cons (by simp only [gA, gB, gC]; rfl) (fun K hK => ?_) AllReadyH.nil
        refine step_append rfl _ _ rfl rfl rfl rfl hap ?_
        (try simp only [Act.put, sA, sB, sC])
        refine hK.out _ _ (hS3) ?_
        clear hHeld hK
        intro hHeld
        clear hap
        (try simp only [Act.put, sA, sB, sC])
        refine wpAnyH_take (i := 10) (v := ?_) (by simp only [gA, gB, gC]; rfl) (by kernel_rfl) (by kernel_rfl) (by kernel_rfl) (by exact fun _ _ _ h => h) (Or.inl ⟨by rfl, ?_⟩) (by assumption) ?_; rotate_left; (focus (intro w hSw; (try dsimp only at hSw); go_simp; try with_reducible rfl)); (try simp only [Act.put, sA, sB, sC])
        refine wpAnyH_ready (rs := [11]) (by kernel_rfl) (by simp) ?_
        refine AllReadyH.cons (by simp only [gA, gB, gC]; rfl) (fun K hK => ?_) AllReadyH.nil
        have xf := hg3.1 1 _ rfl
        have hg4 := gset _ _ v3 hg3
        have ho4 := ho3.keep (w' := W3.setCell ⟨bg, 1, none⟩ v3) (fun q hq => heap_setCell_other _ ⟨bg, 1, none⟩ q _ (by have := (ho3.lt hq).1; show q ≠ bg; omega))
        rw [← hstep] at ho4
        have hS4 := hS3.setCell (p := ⟨bg, 1, none⟩) (Nat.le_refl _) v3
        have hp4 : BlkL bp x.cs (W3.setCell ⟨bg, 1, none⟩ v3) := ⟨hp.1.same (hS4.block _ hlt), Nat.lt_of_lt_of_le hp.2 hS4.size⟩
        have hV4 := hV.trans (hS4.mono hle)
        refine step_storeK rfl _ _ rfl ⟨bg, 1, none⟩ rfl v3 rfl (wdsC_store _ _ _ _ hv3 xf.1 xf.2) ?_
        (try simp only [Act.put, sA, sB, sC])
        refine hK.out _ _ (hS4) ?_
        clear hHeld hK
        intro hHeld
        (try simp only [Act.put, sA, sB, sC])
        refine wpAnyH_done (by kernel_rfl) ?_ _
        clear hv3
        go_wp2_with fail
        exact ⟨⟨j + 1, v3, by omega, by omega, by simp, hp4, hg4, ho4, hV4⟩, by simp [Go.RowKit.intOf]; omega⟩
      · have hend : (x.p.ws.take j).map wdW = (pcG x.p).ws := by
          show (x.p.ws.take j).map wdW = (x.p.ws.take 16).map wdW
          by_cases h8 : j = 16
          · rw [h8]
          · rw [List.take_of_length_le (by omega), List.take_of_length_le (by omega)]
        rw [hend] at ho
        obtain ⟨a2, cap2, hv2, -, -, -⟩ := ho.slice wd_okC.len
        obtain ⟨y, hy⟩ : ∃ y : PG, PG.mk (pcG x.p) a2 cap2 = y := ⟨_, rfl⟩
        have hyv : y.v = v := by rw [← hy, hv2]; rfl
        have hyg : y.g = pcG x.p := by rw [← hy]
        have hyc : sgCs (pc0 x.p) v = y.cs := by rw [← hy, hv2]; rfl
        rw [hyc] at hg
        rw [← hyv, ← hyg] at ho
        have hrg := hg.range
        have hoM2 := hoM.below hV
        have hM2 := hM.below hV
        have hB2 := Below.then hB hV
        have hBs := hB2.size
        obtain ⟨vM, W3, hap, hoM3, hgr⟩ := OwnR.push pg_okC hoM2 hBs y y.cs.toArray rfl 57 hMl
        have hb3 := hoM2.grew_below hBs hgr
        have hB3 := hB2.trans hb3
        have keepW : ∀ {B : Nat} {u : Value} {ws : List Int}, OwnR 2 1 wcl wr B u ws → OwnR 2 1 wcl W3 B u ws := fun {B u ws} h => h.keep fun q hq => hgr.by_.block q (h.lt hq).2 (fun r => own_apart h hoM2 (by decide) hq r.symm)
        have hM3 : MadeM W3 w.heap.size (M ++ [y]) := fun z hz => by
          rcases List.mem_append.1 hz with hz | hz
          · exact keepW (hM2 z hz)
          · rw [List.mem_singleton.1 hz]
            have := hB.size
            exact (keepW ho).lower (by omega)
        have hMg3 : Aside ((M ++ [y]).map (·.g) = (l.take (k + 1)).map (fun x => pcG x.p)) := by
          show _ = _
          rw [hstepM.out, List.map_append, hMg.out, ← hyg]; rfl
        have hsplit : ¬ (j : Int) < (wn : Int) ∨ (j : Int) < (wn : Int) ∧ ¬ (j : Int) < 16 := by omega
        have hszY : (Try.prog.info? 57).map (·.size) = some y.cs.length := hszG
        have hylen : y.cs.length = 7 := pg_len y
        obtain ⟨Y, hY⟩ : ∃ Y, y.cs = Y := ⟨_, rfl⟩
        rw [hY] at hrg hap hszY hylen
        clear hp hg ho hoM hM hoM2 hM2 hB hB2 hb3 hgr keepW hY hyc hyv hyg hy hv2 hend hV
        rcases hsplit with i1 | ⟨i1, i2⟩
        all_goals
          go_wp2_with (first | (refine wpList_load_row rfl _ rfl bg rfl Y hrg hundG rfl hszY ?_) | (refine wpList_build1 pg_okC (by decide) rfl _ rfl Y rfl hylen ?_) | (refine wpList_append rfl _ _ rfl rfl rfl rfl hap ?_) | fail)
          exact ⟨⟨k + 1, M ++ [y], by omega, by omega, by simp, hoM3, hM3, hMg3.out, hB3⟩, by simp [Go.RowKit.intOf]; omega⟩
    refine AllReadyH.cons (by simp only [gA, gB, gC]; rfl) (fun K hK => ?_) AllReadyH.nil
    have hb := alloc_below w1 (.cells zG7 57)
    have hz : BlkL w1.heap.size zeroPG.cs (w1.alloc (.cells zG7 57)) := blkl_alloc w1 zeroPG.cs.toArray 57
    have hgz := hS.size
    refine step_allocC (z := zG7) rfl rfl (fun _ => rfl) ?_
    (try simp only [Act.put, sA, sB, sC])
    refine hK.out _ _ (Below.then hS hb) ?_
    clear hHeld hK
    intro hHeld
    replace hS := Below.then hS hb
    clear hb
    generalize w1.alloc (.cells zG7 57) = w2 at *
    generalize w1.heap.size = gz at *
    (try simp only [Act.put, sA, sB, sC])
    refine wpAnyH_ready (rs := [8]) (by kernel_rfl) (by simp) ?_
    refine AllReadyH.cons (by simp only [gA, gB, gC]; rfl) (fun K hK => ?_) AllReadyH.nil
    go_simp
    go_at_call 30
    refine (rggood_any x.p.rg _).mono ?_
    rintro e w3 ⟨rfl, hb⟩
    replace hS := Below.then hS hb
    replace hz := stab_blk _ _ _ _ hz hb
    clear hb
    refine hK.out _ _ (hS) ?_
    clear hHeld hK
    intro hHeld
    (try simp only [Act.put, sA, sB, sC])
    refine wpAnyH_take (i := 9) (v := ?_) (by simp only [gA, gB, gC]; rfl) (by kernel_rfl) (by kernel_rfl) (by kernel_rfl) (by exact fun _ _ _ h => h) (Or.inl ⟨by rfl, ?_⟩) (by assumption) ?_; rotate_left; (focus (intro w hSw; (try dsimp only at hSw); go_simp; try with_reducible rfl)); (try simp only [Act.put, sA, sB, sC])
    refine wpAnyH_ready (rs := [11]) (by kernel_rfl) (by simp) ?_
    refine AllReadyH.cons (by simp only [gA, gB, gC]; rfl) (fun K hK => ?_) AllReadyH.nil
    obtain ⟨W7, hW7, hth7, hb7, hk7⟩ := put_any hz (ds := sgCs (pc0 x.p) nilS) rfl (by show 0 < 7; decide)
    have hS7 := hk7 _ _ hgz hS
    refine step_store_rowC rfl _ _ rfl gz rfl (sgCs (pc0 x.p) nilS) rfl hth7 hszG (sgCs_one _ _ _ _) hW7 ?_
    (try simp only [Act.put, sA, sB, sC])
    refine hK.out _ _ (hS7) ?_
    clear hHeld hK
    intro hHeld
    (try simp only [Act.put, sA, sB, sC])
    refine wpAnyH_done (by kernel_rfl) ?_ _
    have hgc := hb7
    have hSc := hS7
    have hgv := hgz
    clear hb7 hS7 hgz hz hS hW7 hth7 hk7
    generalize W7 = wc at *
    generalize gz = bg at *
    have hpc := stab_blk _ _ _ _ hp1 hSc
    have hVc := Below.then hb1 hSc
    replace hlt : bp < bg := Nat.lt_of_lt_of_le hp1.2 hgv
    have hle : V.heap.size ≤ bg := by omega
    clear hp1 hb1 hSc y0 y1 hrg hS0 hgv
    obtain ⟨wn, hwn⟩ : ∃ wn, x.p.ws.length = wn := ⟨_, rfl⟩
    have hwl := hxAt.len
    rw [hwn] at hwl
    go_wp2_with fail
    go_loopw [7] (fun t7 wr => ∃ (j : Nat) (v : Value), j ≤ wn ∧ j ≤ 16 ∧ t7 = .int .i64 (j : Int) ∧ BlkL bp x.cs wr ∧ BlkL bg (sgCs (pc0 x.p) v) wr ∧ OwnR 2 1 wcl wr (bg + 1) v ((x.p.ws.take j).map wdW) ∧ Below V.heap.size V wr) (fun t7 _ => 16 - (Go.RowKit.intOf t7).toNat)
    case atStart => exact ⟨0, nilS, by omega, by omega, rfl, hpc, hgc, OwnR.nil _ _ _ _ _, hVc⟩
    case round =>
    clear hpc hgc hVc
    obtain ⟨j, v, hjn, hj16, rfl, hp, hg, ho, hV⟩ := hrel
    have y6 : wr.cell? ⟨bp, 6, none⟩ = some (.slice x.wa wn x.wc) := by rw [← hwn]; exact (hp.1 6 _ rfl).1
    by_cases hgo2 : j < wn ∧ j < 16
    · obtain ⟨q, hq⟩ : ∃ q, x.p.ws[j]? = some q := ⟨_, List.getElem?_eq_getElem (by rw [hwn]; exact hgo2.1)⟩
      have hstep : (x.p.ws.take (j + 1)).map wdW = (x.p.ws.take j).map wdW ++ [wdW q] := by rw [List.take_add_one, hq, List.map_append]; rfl
      have hll : ((x.p.ws.take j).map wdW).length < 900000 := by rw [List.length_map, List.length_take]; omega
      obtain ⟨z2, hz2, -⟩ := hxAt.row j q hq
      have hrow := hxAt.row
      rw [hz2] at y6 hrow
      have hrowW : RowAt 8 wd8 V (some z2) x.p.ws := hrow
      have hqb : (z2.add (j * 8)).block < V.heap.size := by
        obtain ⟨z3, hz3, hc3⟩ := hrowW j q hq
        obtain rfl := Option.some.inj hz3
        have h0 := hc3 0 (by decide)
        have := World.block_lt_of_cell? _ _ (h0.trans rfl)
        rw [Nat.add_zero] at this
        exact this
      have hcl : ∀ W, Below bg wr W → CellsAt W (z2.add (j * 8)) (wd8 q) := fun W r i u hu => by
        have h1 := ((hrowW.below wd8_len hV).at wd8_len hq) i u hu
        exact (r.cell (p := (z2.add (j * 8)).add i) (by rw [addC_block]; omega)).trans h1
      have i1 : (j : Int) < (wn : Int) := by omega
      have i2 : (j : Int) < 16 := by omega
      have i3 : ¬ (j : Int) < 0 := by omega
      have i4 : ¬ (wn : Int) ≤ (j : Int) := by omega
      replace hstep : Aside ((x.p.ws.take (j + 1)).map wdW = (x.p.ws.take j).map wdW ++ [wdW q]) := hstep
      replace hll : Aside (((x.p.ws.take j).map wdW).length < 900000) := hll
      clear hq hrow hz2 hrowW hqb
      go_upto_region 10 with fail
      obtain ⟨Z, hZ⟩ : ∃ Z, wr = Z := ⟨_, rfl⟩
      rw [hZ] at y6 hp hg ho hV ⊢
      simp only [hZ] at hcl
      clear hZ
      have hdr := (Below.refl Z.heap.size Z).drew
      have ho0 := ho.below hdr
      have hg0 := stab_blk _ _ _ _ hg hdr
      have hS0 : Below bg Z Z.drew := hdr.mono (Nat.le_of_lt hg.2)
      have hstep := hstep.out
      have hll := hll.out
      clear ho hg
      refine wp_region_held_drew (S := (fun W => Below bg Z W)) (by kernel_rfl) (by exact hS0) ?_
      intro hHeld
      generalize Z.drew = w0 at *
      have hS := hS0
      have hg := hg0
      have ho := ho0
      refine wpAnyH_take (i := 0) (v := ?_) (by simp only [gA, gB, gC]; rfl) (by kernel_rfl) (by kernel_rfl) (by kernel_rfl) (by exact fun _ _ _ h => h) (Or.inl ⟨by rfl, ?_⟩) (by assumption) ?_; rotate_left; (focus (intro w hSw; (try dsimp only at hSw); go_simp; try with_reducible rfl)); (try simp only [Act.put, sA, sB, sC])
      refine wpAnyH_take (i := 2) (v := ?_) (by simp only [gA, gB, gC]; rfl) (by kernel_rfl) (by kernel_rfl) (by kernel_rfl) (by exact fun _ _ _ h => h) (Or.inl ⟨by rfl, ?_⟩) (by assumption) ?_; rotate_left; (focus (intro w hSw; (try dsimp only at hSw); go_simp; try with_reducible rfl)); (try simp only [Act.put, sA, sB, sC])
      refine wpAnyH_take (i := 3) (v := _) (by simp only [gA, gB, gC]; rfl) (by kernel_rfl) (by kernel_rfl) (by kernel_rfl) (by exact fun _ _ _ h => h) (yields_cellI (by rfl) _ rfl ⟨bp, 6, none⟩ rfl (.slice (some z2) wn x.wc) (fun _ q => (q.cell (p := ⟨bp, 6, none⟩) hlt).trans y6) wdxs_load) (by assumption) ?_; (try simp only [Act.put, sA, sB, sC])
      refine wpAnyH_take (i := 4) (v := ?_) (by simp only [gA, gB, gC]; rfl) (by kernel_rfl) (by kernel_rfl) (by kernel_rfl) (by exact fun _ _ _ h => h) (Or.inl ⟨by rfl, ?_⟩) (by assumption) ?_; rotate_left; (focus (intro w hSw; (try dsimp only at hSw); go_simp; try with_reducible rfl)); (try simp only [Act.put, sA, sB, sC])
      refine wpAnyH_take (i := 5) (v := ?_) (by simp only [gA, gB, gC]; rfl) (by kernel_rfl) (by kernel_rfl) (by kernel_rfl) (by exact fun _ _ _ h => h) (Or.inl ⟨by rfl, ?_⟩) (by assumption) ?_; rotate_left; (focus (intro w hSw; (try dsimp only at hSw); go_simp; try with_reducible rfl)); (try simp only [Act.put, sA, sB, sC])
      refine wpAnyH_take (i := 6) (v := _) (by simp only [gA, gB, gC]; rfl) (by kernel_rfl) (by kernel_rfl) (by kernel_rfl) (by exact fun _ _ _ h => h) (yields_at (by rfl) _ rfl (z2.add (j * 8)) rfl (wd8 q) (fun _ r => hcl _ r) hundW rfl hszW) (by assumption) ?_; (try simp only [Act.put, sA, sB, sC])
      refine wpAnyH_ready (rs := [1, 7]) (by kernel_rfl) (by simp) ?_
      refine AllReadyH.cons (by simp only [gA, gB, gC]; rfl) (fun K hK => ?_) ?_
      · skip
        refine step_oneJ rfl _ rfl ⟨bg, 1, none⟩ rfl v (hg.1 1 _ rfl).1 wds_loadC ?_
        (try simp only [Act.put, sA, sB, sC])
        refine hK.out _ _ (hS) ?_
        clear hHeld hK
        intro hHeld
        (try simp only [Act.put, sA, sB, sC])
        refine wpAnyH_ready (rs := [7]) (by kernel_rfl) (by simp) ?_
        refine AllReadyH.cons (by simp only [gA, gB, gC]; rfl) (fun K hK => ?_) AllReadyH.nil
        go_simp
        go_at_call 31
        refine (word_any q _).mono ?_
        rintro e w1 ⟨rfl, hb⟩
        replace hS := hS.trans (hb.mono (Nat.le_of_lt hg.2))
        replace hg := stab_blk _ _ _ _ hg hb
        replace ho := ho.below hb
        clear hb
        obtain ⟨v3, W3, hap, ho3, hgr⟩ := OwnR.push wd_okC ho (show bg + 1 ≤ w1.heap.size from hg.2) (wdW q) (wcl (wdW q)).toArray rfl 2 hll
        have hb3 := ho.grew_below (show bg + 1 ≤ w1.heap.size from hg.2) hgr
        have hbA := alloc_below w1 (.cells (wcl (wdW q)).toArray 2)
        have hgA := stab_blk _ _ _ _ hg hbA
        have hSA := hS.trans (hbA.mono (Nat.le_of_lt hg.2))
        have hS3 := hS.trans (hb3.mono (Nat.le_succ _))
        have hg3 : BlkL bg (sgCs (pc0 x.p) v) W3 := ⟨hg.1.same (hb3.block _ (Nat.lt_succ_self _)), Nat.lt_of_lt_of_le hg.2 hb3.size⟩
        obtain ⟨a3, c3, hv3, -, -, -⟩ := ho3.slice wd_okC.len
        clear hgr hbA hb3
        refine hK.out _ _ (hS) ?_
        clear hHeld hK
        intro hHeld
        (try simp only [Act.put, sA, sB, sC])
        refine wpAnyH_ready (rs := [8]) (by kernel_rfl) (by simp) ?_
        refine AllReadyH.cons (by simp only [gA, gB, gC]; rfl) (fun K hK => ?_) AllReadyH.nil
        go_simp
        refine hK.out _ _ (hSA) ?_
        clear hHeld hK
        intro hHeld
        (try simp only [Act.put, sA, sB, sC])
        refine wpAnyH_ready (rs := [9]) (by kernel_rfl) (by simp) ?_
        refine AllReadyH.cons (by simp only [gA, gB, gC]; rfl) (fun K hK => ?_) AllReadyH.nil
        refine step_append rfl _ _ rfl rfl rfl rfl hap ?_
        (try simp only [Act.put, sA, sB, sC])
        refine hK.out _ _ (hS3) ?_
        clear hHeld hK
        intro hHeld
        clear hap
        (try simp only [Act.put, sA, sB, sC])
        refine wpAnyH_take (i := 10) (v := ?_) (by simp only [gA, gB, gC]; rfl) (by kernel_rfl) (by kernel_rfl) (by kernel_rfl) (by exact fun _ _ _ h => h) (Or.inl ⟨by rfl, ?_⟩) (by assumption) ?_; rotate_left; (focus (intro w hSw; (try dsimp only at hSw); go_simp; try with_reducible rfl)); (try simp only [Act.put, sA, sB, sC])
        refine wpAnyH_ready (rs := [11]) (by kernel_rfl) (by simp) ?_
        refine AllReadyH.cons (by simp only [gA, gB, gC]; rfl) (fun K hK => ?_) AllReadyH.nil
        have xf := hg3.1 1 _ rfl
        have hg4 := gset _ _ v3 hg3
        have ho4 := ho3.keep (w' := W3.setCell ⟨bg, 1, none⟩ v3) (fun q hq => heap_setCell_other _ ⟨bg, 1, none⟩ q _ (by have := (ho3.lt hq).1; show q ≠ bg; omega))
        rw [← hstep] at ho4
        have hS4 := hS3.setCell (p := ⟨bg, 1, none⟩) (Nat.le_refl _) v3
        have hp4 : BlkL bp x.cs (W3.setCell ⟨bg, 1, none⟩ v3) := ⟨hp.1.same (hS4.block _ hlt), Nat.lt_of_lt_of_le hp.2 hS4.size⟩
        have hV4 := hV.trans (hS4.mono hle)
        refine step_storeK rfl _ _ rfl ⟨bg, 1, none⟩ rfl v3 rfl (wdsC_store _ _ _ _ hv3 xf.1 xf.2) ?_
        (try simp only [Act.put, sA, sB, sC])
        refine hK.out _ _ (hS4) ?_
        clear hHeld hK
        intro hHeld
        (try simp only [Act.put, sA, sB, sC])
        refine wpAnyH_done (by kernel_rfl) ?_ _
        clear hv3
        go_wp2_with fail
        exact ⟨⟨j + 1, v3, by omega, by omega, by simp, hp4, hg4, ho4, hV4⟩, by simp [Go.RowKit.intOf]; omega⟩
      refine AllReadyH.cons (by simp only [gA, gB, gC]; rfl) (fun K hK => ?_) AllReadyH.nil
      go_simp
      go_at_call 31
      refine (word_any q _).mono ?_
      rintro e w1 ⟨rfl, hb⟩
      replace hS := hS.trans (hb.mono (Nat.le_of_lt hg.2))
      replace hg := stab_blk _ _ _ _ hg hb
      replace ho := ho.below hb
      clear hb
      obtain ⟨v3, W3, hap, ho3, hgr⟩ := OwnR.push wd_okC ho (show bg + 1 ≤ w1.heap.size from hg.2) (wdW q) (wcl (wdW q)).toArray rfl 2 hll
      have hb3 := ho.grew_below (show bg + 1 ≤ w1.heap.size from hg.2) hgr
      have hbA := alloc_below w1 (.cells (wcl (wdW q)).toArray 2)
      have hgA := stab_blk _ _ _ _ hg hbA
      have hSA := hS.trans (hbA.mono (Nat.le_of_lt hg.2))
      have hS3 := hS.trans (hb3.mono (Nat.le_succ _))
      have hg3 : BlkL bg (sgCs (pc0 x.p) v) W3 := ⟨hg.1.same (hb3.block _ (Nat.lt_succ_self _)), Nat.lt_of_lt_of_le hg.2 hb3.size⟩
      obtain ⟨a3, c3, hv3, -, -, -⟩ := ho3.slice wd_okC.len
      clear hgr hbA hb3
      refine hK.out _ _ (hS) ?_
      clear hHeld hK
      intro hHeld
      (try simp only [Act.put, sA, sB, sC])
      refine wpAnyH_ready (rs := [1, 8]) (by kernel_rfl) (by simp) ?_
      refine AllReadyH.cons (by simp only [gA, gB, gC]; rfl) (fun K hK => ?_) ?_
      · skip
        refine step_oneJ rfl _ rfl ⟨bg, 1, none⟩ rfl v (hg.1 1 _ rfl).1 wds_loadC ?_
        (try simp only [Act.put, sA, sB, sC])
        refine hK.out _ _ (hS) ?_
        clear hHeld hK
        intro hHeld
        (try simp only [Act.put, sA, sB, sC])
        refine wpAnyH_ready (rs := [8]) (by kernel_rfl) (by simp) ?_
        refine AllReadyH.cons (by simp only [gA, gB, gC]; rfl) (fun K hK => ?_) AllReadyH.nil
        go_simp
        refine hK.out _ _ (hSA) ?_
        clear hHeld hK
        intro hHeld
        (try simp only [Act.put, sA, sB, sC])
        refine wpAnyH_ready (rs := [9]) (by kernel_rfl) (by simp) ?_
        refine AllReadyH.cons (by simp only [gA, gB, gC]; rfl) (fun K hK => ?_) AllReadyH.nil
        refine step_append rfl _ _ rfl rfl rfl rfl hap ?_
        (try simp only [Act.put, sA, sB, sC])
        refine hK.out _ _ (hS3) ?_
        clear hHeld hK
        intro hHeld
        clear hap
        (try simp only [Act.put, sA, sB, sC])
        refine wpAnyH_take (i := 10) (v := ?_) (by simp only [gA, gB, gC]; rfl) (by kernel_rfl) (by kernel_rfl) (by kernel_rfl) (by exact fun _ _ _ h => h) (Or.inl ⟨by rfl, ?_⟩) (by assumption) ?_; rotate_left; (focus (intro w hSw; (try dsimp only at hSw); go_simp; try with_reducible rfl)); (try simp only [Act.put, sA, sB, sC])
        refine wpAnyH_ready (rs := [11]) (by kernel_rfl) (by simp) ?_
        refine AllReadyH.cons (by simp only [gA, gB, gC]; rfl) (fun K hK => ?_) AllReadyH.nil
        have xf := hg3.1 1 _ rfl
        have hg4 := gset _ _ v3 hg3
        have ho4 := ho3.keep (w' := W3.setCell ⟨bg, 1, none⟩ v3) (fun q hq => heap_setCell_other _ ⟨bg, 1, none⟩ q _ (by have := (ho3.lt hq).1; show q ≠ bg; omega))
        rw [← hstep] at ho4
        have hS4 := hS3.setCell (p := ⟨bg, 1, none⟩) (Nat.le_refl _) v3
        have hp4 : BlkL bp x.cs (W3.setCell ⟨bg, 1, none⟩ v3) := ⟨hp.1.same (hS4.block _ hlt), Nat.lt_of_lt_of_le hp.2 hS4.size⟩
        have hV4 := hV.trans (hS4.mono hle)
        refine step_storeK rfl _ _ rfl ⟨bg, 1, none⟩ rfl v3 rfl (wdsC_store _ _ _ _ hv3 xf.1 xf.2) ?_
        (try simp only [Act.put, sA, sB, sC])
        refine hK.out _ _ (hS4) ?_
        clear hHeld hK
        intro hHeld
        (try simp only [Act.put, sA, sB, sC])
        refine wpAnyH_done (by kernel_rfl) ?_ _
        clear hv3
        go_wp2_with fail
        exact ⟨⟨j + 1, v3, by omega, by omega, by simp, hp4, hg4, ho4, hV4⟩, by simp [Go.RowKit.intOf]; omega⟩
      refine AllReadyH.cons (by simp only [gA, gB, gC]; rfl) (fun K hK => ?_) AllReadyH.nil
      go_simp
      refine hK.out _ _ (hSA) ?_
      clear hHeld hK
      intro hHeld
      (try simp only [Act.put, sA, sB, sC])
      refine wpAnyH_ready (rs := [1]) (by kernel_rfl) (by simp) ?_
      refine AllReadyH.cons (by simp only [gA, gB, gC]; rfl) (fun K hK => ?_) AllReadyH.nil
      refine step_oneJ rfl _ rfl ⟨bg, 1, none⟩ rfl v (hgA.1 1 _ rfl).1 wds_loadC ?_
      (try simp only [Act.put, sA, sB, sC])
      refine hK.out _ _ (hSA) ?_
      clear hHeld hK
      intro hHeld
      (try simp only [Act.put, sA, sB, sC])
      refine wpAnyH_ready (rs := [9]) (by kernel_rfl) (by simp) ?_
      refine AllReadyH.cons (by simp only [gA, gB, gC]; rfl) (fun K hK => ?_) AllReadyH.nil
      refine step_append rfl _ _ rfl rfl rfl rfl hap ?_
      (try simp only [Act.put, sA, sB, sC])
      refine hK.out _ _ (hS3) ?_
      clear hHeld hK
      intro hHeld
      clear hap
      (try simp only [Act.put, sA, sB, sC])
      refine wpAnyH_take (i := 10) (v := ?_) (by simp only [gA, gB, gC]; rfl) (by kernel_rfl) (by kernel_rfl) (by kernel_rfl) (by exact fun _ _ _ h => h) (Or.inl ⟨by rfl, ?_⟩) (by assumption) ?_; rotate_left; (focus (intro w hSw; (try dsimp only at hSw); go_simp; try with_reducible rfl)); (try simp only [Act.put, sA, sB, sC])
      refine wpAnyH_ready (rs := [11]) (by kernel_rfl) (by simp) ?_
      refine AllReadyH.cons (by simp only [gA, gB, gC]; rfl) (fun K hK => ?_) AllReadyH.nil
      have xf := hg3.1 1 _ rfl
      have hg4 := gset _ _ v3 hg3
      have ho4 := ho3.keep (w' := W3.setCell ⟨bg, 1, none⟩ v3) (fun q hq => heap_setCell_other _ ⟨bg, 1, none⟩ q _ (by have := (ho3.lt hq).1; show q ≠ bg; omega))
      rw [← hstep] at ho4
      have hS4 := hS3.setCell (p := ⟨bg, 1, none⟩) (Nat.le_refl _) v3
      have hp4 : BlkL bp x.cs (W3.setCell ⟨bg, 1, none⟩ v3) := ⟨hp.1.same (hS4.block _ hlt), Nat.lt_of_lt_of_le hp.2 hS4.size⟩
      have hV4 := hV.trans (hS4.mono hle)
      refine step_storeK rfl _ _ rfl ⟨bg, 1, none⟩ rfl v3 rfl (wdsC_store _ _ _ _ hv3 xf.1 xf.2) ?_
      (try simp only [Act.put, sA, sB, sC])
      refine hK.out _ _ (hS4) ?_
      clear hHeld hK
      intro hHeld
      (try simp only [Act.put, sA, sB, sC])
      refine wpAnyH_done (by kernel_rfl) ?_ _
      clear hv3
      go_wp2_with fail
      exact ⟨⟨j + 1, v3, by omega, by omega, by simp, hp4, hg4, ho4, hV4⟩, by simp [Go.RowKit.intOf]; omega⟩
    · have hend : (x.p.ws.take j).map wdW = (pcG x.p).ws := by
        show (x.p.ws.take j).map wdW = (x.p.ws.take 16).map wdW
        by_cases h8 : j = 16
        · rw [h8]
        · rw [List.take_of_length_le (by omega), List.take_of_length_le (by omega)]
      rw [hend] at ho
      obtain ⟨a2, cap2, hv2, -, -, -⟩ := ho.slice wd_okC.len
      obtain ⟨y, hy⟩ : ∃ y : PG, PG.mk (pcG x.p) a2 cap2 = y := ⟨_, rfl⟩
      have hyv : y.v = v := by rw [← hy, hv2]; rfl
      have hyg : y.g = pcG x.p := by rw [← hy]
      have hyc : sgCs (pc0 x.p) v = y.cs := by rw [← hy, hv2]; rfl
      rw [hyc] at hg
      rw [← hyv, ← hyg] at ho
      have hrg := hg.range
      have hoM2 := hoM.below hV
      have hM2 := hM.below hV
      have hB2 := Below.then hB hV
      have hBs := hB2.size
      obtain ⟨vM, W3, hap, hoM3, hgr⟩ := OwnR.push pg_okC hoM2 hBs y y.cs.toArray rfl 57 hMl
      have hb3 := hoM2.grew_below hBs hgr
      have hB3 := hB2.trans hb3
      have keepW : ∀ {B : Nat} {u : Value} {ws : List Int}, OwnR 2 1 wcl wr B u ws → OwnR 2 1 wcl W3 B u ws := fun {B u ws} h => h.keep fun q hq => hgr.by_.block q (h.lt hq).2 (fun r => own_apart h hoM2 (by decide) hq r.symm)
      have hM3 : MadeM W3 w.heap.size (M ++ [y]) := fun z hz => by
        rcases List.mem_append.1 hz with hz | hz
        · exact keepW (hM2 z hz)
        · rw [List.mem_singleton.1 hz]
          have := hB.size
          exact (keepW ho).lower (by omega)
      have hMg3 : Aside ((M ++ [y]).map (·.g) = (l.take (k + 1)).map (fun x => pcG x.p)) := by
        show _ = _
        rw [hstepM.out, List.map_append, hMg.out, ← hyg]; rfl
      have hsplit : ¬ (j : Int) < (wn : Int) ∨ (j : Int) < (wn : Int) ∧ ¬ (j : Int) < 16 := by omega
      have hszY : (Try.prog.info? 57).map (·.size) = some y.cs.length := hszG
      have hylen : y.cs.length = 7 := pg_len y
      obtain ⟨Y, hY⟩ : ∃ Y, y.cs = Y := ⟨_, rfl⟩
      rw [hY] at hrg hap hszY hylen
      clear hp hg ho hoM hM hoM2 hM2 hB hB2 hb3 hgr keepW hY hyc hyv hyg hy hv2 hend hV
      rcases hsplit with i1 | ⟨i1, i2⟩
      all_goals
        go_wp2_with (first | (refine wpList_load_row rfl _ rfl bg rfl Y hrg hundG rfl hszY ?_) | (refine wpList_build1 pg_okC (by decide) rfl _ rfl Y rfl hylen ?_) | (refine wpList_append rfl _ _ rfl rfl rfl rfl hap ?_) | fail)
        exact ⟨⟨k + 1, M ++ [y], by omega, by omega, by simp, hoM3, hM3, hMg3.out, hB3⟩, by simp [Go.RowKit.intOf]; omega⟩
  refine AllReadyH.cons (by simp only [gA, gB, gC]; rfl) (fun K hK => ?_) AllReadyH.nil
  have hb := alloc_below w0 (.cells zG7 57)
  have hz : BlkL w0.heap.size zeroPG.cs (w0.alloc (.cells zG7 57)) := blkl_alloc w0 zeroPG.cs.toArray 57
  have hgz := hS.size
  refine step_allocC (z := zG7) rfl rfl (fun _ => rfl) ?_
  (try simp only [Act.put, sA, sB, sC])
  refine hK.out _ _ (Below.then hS hb) ?_
  clear hHeld hK
  intro hHeld
  replace hS := Below.then hS hb
  clear hb
  generalize w0.alloc (.cells zG7 57) = w1 at *
  generalize w0.heap.size = gz at *
  (try simp only [Act.put, sA, sB, sC])
  refine wpAnyH_ready (rs := [5]) (by kernel_rfl) (by simp) ?_
  refine AllReadyH.cons (by simp only [gA, gB, gC]; rfl) (fun K hK => ?_) AllReadyH.nil
  go_simp
  go_at_call 16
  refine (w16_any x.p.md 8 (by decide) (by decide) _).mono ?_
  rintro e w' ⟨rfl, hw⟩
  rw [hw]
  clear hw w'
  obtain ⟨w2, hwe⟩ : ∃ x, w1 = x := ⟨_, rfl⟩
  rw [hwe] at hS ⊢
  rw [hwe] at hz
  clear hwe
  refine hK.out _ _ (hS) ?_
  clear hHeld hK
  intro hHeld
  (try simp only [Act.put, sA, sB, sC])
  refine wpAnyH_ready (rs := [8]) (by kernel_rfl) (by simp) ?_
  refine AllReadyH.cons (by simp only [gA, gB, gC]; rfl) (fun K hK => ?_) AllReadyH.nil
  go_simp
  go_at_call 30
  refine (rggood_any x.p.rg _).mono ?_
  rintro e w3 ⟨rfl, hb⟩
  replace hS := Below.then hS hb
  replace hz := stab_blk _ _ _ _ hz hb
  clear hb
  refine hK.out _ _ (hS) ?_
  clear hHeld hK
  intro hHeld
  (try simp only [Act.put, sA, sB, sC])
  refine wpAnyH_take (i := 9) (v := ?_) (by simp only [gA, gB, gC]; rfl) (by kernel_rfl) (by kernel_rfl) (by kernel_rfl) (by exact fun _ _ _ h => h) (Or.inl ⟨by rfl, ?_⟩) (by assumption) ?_; rotate_left; (focus (intro w hSw; (try dsimp only at hSw); go_simp; try with_reducible rfl)); (try simp only [Act.put, sA, sB, sC])
  refine wpAnyH_ready (rs := [11]) (by kernel_rfl) (by simp) ?_
  refine AllReadyH.cons (by simp only [gA, gB, gC]; rfl) (fun K hK => ?_) AllReadyH.nil
  obtain ⟨W7, hW7, hth7, hb7, hk7⟩ := put_any hz (ds := sgCs (pc0 x.p) nilS) rfl (by show 0 < 7; decide)
  have hS7 := hk7 _ _ hgz hS
  refine step_store_rowC rfl _ _ rfl gz rfl (sgCs (pc0 x.p) nilS) rfl hth7 hszG (sgCs_one _ _ _ _) hW7 ?_
  (try simp only [Act.put, sA, sB, sC])
  refine hK.out _ _ (hS7) ?_
  clear hHeld hK
  intro hHeld
  (try simp only [Act.put, sA, sB, sC])
  refine wpAnyH_done (by kernel_rfl) ?_ _
  have hgc := hb7
  have hSc := hS7
  have hgv := hgz
  clear hb7 hS7 hgz hz hS hW7 hth7 hk7
  generalize W7 = wc at *
  generalize gz = bg at *
  have hpc := stab_blk _ _ _ _ hp1 hSc
  have hVc := Below.then hb1 hSc
  replace hlt : bp < bg := Nat.lt_of_lt_of_le hp1.2 hgv
  have hle : V.heap.size ≤ bg := by omega
  clear hp1 hb1 hSc y0 y1 hrg hS0 hgv
  obtain ⟨wn, hwn⟩ : ∃ wn, x.p.ws.length = wn := ⟨_, rfl⟩
  have hwl := hxAt.len
  rw [hwn] at hwl
  go_wp2_with fail
  go_loopw [7] (fun t7 wr => ∃ (j : Nat) (v : Value), j ≤ wn ∧ j ≤ 16 ∧ t7 = .int .i64 (j : Int) ∧ BlkL bp x.cs wr ∧ BlkL bg (sgCs (pc0 x.p) v) wr ∧ OwnR 2 1 wcl wr (bg + 1) v ((x.p.ws.take j).map wdW) ∧ Below V.heap.size V wr) (fun t7 _ => 16 - (Go.RowKit.intOf t7).toNat)
  case atStart => exact ⟨0, nilS, by omega, by omega, rfl, hpc, hgc, OwnR.nil _ _ _ _ _, hVc⟩
  case round =>
  clear hpc hgc hVc
  obtain ⟨j, v, hjn, hj16, rfl, hp, hg, ho, hV⟩ := hrel
  have y6 : wr.cell? ⟨bp, 6, none⟩ = some (.slice x.wa wn x.wc) := by rw [← hwn]; exact (hp.1 6 _ rfl).1
  by_cases hgo2 : j < wn ∧ j < 16
  · obtain ⟨q, hq⟩ : ∃ q, x.p.ws[j]? = some q := ⟨_, List.getElem?_eq_getElem (by rw [hwn]; exact hgo2.1)⟩
    have hstep : (x.p.ws.take (j + 1)).map wdW = (x.p.ws.take j).map wdW ++ [wdW q] := by rw [List.take_add_one, hq, List.map_append]; rfl
    have hll : ((x.p.ws.take j).map wdW).length < 900000 := by rw [List.length_map, List.length_take]; omega
    obtain ⟨z2, hz2, -⟩ := hxAt.row j q hq
    have hrow := hxAt.row
    rw [hz2] at y6 hrow
    have hrowW : RowAt 8 wd8 V (some z2) x.p.ws := hrow
    have hqb : (z2.add (j * 8)).block < V.heap.size := by
      obtain ⟨z3, hz3, hc3⟩ := hrowW j q hq
      obtain rfl := Option.some.inj hz3
      have h0 := hc3 0 (by decide)
      have := World.block_lt_of_cell? _ _ (h0.trans rfl)
      rw [Nat.add_zero] at this
      exact this
    have hcl : ∀ W, Below bg wr W → CellsAt W (z2.add (j * 8)) (wd8 q) := fun W r i u hu => by
      have h1 := ((hrowW.below wd8_len hV).at wd8_len hq) i u hu
      exact (r.cell (p := (z2.add (j * 8)).add i) (by rw [addC_block]; omega)).trans h1
    have i1 : (j : Int) < (wn : Int) := by omega
    have i2 : (j : Int) < 16 := by omega
    have i3 : ¬ (j : Int) < 0 := by omega
    have i4 : ¬ (wn : Int) ≤ (j : Int) := by omega
    replace hstep : Aside ((x.p.ws.take (j + 1)).map wdW = (x.p.ws.take j).map wdW ++ [wdW q]) := hstep
    replace hll : Aside (((x.p.ws.take j).map wdW).length < 900000) := hll
    clear hq hrow hz2 hrowW hqb
    go_upto_region 10 with fail
    obtain ⟨Z, hZ⟩ : ∃ Z, wr = Z := ⟨_, rfl⟩
    rw [hZ] at y6 hp hg ho hV ⊢
    simp only [hZ] at hcl
    clear hZ
    have hdr := (Below.refl Z.heap.size Z).drew
    have ho0 := ho.below hdr
    have hg0 := stab_blk _ _ _ _ hg hdr
    have hS0 : Below bg Z Z.drew := hdr.mono (Nat.le_of_lt hg.2)
    have hstep := hstep.out
    have hll := hll.out
    clear ho hg
    refine wp_region_held_drew (S := (fun W => Below bg Z W)) (by kernel_rfl) (by exact hS0) ?_
    intro hHeld
    generalize Z.drew = w0 at *
    have hS := hS0
    have hg := hg0
    have ho := ho0
    refine wpAnyH_take (i := 0) (v := ?_) (by simp only [gA, gB, gC]; rfl) (by kernel_rfl) (by kernel_rfl) (by kernel_rfl) (by exact fun _ _ _ h => h) (Or.inl ⟨by rfl, ?_⟩) (by assumption) ?_; rotate_left; (focus (intro w hSw; (try dsimp only at hSw); go_simp; try with_reducible rfl)); (try simp only [Act.put, sA, sB, sC])
    refine wpAnyH_take (i := 2) (v := ?_) (by simp only [gA, gB, gC]; rfl) (by kernel_rfl) (by kernel_rfl) (by kernel_rfl) (by exact fun _ _ _ h => h) (Or.inl ⟨by rfl, ?_⟩) (by assumption) ?_; rotate_left; (focus (intro w hSw; (try dsimp only at hSw); go_simp; try with_reducible rfl)); (try simp only [Act.put, sA, sB, sC])
    refine wpAnyH_take (i := 3) (v := _) (by simp only [gA, gB, gC]; rfl) (by kernel_rfl) (by kernel_rfl) (by kernel_rfl) (by exact fun _ _ _ h => h) (yields_cellI (by rfl) _ rfl ⟨bp, 6, none⟩ rfl (.slice (some z2) wn x.wc) (fun _ q => (q.cell (p := ⟨bp, 6, none⟩) hlt).trans y6) wdxs_load) (by assumption) ?_; (try simp only [Act.put, sA, sB, sC])
    refine wpAnyH_take (i := 4) (v := ?_) (by simp only [gA, gB, gC]; rfl) (by kernel_rfl) (by kernel_rfl) (by kernel_rfl) (by exact fun _ _ _ h => h) (Or.inl ⟨by rfl, ?_⟩) (by assumption) ?_; rotate_left; (focus (intro w hSw; (try dsimp only at hSw); go_simp; try with_reducible rfl)); (try simp only [Act.put, sA, sB, sC])
    refine wpAnyH_take (i := 5) (v := ?_) (by simp only [gA, gB, gC]; rfl) (by kernel_rfl) (by kernel_rfl) (by kernel_rfl) (by exact fun _ _ _ h => h) (Or.inl ⟨by rfl, ?_⟩) (by assumption) ?_; rotate_left; (focus (intro w hSw; (try dsimp only at hSw); go_simp; try with_reducible rfl)); (try simp only [Act.put, sA, sB, sC])
    refine wpAnyH_take (i := 6) (v := _) (by simp only [gA, gB, gC]; rfl) (by kernel_rfl) (by kernel_rfl) (by kernel_rfl) (by exact fun _ _ _ h => h) (yields_at (by rfl) _ rfl (z2.add (j * 8)) rfl (wd8 q) (fun _ r => hcl _ r) hundW rfl hszW) (by assumption) ?_; (try simp only [Act.put, sA, sB, sC])
    refine wpAnyH_ready (rs := [1, 7]) (by kernel_rfl) (by simp) ?_
    refine AllReadyH.cons (by simp only [gA, gB, gC]; rfl) (fun K hK => ?_) ?_
    · skip
      refine step_oneJ rfl _ rfl ⟨bg, 1, none⟩ rfl v (hg.1 1 _ rfl).1 wds_loadC ?_
      (try simp only [Act.put, sA, sB, sC])
      refine hK.out _ _ (hS) ?_
      clear hHeld hK
      intro hHeld
      (try simp only [Act.put, sA, sB, sC])
      refine wpAnyH_ready (rs := [7]) (by kernel_rfl) (by simp) ?_
      refine AllReadyH.cons (by simp only [gA, gB, gC]; rfl) (fun K hK => ?_) AllReadyH.nil
      go_simp
      go_at_call 31
      refine (word_any q _).mono ?_
      rintro e w1 ⟨rfl, hb⟩
      replace hS := hS.trans (hb.mono (Nat.le_of_lt hg.2))
      replace hg := stab_blk _ _ _ _ hg hb
      replace ho := ho.below hb
      clear hb
      obtain ⟨v3, W3, hap, ho3, hgr⟩ := OwnR.push wd_okC ho (show bg + 1 ≤ w1.heap.size from hg.2) (wdW q) (wcl (wdW q)).toArray rfl 2 hll
      have hb3 := ho.grew_below (show bg + 1 ≤ w1.heap.size from hg.2) hgr
      have hbA := alloc_below w1 (.cells (wcl (wdW q)).toArray 2)
      have hgA := stab_blk _ _ _ _ hg hbA
      have hSA := hS.trans (hbA.mono (Nat.le_of_lt hg.2))
      have hS3 := hS.trans (hb3.mono (Nat.le_succ _))
      have hg3 : BlkL bg (sgCs (pc0 x.p) v) W3 := ⟨hg.1.same (hb3.block _ (Nat.lt_succ_self _)), Nat.lt_of_lt_of_le hg.2 hb3.size⟩
      obtain ⟨a3, c3, hv3, -, -, -⟩ := ho3.slice wd_okC.len
      clear hgr hbA hb3
      refine hK.out _ _ (hS) ?_
      clear hHeld hK
      intro hHeld
      (try simp only [Act.put, sA, sB, sC])
      refine wpAnyH_ready (rs := [8]) (by kernel_rfl) (by simp) ?_
      refine AllReadyH.cons (by simp only [gA, gB, gC]; rfl) (fun K hK => ?_) AllReadyH.nil
      go_simp
      refine hK.out _ _ (hSA) ?_
      clear hHeld hK
      intro hHeld
      (try simp only [Act.put, sA, sB, sC])
      refine wpAnyH_ready (rs := [9]) (by kernel_rfl) (by simp) ?_
      refine AllReadyH.cons (by simp only [gA, gB, gC]; rfl) (fun K hK => ?_) AllReadyH.nil
      refine step_append rfl _ _ rfl rfl rfl rfl hap ?_
      (try simp only [Act.put, sA, sB, sC])
      refine hK.out _ _ (hS3) ?_
      clear hHeld hK
      intro hHeld
      clear hap
      (try simp only [Act.put, sA, sB, sC])
      refine wpAnyH_take (i := 10) (v := ?_) (by simp only [gA, gB, gC]; rfl) (by kernel_rfl) (by kernel_rfl) (by kernel_rfl) (by exact fun _ _ _ h => h) (Or.inl ⟨by rfl, ?_⟩) (by assumption) ?_; rotate_left; (focus (intro w hSw; (try dsimp only at hSw); go_simp; try with_reducible rfl)); (try simp only [Act.put, sA, sB, sC])
      refine wpAnyH_ready (rs := [11]) (by kernel_rfl) (by simp) ?_
      refine AllReadyH.cons (by simp only [gA, gB, gC]; rfl) (fun K hK => ?_) AllReadyH.nil
      have xf := hg3.1 1 _ rfl
      have hg4 := gset _ _ v3 hg3
      have ho4 := ho3.keep (w' := W3.setCell ⟨bg, 1, none⟩ v3) (fun q hq => heap_setCell_other _ ⟨bg, 1, none⟩ q _ (by have := (ho3.lt hq).1; show q ≠ bg; omega))
      rw [← hstep] at ho4
      have hS4 := hS3.setCell (p := ⟨bg, 1, none⟩) (Nat.le_refl _) v3
      have hp4 : BlkL bp x.cs (W3.setCell ⟨bg, 1, none⟩ v3) := ⟨hp.1.same (hS4.block _ hlt), Nat.lt_of_lt_of_le hp.2 hS4.size⟩
      have hV4 := hV.trans (hS4.mono hle)
      refine step_storeK rfl _ _ rfl ⟨bg, 1, none⟩ rfl v3 rfl (wdsC_store _ _ _ _ hv3 xf.1 xf.2) ?_
      (try simp only [Act.put, sA, sB, sC])
      refine hK.out _ _ (hS4) ?_
      clear hHeld hK
      intro hHeld
      (try simp only [Act.put, sA, sB, sC])
      refine wpAnyH_done (by kernel_rfl) ?_ _
      clear hv3
      go_wp2_with fail
      exact ⟨⟨j + 1, v3, by omega, by omega, by simp, hp4, hg4, ho4, hV4⟩, by simp [Go.RowKit.intOf]; omega⟩
    refine AllReadyH.cons (by simp only [gA, gB, gC]; rfl) (fun K hK => ?_) AllReadyH.nil
    go_simp
    go_at_call 31
    refine (word_any q _).mono ?_
    rintro e w1 ⟨rfl, hb⟩
    replace hS := hS.trans (hb.mono (Nat.le_of_lt hg.2))
    replace hg := stab_blk _ _ _ _ hg hb
    replace ho := ho.below hb
    clear hb
    obtain ⟨v3, W3, hap, ho3, hgr⟩ := OwnR.push wd_okC ho (show bg + 1 ≤ w1.heap.size from hg.2) (wdW q) (wcl (wdW q)).toArray rfl 2 hll
    have hb3 := ho.grew_below (show bg + 1 ≤ w1.heap.size from hg.2) hgr
    have hbA := alloc_below w1 (.cells (wcl (wdW q)).toArray 2)
    have hgA := stab_blk _ _ _ _ hg hbA
    have hSA := hS.trans (hbA.mono (Nat.le_of_lt hg.2))
    have hS3 := hS.trans (hb3.mono (Nat.le_succ _))
    have hg3 : BlkL bg (sgCs (pc0 x.p) v) W3 := ⟨hg.1.same (hb3.block _ (Nat.lt_succ_self _)), Nat.lt_of_lt_of_le hg.2 hb3.size⟩
    obtain ⟨a3, c3, hv3, -, -, -⟩ := ho3.slice wd_okC.len
    clear hgr hbA hb3
    refine hK.out _ _ (hS) ?_
    clear hHeld hK
    intro hHeld
    (try simp only [Act.put, sA, sB, sC])
    refine wpAnyH_ready (rs := [1, 8]) (by kernel_rfl) (by simp) ?_
    refine AllReadyH.cons (by simp only [gA, gB, gC]; rfl) (fun K hK => ?_) ?_
    · skip
      refine step_oneJ rfl _ rfl ⟨bg, 1, none⟩ rfl v (hg.1 1 _ rfl).1 wds_loadC ?_
      (try simp only [Act.put, sA, sB, sC])
      refine hK.out _ _ (hS) ?_
      clear hHeld hK
      intro hHeld
      (try simp only [Act.put, sA, sB, sC])
      refine wpAnyH_ready (rs := [8]) (by kernel_rfl) (by simp) ?_
      refine AllReadyH.cons (by simp only [gA, gB, gC]; rfl) (fun K hK => ?_) AllReadyH.nil
      go_simp
      refine hK.out _ _ (hSA) ?_
      clear hHeld hK
      intro hHeld
      (try simp only [Act.put, sA, sB, sC])
      refine wpAnyH_ready (rs := [9]) (by kernel_rfl) (by simp) ?_
      refine AllReadyH.cons (by simp only [gA, gB, gC]; rfl) (fun K hK => ?_) AllReadyH.nil
      refine step_append rfl _ _ rfl rfl rfl rfl hap ?_
      (try simp only [Act.put, sA, sB, sC])
      refine hK.out _ _ (hS3) ?_
      clear hHeld hK
      intro hHeld
      clear hap
      (try simp only [Act.put, sA, sB, sC])
      refine wpAnyH_take (i := 10) (v := ?_) (by simp only [gA, gB, gC]; rfl) (by kernel_rfl) (by kernel_rfl) (by kernel_rfl) (by exact fun _ _ _ h => h) (Or.inl ⟨by rfl, ?_⟩) (by assumption) ?_; rotate_left; (focus (intro w hSw; (try dsimp only at hSw); go_simp; try with_reducible rfl)); (try simp only [Act.put, sA, sB, sC])
      refine wpAnyH_ready (rs := [11]) (by kernel_rfl) (by simp) ?_
      refine AllReadyH.cons (by simp only [gA, gB, gC]; rfl) (fun K hK => ?_) AllReadyH.nil
      have xf := hg3.1 1 _ rfl
      have hg4 := gset _ _ v3 hg3
      have ho4 := ho3.keep (w' := W3.setCell ⟨bg, 1, none⟩ v3) (fun q hq => heap_setCell_other _ ⟨bg, 1, none⟩ q _ (by have := (ho3.lt hq).1; show q ≠ bg; omega))
      rw [← hstep] at ho4
      have hS4 := hS3.setCell (p := ⟨bg, 1, none⟩) (Nat.le_refl _) v3
      have hp4 : BlkL bp x.cs (W3.setCell ⟨bg, 1, none⟩ v3) := ⟨hp.1.same (hS4.block _ hlt), Nat.lt_of_lt_of_le hp.2 hS4.size⟩
      have hV4 := hV.trans (hS4.mono hle)
      refine step_storeK rfl _ _ rfl ⟨bg, 1, none⟩ rfl v3 rfl (wdsC_store _ _ _ _ hv3 xf.1 xf.2) ?_
      (try simp only [Act.put, sA, sB, sC])
      refine hK.out _ _ (hS4) ?_
      clear hHeld hK
      intro hHeld
      (try simp only [Act.put, sA, sB, sC])
      refine wpAnyH_done (by kernel_rfl) ?_ _
      clear hv3
      go_wp2_with fail
      exact ⟨⟨j + 1, v3, by omega, by omega, by simp, hp4, hg4, ho4, hV4⟩, by simp [Go.RowKit.intOf]; omega⟩
    refine AllReadyH.cons (by simp only [gA, gB, gC]; rfl) (fun K hK => ?_) AllReadyH.nil
    go_simp
    refine hK.out _ _ (hSA) ?_
    clear hHeld hK
    intro hHeld
    (try simp only [Act.put, sA, sB, sC])
    refine wpAnyH_ready (rs := [1]) (by kernel_rfl) (by simp) ?_
    refine AllReadyH.cons (by simp only [gA, gB, gC]; rfl) (fun K hK => ?_) AllReadyH.nil
    refine step_oneJ rfl _ rfl ⟨bg, 1, none⟩ rfl v (hgA.1 1 _ rfl).1 wds_loadC ?_
    (try simp only [Act.put, sA, sB, sC])
    refine hK.out _ _ (hSA) ?_
    clear hHeld hK
    intro hHeld
    (try simp only [Act.put, sA, sB, sC])
    refine wpAnyH_ready (rs := [9]) (by kernel_rfl) (by simp) ?_
    refine AllReadyH.cons (by simp only [gA, gB, gC]; rfl) (fun K hK => ?_) AllReadyH.nil
    refine step_append rfl _ _ rfl rfl rfl rfl hap ?_
    (try simp only [Act.put, sA, sB, sC])
    refine hK.out _ _ (hS3) ?_
    clear hHeld hK
    intro hHeld
    clear hap
    (try simp only [Act.put, sA, sB, sC])
    refine wpAnyH_take (i := 10) (v := ?_) (by simp only [gA, gB, gC]; rfl) (by kernel_rfl) (by kernel_rfl) (by kernel_rfl) (by exact fun _ _ _ h => h) (Or.inl ⟨by rfl, ?_⟩) (by assumption) ?_; rotate_left; (focus (intro w hSw; (try dsimp only at hSw); go_simp; try with_reducible rfl)); (try simp only [Act.put, sA, sB, sC])
    refine wpAnyH_ready (rs := [11]) (by kernel_rfl) (by simp) ?_
    refine AllReadyH.cons (by simp only [gA, gB, gC]; rfl) (fun K hK => ?_) AllReadyH.nil
    have xf := hg3.1 1 _ rfl
    have hg4 := gset _ _ v3 hg3
    have ho4 := ho3.keep (w' := W3.setCell ⟨bg, 1, none⟩ v3) (fun q hq => heap_setCell_other _ ⟨bg, 1, none⟩ q _ (by have := (ho3.lt hq).1; show q ≠ bg; omega))
    rw [← hstep] at ho4
    have hS4 := hS3.setCell (p := ⟨bg, 1, none⟩) (Nat.le_refl _) v3
    have hp4 : BlkL bp x.cs (W3.setCell ⟨bg, 1, none⟩ v3) := ⟨hp.1.same (hS4.block _ hlt), Nat.lt_of_lt_of_le hp.2 hS4.size⟩
    have hV4 := hV.trans (hS4.mono hle)
    refine step_storeK rfl _ _ rfl ⟨bg, 1, none⟩ rfl v3 rfl (wdsC_store _ _ _ _ hv3 xf.1 xf.2) ?_
    (try simp only [Act.put, sA, sB, sC])
    refine hK.out _ _ (hS4) ?_
    clear hHeld hK
    intro hHeld
    (try simp only [Act.put, sA, sB, sC])
    refine wpAnyH_done (by kernel_rfl) ?_ _
    clear hv3
    go_wp2_with fail
    exact ⟨⟨j + 1, v3, by omega, by omega, by simp, hp4, hg4, ho4, hV4⟩, by simp [Go.RowKit.intOf]; omega⟩
  · have hend : (x.p.ws.take j).map wdW = (pcG x.p).ws := by
      show (x.p.ws.take j).map wdW = (x.p.ws.take 16).map wdW
      by_cases h8 : j = 16
      · rw [h8]
      · rw [List.take_of_length_le (by omega), List.take_of_length_le (by omega)]
    rw [hend] at ho
    obtain ⟨a2, cap2, hv2, -, -, -⟩ := ho.slice wd_okC.len
    obtain ⟨y, hy⟩ : ∃ y : PG, PG.mk (pcG x.p) a2 cap2 = y := ⟨_, rfl⟩
    have hyv : y.v = v := by rw [← hy, hv2]; rfl
    have hyg : y.g = pcG x.p := by rw [← hy]
    have hyc : sgCs (pc0 x.p) v = y.cs := by rw [← hy, hv2]; rfl
    rw [hyc] at hg
    rw [← hyv, ← hyg] at ho
    have hrg := hg.range
    have hoM2 := hoM.below hV
    have hM2 := hM.below hV
    have hB2 := Below.then hB hV
    have hBs := hB2.size
    obtain ⟨vM, W3, hap, hoM3, hgr⟩ := OwnR.push pg_okC hoM2 hBs y y.cs.toArray rfl 57 hMl
    have hb3 := hoM2.grew_below hBs hgr
    have hB3 := hB2.trans hb3
    have keepW : ∀ {B : Nat} {u : Value} {ws : List Int}, OwnR 2 1 wcl wr B u ws → OwnR 2 1 wcl W3 B u ws := fun {B u ws} h => h.keep fun q hq => hgr.by_.block q (h.lt hq).2 (fun r => own_apart h hoM2 (by decide) hq r.symm)
    have hM3 : MadeM W3 w.heap.size (M ++ [y]) := fun z hz => by
      rcases List.mem_append.1 hz with hz | hz
      · exact keepW (hM2 z hz)
      · rw [List.mem_singleton.1 hz]
        have := hB.size
        exact (keepW ho).lower (by omega)
    have hMg3 : Aside ((M ++ [y]).map (·.g) = (l.take (k + 1)).map (fun x => pcG x.p)) := by
      show _ = _
      rw [hstepM.out, List.map_append, hMg.out, ← hyg]; rfl
    have hsplit : ¬ (j : Int) < (wn : Int) ∨ (j : Int) < (wn : Int) ∧ ¬ (j : Int) < 16 := by omega
    have hszY : (Try.prog.info? 57).map (·.size) = some y.cs.length := hszG
    have hylen : y.cs.length = 7 := pg_len y
    obtain ⟨Y, hY⟩ : ∃ Y, y.cs = Y := ⟨_, rfl⟩
    rw [hY] at hrg hap hszY hylen
    clear hp hg ho hoM hM hoM2 hM2 hB hB2 hb3 hgr keepW hY hyc hyv hyg hy hv2 hend hV
    rcases hsplit with i1 | ⟨i1, i2⟩
    all_goals
      go_wp2_with (first | (refine wpList_load_row rfl _ rfl bg rfl Y hrg hundG rfl hszY ?_) | (refine wpList_build1 pg_okC (by decide) rfl _ rfl Y rfl hylen ?_) | (refine wpList_append rfl _ _ rfl rfl rfl rfl hap ?_) | fail)
      exact ⟨⟨k + 1, M ++ [y], by omega, by omega, by simp, hoM3, hM3, hMg3.out, hB3⟩, by simp [Go.RowKit.intOf]; omega⟩
end Go.Proofs.Ytinibccphecdfaa
