/-
  P1102: in a tree nodes are found, put, dropped, and told by directories, as the document says; the tree ahead stays as it was: the law's walk. Written by mk_tplays.py.
-/
import Derived.Test.YtacjfbomjglnjaaDoorWTreePlaysBase
namespace Go.Proofs.YtacjfbomjglnjaaDoor
open Go.RowKit
set_option maxRecDepth 8000
set_option linter.unusedSimpArgs false
set_option linter.unusedVariables false

theorem ints_load (w : World) (y : Addr) (v : Value) (h : w.cell? y = some v) : (Instr.loadAt 40 (.pointer (some y))).run Tryd.prog w = .ok v w := by
  have h1 := Tryd.underlying40
  go_simp
theorem run_build0 (W : World) : (Instr.buildSlice 22 0 #[]).run Tryd.prog W = .ok (.slice (some ⟨W.heap.size, 0, none⟩) 0 0) (W.alloc (.cells #[] 32)) := by
  have h1 := Tryd.underlying22
  go_simp
theorem wpList_build0 {ops : Array Oper} {rest : List Oper} {o : Oper} {a : Act} {w : World} {Q : Exit → Act → World → Prop} (hg : o.guard = none) (ho : o.op = .buildSlice 22 0 #[])
    (h : wpList Tryd.prog ops Q rest (a.put o.dst (.slice (some ⟨w.heap.size, 0, none⟩) 0 0)) (w.alloc (.cells #[] 32))) : wpList Tryd.prog ops Q (o :: rest) a w := by
  refine wpList_value hg ?_ h
  unfold execOp
  have hr := run_build0 w
  simp [ho, hr, Result.andThen]
  try rfl
/-- A list's copy, by append onto none: its run. -/
structure WasRun (W : World) (a : Option Addr) (n c : Nat) (a' : Option Addr) (c' : Nat) (W' : World) : Prop where
  run : (Builtin.append_ #[22, 22] 22 #[.slice (some ⟨W.heap.size, 0, none⟩) 0 0, .slice a n c]).run Tryd.prog (W.alloc (.cells #[] 32)) = .ok (.slice a' n c') W'
theorem wpList_was {ops : Array Oper} {rest : List Oper} {o : Oper} {A : Act} {W W' : World} {Q : Exit → Act → World → Prop} {a a' : Option Addr} {n c c' : Nat} (h : WasRun W a n c a' c' W') (hg : o.guard = none) (x y : Operand) (ho : o.op = .call { callee := .builtin .append, args := #[x, y], argTypes := #[22, 22] }) (hty : o.type = 22) (hx : A.eval x = .slice (some ⟨W.heap.size, 0, none⟩) 0 0) (hy : A.eval y = .slice a n c)
    (k : wpList Tryd.prog ops Q rest (A.put o.dst (.slice a' n c')) W') : wpList Tryd.prog ops Q (o :: rest) A (W.alloc (.cells #[] 32)) := wpList_append hg x y ho hty hx hy h.run k
theorem str_load (w : World) (y : Addr) (v : Value) (h : w.cell? y = some v) : (Instr.loadAt 9 (.pointer (some y))).run Tryd.prog w = .ok v w := by
  have h1 := Tryd.underlying9
  go_simp
theorem ic_len (x : Int) : (icell x).length = 1 := rfl
theorem pl_at {W : World} {b : Nat} {aa : Option Addr} {ca : Nat} {m : Mk} (h : OwnGr W b (.slice aa (aclOf m.acl).length ca) (aclOf m.acl)) : PN.At W ⟨plN m, aa, ca, none, 0⟩ := by
  obtain ⟨a9, c9, he9, -, -, hr9⟩ := OwnR.slice gr_okT.len h
  cases he9
  exact ⟨row_grs hr9, fun j q hq => by simp [plN] at hq⟩
set_option maxRecDepth 20000 in
set_option maxHeartbeats 8000000 in
theorem treePlays_walk (ta : Option Addr) (ct : Nat) (ts : List Lab) (ma : Option Addr) (mc : Nat) (ms : List PM) (oa : Option Addr) (oc : Nat) (os : List PM) (da : Option Addr) (dc : Nat) (ds : List Int) (w : World) (hlr : RowAt 4 lrow w ta ts) (hmr : RowM w ma ms) (hor : RowM w oa os) (hdr : RowAt 1 icell w da ds) :
    Calls Tryd.prog 4 #[.slice ta ts.length ct, .slice ma ms.length mc, .slice oa os.length oc, .slice da ds.length dc] w fun e w' => e = .returned (.bool true) ∧ Below w.heap.size w w' := by
  have hund := Tryd.underlying32
  have hszN : (Tryd.prog.info? 32).map (·.size) = some 16 := by kernel_rfl
  have hsl : (Tryd.prog.info? 26).map (·.size) = some 4 := by kernel_rfl
  have kg := fun W (q1 : RowAt 4 lrow W ta ts) (q2 : RowM W ma ms) => growT_any ta ct ts ma mc ms W q1 q2
  obtain ⟨nt, hnt⟩ : ∃ nt, ts.length = nt := ⟨_, rfl⟩
  obtain ⟨nm, hnm⟩ : ∃ nm, ms.length = nm := ⟨_, rfl⟩
  obtain ⟨no, hno⟩ : ∃ no, os.length = no := ⟨_, rfl⟩
  obtain ⟨nd, hnd⟩ : ∃ nd, ds.length = nd := ⟨_, rfl⟩
  rw [hnt, hnm] at kg
  rw [hnt, hnm, hno, hnd]
  clear hnt hnm
  replace hno : Aside (os.length = no) := hno
  replace hnd : Aside (ds.length = nd) := hnd
  go_enter Tryd.func4, Tryd.ntmps4
  go_wp2_with fail
  refine (tknown_any w).mono ?_
  rintro e W1 ⟨rfl, hB1⟩
  go_wp2_with fail
  refine (kg W1 (hlr.below lab_ok.len hB1) (hmr.below hB1)).mono ?_
  rintro e W2 ⟨v, l0, rfl, ho, hat, hnm, hB2⟩
  have hB02 := Below.then hB1 hB2
  have hT : Tree (namesP l0) := by rw [hnm]; exact grow_tree ts _
  have hgd : ∀ d ∈ namesP l0, GoodN d := fun d hd => tree_good (hT.ok d hd) (by rw [hnm] at hd; exact grow_paths ts _ d hd)
  have hl0 : l0.length ≤ 19 := by
    have := grow_len ts (ms.map (·.m))
    rw [← hnm] at this
    simpa [namesP] using this
  obtain ⟨a0, c0, rfl, hP0⟩ := pl_of ho hat hT.ord hgd
  clear kg ho hat hnm hB2 hlr hmr hT hgd hB1
  go_wp2_with fail
  go_loopw [9, 10] (fun t9 t10 wr => ∃ (i : Nat) (l : List PN) (a : Option Addr) (c : Nat), i ≤ no ∧ i ≤ 12 ∧ t10 = .int .i64 (i : Int) ∧ t9 = .slice a l.length c ∧ PL wr a c l ∧ l.length ≤ 19 + i ∧ Below w.heap.size w wr) (fun _ t10 _ => no - (Go.RowKit.intOf t10).toNat)
  case atStart => exact ⟨0, l0, a0, c0, by omega, by omega, rfl, rfl, hP0, by omega, hB02⟩
  case round =>
    clear hP0 hB02 hl0
    obtain ⟨i, l, a, c, hi, hi12, rfl, rfl, hP, hll, hB⟩ := hrel
    obtain ⟨n, hn⟩ : ∃ n, l.length = n := ⟨_, rfl⟩
    rw [hn] at hll ⊢
    by_cases hlt : i < no ∧ i < 12
    · obtain ⟨x, hx⟩ : ∃ x, os[i]? = some x := ⟨_, List.getElem?_eq_getElem (by rw [hno.out]; exact hlt.1)⟩
      obtain ⟨aw, cw, W3, hap0, hPw, hB3⟩ := was_run hP hn (by omega)
      have hap : WasRun wr a n c aw cw W3 := ⟨hap0⟩
      clear hap0
      replace hn : Aside (l.length = n) := hn
      have hP3 := hP.below hB3
      have hB03 := Below.then hB hB3
      have hMr := hor.below hB03
      obtain ⟨yo, rfl, -⟩ := hMr.r i x hx
      have hxa := hMr.p x (List.mem_of_getElem? hx)
      have hcx := hMr.r.at pm_len hx
      obtain ⟨W4, hW4, hth, hmb, hB4⟩ := put_new W3 mzero 42 x.cs rfl (by rw [pm_len]; omega)
      have hszm : (Tryd.prog.info? 42).map (·.size) = some x.cs.length := by kernel_rfl
      have hone := pm_one x
      have i1 : (i : Int) < (no : Int) := by omega
      have i2 : (i : Int) < 12 := by omega
      have hP4 := hP3.below hB4
      have hPw4 := hPw.below hB4
      have hxa4 := hxa.below hB4
      have hB04 := Below.then hB03 hB4
      go_upto_region 9 with (first | (refine wpList_build0 rfl rfl ?_) | (refine wpList_was hap rfl _ _ rfl rfl rfl rfl ?_) | (refine wpList_load_at rfl _ rfl (yo.add (i * 16)) rfl x.cs hcx Tryd.underlying42 rfl hszm ?_) | (refine wpList_store_row rfl _ _ rfl W3.heap.size rfl x.cs rfl hth hszm hone hW4 ?_) | fail)
      simp only [Act.put]
      generalize W3.heap.size = bm at *
      clear hap hth hW4 hcx hone hP3 hPw hP hB3 hB4 hB hxa hMr hB03
      replace hxa4 := hxa4
      obtain ⟨Z, hZ⟩ : ∃ Z, Z = W4 := ⟨_, rfl⟩
      subst hZ
      have hxa := hxa4
      obtain ⟨p, hp0⟩ : ∃ p, mkPath x.m = p := ⟨_, rfl⟩
      have hp : Aside (mkPath x.m = p) := hp0
      obtain ⟨A, hA0⟩ : ∃ A, aclOf x.m.acl = A := ⟨_, rfl⟩
      have hA : Aside (aclOf x.m.acl = A) := hA0
      clear hp0 hA0
      go_cut [13] from 29 to 178 (fun s13 wq => ∃ (bn : Nat) (y : PN), s13 = .pointer (some ⟨bn, 0, none⟩) ∧ Below Z.heap.size Z wq ∧ BlkL bn y.cs wq ∧ y.At wq ∧ y.n = plN x.m)
      case first =>
          have hS0 : Below Z.heap.size Z Z.drew := (Below.refl _ _).drew
          refine wp_region_held_drew (S := (fun W => Below Z.heap.size Z W)) (by kernel_rfl) (by exact hS0) ?_
          intro hHeld
          generalize Z.drew = w0 at *
          refine wpAnyH_take (i := 0) (v := ?_) (by simp only [gA, gB, gC]; rfl) (by kernel_rfl) (by kernel_rfl) (by kernel_rfl) (by exact fun _ _ _ h => h) (Or.inl ⟨by rfl, ?_⟩) (by assumption) ?_; rotate_left; (focus (intro w hSw; (try dsimp only at hSw); go_simp; try with_reducible rfl)); (try simp only [Act.put, sA, sB, sC])
          refine wpAnyH_take (i := 1) (v := _) (by simp only [gA, gB, gC]; rfl) (by kernel_rfl) (by kernel_rfl) (by kernel_rfl) (by exact fun _ _ _ h => h) (yields_cell (by rfl) _ rfl ⟨bm, 0, none⟩ rfl (.slice x.pa x.m.path.length x.pc) (fun _ q => ((stab_blk _ _ _ _ hmb q).1 0 _ rfl).1) ints_load) (by assumption) ?_; (try simp only [Act.put, sA, sB, sC])
          refine wpAnyH_take (i := 3) (v := ?_) (by simp only [gA, gB, gC]; rfl) (by kernel_rfl) (by kernel_rfl) (by kernel_rfl) (by exact fun _ _ _ h => h) (Or.inl ⟨by rfl, ?_⟩) (by assumption) ?_; rotate_left; (focus (intro w hSw; (try dsimp only at hSw); go_simp; try with_reducible rfl)); (try simp only [Act.put, sA, sB, sC])
          refine wpAnyH_take (i := 4) (v := _) (by simp only [gA, gB, gC]; rfl) (by kernel_rfl) (by kernel_rfl) (by kernel_rfl) (by exact fun _ _ _ h => h) (yields_cell (by rfl) _ rfl ⟨bm, 1, none⟩ rfl (.bool x.m.dir) (fun _ q => ((stab_blk _ _ _ _ hmb q).1 1 _ rfl).1) boolG_load) (by assumption) ?_; (try simp only [Act.put, sA, sB, sC])
          refine wpAnyH_take (i := 5) (v := ?_) (by simp only [gA, gB, gC]; rfl) (by kernel_rfl) (by kernel_rfl) (by kernel_rfl) (by exact fun _ _ _ h => h) (Or.inl ⟨by rfl, ?_⟩) (by assumption) ?_; rotate_left; (focus (intro w hSw; (try dsimp only at hSw); go_simp; try with_reducible rfl)); (try simp only [Act.put, sA, sB, sC])
          refine wpAnyH_take (i := 6) (v := _) (by simp only [gA, gB, gC]; rfl) (by kernel_rfl) (by kernel_rfl) (by kernel_rfl) (by exact fun _ _ _ h => h) (yields_at (by rfl) _ rfl ⟨bm, 2, none⟩ rfl [.int .i64 x.m.up.s, .int .i64 x.m.up.c, .int .i64 x.m.up.i, .int .i64 x.m.up.k] (fun _ q => blk_four (stab_blk _ _ _ _ hmb q).1 rfl rfl rfl rfl) Tryd.underlying26 rfl hsl) (by assumption) ?_; (try simp only [Act.put, sA, sB, sC])
          refine wpAnyH_take (i := 8) (v := ?_) (by simp only [gA, gB, gC]; rfl) (by kernel_rfl) (by kernel_rfl) (by kernel_rfl) (by exact fun _ _ _ h => h) (Or.inl ⟨by rfl, ?_⟩) (by assumption) ?_; rotate_left; (focus (intro w hSw; (try dsimp only at hSw); go_simp; try with_reducible rfl)); (try simp only [Act.put, sA, sB, sC])
          refine wpAnyH_take (i := 9) (v := _) (by simp only [gA, gB, gC]; rfl) (by kernel_rfl) (by kernel_rfl) (by kernel_rfl) (by exact fun _ _ _ h => h) (yields_cell (by rfl) _ rfl ⟨bm, 6, none⟩ rfl (.slice x.aa x.m.acl.length x.ca) (fun _ q => ((stab_blk _ _ _ _ hmb q).1 6 _ rfl).1) grs_load) (by assumption) ?_; (try simp only [Act.put, sA, sB, sC])
          refine wpAnyH_take (i := 11) (v := ?_) (by simp only [gA, gB, gC]; rfl) (by kernel_rfl) (by kernel_rfl) (by kernel_rfl) (by exact fun _ _ _ h => h) (Or.inl ⟨by rfl, ?_⟩) (by assumption) ?_; rotate_left; (focus (intro w hSw; (try dsimp only at hSw); go_simp; try with_reducible rfl)); (try simp only [Act.put, sA, sB, sC])
          refine wpAnyH_take (i := 12) (v := _) (by simp only [gA, gB, gC]; rfl) (by kernel_rfl) (by kernel_rfl) (by kernel_rfl) (by exact fun _ _ _ h => h) (yields_at (by rfl) _ rfl ⟨bm, 12, none⟩ rfl [.int .i64 x.m.by_.s, .int .i64 x.m.by_.c, .int .i64 x.m.by_.i, .int .i64 x.m.by_.k] (fun _ q => blk_four (stab_blk _ _ _ _ hmb q).1 rfl rfl rfl rfl) Tryd.underlying26 rfl hsl) (by assumption) ?_; (try simp only [Act.put, sA, sB, sC])
          refine wpAnyH_ready (rs := [2, 15]) (by kernel_rfl) (by simp) ?_
          refine AllReadyH.cons (by simp only [gA, gB, gC]; rfl) (fun K hK => ?_) ?_
          · go_simp
            go_at_call 14
            refine (mkOf_any x _ (hxa.below hS0)).mono ?_
            rintro e w1 ⟨rfl, hb⟩
            rw [hp.out]
            have hS1 := Below.then hS0 hb
            refine hK.out _ _ (hS1) ?_
            clear hHeld hK
            intro hHeld
            (try simp only [Act.put, sA, sB, sC])
            refine wpAnyH_ready (rs := [7, 15]) (by kernel_rfl) (by simp) ?_
            refine AllReadyH.cons (by simp only [gA, gB, gC]; rfl) (fun K hK => ?_) ?_
            · go_simp
              go_at_call 15
              refine (good_any x.m.up _).mono ?_
              rintro e w2 ⟨rfl, hb⟩
              have hS2 := Below.then hS1 hb
              refine hK.out _ _ (hS2) ?_
              clear hHeld hK
              intro hHeld
              (try simp only [Act.put, sA, sB, sC])
              refine wpAnyH_ready (rs := [10, 15]) (by kernel_rfl) (by simp) ?_
              refine AllReadyH.cons (by simp only [gA, gB, gC]; rfl) (fun K hK => ?_) ?_
              · go_simp
                go_at_call 16
                refine (aclT_any _ _ x.m.acl _ (hxa.below hS2).g).mono ?_
                rintro e w3 ⟨v7, rfl, hO3, hb⟩
                rw [hA.out] at hO3
                obtain ⟨aa, ca, hvv, -, -, -⟩ := OwnR.slice gr_okT.len hO3
                subst hvv
                have hS3 := Below.then hS2 hb
                refine hK.out _ _ (hS3) ?_
                clear hHeld hK
                intro hHeld
                (try simp only [Act.put, sA, sB, sC])
                refine wpAnyH_ready (rs := [13, 15]) (by kernel_rfl) (by simp) ?_
                refine AllReadyH.cons (by simp only [gA, gB, gC]; rfl) (fun K hK => ?_) ?_
                · go_simp
                  go_at_call 15
                  refine (good_any x.m.by_ _).mono ?_
                  rintro e w4 ⟨rfl, hb⟩
                  have hS4 := Below.then hS3 hb
                  have hO4 := hO3.below hb
                  refine hK.out _ _ (hS4) ?_
                  clear hHeld hK
                  intro hHeld
                  (try simp only [Act.put, sA, sB, sC])
                  refine wpAnyH_take (i := 14) (v := ?_) (by simp only [gA, gB, gC]; rfl) (by kernel_rfl) (by kernel_rfl) (by kernel_rfl) (by exact fun _ _ _ h => h) (Or.inl ⟨by rfl, ?_⟩) (by assumption) ?_; rotate_left; (focus (intro w hSw; (try dsimp only at hSw); go_simp; try with_reducible rfl)); (try simp only [Act.put, sA, sB, sC])
                  refine wpAnyH_ready (rs := [15]) (by kernel_rfl) (by simp) ?_
                  refine AllReadyH.cons (by simp only [gA, gB, gC]; rfl) (fun K hK => ?_) AllReadyH.nil
                  go_simp
                  refine hK.out _ _ (Below.then hS4 (alloc_below _ _)) ?_
                  clear hHeld hK
                  intro hHeld
                  have hb := alloc_below w4 (.cells nzT 32)
                  have hbn5 := blkl_alloc w4 nzT 32
                  have hpb5 := hb
                  have hS5 := Below.then hS4 hb
                  have hO5 := hO4.below hb
                  generalize hwx : w4.alloc (.cells nzT 32) = w5 at *
                  clear hwx hb
                  (try simp only [Act.put, sA, sB, sC])
                  refine wpAnyH_ready (rs := [16]) (by kernel_rfl) (by simp) ?_
                  refine AllReadyH.cons (by simp only [gA, gB, gC]; rfl) (fun K hK => ?_) AllReadyH.nil
                  have hthz : w5.there w4.heap.size 0 ([.string p, .bool x.m.dir, .int .i64 (goodL x.m.up).s, .int .i64 (goodL x.m.up).c, .int .i64 (goodL x.m.up).i, .int .i64 (goodL x.m.up).k, .slice aa A.length ca, .int .i64 0, .int .i64 0, .int .i64 0, .int .i64 0, .slice none 0 0, .int .i64 (goodL x.m.by_).s, .int .i64 (goodL x.m.by_).c, .int .i64 (goodL x.m.by_).i, .int .i64 (goodL x.m.by_).k] : List Value).length := hbn5.1.there
                  obtain ⟨wz, hwz⟩ : ∃ wz, w5.setCells w4.heap.size 0 [.string p, .bool x.m.dir, .int .i64 (goodL x.m.up).s, .int .i64 (goodL x.m.up).c, .int .i64 (goodL x.m.up).i, .int .i64 (goodL x.m.up).k, .slice aa A.length ca, .int .i64 0, .int .i64 0, .int .i64 0, .int .i64 0, .slice none 0 0, .int .i64 (goodL x.m.by_).s, .int .i64 (goodL x.m.by_).c, .int .i64 (goodL x.m.by_).i, .int .i64 (goodL x.m.by_).k] = wz := ⟨_, rfl⟩
                  have hbz1 : Blk wz w4.heap.size [.string p, .bool x.m.dir, .int .i64 (goodL x.m.up).s, .int .i64 (goodL x.m.up).c, .int .i64 (goodL x.m.up).i, .int .i64 (goodL x.m.up).k, .slice aa A.length ca, .int .i64 0, .int .i64 0, .int .i64 0, .int .i64 0, .slice none 0 0, .int .i64 (goodL x.m.by_).s, .int .i64 (goodL x.m.by_).c, .int .i64 (goodL x.m.by_).i, .int .i64 (goodL x.m.by_).k] := by rw [← hwz]; exact hbn5.1.setAll rfl
                  have hbz : BlkL w4.heap.size [.string p, .bool x.m.dir, .int .i64 (goodL x.m.up).s, .int .i64 (goodL x.m.up).c, .int .i64 (goodL x.m.up).i, .int .i64 (goodL x.m.up).k, .slice aa A.length ca, .int .i64 0, .int .i64 0, .int .i64 0, .int .i64 0, .slice none 0 0, .int .i64 (goodL x.m.by_).s, .int .i64 (goodL x.m.by_).c, .int .i64 (goodL x.m.by_).i, .int .i64 (goodL x.m.by_).k] wz := ⟨hbz1, hbz1.lt rfl⟩
                  have hBz : Below w4.heap.size w4 wz := by rw [← hwz]; exact Below.cells (Nat.le_refl _) _ 0 hpb5
                  have hSz := Below.then hS4 hBz
                  have hO9 := hO4.below hBz
                  refine step_store_rowT rfl _ _ rfl w4.heap.size rfl [.string p, .bool x.m.dir, .int .i64 (goodL x.m.up).s, .int .i64 (goodL x.m.up).c, .int .i64 (goodL x.m.up).i, .int .i64 (goodL x.m.up).k, .slice aa A.length ca, .int .i64 0, .int .i64 0, .int .i64 0, .int .i64 0, .slice none 0 0, .int .i64 (goodL x.m.by_).s, .int .i64 (goodL x.m.by_).c, .int .i64 (goodL x.m.by_).i, .int .i64 (goodL x.m.by_).k] rfl hthz hszN (pn_one ⟨⟨p, x.m.dir, goodL x.m.up, A, 0, 0, 0, 0, [], goodL x.m.by_⟩, aa, ca, none, 0⟩) hwz ?_
                  (try simp only [Act.put, sA, sB, sC])
                  refine hK.out _ _ (hSz) ?_
                  clear hHeld hK
                  intro hHeld
                  (try simp only [Act.put, sA, sB, sC])
                  refine wpAnyH_done (by kernel_rfl) ?_ _
                  go_wp2_with fail
                  go_meet
                  exact ⟨_, ⟨plN x.m, aa, ca, none, 0⟩, rfl, hSz, by rw [show PN.cs ⟨plN x.m, aa, ca, none, 0⟩ = [.string p, .bool x.m.dir, .int .i64 (goodL x.m.up).s, .int .i64 (goodL x.m.up).c, .int .i64 (goodL x.m.up).i, .int .i64 (goodL x.m.up).k, .slice aa A.length ca, .int .i64 0, .int .i64 0, .int .i64 0, .int .i64 0, .slice none 0 0, .int .i64 (goodL x.m.by_).s, .int .i64 (goodL x.m.by_).c, .int .i64 (goodL x.m.by_).i, .int .i64 (goodL x.m.by_).k] from by unfold PN.cs nclT plN; rw [hp.out, hA.out]; rfl]; exact hbz, by rw [hA.out.symm] at hO9; exact pl_at hO9, rfl⟩
                refine AllReadyH.cons (by simp only [gA, gB, gC]; rfl) (fun K hK => ?_) AllReadyH.nil
                go_simp
                refine hK.out _ _ (Below.then hS3 (alloc_below _ _)) ?_
                clear hHeld hK
                intro hHeld
                have hb := alloc_below w3 (.cells nzT 32)
                have hbn4 := blkl_alloc w3 nzT 32
                have hpb4 := hb
                have hS4 := Below.then hS3 hb
                have hO4 := hO3.below hb
                generalize hwx : w3.alloc (.cells nzT 32) = w4 at *
                clear hwx hb
                (try simp only [Act.put, sA, sB, sC])
                refine wpAnyH_ready (rs := [13]) (by kernel_rfl) (by simp) ?_
                refine AllReadyH.cons (by simp only [gA, gB, gC]; rfl) (fun K hK => ?_) AllReadyH.nil
                go_simp
                go_at_call 15
                refine (good_any x.m.by_ _).mono ?_
                rintro e w5 ⟨rfl, hb⟩
                have hS5 := Below.then hS4 hb
                have hO5 := hO4.below hb
                have hbn5 := stab_blk _ _ _ _ hbn4 hb
                have hpb5 := Below.then hpb4 hb
                refine hK.out _ _ (hS5) ?_
                clear hHeld hK
                intro hHeld
                (try simp only [Act.put, sA, sB, sC])
                refine wpAnyH_take (i := 14) (v := ?_) (by simp only [gA, gB, gC]; rfl) (by kernel_rfl) (by kernel_rfl) (by kernel_rfl) (by exact fun _ _ _ h => h) (Or.inl ⟨by rfl, ?_⟩) (by assumption) ?_; rotate_left; (focus (intro w hSw; (try dsimp only at hSw); go_simp; try with_reducible rfl)); (try simp only [Act.put, sA, sB, sC])
                refine wpAnyH_ready (rs := [16]) (by kernel_rfl) (by simp) ?_
                refine AllReadyH.cons (by simp only [gA, gB, gC]; rfl) (fun K hK => ?_) AllReadyH.nil
                have hthz : w5.there w3.heap.size 0 ([.string p, .bool x.m.dir, .int .i64 (goodL x.m.up).s, .int .i64 (goodL x.m.up).c, .int .i64 (goodL x.m.up).i, .int .i64 (goodL x.m.up).k, .slice aa A.length ca, .int .i64 0, .int .i64 0, .int .i64 0, .int .i64 0, .slice none 0 0, .int .i64 (goodL x.m.by_).s, .int .i64 (goodL x.m.by_).c, .int .i64 (goodL x.m.by_).i, .int .i64 (goodL x.m.by_).k] : List Value).length := hbn5.1.there
                obtain ⟨wz, hwz⟩ : ∃ wz, w5.setCells w3.heap.size 0 [.string p, .bool x.m.dir, .int .i64 (goodL x.m.up).s, .int .i64 (goodL x.m.up).c, .int .i64 (goodL x.m.up).i, .int .i64 (goodL x.m.up).k, .slice aa A.length ca, .int .i64 0, .int .i64 0, .int .i64 0, .int .i64 0, .slice none 0 0, .int .i64 (goodL x.m.by_).s, .int .i64 (goodL x.m.by_).c, .int .i64 (goodL x.m.by_).i, .int .i64 (goodL x.m.by_).k] = wz := ⟨_, rfl⟩
                have hbz1 : Blk wz w3.heap.size [.string p, .bool x.m.dir, .int .i64 (goodL x.m.up).s, .int .i64 (goodL x.m.up).c, .int .i64 (goodL x.m.up).i, .int .i64 (goodL x.m.up).k, .slice aa A.length ca, .int .i64 0, .int .i64 0, .int .i64 0, .int .i64 0, .slice none 0 0, .int .i64 (goodL x.m.by_).s, .int .i64 (goodL x.m.by_).c, .int .i64 (goodL x.m.by_).i, .int .i64 (goodL x.m.by_).k] := by rw [← hwz]; exact hbn5.1.setAll rfl
                have hbz : BlkL w3.heap.size [.string p, .bool x.m.dir, .int .i64 (goodL x.m.up).s, .int .i64 (goodL x.m.up).c, .int .i64 (goodL x.m.up).i, .int .i64 (goodL x.m.up).k, .slice aa A.length ca, .int .i64 0, .int .i64 0, .int .i64 0, .int .i64 0, .slice none 0 0, .int .i64 (goodL x.m.by_).s, .int .i64 (goodL x.m.by_).c, .int .i64 (goodL x.m.by_).i, .int .i64 (goodL x.m.by_).k] wz := ⟨hbz1, hbz1.lt rfl⟩
                have hBz : Below w3.heap.size w3 wz := by rw [← hwz]; exact Below.cells (Nat.le_refl _) _ 0 hpb5
                have hSz := Below.then hS3 hBz
                have hO9 := hO3.below hBz
                refine step_store_rowT rfl _ _ rfl w3.heap.size rfl [.string p, .bool x.m.dir, .int .i64 (goodL x.m.up).s, .int .i64 (goodL x.m.up).c, .int .i64 (goodL x.m.up).i, .int .i64 (goodL x.m.up).k, .slice aa A.length ca, .int .i64 0, .int .i64 0, .int .i64 0, .int .i64 0, .slice none 0 0, .int .i64 (goodL x.m.by_).s, .int .i64 (goodL x.m.by_).c, .int .i64 (goodL x.m.by_).i, .int .i64 (goodL x.m.by_).k] rfl hthz hszN (pn_one ⟨⟨p, x.m.dir, goodL x.m.up, A, 0, 0, 0, 0, [], goodL x.m.by_⟩, aa, ca, none, 0⟩) hwz ?_
                (try simp only [Act.put, sA, sB, sC])
                refine hK.out _ _ (hSz) ?_
                clear hHeld hK
                intro hHeld
                (try simp only [Act.put, sA, sB, sC])
                refine wpAnyH_done (by kernel_rfl) ?_ _
                go_wp2_with fail
                go_meet
                exact ⟨_, ⟨plN x.m, aa, ca, none, 0⟩, rfl, hSz, by rw [show PN.cs ⟨plN x.m, aa, ca, none, 0⟩ = [.string p, .bool x.m.dir, .int .i64 (goodL x.m.up).s, .int .i64 (goodL x.m.up).c, .int .i64 (goodL x.m.up).i, .int .i64 (goodL x.m.up).k, .slice aa A.length ca, .int .i64 0, .int .i64 0, .int .i64 0, .int .i64 0, .slice none 0 0, .int .i64 (goodL x.m.by_).s, .int .i64 (goodL x.m.by_).c, .int .i64 (goodL x.m.by_).i, .int .i64 (goodL x.m.by_).k] from by unfold PN.cs nclT plN; rw [hp.out, hA.out]; rfl]; exact hbz, by rw [hA.out.symm] at hO9; exact pl_at hO9, rfl⟩
              refine AllReadyH.cons (by simp only [gA, gB, gC]; rfl) (fun K hK => ?_) AllReadyH.nil
              go_simp
              refine hK.out _ _ (Below.then hS2 (alloc_below _ _)) ?_
              clear hHeld hK
              intro hHeld
              have hb := alloc_below w2 (.cells nzT 32)
              have hbn3 := blkl_alloc w2 nzT 32
              have hpb3 := hb
              have hS3 := Below.then hS2 hb
              generalize hwx : w2.alloc (.cells nzT 32) = w3 at *
              clear hwx hb
              (try simp only [Act.put, sA, sB, sC])
              refine wpAnyH_ready (rs := [10]) (by kernel_rfl) (by simp) ?_
              refine AllReadyH.cons (by simp only [gA, gB, gC]; rfl) (fun K hK => ?_) AllReadyH.nil
              go_simp
              go_at_call 16
              refine (aclT_any _ _ x.m.acl _ (hxa.below hS3).g).mono ?_
              rintro e w4 ⟨v7, rfl, hO4, hb⟩
              rw [hA.out] at hO4
              obtain ⟨aa, ca, hvv, -, -, -⟩ := OwnR.slice gr_okT.len hO4
              subst hvv
              have hS4 := Below.then hS3 hb
              have hbn4 := stab_blk _ _ _ _ hbn3 hb
              have hpb4 := Below.then hpb3 hb
              refine hK.out _ _ (hS4) ?_
              clear hHeld hK
              intro hHeld
              (try simp only [Act.put, sA, sB, sC])
              refine wpAnyH_ready (rs := [13]) (by kernel_rfl) (by simp) ?_
              refine AllReadyH.cons (by simp only [gA, gB, gC]; rfl) (fun K hK => ?_) AllReadyH.nil
              go_simp
              go_at_call 15
              refine (good_any x.m.by_ _).mono ?_
              rintro e w5 ⟨rfl, hb⟩
              have hS5 := Below.then hS4 hb
              have hO5 := hO4.below hb
              have hbn5 := stab_blk _ _ _ _ hbn4 hb
              have hpb5 := Below.then hpb4 hb
              refine hK.out _ _ (hS5) ?_
              clear hHeld hK
              intro hHeld
              (try simp only [Act.put, sA, sB, sC])
              refine wpAnyH_take (i := 14) (v := ?_) (by simp only [gA, gB, gC]; rfl) (by kernel_rfl) (by kernel_rfl) (by kernel_rfl) (by exact fun _ _ _ h => h) (Or.inl ⟨by rfl, ?_⟩) (by assumption) ?_; rotate_left; (focus (intro w hSw; (try dsimp only at hSw); go_simp; try with_reducible rfl)); (try simp only [Act.put, sA, sB, sC])
              refine wpAnyH_ready (rs := [16]) (by kernel_rfl) (by simp) ?_
              refine AllReadyH.cons (by simp only [gA, gB, gC]; rfl) (fun K hK => ?_) AllReadyH.nil
              have hthz : w5.there w2.heap.size 0 ([.string p, .bool x.m.dir, .int .i64 (goodL x.m.up).s, .int .i64 (goodL x.m.up).c, .int .i64 (goodL x.m.up).i, .int .i64 (goodL x.m.up).k, .slice aa A.length ca, .int .i64 0, .int .i64 0, .int .i64 0, .int .i64 0, .slice none 0 0, .int .i64 (goodL x.m.by_).s, .int .i64 (goodL x.m.by_).c, .int .i64 (goodL x.m.by_).i, .int .i64 (goodL x.m.by_).k] : List Value).length := hbn5.1.there
              obtain ⟨wz, hwz⟩ : ∃ wz, w5.setCells w2.heap.size 0 [.string p, .bool x.m.dir, .int .i64 (goodL x.m.up).s, .int .i64 (goodL x.m.up).c, .int .i64 (goodL x.m.up).i, .int .i64 (goodL x.m.up).k, .slice aa A.length ca, .int .i64 0, .int .i64 0, .int .i64 0, .int .i64 0, .slice none 0 0, .int .i64 (goodL x.m.by_).s, .int .i64 (goodL x.m.by_).c, .int .i64 (goodL x.m.by_).i, .int .i64 (goodL x.m.by_).k] = wz := ⟨_, rfl⟩
              have hbz1 : Blk wz w2.heap.size [.string p, .bool x.m.dir, .int .i64 (goodL x.m.up).s, .int .i64 (goodL x.m.up).c, .int .i64 (goodL x.m.up).i, .int .i64 (goodL x.m.up).k, .slice aa A.length ca, .int .i64 0, .int .i64 0, .int .i64 0, .int .i64 0, .slice none 0 0, .int .i64 (goodL x.m.by_).s, .int .i64 (goodL x.m.by_).c, .int .i64 (goodL x.m.by_).i, .int .i64 (goodL x.m.by_).k] := by rw [← hwz]; exact hbn5.1.setAll rfl
              have hbz : BlkL w2.heap.size [.string p, .bool x.m.dir, .int .i64 (goodL x.m.up).s, .int .i64 (goodL x.m.up).c, .int .i64 (goodL x.m.up).i, .int .i64 (goodL x.m.up).k, .slice aa A.length ca, .int .i64 0, .int .i64 0, .int .i64 0, .int .i64 0, .slice none 0 0, .int .i64 (goodL x.m.by_).s, .int .i64 (goodL x.m.by_).c, .int .i64 (goodL x.m.by_).i, .int .i64 (goodL x.m.by_).k] wz := ⟨hbz1, hbz1.lt rfl⟩
              have hBz : Below w2.heap.size w2 wz := by rw [← hwz]; exact Below.cells (Nat.le_refl _) _ 0 hpb5
              have hSz := Below.then hS2 hBz
              have hne9 : (Value.slice aa A.length ca).ownBlock ≠ some w2.heap.size := fun q => by have h1 := (hO5.lt q).1; have h2 := hbn3.2; omega
              have hO9 : OwnGr wz w3.heap.size (.slice aa A.length ca) A := by rw [← hwz]; exact hO5.setAll hne9 _
              refine step_store_rowT rfl _ _ rfl w2.heap.size rfl [.string p, .bool x.m.dir, .int .i64 (goodL x.m.up).s, .int .i64 (goodL x.m.up).c, .int .i64 (goodL x.m.up).i, .int .i64 (goodL x.m.up).k, .slice aa A.length ca, .int .i64 0, .int .i64 0, .int .i64 0, .int .i64 0, .slice none 0 0, .int .i64 (goodL x.m.by_).s, .int .i64 (goodL x.m.by_).c, .int .i64 (goodL x.m.by_).i, .int .i64 (goodL x.m.by_).k] rfl hthz hszN (pn_one ⟨⟨p, x.m.dir, goodL x.m.up, A, 0, 0, 0, 0, [], goodL x.m.by_⟩, aa, ca, none, 0⟩) hwz ?_
              (try simp only [Act.put, sA, sB, sC])
              refine hK.out _ _ (hSz) ?_
              clear hHeld hK
              intro hHeld
              (try simp only [Act.put, sA, sB, sC])
              refine wpAnyH_done (by kernel_rfl) ?_ _
              go_wp2_with fail
              go_meet
              exact ⟨_, ⟨plN x.m, aa, ca, none, 0⟩, rfl, hSz, by rw [show PN.cs ⟨plN x.m, aa, ca, none, 0⟩ = [.string p, .bool x.m.dir, .int .i64 (goodL x.m.up).s, .int .i64 (goodL x.m.up).c, .int .i64 (goodL x.m.up).i, .int .i64 (goodL x.m.up).k, .slice aa A.length ca, .int .i64 0, .int .i64 0, .int .i64 0, .int .i64 0, .slice none 0 0, .int .i64 (goodL x.m.by_).s, .int .i64 (goodL x.m.by_).c, .int .i64 (goodL x.m.by_).i, .int .i64 (goodL x.m.by_).k] from by unfold PN.cs nclT plN; rw [hp.out, hA.out]; rfl]; exact hbz, by rw [hA.out.symm] at hO9; exact pl_at hO9, rfl⟩
            refine AllReadyH.cons (by simp only [gA, gB, gC]; rfl) (fun K hK => ?_) AllReadyH.nil
            go_simp
            refine hK.out _ _ (Below.then hS1 (alloc_below _ _)) ?_
            clear hHeld hK
            intro hHeld
            have hb := alloc_below w1 (.cells nzT 32)
            have hbn2 := blkl_alloc w1 nzT 32
            have hpb2 := hb
            have hS2 := Below.then hS1 hb
            generalize hwx : w1.alloc (.cells nzT 32) = w2 at *
            clear hwx hb
            (try simp only [Act.put, sA, sB, sC])
            refine wpAnyH_ready (rs := [7]) (by kernel_rfl) (by simp) ?_
            refine AllReadyH.cons (by simp only [gA, gB, gC]; rfl) (fun K hK => ?_) AllReadyH.nil
            go_simp
            go_at_call 15
            refine (good_any x.m.up _).mono ?_
            rintro e w3 ⟨rfl, hb⟩
            have hS3 := Below.then hS2 hb
            have hbn3 := stab_blk _ _ _ _ hbn2 hb
            have hpb3 := Below.then hpb2 hb
            refine hK.out _ _ (hS3) ?_
            clear hHeld hK
            intro hHeld
            (try simp only [Act.put, sA, sB, sC])
            refine wpAnyH_ready (rs := [10]) (by kernel_rfl) (by simp) ?_
            refine AllReadyH.cons (by simp only [gA, gB, gC]; rfl) (fun K hK => ?_) AllReadyH.nil
            go_simp
            go_at_call 16
            refine (aclT_any _ _ x.m.acl _ (hxa.below hS3).g).mono ?_
            rintro e w4 ⟨v7, rfl, hO4, hb⟩
            rw [hA.out] at hO4
            obtain ⟨aa, ca, hvv, -, -, -⟩ := OwnR.slice gr_okT.len hO4
            subst hvv
            have hS4 := Below.then hS3 hb
            have hbn4 := stab_blk _ _ _ _ hbn3 hb
            have hpb4 := Below.then hpb3 hb
            refine hK.out _ _ (hS4) ?_
            clear hHeld hK
            intro hHeld
            (try simp only [Act.put, sA, sB, sC])
            refine wpAnyH_ready (rs := [13]) (by kernel_rfl) (by simp) ?_
            refine AllReadyH.cons (by simp only [gA, gB, gC]; rfl) (fun K hK => ?_) AllReadyH.nil
            go_simp
            go_at_call 15
            refine (good_any x.m.by_ _).mono ?_
            rintro e w5 ⟨rfl, hb⟩
            have hS5 := Below.then hS4 hb
            have hO5 := hO4.below hb
            have hbn5 := stab_blk _ _ _ _ hbn4 hb
            have hpb5 := Below.then hpb4 hb
            refine hK.out _ _ (hS5) ?_
            clear hHeld hK
            intro hHeld
            (try simp only [Act.put, sA, sB, sC])
            refine wpAnyH_take (i := 14) (v := ?_) (by simp only [gA, gB, gC]; rfl) (by kernel_rfl) (by kernel_rfl) (by kernel_rfl) (by exact fun _ _ _ h => h) (Or.inl ⟨by rfl, ?_⟩) (by assumption) ?_; rotate_left; (focus (intro w hSw; (try dsimp only at hSw); go_simp; try with_reducible rfl)); (try simp only [Act.put, sA, sB, sC])
            refine wpAnyH_ready (rs := [16]) (by kernel_rfl) (by simp) ?_
            refine AllReadyH.cons (by simp only [gA, gB, gC]; rfl) (fun K hK => ?_) AllReadyH.nil
            have hthz : w5.there w1.heap.size 0 ([.string p, .bool x.m.dir, .int .i64 (goodL x.m.up).s, .int .i64 (goodL x.m.up).c, .int .i64 (goodL x.m.up).i, .int .i64 (goodL x.m.up).k, .slice aa A.length ca, .int .i64 0, .int .i64 0, .int .i64 0, .int .i64 0, .slice none 0 0, .int .i64 (goodL x.m.by_).s, .int .i64 (goodL x.m.by_).c, .int .i64 (goodL x.m.by_).i, .int .i64 (goodL x.m.by_).k] : List Value).length := hbn5.1.there
            obtain ⟨wz, hwz⟩ : ∃ wz, w5.setCells w1.heap.size 0 [.string p, .bool x.m.dir, .int .i64 (goodL x.m.up).s, .int .i64 (goodL x.m.up).c, .int .i64 (goodL x.m.up).i, .int .i64 (goodL x.m.up).k, .slice aa A.length ca, .int .i64 0, .int .i64 0, .int .i64 0, .int .i64 0, .slice none 0 0, .int .i64 (goodL x.m.by_).s, .int .i64 (goodL x.m.by_).c, .int .i64 (goodL x.m.by_).i, .int .i64 (goodL x.m.by_).k] = wz := ⟨_, rfl⟩
            have hbz1 : Blk wz w1.heap.size [.string p, .bool x.m.dir, .int .i64 (goodL x.m.up).s, .int .i64 (goodL x.m.up).c, .int .i64 (goodL x.m.up).i, .int .i64 (goodL x.m.up).k, .slice aa A.length ca, .int .i64 0, .int .i64 0, .int .i64 0, .int .i64 0, .slice none 0 0, .int .i64 (goodL x.m.by_).s, .int .i64 (goodL x.m.by_).c, .int .i64 (goodL x.m.by_).i, .int .i64 (goodL x.m.by_).k] := by rw [← hwz]; exact hbn5.1.setAll rfl
            have hbz : BlkL w1.heap.size [.string p, .bool x.m.dir, .int .i64 (goodL x.m.up).s, .int .i64 (goodL x.m.up).c, .int .i64 (goodL x.m.up).i, .int .i64 (goodL x.m.up).k, .slice aa A.length ca, .int .i64 0, .int .i64 0, .int .i64 0, .int .i64 0, .slice none 0 0, .int .i64 (goodL x.m.by_).s, .int .i64 (goodL x.m.by_).c, .int .i64 (goodL x.m.by_).i, .int .i64 (goodL x.m.by_).k] wz := ⟨hbz1, hbz1.lt rfl⟩
            have hBz : Below w1.heap.size w1 wz := by rw [← hwz]; exact Below.cells (Nat.le_refl _) _ 0 hpb5
            have hSz := Below.then hS1 hBz
            have hne9 : (Value.slice aa A.length ca).ownBlock ≠ some w1.heap.size := fun q => by have h1 := (hO5.lt q).1; have h2 := hbn3.2; omega
            have hO9 : OwnGr wz w3.heap.size (.slice aa A.length ca) A := by rw [← hwz]; exact hO5.setAll hne9 _
            refine step_store_rowT rfl _ _ rfl w1.heap.size rfl [.string p, .bool x.m.dir, .int .i64 (goodL x.m.up).s, .int .i64 (goodL x.m.up).c, .int .i64 (goodL x.m.up).i, .int .i64 (goodL x.m.up).k, .slice aa A.length ca, .int .i64 0, .int .i64 0, .int .i64 0, .int .i64 0, .slice none 0 0, .int .i64 (goodL x.m.by_).s, .int .i64 (goodL x.m.by_).c, .int .i64 (goodL x.m.by_).i, .int .i64 (goodL x.m.by_).k] rfl hthz hszN (pn_one ⟨⟨p, x.m.dir, goodL x.m.up, A, 0, 0, 0, 0, [], goodL x.m.by_⟩, aa, ca, none, 0⟩) hwz ?_
            (try simp only [Act.put, sA, sB, sC])
            refine hK.out _ _ (hSz) ?_
            clear hHeld hK
            intro hHeld
            (try simp only [Act.put, sA, sB, sC])
            refine wpAnyH_done (by kernel_rfl) ?_ _
            go_wp2_with fail
            go_meet
            exact ⟨_, ⟨plN x.m, aa, ca, none, 0⟩, rfl, hSz, by rw [show PN.cs ⟨plN x.m, aa, ca, none, 0⟩ = [.string p, .bool x.m.dir, .int .i64 (goodL x.m.up).s, .int .i64 (goodL x.m.up).c, .int .i64 (goodL x.m.up).i, .int .i64 (goodL x.m.up).k, .slice aa A.length ca, .int .i64 0, .int .i64 0, .int .i64 0, .int .i64 0, .slice none 0 0, .int .i64 (goodL x.m.by_).s, .int .i64 (goodL x.m.by_).c, .int .i64 (goodL x.m.by_).i, .int .i64 (goodL x.m.by_).k] from by unfold PN.cs nclT plN; rw [hp.out, hA.out]; rfl]; exact hbz, by rw [hA.out.symm] at hO9; exact pl_at hO9, rfl⟩
          refine AllReadyH.cons (by simp only [gA, gB, gC]; rfl) (fun K hK => ?_) AllReadyH.nil
          go_simp
          refine hK.out _ _ (Below.then hS0 (alloc_below _ _)) ?_
          clear hHeld hK
          intro hHeld
          have hb := alloc_below w0 (.cells nzT 32)
          have hbn1 := blkl_alloc w0 nzT 32
          have hpb1 := hb
          have hS1 := Below.then hS0 hb
          generalize hwx : w0.alloc (.cells nzT 32) = w1 at *
          clear hwx hb
          (try simp only [Act.put, sA, sB, sC])
          refine wpAnyH_ready (rs := [2]) (by kernel_rfl) (by simp) ?_
          refine AllReadyH.cons (by simp only [gA, gB, gC]; rfl) (fun K hK => ?_) AllReadyH.nil
          go_simp
          go_at_call 14
          refine (mkOf_any x _ (hxa.below hS1)).mono ?_
          rintro e w2 ⟨rfl, hb⟩
          rw [hp.out]
          have hS2 := Below.then hS1 hb
          have hbn2 := stab_blk _ _ _ _ hbn1 hb
          have hpb2 := Below.then hpb1 hb
          refine hK.out _ _ (hS2) ?_
          clear hHeld hK
          intro hHeld
          (try simp only [Act.put, sA, sB, sC])
          refine wpAnyH_ready (rs := [7]) (by kernel_rfl) (by simp) ?_
          refine AllReadyH.cons (by simp only [gA, gB, gC]; rfl) (fun K hK => ?_) AllReadyH.nil
          go_simp
          go_at_call 15
          refine (good_any x.m.up _).mono ?_
          rintro e w3 ⟨rfl, hb⟩
          have hS3 := Below.then hS2 hb
          have hbn3 := stab_blk _ _ _ _ hbn2 hb
          have hpb3 := Below.then hpb2 hb
          refine hK.out _ _ (hS3) ?_
          clear hHeld hK
          intro hHeld
          (try simp only [Act.put, sA, sB, sC])
          refine wpAnyH_ready (rs := [10]) (by kernel_rfl) (by simp) ?_
          refine AllReadyH.cons (by simp only [gA, gB, gC]; rfl) (fun K hK => ?_) AllReadyH.nil
          go_simp
          go_at_call 16
          refine (aclT_any _ _ x.m.acl _ (hxa.below hS3).g).mono ?_
          rintro e w4 ⟨v7, rfl, hO4, hb⟩
          rw [hA.out] at hO4
          obtain ⟨aa, ca, hvv, -, -, -⟩ := OwnR.slice gr_okT.len hO4
          subst hvv
          have hS4 := Below.then hS3 hb
          have hbn4 := stab_blk _ _ _ _ hbn3 hb
          have hpb4 := Below.then hpb3 hb
          refine hK.out _ _ (hS4) ?_
          clear hHeld hK
          intro hHeld
          (try simp only [Act.put, sA, sB, sC])
          refine wpAnyH_ready (rs := [13]) (by kernel_rfl) (by simp) ?_
          refine AllReadyH.cons (by simp only [gA, gB, gC]; rfl) (fun K hK => ?_) AllReadyH.nil
          go_simp
          go_at_call 15
          refine (good_any x.m.by_ _).mono ?_
          rintro e w5 ⟨rfl, hb⟩
          have hS5 := Below.then hS4 hb
          have hO5 := hO4.below hb
          have hbn5 := stab_blk _ _ _ _ hbn4 hb
          have hpb5 := Below.then hpb4 hb
          refine hK.out _ _ (hS5) ?_
          clear hHeld hK
          intro hHeld
          (try simp only [Act.put, sA, sB, sC])
          refine wpAnyH_take (i := 14) (v := ?_) (by simp only [gA, gB, gC]; rfl) (by kernel_rfl) (by kernel_rfl) (by kernel_rfl) (by exact fun _ _ _ h => h) (Or.inl ⟨by rfl, ?_⟩) (by assumption) ?_; rotate_left; (focus (intro w hSw; (try dsimp only at hSw); go_simp; try with_reducible rfl)); (try simp only [Act.put, sA, sB, sC])
          refine wpAnyH_ready (rs := [16]) (by kernel_rfl) (by simp) ?_
          refine AllReadyH.cons (by simp only [gA, gB, gC]; rfl) (fun K hK => ?_) AllReadyH.nil
          have hthz : w5.there w0.heap.size 0 ([.string p, .bool x.m.dir, .int .i64 (goodL x.m.up).s, .int .i64 (goodL x.m.up).c, .int .i64 (goodL x.m.up).i, .int .i64 (goodL x.m.up).k, .slice aa A.length ca, .int .i64 0, .int .i64 0, .int .i64 0, .int .i64 0, .slice none 0 0, .int .i64 (goodL x.m.by_).s, .int .i64 (goodL x.m.by_).c, .int .i64 (goodL x.m.by_).i, .int .i64 (goodL x.m.by_).k] : List Value).length := hbn5.1.there
          obtain ⟨wz, hwz⟩ : ∃ wz, w5.setCells w0.heap.size 0 [.string p, .bool x.m.dir, .int .i64 (goodL x.m.up).s, .int .i64 (goodL x.m.up).c, .int .i64 (goodL x.m.up).i, .int .i64 (goodL x.m.up).k, .slice aa A.length ca, .int .i64 0, .int .i64 0, .int .i64 0, .int .i64 0, .slice none 0 0, .int .i64 (goodL x.m.by_).s, .int .i64 (goodL x.m.by_).c, .int .i64 (goodL x.m.by_).i, .int .i64 (goodL x.m.by_).k] = wz := ⟨_, rfl⟩
          have hbz1 : Blk wz w0.heap.size [.string p, .bool x.m.dir, .int .i64 (goodL x.m.up).s, .int .i64 (goodL x.m.up).c, .int .i64 (goodL x.m.up).i, .int .i64 (goodL x.m.up).k, .slice aa A.length ca, .int .i64 0, .int .i64 0, .int .i64 0, .int .i64 0, .slice none 0 0, .int .i64 (goodL x.m.by_).s, .int .i64 (goodL x.m.by_).c, .int .i64 (goodL x.m.by_).i, .int .i64 (goodL x.m.by_).k] := by rw [← hwz]; exact hbn5.1.setAll rfl
          have hbz : BlkL w0.heap.size [.string p, .bool x.m.dir, .int .i64 (goodL x.m.up).s, .int .i64 (goodL x.m.up).c, .int .i64 (goodL x.m.up).i, .int .i64 (goodL x.m.up).k, .slice aa A.length ca, .int .i64 0, .int .i64 0, .int .i64 0, .int .i64 0, .slice none 0 0, .int .i64 (goodL x.m.by_).s, .int .i64 (goodL x.m.by_).c, .int .i64 (goodL x.m.by_).i, .int .i64 (goodL x.m.by_).k] wz := ⟨hbz1, hbz1.lt rfl⟩
          have hBz : Below w0.heap.size w0 wz := by rw [← hwz]; exact Below.cells (Nat.le_refl _) _ 0 hpb5
          have hSz := Below.then hS0 hBz
          have hne9 : (Value.slice aa A.length ca).ownBlock ≠ some w0.heap.size := fun q => by have h1 := (hO5.lt q).1; have h2 := hbn3.2; omega
          have hO9 : OwnGr wz w3.heap.size (.slice aa A.length ca) A := by rw [← hwz]; exact hO5.setAll hne9 _
          refine step_store_rowT rfl _ _ rfl w0.heap.size rfl [.string p, .bool x.m.dir, .int .i64 (goodL x.m.up).s, .int .i64 (goodL x.m.up).c, .int .i64 (goodL x.m.up).i, .int .i64 (goodL x.m.up).k, .slice aa A.length ca, .int .i64 0, .int .i64 0, .int .i64 0, .int .i64 0, .slice none 0 0, .int .i64 (goodL x.m.by_).s, .int .i64 (goodL x.m.by_).c, .int .i64 (goodL x.m.by_).i, .int .i64 (goodL x.m.by_).k] rfl hthz hszN (pn_one ⟨⟨p, x.m.dir, goodL x.m.up, A, 0, 0, 0, 0, [], goodL x.m.by_⟩, aa, ca, none, 0⟩) hwz ?_
          (try simp only [Act.put, sA, sB, sC])
          refine hK.out _ _ (hSz) ?_
          clear hHeld hK
          intro hHeld
          (try simp only [Act.put, sA, sB, sC])
          refine wpAnyH_done (by kernel_rfl) ?_ _
          go_wp2_with fail
          go_meet
          exact ⟨_, ⟨plN x.m, aa, ca, none, 0⟩, rfl, hSz, by rw [show PN.cs ⟨plN x.m, aa, ca, none, 0⟩ = [.string p, .bool x.m.dir, .int .i64 (goodL x.m.up).s, .int .i64 (goodL x.m.up).c, .int .i64 (goodL x.m.up).i, .int .i64 (goodL x.m.up).k, .slice aa A.length ca, .int .i64 0, .int .i64 0, .int .i64 0, .int .i64 0, .slice none 0 0, .int .i64 (goodL x.m.by_).s, .int .i64 (goodL x.m.by_).c, .int .i64 (goodL x.m.by_).i, .int .i64 (goodL x.m.by_).k] from by unfold PN.cs nclT plN; rw [hp.out, hA.out]; rfl]; exact hbz, by rw [hA.out.symm] at hO9; exact pl_at hO9, rfl⟩
      case rest =>
        obtain ⟨bn, y, rfl, hBz, hbz, hya, hyn⟩ := hcut
        have hPz := hP4.below hBz
        have hPwz := hPw4.below hBz
        have hB0z := Below.then hB04 hBz
        have hyg : GoodN y.n := by rw [hyn]; exact plN_good x.m
        have hyr := hbz.range
        have hszy : (Tryd.prog.info? 32).map (·.size) = some y.cs.length := by rw [pn_len]; exact hszN
        have kput := tput_any a c l y (by rw [hn.out]; omega) hPz.cap hPz.ord hPz.few ⟨hyg.1, hyg.2.1⟩ wc hPz.row hya
        rw [hn.out] at kput
        clear hP4 hPw4 hB04 hmb hxa hxa4 hBz hyn
        go_wp2_with (first | (refine wpList_load_row rfl _ rfl bn rfl y.cs hyr hund rfl hszy ?_) | fail)
        refine kput.mono ?_
        rintro e W5 ⟨v5, l5, rfl, ho5, hn5, ha5, hB5⟩
        obtain ⟨a5, c5, rfl, hP5⟩ := pl_of ho5 ha5 (by rw [hn5]; exact put_ordered (ordP.2 hPz.ord) _) (by rw [hn5]; exact put_good hPz.good hyg)
        have hl5 : l5.length ≤ n + 1 := by
          have h1 := congrArg List.length hn5
          have h2 := putN_len (namesP l) y.n
          simp only [namesP, List.length_map] at h1 h2
          have := hn.out
          omega
        have hPz5 := hPz.below hB5
        have hPw5 := hPwz.below hB5
        have hbz5 := stab_blk _ _ _ _ hbz hB5
        have hyr5 := hbz5.range
        have hya5 := hya.below hB5
        have hB05 := Below.then hB0z hB5
        have krp := rputT_any aw cw l y (by rw [hn.out]; omega) W5 hPw5.row
        rw [hn.out] at krp
        obtain ⟨n5, hn5l⟩ : ∃ n5, l5.length = n5 := ⟨_, rfl⟩
        rw [hn5l] at hl5 ⊢
        replace hn5l : Aside (l5.length = n5) := hn5l
        replace hn5 : Aside (namesP l5 = putN (namesP l) y.n) := hn5
        clear kput hPz hPwz hbz hyr hya hB5 hB0z ho5 ha5
        go_wp2_with (first | (refine wpList_load_row rfl _ rfl bn rfl y.cs hyr5 hund rfl hszy ?_) | fail)
        refine krp.mono ?_
        rintro e W6 ⟨v6, rfl, ho6, hB6⟩
        obtain ⟨a6, c6, rfl, -, -, hr6⟩ := OwnR.slice pn_len ho6
        have hR6 : RowN W6 a6 (putP l y) := ⟨hr6, fun z hz => by
          rcases put_sub hz with rfl | hz
          · exact hya5.below hB6
          · exact (hPw5.row.p z hz).below hB6⟩
        have hpl := put_len l y
        have ks := sameT_any a5 a6 c5 c6 l5 (putP l y) (by rw [hn5l.out]; omega) (by have := hn.out; omega) hP5.fits W6 (hP5.row.below hB6) hR6
        rw [show sameN (namesP l5) (namesP (putP l y)) = true from sameN_iff.2 (by rw [hn5.out, put_names]), hn5l.out] at ks
        have hP6 := hP5.below hB6
        have hPz6 := hPz5.below hB6
        have hPw6 := hPw5.below hB6
        have hB06 := Below.then hB05 hB6
        generalize (putP l y).length = n6 at *
        clear krp hP5 hPz5 hPw5 hbz5 hyr5 hya5 hB6 hB05 ho6 hr6 hR6 hpl
        go_wp2_with fail
        refine ks.mono ?_
        rintro e W7 ⟨rfl, hB7⟩
        have ks2 := sameT_any a aw c cw l l (by rw [hn.out]; omega) (by rw [hn.out]; omega) hPz6.fits W7 (hPz6.row.below hB7) (hPw6.row.below hB7)
        rw [show sameN (namesP l) (namesP l) = true from sameN_iff.2 rfl, hn.out] at ks2
        have hP7 := hP6.below hB7
        have hB07 := Below.then hB06 hB7
        clear ks hP6 hPz6 hPw6 hB06 hB7
        go_wp2_with fail
        refine ks2.mono ?_
        rintro e W8 ⟨rfl, hB8⟩
        have hP8 := hP7.below hB8
        have hB08 := Below.then hB07 hB8
        clear ks2 hP7 hB07 hB8 hn5
        go_upto_region 14 with fail
        obtain ⟨bb, hbb⟩ : ∃ bb : Bool, decide (i < nd ∧ 0 < n5) = bb := ⟨_, rfl⟩
        replace hbb : Aside (decide (i < nd ∧ 0 < n5) = bb) := hbb
        obtain ⟨Y, hY⟩ : ∃ Y, Y = W8 := ⟨_, rfl⟩
        subst hY
        go_cut [85] from 77 to 84 (fun s85 wq => s85 = .bool bb ∧ wq = Y)
        case first =>
          by_cases h1 : i < nd
          · have j1 : (i : Int) < (nd : Int) := by omega
            by_cases h2 : 0 < n5
            · have j2 : (0 : Int) < (n5 : Int) := by omega
              obtain rfl : bb = true := by rw [← hbb.out]; simp [h1, h2]
              clear hbb
              go_wp2_with fail
              go_meet
              exact ⟨rfl, rfl⟩
            · obtain rfl : n5 = 0 := by omega
              obtain rfl : bb = false := by rw [← hbb.out]; simp
              clear hbb
              go_wp2_with fail
              go_meet
              exact ⟨rfl, rfl⟩
          · have j1 : ¬ (i : Int) < (nd : Int) := by omega
            obtain rfl : bb = false := by rw [← hbb.out]; simp [h1]
            clear hbb
            go_wp2_with fail
            go_meet
            exact ⟨rfl, rfl⟩
        case rest =>
          obtain ⟨rfl, hwc⟩ := hcut
          rw [hwc]
          clear hwc
          go_upto_if 85 with fail
          go_cut [9, 11, 14, 15] from 86 to 115 (fun s9 s11 s14 s15 wq => ∃ (l2 : List PN) (a2 : Option Addr) (c2 : Nat), s9 = .slice a2 l2.length c2 ∧ PL wq a2 c2 l2 ∧ l2.length ≤ n + 1 ∧ Below w.heap.size w wq)
          case first =>
            cases bb
            · clear hbb
              go_wp2_with fail
              go_meet
              exact ⟨l5, a5, c5, by rw [hn5l.out], hP8, by rw [hn5l.out]; exact hl5, hB08⟩
            · have hb2 := of_decide_eq_true hbb.out
              obtain ⟨h1, h2⟩ := hb2
              have j1 : (i : Int) < (nd : Int) := by omega
              have j2 : (0 : Int) < (n5 : Int) := by omega
              obtain ⟨qd, hqd⟩ : ∃ qd, ds[i]? = some qd := ⟨_, List.getElem?_eq_getElem (by rw [hnd.out]; exact h1)⟩
              obtain ⟨yd, rfl, hcd⟩ := (hdr.below ic_len hB08) i qd hqd
              have hcd0 : Y.cell? (yd.add i) = some (.int .i64 qd) := by simpa [icell] using hcd 0 (by decide)
              clear hcd hbb
              go_wp2_with fail
              refine (w11_any qd (n5 : Int) j2 (by omega) Y).mono ?_
              rintro e W9 ⟨rfl, hW9⟩
              subst hW9
              obtain ⟨ix, hix⟩ : ∃ ix : Nat, qd % (n5 : Int) = (ix : Int) := ⟨(qd % (n5 : Int)).toNat, by have := Int.emod_nonneg qd (show (n5 : Int) ≠ 0 by omega); omega⟩
              have hixn : ix < n5 := by have := Int.emod_lt_of_pos qd (show (0 : Int) < n5 by omega); omega
              rw [hix]
              clear hix
              have j3 : (ix : Int) < (n5 : Int) := by omega
              obtain ⟨d2, hd2⟩ : ∃ d2, l5[ix]? = some d2 := ⟨_, List.getElem?_eq_getElem (by rw [hn5l.out]; exact hixn)⟩
              obtain ⟨y5, rfl⟩ := hP8.row.some_ hd2
              have hcp := hP8.row.path hd2
              obtain ⟨pd, hpd⟩ : ∃ pd, d2.n.path = pd := ⟨_, rfl⟩
              rw [hpd] at hcp
              clear hpd
              obtain ⟨ae, ce, W10, hap0, hPe, hB10⟩ := was_run hP8 hn5l.out (by omega)
              have hap : WasRun W9 (some y5) n5 c5 ae ce W10 := ⟨hap0⟩
              have hP10 := hP8.below hB10
              have hB010 := Below.then hB08 hB10
              have kd := tdrop_any (some y5) c5 l5 pd (by rw [hn5l.out]; omega) hP10.cap hP10.ord hP10.few W10 hP10.row
              rw [hn5l.out] at kd
              clear hap0 hP8 hB10 hB08 hd2
              go_wp2_with (first | (refine wpList_build0 rfl rfl ?_) | (refine wpList_was hap rfl _ _ rfl rfl rfl rfl ?_) | fail)
              refine kd.mono ?_
              rintro e W11 ⟨v7, l7, rfl, ho7, hn7, ha7, hB11⟩
              obtain ⟨a7, c7, rfl, hP11⟩ := pl_of ho7 ha7 (by rw [hn7]; exact drop_ordered (ordP.2 hP10.ord) _) (by rw [hn7]; exact drop_good hP10.good)
              have hl7 : l7.length ≤ n + 1 := by
                have q1 := congrArg List.length hn7
                have q2 : (dropN (namesP l5) pd).length ≤ (namesP l5).length := List.length_filter_le _ _
                simp only [namesP, List.length_map] at q1 q2
                have := hn5l.out
                omega
              have hPe11 := hPe.below (hB11)
              have hPz11 := hP10.below hB11
              have hB011 := Below.then hB010 hB11
              have krd := rdropT_any ae ce l5 pd (by rw [hn5l.out]; omega) W11 hPe11.row
              rw [hn5l.out] at krd
              obtain ⟨n7, hn7l⟩ : ∃ n7, l7.length = n7 := ⟨_, rfl⟩
              rw [hn7l] at hl7 ⊢
              replace hn7l : Aside (l7.length = n7) := hn7l
              replace hn7 : Aside (namesP l7 = dropN (namesP l5) pd) := hn7
              clear kd ho7 ha7 hap hP10 hPe hB010 hB11
              go_wp2_with fail
              refine krd.mono ?_
              rintro e W12 ⟨v8, rfl, ho8, hB12⟩
              obtain ⟨a8, c8, rfl, -, -, hr8⟩ := OwnR.slice pn_len ho8
              have hR8 : RowN W12 a8 (dropP l5 pd) := ⟨hr8, fun z hz => (hPe11.row.p z (List.mem_filter.1 hz).1).below hB12⟩
              have hdl : (dropP l5 pd).length ≤ l5.length := List.length_filter_le _ _
              have ks := sameT_any a7 a8 c7 c8 l7 (dropP l5 pd) (by rw [hn7l.out]; omega) (by have := hn5l.out; omega) hP11.fits W12 (hP11.row.below hB12) hR8
              rw [show sameN (namesP l7) (namesP (dropP l5 pd)) = true from sameN_iff.2 (by rw [hn7.out, drop_names]), hn7l.out] at ks
              have hP12 := hP11.below hB12
              have hPe12 := hPe11.below hB12
              have hPz12 := hPz11.below hB12
              have hB012 := Below.then hB011 hB12
              generalize (dropP l5 pd).length = n8 at *
              clear krd hP11 hPe11 hPz11 hB011 hB12 ho8 hr8 hR8 hdl
              go_wp2_with fail
              refine ks.mono ?_
              rintro e W13 ⟨rfl, hB13⟩
              have ks2 := sameT_any (some y5) ae c5 ce l5 l5 (by rw [hn5l.out]; omega) (by rw [hn5l.out]; omega) hPz12.fits W13 (hPz12.row.below hB13) (hPe12.row.below hB13)
              rw [show sameN (namesP l5) (namesP l5) = true from sameN_iff.2 rfl, hn5l.out] at ks2
              have hP13 := hP12.below hB13
              have hB013 := Below.then hB012 hB13
              clear ks hP12 hPe12 hPz12 hB012 hB13
              go_wp2_with fail
              refine ks2.mono ?_
              rintro e W14 ⟨rfl, hB14⟩
              have hP14 := hP13.below hB14
              have hB014 := Below.then hB013 hB14
              clear ks2 hP13 hB013 hB14 hn7
              go_wp2_with fail
              go_meet
              exact ⟨l7, a7, c7, by rw [hn7l.out], hP14, by rw [hn7l.out]; exact hl7, hB014⟩
          case rest =>
            obtain ⟨l2, a2, c2, rfl, hP2, hl2, hB2⟩ := hcut
            clear hP8 hB08 hn5l hl5
            obtain ⟨n2, hn2⟩ : ∃ n2, l2.length = n2 := ⟨_, rfl⟩
            have kf := fun W p (q : RowN W a2 l2) => tfind_any a2 c2 l2 p (by omega) hP2.ord hP2.few W q
            have ku := fun W p (q : RowN W a2 l2) => tunder_any a2 c2 l2 p (by omega) hP2.sl W q
            have kv := fun W p (q : RowN W a2 l2) => runderT_any a2 c2 l2 p (by omega) (fun x hx => by have := (hP2.sl x hx).2; omega) W q
            rw [hn2] at kf ku kv hl2 ⊢
            replace hn2 : Aside (l2.length = n2) := hn2
            go_wp2_with fail
            go_loopw [16] (fun t16 wr => ∃ k : Nat, k ≤ n2 ∧ t16 = .int .i64 (k : Int) ∧ Below wc.heap.size wc wr) (fun t16 _ => n2 - (Go.RowKit.intOf t16).toNat)
            case atStart => exact ⟨0, by omega, rfl, Below.refl _ _⟩
            case round =>
              obtain ⟨k, hk, rfl, hBk⟩ := hrel
              have hPk := hP2.below hBk
              by_cases hlk : k < n2
              · obtain ⟨z, hz⟩ : ∃ z, l2[k]? = some z := ⟨_, List.getElem?_eq_getElem (by rw [hn2.out]; exact hlk)⟩
                have hzm := List.mem_of_getElem? hz
                obtain ⟨y2, rfl⟩ := hPk.row.some_ hz
                have hcz := hPk.row.path hz
                obtain ⟨f0, hf0, hf0n⟩ := findP_mem hPk.ord hzm
                have kfz := kf wr z.n.path hPk.row
                rw [hf0] at kfz
                have m1 : (k : Int) < (n2 : Int) := by omega
                go_wp2_with fail
                refine kfz.mono ?_
                rintro e W20 ⟨f, rfl, hfn, hfa, hB20⟩
                replace hfn : f.n = z.n := hfn.trans hf0n
                obtain ⟨W21, hW21, hth21, hbf, hB21⟩ := put_new W20 ndz 32 f.cs rfl (by rw [pn_len]; omega)
                have hszf : (Tryd.prog.info? 32).map (·.size) = some f.cs.length := by rw [pn_len]; exact hszN
                have honef := pn_one f
                have hB2021 := Below.then hB20 hB21
                have hP21 := hPk.below hB2021
                have hfa21 := hfa.below hB21
                have hBk21 := Below.then hBk hB2021
                clear kfz hfa hB20 hB21 hPk hcz hB2021
                go_upto_region 25 with (first | (refine wpList_store_row rfl _ _ rfl W20.heap.size rfl f.cs rfl hth21 hszf honef hW21 ?_) | fail)
                clear hth21 hW21 honef
                generalize W20.heap.size = bf at *
                obtain ⟨Z2, hZ2⟩ : ∃ Z2, Z2 = W21 := ⟨_, rfl⟩
                subst hZ2
                have hS0 : (fun W => Below Z2.heap.size Z2 W) Z2.drew := (Below.refl _ _).drew
                refine wp_region_held_drew (S := (fun W => Below Z2.heap.size Z2 W)) (by kernel_rfl) (by first | exact hS2 | exact hS1 | exact hS0) ?_
                intro hHeld
                (first | (refine wpAnyH_take (i := 0) (v := ?_) (by simp only [gA, gB, gC]; rfl) (by kernel_rfl) (by kernel_rfl) (by kernel_rfl) (by exact fun _ _ _ h => h) (Or.inl ⟨by rfl, ?_⟩) (by assumption) ?_; rotate_left; (focus (intro w hSw; (try dsimp only at hSw); go_simp; try with_reducible rfl))) | (refine wpAnyH_take (i := 0) (v := undef) (by simp only [gA, gB, gC]; rfl) (by kernel_rfl) (by kernel_rfl) (by kernel_rfl) (by exact fun _ _ _ h => h) (Or.inr ⟨by rfl, rfl⟩) (by assumption) ?_) | fail); simp only [Act.put, sA, sB, sC]
                (first | (refine wpAnyH_take (i := 1) (v := ?_) (by simp only [gA, gB, gC]; rfl) (by kernel_rfl) (by kernel_rfl) (by kernel_rfl) (by exact fun _ _ _ h => h) (Or.inl ⟨by rfl, ?_⟩) (by assumption) ?_; rotate_left; (focus (intro w hSw; (try dsimp only at hSw); go_simp; try with_reducible rfl))) | (refine wpAnyH_take (i := 1) (v := undef) (by simp only [gA, gB, gC]; rfl) (by kernel_rfl) (by kernel_rfl) (by kernel_rfl) (by exact fun _ _ _ h => h) (Or.inr ⟨by rfl, rfl⟩) (by assumption) ?_) | fail); simp only [Act.put, sA, sB, sC]
                (first | (refine wpAnyH_take (i := 2) (v := ?_) (by simp only [gA, gB, gC]; rfl) (by kernel_rfl) (by kernel_rfl) (by kernel_rfl) (by exact fun _ _ _ h => h) (Or.inl ⟨by rfl, ?_⟩) (by assumption) ?_; rotate_left; (focus (intro w hSw; (try dsimp only at hSw); go_simp; try with_reducible rfl))) | (refine wpAnyH_take (i := 2) (v := undef) (by simp only [gA, gB, gC]; rfl) (by kernel_rfl) (by kernel_rfl) (by kernel_rfl) (by exact fun _ _ _ h => h) (Or.inr ⟨by rfl, rfl⟩) (by assumption) ?_) | fail); simp only [Act.put, sA, sB, sC]
                (first | (refine wpAnyH_take (i := 3) (v := ?_) (by simp only [gA, gB, gC]; rfl) (by kernel_rfl) (by kernel_rfl) (by kernel_rfl) (by exact fun _ _ _ h => h) (Or.inl ⟨by rfl, ?_⟩) (by assumption) ?_; rotate_left; (focus (intro w hSw; (try dsimp only at hSw); go_simp; try with_reducible rfl))) | (refine wpAnyH_take (i := 3) (v := undef) (by simp only [gA, gB, gC]; rfl) (by kernel_rfl) (by kernel_rfl) (by kernel_rfl) (by exact fun _ _ _ h => h) (Or.inr ⟨by rfl, rfl⟩) (by assumption) ?_) | fail); simp only [Act.put, sA, sB, sC]
                (first | (refine wpAnyH_take (i := 4) (v := ?_) (by simp only [gA, gB, gC]; rfl) (by kernel_rfl) (by kernel_rfl) (by kernel_rfl) (by exact fun _ _ _ h => h) (Or.inl ⟨by rfl, ?_⟩) (by assumption) ?_; rotate_left; (focus (intro w hSw; (try dsimp only at hSw); go_simp; try with_reducible rfl))) | (refine wpAnyH_take (i := 4) (v := undef) (by simp only [gA, gB, gC]; rfl) (by kernel_rfl) (by kernel_rfl) (by kernel_rfl) (by exact fun _ _ _ h => h) (Or.inr ⟨by rfl, rfl⟩) (by assumption) ?_) | fail); simp only [Act.put, sA, sB, sC]
                (first | (refine wpAnyH_take (i := 5) (v := _) (by simp only [gA, gB, gC]; rfl) (by kernel_rfl) (by kernel_rfl) (by kernel_rfl) (by exact fun _ _ _ h => h) (yields_one (by rfl) _ rfl (y2.add (k * 16)) rfl (.string z.n.path) (fun _ q => (hP21.below q).row.path hz) str_load) (by assumption) ?_) | (refine wpAnyH_take (i := 5) (v := undef) (by simp only [gA, gB, gC]; rfl) (by kernel_rfl) (by kernel_rfl) (by kernel_rfl) (by exact fun _ _ _ h => h) (Or.inr ⟨by rfl, rfl⟩) (by assumption) ?_) | fail); simp only [Act.put, sA, sB, sC]
                (first | (refine wpAnyH_take (i := 7) (v := ?_) (by simp only [gA, gB, gC]; rfl) (by kernel_rfl) (by kernel_rfl) (by kernel_rfl) (by exact fun _ _ _ h => h) (Or.inl ⟨by rfl, ?_⟩) (by assumption) ?_; rotate_left; (focus (intro w hSw; (try dsimp only at hSw); go_simp; try with_reducible rfl))) | (refine wpAnyH_take (i := 7) (v := undef) (by simp only [gA, gB, gC]; rfl) (by kernel_rfl) (by kernel_rfl) (by kernel_rfl) (by exact fun _ _ _ h => h) (Or.inr ⟨by rfl, rfl⟩) (by assumption) ?_) | fail); simp only [Act.put, sA, sB, sC]
                (first | (refine wpAnyH_take (i := 8) (v := ?_) (by simp only [gA, gB, gC]; rfl) (by kernel_rfl) (by kernel_rfl) (by kernel_rfl) (by exact fun _ _ _ h => h) (Or.inl ⟨by rfl, ?_⟩) (by assumption) ?_; rotate_left; (focus (intro w hSw; (try dsimp only at hSw); go_simp; try with_reducible rfl))) | (refine wpAnyH_take (i := 8) (v := undef) (by simp only [gA, gB, gC]; rfl) (by kernel_rfl) (by kernel_rfl) (by kernel_rfl) (by exact fun _ _ _ h => h) (Or.inr ⟨by rfl, rfl⟩) (by assumption) ?_) | fail); simp only [Act.put, sA, sB, sC]
                (first | (refine wpAnyH_take (i := 9) (v := ?_) (by simp only [gA, gB, gC]; rfl) (by kernel_rfl) (by kernel_rfl) (by kernel_rfl) (by exact fun _ _ _ h => h) (Or.inl ⟨by rfl, ?_⟩) (by assumption) ?_; rotate_left; (focus (intro w hSw; (try dsimp only at hSw); go_simp; try with_reducible rfl))) | (refine wpAnyH_take (i := 9) (v := undef) (by simp only [gA, gB, gC]; rfl) (by kernel_rfl) (by kernel_rfl) (by kernel_rfl) (by exact fun _ _ _ h => h) (Or.inr ⟨by rfl, rfl⟩) (by assumption) ?_) | fail); simp only [Act.put, sA, sB, sC]
                (first | (refine wpAnyH_take (i := 10) (v := ?_) (by simp only [gA, gB, gC]; rfl) (by kernel_rfl) (by kernel_rfl) (by kernel_rfl) (by exact fun _ _ _ h => h) (Or.inl ⟨by rfl, ?_⟩) (by assumption) ?_; rotate_left; (focus (intro w hSw; (try dsimp only at hSw); go_simp; try with_reducible rfl))) | (refine wpAnyH_take (i := 10) (v := undef) (by simp only [gA, gB, gC]; rfl) (by kernel_rfl) (by kernel_rfl) (by kernel_rfl) (by exact fun _ _ _ h => h) (Or.inr ⟨by rfl, rfl⟩) (by assumption) ?_) | fail); simp only [Act.put, sA, sB, sC]
                (first | (refine wpAnyH_take (i := 11) (v := ?_) (by simp only [gA, gB, gC]; rfl) (by kernel_rfl) (by kernel_rfl) (by kernel_rfl) (by exact fun _ _ _ h => h) (Or.inl ⟨by rfl, ?_⟩) (by assumption) ?_; rotate_left; (focus (intro w hSw; (try dsimp only at hSw); go_simp; try with_reducible rfl))) | (refine wpAnyH_take (i := 11) (v := undef) (by simp only [gA, gB, gC]; rfl) (by kernel_rfl) (by kernel_rfl) (by kernel_rfl) (by exact fun _ _ _ h => h) (Or.inr ⟨by rfl, rfl⟩) (by assumption) ?_) | fail); simp only [Act.put, sA, sB, sC]
                (first | (refine wpAnyH_take (i := 12) (v := _) (by simp only [gA, gB, gC]; rfl) (by kernel_rfl) (by kernel_rfl) (by kernel_rfl) (by exact fun _ _ _ h => h) (yields_one (by rfl) _ rfl (y2.add (k * 16)) rfl (.string z.n.path) (fun _ q => (hP21.below q).row.path hz) str_load) (by assumption) ?_) | (refine wpAnyH_take (i := 12) (v := undef) (by simp only [gA, gB, gC]; rfl) (by kernel_rfl) (by kernel_rfl) (by kernel_rfl) (by exact fun _ _ _ h => h) (Or.inr ⟨by rfl, rfl⟩) (by assumption) ?_) | fail); simp only [Act.put, sA, sB, sC]
                first | (refine wpAnyH_take (i := 6) (v := undef) (by simp only [gA, gB, gC]; rfl) (by kernel_rfl) (by kernel_rfl) (by kernel_rfl) (by exact fun _ _ _ h => h) (Or.inr ⟨by rfl, rfl⟩) (by assumption) ?_; simp only [Act.put, sA, sB, sC]) | (refine wpAnyH_ready (rs := [6]) (by kernel_rfl) (by simp) ?_; refine AllReadyH.cons (by simp only [gA, gB, gC]; rfl) (fun K hK => ?_) AllReadyH.nil; go_simp; (first | (go_at_call 23; refine (ku _ _ (hP21.below hS0).row).mono ?_; rintro e w1 ⟨vu, rfl, hou, hb1⟩; have hS1 := Below.then hS0 hb1) | (go_at_call 24; refine (kv _ _ (hP21.below hS1).row).mono ?_; rintro e w2 ⟨vv, rfl, hov, hb2⟩; have hS2 := Below.then hS1 hb2)); refine hK.out _ _ (by first | exact hS2 | exact hS1 | exact hS0) ?_; clear hHeld hK; intro hHeld; (try simp only [Act.put, sA, sB, sC])) | fail
                first | (refine wpAnyH_take (i := 13) (v := undef) (by simp only [gA, gB, gC]; rfl) (by kernel_rfl) (by kernel_rfl) (by kernel_rfl) (by exact fun _ _ _ h => h) (Or.inr ⟨by rfl, rfl⟩) (by assumption) ?_; simp only [Act.put, sA, sB, sC]) | (refine wpAnyH_ready (rs := [13]) (by kernel_rfl) (by simp) ?_; refine AllReadyH.cons (by simp only [gA, gB, gC]; rfl) (fun K hK => ?_) AllReadyH.nil; go_simp; (first | (go_at_call 23; refine (ku _ _ (hP21.below hS0).row).mono ?_; rintro e w1 ⟨vu, rfl, hou, hb1⟩; have hS1 := Below.then hS0 hb1) | (go_at_call 24; refine (kv _ _ (hP21.below hS1).row).mono ?_; rintro e w2 ⟨vv, rfl, hov, hb2⟩; have hS2 := Below.then hS1 hb2)); refine hK.out _ _ (by first | exact hS2 | exact hS1 | exact hS0) ?_; clear hHeld hK; intro hHeld; (try simp only [Act.put, sA, sB, sC])) | fail
                (first | (refine wpAnyH_take (i := 14) (v := ?_) (by simp only [gA, gB, gC]; rfl) (by kernel_rfl) (by kernel_rfl) (by kernel_rfl) (by exact fun _ _ _ h => h) (Or.inl ⟨by rfl, ?_⟩) (by assumption) ?_; rotate_left; (focus (intro w hSw; (try dsimp only at hSw); go_simp; try with_reducible rfl))) | (refine wpAnyH_take (i := 14) (v := undef) (by simp only [gA, gB, gC]; rfl) (by kernel_rfl) (by kernel_rfl) (by kernel_rfl) (by exact fun _ _ _ h => h) (Or.inr ⟨by rfl, rfl⟩) (by assumption) ?_) | fail); simp only [Act.put, sA, sB, sC]
                (first | (refine wpAnyH_take (i := 15) (v := ?_) (by simp only [gA, gB, gC]; rfl) (by kernel_rfl) (by kernel_rfl) (by kernel_rfl) (by exact fun _ _ _ h => h) (Or.inl ⟨by rfl, ?_⟩) (by assumption) ?_; rotate_left; (focus (intro w hSw; (try dsimp only at hSw); go_simp; try with_reducible rfl))) | (refine wpAnyH_take (i := 15) (v := undef) (by simp only [gA, gB, gC]; rfl) (by kernel_rfl) (by kernel_rfl) (by kernel_rfl) (by exact fun _ _ _ h => h) (Or.inr ⟨by rfl, rfl⟩) (by assumption) ?_) | fail); simp only [Act.put, sA, sB, sC]
                refine wpAnyH_done (by kernel_rfl) ?_ _
                obtain ⟨ua, uc, hvu, -, -, hur0⟩ := OwnR.slice str_ok.len hou
                obtain ⟨va, vc, hvv, -, -, hvr⟩ := OwnR.slice str_ok.len hov
                have hur := hur0.below str_ok.len hb2
                subst hvu hvv
                have hP22 := hP21.below hS2
                have hbf2 := stab_blk _ _ _ _ hbf hS2
                have hfa2 := hfa21.below hS2
                have hBk2 := Below.then hBk21 hS2
                obtain ⟨U, hU⟩ : ∃ U, underP l2 z.n.path = U := ⟨_, rfl⟩
                rw [hU] at hur hvr ⊢
                obtain ⟨nU, hnU⟩ : ∃ nU, U.length = nU := ⟨_, rfl⟩
                have hUle : nU ≤ n2 := by
                  rw [← hnU, ← hU, ← hn2.out]
                  unfold underP
                  rw [List.length_map]
                  exact List.length_filter_le _ _
                rw [hnU]
                replace hnU : Aside (U.length = nU) := hnU
                have hgz := hP22.mem hzm
                have hzp := hP22.row.p z hzm
                have hBd : Below w2.heap.size w2 w2.drew := (Below.refl _ _).drew
                have ks := rsame_any f.n z.n f.aa f.ca f.wa f.cw z.aa z.ca z.wa z.cw (by rw [hfn]; have := hgz.1; omega) (by rw [hfn]; have := hgz.2.1; omega) w2.drew (hfa2.below hBd).g (hzp.below hBd).g (hfa2.below hBd).w (hzp.below hBd).w
                rw [show nodEq f.n z.n = true from nodEq_iff.2 hfn] at ks
                replace ks : Calls Tryd.prog 25 #[.agg f.cs.toArray, .agg z.cs.toArray] w2.drew _ := ks
                have hT0 : (fun W => BlkL bf f.cs W ∧ CellsAt W (y2.add (k * 16)) z.cs) w2.drew := ⟨stab_blk _ _ _ _ hbf2 hBd, (hP22.row.r.at pn_len hz).below hBd⟩
                have hszz : (Tryd.prog.info? 32).map (·.size) = some z.cs.length := by rw [pn_len]; exact hszN
                obtain ⟨zc, hzc⟩ : ∃ zc, z.cs = zc := ⟨_, rfl⟩
                obtain ⟨fc, hfc⟩ : ∃ fc, f.cs = fc := ⟨_, rfl⟩
                rw [hzc, hfc] at ks hT0
                rw [hzc] at hszz
                rw [hfc] at hszf
                clear hou hov hur0 hU hP21 hbf hfa21 hBk21 hS0 hS1 hS2 hb1 hb2 hbf2 hfa2 hzp hgz hzc hfc ku kv kf
                go_wp2_with fail
                refine wp_region_held_drew (S := (fun W => BlkL bf fc W ∧ CellsAt W (y2.add (k * 16)) zc)) (by kernel_rfl) (by first | exact hT1 | exact hT0) ?_
                intro hHeld
                (first | (refine wpAnyH_take (i := 0) (v := ?_) (by simp only [gA, gB, gC]; rfl) (by kernel_rfl) (by kernel_rfl) (by kernel_rfl) (by exact fun _ _ _ h => h) (Or.inl ⟨by rfl, ?_⟩) (by assumption) ?_; rotate_left; (focus (intro w hSw; (try dsimp only at hSw); go_simp; try with_reducible rfl))) | (refine wpAnyH_take (i := 0) (v := undef) (by simp only [gA, gB, gC]; rfl) (by kernel_rfl) (by kernel_rfl) (by kernel_rfl) (by exact fun _ _ _ h => h) (Or.inr ⟨by rfl, rfl⟩) (by assumption) ?_) | fail); simp only [Act.put, sA, sB, sC, Bool.not_true, Bool.not_false, bne_self_eq_false]
                (first | (refine wpAnyH_take (i := 1) (v := ?_) (by simp only [gA, gB, gC]; rfl) (by kernel_rfl) (by kernel_rfl) (by kernel_rfl) (by exact fun _ _ _ h => h) (Or.inl ⟨by rfl, ?_⟩) (by assumption) ?_; rotate_left; (focus (intro w hSw; (try dsimp only at hSw); go_simp; try with_reducible rfl))) | (refine wpAnyH_take (i := 1) (v := undef) (by simp only [gA, gB, gC]; rfl) (by kernel_rfl) (by kernel_rfl) (by kernel_rfl) (by exact fun _ _ _ h => h) (Or.inr ⟨by rfl, rfl⟩) (by assumption) ?_) | fail); simp only [Act.put, sA, sB, sC, Bool.not_true, Bool.not_false, bne_self_eq_false]
                (first | (refine wpAnyH_take (i := 2) (v := ?_) (by simp only [gA, gB, gC]; rfl) (by kernel_rfl) (by kernel_rfl) (by kernel_rfl) (by exact fun _ _ _ h => h) (Or.inl ⟨by rfl, ?_⟩) (by assumption) ?_; rotate_left; (focus (intro w hSw; (try dsimp only at hSw); go_simp; try with_reducible rfl))) | (refine wpAnyH_take (i := 2) (v := undef) (by simp only [gA, gB, gC]; rfl) (by kernel_rfl) (by kernel_rfl) (by kernel_rfl) (by exact fun _ _ _ h => h) (Or.inr ⟨by rfl, rfl⟩) (by assumption) ?_) | fail); simp only [Act.put, sA, sB, sC, Bool.not_true, Bool.not_false, bne_self_eq_false]
                (first | (refine wpAnyH_take (i := 3) (v := _) (by simp only [gA, gB, gC]; rfl) (by kernel_rfl) (by kernel_rfl) (by kernel_rfl) (by exact fun _ _ _ h => h) (yields_row (by rfl) _ rfl bf rfl fc (fun _ q => q.1.range) hund rfl hszf) (by assumption) ?_) | (refine wpAnyH_take (i := 3) (v := undef) (by simp only [gA, gB, gC]; rfl) (by kernel_rfl) (by kernel_rfl) (by kernel_rfl) (by exact fun _ _ _ h => h) (Or.inr ⟨by rfl, rfl⟩) (by assumption) ?_) | fail); simp only [Act.put, sA, sB, sC, Bool.not_true, Bool.not_false, bne_self_eq_false]
                (first | (refine wpAnyH_take (i := 4) (v := ?_) (by simp only [gA, gB, gC]; rfl) (by kernel_rfl) (by kernel_rfl) (by kernel_rfl) (by exact fun _ _ _ h => h) (Or.inl ⟨by rfl, ?_⟩) (by assumption) ?_; rotate_left; (focus (intro w hSw; (try dsimp only at hSw); go_simp; try with_reducible rfl))) | (refine wpAnyH_take (i := 4) (v := undef) (by simp only [gA, gB, gC]; rfl) (by kernel_rfl) (by kernel_rfl) (by kernel_rfl) (by exact fun _ _ _ h => h) (Or.inr ⟨by rfl, rfl⟩) (by assumption) ?_) | fail); simp only [Act.put, sA, sB, sC, Bool.not_true, Bool.not_false, bne_self_eq_false]
                (first | (refine wpAnyH_take (i := 5) (v := ?_) (by simp only [gA, gB, gC]; rfl) (by kernel_rfl) (by kernel_rfl) (by kernel_rfl) (by exact fun _ _ _ h => h) (Or.inl ⟨by rfl, ?_⟩) (by assumption) ?_; rotate_left; (focus (intro w hSw; (try dsimp only at hSw); go_simp; try with_reducible rfl))) | (refine wpAnyH_take (i := 5) (v := undef) (by simp only [gA, gB, gC]; rfl) (by kernel_rfl) (by kernel_rfl) (by kernel_rfl) (by exact fun _ _ _ h => h) (Or.inr ⟨by rfl, rfl⟩) (by assumption) ?_) | fail); simp only [Act.put, sA, sB, sC, Bool.not_true, Bool.not_false, bne_self_eq_false]
                (first | (refine wpAnyH_take (i := 6) (v := ?_) (by simp only [gA, gB, gC]; rfl) (by kernel_rfl) (by kernel_rfl) (by kernel_rfl) (by exact fun _ _ _ h => h) (Or.inl ⟨by rfl, ?_⟩) (by assumption) ?_; rotate_left; (focus (intro w hSw; (try dsimp only at hSw); go_simp; try with_reducible rfl))) | (refine wpAnyH_take (i := 6) (v := undef) (by simp only [gA, gB, gC]; rfl) (by kernel_rfl) (by kernel_rfl) (by kernel_rfl) (by exact fun _ _ _ h => h) (Or.inr ⟨by rfl, rfl⟩) (by assumption) ?_) | fail); simp only [Act.put, sA, sB, sC, Bool.not_true, Bool.not_false, bne_self_eq_false]
                (first | (refine wpAnyH_take (i := 7) (v := _) (by simp only [gA, gB, gC]; rfl) (by kernel_rfl) (by kernel_rfl) (by kernel_rfl) (by exact fun _ _ _ h => h) (yields_at (by rfl) _ rfl _ rfl zc (fun _ q => q.2) hund rfl hszz) (by assumption) ?_) | (refine wpAnyH_take (i := 7) (v := undef) (by simp only [gA, gB, gC]; rfl) (by kernel_rfl) (by kernel_rfl) (by kernel_rfl) (by exact fun _ _ _ h => h) (Or.inr ⟨by rfl, rfl⟩) (by assumption) ?_) | fail); simp only [Act.put, sA, sB, sC, Bool.not_true, Bool.not_false, bne_self_eq_false]
                first | (refine wpAnyH_take (i := 8) (v := undef) (by simp only [gA, gB, gC]; rfl) (by kernel_rfl) (by kernel_rfl) (by kernel_rfl) (by exact fun _ _ _ h => h) (Or.inr ⟨by rfl, rfl⟩) (by assumption) ?_; simp only [Act.put, sA, sB, sC, Bool.not_true, Bool.not_false, bne_self_eq_false]) | (refine wpAnyH_ready (rs := [8]) (by kernel_rfl) (by simp) ?_; refine AllReadyH.cons (by simp only [gA, gB, gC]; rfl) (fun K hK => ?_) AllReadyH.nil; go_simp; (first | (go_at_call 25; refine ks.mono ?_; rintro e w3 ⟨rfl, hb3⟩; have hT1 : (fun W => BlkL bf fc W ∧ CellsAt W (y2.add (k * 16)) zc) w3 := ⟨stab_blk _ _ _ _ hT0.1 hb3, hT0.2.below hb3⟩)); refine hK.out _ _ (by first | exact hT1 | exact hT0) ?_; clear hHeld hK; intro hHeld; (try simp only [Act.put, sA, sB, sC, Bool.not_true, Bool.not_false, bne_self_eq_false])) | fail
                (first | (refine wpAnyH_take (i := 9) (v := ?_) (by simp only [gA, gB, gC]; rfl) (by kernel_rfl) (by kernel_rfl) (by kernel_rfl) (by exact fun _ _ _ h => h) (Or.inl ⟨by rfl, ?_⟩) (by assumption) ?_; rotate_left; (focus (intro w hSw; (try dsimp only at hSw); go_simp; try with_reducible rfl))) | (refine wpAnyH_take (i := 9) (v := undef) (by simp only [gA, gB, gC]; rfl) (by kernel_rfl) (by kernel_rfl) (by kernel_rfl) (by exact fun _ _ _ h => h) (Or.inr ⟨by rfl, rfl⟩) (by assumption) ?_) | fail); simp only [Act.put, sA, sB, sC, Bool.not_true, Bool.not_false, bne_self_eq_false]
                (first | (refine wpAnyH_take (i := 10) (v := ?_) (by simp only [gA, gB, gC]; rfl) (by kernel_rfl) (by kernel_rfl) (by kernel_rfl) (by exact fun _ _ _ h => h) (Or.inl ⟨by rfl, ?_⟩) (by assumption) ?_; rotate_left; (focus (intro w hSw; (try dsimp only at hSw); go_simp; try with_reducible rfl))) | (refine wpAnyH_take (i := 10) (v := undef) (by simp only [gA, gB, gC]; rfl) (by kernel_rfl) (by kernel_rfl) (by kernel_rfl) (by exact fun _ _ _ h => h) (Or.inr ⟨by rfl, rfl⟩) (by assumption) ?_) | fail); simp only [Act.put, sA, sB, sC, Bool.not_true, Bool.not_false, bne_self_eq_false]
                (first | (refine wpAnyH_take (i := 11) (v := ?_) (by simp only [gA, gB, gC]; rfl) (by kernel_rfl) (by kernel_rfl) (by kernel_rfl) (by exact fun _ _ _ h => h) (Or.inl ⟨by rfl, ?_⟩) (by assumption) ?_; rotate_left; (focus (intro w hSw; (try dsimp only at hSw); go_simp; try with_reducible rfl))) | (refine wpAnyH_take (i := 11) (v := undef) (by simp only [gA, gB, gC]; rfl) (by kernel_rfl) (by kernel_rfl) (by kernel_rfl) (by exact fun _ _ _ h => h) (Or.inr ⟨by rfl, rfl⟩) (by assumption) ?_) | fail); simp only [Act.put, sA, sB, sC, Bool.not_true, Bool.not_false, bne_self_eq_false]
                (first | (refine wpAnyH_take (i := 12) (v := ?_) (by simp only [gA, gB, gC]; rfl) (by kernel_rfl) (by kernel_rfl) (by kernel_rfl) (by exact fun _ _ _ h => h) (Or.inl ⟨by rfl, ?_⟩) (by assumption) ?_; rotate_left; (focus (intro w hSw; (try dsimp only at hSw); go_simp; try with_reducible rfl))) | (refine wpAnyH_take (i := 12) (v := undef) (by simp only [gA, gB, gC]; rfl) (by kernel_rfl) (by kernel_rfl) (by kernel_rfl) (by exact fun _ _ _ h => h) (Or.inr ⟨by rfl, rfl⟩) (by assumption) ?_) | fail); simp only [Act.put, sA, sB, sC, Bool.not_true, Bool.not_false, bne_self_eq_false]
                (first | (refine wpAnyH_take (i := 13) (v := ?_) (by simp only [gA, gB, gC]; rfl) (by kernel_rfl) (by kernel_rfl) (by kernel_rfl) (by exact fun _ _ _ h => h) (Or.inl ⟨by rfl, ?_⟩) (by assumption) ?_; rotate_left; (focus (intro w hSw; (try dsimp only at hSw); go_simp; try with_reducible rfl))) | (refine wpAnyH_take (i := 13) (v := undef) (by simp only [gA, gB, gC]; rfl) (by kernel_rfl) (by kernel_rfl) (by kernel_rfl) (by exact fun _ _ _ h => h) (Or.inr ⟨by rfl, rfl⟩) (by assumption) ?_) | fail); simp only [Act.put, sA, sB, sC, Bool.not_true, Bool.not_false, bne_self_eq_false]
                (first | (refine wpAnyH_take (i := 14) (v := ?_) (by simp only [gA, gB, gC]; rfl) (by kernel_rfl) (by kernel_rfl) (by kernel_rfl) (by exact fun _ _ _ h => h) (Or.inl ⟨by rfl, ?_⟩) (by assumption) ?_; rotate_left; (focus (intro w hSw; (try dsimp only at hSw); go_simp; try with_reducible rfl))) | (refine wpAnyH_take (i := 14) (v := undef) (by simp only [gA, gB, gC]; rfl) (by kernel_rfl) (by kernel_rfl) (by kernel_rfl) (by exact fun _ _ _ h => h) (Or.inr ⟨by rfl, rfl⟩) (by assumption) ?_) | fail); simp only [Act.put, sA, sB, sC, Bool.not_true, Bool.not_false, bne_self_eq_false]
                (first | (refine wpAnyH_take (i := 15) (v := ?_) (by simp only [gA, gB, gC]; rfl) (by kernel_rfl) (by kernel_rfl) (by kernel_rfl) (by exact fun _ _ _ h => h) (Or.inl ⟨by rfl, ?_⟩) (by assumption) ?_; rotate_left; (focus (intro w hSw; (try dsimp only at hSw); go_simp; try with_reducible rfl))) | (refine wpAnyH_take (i := 15) (v := undef) (by simp only [gA, gB, gC]; rfl) (by kernel_rfl) (by kernel_rfl) (by kernel_rfl) (by exact fun _ _ _ h => h) (Or.inr ⟨by rfl, rfl⟩) (by assumption) ?_) | fail); simp only [Act.put, sA, sB, sC, Bool.not_true, Bool.not_false, bne_self_eq_false]
                (first | (refine wpAnyH_take (i := 16) (v := ?_) (by simp only [gA, gB, gC]; rfl) (by kernel_rfl) (by kernel_rfl) (by kernel_rfl) (by exact fun _ _ _ h => h) (Or.inl ⟨by rfl, ?_⟩) (by assumption) ?_; rotate_left; (focus (intro w hSw; (try dsimp only at hSw); go_simp; try with_reducible rfl))) | (refine wpAnyH_take (i := 16) (v := undef) (by simp only [gA, gB, gC]; rfl) (by kernel_rfl) (by kernel_rfl) (by kernel_rfl) (by exact fun _ _ _ h => h) (Or.inr ⟨by rfl, rfl⟩) (by assumption) ?_) | fail); simp only [Act.put, sA, sB, sC, Bool.not_true, Bool.not_false, bne_self_eq_false]
                (first | (refine wpAnyH_take (i := 17) (v := ?_) (by simp only [gA, gB, gC]; rfl) (by kernel_rfl) (by kernel_rfl) (by kernel_rfl) (by exact fun _ _ _ h => h) (Or.inl ⟨by rfl, ?_⟩) (by assumption) ?_; rotate_left; (focus (intro w hSw; (try dsimp only at hSw); go_simp; try with_reducible rfl))) | (refine wpAnyH_take (i := 17) (v := undef) (by simp only [gA, gB, gC]; rfl) (by kernel_rfl) (by kernel_rfl) (by kernel_rfl) (by exact fun _ _ _ h => h) (Or.inr ⟨by rfl, rfl⟩) (by assumption) ?_) | fail); simp only [Act.put, sA, sB, sC, Bool.not_true, Bool.not_false, bne_self_eq_false]
                refine wpAnyH_done (by kernel_rfl) ?_ _
                have hb23 := Below.then hBd hb3
                have hBk3 := Below.then hBk2 hb23
                have hur3 := hur.below str_ok.len hb23
                have hvr3 := hvr.below str_ok.len hb23
                clear ks hT0 hT1 hur hvr hBd hb3 hb23 hBk2 hP22
                go_wp2_with fail
                go_loopw [21] (fun t21 wr => ∃ j : Nat, j ≤ nU ∧ t21 = .int .i64 (j : Int) ∧ Below w3.heap.size w3 wr) (fun t21 _ => nU - (Go.RowKit.intOf t21).toNat)
                case atStart => exact ⟨0, by omega, rfl, Below.refl _ _⟩
                case round =>
                  obtain ⟨j, hj, rfl, hBj⟩ := hrel
                  by_cases hlj : j < nU
                  · obtain ⟨u, hu⟩ : ∃ u, U[j]? = some u := ⟨_, List.getElem?_eq_getElem (by rw [hnU.out]; exact hlj)⟩
                    obtain ⟨yu, rfl, hcu⟩ := (hur3.below str_ok.len hBj) j u hu
                    obtain ⟨yv, rfl, hcv⟩ := (hvr3.below str_ok.len hBj) j u hu
                    have hcu0 : wr.cell? (yu.add j) = some (.string u) := by simpa [scell] using hcu 0 (by decide)
                    have hcv0 : wr.cell? (yv.add j) = some (.string u) := by simpa [scell] using hcv 0 (by decide)
                    have hS : (fun W => W.cell? (yu.add j) = some (.string u) ∧ W.cell? (yv.add j) = some (.string u)) wr.drew := ⟨hcu0, hcv0⟩
                    have m2 : (j : Int) < (nU : Int) := by omega
                    clear hcu hcv hu
                    go_wp2_with fail
                    refine wp_region_held_drew (S := (fun W => W.cell? (yu.add j) = some (.string u) ∧ W.cell? (yv.add j) = some (.string u))) (by kernel_rfl) (by exact hS) ?_
                    intro hHeld
                    (first | (refine wpAnyH_take (i := 0) (v := ?_) (by simp only [gA, gB, gC]; rfl) (by kernel_rfl) (by kernel_rfl) (by kernel_rfl) (by exact fun _ _ _ h => h) (Or.inl ⟨by rfl, ?_⟩) (by assumption) ?_; rotate_left; (focus (intro w hSw; (try dsimp only at hSw); go_simp; try with_reducible rfl))) | (refine wpAnyH_take (i := 0) (v := undef) (by simp only [gA, gB, gC]; rfl) (by kernel_rfl) (by kernel_rfl) (by kernel_rfl) (by exact fun _ _ _ h => h) (Or.inr ⟨by rfl, rfl⟩) (by assumption) ?_) | fail); simp only [Act.put, sA, sB, sC, Bool.not_true, Bool.not_false, beq_self_eq_true]
                    (first | (refine wpAnyH_take (i := 1) (v := ?_) (by simp only [gA, gB, gC]; rfl) (by kernel_rfl) (by kernel_rfl) (by kernel_rfl) (by exact fun _ _ _ h => h) (Or.inl ⟨by rfl, ?_⟩) (by assumption) ?_; rotate_left; (focus (intro w hSw; (try dsimp only at hSw); go_simp; try with_reducible rfl))) | (refine wpAnyH_take (i := 1) (v := undef) (by simp only [gA, gB, gC]; rfl) (by kernel_rfl) (by kernel_rfl) (by kernel_rfl) (by exact fun _ _ _ h => h) (Or.inr ⟨by rfl, rfl⟩) (by assumption) ?_) | fail); simp only [Act.put, sA, sB, sC, Bool.not_true, Bool.not_false, beq_self_eq_true]
                    (first | (refine wpAnyH_take (i := 2) (v := ?_) (by simp only [gA, gB, gC]; rfl) (by kernel_rfl) (by kernel_rfl) (by kernel_rfl) (by exact fun _ _ _ h => h) (Or.inl ⟨by rfl, ?_⟩) (by assumption) ?_; rotate_left; (focus (intro w hSw; (try dsimp only at hSw); go_simp; try with_reducible rfl))) | (refine wpAnyH_take (i := 2) (v := undef) (by simp only [gA, gB, gC]; rfl) (by kernel_rfl) (by kernel_rfl) (by kernel_rfl) (by exact fun _ _ _ h => h) (Or.inr ⟨by rfl, rfl⟩) (by assumption) ?_) | fail); simp only [Act.put, sA, sB, sC, Bool.not_true, Bool.not_false, beq_self_eq_true]
                    (first | (refine wpAnyH_take (i := 3) (v := _) (by simp only [gA, gB, gC]; rfl) (by kernel_rfl) (by kernel_rfl) (by kernel_rfl) (by exact fun _ _ _ h => h) (yields_one (by rfl) _ rfl (yu.add j) rfl (.string u) (fun _ q => q.1) str_load) (by assumption) ?_) | (refine wpAnyH_take (i := 3) (v := undef) (by simp only [gA, gB, gC]; rfl) (by kernel_rfl) (by kernel_rfl) (by kernel_rfl) (by exact fun _ _ _ h => h) (Or.inr ⟨by rfl, rfl⟩) (by assumption) ?_) | fail); simp only [Act.put, sA, sB, sC, Bool.not_true, Bool.not_false, beq_self_eq_true]
                    (first | (refine wpAnyH_take (i := 4) (v := ?_) (by simp only [gA, gB, gC]; rfl) (by kernel_rfl) (by kernel_rfl) (by kernel_rfl) (by exact fun _ _ _ h => h) (Or.inl ⟨by rfl, ?_⟩) (by assumption) ?_; rotate_left; (focus (intro w hSw; (try dsimp only at hSw); go_simp; try with_reducible rfl))) | (refine wpAnyH_take (i := 4) (v := undef) (by simp only [gA, gB, gC]; rfl) (by kernel_rfl) (by kernel_rfl) (by kernel_rfl) (by exact fun _ _ _ h => h) (Or.inr ⟨by rfl, rfl⟩) (by assumption) ?_) | fail); simp only [Act.put, sA, sB, sC, Bool.not_true, Bool.not_false, beq_self_eq_true]
                    (first | (refine wpAnyH_take (i := 5) (v := ?_) (by simp only [gA, gB, gC]; rfl) (by kernel_rfl) (by kernel_rfl) (by kernel_rfl) (by exact fun _ _ _ h => h) (Or.inl ⟨by rfl, ?_⟩) (by assumption) ?_; rotate_left; (focus (intro w hSw; (try dsimp only at hSw); go_simp; try with_reducible rfl))) | (refine wpAnyH_take (i := 5) (v := undef) (by simp only [gA, gB, gC]; rfl) (by kernel_rfl) (by kernel_rfl) (by kernel_rfl) (by exact fun _ _ _ h => h) (Or.inr ⟨by rfl, rfl⟩) (by assumption) ?_) | fail); simp only [Act.put, sA, sB, sC, Bool.not_true, Bool.not_false, beq_self_eq_true]
                    (first | (refine wpAnyH_take (i := 6) (v := ?_) (by simp only [gA, gB, gC]; rfl) (by kernel_rfl) (by kernel_rfl) (by kernel_rfl) (by exact fun _ _ _ h => h) (Or.inl ⟨by rfl, ?_⟩) (by assumption) ?_; rotate_left; (focus (intro w hSw; (try dsimp only at hSw); go_simp; try with_reducible rfl))) | (refine wpAnyH_take (i := 6) (v := undef) (by simp only [gA, gB, gC]; rfl) (by kernel_rfl) (by kernel_rfl) (by kernel_rfl) (by exact fun _ _ _ h => h) (Or.inr ⟨by rfl, rfl⟩) (by assumption) ?_) | fail); simp only [Act.put, sA, sB, sC, Bool.not_true, Bool.not_false, beq_self_eq_true]
                    (first | (refine wpAnyH_take (i := 7) (v := _) (by simp only [gA, gB, gC]; rfl) (by kernel_rfl) (by kernel_rfl) (by kernel_rfl) (by exact fun _ _ _ h => h) (yields_one (by rfl) _ rfl (yv.add j) rfl (.string u) (fun _ q => q.2) str_load) (by assumption) ?_) | (refine wpAnyH_take (i := 7) (v := undef) (by simp only [gA, gB, gC]; rfl) (by kernel_rfl) (by kernel_rfl) (by kernel_rfl) (by exact fun _ _ _ h => h) (Or.inr ⟨by rfl, rfl⟩) (by assumption) ?_) | fail); simp only [Act.put, sA, sB, sC, Bool.not_true, Bool.not_false, beq_self_eq_true]
                    (first | (refine wpAnyH_take (i := 8) (v := ?_) (by simp only [gA, gB, gC]; rfl) (by kernel_rfl) (by kernel_rfl) (by kernel_rfl) (by exact fun _ _ _ h => h) (Or.inl ⟨by rfl, ?_⟩) (by assumption) ?_; rotate_left; (focus (intro w hSw; (try dsimp only at hSw); go_simp; try with_reducible rfl))) | (refine wpAnyH_take (i := 8) (v := undef) (by simp only [gA, gB, gC]; rfl) (by kernel_rfl) (by kernel_rfl) (by kernel_rfl) (by exact fun _ _ _ h => h) (Or.inr ⟨by rfl, rfl⟩) (by assumption) ?_) | fail); simp only [Act.put, sA, sB, sC, Bool.not_true, Bool.not_false, beq_self_eq_true]
                    refine wpAnyH_done (by kernel_rfl) ?_ _
                    go_wp2_with fail
                    exact ⟨⟨j + 1, by omega, by simp, Below.then hBj (Below.refl _ _).drew⟩, by simp [Go.RowKit.intOf]; omega⟩
                  · obtain rfl : j = nU := by omega
                    go_wp2_with fail
                    exact ⟨⟨k + 1, by omega, by simp, Below.then hBk3 hBj⟩, by simp [Go.RowKit.intOf]; omega⟩
              · obtain rfl : k = n2 := by omega
                have hfin := Below.then hB2 hBk
                go_wp2_with fail
                exact ⟨⟨i + 1, l2, a2, c2, by omega, by omega, by simp, by rw [hn2.out], hPk, by rw [hn2.out]; omega, hfin⟩, by simp [Go.RowKit.intOf]; omega⟩
    · have hnf := hP.not
      have kf := tfind_any a c l noSuch (by rw [hn]; omega) hP.ord hP.few wr hP.row
      rw [hnf, hn] at kf
      replace kf : Calls Tryd.prog 22 #[.slice a n c, .string ⟨#[47, 110, 111, 47, 115, 117, 99, 104]⟩] wr _ := kf
      replace hn : Aside _ := hn
      by_cases hin : i < no
      · obtain rfl : i = 12 := by omega
        have i1 : ((12 : Nat) : Int) < (no : Int) := by omega
        go_wp2_with fail
        refine kf.mono ?_
        rintro e W20 ⟨f, rfl, hfn, hfa, hB20⟩
        obtain ⟨W21, hW21, hth21, hbf, hB21⟩ := put_new W20 ndz 32 f.cs rfl (by rw [pn_len]; omega)
        have hszf : (Tryd.prog.info? 32).map (·.size) = some f.cs.length := by rw [pn_len]; exact hszN
        have honef := pn_one f
        have hfa21 := hfa.below hB21
        have hrf := hbf.range
        have hB21w := Below.then hB (Below.then hB20 hB21)
        have ks := rsame_any f.n zeroP.n f.aa f.ca f.wa f.cw none 0 none 0 (by rw [hfn]; decide) (by rw [hfn]; decide) W21 hfa21.g (zero_at W21).g hfa21.w (zero_at W21).w
        rw [show nodEq f.n zeroP.n = true from nodEq_iff.2 hfn] at ks
        replace ks : Calls Tryd.prog 25 #[.agg f.cs.toArray, .agg zeroP.cs.toArray] W21 _ := ks
        clear kf hfa hB20 hB21
        go_wp2_with (first | (refine wpList_store_row rfl _ _ rfl W20.heap.size rfl f.cs rfl hth21 hszf honef hW21 ?_) | (refine wpList_load_rowg rfl _ rfl W20.heap.size rfl f.cs hrf hund rfl hszf ?_) | fail)
        refine ks.mono ?_
        rintro e W22 ⟨rfl, hB22⟩
        go_wp2_with fail
        go_ret
        exact ⟨rfl, Below.then hB21w hB22⟩
      · obtain rfl : i = no := by omega
        go_wp2_with fail
        refine kf.mono ?_
        rintro e W20 ⟨f, rfl, hfn, hfa, hB20⟩
        obtain ⟨W21, hW21, hth21, hbf, hB21⟩ := put_new W20 ndz 32 f.cs rfl (by rw [pn_len]; omega)
        have hszf : (Tryd.prog.info? 32).map (·.size) = some f.cs.length := by rw [pn_len]; exact hszN
        have honef := pn_one f
        have hfa21 := hfa.below hB21
        have hrf := hbf.range
        have hB21w := Below.then hB (Below.then hB20 hB21)
        have ks := rsame_any f.n zeroP.n f.aa f.ca f.wa f.cw none 0 none 0 (by rw [hfn]; decide) (by rw [hfn]; decide) W21 hfa21.g (zero_at W21).g hfa21.w (zero_at W21).w
        rw [show nodEq f.n zeroP.n = true from nodEq_iff.2 hfn] at ks
        replace ks : Calls Tryd.prog 25 #[.agg f.cs.toArray, .agg zeroP.cs.toArray] W21 _ := ks
        clear kf hfa hB20 hB21
        go_wp2_with (first | (refine wpList_store_row rfl _ _ rfl W20.heap.size rfl f.cs rfl hth21 hszf honef hW21 ?_) | (refine wpList_load_rowg rfl _ rfl W20.heap.size rfl f.cs hrf hund rfl hszf ?_) | fail)
        refine ks.mono ?_
        rintro e W22 ⟨rfl, hB22⟩
        go_wp2_with fail
        go_ret
        exact ⟨rfl, Below.then hB21w hB22⟩
end Go.Proofs.YtacjfbomjglnjaaDoor
