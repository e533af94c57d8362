/-
  THE DOCUMENT'S OWN PROCESSOR (donjonref16): a call.
-/
import Derived.Test.YtinibccphecdfaaWCpuPut
namespace Go.Proofs.Ytinibccphecdfaa
open Go.RowKit
set_option maxRecDepth 8000
set_option linter.unusedSimpArgs false
set_option linter.unusedVariables false

def clEx (g : Sg) (o R : Int) (n : Nat) : Int := if g.is = false then 35 else if hasM g.md 4 = false then 33 else if callE g.rg o R ≠ 0 then 34 else if ¬ o < (g.ws.length : Int) then 35 else if 8 ≤ n then 37 else 0
def clTx (c : Cp) (p : Ptr) (g : Sg) (o R : Int) : Cp := raiseC { c with seg := p.s, off := o, ring := callN g.rg o R, st := c.st ++ [⟨c.seg, c.off + 1, c.ring⟩] } c.ring
theorem RowAt.grew {α : Type} {sz gb : Nat} {f : α → List Value} {w w' : World} {v v' : Value} {l : List α} (hf : ∀ x, (f x).length = sz) (h : RowAt sz f w (some ⟨gb, 0, none⟩) l) (hg : Grew w v w' v') (hne : v.ownBlock ≠ some gb) : RowAt sz f w' (some ⟨gb, 0, none⟩) l := fun j x hx => by
  obtain ⟨y, hy, hc⟩ := h j x hx
  refine ⟨y, hy, fun i hi => ?_⟩
  have h1 := hc i hi
  obtain ⟨u, hu⟩ : ∃ u, (f x)[i]? = some u := ⟨_, List.getElem?_eq_getElem (by rw [hf]; exact hi)⟩
  rw [hu] at h1 ⊢
  have hlt := World.block_lt_of_cell? _ _ h1
  injection hy with hy
  subst hy
  have hb := hg.by_.block _ hlt (by rw [addC_block]; exact fun q => hne q.symm)
  exact (World.cell?_of_block hb).trans h1
theorem st_set3 {c : Cp} (v : Value) (a b d : Int) : (((stCs c v).set 0 (.int .i64 a)).set 1 (.int .i64 b)).set 2 (.int .i64 d) = stCs { c with seg := a, off := b, ring := d } v := rfl
theorem StAt.set3 {b : Nat} {c : Cp} {v : Value} {W : World} (h : StAt b c v W) (x y z : Int) : StAt b { c with seg := x, off := y, ring := z } v (((W.setCell ⟨b, 0, none⟩ (.int .i64 x)).setCell ⟨b, 1, none⟩ (.int .i64 y)).setCell ⟨b, 2, none⟩ (.int .i64 z)) := by
  have hl := st_len (v := v) h.ps
  have h1 := ((h.blk.1.set 0 (.int .i64 x) (by rw [hl]; decide)).set 1 (.int .i64 y) (by rw [List.length_set, hl]; decide)).set 2 (.int .i64 z) (by rw [List.length_set, List.length_set, hl]; decide)
  rw [st_set3] at h1
  exact ⟨h.ps, h1, h1.lt rfl⟩
set_option maxRecDepth 8000 in
set_option maxHeartbeats 8000000 in
theorem rcl_any (c : Cp) (h4 : c.ps.length = 4) (hst : c.st.length ≤ 8) (v : Value) (p : Ptr) (i : Ins) (x : PG) (hx : x.g.is = true → OkR x.g.rg) (R o : Int) (ho : IntKind.i64.wrap (p.f + i.n) = o) (w : World) (hv : SV v c.st w) :
    Calls Try.prog 45 #[.agg (stCs c v).toArray, .agg (stCs { c with off := c.off + 1 } v).toArray, .agg x.cs.toArray, p.v, i.v, .int .i64 R] w fun e w' => ∃ u, e = .returned (.tuple #[.agg (stCs (if clEx x.g o R c.st.length = 0 then clTx c p x.g o R else zeroC) u).toArray, .int .i64 (clEx x.g o R c.st.length)]) ∧ SV u (if clEx x.g o R c.st.length = 0 then clTx c p x.g o R else zeroC).st w' ∧ (∀ k, u.ownBlock = some k → w.heap.size ≤ k) ∧ Below w.heap.size w w' := by
  have hundS := Try.underlying39
  have hszS : (Try.prog.info? 39).map (·.size) = some 18 := by kernel_rfl
  have hundR := Try.underlying55
  have hszR : (Try.prog.info? 55).map (·.size) = some 4 := by kernel_rfl
  have hszZ : (Try.prog.info? 39).map (·.size) = some (stCs zeroC nilS).length := by kernel_rfl
  obtain ⟨EE, hE0⟩ : ∃ E, clEx x.g o R c.st.length = E := ⟨_, rfl⟩
  rw [hE0]
  obtain ⟨DD, hD0⟩ : ∃ D, (if EE = 0 then clTx c p x.g o R else zeroC) = D := ⟨_, rfl⟩
  rw [hD0]
  replace hE0 : Aside (clEx x.g o R c.st.length = EE) := hE0
  replace hD0 : Aside ((if EE = 0 then clTx c p x.g o R else zeroC) = DD) := hD0
  obtain ⟨a1, k1, hvs, hnn0, hr0⟩ := hv
  obtain ⟨sn, hsn⟩ : ∃ sn, c.st.length = sn := ⟨_, rfl⟩
  rw [hsn] at hvs hst
  have f0 : BlkL w.heap.size (stCs c v) (w.alloc (.cells (stCs c v).toArray 39)) := blkl_alloc w (stCs c v).toArray 39
  have g0 := alloc_below w (.cells (stCs c v).toArray 39)
  have z0 : (w.alloc (.cells (stCs c v).toArray 39)).heap.size = w.heap.size + 1 := by simp
  have f1 : BlkL (w.alloc (.cells (stCs c v).toArray 39)).heap.size (stCs { c with off := c.off + 1 } v) ((w.alloc (.cells (stCs c v).toArray 39)).alloc (.cells (stCs { c with off := c.off + 1 } v).toArray 39)) := blkl_alloc (w.alloc (.cells (stCs c v).toArray 39)) (stCs { c with off := c.off + 1 } v).toArray 39
  have g1 := alloc_below (w.alloc (.cells (stCs c v).toArray 39)) (.cells (stCs { c with off := c.off + 1 } v).toArray 39)
  rw [z0] at f1
  replace f0 := stab_blk _ _ _ _ f0 g1
  replace g0 := Below.then g0 g1
  have z1 : ((w.alloc (.cells (stCs c v).toArray 39)).alloc (.cells (stCs { c with off := c.off + 1 } v).toArray 39)).heap.size = w.heap.size + 2 := by simp
  have f2 : BlkL ((w.alloc (.cells (stCs c v).toArray 39)).alloc (.cells (stCs { c with off := c.off + 1 } v).toArray 39)).heap.size x.cs (((w.alloc (.cells (stCs c v).toArray 39)).alloc (.cells (stCs { c with off := c.off + 1 } v).toArray 39)).alloc (.cells x.cs.toArray 57)) := blkl_alloc ((w.alloc (.cells (stCs c v).toArray 39)).alloc (.cells (stCs { c with off := c.off + 1 } v).toArray 39)) x.cs.toArray 57
  have g2 := alloc_below ((w.alloc (.cells (stCs c v).toArray 39)).alloc (.cells (stCs { c with off := c.off + 1 } v).toArray 39)) (.cells x.cs.toArray 57)
  rw [z1] at f2
  replace f0 := stab_blk _ _ _ _ f0 g2
  replace f1 := stab_blk _ _ _ _ f1 g2
  replace g0 := Below.then g0 g2
  have z2 : (((w.alloc (.cells (stCs c v).toArray 39)).alloc (.cells (stCs { c with off := c.off + 1 } v).toArray 39)).alloc (.cells x.cs.toArray 57)).heap.size = w.heap.size + 3 := by simp
  have f3 : BlkL (((w.alloc (.cells (stCs c v).toArray 39)).alloc (.cells (stCs { c with off := c.off + 1 } v).toArray 39)).alloc (.cells x.cs.toArray 57)).heap.size (ptr3 p) ((((w.alloc (.cells (stCs c v).toArray 39)).alloc (.cells (stCs { c with off := c.off + 1 } v).toArray 39)).alloc (.cells x.cs.toArray 57)).alloc (.cells (ptr3 p).toArray 24)) := blkl_alloc (((w.alloc (.cells (stCs c v).toArray 39)).alloc (.cells (stCs { c with off := c.off + 1 } v).toArray 39)).alloc (.cells x.cs.toArray 57)) (ptr3 p).toArray 24
  have g3 := alloc_below (((w.alloc (.cells (stCs c v).toArray 39)).alloc (.cells (stCs { c with off := c.off + 1 } v).toArray 39)).alloc (.cells x.cs.toArray 57)) (.cells (ptr3 p).toArray 24)
  rw [z2] at f3
  replace f0 := stab_blk _ _ _ _ f0 g3
  replace f1 := stab_blk _ _ _ _ f1 g3
  replace f2 := stab_blk _ _ _ _ f2 g3
  replace g0 := Below.then g0 g3
  have z3 : ((((w.alloc (.cells (stCs c v).toArray 39)).alloc (.cells (stCs { c with off := c.off + 1 } v).toArray 39)).alloc (.cells x.cs.toArray 57)).alloc (.cells (ptr3 p).toArray 24)).heap.size = w.heap.size + 4 := by simp
  have f4 : BlkL ((((w.alloc (.cells (stCs c v).toArray 39)).alloc (.cells (stCs { c with off := c.off + 1 } v).toArray 39)).alloc (.cells x.cs.toArray 57)).alloc (.cells (ptr3 p).toArray 24)).heap.size (ins3 i) (((((w.alloc (.cells (stCs c v).toArray 39)).alloc (.cells (stCs { c with off := c.off + 1 } v).toArray 39)).alloc (.cells x.cs.toArray 57)).alloc (.cells (ptr3 p).toArray 24)).alloc (.cells (ins3 i).toArray 64)) := blkl_alloc ((((w.alloc (.cells (stCs c v).toArray 39)).alloc (.cells (stCs { c with off := c.off + 1 } v).toArray 39)).alloc (.cells x.cs.toArray 57)).alloc (.cells (ptr3 p).toArray 24)) (ins3 i).toArray 64
  have g4 := alloc_below ((((w.alloc (.cells (stCs c v).toArray 39)).alloc (.cells (stCs { c with off := c.off + 1 } v).toArray 39)).alloc (.cells x.cs.toArray 57)).alloc (.cells (ptr3 p).toArray 24)) (.cells (ins3 i).toArray 64)
  rw [z3] at f4
  replace f0 := stab_blk _ _ _ _ f0 g4
  replace f1 := stab_blk _ _ _ _ f1 g4
  replace f2 := stab_blk _ _ _ _ f2 g4
  replace f3 := stab_blk _ _ _ _ f3 g4
  replace g0 := Below.then g0 g4
  have z4 : (((((w.alloc (.cells (stCs c v).toArray 39)).alloc (.cells (stCs { c with off := c.off + 1 } v).toArray 39)).alloc (.cells x.cs.toArray 57)).alloc (.cells (ptr3 p).toArray 24)).alloc (.cells (ins3 i).toArray 64)).heap.size = w.heap.size + 5 := by simp
  have f5 : BlkL (((((w.alloc (.cells (stCs c v).toArray 39)).alloc (.cells (stCs { c with off := c.off + 1 } v).toArray 39)).alloc (.cells x.cs.toArray 57)).alloc (.cells (ptr3 p).toArray 24)).alloc (.cells (ins3 i).toArray 64)).heap.size (stCs zeroC nilS) ((((((w.alloc (.cells (stCs c v).toArray 39)).alloc (.cells (stCs { c with off := c.off + 1 } v).toArray 39)).alloc (.cells x.cs.toArray 57)).alloc (.cells (ptr3 p).toArray 24)).alloc (.cells (ins3 i).toArray 64)).alloc (.cells zS 39)) := blkl_alloc (((((w.alloc (.cells (stCs c v).toArray 39)).alloc (.cells (stCs { c with off := c.off + 1 } v).toArray 39)).alloc (.cells x.cs.toArray 57)).alloc (.cells (ptr3 p).toArray 24)).alloc (.cells (ins3 i).toArray 64)) (stCs zeroC nilS).toArray 39
  have g5 := alloc_below (((((w.alloc (.cells (stCs c v).toArray 39)).alloc (.cells (stCs { c with off := c.off + 1 } v).toArray 39)).alloc (.cells x.cs.toArray 57)).alloc (.cells (ptr3 p).toArray 24)).alloc (.cells (ins3 i).toArray 64)) (.cells zS 39)
  rw [z4] at f5
  replace f0 := stab_blk _ _ _ _ f0 g5
  replace f1 := stab_blk _ _ _ _ f1 g5
  replace f2 := stab_blk _ _ _ _ f2 g5
  replace f3 := stab_blk _ _ _ _ f3 g5
  replace f4 := stab_blk _ _ _ _ f4 g5
  replace g0 := Below.then g0 g5
  have z5 : ((((((w.alloc (.cells (stCs c v).toArray 39)).alloc (.cells (stCs { c with off := c.off + 1 } v).toArray 39)).alloc (.cells x.cs.toArray 57)).alloc (.cells (ptr3 p).toArray 24)).alloc (.cells (ins3 i).toArray 64)).alloc (.cells zS 39)).heap.size = w.heap.size + 6 := by simp
  clear z0 z1 z2 z3 z4 z5 g1 g2 g3 g4 g5
  have hs0 : StAt w.heap.size c v _ := ⟨h4, f0⟩
  have ht0 : StAt (w.heap.size + 1) { c with off := c.off + 1 } v _ := ⟨h4, f1⟩
  have hz0 : StAt (w.heap.size + 5) zeroC nilS _ := ⟨rfl, f5⟩
  have x0 := (f2.1 0 (.bool x.g.is) rfl).1
  have x1 := (f2.1 1 x.v rfl).1
  have x2 := (f2.1 2 (.int .i64 x.g.md) rfl).1
  have xq : ((((((w.alloc (.cells (stCs c v).toArray 39)).alloc (.cells (stCs { c with off := c.off + 1 } v).toArray 39)).alloc (.cells x.cs.toArray 57)).alloc (.cells (ptr3 p).toArray 24)).alloc (.cells (ins3 i).toArray 64)).alloc (.cells zS 39)).rangeAt (w.heap.size + 2) 3 [.int .i64 x.g.rg.a, .int .i64 x.g.rg.b, .int .i64 x.g.rg.c, .int .i64 x.g.rg.g] := f2.mid (fun j u hu => by
    match j, hu with
    | 0, hu => exact hu
    | 1, hu => exact hu
    | 2, hu => exact hu
    | 3, hu => exact hu)
  have yp := (f3.1 1 (.int .i64 p.f) rfl).1
  have yi := (f4.1 2 (.int .i64 i.n) rfl).1
  have hlen5 : w.heap.size + 5 < ((((((w.alloc (.cells (stCs c v).toArray 39)).alloc (.cells (stCs { c with off := c.off + 1 } v).toArray 39)).alloc (.cells x.cs.toArray 57)).alloc (.cells (ptr3 p).toArray 24)).alloc (.cells (ins3 i).toArray 64)).alloc (.cells zS 39)).heap.size := f5.2
  clear f0 f1 f5
  obtain ⟨X0, hX0⟩ : ∃ X, stCs c v = X := ⟨_, rfl⟩
  obtain ⟨X1, hX1⟩ : ∃ X, stCs { c with off := c.off + 1 } v = X := ⟨_, rfl⟩
  obtain ⟨X2, hX2⟩ : ∃ X, x.cs = X := ⟨_, rfl⟩
  rw [hX0, hX1, hX2] at hs0 ht0 hz0 x0 x1 x2 xq yp yi hlen5 g0 f3
  rw [hX0, hX1, hX2]
  clear hX0 hX1 hX2
  go_enter Try.func45, Try.ntmps45
  go_upto_region 1 with fail
  generalize ((((((w.alloc (.cells X0.toArray 39)).alloc (.cells X1.toArray 39)).alloc (.cells X2.toArray 57)).alloc (.cells (ptr3 p).toArray 24)).alloc (.cells (ins3 i).toArray 64)).alloc (.cells zS 39)) = W0 at *
  simp only [Nat.add_assoc, Nat.reduceAdd]
  go_upto_region 2 with fail
  clear yp yi
  by_cases c1 : x.g.is = false
  · have hE : Aside (EE = 35) := by show EE = _; rw [← hE0.out]; unfold clEx; rw [if_pos c1]
    have hDv : Aside (DD = zeroC) := by show DD = _; rw [← hD0.out, hE.out, if_neg (by decide)]
    rw [c1] at x0
    obtain ⟨W7, hW7, hth7, hr7, hk7⟩ := put_st hz0 (d := zeroC) rfl nilS
    have hB7 := hk7 _ _ (by omega) g0
    have hr7r := hr7.blk.range
    clear hk7 hr7
    go_wp2_with (first | (refine wpList_store_row rfl _ _ rfl (w.heap.size + 5) rfl (stCs zeroC nilS) rfl hth7 hszZ (st_one _ _ rfl) hW7 ?_) | fail)
    refine bodyPost_ret (v := .tuple #[.agg (stCs zeroC nilS).toArray, .int .i64 35]) (results_row2 rfl _ _ (w.heap.size + 5) rfl (.int .i64 35) rfl (stCs zeroC nilS) hr7r hundS rfl hszZ) rfl ?_
    exact ⟨nilS, by rw [hE.out, hDv.out], by rw [hDv.out]; exact SV.nil _, (fun k q => by cases q), hB7⟩
  have c1' : x.g.is = true := by simpa using c1
  rw [c1'] at x0
  have hbits : hasM x.g.md 4 = (bits .and .i64 x.g.md 4 != 0) := rfl
  by_cases c2 : hasM x.g.md 4 = false
  · have hE : Aside (EE = 33) := by show EE = _; rw [← hE0.out]; unfold clEx; rw [if_neg c1, if_pos c2]
    have hDv : Aside (DD = zeroC) := by show DD = _; rw [← hD0.out, hE.out, if_neg (by decide)]
    have q2 : (bits .and .i64 x.g.md 4 == 0) = true := by rw [hbits] at c2; simpa using c2
    have q2' : bits .and .i64 x.g.md 4 = 0 := by simpa using q2
    obtain ⟨W7, hW7, hth7, hr7, hk7⟩ := put_st hz0 (d := zeroC) rfl nilS
    have hB7 := hk7 _ _ (by omega) g0
    have hr7r := hr7.blk.range
    clear hk7 hr7
    go_wp2_with (first | (refine wpList_store_row rfl _ _ rfl (w.heap.size + 5) rfl (stCs zeroC nilS) rfl hth7 hszZ (st_one _ _ rfl) hW7 ?_) | fail)
    refine bodyPost_ret (v := .tuple #[.agg (stCs zeroC nilS).toArray, .int .i64 33]) (results_row2 rfl _ _ (w.heap.size + 5) rfl (.int .i64 33) rfl (stCs zeroC nilS) hr7r hundS rfl hszZ) rfl ?_
    exact ⟨nilS, by rw [hE.out, hDv.out], by rw [hDv.out]; exact SV.nil _, (fun k q => by cases q), hB7⟩
  have q2 : (bits .and .i64 x.g.md 4 == 0) = false := by rw [hbits] at c2; simpa using c2
  have q2' : ¬ bits .and .i64 x.g.md 4 = 0 := by simpa using q2
  have kc := fun W : World => rcall_any x.g.rg o R W (hx c1')
  obtain ⟨cn, hcn⟩ : ∃ cn, callN x.g.rg o R = cn := ⟨_, rfl⟩
  obtain ⟨ce, hce⟩ : ∃ ce, callE x.g.rg o R = ce := ⟨_, rfl⟩
  simp only [hcn, hce] at kc
  replace hcn : Aside (callN x.g.rg o R = cn) := hcn
  go_upto_region 6 with fail
  go_wp2_with (first | (refine wpList_load_midg (by rfl) _ rfl (w.heap.size + 2) 3 rfl [.int .i64 x.g.rg.a, .int .i64 x.g.rg.b, .int .i64 x.g.rg.c, .int .i64 x.g.rg.g] xq hundR rfl hszR ?_) | fail)
  refine (kc W0).mono ?_
  rintro e W1 ⟨rfl, hb1⟩
  have hs1 := hs0.keep hb1
  have ht1 := ht0.keep hb1
  have hz1 := hz0.keep hb1
  have hp1 := stab_blk _ _ _ _ f3 hb1
  have hB1 := Below.then g0 hb1
  have hl1 : w.heap.size + 5 < W1.heap.size := Nat.lt_of_lt_of_le hlen5 hb1.size
  have hr1 := (hr0.below frc_len hB1)
  have x1' : W1.cell? ⟨w.heap.size + 2, 1, none⟩ = some (.slice x.wa x.g.ws.length x.wc) := (hb1.cell (p := ⟨w.heap.size + 2, 1, none⟩) (World.block_lt_of_cell? _ _ x1)).trans x1
  clear kc x0 x1 x2 xq hs0 ht0 hz0 f3 g0 hlen5 f4 f2
  by_cases c3 : ce ≠ 0
  · have hE : Aside (EE = 34) := by show EE = _; rw [← hE0.out]; unfold clEx; rw [if_neg c1, if_neg c2, hce, if_pos c3]
    have hDv : Aside (DD = zeroC) := by show DD = _; rw [← hD0.out, hE.out, if_neg (by decide)]
    have c3b : (ce != 0) = true := by simpa using c3
    obtain ⟨W7, hW7, hth7, hr7, hk7⟩ := put_st hz1 (d := zeroC) rfl nilS
    have hB7 := hk7 _ _ (by omega) hB1
    have hr7r := hr7.blk.range
    clear hk7 hr7
    go_wp2_with (first | (refine wpList_store_row rfl _ _ rfl (w.heap.size + 5) rfl (stCs zeroC nilS) rfl hth7 hszZ (st_one _ _ rfl) hW7 ?_) | fail)
    refine bodyPost_ret (v := .tuple #[.agg (stCs zeroC nilS).toArray, .int .i64 34]) (results_row2 rfl _ _ (w.heap.size + 5) rfl (.int .i64 34) rfl (stCs zeroC nilS) hr7r hundS rfl hszZ) rfl ?_
    exact ⟨nilS, by rw [hE.out, hDv.out], by rw [hDv.out]; exact SV.nil _, (fun k q => by cases q), hB7⟩
  have c3' : ce = 0 := by simpa using c3
  subst c3'
  by_cases c4 : ¬ o < (x.g.ws.length : Int)
  · have hE : Aside (EE = 35) := by show EE = _; rw [← hE0.out]; unfold clEx; rw [if_neg c1, if_neg c2, hce, if_neg c3, if_pos c4]
    have hDv : Aside (DD = zeroC) := by show DD = _; rw [← hD0.out, hE.out, if_neg (by decide)]
    have c4' : (x.g.ws.length : Int) ≤ o := by omega
    obtain ⟨W7, hW7, hth7, hr7, hk7⟩ := put_st hz1 (d := zeroC) rfl nilS
    have hB7 := hk7 _ _ (by omega) hB1
    have hr7r := hr7.blk.range
    clear hk7 hr7
    go_wp2_with (first | (refine wpList_store_row rfl _ _ rfl (w.heap.size + 5) rfl (stCs zeroC nilS) rfl hth7 hszZ (st_one _ _ rfl) hW7 ?_) | fail)
    refine bodyPost_ret (v := .tuple #[.agg (stCs zeroC nilS).toArray, .int .i64 35]) (results_row2 rfl _ _ (w.heap.size + 5) rfl (.int .i64 35) rfl (stCs zeroC nilS) hr7r hundS rfl hszZ) rfl ?_
    exact ⟨nilS, by rw [hE.out, hDv.out], by rw [hDv.out]; exact SV.nil _, (fun k q => by cases q), hB7⟩
  have c4' : ¬ (x.g.ws.length : Int) ≤ o := by omega
  have xk : W1.cell? ⟨w.heap.size, 16, none⟩ = some (.slice a1 sn k1) := by rw [← hvs]; exact hs1.stk
  by_cases c5 : 8 ≤ sn
  · have hE : Aside (EE = 37) := by show EE = _; rw [← hE0.out]; unfold clEx; rw [if_neg c1, if_neg c2, hce, if_neg c3, if_neg c4, hsn, if_pos c5]
    have hDv : Aside (DD = zeroC) := by show DD = _; rw [← hD0.out, hE.out, if_neg (by decide)]
    have c5' : (8 : Int) ≤ (sn : Int) := by omega
    obtain ⟨W7, hW7, hth7, hr7, hk7⟩ := put_st hz1 (d := zeroC) rfl nilS
    have hB7 := hk7 _ _ (by omega) hB1
    have hr7r := hr7.blk.range
    clear hk7 hr7
    go_wp2_with (first | (refine wpList_store_row rfl _ _ rfl (w.heap.size + 5) rfl (stCs zeroC nilS) rfl hth7 hszZ (st_one _ _ rfl) hW7 ?_) | fail)
    refine bodyPost_ret (v := .tuple #[.agg (stCs zeroC nilS).toArray, .int .i64 37]) (results_row2 rfl _ _ (w.heap.size + 5) rfl (.int .i64 37) rfl (stCs zeroC nilS) hr7r hundS rfl hszZ) rfl ?_
    exact ⟨nilS, by rw [hE.out, hDv.out], by rw [hDv.out]; exact SV.nil _, (fun k q => by cases q), hB7⟩
  have c5' : ¬ (8 : Int) ≤ (sn : Int) := by omega
  have hE : Aside (EE = 0) := by show EE = _; rw [← hE0.out]; unfold clEx; rw [if_neg c1, if_neg c2, hce, if_neg c3, if_neg c4, hsn, if_neg c5]
  have hDv : Aside (DD = clTx c p x.g o R) := by show DD = _; rw [← hD0.out, hE.out, if_pos rfl]
  have hnn : a1 = none → k1 = 0 ∧ sn = 0 := fun q => ⟨hnn0 q, by
    rw [← hsn]
    cases hc : c.st with
    | nil => rfl
    | cons y r =>
      obtain ⟨z, hz, -⟩ := hr0 0 y (by rw [hc]; rfl)
      rw [q] at hz; cases hz⟩
  go_upto_region 13 with fail
  obtain ⟨Z, hZ⟩ : ∃ Z, W1 = Z := ⟨_, rfl⟩
  rw [hZ] at hs1 ht1 hz1 hp1 hB1 hl1 hr1 xk ⊢
  clear hZ x1' hb1
  have xg := hs1.seg
  have xr := hs1.ring
  have hdr := (Below.refl Z.heap.size Z).drew
  have hs := hs1.keep hdr
  have ht := ht1.keep hdr
  have hr := hz1.keep hdr
  have hp := stab_blk _ _ _ _ hp1 hdr
  have hB := Below.then hB1 hdr
  have hSB : Below (w.heap.size + 1) Z Z.drew := hdr.mono (by omega)
  have hrow := hr1.below frc_len hdr
  have hLB : Z.heap.size ≤ Z.drew.heap.size := hdr.size
  have hwZ : w.heap.size ≤ Z.heap.size := by omega
  have hrow0 : ∀ W, Below (w.heap.size + 1) Z W → RowAt 3 frc W a1 c.st := fun W q => hr0.below frc_len (hB1.trans (q.mono (Nat.le_succ _)))
  clear hs1 ht1 hz1 hp1 hr1 hdr
  refine wp_region_held_drew (S := (fun W => Below (w.heap.size + 1) Z W ∧ W.cell? ⟨w.heap.size + 1, 1, none⟩ = some (.int .i64 (c.off + 1)))) (by kernel_rfl) (by exact ⟨hSB, ht.off⟩) ?_
  intro hHeld
  generalize Z.drew = w0 at *
  refine wpAnyH_take (i := 1) (v := ?_) (by simp only [gA, gB, gC]; rfl) (by kernel_rfl) (by kernel_rfl) (by kernel_rfl) (by exact fun _ _ _ h => h) (Or.inl ⟨by rfl, ?_⟩) (by assumption) ?_; rotate_left; (focus (intro w hSw; (try dsimp only at hSw); go_simp; try with_reducible rfl)); (try simp only [Act.put, sA, sB, sC])
  refine wpAnyH_take (i := 2) (v := _) (by simp only [gA, gB, gC]; rfl) (by kernel_rfl) (by kernel_rfl) (by kernel_rfl) (by exact fun _ _ _ h => h) (yields_cellI (by rfl) _ rfl ⟨w.heap.size, 16, none⟩ rfl (.slice a1 sn k1) (fun _ q => (q.1.cell (p := ⟨w.heap.size, 16, none⟩) (by show w.heap.size < w.heap.size + 1; omega)).trans xk) frs_load) (by assumption) ?_; (try simp only [Act.put, sA, sB, sC])
  refine wpAnyH_take (i := 4) (v := ?_) (by simp only [gA, gB, gC]; rfl) (by kernel_rfl) (by kernel_rfl) (by kernel_rfl) (by exact fun _ _ _ h => h) (Or.inl ⟨by rfl, ?_⟩) (by assumption) ?_; rotate_left; (focus (intro w hSw; (try dsimp only at hSw); go_simp; try with_reducible rfl)); (try simp only [Act.put, sA, sB, sC])
  refine wpAnyH_take (i := 5) (v := _) (by simp only [gA, gB, gC]; rfl) (by kernel_rfl) (by kernel_rfl) (by kernel_rfl) (by exact fun _ _ _ h => h) (yields_cellI (by rfl) _ rfl ⟨w.heap.size, 0, none⟩ rfl (.int .i64 c.seg) (fun _ q => (q.1.cell (p := ⟨w.heap.size, 0, none⟩) (by show w.heap.size < w.heap.size + 1; omega)).trans xg) intI_load) (by assumption) ?_; (try simp only [Act.put, sA, sB, sC])
  refine wpAnyH_take (i := 6) (v := ?_) (by simp only [gA, gB, gC]; rfl) (by kernel_rfl) (by kernel_rfl) (by kernel_rfl) (by exact fun _ _ _ h => h) (Or.inl ⟨by rfl, ?_⟩) (by assumption) ?_; rotate_left; (focus (intro w hSw; (try dsimp only at hSw); go_simp; try with_reducible rfl)); (try simp only [Act.put, sA, sB, sC])
  refine wpAnyH_take (i := 7) (v := _) (by simp only [gA, gB, gC]; rfl) (by kernel_rfl) (by kernel_rfl) (by kernel_rfl) (by exact fun _ _ _ h => h) (yields_cellI (by rfl) _ rfl ⟨w.heap.size + 1, 1, none⟩ rfl (.int .i64 (c.off + 1)) (fun _ q => q.2) intI_load) (by assumption) ?_; (try simp only [Act.put, sA, sB, sC])
  refine wpAnyH_take (i := 8) (v := ?_) (by simp only [gA, gB, gC]; rfl) (by kernel_rfl) (by kernel_rfl) (by kernel_rfl) (by exact fun _ _ _ h => h) (Or.inl ⟨by rfl, ?_⟩) (by assumption) ?_; rotate_left; (focus (intro w hSw; (try dsimp only at hSw); go_simp; try with_reducible rfl)); (try simp only [Act.put, sA, sB, sC])
  refine wpAnyH_take (i := 9) (v := _) (by simp only [gA, gB, gC]; rfl) (by kernel_rfl) (by kernel_rfl) (by kernel_rfl) (by exact fun _ _ _ h => h) (yields_cellI (by rfl) _ rfl ⟨w.heap.size, 2, none⟩ rfl (.int .i64 c.ring) (fun _ q => (q.1.cell (p := ⟨w.heap.size, 2, none⟩) (by show w.heap.size < w.heap.size + 1; omega)).trans xr) intI_load) (by assumption) ?_; (try simp only [Act.put, sA, sB, sC])
  refine wpAnyH_take (i := 10) (v := ?_) (by simp only [gA, gB, gC]; rfl) (by kernel_rfl) (by kernel_rfl) (by kernel_rfl) (by exact fun _ _ _ h => h) (Or.inl ⟨by rfl, ?_⟩) (by assumption) ?_; rotate_left; (focus (intro w hSw; (try dsimp only at hSw); go_simp; try with_reducible rfl)); (try simp only [Act.put, sA, sB, sC])
  refine wpAnyH_ready (rs := [0, 11]) (by kernel_rfl) (by simp) ?_
  refine AllReadyH.cons (by simp only [gA, gB, gC]; rfl) (fun K hK => ?_) ?_
  · skip
    have hb := alloc_below w0 (.cells #[] 85)
    have ho := own_emptyW (e := 85) (sz := 3) (f := frc) w0 hLB
    refine step_build0W fr_ok rfl rfl ?_
    (try simp only [Act.put, sA, sB, sC])
    refine hK.out _ _ (⟨hSB.trans (hb.mono (by omega)), (ht.keep hb).off⟩) ?_
    clear hHeld hK
    intro hHeld
    replace hSB := hSB.trans (hb.mono (by omega))
    replace hLB := Nat.le_trans hLB hb.size
    replace ht := ht.keep hb
    replace hs := hs.keep hb
    replace hr := hr.keep hb
    replace hB := Below.then hB hb
    replace hrow := hrow.below frc_len hb
    replace hp := stab_blk _ _ _ _ hp hb
    clear hb
    generalize w0.alloc (.cells #[] 85) = w1 at *
    obtain ⟨v0, hv0⟩ : ∃ v0, Value.slice (some ⟨w0.heap.size, 0, none⟩) 0 0 = v0 := ⟨_, rfl⟩
    rw [hv0] at ho ⊢
    clear hv0
    (try simp only [Act.put, sA, sB, sC])
    refine wpAnyH_ready (rs := [3, 11]) (by kernel_rfl) (by simp) ?_
    refine AllReadyH.cons (by simp only [gA, gB, gC]; rfl) (fun K hK => ?_) ?_
    · skip
      obtain ⟨v1, w2, hap, ho1, hgr⟩ := OwnR.appendW fr_ok ho hLB a1 sn k1 c.st hsn hrow hnn (by simp) (by omega)
      have hb := ho.grew_below hLB hgr
      refine step_append rfl _ _ rfl rfl rfl rfl hap ?_
      (try simp only [Act.put, sA, sB, sC])
      have htb := ht.keepB hb (by omega)
      refine hK.out _ _ (⟨hSB.trans (hb.mono (by omega)), htb.off⟩) ?_
      clear hHeld hK
      intro hHeld
      replace ht := htb
      replace hs := hs.keepB hb (by omega)
      replace hr := hr.keepB hb (by omega)
      replace hB := hB.trans (hb.mono (by omega))
      replace hp : BlkL (w.heap.size + 3) (ptr3 p) w2 := ⟨hp.1.same (hb.block _ (by omega)), Nat.lt_of_lt_of_le hp.2 hb.size⟩
      replace hrow := hrow0 w2 (hSB.trans (hb.mono (by omega)))
      replace hSB := hSB.trans (hb.mono (by omega))
      replace hLB := Nat.le_trans hLB hb.size
      rw [List.nil_append] at ho1
      replace ho := ho1
      clear hb hgr hap ho1 htb
      (try simp only [Act.put, sA, sB, sC])
      refine wpAnyH_ready (rs := [11]) (by kernel_rfl) (by simp) ?_
      refine AllReadyH.cons (by simp only [gA, gB, gC]; rfl) (fun K hK => ?_) AllReadyH.nil
      have hb := alloc_below w2 (.cells (frc ⟨c.seg, c.off + 1, c.ring⟩).toArray 85)
      have h1 := row_made frc_len w2 ⟨c.seg, c.off + 1, c.ring⟩ (frc ⟨c.seg, c.off + 1, c.ring⟩).toArray rfl 85
      have hne : v1.ownBlock ≠ some w2.heap.size := fun q => by have := (ho.lt q).2; omega
      refine step_build1 fr_ok (by decide) rfl _ rfl (frc ⟨c.seg, c.off + 1, c.ring⟩) rfl rfl ?_
      (try simp only [Act.put, sA, sB, sC])
      refine hK.out _ _ (⟨hSB.trans (hb.mono (by omega)), (ht.keep hb).off⟩) ?_
      clear hHeld hK
      intro hHeld
      replace hSB := hSB.trans (hb.mono (by omega))
      replace hLB := Nat.le_trans hLB hb.size
      replace ht := ht.keep hb
      replace hs := hs.keep hb
      replace hr := hr.keep hb
      replace hB := Below.then hB hb
      replace hrow := hrow.below frc_len hb
      replace hp := stab_blk _ _ _ _ hp hb
      replace ho := ho.below hb
      have hgb1 : w2.heap.size < (w2.alloc (.cells (frc ⟨c.seg, c.off + 1, c.ring⟩).toArray 85)).heap.size := by simp
      clear hb
      generalize w2.alloc (.cells (frc ⟨c.seg, c.off + 1, c.ring⟩).toArray 85) = w3 at *
      generalize w2.heap.size = gb at *
      (try simp only [Act.put, sA, sB, sC])
      refine wpAnyH_ready (rs := [12]) (by kernel_rfl) (by simp) ?_
      refine AllReadyH.cons (by simp only [gA, gB, gC]; rfl) (fun K hK => ?_) AllReadyH.nil
      obtain ⟨u2, w4, hap, ho2, hgr⟩ := OwnR.append fr_ok ho hLB ⟨gb, 0, none⟩ 1 1 [⟨c.seg, c.off + 1, c.ring⟩] rfl h1 (by omega) (by omega)
      have hb := ho.grew_below hLB hgr
      refine step_append rfl _ _ rfl rfl rfl rfl hap ?_
      (try simp only [Act.put, sA, sB, sC])
      have htb := ht.keepB hb (by omega)
      refine hK.out _ _ (⟨hSB.trans (hb.mono (by omega)), htb.off⟩) ?_
      clear hHeld hK
      intro hHeld
      replace ht := htb
      replace hs := hs.keepB hb (by omega)
      replace hr := hr.keepB hb (by omega)
      replace hB := hB.trans (hb.mono (by omega))
      replace hp : BlkL (w.heap.size + 3) (ptr3 p) w4 := ⟨hp.1.same (hb.block _ (by omega)), Nat.lt_of_lt_of_le hp.2 hb.size⟩
      replace hSB := hSB.trans (hb.mono (by omega))
      replace hLB := Nat.le_trans hLB hb.size
      obtain ⟨a2, cap2, hv2, -, -, -⟩ := ho2.slice frc_len
      clear hb hgr hap ho htb hrow
      (try simp only [Act.put, sA, sB, sC])
      refine wpAnyH_take (i := 13) (v := ?_) (by simp only [gA, gB, gC]; rfl) (by kernel_rfl) (by kernel_rfl) (by kernel_rfl) (by exact fun _ _ _ h => h) (Or.inl ⟨by rfl, ?_⟩) (by assumption) ?_; rotate_left; (focus (intro w hSw; (try dsimp only at hSw); go_simp; try with_reducible rfl)); (try simp only [Act.put, sA, sB, sC])
      refine wpAnyH_ready (rs := [14]) (by kernel_rfl) (by simp) ?_
      refine AllReadyH.cons (by simp only [gA, gB, gC]; rfl) (fun K hK => ?_) AllReadyH.nil
      have hfz := (ht.blk.1 16 _ (st_stk ht.ps)).2
      have ht2 := ht.setStk u2
      have hsoS : Sole (w.heap.size + 1) w4 (w4.setCell ⟨w.heap.size + 1, 16, none⟩ u2) := Sole.set ⟨rfl, rfl, rfl, Nat.le_refl _, fun _ _ _ => rfl⟩ _ _
      have ho9 := hsoS.own ho2 (fun q => by have := (ho2.lt q).1; omega)
      have hB9 := hB.setCell (p := ⟨w.heap.size + 1, 16, none⟩) (Nat.le_succ _) u2
      have hs9 : StAt w.heap.size c v _ := ⟨h4, hsoS.blk hs.blk (by omega)⟩
      have hr9 : StAt (w.heap.size + 5) zeroC nilS _ := ⟨rfl, hsoS.blk hr.blk (by omega)⟩
      have hp9 := hsoS.blk hp (by omega)
      have hSB9 := hSB.setCell (p := ⟨w.heap.size + 1, 16, none⟩) (Nat.le_refl _) u2
      have hoff9 := ht2.off
      refine step_storeK rfl _ _ rfl ⟨w.heap.size + 1, 16, none⟩ rfl u2 rfl (frs_store _ _ _ _ hv2 ht.stk hfz) ?_
      (try simp only [Act.put, sA, sB, sC])
      refine hK.out _ _ (⟨hSB9, hoff9⟩) ?_
      clear hHeld hK
      intro hHeld
      clear hsoS hs hr hp hB hSB9 hoff9 hSB ho2 ht hfz
      generalize w4.setCell ⟨w.heap.size + 1, 16, none⟩ u2 = W9 at *
      (try simp only [Act.put, sA, sB, sC])
      refine wpAnyH_done (by kernel_rfl) ?_ _
      have ht3 := ht2.set3 p.s o cn
      have hB3 : Below w.heap.size w (((W9.setCell ⟨w.heap.size + 1, 0, none⟩ (.int .i64 p.s)).setCell ⟨w.heap.size + 1, 1, none⟩ (.int .i64 o)).setCell ⟨w.heap.size + 1, 2, none⟩ (.int .i64 cn)) := ((hB9.setCell (p := ⟨w.heap.size + 1, 0, none⟩) (Nat.le_succ _) _).setCell (p := ⟨w.heap.size + 1, 1, none⟩) (Nat.le_succ _) _).setCell (p := ⟨w.heap.size + 1, 2, none⟩) (Nat.le_succ _) _
      have hso9 : Sole (w.heap.size + 1) W9 (((W9.setCell ⟨w.heap.size + 1, 0, none⟩ (.int .i64 p.s)).setCell ⟨w.heap.size + 1, 1, none⟩ (.int .i64 o)).setCell ⟨w.heap.size + 1, 2, none⟩ (.int .i64 cn)) := (((Sole.set ⟨rfl, rfl, rfl, Nat.le_refl _, fun _ _ _ => rfl⟩ _ _).set _ _).set _ _)
      have y0 := ht2.blk.1 0 _ rfl
      have y0c := y0.1
      have y0f := y0.2
      have y1 := ht2.blk.1 1 _ rfl
      have y1c := y1.1
      have y1f := y1.2
      have y2 := ht2.blk.1 2 _ rfl
      have y2c := y2.1
      have y2f := y2.2
      have xp0 := (hp9.1 0 (.int .i64 p.s) rfl).1
      go_upto_region 15 with fail
      clear y0 y0c y0f y1 y1c y1f y2 y2c y2f xp0 hv2
      generalize ((W9.setCell ⟨w.heap.size + 1, 0, none⟩ (.int .i64 p.s)).setCell ⟨w.heap.size + 1, 1, none⟩ (.int .i64 o)).setCell ⟨w.heap.size + 1, 2, none⟩ (.int .i64 cn) = WA at *
      have hsA : StAt w.heap.size c v WA := ⟨h4, hso9.blk hs9.blk (by omega)⟩
      have hrA : StAt (w.heap.size + 5) zeroC nilS WA := ⟨rfl, hso9.blk hr9.blk (by omega)⟩
      have hoA := hso9.own ho9 (fun q => by have := (ho9.lt q).1; omega)
      have xs2 := hsA.ring
      have hrt := ht3.blk.range
      have hlt : (stCs { c with seg := p.s, off := o, ring := cn } u2).length = 18 := st_len h4
      have hone2 : u2.oneCell' = true := (SV.ownA hoA).one
      have krs := rraise_any { c with seg := p.s, off := o, ring := cn } u2 h4 hone2 c.ring WA
      obtain ⟨Y, hY⟩ : ∃ Y, stCs { c with seg := p.s, off := o, ring := cn } u2 = Y := ⟨_, rfl⟩
      rw [hY] at hrt hlt krs
      have hszY : (Try.prog.info? 39).map (·.size) = some Y.length := by rw [hlt]; exact hszS
      clear hY hlt hso9 hs9 hr9 hB9 ht2 ht3 ho9
      go_wp2_with (first | (refine wpList_load_row rfl _ rfl (w.heap.size + 1) rfl Y hrt hundS rfl hszY ?_) | fail)
      refine krs.mono ?_
      rintro e WB ⟨rfl, hbB⟩
      obtain ⟨D, hD⟩ : ∃ D, raiseC { c with seg := p.s, off := o, ring := cn } c.ring = D := ⟨_, rfl⟩
      have hD4 : D.ps.length = 4 := by rw [← hD]; simpa [raiseC] using h4
      rw [hD]
      obtain ⟨WC, hWC, hthC, hrC, hkC⟩ := put_st (hrA.keep hbB) (d := D) hD4 u2
      have hBC := hkC _ _ (by omega) (Below.then hB3 hbB)
      have hoB := hoA.below hbB
      have hoC : OwnR 85 3 frc WC Z.heap.size u2 (c.st ++ [⟨c.seg, c.off + 1, c.ring⟩]) := by
        rw [← hWC]
        exact hoB.mid (fun q => by have := (hoB.lt q).1; omega) _ _
      have hrCr := hrC.blk.range
      have honeD := st_one D u2 hone2
      have hlD : (stCs D u2).length = 18 := st_len hD4
      have hres : Aside (stCs (clTx c p x.g o R) u2 = stCs D u2) := by
        show stCs (clTx c p x.g o R) u2 = stCs D u2
        rw [← hD]
        unfold clTx
        rw [hcn.out]
        rfl
      obtain ⟨Q, hQ⟩ : ∃ Q, stCs D u2 = Q := ⟨_, rfl⟩
      rw [hQ] at hWC hthC hrCr honeD hlD hres ⊢
      have hszQ : (Try.prog.info? 39).map (·.size) = some Q.length := by rw [hlD]; exact hszS
      clear hQ hlD hD krs hrt
      go_wp2_with (first | (refine wpList_store_row rfl _ _ rfl (w.heap.size + 5) rfl Q rfl hthC hszQ honeD hWC ?_) | fail)
      refine bodyPost_ret (v := .tuple #[.agg Q.toArray, .int .i64 0]) (results_row2 rfl _ _ (w.heap.size + 5) rfl (.int .i64 0) rfl Q hrCr hundS rfl hszQ) rfl ?_
      exact ⟨u2, by rw [hE.out, hDv.out, hres.out], by rw [hDv.out]; exact SV.ownA hoC, (fun k q => by have := (hoC.lt q).1; omega), hBC⟩
    refine AllReadyH.cons (by simp only [gA, gB, gC]; rfl) (fun K hK => ?_) AllReadyH.nil
    have hb := alloc_below w1 (.cells (frc ⟨c.seg, c.off + 1, c.ring⟩).toArray 85)
    have h1 := row_made frc_len w1 ⟨c.seg, c.off + 1, c.ring⟩ (frc ⟨c.seg, c.off + 1, c.ring⟩).toArray rfl 85
    have hne : v0.ownBlock ≠ some w1.heap.size := fun q => by have := (ho.lt q).2; omega
    refine step_build1 fr_ok (by decide) rfl _ rfl (frc ⟨c.seg, c.off + 1, c.ring⟩) rfl rfl ?_
    (try simp only [Act.put, sA, sB, sC])
    refine hK.out _ _ (⟨hSB.trans (hb.mono (by omega)), (ht.keep hb).off⟩) ?_
    clear hHeld hK
    intro hHeld
    replace hSB := hSB.trans (hb.mono (by omega))
    replace hLB := Nat.le_trans hLB hb.size
    replace ht := ht.keep hb
    replace hs := hs.keep hb
    replace hr := hr.keep hb
    replace hB := Below.then hB hb
    replace hrow := hrow.below frc_len hb
    replace hp := stab_blk _ _ _ _ hp hb
    replace ho := ho.below hb
    have hgb1 : w1.heap.size < (w1.alloc (.cells (frc ⟨c.seg, c.off + 1, c.ring⟩).toArray 85)).heap.size := by simp
    clear hb
    generalize w1.alloc (.cells (frc ⟨c.seg, c.off + 1, c.ring⟩).toArray 85) = w2 at *
    generalize w1.heap.size = gb at *
    (try simp only [Act.put, sA, sB, sC])
    refine wpAnyH_ready (rs := [3]) (by kernel_rfl) (by simp) ?_
    refine AllReadyH.cons (by simp only [gA, gB, gC]; rfl) (fun K hK => ?_) AllReadyH.nil
    obtain ⟨v1, w3, hap, ho1, hgr⟩ := OwnR.appendW fr_ok ho hLB a1 sn k1 c.st hsn hrow hnn (by simp) (by omega)
    have hb := ho.grew_below hLB hgr
    have h1k := h1.grew frc_len hgr hne
    refine step_append rfl _ _ rfl rfl rfl rfl hap ?_
    (try simp only [Act.put, sA, sB, sC])
    have htb := ht.keepB hb (by omega)
    refine hK.out _ _ (⟨hSB.trans (hb.mono (by omega)), htb.off⟩) ?_
    clear hHeld hK
    intro hHeld
    replace ht := htb
    replace hs := hs.keepB hb (by omega)
    replace hr := hr.keepB hb (by omega)
    replace hB := hB.trans (hb.mono (by omega))
    replace hp : BlkL (w.heap.size + 3) (ptr3 p) w3 := ⟨hp.1.same (hb.block _ (by omega)), Nat.lt_of_lt_of_le hp.2 hb.size⟩
    replace hrow := hrow0 w3 (hSB.trans (hb.mono (by omega)))
    replace hSB := hSB.trans (hb.mono (by omega))
    replace hLB := Nat.le_trans hLB hb.size
    rw [List.nil_append] at ho1
    replace ho := ho1
    replace h1 := h1k
    clear h1k
    clear hb hgr hap ho1 htb
    clear hne
    (try simp only [Act.put, sA, sB, sC])
    refine wpAnyH_ready (rs := [12]) (by kernel_rfl) (by simp) ?_
    refine AllReadyH.cons (by simp only [gA, gB, gC]; rfl) (fun K hK => ?_) AllReadyH.nil
    obtain ⟨u2, w4, hap, ho2, hgr⟩ := OwnR.append fr_ok ho hLB ⟨gb, 0, none⟩ 1 1 [⟨c.seg, c.off + 1, c.ring⟩] rfl h1 (by omega) (by omega)
    have hb := ho.grew_below hLB hgr
    refine step_append rfl _ _ rfl rfl rfl rfl hap ?_
    (try simp only [Act.put, sA, sB, sC])
    have htb := ht.keepB hb (by omega)
    refine hK.out _ _ (⟨hSB.trans (hb.mono (by omega)), htb.off⟩) ?_
    clear hHeld hK
    intro hHeld
    replace ht := htb
    replace hs := hs.keepB hb (by omega)
    replace hr := hr.keepB hb (by omega)
    replace hB := hB.trans (hb.mono (by omega))
    replace hp : BlkL (w.heap.size + 3) (ptr3 p) w4 := ⟨hp.1.same (hb.block _ (by omega)), Nat.lt_of_lt_of_le hp.2 hb.size⟩
    replace hSB := hSB.trans (hb.mono (by omega))
    replace hLB := Nat.le_trans hLB hb.size
    obtain ⟨a2, cap2, hv2, -, -, -⟩ := ho2.slice frc_len
    clear hb hgr hap ho htb hrow
    (try simp only [Act.put, sA, sB, sC])
    refine wpAnyH_take (i := 13) (v := ?_) (by simp only [gA, gB, gC]; rfl) (by kernel_rfl) (by kernel_rfl) (by kernel_rfl) (by exact fun _ _ _ h => h) (Or.inl ⟨by rfl, ?_⟩) (by assumption) ?_; rotate_left; (focus (intro w hSw; (try dsimp only at hSw); go_simp; try with_reducible rfl)); (try simp only [Act.put, sA, sB, sC])
    refine wpAnyH_ready (rs := [14]) (by kernel_rfl) (by simp) ?_
    refine AllReadyH.cons (by simp only [gA, gB, gC]; rfl) (fun K hK => ?_) AllReadyH.nil
    have hfz := (ht.blk.1 16 _ (st_stk ht.ps)).2
    have ht2 := ht.setStk u2
    have hsoS : Sole (w.heap.size + 1) w4 (w4.setCell ⟨w.heap.size + 1, 16, none⟩ u2) := Sole.set ⟨rfl, rfl, rfl, Nat.le_refl _, fun _ _ _ => rfl⟩ _ _
    have ho9 := hsoS.own ho2 (fun q => by have := (ho2.lt q).1; omega)
    have hB9 := hB.setCell (p := ⟨w.heap.size + 1, 16, none⟩) (Nat.le_succ _) u2
    have hs9 : StAt w.heap.size c v _ := ⟨h4, hsoS.blk hs.blk (by omega)⟩
    have hr9 : StAt (w.heap.size + 5) zeroC nilS _ := ⟨rfl, hsoS.blk hr.blk (by omega)⟩
    have hp9 := hsoS.blk hp (by omega)
    have hSB9 := hSB.setCell (p := ⟨w.heap.size + 1, 16, none⟩) (Nat.le_refl _) u2
    have hoff9 := ht2.off
    refine step_storeK rfl _ _ rfl ⟨w.heap.size + 1, 16, none⟩ rfl u2 rfl (frs_store _ _ _ _ hv2 ht.stk hfz) ?_
    (try simp only [Act.put, sA, sB, sC])
    refine hK.out _ _ (⟨hSB9, hoff9⟩) ?_
    clear hHeld hK
    intro hHeld
    clear hsoS hs hr hp hB hSB9 hoff9 hSB ho2 ht hfz
    generalize w4.setCell ⟨w.heap.size + 1, 16, none⟩ u2 = W9 at *
    (try simp only [Act.put, sA, sB, sC])
    refine wpAnyH_done (by kernel_rfl) ?_ _
    have ht3 := ht2.set3 p.s o cn
    have hB3 : Below w.heap.size w (((W9.setCell ⟨w.heap.size + 1, 0, none⟩ (.int .i64 p.s)).setCell ⟨w.heap.size + 1, 1, none⟩ (.int .i64 o)).setCell ⟨w.heap.size + 1, 2, none⟩ (.int .i64 cn)) := ((hB9.setCell (p := ⟨w.heap.size + 1, 0, none⟩) (Nat.le_succ _) _).setCell (p := ⟨w.heap.size + 1, 1, none⟩) (Nat.le_succ _) _).setCell (p := ⟨w.heap.size + 1, 2, none⟩) (Nat.le_succ _) _
    have hso9 : Sole (w.heap.size + 1) W9 (((W9.setCell ⟨w.heap.size + 1, 0, none⟩ (.int .i64 p.s)).setCell ⟨w.heap.size + 1, 1, none⟩ (.int .i64 o)).setCell ⟨w.heap.size + 1, 2, none⟩ (.int .i64 cn)) := (((Sole.set ⟨rfl, rfl, rfl, Nat.le_refl _, fun _ _ _ => rfl⟩ _ _).set _ _).set _ _)
    have y0 := ht2.blk.1 0 _ rfl
    have y0c := y0.1
    have y0f := y0.2
    have y1 := ht2.blk.1 1 _ rfl
    have y1c := y1.1
    have y1f := y1.2
    have y2 := ht2.blk.1 2 _ rfl
    have y2c := y2.1
    have y2f := y2.2
    have xp0 := (hp9.1 0 (.int .i64 p.s) rfl).1
    go_upto_region 15 with fail
    clear y0 y0c y0f y1 y1c y1f y2 y2c y2f xp0 hv2
    generalize ((W9.setCell ⟨w.heap.size + 1, 0, none⟩ (.int .i64 p.s)).setCell ⟨w.heap.size + 1, 1, none⟩ (.int .i64 o)).setCell ⟨w.heap.size + 1, 2, none⟩ (.int .i64 cn) = WA at *
    have hsA : StAt w.heap.size c v WA := ⟨h4, hso9.blk hs9.blk (by omega)⟩
    have hrA : StAt (w.heap.size + 5) zeroC nilS WA := ⟨rfl, hso9.blk hr9.blk (by omega)⟩
    have hoA := hso9.own ho9 (fun q => by have := (ho9.lt q).1; omega)
    have xs2 := hsA.ring
    have hrt := ht3.blk.range
    have hlt : (stCs { c with seg := p.s, off := o, ring := cn } u2).length = 18 := st_len h4
    have hone2 : u2.oneCell' = true := (SV.ownA hoA).one
    have krs := rraise_any { c with seg := p.s, off := o, ring := cn } u2 h4 hone2 c.ring WA
    obtain ⟨Y, hY⟩ : ∃ Y, stCs { c with seg := p.s, off := o, ring := cn } u2 = Y := ⟨_, rfl⟩
    rw [hY] at hrt hlt krs
    have hszY : (Try.prog.info? 39).map (·.size) = some Y.length := by rw [hlt]; exact hszS
    clear hY hlt hso9 hs9 hr9 hB9 ht2 ht3 ho9
    go_wp2_with (first | (refine wpList_load_row rfl _ rfl (w.heap.size + 1) rfl Y hrt hundS rfl hszY ?_) | fail)
    refine krs.mono ?_
    rintro e WB ⟨rfl, hbB⟩
    obtain ⟨D, hD⟩ : ∃ D, raiseC { c with seg := p.s, off := o, ring := cn } c.ring = D := ⟨_, rfl⟩
    have hD4 : D.ps.length = 4 := by rw [← hD]; simpa [raiseC] using h4
    rw [hD]
    obtain ⟨WC, hWC, hthC, hrC, hkC⟩ := put_st (hrA.keep hbB) (d := D) hD4 u2
    have hBC := hkC _ _ (by omega) (Below.then hB3 hbB)
    have hoB := hoA.below hbB
    have hoC : OwnR 85 3 frc WC Z.heap.size u2 (c.st ++ [⟨c.seg, c.off + 1, c.ring⟩]) := by
      rw [← hWC]
      exact hoB.mid (fun q => by have := (hoB.lt q).1; omega) _ _
    have hrCr := hrC.blk.range
    have honeD := st_one D u2 hone2
    have hlD : (stCs D u2).length = 18 := st_len hD4
    have hres : Aside (stCs (clTx c p x.g o R) u2 = stCs D u2) := by
      show stCs (clTx c p x.g o R) u2 = stCs D u2
      rw [← hD]
      unfold clTx
      rw [hcn.out]
      rfl
    obtain ⟨Q, hQ⟩ : ∃ Q, stCs D u2 = Q := ⟨_, rfl⟩
    rw [hQ] at hWC hthC hrCr honeD hlD hres ⊢
    have hszQ : (Try.prog.info? 39).map (·.size) = some Q.length := by rw [hlD]; exact hszS
    clear hQ hlD hD krs hrt
    go_wp2_with (first | (refine wpList_store_row rfl _ _ rfl (w.heap.size + 5) rfl Q rfl hthC hszQ honeD hWC ?_) | fail)
    refine bodyPost_ret (v := .tuple #[.agg Q.toArray, .int .i64 0]) (results_row2 rfl _ _ (w.heap.size + 5) rfl (.int .i64 0) rfl Q hrCr hundS rfl hszQ) rfl ?_
    exact ⟨u2, by rw [hE.out, hDv.out, hres.out], by rw [hDv.out]; exact SV.ownA hoC, (fun k q => by have := (hoC.lt q).1; omega), hBC⟩
  refine AllReadyH.cons (by simp only [gA, gB, gC]; rfl) (fun K hK => ?_) AllReadyH.nil
  have hb := alloc_below w0 (.cells (frc ⟨c.seg, c.off + 1, c.ring⟩).toArray 85)
  have h1 := row_made frc_len w0 ⟨c.seg, c.off + 1, c.ring⟩ (frc ⟨c.seg, c.off + 1, c.ring⟩).toArray rfl 85
  have hgbl : Z.heap.size ≤ w0.heap.size := hLB
  refine step_build1 fr_ok (by decide) rfl _ rfl (frc ⟨c.seg, c.off + 1, c.ring⟩) rfl rfl ?_
  (try simp only [Act.put, sA, sB, sC])
  refine hK.out _ _ (⟨hSB.trans (hb.mono (by omega)), (ht.keep hb).off⟩) ?_
  clear hHeld hK
  intro hHeld
  replace hSB := hSB.trans (hb.mono (by omega))
  replace hLB := Nat.le_trans hLB hb.size
  replace ht := ht.keep hb
  replace hs := hs.keep hb
  replace hr := hr.keep hb
  replace hB := Below.then hB hb
  replace hrow := hrow.below frc_len hb
  replace hp := stab_blk _ _ _ _ hp hb
  have hgb1 : w0.heap.size < (w0.alloc (.cells (frc ⟨c.seg, c.off + 1, c.ring⟩).toArray 85)).heap.size := by simp
  clear hb
  generalize w0.alloc (.cells (frc ⟨c.seg, c.off + 1, c.ring⟩).toArray 85) = w1 at *
  generalize w0.heap.size = gb at *
  (try simp only [Act.put, sA, sB, sC])
  refine wpAnyH_ready (rs := [0]) (by kernel_rfl) (by simp) ?_
  refine AllReadyH.cons (by simp only [gA, gB, gC]; rfl) (fun K hK => ?_) AllReadyH.nil
  have hb := alloc_below w1 (.cells #[] 85)
  have ho := own_emptyW (e := 85) (sz := 3) (f := frc) w1 hLB
  refine step_build0W fr_ok rfl rfl ?_
  (try simp only [Act.put, sA, sB, sC])
  refine hK.out _ _ (⟨hSB.trans (hb.mono (by omega)), (ht.keep hb).off⟩) ?_
  clear hHeld hK
  intro hHeld
  replace hSB := hSB.trans (hb.mono (by omega))
  replace hLB := Nat.le_trans hLB hb.size
  replace ht := ht.keep hb
  replace hs := hs.keep hb
  replace hr := hr.keep hb
  replace hB := Below.then hB hb
  replace hrow := hrow.below frc_len hb
  replace hp := stab_blk _ _ _ _ hp hb
  replace h1 := h1.below frc_len hb
  have hne : (Value.slice (some ⟨w1.heap.size, 0, none⟩) 0 0).ownBlock ≠ some gb := fun q => by simp [Value.ownBlock] at q; omega
  clear hb
  generalize w1.alloc (.cells #[] 85) = w2 at *
  obtain ⟨v0, hv0⟩ : ∃ v0, Value.slice (some ⟨w1.heap.size, 0, none⟩) 0 0 = v0 := ⟨_, rfl⟩
  rw [hv0] at ho hne ⊢
  clear hv0
  (try simp only [Act.put, sA, sB, sC])
  refine wpAnyH_ready (rs := [3]) (by kernel_rfl) (by simp) ?_
  refine AllReadyH.cons (by simp only [gA, gB, gC]; rfl) (fun K hK => ?_) AllReadyH.nil
  obtain ⟨v1, w3, hap, ho1, hgr⟩ := OwnR.appendW fr_ok ho hLB a1 sn k1 c.st hsn hrow hnn (by simp) (by omega)
  have hb := ho.grew_below hLB hgr
  have h1k := h1.grew frc_len hgr hne
  refine step_append rfl _ _ rfl rfl rfl rfl hap ?_
  (try simp only [Act.put, sA, sB, sC])
  have htb := ht.keepB hb (by omega)
  refine hK.out _ _ (⟨hSB.trans (hb.mono (by omega)), htb.off⟩) ?_
  clear hHeld hK
  intro hHeld
  replace ht := htb
  replace hs := hs.keepB hb (by omega)
  replace hr := hr.keepB hb (by omega)
  replace hB := hB.trans (hb.mono (by omega))
  replace hp : BlkL (w.heap.size + 3) (ptr3 p) w3 := ⟨hp.1.same (hb.block _ (by omega)), Nat.lt_of_lt_of_le hp.2 hb.size⟩
  replace hrow := hrow0 w3 (hSB.trans (hb.mono (by omega)))
  replace hSB := hSB.trans (hb.mono (by omega))
  replace hLB := Nat.le_trans hLB hb.size
  rw [List.nil_append] at ho1
  replace ho := ho1
  replace h1 := h1k
  clear h1k
  clear hb hgr hap ho1 htb
  clear hne
  (try simp only [Act.put, sA, sB, sC])
  refine wpAnyH_ready (rs := [12]) (by kernel_rfl) (by simp) ?_
  refine AllReadyH.cons (by simp only [gA, gB, gC]; rfl) (fun K hK => ?_) AllReadyH.nil
  obtain ⟨u2, w4, hap, ho2, hgr⟩ := OwnR.append fr_ok ho hLB ⟨gb, 0, none⟩ 1 1 [⟨c.seg, c.off + 1, c.ring⟩] rfl h1 (by omega) (by omega)
  have hb := ho.grew_below hLB hgr
  refine step_append rfl _ _ rfl rfl rfl rfl hap ?_
  (try simp only [Act.put, sA, sB, sC])
  have htb := ht.keepB hb (by omega)
  refine hK.out _ _ (⟨hSB.trans (hb.mono (by omega)), htb.off⟩) ?_
  clear hHeld hK
  intro hHeld
  replace ht := htb
  replace hs := hs.keepB hb (by omega)
  replace hr := hr.keepB hb (by omega)
  replace hB := hB.trans (hb.mono (by omega))
  replace hp : BlkL (w.heap.size + 3) (ptr3 p) w4 := ⟨hp.1.same (hb.block _ (by omega)), Nat.lt_of_lt_of_le hp.2 hb.size⟩
  replace hSB := hSB.trans (hb.mono (by omega))
  replace hLB := Nat.le_trans hLB hb.size
  obtain ⟨a2, cap2, hv2, -, -, -⟩ := ho2.slice frc_len
  clear hb hgr hap ho htb hrow
  (try simp only [Act.put, sA, sB, sC])
  refine wpAnyH_take (i := 13) (v := ?_) (by simp only [gA, gB, gC]; rfl) (by kernel_rfl) (by kernel_rfl) (by kernel_rfl) (by exact fun _ _ _ h => h) (Or.inl ⟨by rfl, ?_⟩) (by assumption) ?_; rotate_left; (focus (intro w hSw; (try dsimp only at hSw); go_simp; try with_reducible rfl)); (try simp only [Act.put, sA, sB, sC])
  refine wpAnyH_ready (rs := [14]) (by kernel_rfl) (by simp) ?_
  refine AllReadyH.cons (by simp only [gA, gB, gC]; rfl) (fun K hK => ?_) AllReadyH.nil
  have hfz := (ht.blk.1 16 _ (st_stk ht.ps)).2
  have ht2 := ht.setStk u2
  have hsoS : Sole (w.heap.size + 1) w4 (w4.setCell ⟨w.heap.size + 1, 16, none⟩ u2) := Sole.set ⟨rfl, rfl, rfl, Nat.le_refl _, fun _ _ _ => rfl⟩ _ _
  have ho9 := hsoS.own ho2 (fun q => by have := (ho2.lt q).1; omega)
  have hB9 := hB.setCell (p := ⟨w.heap.size + 1, 16, none⟩) (Nat.le_succ _) u2
  have hs9 : StAt w.heap.size c v _ := ⟨h4, hsoS.blk hs.blk (by omega)⟩
  have hr9 : StAt (w.heap.size + 5) zeroC nilS _ := ⟨rfl, hsoS.blk hr.blk (by omega)⟩
  have hp9 := hsoS.blk hp (by omega)
  have hSB9 := hSB.setCell (p := ⟨w.heap.size + 1, 16, none⟩) (Nat.le_refl _) u2
  have hoff9 := ht2.off
  refine step_storeK rfl _ _ rfl ⟨w.heap.size + 1, 16, none⟩ rfl u2 rfl (frs_store _ _ _ _ hv2 ht.stk hfz) ?_
  (try simp only [Act.put, sA, sB, sC])
  refine hK.out _ _ (⟨hSB9, hoff9⟩) ?_
  clear hHeld hK
  intro hHeld
  clear hsoS hs hr hp hB hSB9 hoff9 hSB ho2 ht hfz
  generalize w4.setCell ⟨w.heap.size + 1, 16, none⟩ u2 = W9 at *
  (try simp only [Act.put, sA, sB, sC])
  refine wpAnyH_done (by kernel_rfl) ?_ _
  have ht3 := ht2.set3 p.s o cn
  have hB3 : Below w.heap.size w (((W9.setCell ⟨w.heap.size + 1, 0, none⟩ (.int .i64 p.s)).setCell ⟨w.heap.size + 1, 1, none⟩ (.int .i64 o)).setCell ⟨w.heap.size + 1, 2, none⟩ (.int .i64 cn)) := ((hB9.setCell (p := ⟨w.heap.size + 1, 0, none⟩) (Nat.le_succ _) _).setCell (p := ⟨w.heap.size + 1, 1, none⟩) (Nat.le_succ _) _).setCell (p := ⟨w.heap.size + 1, 2, none⟩) (Nat.le_succ _) _
  have hso9 : Sole (w.heap.size + 1) W9 (((W9.setCell ⟨w.heap.size + 1, 0, none⟩ (.int .i64 p.s)).setCell ⟨w.heap.size + 1, 1, none⟩ (.int .i64 o)).setCell ⟨w.heap.size + 1, 2, none⟩ (.int .i64 cn)) := (((Sole.set ⟨rfl, rfl, rfl, Nat.le_refl _, fun _ _ _ => rfl⟩ _ _).set _ _).set _ _)
  have y0 := ht2.blk.1 0 _ rfl
  have y0c := y0.1
  have y0f := y0.2
  have y1 := ht2.blk.1 1 _ rfl
  have y1c := y1.1
  have y1f := y1.2
  have y2 := ht2.blk.1 2 _ rfl
  have y2c := y2.1
  have y2f := y2.2
  have xp0 := (hp9.1 0 (.int .i64 p.s) rfl).1
  go_upto_region 15 with fail
  clear y0 y0c y0f y1 y1c y1f y2 y2c y2f xp0 hv2
  generalize ((W9.setCell ⟨w.heap.size + 1, 0, none⟩ (.int .i64 p.s)).setCell ⟨w.heap.size + 1, 1, none⟩ (.int .i64 o)).setCell ⟨w.heap.size + 1, 2, none⟩ (.int .i64 cn) = WA at *
  have hsA : StAt w.heap.size c v WA := ⟨h4, hso9.blk hs9.blk (by omega)⟩
  have hrA : StAt (w.heap.size + 5) zeroC nilS WA := ⟨rfl, hso9.blk hr9.blk (by omega)⟩
  have hoA := hso9.own ho9 (fun q => by have := (ho9.lt q).1; omega)
  have xs2 := hsA.ring
  have hrt := ht3.blk.range
  have hlt : (stCs { c with seg := p.s, off := o, ring := cn } u2).length = 18 := st_len h4
  have hone2 : u2.oneCell' = true := (SV.ownA hoA).one
  have krs := rraise_any { c with seg := p.s, off := o, ring := cn } u2 h4 hone2 c.ring WA
  obtain ⟨Y, hY⟩ : ∃ Y, stCs { c with seg := p.s, off := o, ring := cn } u2 = Y := ⟨_, rfl⟩
  rw [hY] at hrt hlt krs
  have hszY : (Try.prog.info? 39).map (·.size) = some Y.length := by rw [hlt]; exact hszS
  clear hY hlt hso9 hs9 hr9 hB9 ht2 ht3 ho9
  go_wp2_with (first | (refine wpList_load_row rfl _ rfl (w.heap.size + 1) rfl Y hrt hundS rfl hszY ?_) | fail)
  refine krs.mono ?_
  rintro e WB ⟨rfl, hbB⟩
  obtain ⟨D, hD⟩ : ∃ D, raiseC { c with seg := p.s, off := o, ring := cn } c.ring = D := ⟨_, rfl⟩
  have hD4 : D.ps.length = 4 := by rw [← hD]; simpa [raiseC] using h4
  rw [hD]
  obtain ⟨WC, hWC, hthC, hrC, hkC⟩ := put_st (hrA.keep hbB) (d := D) hD4 u2
  have hBC := hkC _ _ (by omega) (Below.then hB3 hbB)
  have hoB := hoA.below hbB
  have hoC : OwnR 85 3 frc WC Z.heap.size u2 (c.st ++ [⟨c.seg, c.off + 1, c.ring⟩]) := by
    rw [← hWC]
    exact hoB.mid (fun q => by have := (hoB.lt q).1; omega) _ _
  have hrCr := hrC.blk.range
  have honeD := st_one D u2 hone2
  have hlD : (stCs D u2).length = 18 := st_len hD4
  have hres : Aside (stCs (clTx c p x.g o R) u2 = stCs D u2) := by
    show stCs (clTx c p x.g o R) u2 = stCs D u2
    rw [← hD]
    unfold clTx
    rw [hcn.out]
    rfl
  obtain ⟨Q, hQ⟩ : ∃ Q, stCs D u2 = Q := ⟨_, rfl⟩
  rw [hQ] at hWC hthC hrCr honeD hlD hres ⊢
  have hszQ : (Try.prog.info? 39).map (·.size) = some Q.length := by rw [hlD]; exact hszS
  clear hQ hlD hD krs hrt
  go_wp2_with (first | (refine wpList_store_row rfl _ _ rfl (w.heap.size + 5) rfl Q rfl hthC hszQ honeD hWC ?_) | fail)
  refine bodyPost_ret (v := .tuple #[.agg Q.toArray, .int .i64 0]) (results_row2 rfl _ _ (w.heap.size + 5) rfl (.int .i64 0) rfl Q hrCr hundS rfl hszQ) rfl ?_
  exact ⟨u2, by rw [hE.out, hDv.out, hres.out], by rw [hDv.out]; exact SV.ownA hoC, (fun k q => by have := (hoC.lt q).1; omega), hBC⟩
end Go.Proofs.Ytinibccphecdfaa
