/-
  CpuPointers, walked. Written by mk_cpupointers.py.
-/
import Derived.Test.YtinibccphecdfabPt3
namespace Go.Proofs.Ytinibccphecdfab
open Go.RowKit
set_option maxRecDepth 8000
set_option linter.unusedSimpArgs false
set_option linter.unusedVariables false

def pG (p : Nat) (r : Int) : Sg := ⟨true, [insW ⟨17, (p : Int), 0⟩, insW ⟨19, (p : Int), 0⟩], 7, ⟨r, r, r, 0⟩⟩
def pc (r w : Int) : Cp := ⟨0, 0, r, w, [⟨0, 0, 4⟩, ⟨1, 0, 4⟩, ⟨2, 0, 4⟩, ⟨3, 0, 4⟩], [], false⟩
def pq (w r : Int) : Ptr := ⟨(wPtr w).s, (wPtr w).f, gmax (wPtr w).r r⟩
def pt (r w : Int) (p : Nat) : Cp := ⟨0, 1, r, w, [⟨0, 0, 4⟩, ⟨1, 0, 4⟩, ⟨2, 0, 4⟩, ⟨3, 0, 4⟩].set p (pq w r), [], false⟩
def pu (r w : Int) (p : Nat) : Cp := ⟨0, 2, r, ptrW (pq w r), [⟨0, 0, 4⟩, ⟨1, 0, 4⟩, ⟨2, 0, 4⟩, ⟨3, 0, 4⟩].set p (pq w r), [], false⟩
theorem p_ins (o : Int) (h0 : 0 ≤ o) (h1 : o ≤ 22) {p : Nat} (hp : p < 4) : insE ⟨o, (p : Int), 0⟩ = 0 := insE_zero.2 ⟨⟨h0, h1⟩, by show (0 : Int) ≤ (p : Int); omega, by show (p : Int) ≤ 3; omega, by show (-2147483648 : Int) ≤ 0; decide, by show (0 : Int) ≤ 2147483647; decide⟩
theorem p_may {r : Int} (h0 : 0 ≤ r) (h7 : r ≤ 7) : mayX ⟨r, r, r, 0⟩ r = true := by
  unfold mayX
  exact decide_eq_true ⟨h0, h7, Int.le_refl _, Int.le_refl _⟩
theorem ptr_step1 (w : Int) {p : Nat} (hp : p < 4) {r : Int} (h0 : 0 ≤ r) (h7 : r ≤ 7) : stepC (pc r w) [pG p r] = okC (pt r w p) := by
  rw [step_of (c := pc r w) (m := [pG p r]) (g := pG p r) (i := ⟨17, (p : Int), 0⟩) rfl rfl rfl (show hasM 7 4 = true by decide +kernel) (p_may h0 h7) ⟨by show (0 : Int) ≤ 0; decide, by show (0 : Int) < ((2 : Nat) : Int); decide⟩ rfl (p_ins 17 (by decide) (by decide) hp)]
  rfl
theorem p_at (w r : Int) {p : Nat} (hp : p < 4) : ([⟨0, 0, 4⟩, ⟨1, 0, 4⟩, ⟨2, 0, 4⟩, ⟨3, 0, 4⟩].set p (pq w r)).getD p ⟨0, 0, 0⟩ = pq w r := by
  match p, hp with
  | 0, _ => rfl
  | 1, _ => rfl
  | 2, _ => rfl
  | 3, _ => rfl
theorem ptr_step2 (w : Int) {p : Nat} (hp : p < 4) {r : Int} (h0 : 0 ≤ r) (h7 : r ≤ 7) : stepC (pt r w p) [pG p r] = okC (pu r w p) := by
  rw [step_of (c := pt r w p) (m := [pG p r]) (g := pG p r) (i := ⟨19, (p : Int), 0⟩) rfl rfl rfl (show hasM 7 4 = true by decide +kernel) (p_may h0 h7) ⟨by show (0 : Int) ≤ 1; decide, by show (1 : Int) < ((2 : Nat) : Int); decide⟩ rfl (p_ins 19 (by decide) (by decide) hp)]
  show okC { pt r w p with off := 2, a := ptrW (([⟨0, 0, 4⟩, ⟨1, 0, 4⟩, ⟨2, 0, 4⟩, ⟨3, 0, 4⟩].set p (pq w r)).getD p ⟨0, 0, 0⟩) } = _
  rw [p_at w r hp]
  rfl
theorem pG_ok (p : Nat) {r : Int} (h0 : 0 ≤ r) (h7 : r ≤ 7) : (pG p r).Ok := ⟨fun _ => ⟨h0, Int.le_refl _, Int.le_refl _, h7, by show (0 : Int) ≤ 0; decide, by show (0 : Int) ≤ 16; decide⟩, fun x hx => by simp [pG] at hx; rcases hx with rfl | rfl <;> exact insW_fit _, by show 2 ≤ 1000; decide⟩
theorem pc_ok {r w : Int} (h0 : 0 ≤ r) (h7 : r ≤ 7) (hw : fit64 w) : (pc r w).Ok := ⟨rfl, newC_ok.pp, ⟨h0, h7⟩, hw, by show 0 ≤ 8; decide, fun f hf => (by simp [pc] at hf)⟩
theorem pt_ok {r w : Int} {p : Nat} (hp : p < 4) (h0 : 0 ≤ r) (h7 : r ≤ 7) (hw : fit64 w) : (pt r w p).Ok := by
  have hm : ∀ g ∈ [pG p r], g.Ok := fun g hg => by rw [List.mem_singleton.1 hg]; exact pG_ok p h0 h7
  have h := step_ok (pc_ok h0 h7 hw) hm (by rw [ptr_step1 w hp h0 h7]; rfl)
  rw [ptr_step1 w hp h0 h7] at h
  exact h
theorem run_eql_pts {ps : List Ptr} (h : ps.length = 4) (w : World) : (binOp .eql 26 (.agg (ps.flatMap ptr3).toArray) (.agg (ps.flatMap ptr3).toArray)).run Try.prog w = .ok (.bool true) w := by
  obtain ⟨p0, p1, p2, p3, rfl⟩ := four h
  have h1 := Try.underlying26
  have e0 := part_pts p0 p1 p2 p3 0 p0 rfl
  have e1 := part_pts p0 p1 p2 p3 1 p1 rfl
  have e2 := part_pts p0 p1 p2 p3 2 p2 rfl
  have e3 := part_pts p0 p1 p2 p3 3 p3 rfl
  have q0 := eqIn_ptr p0 9997
  have q1 := eqIn_ptr p1 9997
  have q2 := eqIn_ptr p2 9997
  have q3 := eqIn_ptr p3 9997
  generalize ([p0, p1, p2, p3].flatMap ptr3).toArray = X at *
  have key : (Op.equalIn 10000 26 (.agg X) (.agg X)).run Try.prog w = .ok true w := by
    unfold Op.equalIn
    simp only [Sem.run_bind, run_underlying h1, Result.andThen_ok]
    have hs : ∀ w, (sizeOf 25).run Try.prog w = .ok 3 w := fun w => by go_simp
    simp only [hs, Result.andThen_ok, Std.Legacy.Range.forIn_eq_forIn_range', Std.Legacy.Range.size, Nat.sub_zero, Nat.add_one_sub_one, Nat.div_one, List.range', List.forIn_cons, List.forIn_nil, Sem.run_bind, Sem.run_pure, e0, e1, e2, e3, q0, q1, q2, q3, Nat.reduceMul, Nat.zero_add, Nat.reduceAdd, Nat.zero_mul, Bool.not_true, Bool.false_eq_true, if_false]
  go_simp
set_option maxRecDepth 8000 in
set_option maxHeartbeats 8000000 in
theorem cpuPointers_walk (wd p r : Int) (hwd : fit64 wd) (w : World) :
    Calls Try.prog 4 #[.int .i64 wd, .int .i64 p, .int .i64 r] w fun e w' => e = .returned (.bool true) ∧ Below w.heap.size w w' := by
  have hundS := Try.underlying29
  have hszS : (Try.prog.info? 29).map (·.size) = some 18 := by kernel_rfl
  have hundG := Try.underlying39
  have hszG : (Try.prog.info? 39).map (·.size) = some 7 := by kernel_rfl
  have hszR : (Try.prog.info? 37).map (·.size) = some 4 := by kernel_rfl
  have hundP := Try.underlying25
  have hszP : (Try.prog.info? 25).map (·.size) = some 3 := by kernel_rfl
  have hmi : ∀ (v : Value) (w : World), (Instr.makeInterface 34 v).run Try.prog w = .ok (.iface 34 v) w := fun _ _ => rfl
  have kw := fun W : World => w16_any p 4 (by decide) (by decide) W
  have kr := fun W : World => w16_any r 8 (by decide) (by decide) W
  obtain ⟨pk, hpk, hp4⟩ : ∃ pk : Nat, p % 4 = (pk : Int) ∧ pk < 4 := ⟨(p % 4).toNat, by omega, by omega⟩
  have hr0 : 0 ≤ r % 8 := by omega
  have hr7 : r % 8 ≤ 7 := by omega
  simp only [hpk] at kw
  generalize r % 8 = rr at *
  clear hpk
  go_enter Try.func4, Try.ntmps4
  go_wp2_with fail
  refine (ck_any w).mono ?_
  rintro e W1 ⟨rfl, hB1⟩
  go_wp2_with fail
  refine (kw W1).mono ?_
  rintro e W2 ⟨rfl, hw2⟩
  rw [hw2]
  go_wp2_with fail
  refine (kr W1).mono ?_
  rintro e W3 ⟨rfl, hw3⟩
  rw [hw3]
  clear kw kr hw2 hw3 W2 W3
  have hbi := alloc_below W1 (.cells #[.int .i64 17, .int .i64 (pk : Int), .int .i64 0, .int .i64 19, .int .i64 (pk : Int), .int .i64 0] 42)
  have hri := row_list (f := ins3) (sz := 3) (fun _ => rfl) W1 [⟨17, (pk : Int), 0⟩, ⟨19, (pk : Int), 0⟩] #[.int .i64 17, .int .i64 (pk : Int), .int .i64 0, .int .i64 19, .int .i64 (pk : Int), .int .i64 0] rfl 42
  have ko := cone_any [⟨17, (pk : Int), 0⟩, ⟨19, (pk : Int), 0⟩] [] (some ⟨W1.heap.size, 0, none⟩) none 2 0 (by show 2 ≤ 100; decide) (by show 0 ≤ 100; decide) (fun _ => rfl) _ hri (fun j y h => by simp at h)
  have hB3 := Below.then hB1 hbi
  clear hri hbi
  go_wp2_with fail
  refine ko.mono ?_
  rintro e W4 ⟨x, hxg, rfl, hxo, hb4⟩
  have hB4 := Below.then hB3 hb4
  clear ko hB3 hb4 hB1
  obtain ⟨W5, hW5, hth5, hg5, hb5⟩ := put_new W4 (sgCs zeroG nilS).toArray 39 x.cs (by rw [pg_len]; rfl) (by rw [pg_len]; decide)
  have hB5 := Below.then hB4 hb5
  have hxo5 := hxo.below hb5
  go_upto_region 5 with (first | (refine wpList_store_row rfl _ _ rfl W4.heap.size rfl x.cs rfl hth5 hszG (pg_one _) hW5 ?_) | fail)
  have hxb : ∀ k, x.v.ownBlock = some k → k < W4.heap.size := fun k hk => (hxo.lt hk).2
  clear hW5 hth5 hxo hb5
  have hlt4 := hB4.size
  generalize W4.heap.size = bg at *
  have hl5 : 3 + (rg4 ⟨rr, rr, rr, 0⟩).length ≤ x.cs.length := by rw [pg_len]; show 3 + 4 ≤ 7; decide
  have h6 := Blk.putM (rg4 ⟨rr, rr, rr, 0⟩) 3 hg5.1 hl5
  obtain ⟨x2, hx2⟩ : ∃ x2 : PG, PG.mk (pG pk rr) x.wa x.wc = x2 := ⟨_, rfl⟩
  have hx2c : setM x.cs 3 (rg4 ⟨rr, rr, rr, 0⟩) = x2.cs := by
    rw [← hx2]
    unfold PG.cs PG.v
    rw [hxg]
    rfl
  rw [hx2c] at h6
  obtain ⟨W6, hW6⟩ : ∃ W6, W5.setCells bg 3 (rg4 ⟨rr, rr, rr, 0⟩) = W6 := ⟨_, rfl⟩
  have hth6 := hg5.1.thereM 3 (rg4 ⟨rr, rr, rr, 0⟩).length hl5
  rw [hW6] at h6
  have hg6 : BlkL bg x2.cs W6 := ⟨h6, h6.lt (List.getElem?_eq_getElem (by rw [pg_len]; decide : 0 < x2.cs.length))⟩
  have hB6 : Below w.heap.size w W6 := by rw [← hW6]; exact Below.cells hlt4 _ _ hB5
  have hxe : x2.v = x.v := by
    rw [← hx2]
    unfold PG.v
    rw [hxg]
    rfl
  have hxw : x2.g.ws = x.g.ws := by rw [← hx2, hxg]; rfl
  have hxo6 : OwnR 2 1 wcl W6 0 x2.v x2.g.ws := by
    rw [hxe, hxw, ← hW6]
    exact (hxo5.keep fun k hk => heap_setCells_other (by have := hxb k hk; omega) _ _ _).lower (Nat.zero_le _)
  have hx2g : x2.g = pG pk rr := by rw [← hx2]
  clear h6 hg5 hxo5 hxb hB5 hxe hxw hx2 hx2c hxg
  go_upto_region 6 with (first | (refine wpList_store_part rfl _ _ rfl bg 3 rfl (rg4 ⟨rr, rr, rr, 0⟩) rfl hth6 hszR (rg4_one _) hW6 ?_) | fail)
  clear hW6 hth6 hl5
  go_wp2_with fail
  refine (cnew_any W6).mono ?_
  rintro e W7 ⟨rfl, hb7⟩
  obtain ⟨W8, hW8, hth8, hs8, hb8⟩ := new_stC W7 newC rfl nilS
  have hg7 := stab_blk _ _ _ _ hg6 hb7
  have hxo7 := hxo6.below hb7
  have hB7 := Below.then hB6 hb7
  have y2 := hs8.ring
  have y3 := hs8.a
  have yf2 := (hs8.blk.1 2 _ rfl).2
  have yf3 := (hs8.blk.1 3 _ rfl).2
  have hs9 : StAt W7.heap.size (pc rr wd) nilS ((W8.setCell ⟨W7.heap.size, 2, none⟩ (.int .i64 rr)).setCell ⟨W7.heap.size, 3, none⟩ (.int .i64 wd)) := by
    have h1 := (hs8.blk.1.set 2 (.int .i64 rr) (by show 2 < 18; decide)).set 3 (.int .i64 wd) (by show 3 < 18; decide)
    exact ⟨rfl, h1, h1.lt rfl⟩
  have hb9 : Below W7.heap.size W7 ((W8.setCell ⟨W7.heap.size, 2, none⟩ (.int .i64 rr)).setCell ⟨W7.heap.size, 3, none⟩ (.int .i64 wd)) := (hb8.setCell (p := ⟨W7.heap.size, 2, none⟩) (Nat.le_refl _) _).setCell (p := ⟨W7.heap.size, 3, none⟩) (Nat.le_refl _) _
  have hg9 := stab_blk _ _ _ _ hg7 hb9
  have hxo9 := hxo7.below hb9
  have hB9 := Below.then hB7 hb9
  have hone8 : ∀ u ∈ stCs newC nilS, u.oneCell' = true := st_one _ _ rfl
  have hsz8 : (Try.prog.info? 29).map (·.size) = some (stCs newC nilS).length := by kernel_rfl
  obtain ⟨Y, hY⟩ : ∃ Y, stCs newC nilS = Y := ⟨_, rfl⟩
  rw [hY] at hW8 hth8 hone8 hsz8
  have hYv : Aside (.agg (stCs newC nilS).toArray = Value.agg Y.toArray) := by rw [hY]; exact rfl
  clear hY hb8 hs8 hb7 hg7 hxo7 hB7 hg6 hxo6 hB6 hb9
  go_upto_region 8 with (first | (refine wpList_store_row rfl _ _ rfl W7.heap.size rfl Y hYv.out hth8 hsz8 hone8 hW8 ?_) | fail)
  clear hW8 hth8 hone8 hsz8 hYv y2 y3 yf2 yf3
  generalize (W8.setCell ⟨W7.heap.size, 2, none⟩ (.int .i64 rr)).setCell ⟨W7.heap.size, 3, none⟩ (.int .i64 wd) = W9 at *
  generalize W7.heap.size = bs at *
  have hrg := hg9.range
  have hrx := row_list pg_len W9 [x2] x2.cs.toArray (by simp) 39
  have hbx := alloc_below W9 (.cells x2.cs.toArray 39)
  have hbA := alloc_below (W9.alloc (.cells x2.cs.toArray 39)) (.cells (memCs (.slice (some ⟨W9.heap.size, 0, none⟩) 1 1) false 0 0 0 0).toArray 48)
  have hmA := blkl_alloc (W9.alloc (.cells x2.cs.toArray 39)) (memCs (.slice (some ⟨W9.heap.size, 0, none⟩) 1 1) false 0 0 0 0).toArray 48
  have hxoA := (hxo9.below hbx).below hbA
  have hMA := MemO.of (by rw [hx2g]; exact pG_ok pk hr0 hr7) hxoA hmA ⟨hrx.below pg_len hbA, fun z hz => by rw [List.mem_singleton.1 hz]; exact own_at hxoA⟩
  have hBA := Below.then (Below.then hB9 hbx) hbA
  have hsA := (hs9.keep hbx).keep hbA
  have hmg : [x2].map (·.g) = [pG pk rr] := by simp [hx2g]
  rw [show (W9.alloc (.cells x2.cs.toArray 39)).heap.size = W9.heap.size + 1 by simp] at hMA
  replace hMA : MemO (W9.heap.size + 1) (some ⟨W9.heap.size, 0, none⟩) 1 [x2] false 0 0 0 0 ((W9.alloc (.cells x2.cs.toArray 39)).alloc (.cells #[.slice (some ⟨W9.heap.size, 0, none⟩) 1 1, .bool false, .int .i64 0, .int .i64 0, .int .i64 0, .int .i64 0] 48)) := hMA
  replace hBA : Below w.heap.size w ((W9.alloc (.cells x2.cs.toArray 39)).alloc (.cells #[.slice (some ⟨W9.heap.size, 0, none⟩) 1 1, .bool false, .int .i64 0, .int .i64 0, .int .i64 0, .int .i64 0] 48)) := hBA
  replace hsA : StAt bs (pc rr wd) nilS ((W9.alloc (.cells x2.cs.toArray 39)).alloc (.cells #[.slice (some ⟨W9.heap.size, 0, none⟩) 1 1, .bool false, .int .i64 0, .int .i64 0, .int .i64 0, .int .i64 0] 48)) := hsA
  have hszx : (Try.prog.info? 39).map (·.size) = some x2.cs.length := by rw [pg_len]; exact hszG
  clear hrx hbx hbA hmA hxoA hxo9 hB9 hs9 hg9
  go_upto_region 9 with (first | (refine wpList_load_row rfl _ rfl bg rfl x2.cs hrg hundG rfl hszx ?_) | (refine wpList_build1 pg_okC (by decide) rfl _ rfl x2.cs rfl rfl ?_) | fail)
  clear hrg hszx hx2g
  generalize (W9.alloc (.cells x2.cs.toArray 39)).alloc (.cells #[.slice (some ⟨W9.heap.size, 0, none⟩) 1 1, .bool false, .int .i64 0, .int .i64 0, .int .i64 0, .int .i64 0] 48) = WA at *
  generalize W9.heap.size + 1 = bm at *
  generalize W9.heap.size = gs at *
  have ks1 := cstepV (pc rr wd) (pc_ok hr0 hr7 hwd) nilS hMA (SV.nil _) (okC (pt rr wd pk)) (by rw [hmg]; exact ptr_step1 wd hp4 hr0 hr7)
  have hrs1 := hsA.blk.range
  have hlS1 : (stCs (pc rr wd) nilS).length = 18 := st_len hsA.ps
  obtain ⟨Y1, hY1⟩ : ∃ Y, stCs (pc rr wd) nilS = Y := ⟨_, rfl⟩
  rw [hY1] at ks1 hrs1 hlS1
  have hszY1 : (Try.prog.info? 29).map (·.size) = some Y1.length := by rw [hlS1]; exact hszS
  clear hY1 hlS1
  go_wp2_with (first | (refine wpList_load_row rfl _ rfl bs rfl Y1 hrs1 hundS rfl hszY1 ?_) | fail)
  refine ks1.mono ?_
  rintro e WB hP
  obtain ⟨vB, rfl, hoB, hbB⟩ := hP.okE
  have hptl : (pt rr wd pk).ps.length = 4 := (pt_ok hp4 hr0 hr7 hwd).ps
  obtain ⟨WC, hWC, hthC, hsC, hbC⟩ := new_stC WB (pt rr wd pk) hptl vB
  have hoC := hoB.below hbC
  have hMC := (hMA.below hbB).below hbC
  have hBC := Below.then (Below.then hBA hbB) hbC
  have honeC := st_one (pt rr wd pk) vB (SV.own hoB).one
  clear ks1 hrs1 hszY1 hP hoB hbB hbC hMA hBA hsA
  have ks2 := cstepV (pt rr wd pk) (pt_ok hp4 hr0 hr7 hwd) vB hMC (SV.own hoC) (okC (pu rr wd pk)) (by rw [hmg]; exact ptr_step2 wd hp4 hr0 hr7)
  have hrs2 := hsC.blk.range
  have hlS2 : (stCs (pt rr wd pk) vB).length = 18 := st_len hsC.ps
  obtain ⟨Y2, hY2⟩ : ∃ Y, stCs (pt rr wd pk) vB = Y := ⟨_, rfl⟩
  rw [hY2] at ks2 hrs2 hlS2
  have hszY2 : (Try.prog.info? 29).map (·.size) = some Y2.length := by rw [hlS2]; exact hszS
  rw [hY2] at hWC hthC honeC
  have hYv2 : Aside (.agg (stCs (pt rr wd pk) vB).toArray = Value.agg Y2.toArray) := by rw [hY2]; exact rfl
  clear hY2 hlS2
  go_upto_region 10 with (first | (refine wpList_store_row rfl _ _ rfl WB.heap.size rfl Y2 hYv2.out hthC hszY2 honeC hWC ?_) | fail)
  clear hWC hthC honeC hYv2
  generalize WB.heap.size = bt at *
  go_wp2_with (first | (refine wpList_load_row rfl _ rfl bt rfl Y2 hrs2 hundS rfl hszY2 ?_) | fail)
  refine ks2.mono ?_
  rintro e WD hP
  obtain ⟨vD, rfl, hoD, hbD⟩ := hP.okE
  obtain ⟨WE, hWE, hthE, hsE, hbE⟩ := new_stC WD (pu rr wd pk) hptl vD
  have hsT := (hsC.keep hbD).keep hbE
  have hBE := Below.then (Below.then hBC hbD) hbE
  have honeE := st_one (pu rr wd pk) vD (SV.own hoD).one
  have hlE : (stCs (pu rr wd pk) vD).length = 18 := st_len hptl
  obtain ⟨YE, hYE⟩ : ∃ Y, stCs (pu rr wd pk) vD = Y := ⟨_, rfl⟩
  have hYEv : Aside (.agg (stCs (pu rr wd pk) vD).toArray = Value.agg YE.toArray) := by rw [hYE]; exact rfl
  rw [hYE] at hWE hthE honeE hlE
  have hszE : (Try.prog.info? 29).map (·.size) = some YE.length := by rw [hlE]; exact hszS
  clear ks2 hrs2 hszY2 hP hoD hbD hbE hMC hBC hsC hoC hYE hlE
  go_upto_region 11 with (first | (refine wpList_store_row rfl _ _ rfl WD.heap.size rfl YE hYEv.out hthE hszE honeE hWE ?_) | fail)
  clear hWE hthE honeE hYEv hszE
  generalize WD.heap.size = bu at *
  go_wp2_with fail
  refine (riDecP_any wd hwd WE).mono ?_
  rintro e WF ⟨rfl, hbF⟩
  have hq0 := blkl_alloc WF (ptr3 (wPtr wd)).toArray 25
  have hbG := alloc_below WF (.cells (ptr3 (wPtr wd)).toArray 25)
  have hsT2 := (hsT.keep hbF).keep hbG
  have hsU2 := (hsE.keep hbF).keep hbG
  have hBF := Below.then hBE hbF
  have hBG := Below.then hBF hbG
  have hltT : bt < WF.heap.size := Nat.lt_of_lt_of_le hsT.blk.2 hbF.size
  have hltU : bu < WF.heap.size := Nat.lt_of_lt_of_le hsE.blk.2 hbF.size
  have hgm : (if (wPtr wd).r < rr then rr else (wPtr wd).r) = (pq wd rr).r := rfl
  have hqs : (pq wd rr).s = (wPtr wd).s := rfl
  have hqf : (pq wd rr).f = (wPtr wd).f := rfl
  go_upto_region 12 with fail
  replace hq0 : BlkL WF.heap.size (ptr3 (wPtr wd)) (WF.alloc (.cells #[.int .i64 (wPtr wd).s, .int .i64 (wPtr wd).f, .int .i64 (wPtr wd).r] 25)) := hq0
  replace hsT2 : StAt bt (pt rr wd pk) vB (WF.alloc (.cells #[.int .i64 (wPtr wd).s, .int .i64 (wPtr wd).f, .int .i64 (wPtr wd).r] 25)) := hsT2
  replace hsU2 : StAt bu (pu rr wd pk) vD (WF.alloc (.cells #[.int .i64 (wPtr wd).s, .int .i64 (wPtr wd).f, .int .i64 (wPtr wd).r] 25)) := hsU2
  replace hBG : Below w.heap.size w (WF.alloc (.cells #[.int .i64 (wPtr wd).s, .int .i64 (wPtr wd).f, .int .i64 (wPtr wd).r] 25)) := hBG
  generalize WF.alloc (.cells #[.int .i64 (wPtr wd).s, .int .i64 (wPtr wd).f, .int .i64 (wPtr wd).r] 25) = WG at *
  have hlw := hBF.size
  generalize WF.heap.size = bq at *
  have z2 := (hq0.1 2 _ rfl).1
  have zf := (hq0.1 2 _ rfl).2
  have hq1 := hq0.1.set 2 (.int .i64 (pq wd rr).r) (by show 2 < 3; decide)
  have hq : BlkL bq (ptr3 (pq wd rr)) (WG.setCell ⟨bq, 2, none⟩ (.int .i64 (pq wd rr).r)) := ⟨hq1, hq1.lt rfl⟩
  have hsT : StAt bt (pt rr wd pk) vB (WG.setCell ⟨bq, 2, none⟩ (.int .i64 (pq wd rr).r)) := ⟨hsT2.ps, far_blk hsT2.blk (show bq ≠ bt by omega) 2 _⟩
  have hsU : StAt bu (pu rr wd pk) vD (WG.setCell ⟨bq, 2, none⟩ (.int .i64 (pq wd rr).r)) := ⟨hsU2.ps, far_blk hsU2.blk (show bq ≠ bu by omega) 2 _⟩
  have hBQ := hBG.setCell (p := ⟨bq, 2, none⟩) hlw (.int .i64 (pq wd rr).r)
  clear hq0 hq1 hsT2 hsU2 hBG hsE hBE hBF hbF hbG
  go_upto_region 13 with fail
  generalize WG.setCell ⟨bq, 2, none⟩ (.int .i64 (pq wd rr).r) = WQ at *
  clear z2 zf hgm hqs hqf
  have hundA := Try.underlying26
  have hszA : (Try.prog.info? 26).map (·.size) = some ((pt rr wd pk).ps.flatMap ptr3).length := by rw [flat_length ptr3_len, hptl]; kernel_rfl
  have e1 : ∀ w : World, (binOp .eql 25 (.agg (ptr3 (pq wd rr)).toArray) (.agg (ptr3 (pq wd rr)).toArray)).run Try.prog w = .ok (.bool true) w := fun w => by have := run_eql_ptr (pq wd rr) (pq wd rr) w; rw [ptrQ_self] at this; exact this
  have e2 := run_eql_pts hptl
  have ken := fun W : World => riEncP_any (pq wd rr) W
  have hS0 := (Below.refl WQ.heap.size WQ).drew
  have j1 : (pk : Int) < 4 := by omega
  have j2 : ¬ (pk : Int) < 0 := by omega
  refine wp_region_held_drew (S := (fun W => Below WQ.heap.size WQ W)) (by kernel_rfl) (by exact hS0) ?_
  intro hHeld
  generalize WQ.drew = w0 at *
  refine wpAnyH_take (i := 0) (v := ?_) (by simp only [gA, gB, gC]; rfl) (by kernel_rfl) (by kernel_rfl) (by kernel_rfl) (by exact fun _ _ _ h => h) (Or.inl ⟨by rfl, ?_⟩) (by assumption) ?_; rotate_left; (focus (intro w hSw; (try dsimp only at hSw); go_simp; try with_reducible rfl)); (try simp only [Act.put, sA, sB, sC])
  refine wpAnyH_take (i := 1) (v := ?_) (by simp only [gA, gB, gC]; rfl) (by kernel_rfl) (by kernel_rfl) (by kernel_rfl) (by exact fun _ _ _ h => h) (Or.inl ⟨by rfl, ?_⟩) (by assumption) ?_; rotate_left; (focus (intro w hSw; (try dsimp only at hSw); go_simp; try with_reducible rfl)); (try simp only [Act.put, sA, sB, sC])
  refine wpAnyH_take (i := 2) (v := ?_) (by simp only [gA, gB, gC]; rfl) (by kernel_rfl) (by kernel_rfl) (by kernel_rfl) (by exact fun _ _ _ h => h) (Or.inl ⟨by rfl, ?_⟩) (by assumption) ?_; rotate_left; (focus (intro w hSw; (try dsimp only at hSw); go_simp; try with_reducible rfl)); (try simp only [Act.put, sA, sB, sC])
  refine wpAnyH_take (i := 3) (v := ?_) (by simp only [gA, gB, gC]; rfl) (by kernel_rfl) (by kernel_rfl) (by kernel_rfl) (by exact fun _ _ _ h => h) (Or.inl ⟨by rfl, ?_⟩) (by assumption) ?_; rotate_left; (focus (intro w hSw; (try dsimp only at hSw); go_simp; try with_reducible rfl)); (try simp only [Act.put, sA, sB, sC])
  refine wpAnyH_take (i := 4) (v := ?_) (by simp only [gA, gB, gC]; rfl) (by kernel_rfl) (by kernel_rfl) (by kernel_rfl) (by exact fun _ _ _ h => h) (Or.inl ⟨by rfl, ?_⟩) (by assumption) ?_; rotate_left; (focus (intro w hSw; (try dsimp only at hSw); go_simp; try with_reducible rfl)); (try simp only [Act.put, sA, sB, sC])
  refine wpAnyH_take (i := 5) (v := ?_) (by simp only [gA, gB, gC]; rfl) (by kernel_rfl) (by kernel_rfl) (by kernel_rfl) (by exact fun _ _ _ h => h) (Or.inl ⟨by rfl, ?_⟩) (by assumption) ?_; rotate_left; (focus (intro w hSw; (try dsimp only at hSw); go_simp; try with_reducible rfl)); (try simp only [Act.put, sA, sB, sC])
  refine wpAnyH_take (i := 6) (v := ?_) (by simp only [gA, gB, gC]; rfl) (by kernel_rfl) (by kernel_rfl) (by kernel_rfl) (by exact fun _ _ _ h => h) (Or.inl ⟨by rfl, ?_⟩) (by assumption) ?_; rotate_left; (focus (intro w hSw; (try dsimp only at hSw); go_simp; try with_reducible rfl)); (try simp only [Act.put, sA, sB, sC])
  refine wpAnyH_take (i := 7) (v := ?_) (by simp only [gA, gB, gC]; rfl) (by kernel_rfl) (by kernel_rfl) (by kernel_rfl) (by exact fun _ _ _ h => h) (Or.inl ⟨by rfl, ?_⟩) (by assumption) ?_; rotate_left; (focus (intro w hSw; (try dsimp only at hSw); go_simp; try with_reducible rfl)); (try simp only [Act.put, sA, sB, sC])
  refine wpAnyH_take (i := 8) (v := ?_) (by simp only [gA, gB, gC]; rfl) (by kernel_rfl) (by kernel_rfl) (by kernel_rfl) (by exact fun _ _ _ h => h) (Or.inl ⟨by rfl, ?_⟩) (by assumption) ?_; rotate_left; (focus (intro w hSw; (try dsimp only at hSw); go_simp; try with_reducible rfl)); (try simp only [Act.put, sA, sB, sC])
  refine wpAnyH_take (i := 9) (v := ?_) (by simp only [gA, gB, gC]; rfl) (by kernel_rfl) (by kernel_rfl) (by kernel_rfl) (by exact fun _ _ _ h => h) (Or.inl ⟨by rfl, ?_⟩) (by assumption) ?_; rotate_left; (focus (intro w hSw; (try dsimp only at hSw); go_simp; try with_reducible rfl)); (try simp only [Act.put, sA, sB, sC])
  refine wpAnyH_take (i := 10) (v := _) (by simp only [gA, gB, gC]; rfl) (by kernel_rfl) (by kernel_rfl) (by kernel_rfl) (by exact fun _ _ _ h => h) (yieldsIf_load_mid (by rfl) 25 _ rfl bt (4 + pk * 3) rfl (ptr3 (pq wd rr)) _ (fun W q => by have := (hsT.keep q).ptr hp4; rw [show (pt rr wd pk).ps.getD pk ⟨0, 0, 0⟩ = pq wd rr from p_at wd rr hp4] at this; exact this) hundP rfl hszP) (by assumption) ?_; (try simp only [Act.put, sA, sB, sC])
  refine wpAnyH_take (i := 11) (v := _) (by simp only [gA, gB, gC]; rfl) (by kernel_rfl) (by kernel_rfl) (by kernel_rfl) (by exact fun _ _ _ h => h) (yields_row (by rfl) _ rfl bq rfl (ptr3 (pq wd rr)) (fun _ q => (stab_blk _ _ _ _ hq q).range) hundP rfl hszP) (by assumption) ?_; (try simp only [Act.put, sA, sB, sC])
  refine wpAnyH_take (i := 12) (v := ?_) (by simp only [gA, gB, gC]; rfl) (by kernel_rfl) (by kernel_rfl) (by kernel_rfl) (by exact fun _ _ _ h => h) (Or.inl ⟨by rfl, ?_⟩) (by assumption) ?_; rotate_left; (focus (intro w hSw; (try dsimp only at hSw); go_simp; try with_reducible rfl)); (try simp only [Act.put, sA, sB, sC])
  refine wpAnyH_take (i := 13) (v := ?_) (by simp only [gA, gB, gC]; rfl) (by kernel_rfl) (by kernel_rfl) (by kernel_rfl) (by exact fun _ _ _ h => h) (Or.inl ⟨by rfl, ?_⟩) (by assumption) ?_; rotate_left; (focus (intro w hSw; (try dsimp only at hSw); go_simp; try with_reducible rfl)); (try simp only [Act.put, sA, sB, sC])
  refine wpAnyH_take (i := 14) (v := ?_) (by simp only [gA, gB, gC]; rfl) (by kernel_rfl) (by kernel_rfl) (by kernel_rfl) (by exact fun _ _ _ h => h) (Or.inl ⟨by rfl, ?_⟩) (by assumption) ?_; rotate_left; (focus (intro w hSw; (try dsimp only at hSw); go_simp; try with_reducible rfl)); (try simp only [Act.put, sA, sB, sC])
  refine wpAnyH_take (i := 15) (v := ?_) (by simp only [gA, gB, gC]; rfl) (by kernel_rfl) (by kernel_rfl) (by kernel_rfl) (by exact fun _ _ _ h => h) (Or.inl ⟨by rfl, ?_⟩) (by assumption) ?_; rotate_left; (focus (intro w hSw; (try dsimp only at hSw); go_simp; try with_reducible rfl)); (try simp only [Act.put, sA, sB, sC])
  refine wpAnyH_take (i := 16) (v := _) (by simp only [gA, gB, gC]; rfl) (by kernel_rfl) (by kernel_rfl) (by kernel_rfl) (by exact fun _ _ _ h => h) (yields_cellI (by rfl) _ rfl ⟨bu, 3, none⟩ rfl (.int .i64 (ptrW (pq wd rr))) (fun _ q => (hsU.keep q).a) int64_load) (by assumption) ?_; (try simp only [Act.put, sA, sB, sC])
  refine wpAnyH_take (i := 17) (v := _) (by simp only [gA, gB, gC]; rfl) (by kernel_rfl) (by kernel_rfl) (by kernel_rfl) (by exact fun _ _ _ h => h) (yields_row (by rfl) _ rfl bq rfl (ptr3 (pq wd rr)) (fun _ q => (stab_blk _ _ _ _ hq q).range) hundP rfl hszP) (by assumption) ?_; (try simp only [Act.put, sA, sB, sC])
  refine wpAnyH_ready (rs := [18]) (by kernel_rfl) (by simp) ?_
  refine AllReadyH.cons (by simp only [gA, gB, gC]; rfl) (fun K hK => ?_) AllReadyH.nil
  go_simp
  go_at_call 14
  refine (ken w0).mono ?_
  rintro e w1 ⟨rfl, hb⟩
  have hS1 := Below.then hS0 hb
  clear hb
  refine hK.out _ _ (by exact hS1) ?_
  clear hHeld hK
  intro hHeld
  (try simp only [Act.put, sA, sB, sC])
  refine wpAnyH_take (i := 19) (v := ?_) (by simp only [gA, gB, gC]; rfl) (by kernel_rfl) (by kernel_rfl) (by kernel_rfl) (by exact fun _ _ _ h => h) (Or.inl ⟨by rfl, ?_⟩) (by assumption) ?_; rotate_left; (focus (intro w hSw; (try dsimp only at hSw); go_simp; try with_reducible rfl)); (try simp only [Act.put, sA, sB, sC])
  refine wpAnyH_take (i := 20) (v := ?_) (by simp only [gA, gB, gC]; rfl) (by kernel_rfl) (by kernel_rfl) (by kernel_rfl) (by exact fun _ _ _ h => h) (Or.inl ⟨by rfl, ?_⟩) (by assumption) ?_; rotate_left; (focus (intro w hSw; (try dsimp only at hSw); go_simp; try with_reducible rfl)); (try simp only [Act.put, sA, sB, sC])
  refine wpAnyH_take (i := 21) (v := ?_) (by simp only [gA, gB, gC]; rfl) (by kernel_rfl) (by kernel_rfl) (by kernel_rfl) (by exact fun _ _ _ h => h) (Or.inl ⟨by rfl, ?_⟩) (by assumption) ?_; rotate_left; (focus (intro w hSw; (try dsimp only at hSw); go_simp; try with_reducible rfl)); (try simp only [Act.put, sA, sB, sC])
  refine wpAnyH_take (i := 22) (v := ?_) (by simp only [gA, gB, gC]; rfl) (by kernel_rfl) (by kernel_rfl) (by kernel_rfl) (by exact fun _ _ _ h => h) (Or.inl ⟨by rfl, ?_⟩) (by assumption) ?_; rotate_left; (focus (intro w hSw; (try dsimp only at hSw); go_simp; try with_reducible rfl)); (try simp only [Act.put, sA, sB, sC])
  refine wpAnyH_take (i := 23) (v := _) (by simp only [gA, gB, gC]; rfl) (by kernel_rfl) (by kernel_rfl) (by kernel_rfl) (by exact fun _ _ _ h => h) (yieldsIf_load_mid (by rfl) 26 _ rfl bu 4 rfl ((pt rr wd pk).ps.flatMap ptr3) _ (fun W q => (hsU.keep q).pts) hundA rfl hszA) (by assumption) ?_; (try simp only [Act.put, sA, sB, sC])
  refine wpAnyH_take (i := 24) (v := ?_) (by simp only [gA, gB, gC]; rfl) (by kernel_rfl) (by kernel_rfl) (by kernel_rfl) (by exact fun _ _ _ h => h) (Or.inl ⟨by rfl, ?_⟩) (by assumption) ?_; rotate_left; (focus (intro w hSw; (try dsimp only at hSw); go_simp; try with_reducible rfl)); (try simp only [Act.put, sA, sB, sC])
  refine wpAnyH_take (i := 25) (v := _) (by simp only [gA, gB, gC]; rfl) (by kernel_rfl) (by kernel_rfl) (by kernel_rfl) (by exact fun _ _ _ h => h) (yieldsIf_load_mid (by rfl) 26 _ rfl bt 4 rfl ((pt rr wd pk).ps.flatMap ptr3) _ (fun W q => (hsT.keep q).pts) hundA rfl hszA) (by assumption) ?_; (try simp only [Act.put, sA, sB, sC])
  refine wpAnyH_take (i := 26) (v := ?_) (by simp only [gA, gB, gC]; rfl) (by kernel_rfl) (by kernel_rfl) (by kernel_rfl) (by exact fun _ _ _ h => h) (Or.inl ⟨by rfl, ?_⟩) (by assumption) ?_; rotate_left; (focus (intro w hSw; (try dsimp only at hSw); go_simp; try with_reducible rfl)); (try simp only [Act.put, sA, sB, sC])
  refine wpAnyH_take (i := 27) (v := ?_) (by simp only [gA, gB, gC]; rfl) (by kernel_rfl) (by kernel_rfl) (by kernel_rfl) (by exact fun _ _ _ h => h) (Or.inl ⟨by rfl, ?_⟩) (by assumption) ?_; rotate_left; (focus (intro w hSw; (try dsimp only at hSw); go_simp; try with_reducible rfl)); (try simp only [Act.put, sA, sB, sC])
  refine wpAnyH_take (i := 28) (v := ?_) (by simp only [gA, gB, gC]; rfl) (by kernel_rfl) (by kernel_rfl) (by kernel_rfl) (by exact fun _ _ _ h => h) (Or.inl ⟨by rfl, ?_⟩) (by assumption) ?_; rotate_left; (focus (intro w hSw; (try dsimp only at hSw); go_simp; try with_reducible rfl)); (try simp only [Act.put, sA, sB, sC])
  refine wpAnyH_done (by kernel_rfl) ?_ _
  have hBZ := Below.then hBQ hS1
  go_wp2_with fail
  go_ret
  exact ⟨rfl, hBZ⟩
end Go.Proofs.Ytinibccphecdfab
