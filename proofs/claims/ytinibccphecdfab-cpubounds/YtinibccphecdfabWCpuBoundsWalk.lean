/-
  CpuBounds, walked. Written by mk_cpubounds.py.
-/
import Derived.Test.YtinibccphecdfabWCpuBoundsP
import Derived.Test.YtinibccphecdfabWBuild2
import Derived.Deep.CutBlock
namespace Go.Proofs.Ytinibccphecdfab
open Go.RowKit
set_option maxRecDepth 8000
set_option linter.unusedSimpArgs false
set_option linter.unusedVariables false

theorem made_n (n : Nat) (hn : n ≤ 7) : madeCells (Value.int .i64 0).cells n = ((List.replicate n 0).flatMap wcl).toArray := by
  have h : n = 0 ∨ n = 1 ∨ n = 2 ∨ n = 3 ∨ n = 4 ∨ n = 5 ∨ n = 6 ∨ n = 7 := by omega
  rcases h with rfl | rfl | rfl | rfl | rfl | rfl | rfl | rfl
  · rw [show madeCells (Value.int .i64 0).cells 0 = #[] by kernel_rfl]; rfl
  · rw [show madeCells (Value.int .i64 0).cells 1 = #[.int .i64 0] by kernel_rfl]; rfl
  · rw [show madeCells (Value.int .i64 0).cells 2 = #[.int .i64 0, .int .i64 0] by kernel_rfl]; rfl
  · rw [show madeCells (Value.int .i64 0).cells 3 = #[.int .i64 0, .int .i64 0, .int .i64 0] by kernel_rfl]; rfl
  · rw [show madeCells (Value.int .i64 0).cells 4 = #[.int .i64 0, .int .i64 0, .int .i64 0, .int .i64 0] by kernel_rfl]; rfl
  · rw [show madeCells (Value.int .i64 0).cells 5 = #[.int .i64 0, .int .i64 0, .int .i64 0, .int .i64 0, .int .i64 0] by kernel_rfl]; rfl
  · rw [show madeCells (Value.int .i64 0).cells 6 = #[.int .i64 0, .int .i64 0, .int .i64 0, .int .i64 0, .int .i64 0, .int .i64 0] by kernel_rfl]; rfl
  · rw [show madeCells (Value.int .i64 0).cells 7 = #[.int .i64 0, .int .i64 0, .int .i64 0, .int .i64 0, .int .i64 0, .int .i64 0, .int .i64 0] by kernel_rfl]; rfl
theorem makeN (w : World) (z : Int) (n : Nat) (hz : z = n) (hn : n ≤ 7) : (Instr.makeSlice 35 (.int .i64 z) (.int .i64 z)).run Try.prog w = .ok (.slice (some ⟨w.heap.size, 0, none⟩) n n) (w.alloc (.cells ((List.replicate n 0).flatMap wcl).toArray 2)) := by
  subst hz
  obtain ⟨i, h1, h2, h3, h4⟩ := info_of (e := 2) (z := .int .i64 0) (sz := 1) (b := 8) (by kernel_rfl)
  have h := run_make (P := Try.prog) w 35 2 i _ Try.underlying35 h1 h2 .i64 .i64 (n : Int) (n : Int) (by omega) (by omega) (by rw [h4]; omega) (by omega)
  rw [h3, Int.toNat_natCast, Nat.mul_one, made_n n hn] at h
  exact h
section
variable {ops : Array Oper} {rest : List Oper} {o : Oper} {a : Act} {w : World} {Q : Exit → Act → World → Prop}
theorem wpList_makeN (hg : o.guard = none) (x : Operand) (ho : o.op = .makeSlice 35 x x) (z : Int) (n : Nat) (hx : a.eval x = .int .i64 z) (hz : z = n) (hn : n ≤ 7)
    (h : wpList Try.prog ops Q rest (a.put o.dst (.slice (some ⟨w.heap.size, 0, none⟩) n n)) (w.alloc (.cells ((List.replicate n 0).flatMap wcl).toArray 2))) : wpList Try.prog ops Q (o :: rest) a w := by
  refine wpList_value hg ?_ h
  unfold execOp
  simp [ho, hx, makeN w z n hz hn, Result.andThen]
  try rfl
end
theorem ite_len {p : Prop} [Decidable p] {x y : Ot} (hx : x.t.ps.length = 4) (hy : y.t.ps.length = 4) : (if p then x else y).t.ps.length = 4 := by
  by_cases h : p
  · rw [if_pos h]; exact hx
  · rw [if_neg h]; exact hy
theorem opC_len {c : Cp} (h : c.ps.length = 4) (m : List Sg) (i : Ins) : (opC c m i).t.ps.length = 4 := by
  unfold opC
  repeat' (refine ite_len ?_ ?_)
  all_goals first | exact h | rfl | (simp [okC, clT, rtT, raiseC, h])
theorem stepC_len {c : Cp} (h : c.ps.length = 4) (m : List Sg) : (stepC c m).t.ps.length = 4 := by
  unfold stepC
  exact ite_len h (ite_len rfl (opC_len h _ _))
/-- A step's answer, whatever it was: its error, the state, the memory behind it, what else there was. -/
theorem StP.all {bm : Nat} {sl : Value} {is : Bool} {s o y n : Int} {O : Ot} {w w' : World} {e : Ending} (h : StP bm sl n O w e w') (hm : BlkL bm (memCs sl is s o y n) w) : ∃ v', e = .returned (.tuple #[.agg (stCs O.t v').toArray, .int .i64 O.v, .bool O.told, .int .i64 O.e]) ∧ v'.oneCell' = true ∧ (∀ L, L ≤ bm → Below L w w') ∧ (∀ g cs, g ≠ bm → BlkL g cs w → BlkL g cs w') ∧ ∃ is s o y k, (k = n ∨ k = n + 1) ∧ BlkL bm (memCs sl is s o y k) w' := by
  obtain ⟨v, rfl, ho, hw⟩ := h
  refine ⟨v, rfl, (SV.own ho).one, ?_⟩
  have hlt := hm.2
  cases hr : O.wr with
  | none =>
    rw [hr] at hw
    have hb : Below w.heap.size w w' := hw
    exact ⟨fun L hL => Below.mono hb (by omega), fun g cs _ q => stab_blk _ _ _ _ q hb, _, _, _, _, _, .inl rfl, stab_blk _ _ _ _ hm hb⟩
  | some p =>
    rw [hr] at hw
    obtain ⟨h1, h2⟩ := (show BlkL bm (memCs sl true p.1 p.2.1 p.2.2 (n + 1)) w' ∧ Sole bm w w' from hw)
    exact ⟨fun L hL => ⟨h2.os, h2.tape, h2.output, h2.size, fun j hj => h2.block j (by omega) (by omega)⟩, fun g cs hg q => ⟨q.1.same (h2.block g (by have := q.2; omega) (by omega)), Nat.lt_of_lt_of_le q.2 h2.size⟩, _, _, _, _, _, .inr rfl, h1⟩
set_option maxRecDepth 8000 in
set_option maxHeartbeats 8000000 in
theorem cpuBounds1 (off seg op size g s z : Int) (n : Nat) (hg : off % 24 = g) (hs : seg % 4 = s) (hz : size % 8 = z) (hk : op % 4 = 0) (hn : z = n) (w : World) :
    Calls Try.prog 6 #[.int .i64 off, .int .i64 seg, .int .i64 op, .int .i64 size] w fun e w' => e = .returned (.bool true) ∧ Below w.heap.size w w' := by
  have hundS := Try.underlying29
  have hszS : (Try.prog.info? 29).map (·.size) = some 18 := by kernel_rfl
  have hundG := Try.underlying39
  have hszG : (Try.prog.info? 39).map (·.size) = some 7 := by kernel_rfl
  have hszP : (Try.prog.info? 25).map (·.size) = some 3 := by kernel_rfl
  have hmi : ∀ (v : Value) (w : World), (Instr.makeInterface 34 v).run Try.prog w = .ok (.iface 34 v) w := fun _ _ => rfl
  have k1 := fun W : World => w16_any off 24 (by decide) (by decide) W
  have k2 := fun W : World => w16_any seg 4 (by decide) (by decide) W
  have k3 := fun W : World => w16_any size 8 (by decide) (by decide) W
  have k4 := fun W : World => w16_any op 4 (by decide) (by decide) W
  have hg0 : 0 ≤ g := by omega
  have hg1 : g < 24 := by omega
  have hs0 : 0 ≤ s := by omega
  have hs4 : s ≤ 3 := by omega
  have hn7 : n ≤ 7 := by omega
  simp only [hg] at k1
  simp only [hs] at k2
  simp only [hz] at k3
  simp only [hk] at k4
  obtain ⟨f, hf⟩ : ∃ f, g - 4 = f := ⟨_, rfl⟩
  have hf0 : -4 ≤ f := by omega
  have hf1 : f ≤ 19 := by omega
  clear hg hs hz hk
  go_enter Try.func6, Try.ntmps6
  go_wp2_with fail
  refine (ck_any w).mono ?_
  rintro e W1 ⟨rfl, hB1⟩
  go_wp2_with fail
  refine (k1 W1).mono ?_
  rintro e W2 ⟨rfl, hw⟩
  rw [hw]
  clear hw W2
  go_wp2_with fail
  refine (k2 W1).mono ?_
  rintro e W2 ⟨rfl, hw⟩
  rw [hw]
  clear hw W2
  go_wp2_with fail
  refine (k3 W1).mono ?_
  rintro e W2 ⟨rfl, hw⟩
  rw [hw]
  clear hw W2
  go_upto_region 4 with fail
  have hbA := alloc_below W1 (.cells #[.int .i64 1, .int .i64 2, .int .i64 18, .int .i64 20] 3)
  have hB2 := Below.then hB1 hbA
  go_wp2_with fail
  refine (k4 _).mono ?_
  rintro e W2 ⟨rfl, hw⟩
  rw [hw]
  clear hw W2
  go_upto_region 5 with fail
  clear hbA hB1 k1 k2 k3 k4
  generalize W1.alloc (.cells #[.int .i64 1, .int .i64 2, .int .i64 18, .int .i64 20] 3) = U1 at *
  obtain ⟨U2, hU2⟩ : ∃ U2, U1.alloc (.cells ((List.replicate n 0).flatMap wcl).toArray 2) = U2 := ⟨_, rfl⟩
  have hbR := alloc_below U1 (.cells ((List.replicate n 0).flatMap wcl).toArray 2)
  have hrR := row_list (f := wcl) (sz := 1) (fun _ => rfl) U1 (List.replicate n 0) _ rfl 2
  rw [hU2] at hbR hrR
  obtain ⟨xd, hxd⟩ : ∃ xd : PG, PG.mk (bD n) (some ⟨U1.heap.size, 0, none⟩) n = xd := ⟨_, rfl⟩
  have hxdv : Aside (Value.agg #[.bool true, .slice (some ⟨U1.heap.size, 0, none⟩) n n, .int .i64 7, .int .i64 4, .int .i64 4, .int .i64 4, .int .i64 0] = .agg xd.cs.toArray) := by
    rw [← hxd]
    unfold PG.cs PG.v
    rw [show (PG.mk (bD n) (some ⟨U1.heap.size, 0, none⟩) n).g.ws.length = n from bD_len n]
    exact rfl
  have hdg : xd.g = bD n := by rw [← hxd]
  have hdw : xd.wa ≠ none := by rw [← hxd]; intro q; cases q
  have hda2 : xd.At U2 := by rw [← hxd]; exact hrR
  have hszd : (Try.prog.info? 39).map (·.size) = some xd.cs.length := by rw [pg_len]; exact hszG
  obtain ⟨Z, hZ, hthZ, hdz, hbZ⟩ := put_new U2 (sgCs zeroG nilS).toArray 39 xd.cs (by rw [pg_len]; rfl) (by rw [pg_len]; decide)
  have hda := hda2.below hbZ
  have hB := Below.then (Below.then hB2 hbR) hbZ
  go_upto_region 6 with (first | (refine wpList_makeN rfl _ rfl (n : Int) n rfl rfl hn7 ?_; rw [hU2]) | (refine wpList_store_row rfl _ _ rfl U2.heap.size rfl xd.cs hxdv.out hthZ hszd (pg_one _) hZ ?_) | fail)
  clear hZ hthZ hbZ hbR hrR hU2 hxd hxdv hda2 hB2
  generalize U2.heap.size = bd at *
  have hS := (Below.refl Z.heap.size Z).drew
  replace hB := Below.then hB hS
  replace hda := hda.below hS
  refine wp_region_held_drew (S := (fun W => Below Z.heap.size Z W)) (by kernel_rfl) (by exact hS) ?_
  intro hHeld
  generalize Z.drew = w0 at *
  refine wpAnyH_take (i := 0) (v := ?_) (by simp only [gA, gB, gC]; rfl) (by kernel_rfl) (by kernel_rfl) (by kernel_rfl) (by exact fun _ _ _ h => h) (Or.inl ⟨by rfl, ?_⟩) (by assumption) ?_; rotate_left; (focus (intro w hSw; (try dsimp only at hSw); go_simp; try with_reducible rfl)); (try simp only [Act.put, sA, sB, sC])
  refine wpAnyH_take (i := 1) (v := ?_) (by simp only [gA, gB, gC]; rfl) (by kernel_rfl) (by kernel_rfl) (by kernel_rfl) (by exact fun _ _ _ h => h) (Or.inl ⟨by rfl, ?_⟩) (by assumption) ?_; rotate_left; (focus (intro w hSw; (try dsimp only at hSw); go_simp; try with_reducible rfl)); (try simp only [Act.put, sA, sB, sC])
  refine wpAnyH_take (i := 4) (v := _) (by simp only [gA, gB, gC]; rfl) (by kernel_rfl) (by kernel_rfl) (by kernel_rfl) (by exact fun _ _ _ h => h) (yields_row (by rfl) _ rfl bd rfl xd.cs (fun _ q => (stab_blk _ _ _ _ hdz q).range) hundG rfl hszd) (by assumption) ?_; (try simp only [Act.put, sA, sB, sC])
  refine wpAnyH_ready (rs := [2]) (by kernel_rfl) (by simp) ?_
  refine AllReadyH.cons (by simp only [gA, gB, gC]; rfl) (fun K hK => ?_) AllReadyH.nil
  have hb := alloc_below w0 (.cells (ins3 ⟨1, 1, 0⟩).toArray 42)
  have hI := row_list (f := ins3) (sz := 3) (fun _ => rfl) w0 [⟨1, 1, 0⟩] (ins3 ⟨1, 1, 0⟩).toArray (by simp) 42
  refine step_build1 in_okC (by decide) rfl _ rfl (ins3 ⟨1, 1, 0⟩) rfl rfl ?_
  (try simp only [Act.put, sA, sB, sC])
  refine hK.out _ _ (Below.then hS hb) ?_
  clear hHeld hK
  intro hHeld
  replace hB := Below.then hB hb
  replace hS := Below.then hS hb
  replace hda := hda.below hb
  clear hb
  generalize w0.alloc (.cells (ins3 ⟨1, 1, 0⟩).toArray 42) = w1 at *
  generalize w0.heap.size = gI at *
  (try simp only [Act.put, sA, sB, sC])
  refine wpAnyH_ready (rs := [3]) (by kernel_rfl) (by simp) ?_
  refine AllReadyH.cons (by simp only [gA, gB, gC]; rfl) (fun K hK => ?_) AllReadyH.nil
  go_simp
  go_at_call 12
  refine (cone_any [⟨1, 1, 0⟩] [] (some ⟨gI, 0, none⟩) none 1 0 (by show 1 ≤ 100; decide) (by show 0 ≤ 100; decide) (fun _ => rfl) w1 hI (fun j y h => by simp at h)).mono ?_
  rintro e w2 ⟨x, hxg, rfl, hxo, hb⟩
  replace hB := Below.then hB hb
  replace hS := Below.then hS hb
  replace hda := hda.below hb
  clear hb hI
  refine hK.out _ _ (hS) ?_
  clear hHeld hK
  intro hHeld
  (try simp only [Act.put, sA, sB, sC])
  refine wpAnyH_ready (rs := [5]) (by kernel_rfl) (by simp) ?_
  refine AllReadyH.cons (by simp only [gA, gB, gC]; rfl) (fun K hK => ?_) AllReadyH.nil
  have hb := alloc_below w2 (.cells (x.cs ++ xd.cs).toArray 39)
  have hR := row_list pg_len w2 [x, xd] (x.cs ++ xd.cs).toArray (by simp) 39
  refine step_build2 pg_okC (by decide) rfl _ _ rfl x.cs xd.cs rfl rfl rfl rfl ?_
  (try simp only [Act.put, sA, sB, sC])
  refine hK.out _ _ (Below.then hS hb) ?_
  clear hHeld hK
  intro hHeld
  replace hB := Below.then hB hb
  replace hS := Below.then hS hb
  replace hda := hda.below hb
  replace hxo := hxo.below hb
  clear hb
  generalize w2.alloc (.cells (x.cs ++ xd.cs).toArray 39) = w3 at *
  generalize w2.heap.size = gG at *
  (try simp only [Act.put, sA, sB, sC])
  refine wpAnyH_take (i := 6) (v := ?_) (by simp only [gA, gB, gC]; rfl) (by kernel_rfl) (by kernel_rfl) (by kernel_rfl) (by exact fun _ _ _ h => h) (Or.inl ⟨by rfl, ?_⟩) (by assumption) ?_; rotate_left; (focus (intro w hSw; (try dsimp only at hSw); go_simp; try with_reducible rfl)); (try simp only [Act.put, sA, sB, sC])
  refine wpAnyH_ready (rs := [7]) (by kernel_rfl) (by simp) ?_
  refine AllReadyH.cons (by simp only [gA, gB, gC]; rfl) (fun K hK => ?_) AllReadyH.nil
  go_simp
  have hb : Below w3.heap.size w3 (w3.alloc (.cells #[.slice (some ⟨gG, 0, none⟩) 2 2, .bool false, .int .i64 0, .int .i64 0, .int .i64 0, .int .i64 0] 48)) := alloc_below w3 _
  have hm : BlkL w3.heap.size (memCs (.slice (some ⟨gG, 0, none⟩) 2 2) false 0 0 0 0) (w3.alloc (.cells #[.slice (some ⟨gG, 0, none⟩) 2 2, .bool false, .int .i64 0, .int .i64 0, .int .i64 0, .int .i64 0] 48)) := blkl_alloc w3 #[.slice (some ⟨gG, 0, none⟩) 2 2, .bool false, .int .i64 0, .int .i64 0, .int .i64 0, .int .i64 0] 48
  have hxa := own_at hxo
  have hG : RowG w3 (some ⟨gG, 0, none⟩) [x, xd] := ⟨hR, fun z hz => by rcases List.mem_cons.1 hz with rfl | hz; exact hxa; rw [List.mem_singleton.1 hz]; exact hda⟩
  have hbW := hb
  have hlw3 := hB.size
  refine hK.out _ _ (Below.then hS hb) ?_
  clear hHeld hK
  intro hHeld
  replace hB := Below.then hB hb
  have hgB := hB.size
  clear hb hR hda hxa hS
  generalize w3.alloc (.cells #[.slice (some ⟨gG, 0, none⟩) 2 2, .bool false, .int .i64 0, .int .i64 0, .int .i64 0, .int .i64 0] 48) = w4 at *
  (try simp only [Act.put, sA, sB, sC])
  refine wpAnyH_take (i := 8) (v := ?_) (by simp only [gA, gB, gC]; rfl) (by kernel_rfl) (by kernel_rfl) (by kernel_rfl) (by exact fun _ _ _ h => h) (Or.inl ⟨by rfl, ?_⟩) (by assumption) ?_; rotate_left; (focus (intro w hSw; (try dsimp only at hSw); go_simp; try with_reducible rfl)); (try simp only [Act.put, sA, sB, sC])
  refine wpAnyH_done (by kernel_rfl) ?_ _
  have hMG : MG [x, xd] := by
    obtain ⟨a1, c1, hv, -, hn1, -⟩ := hxo.slice wd_okC.len
    have hv' : Value.slice x.wa x.g.ws.length x.wc = .slice a1 x.g.ws.length c1 := hv
    injection hv' with e1 e2 e3
    refine ⟨by simp, fun z hz => ?_, fun z hz => ?_⟩
    · rcases List.mem_cons.1 hz with rfl | hz
      · rw [hxg]; exact bG_ok 1
      · rw [List.mem_singleton.1 hz, hdg]; exact bD_ok (by omega)
    · rcases List.mem_cons.1 hz with rfl | hz
      · rw [e1, e3]; exact hn1
      · rw [List.mem_singleton.1 hz]; exact fun q => absurd q hdw
  have hlw : w.heap.size ≤ w3.heap.size := hlw3
  clear hxo hlw3
  generalize hbm : w3.heap.size = bm at *
  go_wp2_with fail
  refine (cnew_any w4).mono ?_
  rintro e V1 ⟨rfl, hb1⟩
  obtain ⟨V2, hV2, hthV, hsV, hbV⟩ := new_stC V1 newC rfl nilS
  obtain ⟨V3, hV3, hth3, hs3, hk3, -⟩ := hsV.putPtr (k := 1) (by decide) ⟨s, f, 4⟩ (c' := bC 0 s f) rfl rfl
  have hb3 : Below V1.heap.size V1 V3 := hk3 _ _ (Nat.le_refl _) hbV
  have hB3 := Below.then (Below.then hB hb1) hb3
  have hm3 := stab_blk _ _ _ _ (stab_blk _ _ _ _ hm hb1) hb3
  have hbw3 : Below bm w3 V3 := hbW.trans ((Below.then hb1 hb3).mono (Nat.le_of_lt hm.2))
  have hG3 := hG.below (show Below w3.heap.size w3 V3 by rw [hbm]; exact hbw3)
  have hbs0 : bm < V1.heap.size := by
    have h1 := hm.2
    have h2 := hb1.size
    omega
  have hne : V1.heap.size ≠ bm := by omega
  have hone8 : ∀ u ∈ stCs newC nilS, u.oneCell' = true := st_one _ _ rfl
  have hsz8 : (Try.prog.info? 29).map (·.size) = some (stCs newC nilS).length := by kernel_rfl
  obtain ⟨Y, hY⟩ : ∃ Y, stCs newC nilS = Y := ⟨_, rfl⟩
  rw [hY] at hV2 hthV hone8 hsz8
  have hYv : Aside (.agg (stCs newC nilS).toArray = Value.agg Y.toArray) := by rw [hY]; exact rfl
  clear hY hsV hbV hk3 hm hB hbW hb1 hb3
  go_upto_region 8 with (first | (refine wpList_store_row rfl _ _ rfl V1.heap.size rfl Y hYv.out hthV hsz8 hone8 hV2 ?_) | fail)
  clear hV2 hthV hone8 hsz8 hYv
  go_upto_region 9 with (first | (refine wpList_store_part rfl _ _ rfl V1.heap.size 7 rfl (ptr3 ⟨s, f, 4⟩) rfl hth3 hszP (ptr3J_one _) hV3 ?_) | fail)
  clear hV3 hth3
  have hbs : bm < V1.heap.size := hbs0
  have hwbs : w.heap.size ≤ V1.heap.size := by omega
  clear hbs0
  generalize V1.heap.size = bs at *
  have hM3 : MemO bm (some ⟨gG, 0, none⟩) 2 [x, xd] false 0 0 0 0 V3 := ⟨hMG, ⟨by decide, by decide⟩, hm3, hG3⟩
  obtain ⟨O, hO⟩ : ∃ O, stepC (bC 0 s f) [oneG [⟨1, 1, 0⟩] [], bD n] = O := ⟨_, rfl⟩
  have hOe : O.e = bE 1 s f n := by rw [← hO]; exact b_step (by decide) hs0 hs4 f n
  have hOl : O.t.ps.length = 4 := by rw [← hO]; exact stepC_len rfl _
  have hmap : [x, xd].map (·.g) = [oneG [⟨1, 1, 0⟩] [], bD n] := by simp [hxg, hdg]
  have ks := cstepV (bC 0 s f) (bC_ok 0 hf0 hf1) nilS hM3 (SV.nil _) O (by rw [hmap]; exact hO)
  have hrs := hs3.blk.range
  have hszC : (Try.prog.info? 29).map (·.size) = some (stCs (bC 0 s f) nilS).length := hszS
  clear hM3 hG3 hO
  go_wp2_with (first | (refine wpList_load_row rfl _ rfl bs rfl (stCs (bC 0 s f) nilS) hrs hundS rfl hszC ?_) | fail)
  refine ks.mono ?_
  rintro e V5 hP
  obtain ⟨vA, he, hvA, hLb, hkp, i5, s5, o5, y5, k5, hk5, hm5⟩ := hP.all hm3
  subst he
  have hB5 : Below w.heap.size w V5 := hB3.trans (hLb _ hlw)
  have hbw5 : Below bm w3 V5 := hbw3.trans (hLb _ (Nat.le_refl _))
  have hs5 : StAt bs (bC 0 s f) nilS V5 := ⟨rfl, hkp _ _ hne hs3.blk⟩
  obtain ⟨V6, hV6, hth6, -, hb6⟩ := new_stC V5 O.t hOl vA
  have hB6 := Below.then hB5 hb6
  have hbw6 : Below bm w3 V6 := hbw5.trans (hb6.mono (Nat.le_of_lt hm5.2))
  have hm6 := stab_blk _ _ _ _ hm5 hb6
  have hs6 := hs5.keep hb6
  have hone6 := st_one O.t vA hvA
  have hl6 : (stCs O.t vA).length = 18 := st_len hOl
  obtain ⟨X, hX⟩ : ∃ X, stCs O.t vA = X := ⟨_, rfl⟩
  rw [hX] at hV6 hth6 hone6 hl6
  have hszX : (Try.prog.info? 29).map (·.size) = some X.length := by rw [hl6]; exact hszS
  simp only [hX, hOe]
  generalize hE : bE 1 s f n = E at *
  generalize O.v = Ov at *
  generalize O.told = Ot at *
  clear ks hP hLb hkp hm5 hB5 hbw5 hs5 hb6 hX hl6 hvA hrs hm3 hB3 hbw3 hs3 hOe hOl
  go_upto_region 10 with (first | (refine wpList_store_row rfl _ _ rfl V5.heap.size rfl X rfl hth6 hszX hone6 hV6 ?_) | fail)
  clear hV6 hth6 hszX hone6
  have hc : s = 0 ∨ s = 1 ∨ s = 2 ∨ s = 3 := by omega
  rcases hc with rfl | rfl | rfl | rfl
  · have hNv : bN 0 n = 1 := rfl
    go_upto_block 0 with fail
    go_cut [18] from 69 (fun t18 wc => t18 = .int .i64 E ∧ wc = V6)
    case first =>
      skip
      by_cases c0 : f < 0
      · by_cases c1 : 16 ≤ f
        · omega
        · by_cases c2 : 1 ≤ f
          · go_wp2_with fail
            all_goals (go_meet; first | (exfalso; omega) | exact ⟨by rw [← hE]; unfold bE; rw [hNv]; (repeat (first | rw [if_pos (by omega)] | rw [if_neg (by omega)])), rfl⟩)
          · go_wp2_with fail
            all_goals (go_meet; first | (exfalso; omega) | exact ⟨by rw [← hE]; unfold bE; rw [hNv]; (repeat (first | rw [if_pos (by omega)] | rw [if_neg (by omega)])), rfl⟩)
      · by_cases c1 : 16 ≤ f
        · by_cases c2 : 1 ≤ f
          · go_wp2_with fail
            all_goals (go_meet; first | (exfalso; omega) | exact ⟨by rw [← hE]; unfold bE; rw [hNv]; (repeat (first | rw [if_pos (by omega)] | rw [if_neg (by omega)])), rfl⟩)
          · go_wp2_with fail
            all_goals (go_meet; first | (exfalso; omega) | exact ⟨by rw [← hE]; unfold bE; rw [hNv]; (repeat (first | rw [if_pos (by omega)] | rw [if_neg (by omega)])), rfl⟩)
        · by_cases c2 : 1 ≤ f
          · go_wp2_with fail
            all_goals (go_meet; first | (exfalso; omega) | exact ⟨by rw [← hE]; unfold bE; rw [hNv]; (repeat (first | rw [if_pos (by omega)] | rw [if_neg (by omega)])), rfl⟩)
          · go_wp2_with fail
            all_goals (go_meet; first | (exfalso; omega) | exact ⟨by rw [← hE]; unfold bE; rw [hNv]; (repeat (first | rw [if_pos (by omega)] | rw [if_neg (by omega)])), rfl⟩)
    case rest =>
    obtain ⟨rfl, rfl⟩ := hcut
    have kq := fun W : World => w16_any f 9 (by decide) (by decide) W
    obtain ⟨q, hq⟩ : ∃ q, f % 9 = q := ⟨_, rfl⟩
    have hq0 : 0 ≤ q := by omega
    have hq1 : q < 9 := by omega
    simp only [hq] at kq
    go_wp2_with fail
    refine (kq wc).mono ?_
    rintro e W2 ⟨rfl, hw⟩
    rw [hw]
    clear hw W2 kq hq
    have u1 := hs6.off
    have uf := (hs6.blk.1 1 _ rfl).2
    have hs7 : StAt bs (bC (1 + q) 0 f) nilS (wc.setCell ⟨bs, 1, none⟩ (.int .i64 (1 + q))) := by
      have h1 := hs6.blk.1.set 1 (.int .i64 (1 + q)) (by show 1 < 18; decide)
      exact ⟨rfl, h1, h1.lt rfl⟩
    have hB7 : Below w.heap.size w (wc.setCell ⟨bs, 1, none⟩ (.int .i64 (1 + q))) := hB6.setCell (p := ⟨bs, 1, none⟩) hwbs _
    have hbw7 : Below bm w3 (wc.setCell ⟨bs, 1, none⟩ (.int .i64 (1 + q))) := hbw6.setCell (p := ⟨bs, 1, none⟩) (Nat.le_of_lt hbs) _
    have hm7 : BlkL bm (memCs (.slice (some ⟨gG, 0, none⟩) 2 2) i5 s5 o5 y5 k5) (wc.setCell ⟨bs, 1, none⟩ (.int .i64 (1 + q))) := ⟨hm6.1.same (heap_setCell_other _ ⟨bs, 1, none⟩ bm _ (fun e => hne e.symm)), (hm6.1.same (heap_setCell_other _ ⟨bs, 1, none⟩ bm _ (fun e => hne e.symm))).lt rfl⟩
    go_upto_region 23 with fail
    clear u1 uf hs6 hB6 hbw6 hm6
    generalize wc.setCell ⟨bs, 1, none⟩ (.int .i64 (1 + q)) = Y7 at *
    have hG7 := hG.below (show Below w3.heap.size w3 Y7 by rw [hbm]; exact hbw7)
    have hM7 : MemO bm (some ⟨gG, 0, none⟩) 2 [x, xd] i5 s5 o5 y5 k5 Y7 := ⟨hMG, by omega, hm7, hG7⟩
    have ks := cstepV (bC (1 + q) 0 f) (bC_ok (1 + q) hf0 hf1) nilS hM7 (SV.nil _) (flt 35) (by rw [hmap]; exact b_more 1 (by omega) 0 f n)
    have hrs := hs7.blk.range
    have hszC7 : (Try.prog.info? 29).map (·.size) = some (stCs (bC (1 + q) 0 f) nilS).length := hszS
    clear hM7 hG7 hm7 hbw7
    go_wp2_with (first | (refine wpList_load_row rfl _ rfl bs rfl (stCs (bC (1 + q) 0 f) nilS) hrs hundS rfl hszC7 ?_) | fail)
    refine ks.mono ?_
    rintro e Y8 hP
    obtain ⟨vB, rfl, hoB, hbB⟩ := hP.fltE
    have hB8 := Below.then hB7 hbB
    obtain ⟨Y9, hY9, hth9, -, hb9⟩ := new_stC Y8 zeroC rfl vB
    have hB9 := Below.then hB8 hb9
    have hone9 := st_one zeroC vB (SV.own hoB).one
    have hl9 : (stCs zeroC vB).length = 18 := st_len rfl
    obtain ⟨X9, hX9⟩ : ∃ X, stCs zeroC vB = X := ⟨_, rfl⟩
    have hXv : Aside (.agg (stCs zeroC vB).toArray = Value.agg X9.toArray) := by rw [hX9]; exact rfl
    rw [hX9] at hY9 hth9 hone9 hl9
    have hszX : (Try.prog.info? 29).map (·.size) = some X9.length := by rw [hl9]; exact hszS
    clear ks hrs hP hoB hbB hb9 hX9 hl9 hB8 hB7 hs7
    go_wp2_with (first | (refine wpList_store_row rfl _ _ rfl Y8.heap.size rfl X9 hXv.out hth9 hszX hone9 hY9 ?_) | fail)
    go_ret
    exact ⟨rfl, hB9⟩
  · have hNv : bN 1 n = (n : Int) := rfl
    go_upto_block 0 with fail
    go_cut [18] from 69 (fun t18 wc => t18 = .int .i64 E ∧ wc = V6)
    case first =>
      skip
      by_cases c0 : f < 0
      · by_cases c1 : 16 ≤ f
        · omega
        · by_cases c2 : (n : Int) ≤ f
          · go_wp2_with fail
            all_goals (go_meet; first | (exfalso; omega) | exact ⟨by rw [← hE]; unfold bE; rw [hNv]; (repeat (first | rw [if_pos (by omega)] | rw [if_neg (by omega)])), rfl⟩)
          · go_wp2_with fail
            all_goals (go_meet; first | (exfalso; omega) | exact ⟨by rw [← hE]; unfold bE; rw [hNv]; (repeat (first | rw [if_pos (by omega)] | rw [if_neg (by omega)])), rfl⟩)
      · by_cases c1 : 16 ≤ f
        · by_cases c2 : (n : Int) ≤ f
          · go_wp2_with fail
            all_goals (go_meet; first | (exfalso; omega) | exact ⟨by rw [← hE]; unfold bE; rw [hNv]; (repeat (first | rw [if_pos (by omega)] | rw [if_neg (by omega)])), rfl⟩)
          · go_wp2_with fail
            all_goals (go_meet; first | (exfalso; omega) | exact ⟨by rw [← hE]; unfold bE; rw [hNv]; (repeat (first | rw [if_pos (by omega)] | rw [if_neg (by omega)])), rfl⟩)
        · by_cases c2 : (n : Int) ≤ f
          · go_wp2_with fail
            all_goals (go_meet; first | (exfalso; omega) | exact ⟨by rw [← hE]; unfold bE; rw [hNv]; (repeat (first | rw [if_pos (by omega)] | rw [if_neg (by omega)])), rfl⟩)
          · go_wp2_with fail
            all_goals (go_meet; first | (exfalso; omega) | exact ⟨by rw [← hE]; unfold bE; rw [hNv]; (repeat (first | rw [if_pos (by omega)] | rw [if_neg (by omega)])), rfl⟩)
    case rest =>
    obtain ⟨rfl, rfl⟩ := hcut
    have kq := fun W : World => w16_any f 9 (by decide) (by decide) W
    obtain ⟨q, hq⟩ : ∃ q, f % 9 = q := ⟨_, rfl⟩
    have hq0 : 0 ≤ q := by omega
    have hq1 : q < 9 := by omega
    simp only [hq] at kq
    go_wp2_with fail
    refine (kq wc).mono ?_
    rintro e W2 ⟨rfl, hw⟩
    rw [hw]
    clear hw W2 kq hq
    have u1 := hs6.off
    have uf := (hs6.blk.1 1 _ rfl).2
    have hs7 : StAt bs (bC (1 + q) 1 f) nilS (wc.setCell ⟨bs, 1, none⟩ (.int .i64 (1 + q))) := by
      have h1 := hs6.blk.1.set 1 (.int .i64 (1 + q)) (by show 1 < 18; decide)
      exact ⟨rfl, h1, h1.lt rfl⟩
    have hB7 : Below w.heap.size w (wc.setCell ⟨bs, 1, none⟩ (.int .i64 (1 + q))) := hB6.setCell (p := ⟨bs, 1, none⟩) hwbs _
    have hbw7 : Below bm w3 (wc.setCell ⟨bs, 1, none⟩ (.int .i64 (1 + q))) := hbw6.setCell (p := ⟨bs, 1, none⟩) (Nat.le_of_lt hbs) _
    have hm7 : BlkL bm (memCs (.slice (some ⟨gG, 0, none⟩) 2 2) i5 s5 o5 y5 k5) (wc.setCell ⟨bs, 1, none⟩ (.int .i64 (1 + q))) := ⟨hm6.1.same (heap_setCell_other _ ⟨bs, 1, none⟩ bm _ (fun e => hne e.symm)), (hm6.1.same (heap_setCell_other _ ⟨bs, 1, none⟩ bm _ (fun e => hne e.symm))).lt rfl⟩
    go_upto_region 23 with fail
    clear u1 uf hs6 hB6 hbw6 hm6
    generalize wc.setCell ⟨bs, 1, none⟩ (.int .i64 (1 + q)) = Y7 at *
    have hG7 := hG.below (show Below w3.heap.size w3 Y7 by rw [hbm]; exact hbw7)
    have hM7 : MemO bm (some ⟨gG, 0, none⟩) 2 [x, xd] i5 s5 o5 y5 k5 Y7 := ⟨hMG, by omega, hm7, hG7⟩
    have ks := cstepV (bC (1 + q) 1 f) (bC_ok (1 + q) hf0 hf1) nilS hM7 (SV.nil _) (flt 35) (by rw [hmap]; exact b_more 1 (by omega) 1 f n)
    have hrs := hs7.blk.range
    have hszC7 : (Try.prog.info? 29).map (·.size) = some (stCs (bC (1 + q) 1 f) nilS).length := hszS
    clear hM7 hG7 hm7 hbw7
    go_wp2_with (first | (refine wpList_load_row rfl _ rfl bs rfl (stCs (bC (1 + q) 1 f) nilS) hrs hundS rfl hszC7 ?_) | fail)
    refine ks.mono ?_
    rintro e Y8 hP
    obtain ⟨vB, rfl, hoB, hbB⟩ := hP.fltE
    have hB8 := Below.then hB7 hbB
    obtain ⟨Y9, hY9, hth9, -, hb9⟩ := new_stC Y8 zeroC rfl vB
    have hB9 := Below.then hB8 hb9
    have hone9 := st_one zeroC vB (SV.own hoB).one
    have hl9 : (stCs zeroC vB).length = 18 := st_len rfl
    obtain ⟨X9, hX9⟩ : ∃ X, stCs zeroC vB = X := ⟨_, rfl⟩
    have hXv : Aside (.agg (stCs zeroC vB).toArray = Value.agg X9.toArray) := by rw [hX9]; exact rfl
    rw [hX9] at hY9 hth9 hone9 hl9
    have hszX : (Try.prog.info? 29).map (·.size) = some X9.length := by rw [hl9]; exact hszS
    clear ks hrs hP hoB hbB hb9 hX9 hl9 hB8 hB7 hs7
    go_wp2_with (first | (refine wpList_store_row rfl _ _ rfl Y8.heap.size rfl X9 hXv.out hth9 hszX hone9 hY9 ?_) | fail)
    go_ret
    exact ⟨rfl, hB9⟩
  · have hNv : bN 2 n = -1 := rfl
    go_upto_block 0 with fail
    go_cut [18] from 69 (fun t18 wc => t18 = .int .i64 E ∧ wc = V6)
    case first =>
      skip
      by_cases c0 : f < 0
      · by_cases c1 : 16 ≤ f
        · omega
        · by_cases c2 : -1 ≤ f
          · go_wp2_with fail
            all_goals (go_meet; first | (exfalso; omega) | exact ⟨by rw [← hE]; unfold bE; rw [hNv]; (repeat (first | rw [if_pos (by omega)] | rw [if_neg (by omega)])), rfl⟩)
          · go_wp2_with fail
            all_goals (go_meet; first | (exfalso; omega) | exact ⟨by rw [← hE]; unfold bE; rw [hNv]; (repeat (first | rw [if_pos (by omega)] | rw [if_neg (by omega)])), rfl⟩)
      · by_cases c1 : 16 ≤ f
        · by_cases c2 : -1 ≤ f
          · go_wp2_with fail
            all_goals (go_meet; first | (exfalso; omega) | exact ⟨by rw [← hE]; unfold bE; rw [hNv]; (repeat (first | rw [if_pos (by omega)] | rw [if_neg (by omega)])), rfl⟩)
          · go_wp2_with fail
            all_goals (go_meet; first | (exfalso; omega) | exact ⟨by rw [← hE]; unfold bE; rw [hNv]; (repeat (first | rw [if_pos (by omega)] | rw [if_neg (by omega)])), rfl⟩)
        · by_cases c2 : -1 ≤ f
          · go_wp2_with fail
            all_goals (go_meet; first | (exfalso; omega) | exact ⟨by rw [← hE]; unfold bE; rw [hNv]; (repeat (first | rw [if_pos (by omega)] | rw [if_neg (by omega)])), rfl⟩)
          · go_wp2_with fail
            all_goals (go_meet; first | (exfalso; omega) | exact ⟨by rw [← hE]; unfold bE; rw [hNv]; (repeat (first | rw [if_pos (by omega)] | rw [if_neg (by omega)])), rfl⟩)
    case rest =>
    obtain ⟨rfl, rfl⟩ := hcut
    have kq := fun W : World => w16_any f 9 (by decide) (by decide) W
    obtain ⟨q, hq⟩ : ∃ q, f % 9 = q := ⟨_, rfl⟩
    have hq0 : 0 ≤ q := by omega
    have hq1 : q < 9 := by omega
    simp only [hq] at kq
    go_wp2_with fail
    refine (kq wc).mono ?_
    rintro e W2 ⟨rfl, hw⟩
    rw [hw]
    clear hw W2 kq hq
    have u1 := hs6.off
    have uf := (hs6.blk.1 1 _ rfl).2
    have hs7 : StAt bs (bC (1 + q) 2 f) nilS (wc.setCell ⟨bs, 1, none⟩ (.int .i64 (1 + q))) := by
      have h1 := hs6.blk.1.set 1 (.int .i64 (1 + q)) (by show 1 < 18; decide)
      exact ⟨rfl, h1, h1.lt rfl⟩
    have hB7 : Below w.heap.size w (wc.setCell ⟨bs, 1, none⟩ (.int .i64 (1 + q))) := hB6.setCell (p := ⟨bs, 1, none⟩) hwbs _
    have hbw7 : Below bm w3 (wc.setCell ⟨bs, 1, none⟩ (.int .i64 (1 + q))) := hbw6.setCell (p := ⟨bs, 1, none⟩) (Nat.le_of_lt hbs) _
    have hm7 : BlkL bm (memCs (.slice (some ⟨gG, 0, none⟩) 2 2) i5 s5 o5 y5 k5) (wc.setCell ⟨bs, 1, none⟩ (.int .i64 (1 + q))) := ⟨hm6.1.same (heap_setCell_other _ ⟨bs, 1, none⟩ bm _ (fun e => hne e.symm)), (hm6.1.same (heap_setCell_other _ ⟨bs, 1, none⟩ bm _ (fun e => hne e.symm))).lt rfl⟩
    go_upto_region 23 with fail
    clear u1 uf hs6 hB6 hbw6 hm6
    generalize wc.setCell ⟨bs, 1, none⟩ (.int .i64 (1 + q)) = Y7 at *
    have hG7 := hG.below (show Below w3.heap.size w3 Y7 by rw [hbm]; exact hbw7)
    have hM7 : MemO bm (some ⟨gG, 0, none⟩) 2 [x, xd] i5 s5 o5 y5 k5 Y7 := ⟨hMG, by omega, hm7, hG7⟩
    have ks := cstepV (bC (1 + q) 2 f) (bC_ok (1 + q) hf0 hf1) nilS hM7 (SV.nil _) (flt 35) (by rw [hmap]; exact b_more 1 (by omega) 2 f n)
    have hrs := hs7.blk.range
    have hszC7 : (Try.prog.info? 29).map (·.size) = some (stCs (bC (1 + q) 2 f) nilS).length := hszS
    clear hM7 hG7 hm7 hbw7
    go_wp2_with (first | (refine wpList_load_row rfl _ rfl bs rfl (stCs (bC (1 + q) 2 f) nilS) hrs hundS rfl hszC7 ?_) | fail)
    refine ks.mono ?_
    rintro e Y8 hP
    obtain ⟨vB, rfl, hoB, hbB⟩ := hP.fltE
    have hB8 := Below.then hB7 hbB
    obtain ⟨Y9, hY9, hth9, -, hb9⟩ := new_stC Y8 zeroC rfl vB
    have hB9 := Below.then hB8 hb9
    have hone9 := st_one zeroC vB (SV.own hoB).one
    have hl9 : (stCs zeroC vB).length = 18 := st_len rfl
    obtain ⟨X9, hX9⟩ : ∃ X, stCs zeroC vB = X := ⟨_, rfl⟩
    have hXv : Aside (.agg (stCs zeroC vB).toArray = Value.agg X9.toArray) := by rw [hX9]; exact rfl
    rw [hX9] at hY9 hth9 hone9 hl9
    have hszX : (Try.prog.info? 29).map (·.size) = some X9.length := by rw [hl9]; exact hszS
    clear ks hrs hP hoB hbB hb9 hX9 hl9 hB8 hB7 hs7
    go_wp2_with (first | (refine wpList_store_row rfl _ _ rfl Y8.heap.size rfl X9 hXv.out hth9 hszX hone9 hY9 ?_) | fail)
    go_ret
    exact ⟨rfl, hB9⟩
  · have hNv : bN 3 n = -1 := rfl
    go_upto_block 0 with fail
    go_cut [18] from 69 (fun t18 wc => t18 = .int .i64 E ∧ wc = V6)
    case first =>
      skip
      by_cases c0 : f < 0
      · by_cases c1 : 16 ≤ f
        · omega
        · by_cases c2 : -1 ≤ f
          · go_wp2_with fail
            all_goals (go_meet; first | (exfalso; omega) | exact ⟨by rw [← hE]; unfold bE; rw [hNv]; (repeat (first | rw [if_pos (by omega)] | rw [if_neg (by omega)])), rfl⟩)
          · go_wp2_with fail
            all_goals (go_meet; first | (exfalso; omega) | exact ⟨by rw [← hE]; unfold bE; rw [hNv]; (repeat (first | rw [if_pos (by omega)] | rw [if_neg (by omega)])), rfl⟩)
      · by_cases c1 : 16 ≤ f
        · by_cases c2 : -1 ≤ f
          · go_wp2_with fail
            all_goals (go_meet; first | (exfalso; omega) | exact ⟨by rw [← hE]; unfold bE; rw [hNv]; (repeat (first | rw [if_pos (by omega)] | rw [if_neg (by omega)])), rfl⟩)
          · go_wp2_with fail
            all_goals (go_meet; first | (exfalso; omega) | exact ⟨by rw [← hE]; unfold bE; rw [hNv]; (repeat (first | rw [if_pos (by omega)] | rw [if_neg (by omega)])), rfl⟩)
        · by_cases c2 : -1 ≤ f
          · go_wp2_with fail
            all_goals (go_meet; first | (exfalso; omega) | exact ⟨by rw [← hE]; unfold bE; rw [hNv]; (repeat (first | rw [if_pos (by omega)] | rw [if_neg (by omega)])), rfl⟩)
          · go_wp2_with fail
            all_goals (go_meet; first | (exfalso; omega) | exact ⟨by rw [← hE]; unfold bE; rw [hNv]; (repeat (first | rw [if_pos (by omega)] | rw [if_neg (by omega)])), rfl⟩)
    case rest =>
    obtain ⟨rfl, rfl⟩ := hcut
    have kq := fun W : World => w16_any f 9 (by decide) (by decide) W
    obtain ⟨q, hq⟩ : ∃ q, f % 9 = q := ⟨_, rfl⟩
    have hq0 : 0 ≤ q := by omega
    have hq1 : q < 9 := by omega
    simp only [hq] at kq
    go_wp2_with fail
    refine (kq wc).mono ?_
    rintro e W2 ⟨rfl, hw⟩
    rw [hw]
    clear hw W2 kq hq
    have u1 := hs6.off
    have uf := (hs6.blk.1 1 _ rfl).2
    have hs7 : StAt bs (bC (1 + q) 3 f) nilS (wc.setCell ⟨bs, 1, none⟩ (.int .i64 (1 + q))) := by
      have h1 := hs6.blk.1.set 1 (.int .i64 (1 + q)) (by show 1 < 18; decide)
      exact ⟨rfl, h1, h1.lt rfl⟩
    have hB7 : Below w.heap.size w (wc.setCell ⟨bs, 1, none⟩ (.int .i64 (1 + q))) := hB6.setCell (p := ⟨bs, 1, none⟩) hwbs _
    have hbw7 : Below bm w3 (wc.setCell ⟨bs, 1, none⟩ (.int .i64 (1 + q))) := hbw6.setCell (p := ⟨bs, 1, none⟩) (Nat.le_of_lt hbs) _
    have hm7 : BlkL bm (memCs (.slice (some ⟨gG, 0, none⟩) 2 2) i5 s5 o5 y5 k5) (wc.setCell ⟨bs, 1, none⟩ (.int .i64 (1 + q))) := ⟨hm6.1.same (heap_setCell_other _ ⟨bs, 1, none⟩ bm _ (fun e => hne e.symm)), (hm6.1.same (heap_setCell_other _ ⟨bs, 1, none⟩ bm _ (fun e => hne e.symm))).lt rfl⟩
    go_upto_region 23 with fail
    clear u1 uf hs6 hB6 hbw6 hm6
    generalize wc.setCell ⟨bs, 1, none⟩ (.int .i64 (1 + q)) = Y7 at *
    have hG7 := hG.below (show Below w3.heap.size w3 Y7 by rw [hbm]; exact hbw7)
    have hM7 : MemO bm (some ⟨gG, 0, none⟩) 2 [x, xd] i5 s5 o5 y5 k5 Y7 := ⟨hMG, by omega, hm7, hG7⟩
    have ks := cstepV (bC (1 + q) 3 f) (bC_ok (1 + q) hf0 hf1) nilS hM7 (SV.nil _) (flt 35) (by rw [hmap]; exact b_more 1 (by omega) 3 f n)
    have hrs := hs7.blk.range
    have hszC7 : (Try.prog.info? 29).map (·.size) = some (stCs (bC (1 + q) 3 f) nilS).length := hszS
    clear hM7 hG7 hm7 hbw7
    go_wp2_with (first | (refine wpList_load_row rfl _ rfl bs rfl (stCs (bC (1 + q) 3 f) nilS) hrs hundS rfl hszC7 ?_) | fail)
    refine ks.mono ?_
    rintro e Y8 hP
    obtain ⟨vB, rfl, hoB, hbB⟩ := hP.fltE
    have hB8 := Below.then hB7 hbB
    obtain ⟨Y9, hY9, hth9, -, hb9⟩ := new_stC Y8 zeroC rfl vB
    have hB9 := Below.then hB8 hb9
    have hone9 := st_one zeroC vB (SV.own hoB).one
    have hl9 : (stCs zeroC vB).length = 18 := st_len rfl
    obtain ⟨X9, hX9⟩ : ∃ X, stCs zeroC vB = X := ⟨_, rfl⟩
    have hXv : Aside (.agg (stCs zeroC vB).toArray = Value.agg X9.toArray) := by rw [hX9]; exact rfl
    rw [hX9] at hY9 hth9 hone9 hl9
    have hszX : (Try.prog.info? 29).map (·.size) = some X9.length := by rw [hl9]; exact hszS
    clear ks hrs hP hoB hbB hb9 hX9 hl9 hB8 hB7 hs7
    go_wp2_with (first | (refine wpList_store_row rfl _ _ rfl Y8.heap.size rfl X9 hXv.out hth9 hszX hone9 hY9 ?_) | fail)
    go_ret
    exact ⟨rfl, hB9⟩
set_option maxRecDepth 8000 in
set_option maxHeartbeats 8000000 in
theorem cpuBounds2 (off seg op size g s z : Int) (n : Nat) (hg : off % 24 = g) (hs : seg % 4 = s) (hz : size % 8 = z) (hk : op % 4 = 1) (hn : z = n) (w : World) :
    Calls Try.prog 6 #[.int .i64 off, .int .i64 seg, .int .i64 op, .int .i64 size] w fun e w' => e = .returned (.bool true) ∧ Below w.heap.size w w' := by
  have hundS := Try.underlying29
  have hszS : (Try.prog.info? 29).map (·.size) = some 18 := by kernel_rfl
  have hundG := Try.underlying39
  have hszG : (Try.prog.info? 39).map (·.size) = some 7 := by kernel_rfl
  have hszP : (Try.prog.info? 25).map (·.size) = some 3 := by kernel_rfl
  have hmi : ∀ (v : Value) (w : World), (Instr.makeInterface 34 v).run Try.prog w = .ok (.iface 34 v) w := fun _ _ => rfl
  have k1 := fun W : World => w16_any off 24 (by decide) (by decide) W
  have k2 := fun W : World => w16_any seg 4 (by decide) (by decide) W
  have k3 := fun W : World => w16_any size 8 (by decide) (by decide) W
  have k4 := fun W : World => w16_any op 4 (by decide) (by decide) W
  have hg0 : 0 ≤ g := by omega
  have hg1 : g < 24 := by omega
  have hs0 : 0 ≤ s := by omega
  have hs4 : s ≤ 3 := by omega
  have hn7 : n ≤ 7 := by omega
  simp only [hg] at k1
  simp only [hs] at k2
  simp only [hz] at k3
  simp only [hk] at k4
  obtain ⟨f, hf⟩ : ∃ f, g - 4 = f := ⟨_, rfl⟩
  have hf0 : -4 ≤ f := by omega
  have hf1 : f ≤ 19 := by omega
  clear hg hs hz hk
  go_enter Try.func6, Try.ntmps6
  go_wp2_with fail
  refine (ck_any w).mono ?_
  rintro e W1 ⟨rfl, hB1⟩
  go_wp2_with fail
  refine (k1 W1).mono ?_
  rintro e W2 ⟨rfl, hw⟩
  rw [hw]
  clear hw W2
  go_wp2_with fail
  refine (k2 W1).mono ?_
  rintro e W2 ⟨rfl, hw⟩
  rw [hw]
  clear hw W2
  go_wp2_with fail
  refine (k3 W1).mono ?_
  rintro e W2 ⟨rfl, hw⟩
  rw [hw]
  clear hw W2
  go_upto_region 4 with fail
  have hbA := alloc_below W1 (.cells #[.int .i64 1, .int .i64 2, .int .i64 18, .int .i64 20] 3)
  have hB2 := Below.then hB1 hbA
  go_wp2_with fail
  refine (k4 _).mono ?_
  rintro e W2 ⟨rfl, hw⟩
  rw [hw]
  clear hw W2
  go_upto_region 5 with fail
  clear hbA hB1 k1 k2 k3 k4
  generalize W1.alloc (.cells #[.int .i64 1, .int .i64 2, .int .i64 18, .int .i64 20] 3) = U1 at *
  obtain ⟨U2, hU2⟩ : ∃ U2, U1.alloc (.cells ((List.replicate n 0).flatMap wcl).toArray 2) = U2 := ⟨_, rfl⟩
  have hbR := alloc_below U1 (.cells ((List.replicate n 0).flatMap wcl).toArray 2)
  have hrR := row_list (f := wcl) (sz := 1) (fun _ => rfl) U1 (List.replicate n 0) _ rfl 2
  rw [hU2] at hbR hrR
  obtain ⟨xd, hxd⟩ : ∃ xd : PG, PG.mk (bD n) (some ⟨U1.heap.size, 0, none⟩) n = xd := ⟨_, rfl⟩
  have hxdv : Aside (Value.agg #[.bool true, .slice (some ⟨U1.heap.size, 0, none⟩) n n, .int .i64 7, .int .i64 4, .int .i64 4, .int .i64 4, .int .i64 0] = .agg xd.cs.toArray) := by
    rw [← hxd]
    unfold PG.cs PG.v
    rw [show (PG.mk (bD n) (some ⟨U1.heap.size, 0, none⟩) n).g.ws.length = n from bD_len n]
    exact rfl
  have hdg : xd.g = bD n := by rw [← hxd]
  have hdw : xd.wa ≠ none := by rw [← hxd]; intro q; cases q
  have hda2 : xd.At U2 := by rw [← hxd]; exact hrR
  have hszd : (Try.prog.info? 39).map (·.size) = some xd.cs.length := by rw [pg_len]; exact hszG
  obtain ⟨Z, hZ, hthZ, hdz, hbZ⟩ := put_new U2 (sgCs zeroG nilS).toArray 39 xd.cs (by rw [pg_len]; rfl) (by rw [pg_len]; decide)
  have hda := hda2.below hbZ
  have hB := Below.then (Below.then hB2 hbR) hbZ
  go_upto_region 6 with (first | (refine wpList_makeN rfl _ rfl (n : Int) n rfl rfl hn7 ?_; rw [hU2]) | (refine wpList_store_row rfl _ _ rfl U2.heap.size rfl xd.cs hxdv.out hthZ hszd (pg_one _) hZ ?_) | fail)
  clear hZ hthZ hbZ hbR hrR hU2 hxd hxdv hda2 hB2
  generalize U2.heap.size = bd at *
  have hS := (Below.refl Z.heap.size Z).drew
  replace hB := Below.then hB hS
  replace hda := hda.below hS
  refine wp_region_held_drew (S := (fun W => Below Z.heap.size Z W)) (by kernel_rfl) (by exact hS) ?_
  intro hHeld
  generalize Z.drew = w0 at *
  refine wpAnyH_take (i := 0) (v := ?_) (by simp only [gA, gB, gC]; rfl) (by kernel_rfl) (by kernel_rfl) (by kernel_rfl) (by exact fun _ _ _ h => h) (Or.inl ⟨by rfl, ?_⟩) (by assumption) ?_; rotate_left; (focus (intro w hSw; (try dsimp only at hSw); go_simp; try with_reducible rfl)); (try simp only [Act.put, sA, sB, sC])
  refine wpAnyH_take (i := 1) (v := ?_) (by simp only [gA, gB, gC]; rfl) (by kernel_rfl) (by kernel_rfl) (by kernel_rfl) (by exact fun _ _ _ h => h) (Or.inl ⟨by rfl, ?_⟩) (by assumption) ?_; rotate_left; (focus (intro w hSw; (try dsimp only at hSw); go_simp; try with_reducible rfl)); (try simp only [Act.put, sA, sB, sC])
  refine wpAnyH_take (i := 4) (v := _) (by simp only [gA, gB, gC]; rfl) (by kernel_rfl) (by kernel_rfl) (by kernel_rfl) (by exact fun _ _ _ h => h) (yields_row (by rfl) _ rfl bd rfl xd.cs (fun _ q => (stab_blk _ _ _ _ hdz q).range) hundG rfl hszd) (by assumption) ?_; (try simp only [Act.put, sA, sB, sC])
  refine wpAnyH_ready (rs := [2]) (by kernel_rfl) (by simp) ?_
  refine AllReadyH.cons (by simp only [gA, gB, gC]; rfl) (fun K hK => ?_) AllReadyH.nil
  have hb := alloc_below w0 (.cells (ins3 ⟨2, 1, 0⟩).toArray 42)
  have hI := row_list (f := ins3) (sz := 3) (fun _ => rfl) w0 [⟨2, 1, 0⟩] (ins3 ⟨2, 1, 0⟩).toArray (by simp) 42
  refine step_build1 in_okC (by decide) rfl _ rfl (ins3 ⟨2, 1, 0⟩) rfl rfl ?_
  (try simp only [Act.put, sA, sB, sC])
  refine hK.out _ _ (Below.then hS hb) ?_
  clear hHeld hK
  intro hHeld
  replace hB := Below.then hB hb
  replace hS := Below.then hS hb
  replace hda := hda.below hb
  clear hb
  generalize w0.alloc (.cells (ins3 ⟨2, 1, 0⟩).toArray 42) = w1 at *
  generalize w0.heap.size = gI at *
  (try simp only [Act.put, sA, sB, sC])
  refine wpAnyH_ready (rs := [3]) (by kernel_rfl) (by simp) ?_
  refine AllReadyH.cons (by simp only [gA, gB, gC]; rfl) (fun K hK => ?_) AllReadyH.nil
  go_simp
  go_at_call 12
  refine (cone_any [⟨2, 1, 0⟩] [] (some ⟨gI, 0, none⟩) none 1 0 (by show 1 ≤ 100; decide) (by show 0 ≤ 100; decide) (fun _ => rfl) w1 hI (fun j y h => by simp at h)).mono ?_
  rintro e w2 ⟨x, hxg, rfl, hxo, hb⟩
  replace hB := Below.then hB hb
  replace hS := Below.then hS hb
  replace hda := hda.below hb
  clear hb hI
  refine hK.out _ _ (hS) ?_
  clear hHeld hK
  intro hHeld
  (try simp only [Act.put, sA, sB, sC])
  refine wpAnyH_ready (rs := [5]) (by kernel_rfl) (by simp) ?_
  refine AllReadyH.cons (by simp only [gA, gB, gC]; rfl) (fun K hK => ?_) AllReadyH.nil
  have hb := alloc_below w2 (.cells (x.cs ++ xd.cs).toArray 39)
  have hR := row_list pg_len w2 [x, xd] (x.cs ++ xd.cs).toArray (by simp) 39
  refine step_build2 pg_okC (by decide) rfl _ _ rfl x.cs xd.cs rfl rfl rfl rfl ?_
  (try simp only [Act.put, sA, sB, sC])
  refine hK.out _ _ (Below.then hS hb) ?_
  clear hHeld hK
  intro hHeld
  replace hB := Below.then hB hb
  replace hS := Below.then hS hb
  replace hda := hda.below hb
  replace hxo := hxo.below hb
  clear hb
  generalize w2.alloc (.cells (x.cs ++ xd.cs).toArray 39) = w3 at *
  generalize w2.heap.size = gG at *
  (try simp only [Act.put, sA, sB, sC])
  refine wpAnyH_take (i := 6) (v := ?_) (by simp only [gA, gB, gC]; rfl) (by kernel_rfl) (by kernel_rfl) (by kernel_rfl) (by exact fun _ _ _ h => h) (Or.inl ⟨by rfl, ?_⟩) (by assumption) ?_; rotate_left; (focus (intro w hSw; (try dsimp only at hSw); go_simp; try with_reducible rfl)); (try simp only [Act.put, sA, sB, sC])
  refine wpAnyH_ready (rs := [7]) (by kernel_rfl) (by simp) ?_
  refine AllReadyH.cons (by simp only [gA, gB, gC]; rfl) (fun K hK => ?_) AllReadyH.nil
  go_simp
  have hb : Below w3.heap.size w3 (w3.alloc (.cells #[.slice (some ⟨gG, 0, none⟩) 2 2, .bool false, .int .i64 0, .int .i64 0, .int .i64 0, .int .i64 0] 48)) := alloc_below w3 _
  have hm : BlkL w3.heap.size (memCs (.slice (some ⟨gG, 0, none⟩) 2 2) false 0 0 0 0) (w3.alloc (.cells #[.slice (some ⟨gG, 0, none⟩) 2 2, .bool false, .int .i64 0, .int .i64 0, .int .i64 0, .int .i64 0] 48)) := blkl_alloc w3 #[.slice (some ⟨gG, 0, none⟩) 2 2, .bool false, .int .i64 0, .int .i64 0, .int .i64 0, .int .i64 0] 48
  have hxa := own_at hxo
  have hG : RowG w3 (some ⟨gG, 0, none⟩) [x, xd] := ⟨hR, fun z hz => by rcases List.mem_cons.1 hz with rfl | hz; exact hxa; rw [List.mem_singleton.1 hz]; exact hda⟩
  have hbW := hb
  have hlw3 := hB.size
  refine hK.out _ _ (Below.then hS hb) ?_
  clear hHeld hK
  intro hHeld
  replace hB := Below.then hB hb
  have hgB := hB.size
  clear hb hR hda hxa hS
  generalize w3.alloc (.cells #[.slice (some ⟨gG, 0, none⟩) 2 2, .bool false, .int .i64 0, .int .i64 0, .int .i64 0, .int .i64 0] 48) = w4 at *
  (try simp only [Act.put, sA, sB, sC])
  refine wpAnyH_take (i := 8) (v := ?_) (by simp only [gA, gB, gC]; rfl) (by kernel_rfl) (by kernel_rfl) (by kernel_rfl) (by exact fun _ _ _ h => h) (Or.inl ⟨by rfl, ?_⟩) (by assumption) ?_; rotate_left; (focus (intro w hSw; (try dsimp only at hSw); go_simp; try with_reducible rfl)); (try simp only [Act.put, sA, sB, sC])
  refine wpAnyH_done (by kernel_rfl) ?_ _
  have hMG : MG [x, xd] := by
    obtain ⟨a1, c1, hv, -, hn1, -⟩ := hxo.slice wd_okC.len
    have hv' : Value.slice x.wa x.g.ws.length x.wc = .slice a1 x.g.ws.length c1 := hv
    injection hv' with e1 e2 e3
    refine ⟨by simp, fun z hz => ?_, fun z hz => ?_⟩
    · rcases List.mem_cons.1 hz with rfl | hz
      · rw [hxg]; exact bG_ok 2
      · rw [List.mem_singleton.1 hz, hdg]; exact bD_ok (by omega)
    · rcases List.mem_cons.1 hz with rfl | hz
      · rw [e1, e3]; exact hn1
      · rw [List.mem_singleton.1 hz]; exact fun q => absurd q hdw
  have hlw : w.heap.size ≤ w3.heap.size := hlw3
  clear hxo hlw3
  generalize hbm : w3.heap.size = bm at *
  go_wp2_with fail
  refine (cnew_any w4).mono ?_
  rintro e V1 ⟨rfl, hb1⟩
  obtain ⟨V2, hV2, hthV, hsV, hbV⟩ := new_stC V1 newC rfl nilS
  obtain ⟨V3, hV3, hth3, hs3, hk3, -⟩ := hsV.putPtr (k := 1) (by decide) ⟨s, f, 4⟩ (c' := bC 0 s f) rfl rfl
  have hb3 : Below V1.heap.size V1 V3 := hk3 _ _ (Nat.le_refl _) hbV
  have hB3 := Below.then (Below.then hB hb1) hb3
  have hm3 := stab_blk _ _ _ _ (stab_blk _ _ _ _ hm hb1) hb3
  have hbw3 : Below bm w3 V3 := hbW.trans ((Below.then hb1 hb3).mono (Nat.le_of_lt hm.2))
  have hG3 := hG.below (show Below w3.heap.size w3 V3 by rw [hbm]; exact hbw3)
  have hbs0 : bm < V1.heap.size := by
    have h1 := hm.2
    have h2 := hb1.size
    omega
  have hne : V1.heap.size ≠ bm := by omega
  have hone8 : ∀ u ∈ stCs newC nilS, u.oneCell' = true := st_one _ _ rfl
  have hsz8 : (Try.prog.info? 29).map (·.size) = some (stCs newC nilS).length := by kernel_rfl
  obtain ⟨Y, hY⟩ : ∃ Y, stCs newC nilS = Y := ⟨_, rfl⟩
  rw [hY] at hV2 hthV hone8 hsz8
  have hYv : Aside (.agg (stCs newC nilS).toArray = Value.agg Y.toArray) := by rw [hY]; exact rfl
  clear hY hsV hbV hk3 hm hB hbW hb1 hb3
  go_upto_region 8 with (first | (refine wpList_store_row rfl _ _ rfl V1.heap.size rfl Y hYv.out hthV hsz8 hone8 hV2 ?_) | fail)
  clear hV2 hthV hone8 hsz8 hYv
  go_upto_region 9 with (first | (refine wpList_store_part rfl _ _ rfl V1.heap.size 7 rfl (ptr3 ⟨s, f, 4⟩) rfl hth3 hszP (ptr3J_one _) hV3 ?_) | fail)
  clear hV3 hth3
  have hbs : bm < V1.heap.size := hbs0
  have hwbs : w.heap.size ≤ V1.heap.size := by omega
  clear hbs0
  generalize V1.heap.size = bs at *
  have hM3 : MemO bm (some ⟨gG, 0, none⟩) 2 [x, xd] false 0 0 0 0 V3 := ⟨hMG, ⟨by decide, by decide⟩, hm3, hG3⟩
  obtain ⟨O, hO⟩ : ∃ O, stepC (bC 0 s f) [oneG [⟨2, 1, 0⟩] [], bD n] = O := ⟨_, rfl⟩
  have hOe : O.e = bE 2 s f n := by rw [← hO]; exact b_step (by decide) hs0 hs4 f n
  have hOl : O.t.ps.length = 4 := by rw [← hO]; exact stepC_len rfl _
  have hmap : [x, xd].map (·.g) = [oneG [⟨2, 1, 0⟩] [], bD n] := by simp [hxg, hdg]
  have ks := cstepV (bC 0 s f) (bC_ok 0 hf0 hf1) nilS hM3 (SV.nil _) O (by rw [hmap]; exact hO)
  have hrs := hs3.blk.range
  have hszC : (Try.prog.info? 29).map (·.size) = some (stCs (bC 0 s f) nilS).length := hszS
  clear hM3 hG3 hO
  go_wp2_with (first | (refine wpList_load_row rfl _ rfl bs rfl (stCs (bC 0 s f) nilS) hrs hundS rfl hszC ?_) | fail)
  refine ks.mono ?_
  rintro e V5 hP
  obtain ⟨vA, he, hvA, hLb, hkp, i5, s5, o5, y5, k5, hk5, hm5⟩ := hP.all hm3
  subst he
  have hB5 : Below w.heap.size w V5 := hB3.trans (hLb _ hlw)
  have hbw5 : Below bm w3 V5 := hbw3.trans (hLb _ (Nat.le_refl _))
  have hs5 : StAt bs (bC 0 s f) nilS V5 := ⟨rfl, hkp _ _ hne hs3.blk⟩
  obtain ⟨V6, hV6, hth6, -, hb6⟩ := new_stC V5 O.t hOl vA
  have hB6 := Below.then hB5 hb6
  have hbw6 : Below bm w3 V6 := hbw5.trans (hb6.mono (Nat.le_of_lt hm5.2))
  have hm6 := stab_blk _ _ _ _ hm5 hb6
  have hs6 := hs5.keep hb6
  have hone6 := st_one O.t vA hvA
  have hl6 : (stCs O.t vA).length = 18 := st_len hOl
  obtain ⟨X, hX⟩ : ∃ X, stCs O.t vA = X := ⟨_, rfl⟩
  rw [hX] at hV6 hth6 hone6 hl6
  have hszX : (Try.prog.info? 29).map (·.size) = some X.length := by rw [hl6]; exact hszS
  simp only [hX, hOe]
  generalize hE : bE 2 s f n = E at *
  generalize O.v = Ov at *
  generalize O.told = Ot at *
  clear ks hP hLb hkp hm5 hB5 hbw5 hs5 hb6 hX hl6 hvA hrs hm3 hB3 hbw3 hs3 hOe hOl
  go_upto_region 10 with (first | (refine wpList_store_row rfl _ _ rfl V5.heap.size rfl X rfl hth6 hszX hone6 hV6 ?_) | fail)
  clear hV6 hth6 hszX hone6
  have hc : s = 0 ∨ s = 1 ∨ s = 2 ∨ s = 3 := by omega
  rcases hc with rfl | rfl | rfl | rfl
  · have hNv : bN 0 n = 1 := rfl
    go_upto_block 0 with fail
    go_cut [18] from 69 (fun t18 wc => t18 = .int .i64 E ∧ wc = V6)
    case first =>
      skip
      by_cases c0 : f < 0
      · by_cases c1 : 16 ≤ f
        · omega
        · by_cases c2 : 1 ≤ f
          · go_wp2_with fail
            all_goals (go_meet; first | (exfalso; omega) | exact ⟨by rw [← hE]; unfold bE; rw [hNv]; (repeat (first | rw [if_pos (by omega)] | rw [if_neg (by omega)])), rfl⟩)
          · go_wp2_with fail
            all_goals (go_meet; first | (exfalso; omega) | exact ⟨by rw [← hE]; unfold bE; rw [hNv]; (repeat (first | rw [if_pos (by omega)] | rw [if_neg (by omega)])), rfl⟩)
      · by_cases c1 : 16 ≤ f
        · by_cases c2 : 1 ≤ f
          · go_wp2_with fail
            all_goals (go_meet; first | (exfalso; omega) | exact ⟨by rw [← hE]; unfold bE; rw [hNv]; (repeat (first | rw [if_pos (by omega)] | rw [if_neg (by omega)])), rfl⟩)
          · go_wp2_with fail
            all_goals (go_meet; first | (exfalso; omega) | exact ⟨by rw [← hE]; unfold bE; rw [hNv]; (repeat (first | rw [if_pos (by omega)] | rw [if_neg (by omega)])), rfl⟩)
        · by_cases c2 : 1 ≤ f
          · go_wp2_with fail
            all_goals (go_meet; first | (exfalso; omega) | exact ⟨by rw [← hE]; unfold bE; rw [hNv]; (repeat (first | rw [if_pos (by omega)] | rw [if_neg (by omega)])), rfl⟩)
          · go_wp2_with fail
            all_goals (go_meet; first | (exfalso; omega) | exact ⟨by rw [← hE]; unfold bE; rw [hNv]; (repeat (first | rw [if_pos (by omega)] | rw [if_neg (by omega)])), rfl⟩)
    case rest =>
    obtain ⟨rfl, rfl⟩ := hcut
    have kq := fun W : World => w16_any f 9 (by decide) (by decide) W
    obtain ⟨q, hq⟩ : ∃ q, f % 9 = q := ⟨_, rfl⟩
    have hq0 : 0 ≤ q := by omega
    have hq1 : q < 9 := by omega
    simp only [hq] at kq
    go_wp2_with fail
    refine (kq wc).mono ?_
    rintro e W2 ⟨rfl, hw⟩
    rw [hw]
    clear hw W2 kq hq
    have u1 := hs6.off
    have uf := (hs6.blk.1 1 _ rfl).2
    have hs7 : StAt bs (bC (1 + q) 0 f) nilS (wc.setCell ⟨bs, 1, none⟩ (.int .i64 (1 + q))) := by
      have h1 := hs6.blk.1.set 1 (.int .i64 (1 + q)) (by show 1 < 18; decide)
      exact ⟨rfl, h1, h1.lt rfl⟩
    have hB7 : Below w.heap.size w (wc.setCell ⟨bs, 1, none⟩ (.int .i64 (1 + q))) := hB6.setCell (p := ⟨bs, 1, none⟩) hwbs _
    have hbw7 : Below bm w3 (wc.setCell ⟨bs, 1, none⟩ (.int .i64 (1 + q))) := hbw6.setCell (p := ⟨bs, 1, none⟩) (Nat.le_of_lt hbs) _
    have hm7 : BlkL bm (memCs (.slice (some ⟨gG, 0, none⟩) 2 2) i5 s5 o5 y5 k5) (wc.setCell ⟨bs, 1, none⟩ (.int .i64 (1 + q))) := ⟨hm6.1.same (heap_setCell_other _ ⟨bs, 1, none⟩ bm _ (fun e => hne e.symm)), (hm6.1.same (heap_setCell_other _ ⟨bs, 1, none⟩ bm _ (fun e => hne e.symm))).lt rfl⟩
    go_upto_region 23 with fail
    clear u1 uf hs6 hB6 hbw6 hm6
    generalize wc.setCell ⟨bs, 1, none⟩ (.int .i64 (1 + q)) = Y7 at *
    have hG7 := hG.below (show Below w3.heap.size w3 Y7 by rw [hbm]; exact hbw7)
    have hM7 : MemO bm (some ⟨gG, 0, none⟩) 2 [x, xd] i5 s5 o5 y5 k5 Y7 := ⟨hMG, by omega, hm7, hG7⟩
    have ks := cstepV (bC (1 + q) 0 f) (bC_ok (1 + q) hf0 hf1) nilS hM7 (SV.nil _) (flt 35) (by rw [hmap]; exact b_more 2 (by omega) 0 f n)
    have hrs := hs7.blk.range
    have hszC7 : (Try.prog.info? 29).map (·.size) = some (stCs (bC (1 + q) 0 f) nilS).length := hszS
    clear hM7 hG7 hm7 hbw7
    go_wp2_with (first | (refine wpList_load_row rfl _ rfl bs rfl (stCs (bC (1 + q) 0 f) nilS) hrs hundS rfl hszC7 ?_) | fail)
    refine ks.mono ?_
    rintro e Y8 hP
    obtain ⟨vB, rfl, hoB, hbB⟩ := hP.fltE
    have hB8 := Below.then hB7 hbB
    obtain ⟨Y9, hY9, hth9, -, hb9⟩ := new_stC Y8 zeroC rfl vB
    have hB9 := Below.then hB8 hb9
    have hone9 := st_one zeroC vB (SV.own hoB).one
    have hl9 : (stCs zeroC vB).length = 18 := st_len rfl
    obtain ⟨X9, hX9⟩ : ∃ X, stCs zeroC vB = X := ⟨_, rfl⟩
    have hXv : Aside (.agg (stCs zeroC vB).toArray = Value.agg X9.toArray) := by rw [hX9]; exact rfl
    rw [hX9] at hY9 hth9 hone9 hl9
    have hszX : (Try.prog.info? 29).map (·.size) = some X9.length := by rw [hl9]; exact hszS
    clear ks hrs hP hoB hbB hb9 hX9 hl9 hB8 hB7 hs7
    go_wp2_with (first | (refine wpList_store_row rfl _ _ rfl Y8.heap.size rfl X9 hXv.out hth9 hszX hone9 hY9 ?_) | fail)
    go_ret
    exact ⟨rfl, hB9⟩
  · have hNv : bN 1 n = (n : Int) := rfl
    go_upto_block 0 with fail
    go_cut [18] from 69 (fun t18 wc => t18 = .int .i64 E ∧ wc = V6)
    case first =>
      skip
      by_cases c0 : f < 0
      · by_cases c1 : 16 ≤ f
        · omega
        · by_cases c2 : (n : Int) ≤ f
          · go_wp2_with fail
            all_goals (go_meet; first | (exfalso; omega) | exact ⟨by rw [← hE]; unfold bE; rw [hNv]; (repeat (first | rw [if_pos (by omega)] | rw [if_neg (by omega)])), rfl⟩)
          · go_wp2_with fail
            all_goals (go_meet; first | (exfalso; omega) | exact ⟨by rw [← hE]; unfold bE; rw [hNv]; (repeat (first | rw [if_pos (by omega)] | rw [if_neg (by omega)])), rfl⟩)
      · by_cases c1 : 16 ≤ f
        · by_cases c2 : (n : Int) ≤ f
          · go_wp2_with fail
            all_goals (go_meet; first | (exfalso; omega) | exact ⟨by rw [← hE]; unfold bE; rw [hNv]; (repeat (first | rw [if_pos (by omega)] | rw [if_neg (by omega)])), rfl⟩)
          · go_wp2_with fail
            all_goals (go_meet; first | (exfalso; omega) | exact ⟨by rw [← hE]; unfold bE; rw [hNv]; (repeat (first | rw [if_pos (by omega)] | rw [if_neg (by omega)])), rfl⟩)
        · by_cases c2 : (n : Int) ≤ f
          · go_wp2_with fail
            all_goals (go_meet; first | (exfalso; omega) | exact ⟨by rw [← hE]; unfold bE; rw [hNv]; (repeat (first | rw [if_pos (by omega)] | rw [if_neg (by omega)])), rfl⟩)
          · go_wp2_with fail
            all_goals (go_meet; first | (exfalso; omega) | exact ⟨by rw [← hE]; unfold bE; rw [hNv]; (repeat (first | rw [if_pos (by omega)] | rw [if_neg (by omega)])), rfl⟩)
    case rest =>
    obtain ⟨rfl, rfl⟩ := hcut
    have kq := fun W : World => w16_any f 9 (by decide) (by decide) W
    obtain ⟨q, hq⟩ : ∃ q, f % 9 = q := ⟨_, rfl⟩
    have hq0 : 0 ≤ q := by omega
    have hq1 : q < 9 := by omega
    simp only [hq] at kq
    go_wp2_with fail
    refine (kq wc).mono ?_
    rintro e W2 ⟨rfl, hw⟩
    rw [hw]
    clear hw W2 kq hq
    have u1 := hs6.off
    have uf := (hs6.blk.1 1 _ rfl).2
    have hs7 : StAt bs (bC (1 + q) 1 f) nilS (wc.setCell ⟨bs, 1, none⟩ (.int .i64 (1 + q))) := by
      have h1 := hs6.blk.1.set 1 (.int .i64 (1 + q)) (by show 1 < 18; decide)
      exact ⟨rfl, h1, h1.lt rfl⟩
    have hB7 : Below w.heap.size w (wc.setCell ⟨bs, 1, none⟩ (.int .i64 (1 + q))) := hB6.setCell (p := ⟨bs, 1, none⟩) hwbs _
    have hbw7 : Below bm w3 (wc.setCell ⟨bs, 1, none⟩ (.int .i64 (1 + q))) := hbw6.setCell (p := ⟨bs, 1, none⟩) (Nat.le_of_lt hbs) _
    have hm7 : BlkL bm (memCs (.slice (some ⟨gG, 0, none⟩) 2 2) i5 s5 o5 y5 k5) (wc.setCell ⟨bs, 1, none⟩ (.int .i64 (1 + q))) := ⟨hm6.1.same (heap_setCell_other _ ⟨bs, 1, none⟩ bm _ (fun e => hne e.symm)), (hm6.1.same (heap_setCell_other _ ⟨bs, 1, none⟩ bm _ (fun e => hne e.symm))).lt rfl⟩
    go_upto_region 23 with fail
    clear u1 uf hs6 hB6 hbw6 hm6
    generalize wc.setCell ⟨bs, 1, none⟩ (.int .i64 (1 + q)) = Y7 at *
    have hG7 := hG.below (show Below w3.heap.size w3 Y7 by rw [hbm]; exact hbw7)
    have hM7 : MemO bm (some ⟨gG, 0, none⟩) 2 [x, xd] i5 s5 o5 y5 k5 Y7 := ⟨hMG, by omega, hm7, hG7⟩
    have ks := cstepV (bC (1 + q) 1 f) (bC_ok (1 + q) hf0 hf1) nilS hM7 (SV.nil _) (flt 35) (by rw [hmap]; exact b_more 2 (by omega) 1 f n)
    have hrs := hs7.blk.range
    have hszC7 : (Try.prog.info? 29).map (·.size) = some (stCs (bC (1 + q) 1 f) nilS).length := hszS
    clear hM7 hG7 hm7 hbw7
    go_wp2_with (first | (refine wpList_load_row rfl _ rfl bs rfl (stCs (bC (1 + q) 1 f) nilS) hrs hundS rfl hszC7 ?_) | fail)
    refine ks.mono ?_
    rintro e Y8 hP
    obtain ⟨vB, rfl, hoB, hbB⟩ := hP.fltE
    have hB8 := Below.then hB7 hbB
    obtain ⟨Y9, hY9, hth9, -, hb9⟩ := new_stC Y8 zeroC rfl vB
    have hB9 := Below.then hB8 hb9
    have hone9 := st_one zeroC vB (SV.own hoB).one
    have hl9 : (stCs zeroC vB).length = 18 := st_len rfl
    obtain ⟨X9, hX9⟩ : ∃ X, stCs zeroC vB = X := ⟨_, rfl⟩
    have hXv : Aside (.agg (stCs zeroC vB).toArray = Value.agg X9.toArray) := by rw [hX9]; exact rfl
    rw [hX9] at hY9 hth9 hone9 hl9
    have hszX : (Try.prog.info? 29).map (·.size) = some X9.length := by rw [hl9]; exact hszS
    clear ks hrs hP hoB hbB hb9 hX9 hl9 hB8 hB7 hs7
    go_wp2_with (first | (refine wpList_store_row rfl _ _ rfl Y8.heap.size rfl X9 hXv.out hth9 hszX hone9 hY9 ?_) | fail)
    go_ret
    exact ⟨rfl, hB9⟩
  · have hNv : bN 2 n = -1 := rfl
    go_upto_block 0 with fail
    go_cut [18] from 69 (fun t18 wc => t18 = .int .i64 E ∧ wc = V6)
    case first =>
      skip
      by_cases c0 : f < 0
      · by_cases c1 : 16 ≤ f
        · omega
        · by_cases c2 : -1 ≤ f
          · go_wp2_with fail
            all_goals (go_meet; first | (exfalso; omega) | exact ⟨by rw [← hE]; unfold bE; rw [hNv]; (repeat (first | rw [if_pos (by omega)] | rw [if_neg (by omega)])), rfl⟩)
          · go_wp2_with fail
            all_goals (go_meet; first | (exfalso; omega) | exact ⟨by rw [← hE]; unfold bE; rw [hNv]; (repeat (first | rw [if_pos (by omega)] | rw [if_neg (by omega)])), rfl⟩)
      · by_cases c1 : 16 ≤ f
        · by_cases c2 : -1 ≤ f
          · go_wp2_with fail
            all_goals (go_meet; first | (exfalso; omega) | exact ⟨by rw [← hE]; unfold bE; rw [hNv]; (repeat (first | rw [if_pos (by omega)] | rw [if_neg (by omega)])), rfl⟩)
          · go_wp2_with fail
            all_goals (go_meet; first | (exfalso; omega) | exact ⟨by rw [← hE]; unfold bE; rw [hNv]; (repeat (first | rw [if_pos (by omega)] | rw [if_neg (by omega)])), rfl⟩)
        · by_cases c2 : -1 ≤ f
          · go_wp2_with fail
            all_goals (go_meet; first | (exfalso; omega) | exact ⟨by rw [← hE]; unfold bE; rw [hNv]; (repeat (first | rw [if_pos (by omega)] | rw [if_neg (by omega)])), rfl⟩)
          · go_wp2_with fail
            all_goals (go_meet; first | (exfalso; omega) | exact ⟨by rw [← hE]; unfold bE; rw [hNv]; (repeat (first | rw [if_pos (by omega)] | rw [if_neg (by omega)])), rfl⟩)
    case rest =>
    obtain ⟨rfl, rfl⟩ := hcut
    have kq := fun W : World => w16_any f 9 (by decide) (by decide) W
    obtain ⟨q, hq⟩ : ∃ q, f % 9 = q := ⟨_, rfl⟩
    have hq0 : 0 ≤ q := by omega
    have hq1 : q < 9 := by omega
    simp only [hq] at kq
    go_wp2_with fail
    refine (kq wc).mono ?_
    rintro e W2 ⟨rfl, hw⟩
    rw [hw]
    clear hw W2 kq hq
    have u1 := hs6.off
    have uf := (hs6.blk.1 1 _ rfl).2
    have hs7 : StAt bs (bC (1 + q) 2 f) nilS (wc.setCell ⟨bs, 1, none⟩ (.int .i64 (1 + q))) := by
      have h1 := hs6.blk.1.set 1 (.int .i64 (1 + q)) (by show 1 < 18; decide)
      exact ⟨rfl, h1, h1.lt rfl⟩
    have hB7 : Below w.heap.size w (wc.setCell ⟨bs, 1, none⟩ (.int .i64 (1 + q))) := hB6.setCell (p := ⟨bs, 1, none⟩) hwbs _
    have hbw7 : Below bm w3 (wc.setCell ⟨bs, 1, none⟩ (.int .i64 (1 + q))) := hbw6.setCell (p := ⟨bs, 1, none⟩) (Nat.le_of_lt hbs) _
    have hm7 : BlkL bm (memCs (.slice (some ⟨gG, 0, none⟩) 2 2) i5 s5 o5 y5 k5) (wc.setCell ⟨bs, 1, none⟩ (.int .i64 (1 + q))) := ⟨hm6.1.same (heap_setCell_other _ ⟨bs, 1, none⟩ bm _ (fun e => hne e.symm)), (hm6.1.same (heap_setCell_other _ ⟨bs, 1, none⟩ bm _ (fun e => hne e.symm))).lt rfl⟩
    go_upto_region 23 with fail
    clear u1 uf hs6 hB6 hbw6 hm6
    generalize wc.setCell ⟨bs, 1, none⟩ (.int .i64 (1 + q)) = Y7 at *
    have hG7 := hG.below (show Below w3.heap.size w3 Y7 by rw [hbm]; exact hbw7)
    have hM7 : MemO bm (some ⟨gG, 0, none⟩) 2 [x, xd] i5 s5 o5 y5 k5 Y7 := ⟨hMG, by omega, hm7, hG7⟩
    have ks := cstepV (bC (1 + q) 2 f) (bC_ok (1 + q) hf0 hf1) nilS hM7 (SV.nil _) (flt 35) (by rw [hmap]; exact b_more 2 (by omega) 2 f n)
    have hrs := hs7.blk.range
    have hszC7 : (Try.prog.info? 29).map (·.size) = some (stCs (bC (1 + q) 2 f) nilS).length := hszS
    clear hM7 hG7 hm7 hbw7
    go_wp2_with (first | (refine wpList_load_row rfl _ rfl bs rfl (stCs (bC (1 + q) 2 f) nilS) hrs hundS rfl hszC7 ?_) | fail)
    refine ks.mono ?_
    rintro e Y8 hP
    obtain ⟨vB, rfl, hoB, hbB⟩ := hP.fltE
    have hB8 := Below.then hB7 hbB
    obtain ⟨Y9, hY9, hth9, -, hb9⟩ := new_stC Y8 zeroC rfl vB
    have hB9 := Below.then hB8 hb9
    have hone9 := st_one zeroC vB (SV.own hoB).one
    have hl9 : (stCs zeroC vB).length = 18 := st_len rfl
    obtain ⟨X9, hX9⟩ : ∃ X, stCs zeroC vB = X := ⟨_, rfl⟩
    have hXv : Aside (.agg (stCs zeroC vB).toArray = Value.agg X9.toArray) := by rw [hX9]; exact rfl
    rw [hX9] at hY9 hth9 hone9 hl9
    have hszX : (Try.prog.info? 29).map (·.size) = some X9.length := by rw [hl9]; exact hszS
    clear ks hrs hP hoB hbB hb9 hX9 hl9 hB8 hB7 hs7
    go_wp2_with (first | (refine wpList_store_row rfl _ _ rfl Y8.heap.size rfl X9 hXv.out hth9 hszX hone9 hY9 ?_) | fail)
    go_ret
    exact ⟨rfl, hB9⟩
  · have hNv : bN 3 n = -1 := rfl
    go_upto_block 0 with fail
    go_cut [18] from 69 (fun t18 wc => t18 = .int .i64 E ∧ wc = V6)
    case first =>
      skip
      by_cases c0 : f < 0
      · by_cases c1 : 16 ≤ f
        · omega
        · by_cases c2 : -1 ≤ f
          · go_wp2_with fail
            all_goals (go_meet; first | (exfalso; omega) | exact ⟨by rw [← hE]; unfold bE; rw [hNv]; (repeat (first | rw [if_pos (by omega)] | rw [if_neg (by omega)])), rfl⟩)
          · go_wp2_with fail
            all_goals (go_meet; first | (exfalso; omega) | exact ⟨by rw [← hE]; unfold bE; rw [hNv]; (repeat (first | rw [if_pos (by omega)] | rw [if_neg (by omega)])), rfl⟩)
      · by_cases c1 : 16 ≤ f
        · by_cases c2 : -1 ≤ f
          · go_wp2_with fail
            all_goals (go_meet; first | (exfalso; omega) | exact ⟨by rw [← hE]; unfold bE; rw [hNv]; (repeat (first | rw [if_pos (by omega)] | rw [if_neg (by omega)])), rfl⟩)
          · go_wp2_with fail
            all_goals (go_meet; first | (exfalso; omega) | exact ⟨by rw [← hE]; unfold bE; rw [hNv]; (repeat (first | rw [if_pos (by omega)] | rw [if_neg (by omega)])), rfl⟩)
        · by_cases c2 : -1 ≤ f
          · go_wp2_with fail
            all_goals (go_meet; first | (exfalso; omega) | exact ⟨by rw [← hE]; unfold bE; rw [hNv]; (repeat (first | rw [if_pos (by omega)] | rw [if_neg (by omega)])), rfl⟩)
          · go_wp2_with fail
            all_goals (go_meet; first | (exfalso; omega) | exact ⟨by rw [← hE]; unfold bE; rw [hNv]; (repeat (first | rw [if_pos (by omega)] | rw [if_neg (by omega)])), rfl⟩)
    case rest =>
    obtain ⟨rfl, rfl⟩ := hcut
    have kq := fun W : World => w16_any f 9 (by decide) (by decide) W
    obtain ⟨q, hq⟩ : ∃ q, f % 9 = q := ⟨_, rfl⟩
    have hq0 : 0 ≤ q := by omega
    have hq1 : q < 9 := by omega
    simp only [hq] at kq
    go_wp2_with fail
    refine (kq wc).mono ?_
    rintro e W2 ⟨rfl, hw⟩
    rw [hw]
    clear hw W2 kq hq
    have u1 := hs6.off
    have uf := (hs6.blk.1 1 _ rfl).2
    have hs7 : StAt bs (bC (1 + q) 3 f) nilS (wc.setCell ⟨bs, 1, none⟩ (.int .i64 (1 + q))) := by
      have h1 := hs6.blk.1.set 1 (.int .i64 (1 + q)) (by show 1 < 18; decide)
      exact ⟨rfl, h1, h1.lt rfl⟩
    have hB7 : Below w.heap.size w (wc.setCell ⟨bs, 1, none⟩ (.int .i64 (1 + q))) := hB6.setCell (p := ⟨bs, 1, none⟩) hwbs _
    have hbw7 : Below bm w3 (wc.setCell ⟨bs, 1, none⟩ (.int .i64 (1 + q))) := hbw6.setCell (p := ⟨bs, 1, none⟩) (Nat.le_of_lt hbs) _
    have hm7 : BlkL bm (memCs (.slice (some ⟨gG, 0, none⟩) 2 2) i5 s5 o5 y5 k5) (wc.setCell ⟨bs, 1, none⟩ (.int .i64 (1 + q))) := ⟨hm6.1.same (heap_setCell_other _ ⟨bs, 1, none⟩ bm _ (fun e => hne e.symm)), (hm6.1.same (heap_setCell_other _ ⟨bs, 1, none⟩ bm _ (fun e => hne e.symm))).lt rfl⟩
    go_upto_region 23 with fail
    clear u1 uf hs6 hB6 hbw6 hm6
    generalize wc.setCell ⟨bs, 1, none⟩ (.int .i64 (1 + q)) = Y7 at *
    have hG7 := hG.below (show Below w3.heap.size w3 Y7 by rw [hbm]; exact hbw7)
    have hM7 : MemO bm (some ⟨gG, 0, none⟩) 2 [x, xd] i5 s5 o5 y5 k5 Y7 := ⟨hMG, by omega, hm7, hG7⟩
    have ks := cstepV (bC (1 + q) 3 f) (bC_ok (1 + q) hf0 hf1) nilS hM7 (SV.nil _) (flt 35) (by rw [hmap]; exact b_more 2 (by omega) 3 f n)
    have hrs := hs7.blk.range
    have hszC7 : (Try.prog.info? 29).map (·.size) = some (stCs (bC (1 + q) 3 f) nilS).length := hszS
    clear hM7 hG7 hm7 hbw7
    go_wp2_with (first | (refine wpList_load_row rfl _ rfl bs rfl (stCs (bC (1 + q) 3 f) nilS) hrs hundS rfl hszC7 ?_) | fail)
    refine ks.mono ?_
    rintro e Y8 hP
    obtain ⟨vB, rfl, hoB, hbB⟩ := hP.fltE
    have hB8 := Below.then hB7 hbB
    obtain ⟨Y9, hY9, hth9, -, hb9⟩ := new_stC Y8 zeroC rfl vB
    have hB9 := Below.then hB8 hb9
    have hone9 := st_one zeroC vB (SV.own hoB).one
    have hl9 : (stCs zeroC vB).length = 18 := st_len rfl
    obtain ⟨X9, hX9⟩ : ∃ X, stCs zeroC vB = X := ⟨_, rfl⟩
    have hXv : Aside (.agg (stCs zeroC vB).toArray = Value.agg X9.toArray) := by rw [hX9]; exact rfl
    rw [hX9] at hY9 hth9 hone9 hl9
    have hszX : (Try.prog.info? 29).map (·.size) = some X9.length := by rw [hl9]; exact hszS
    clear ks hrs hP hoB hbB hb9 hX9 hl9 hB8 hB7 hs7
    go_wp2_with (first | (refine wpList_store_row rfl _ _ rfl Y8.heap.size rfl X9 hXv.out hth9 hszX hone9 hY9 ?_) | fail)
    go_ret
    exact ⟨rfl, hB9⟩
set_option maxRecDepth 8000 in
set_option maxHeartbeats 8000000 in
theorem cpuBounds18 (off seg op size g s z : Int) (n : Nat) (hg : off % 24 = g) (hs : seg % 4 = s) (hz : size % 8 = z) (hk : op % 4 = 2) (hn : z = n) (w : World) :
    Calls Try.prog 6 #[.int .i64 off, .int .i64 seg, .int .i64 op, .int .i64 size] w fun e w' => e = .returned (.bool true) ∧ Below w.heap.size w w' := by
  have hundS := Try.underlying29
  have hszS : (Try.prog.info? 29).map (·.size) = some 18 := by kernel_rfl
  have hundG := Try.underlying39
  have hszG : (Try.prog.info? 39).map (·.size) = some 7 := by kernel_rfl
  have hszP : (Try.prog.info? 25).map (·.size) = some 3 := by kernel_rfl
  have hmi : ∀ (v : Value) (w : World), (Instr.makeInterface 34 v).run Try.prog w = .ok (.iface 34 v) w := fun _ _ => rfl
  have k1 := fun W : World => w16_any off 24 (by decide) (by decide) W
  have k2 := fun W : World => w16_any seg 4 (by decide) (by decide) W
  have k3 := fun W : World => w16_any size 8 (by decide) (by decide) W
  have k4 := fun W : World => w16_any op 4 (by decide) (by decide) W
  have hg0 : 0 ≤ g := by omega
  have hg1 : g < 24 := by omega
  have hs0 : 0 ≤ s := by omega
  have hs4 : s ≤ 3 := by omega
  have hn7 : n ≤ 7 := by omega
  simp only [hg] at k1
  simp only [hs] at k2
  simp only [hz] at k3
  simp only [hk] at k4
  obtain ⟨f, hf⟩ : ∃ f, g - 4 = f := ⟨_, rfl⟩
  have hf0 : -4 ≤ f := by omega
  have hf1 : f ≤ 19 := by omega
  clear hg hs hz hk
  go_enter Try.func6, Try.ntmps6
  go_wp2_with fail
  refine (ck_any w).mono ?_
  rintro e W1 ⟨rfl, hB1⟩
  go_wp2_with fail
  refine (k1 W1).mono ?_
  rintro e W2 ⟨rfl, hw⟩
  rw [hw]
  clear hw W2
  go_wp2_with fail
  refine (k2 W1).mono ?_
  rintro e W2 ⟨rfl, hw⟩
  rw [hw]
  clear hw W2
  go_wp2_with fail
  refine (k3 W1).mono ?_
  rintro e W2 ⟨rfl, hw⟩
  rw [hw]
  clear hw W2
  go_upto_region 4 with fail
  have hbA := alloc_below W1 (.cells #[.int .i64 1, .int .i64 2, .int .i64 18, .int .i64 20] 3)
  have hB2 := Below.then hB1 hbA
  go_wp2_with fail
  refine (k4 _).mono ?_
  rintro e W2 ⟨rfl, hw⟩
  rw [hw]
  clear hw W2
  go_upto_region 5 with fail
  clear hbA hB1 k1 k2 k3 k4
  generalize W1.alloc (.cells #[.int .i64 1, .int .i64 2, .int .i64 18, .int .i64 20] 3) = U1 at *
  obtain ⟨U2, hU2⟩ : ∃ U2, U1.alloc (.cells ((List.replicate n 0).flatMap wcl).toArray 2) = U2 := ⟨_, rfl⟩
  have hbR := alloc_below U1 (.cells ((List.replicate n 0).flatMap wcl).toArray 2)
  have hrR := row_list (f := wcl) (sz := 1) (fun _ => rfl) U1 (List.replicate n 0) _ rfl 2
  rw [hU2] at hbR hrR
  obtain ⟨xd, hxd⟩ : ∃ xd : PG, PG.mk (bD n) (some ⟨U1.heap.size, 0, none⟩) n = xd := ⟨_, rfl⟩
  have hxdv : Aside (Value.agg #[.bool true, .slice (some ⟨U1.heap.size, 0, none⟩) n n, .int .i64 7, .int .i64 4, .int .i64 4, .int .i64 4, .int .i64 0] = .agg xd.cs.toArray) := by
    rw [← hxd]
    unfold PG.cs PG.v
    rw [show (PG.mk (bD n) (some ⟨U1.heap.size, 0, none⟩) n).g.ws.length = n from bD_len n]
    exact rfl
  have hdg : xd.g = bD n := by rw [← hxd]
  have hdw : xd.wa ≠ none := by rw [← hxd]; intro q; cases q
  have hda2 : xd.At U2 := by rw [← hxd]; exact hrR
  have hszd : (Try.prog.info? 39).map (·.size) = some xd.cs.length := by rw [pg_len]; exact hszG
  obtain ⟨Z, hZ, hthZ, hdz, hbZ⟩ := put_new U2 (sgCs zeroG nilS).toArray 39 xd.cs (by rw [pg_len]; rfl) (by rw [pg_len]; decide)
  have hda := hda2.below hbZ
  have hB := Below.then (Below.then hB2 hbR) hbZ
  go_upto_region 6 with (first | (refine wpList_makeN rfl _ rfl (n : Int) n rfl rfl hn7 ?_; rw [hU2]) | (refine wpList_store_row rfl _ _ rfl U2.heap.size rfl xd.cs hxdv.out hthZ hszd (pg_one _) hZ ?_) | fail)
  clear hZ hthZ hbZ hbR hrR hU2 hxd hxdv hda2 hB2
  generalize U2.heap.size = bd at *
  have hS := (Below.refl Z.heap.size Z).drew
  replace hB := Below.then hB hS
  replace hda := hda.below hS
  refine wp_region_held_drew (S := (fun W => Below Z.heap.size Z W)) (by kernel_rfl) (by exact hS) ?_
  intro hHeld
  generalize Z.drew = w0 at *
  refine wpAnyH_take (i := 0) (v := ?_) (by simp only [gA, gB, gC]; rfl) (by kernel_rfl) (by kernel_rfl) (by kernel_rfl) (by exact fun _ _ _ h => h) (Or.inl ⟨by rfl, ?_⟩) (by assumption) ?_; rotate_left; (focus (intro w hSw; (try dsimp only at hSw); go_simp; try with_reducible rfl)); (try simp only [Act.put, sA, sB, sC])
  refine wpAnyH_take (i := 1) (v := ?_) (by simp only [gA, gB, gC]; rfl) (by kernel_rfl) (by kernel_rfl) (by kernel_rfl) (by exact fun _ _ _ h => h) (Or.inl ⟨by rfl, ?_⟩) (by assumption) ?_; rotate_left; (focus (intro w hSw; (try dsimp only at hSw); go_simp; try with_reducible rfl)); (try simp only [Act.put, sA, sB, sC])
  refine wpAnyH_take (i := 4) (v := _) (by simp only [gA, gB, gC]; rfl) (by kernel_rfl) (by kernel_rfl) (by kernel_rfl) (by exact fun _ _ _ h => h) (yields_row (by rfl) _ rfl bd rfl xd.cs (fun _ q => (stab_blk _ _ _ _ hdz q).range) hundG rfl hszd) (by assumption) ?_; (try simp only [Act.put, sA, sB, sC])
  refine wpAnyH_ready (rs := [2]) (by kernel_rfl) (by simp) ?_
  refine AllReadyH.cons (by simp only [gA, gB, gC]; rfl) (fun K hK => ?_) AllReadyH.nil
  have hb := alloc_below w0 (.cells (ins3 ⟨18, 1, 0⟩).toArray 42)
  have hI := row_list (f := ins3) (sz := 3) (fun _ => rfl) w0 [⟨18, 1, 0⟩] (ins3 ⟨18, 1, 0⟩).toArray (by simp) 42
  refine step_build1 in_okC (by decide) rfl _ rfl (ins3 ⟨18, 1, 0⟩) rfl rfl ?_
  (try simp only [Act.put, sA, sB, sC])
  refine hK.out _ _ (Below.then hS hb) ?_
  clear hHeld hK
  intro hHeld
  replace hB := Below.then hB hb
  replace hS := Below.then hS hb
  replace hda := hda.below hb
  clear hb
  generalize w0.alloc (.cells (ins3 ⟨18, 1, 0⟩).toArray 42) = w1 at *
  generalize w0.heap.size = gI at *
  (try simp only [Act.put, sA, sB, sC])
  refine wpAnyH_ready (rs := [3]) (by kernel_rfl) (by simp) ?_
  refine AllReadyH.cons (by simp only [gA, gB, gC]; rfl) (fun K hK => ?_) AllReadyH.nil
  go_simp
  go_at_call 12
  refine (cone_any [⟨18, 1, 0⟩] [] (some ⟨gI, 0, none⟩) none 1 0 (by show 1 ≤ 100; decide) (by show 0 ≤ 100; decide) (fun _ => rfl) w1 hI (fun j y h => by simp at h)).mono ?_
  rintro e w2 ⟨x, hxg, rfl, hxo, hb⟩
  replace hB := Below.then hB hb
  replace hS := Below.then hS hb
  replace hda := hda.below hb
  clear hb hI
  refine hK.out _ _ (hS) ?_
  clear hHeld hK
  intro hHeld
  (try simp only [Act.put, sA, sB, sC])
  refine wpAnyH_ready (rs := [5]) (by kernel_rfl) (by simp) ?_
  refine AllReadyH.cons (by simp only [gA, gB, gC]; rfl) (fun K hK => ?_) AllReadyH.nil
  have hb := alloc_below w2 (.cells (x.cs ++ xd.cs).toArray 39)
  have hR := row_list pg_len w2 [x, xd] (x.cs ++ xd.cs).toArray (by simp) 39
  refine step_build2 pg_okC (by decide) rfl _ _ rfl x.cs xd.cs rfl rfl rfl rfl ?_
  (try simp only [Act.put, sA, sB, sC])
  refine hK.out _ _ (Below.then hS hb) ?_
  clear hHeld hK
  intro hHeld
  replace hB := Below.then hB hb
  replace hS := Below.then hS hb
  replace hda := hda.below hb
  replace hxo := hxo.below hb
  clear hb
  generalize w2.alloc (.cells (x.cs ++ xd.cs).toArray 39) = w3 at *
  generalize w2.heap.size = gG at *
  (try simp only [Act.put, sA, sB, sC])
  refine wpAnyH_take (i := 6) (v := ?_) (by simp only [gA, gB, gC]; rfl) (by kernel_rfl) (by kernel_rfl) (by kernel_rfl) (by exact fun _ _ _ h => h) (Or.inl ⟨by rfl, ?_⟩) (by assumption) ?_; rotate_left; (focus (intro w hSw; (try dsimp only at hSw); go_simp; try with_reducible rfl)); (try simp only [Act.put, sA, sB, sC])
  refine wpAnyH_ready (rs := [7]) (by kernel_rfl) (by simp) ?_
  refine AllReadyH.cons (by simp only [gA, gB, gC]; rfl) (fun K hK => ?_) AllReadyH.nil
  go_simp
  have hb : Below w3.heap.size w3 (w3.alloc (.cells #[.slice (some ⟨gG, 0, none⟩) 2 2, .bool false, .int .i64 0, .int .i64 0, .int .i64 0, .int .i64 0] 48)) := alloc_below w3 _
  have hm : BlkL w3.heap.size (memCs (.slice (some ⟨gG, 0, none⟩) 2 2) false 0 0 0 0) (w3.alloc (.cells #[.slice (some ⟨gG, 0, none⟩) 2 2, .bool false, .int .i64 0, .int .i64 0, .int .i64 0, .int .i64 0] 48)) := blkl_alloc w3 #[.slice (some ⟨gG, 0, none⟩) 2 2, .bool false, .int .i64 0, .int .i64 0, .int .i64 0, .int .i64 0] 48
  have hxa := own_at hxo
  have hG : RowG w3 (some ⟨gG, 0, none⟩) [x, xd] := ⟨hR, fun z hz => by rcases List.mem_cons.1 hz with rfl | hz; exact hxa; rw [List.mem_singleton.1 hz]; exact hda⟩
  have hbW := hb
  have hlw3 := hB.size
  refine hK.out _ _ (Below.then hS hb) ?_
  clear hHeld hK
  intro hHeld
  replace hB := Below.then hB hb
  have hgB := hB.size
  clear hb hR hda hxa hS
  generalize w3.alloc (.cells #[.slice (some ⟨gG, 0, none⟩) 2 2, .bool false, .int .i64 0, .int .i64 0, .int .i64 0, .int .i64 0] 48) = w4 at *
  (try simp only [Act.put, sA, sB, sC])
  refine wpAnyH_take (i := 8) (v := ?_) (by simp only [gA, gB, gC]; rfl) (by kernel_rfl) (by kernel_rfl) (by kernel_rfl) (by exact fun _ _ _ h => h) (Or.inl ⟨by rfl, ?_⟩) (by assumption) ?_; rotate_left; (focus (intro w hSw; (try dsimp only at hSw); go_simp; try with_reducible rfl)); (try simp only [Act.put, sA, sB, sC])
  refine wpAnyH_done (by kernel_rfl) ?_ _
  have hMG : MG [x, xd] := by
    obtain ⟨a1, c1, hv, -, hn1, -⟩ := hxo.slice wd_okC.len
    have hv' : Value.slice x.wa x.g.ws.length x.wc = .slice a1 x.g.ws.length c1 := hv
    injection hv' with e1 e2 e3
    refine ⟨by simp, fun z hz => ?_, fun z hz => ?_⟩
    · rcases List.mem_cons.1 hz with rfl | hz
      · rw [hxg]; exact bG_ok 18
      · rw [List.mem_singleton.1 hz, hdg]; exact bD_ok (by omega)
    · rcases List.mem_cons.1 hz with rfl | hz
      · rw [e1, e3]; exact hn1
      · rw [List.mem_singleton.1 hz]; exact fun q => absurd q hdw
  have hlw : w.heap.size ≤ w3.heap.size := hlw3
  clear hxo hlw3
  generalize hbm : w3.heap.size = bm at *
  go_wp2_with fail
  refine (cnew_any w4).mono ?_
  rintro e V1 ⟨rfl, hb1⟩
  obtain ⟨V2, hV2, hthV, hsV, hbV⟩ := new_stC V1 newC rfl nilS
  obtain ⟨V3, hV3, hth3, hs3, hk3, -⟩ := hsV.putPtr (k := 1) (by decide) ⟨s, f, 4⟩ (c' := bC 0 s f) rfl rfl
  have hb3 : Below V1.heap.size V1 V3 := hk3 _ _ (Nat.le_refl _) hbV
  have hB3 := Below.then (Below.then hB hb1) hb3
  have hm3 := stab_blk _ _ _ _ (stab_blk _ _ _ _ hm hb1) hb3
  have hbw3 : Below bm w3 V3 := hbW.trans ((Below.then hb1 hb3).mono (Nat.le_of_lt hm.2))
  have hG3 := hG.below (show Below w3.heap.size w3 V3 by rw [hbm]; exact hbw3)
  have hbs0 : bm < V1.heap.size := by
    have h1 := hm.2
    have h2 := hb1.size
    omega
  have hne : V1.heap.size ≠ bm := by omega
  have hone8 : ∀ u ∈ stCs newC nilS, u.oneCell' = true := st_one _ _ rfl
  have hsz8 : (Try.prog.info? 29).map (·.size) = some (stCs newC nilS).length := by kernel_rfl
  obtain ⟨Y, hY⟩ : ∃ Y, stCs newC nilS = Y := ⟨_, rfl⟩
  rw [hY] at hV2 hthV hone8 hsz8
  have hYv : Aside (.agg (stCs newC nilS).toArray = Value.agg Y.toArray) := by rw [hY]; exact rfl
  clear hY hsV hbV hk3 hm hB hbW hb1 hb3
  go_upto_region 8 with (first | (refine wpList_store_row rfl _ _ rfl V1.heap.size rfl Y hYv.out hthV hsz8 hone8 hV2 ?_) | fail)
  clear hV2 hthV hone8 hsz8 hYv
  go_upto_region 9 with (first | (refine wpList_store_part rfl _ _ rfl V1.heap.size 7 rfl (ptr3 ⟨s, f, 4⟩) rfl hth3 hszP (ptr3J_one _) hV3 ?_) | fail)
  clear hV3 hth3
  have hbs : bm < V1.heap.size := hbs0
  have hwbs : w.heap.size ≤ V1.heap.size := by omega
  clear hbs0
  generalize V1.heap.size = bs at *
  have hM3 : MemO bm (some ⟨gG, 0, none⟩) 2 [x, xd] false 0 0 0 0 V3 := ⟨hMG, ⟨by decide, by decide⟩, hm3, hG3⟩
  obtain ⟨O, hO⟩ : ∃ O, stepC (bC 0 s f) [oneG [⟨18, 1, 0⟩] [], bD n] = O := ⟨_, rfl⟩
  have hOe : O.e = bE 18 s f n := by rw [← hO]; exact b_step (by decide) hs0 hs4 f n
  have hOl : O.t.ps.length = 4 := by rw [← hO]; exact stepC_len rfl _
  have hmap : [x, xd].map (·.g) = [oneG [⟨18, 1, 0⟩] [], bD n] := by simp [hxg, hdg]
  have ks := cstepV (bC 0 s f) (bC_ok 0 hf0 hf1) nilS hM3 (SV.nil _) O (by rw [hmap]; exact hO)
  have hrs := hs3.blk.range
  have hszC : (Try.prog.info? 29).map (·.size) = some (stCs (bC 0 s f) nilS).length := hszS
  clear hM3 hG3 hO
  go_wp2_with (first | (refine wpList_load_row rfl _ rfl bs rfl (stCs (bC 0 s f) nilS) hrs hundS rfl hszC ?_) | fail)
  refine ks.mono ?_
  rintro e V5 hP
  obtain ⟨vA, he, hvA, hLb, hkp, i5, s5, o5, y5, k5, hk5, hm5⟩ := hP.all hm3
  subst he
  have hB5 : Below w.heap.size w V5 := hB3.trans (hLb _ hlw)
  have hbw5 : Below bm w3 V5 := hbw3.trans (hLb _ (Nat.le_refl _))
  have hs5 : StAt bs (bC 0 s f) nilS V5 := ⟨rfl, hkp _ _ hne hs3.blk⟩
  obtain ⟨V6, hV6, hth6, -, hb6⟩ := new_stC V5 O.t hOl vA
  have hB6 := Below.then hB5 hb6
  have hbw6 : Below bm w3 V6 := hbw5.trans (hb6.mono (Nat.le_of_lt hm5.2))
  have hm6 := stab_blk _ _ _ _ hm5 hb6
  have hs6 := hs5.keep hb6
  have hone6 := st_one O.t vA hvA
  have hl6 : (stCs O.t vA).length = 18 := st_len hOl
  obtain ⟨X, hX⟩ : ∃ X, stCs O.t vA = X := ⟨_, rfl⟩
  rw [hX] at hV6 hth6 hone6 hl6
  have hszX : (Try.prog.info? 29).map (·.size) = some X.length := by rw [hl6]; exact hszS
  simp only [hX, hOe]
  generalize hE : bE 18 s f n = E at *
  generalize O.v = Ov at *
  generalize O.told = Ot at *
  clear ks hP hLb hkp hm5 hB5 hbw5 hs5 hb6 hX hl6 hvA hrs hm3 hB3 hbw3 hs3 hOe hOl
  go_upto_region 10 with (first | (refine wpList_store_row rfl _ _ rfl V5.heap.size rfl X rfl hth6 hszX hone6 hV6 ?_) | fail)
  clear hV6 hth6 hszX hone6
  have hc : s = 0 ∨ s = 1 ∨ s = 2 ∨ s = 3 := by omega
  rcases hc with rfl | rfl | rfl | rfl
  · have hNv : bN 0 n = 1 := rfl
    go_upto_block 0 with fail
    go_cut [18] from 69 (fun t18 wc => t18 = .int .i64 E ∧ wc = V6)
    case first =>
      skip
      by_cases c0 : f < 0
      · by_cases c1 : 16 ≤ f
        · omega
        · by_cases c2 : 1 ≤ f
          · go_wp2_with fail
            all_goals (go_meet; first | (exfalso; omega) | exact ⟨by rw [← hE]; unfold bE; rw [hNv]; (repeat (first | rw [if_pos (by omega)] | rw [if_neg (by omega)])), rfl⟩)
          · go_wp2_with fail
            all_goals (go_meet; first | (exfalso; omega) | exact ⟨by rw [← hE]; unfold bE; rw [hNv]; (repeat (first | rw [if_pos (by omega)] | rw [if_neg (by omega)])), rfl⟩)
      · by_cases c1 : 16 ≤ f
        · by_cases c2 : 1 ≤ f
          · go_wp2_with fail
            all_goals (go_meet; first | (exfalso; omega) | exact ⟨by rw [← hE]; unfold bE; rw [hNv]; (repeat (first | rw [if_pos (by omega)] | rw [if_neg (by omega)])), rfl⟩)
          · go_wp2_with fail
            all_goals (go_meet; first | (exfalso; omega) | exact ⟨by rw [← hE]; unfold bE; rw [hNv]; (repeat (first | rw [if_pos (by omega)] | rw [if_neg (by omega)])), rfl⟩)
        · by_cases c2 : 1 ≤ f
          · go_wp2_with fail
            all_goals (go_meet; first | (exfalso; omega) | exact ⟨by rw [← hE]; unfold bE; rw [hNv]; (repeat (first | rw [if_pos (by omega)] | rw [if_neg (by omega)])), rfl⟩)
          · go_wp2_with fail
            all_goals (go_meet; first | (exfalso; omega) | exact ⟨by rw [← hE]; unfold bE; rw [hNv]; (repeat (first | rw [if_pos (by omega)] | rw [if_neg (by omega)])), rfl⟩)
    case rest =>
    obtain ⟨rfl, rfl⟩ := hcut
    have kq := fun W : World => w16_any f 9 (by decide) (by decide) W
    obtain ⟨q, hq⟩ : ∃ q, f % 9 = q := ⟨_, rfl⟩
    have hq0 : 0 ≤ q := by omega
    have hq1 : q < 9 := by omega
    simp only [hq] at kq
    go_wp2_with fail
    refine (kq wc).mono ?_
    rintro e W2 ⟨rfl, hw⟩
    rw [hw]
    clear hw W2 kq hq
    have u1 := hs6.off
    have uf := (hs6.blk.1 1 _ rfl).2
    have hs7 : StAt bs (bC (1 + q) 0 f) nilS (wc.setCell ⟨bs, 1, none⟩ (.int .i64 (1 + q))) := by
      have h1 := hs6.blk.1.set 1 (.int .i64 (1 + q)) (by show 1 < 18; decide)
      exact ⟨rfl, h1, h1.lt rfl⟩
    have hB7 : Below w.heap.size w (wc.setCell ⟨bs, 1, none⟩ (.int .i64 (1 + q))) := hB6.setCell (p := ⟨bs, 1, none⟩) hwbs _
    have hbw7 : Below bm w3 (wc.setCell ⟨bs, 1, none⟩ (.int .i64 (1 + q))) := hbw6.setCell (p := ⟨bs, 1, none⟩) (Nat.le_of_lt hbs) _
    have hm7 : BlkL bm (memCs (.slice (some ⟨gG, 0, none⟩) 2 2) i5 s5 o5 y5 k5) (wc.setCell ⟨bs, 1, none⟩ (.int .i64 (1 + q))) := ⟨hm6.1.same (heap_setCell_other _ ⟨bs, 1, none⟩ bm _ (fun e => hne e.symm)), (hm6.1.same (heap_setCell_other _ ⟨bs, 1, none⟩ bm _ (fun e => hne e.symm))).lt rfl⟩
    go_upto_region 23 with fail
    clear u1 uf hs6 hB6 hbw6 hm6
    generalize wc.setCell ⟨bs, 1, none⟩ (.int .i64 (1 + q)) = Y7 at *
    have hG7 := hG.below (show Below w3.heap.size w3 Y7 by rw [hbm]; exact hbw7)
    have hM7 : MemO bm (some ⟨gG, 0, none⟩) 2 [x, xd] i5 s5 o5 y5 k5 Y7 := ⟨hMG, by omega, hm7, hG7⟩
    have ks := cstepV (bC (1 + q) 0 f) (bC_ok (1 + q) hf0 hf1) nilS hM7 (SV.nil _) (flt 35) (by rw [hmap]; exact b_more 18 (by omega) 0 f n)
    have hrs := hs7.blk.range
    have hszC7 : (Try.prog.info? 29).map (·.size) = some (stCs (bC (1 + q) 0 f) nilS).length := hszS
    clear hM7 hG7 hm7 hbw7
    go_wp2_with (first | (refine wpList_load_row rfl _ rfl bs rfl (stCs (bC (1 + q) 0 f) nilS) hrs hundS rfl hszC7 ?_) | fail)
    refine ks.mono ?_
    rintro e Y8 hP
    obtain ⟨vB, rfl, hoB, hbB⟩ := hP.fltE
    have hB8 := Below.then hB7 hbB
    obtain ⟨Y9, hY9, hth9, -, hb9⟩ := new_stC Y8 zeroC rfl vB
    have hB9 := Below.then hB8 hb9
    have hone9 := st_one zeroC vB (SV.own hoB).one
    have hl9 : (stCs zeroC vB).length = 18 := st_len rfl
    obtain ⟨X9, hX9⟩ : ∃ X, stCs zeroC vB = X := ⟨_, rfl⟩
    have hXv : Aside (.agg (stCs zeroC vB).toArray = Value.agg X9.toArray) := by rw [hX9]; exact rfl
    rw [hX9] at hY9 hth9 hone9 hl9
    have hszX : (Try.prog.info? 29).map (·.size) = some X9.length := by rw [hl9]; exact hszS
    clear ks hrs hP hoB hbB hb9 hX9 hl9 hB8 hB7 hs7
    go_wp2_with (first | (refine wpList_store_row rfl _ _ rfl Y8.heap.size rfl X9 hXv.out hth9 hszX hone9 hY9 ?_) | fail)
    go_ret
    exact ⟨rfl, hB9⟩
  · have hNv : bN 1 n = (n : Int) := rfl
    go_upto_block 0 with fail
    go_cut [18] from 69 (fun t18 wc => t18 = .int .i64 E ∧ wc = V6)
    case first =>
      skip
      by_cases c0 : f < 0
      · by_cases c1 : 16 ≤ f
        · omega
        · by_cases c2 : (n : Int) ≤ f
          · go_wp2_with fail
            all_goals (go_meet; first | (exfalso; omega) | exact ⟨by rw [← hE]; unfold bE; rw [hNv]; (repeat (first | rw [if_pos (by omega)] | rw [if_neg (by omega)])), rfl⟩)
          · go_wp2_with fail
            all_goals (go_meet; first | (exfalso; omega) | exact ⟨by rw [← hE]; unfold bE; rw [hNv]; (repeat (first | rw [if_pos (by omega)] | rw [if_neg (by omega)])), rfl⟩)
      · by_cases c1 : 16 ≤ f
        · by_cases c2 : (n : Int) ≤ f
          · go_wp2_with fail
            all_goals (go_meet; first | (exfalso; omega) | exact ⟨by rw [← hE]; unfold bE; rw [hNv]; (repeat (first | rw [if_pos (by omega)] | rw [if_neg (by omega)])), rfl⟩)
          · go_wp2_with fail
            all_goals (go_meet; first | (exfalso; omega) | exact ⟨by rw [← hE]; unfold bE; rw [hNv]; (repeat (first | rw [if_pos (by omega)] | rw [if_neg (by omega)])), rfl⟩)
        · by_cases c2 : (n : Int) ≤ f
          · go_wp2_with fail
            all_goals (go_meet; first | (exfalso; omega) | exact ⟨by rw [← hE]; unfold bE; rw [hNv]; (repeat (first | rw [if_pos (by omega)] | rw [if_neg (by omega)])), rfl⟩)
          · go_wp2_with fail
            all_goals (go_meet; first | (exfalso; omega) | exact ⟨by rw [← hE]; unfold bE; rw [hNv]; (repeat (first | rw [if_pos (by omega)] | rw [if_neg (by omega)])), rfl⟩)
    case rest =>
    obtain ⟨rfl, rfl⟩ := hcut
    have kq := fun W : World => w16_any f 9 (by decide) (by decide) W
    obtain ⟨q, hq⟩ : ∃ q, f % 9 = q := ⟨_, rfl⟩
    have hq0 : 0 ≤ q := by omega
    have hq1 : q < 9 := by omega
    simp only [hq] at kq
    go_wp2_with fail
    refine (kq wc).mono ?_
    rintro e W2 ⟨rfl, hw⟩
    rw [hw]
    clear hw W2 kq hq
    have u1 := hs6.off
    have uf := (hs6.blk.1 1 _ rfl).2
    have hs7 : StAt bs (bC (1 + q) 1 f) nilS (wc.setCell ⟨bs, 1, none⟩ (.int .i64 (1 + q))) := by
      have h1 := hs6.blk.1.set 1 (.int .i64 (1 + q)) (by show 1 < 18; decide)
      exact ⟨rfl, h1, h1.lt rfl⟩
    have hB7 : Below w.heap.size w (wc.setCell ⟨bs, 1, none⟩ (.int .i64 (1 + q))) := hB6.setCell (p := ⟨bs, 1, none⟩) hwbs _
    have hbw7 : Below bm w3 (wc.setCell ⟨bs, 1, none⟩ (.int .i64 (1 + q))) := hbw6.setCell (p := ⟨bs, 1, none⟩) (Nat.le_of_lt hbs) _
    have hm7 : BlkL bm (memCs (.slice (some ⟨gG, 0, none⟩) 2 2) i5 s5 o5 y5 k5) (wc.setCell ⟨bs, 1, none⟩ (.int .i64 (1 + q))) := ⟨hm6.1.same (heap_setCell_other _ ⟨bs, 1, none⟩ bm _ (fun e => hne e.symm)), (hm6.1.same (heap_setCell_other _ ⟨bs, 1, none⟩ bm _ (fun e => hne e.symm))).lt rfl⟩
    go_upto_region 23 with fail
    clear u1 uf hs6 hB6 hbw6 hm6
    generalize wc.setCell ⟨bs, 1, none⟩ (.int .i64 (1 + q)) = Y7 at *
    have hG7 := hG.below (show Below w3.heap.size w3 Y7 by rw [hbm]; exact hbw7)
    have hM7 : MemO bm (some ⟨gG, 0, none⟩) 2 [x, xd] i5 s5 o5 y5 k5 Y7 := ⟨hMG, by omega, hm7, hG7⟩
    have ks := cstepV (bC (1 + q) 1 f) (bC_ok (1 + q) hf0 hf1) nilS hM7 (SV.nil _) (flt 35) (by rw [hmap]; exact b_more 18 (by omega) 1 f n)
    have hrs := hs7.blk.range
    have hszC7 : (Try.prog.info? 29).map (·.size) = some (stCs (bC (1 + q) 1 f) nilS).length := hszS
    clear hM7 hG7 hm7 hbw7
    go_wp2_with (first | (refine wpList_load_row rfl _ rfl bs rfl (stCs (bC (1 + q) 1 f) nilS) hrs hundS rfl hszC7 ?_) | fail)
    refine ks.mono ?_
    rintro e Y8 hP
    obtain ⟨vB, rfl, hoB, hbB⟩ := hP.fltE
    have hB8 := Below.then hB7 hbB
    obtain ⟨Y9, hY9, hth9, -, hb9⟩ := new_stC Y8 zeroC rfl vB
    have hB9 := Below.then hB8 hb9
    have hone9 := st_one zeroC vB (SV.own hoB).one
    have hl9 : (stCs zeroC vB).length = 18 := st_len rfl
    obtain ⟨X9, hX9⟩ : ∃ X, stCs zeroC vB = X := ⟨_, rfl⟩
    have hXv : Aside (.agg (stCs zeroC vB).toArray = Value.agg X9.toArray) := by rw [hX9]; exact rfl
    rw [hX9] at hY9 hth9 hone9 hl9
    have hszX : (Try.prog.info? 29).map (·.size) = some X9.length := by rw [hl9]; exact hszS
    clear ks hrs hP hoB hbB hb9 hX9 hl9 hB8 hB7 hs7
    go_wp2_with (first | (refine wpList_store_row rfl _ _ rfl Y8.heap.size rfl X9 hXv.out hth9 hszX hone9 hY9 ?_) | fail)
    go_ret
    exact ⟨rfl, hB9⟩
  · have hNv : bN 2 n = -1 := rfl
    go_upto_block 0 with fail
    go_cut [18] from 69 (fun t18 wc => t18 = .int .i64 E ∧ wc = V6)
    case first =>
      skip
      by_cases c0 : f < 0
      · by_cases c1 : 16 ≤ f
        · omega
        · by_cases c2 : -1 ≤ f
          · go_wp2_with fail
            all_goals (go_meet; first | (exfalso; omega) | exact ⟨by rw [← hE]; unfold bE; rw [hNv]; (repeat (first | rw [if_pos (by omega)] | rw [if_neg (by omega)])), rfl⟩)
          · go_wp2_with fail
            all_goals (go_meet; first | (exfalso; omega) | exact ⟨by rw [← hE]; unfold bE; rw [hNv]; (repeat (first | rw [if_pos (by omega)] | rw [if_neg (by omega)])), rfl⟩)
      · by_cases c1 : 16 ≤ f
        · by_cases c2 : -1 ≤ f
          · go_wp2_with fail
            all_goals (go_meet; first | (exfalso; omega) | exact ⟨by rw [← hE]; unfold bE; rw [hNv]; (repeat (first | rw [if_pos (by omega)] | rw [if_neg (by omega)])), rfl⟩)
          · go_wp2_with fail
            all_goals (go_meet; first | (exfalso; omega) | exact ⟨by rw [← hE]; unfold bE; rw [hNv]; (repeat (first | rw [if_pos (by omega)] | rw [if_neg (by omega)])), rfl⟩)
        · by_cases c2 : -1 ≤ f
          · go_wp2_with fail
            all_goals (go_meet; first | (exfalso; omega) | exact ⟨by rw [← hE]; unfold bE; rw [hNv]; (repeat (first | rw [if_pos (by omega)] | rw [if_neg (by omega)])), rfl⟩)
          · go_wp2_with fail
            all_goals (go_meet; first | (exfalso; omega) | exact ⟨by rw [← hE]; unfold bE; rw [hNv]; (repeat (first | rw [if_pos (by omega)] | rw [if_neg (by omega)])), rfl⟩)
    case rest =>
    obtain ⟨rfl, rfl⟩ := hcut
    have kq := fun W : World => w16_any f 9 (by decide) (by decide) W
    obtain ⟨q, hq⟩ : ∃ q, f % 9 = q := ⟨_, rfl⟩
    have hq0 : 0 ≤ q := by omega
    have hq1 : q < 9 := by omega
    simp only [hq] at kq
    go_wp2_with fail
    refine (kq wc).mono ?_
    rintro e W2 ⟨rfl, hw⟩
    rw [hw]
    clear hw W2 kq hq
    have u1 := hs6.off
    have uf := (hs6.blk.1 1 _ rfl).2
    have hs7 : StAt bs (bC (1 + q) 2 f) nilS (wc.setCell ⟨bs, 1, none⟩ (.int .i64 (1 + q))) := by
      have h1 := hs6.blk.1.set 1 (.int .i64 (1 + q)) (by show 1 < 18; decide)
      exact ⟨rfl, h1, h1.lt rfl⟩
    have hB7 : Below w.heap.size w (wc.setCell ⟨bs, 1, none⟩ (.int .i64 (1 + q))) := hB6.setCell (p := ⟨bs, 1, none⟩) hwbs _
    have hbw7 : Below bm w3 (wc.setCell ⟨bs, 1, none⟩ (.int .i64 (1 + q))) := hbw6.setCell (p := ⟨bs, 1, none⟩) (Nat.le_of_lt hbs) _
    have hm7 : BlkL bm (memCs (.slice (some ⟨gG, 0, none⟩) 2 2) i5 s5 o5 y5 k5) (wc.setCell ⟨bs, 1, none⟩ (.int .i64 (1 + q))) := ⟨hm6.1.same (heap_setCell_other _ ⟨bs, 1, none⟩ bm _ (fun e => hne e.symm)), (hm6.1.same (heap_setCell_other _ ⟨bs, 1, none⟩ bm _ (fun e => hne e.symm))).lt rfl⟩
    go_upto_region 23 with fail
    clear u1 uf hs6 hB6 hbw6 hm6
    generalize wc.setCell ⟨bs, 1, none⟩ (.int .i64 (1 + q)) = Y7 at *
    have hG7 := hG.below (show Below w3.heap.size w3 Y7 by rw [hbm]; exact hbw7)
    have hM7 : MemO bm (some ⟨gG, 0, none⟩) 2 [x, xd] i5 s5 o5 y5 k5 Y7 := ⟨hMG, by omega, hm7, hG7⟩
    have ks := cstepV (bC (1 + q) 2 f) (bC_ok (1 + q) hf0 hf1) nilS hM7 (SV.nil _) (flt 35) (by rw [hmap]; exact b_more 18 (by omega) 2 f n)
    have hrs := hs7.blk.range
    have hszC7 : (Try.prog.info? 29).map (·.size) = some (stCs (bC (1 + q) 2 f) nilS).length := hszS
    clear hM7 hG7 hm7 hbw7
    go_wp2_with (first | (refine wpList_load_row rfl _ rfl bs rfl (stCs (bC (1 + q) 2 f) nilS) hrs hundS rfl hszC7 ?_) | fail)
    refine ks.mono ?_
    rintro e Y8 hP
    obtain ⟨vB, rfl, hoB, hbB⟩ := hP.fltE
    have hB8 := Below.then hB7 hbB
    obtain ⟨Y9, hY9, hth9, -, hb9⟩ := new_stC Y8 zeroC rfl vB
    have hB9 := Below.then hB8 hb9
    have hone9 := st_one zeroC vB (SV.own hoB).one
    have hl9 : (stCs zeroC vB).length = 18 := st_len rfl
    obtain ⟨X9, hX9⟩ : ∃ X, stCs zeroC vB = X := ⟨_, rfl⟩
    have hXv : Aside (.agg (stCs zeroC vB).toArray = Value.agg X9.toArray) := by rw [hX9]; exact rfl
    rw [hX9] at hY9 hth9 hone9 hl9
    have hszX : (Try.prog.info? 29).map (·.size) = some X9.length := by rw [hl9]; exact hszS
    clear ks hrs hP hoB hbB hb9 hX9 hl9 hB8 hB7 hs7
    go_wp2_with (first | (refine wpList_store_row rfl _ _ rfl Y8.heap.size rfl X9 hXv.out hth9 hszX hone9 hY9 ?_) | fail)
    go_ret
    exact ⟨rfl, hB9⟩
  · have hNv : bN 3 n = -1 := rfl
    go_upto_block 0 with fail
    go_cut [18] from 69 (fun t18 wc => t18 = .int .i64 E ∧ wc = V6)
    case first =>
      skip
      by_cases c0 : f < 0
      · by_cases c1 : 16 ≤ f
        · omega
        · by_cases c2 : -1 ≤ f
          · go_wp2_with fail
            all_goals (go_meet; first | (exfalso; omega) | exact ⟨by rw [← hE]; unfold bE; rw [hNv]; (repeat (first | rw [if_pos (by omega)] | rw [if_neg (by omega)])), rfl⟩)
          · go_wp2_with fail
            all_goals (go_meet; first | (exfalso; omega) | exact ⟨by rw [← hE]; unfold bE; rw [hNv]; (repeat (first | rw [if_pos (by omega)] | rw [if_neg (by omega)])), rfl⟩)
      · by_cases c1 : 16 ≤ f
        · by_cases c2 : -1 ≤ f
          · go_wp2_with fail
            all_goals (go_meet; first | (exfalso; omega) | exact ⟨by rw [← hE]; unfold bE; rw [hNv]; (repeat (first | rw [if_pos (by omega)] | rw [if_neg (by omega)])), rfl⟩)
          · go_wp2_with fail
            all_goals (go_meet; first | (exfalso; omega) | exact ⟨by rw [← hE]; unfold bE; rw [hNv]; (repeat (first | rw [if_pos (by omega)] | rw [if_neg (by omega)])), rfl⟩)
        · by_cases c2 : -1 ≤ f
          · go_wp2_with fail
            all_goals (go_meet; first | (exfalso; omega) | exact ⟨by rw [← hE]; unfold bE; rw [hNv]; (repeat (first | rw [if_pos (by omega)] | rw [if_neg (by omega)])), rfl⟩)
          · go_wp2_with fail
            all_goals (go_meet; first | (exfalso; omega) | exact ⟨by rw [← hE]; unfold bE; rw [hNv]; (repeat (first | rw [if_pos (by omega)] | rw [if_neg (by omega)])), rfl⟩)
    case rest =>
    obtain ⟨rfl, rfl⟩ := hcut
    have kq := fun W : World => w16_any f 9 (by decide) (by decide) W
    obtain ⟨q, hq⟩ : ∃ q, f % 9 = q := ⟨_, rfl⟩
    have hq0 : 0 ≤ q := by omega
    have hq1 : q < 9 := by omega
    simp only [hq] at kq
    go_wp2_with fail
    refine (kq wc).mono ?_
    rintro e W2 ⟨rfl, hw⟩
    rw [hw]
    clear hw W2 kq hq
    have u1 := hs6.off
    have uf := (hs6.blk.1 1 _ rfl).2
    have hs7 : StAt bs (bC (1 + q) 3 f) nilS (wc.setCell ⟨bs, 1, none⟩ (.int .i64 (1 + q))) := by
      have h1 := hs6.blk.1.set 1 (.int .i64 (1 + q)) (by show 1 < 18; decide)
      exact ⟨rfl, h1, h1.lt rfl⟩
    have hB7 : Below w.heap.size w (wc.setCell ⟨bs, 1, none⟩ (.int .i64 (1 + q))) := hB6.setCell (p := ⟨bs, 1, none⟩) hwbs _
    have hbw7 : Below bm w3 (wc.setCell ⟨bs, 1, none⟩ (.int .i64 (1 + q))) := hbw6.setCell (p := ⟨bs, 1, none⟩) (Nat.le_of_lt hbs) _
    have hm7 : BlkL bm (memCs (.slice (some ⟨gG, 0, none⟩) 2 2) i5 s5 o5 y5 k5) (wc.setCell ⟨bs, 1, none⟩ (.int .i64 (1 + q))) := ⟨hm6.1.same (heap_setCell_other _ ⟨bs, 1, none⟩ bm _ (fun e => hne e.symm)), (hm6.1.same (heap_setCell_other _ ⟨bs, 1, none⟩ bm _ (fun e => hne e.symm))).lt rfl⟩
    go_upto_region 23 with fail
    clear u1 uf hs6 hB6 hbw6 hm6
    generalize wc.setCell ⟨bs, 1, none⟩ (.int .i64 (1 + q)) = Y7 at *
    have hG7 := hG.below (show Below w3.heap.size w3 Y7 by rw [hbm]; exact hbw7)
    have hM7 : MemO bm (some ⟨gG, 0, none⟩) 2 [x, xd] i5 s5 o5 y5 k5 Y7 := ⟨hMG, by omega, hm7, hG7⟩
    have ks := cstepV (bC (1 + q) 3 f) (bC_ok (1 + q) hf0 hf1) nilS hM7 (SV.nil _) (flt 35) (by rw [hmap]; exact b_more 18 (by omega) 3 f n)
    have hrs := hs7.blk.range
    have hszC7 : (Try.prog.info? 29).map (·.size) = some (stCs (bC (1 + q) 3 f) nilS).length := hszS
    clear hM7 hG7 hm7 hbw7
    go_wp2_with (first | (refine wpList_load_row rfl _ rfl bs rfl (stCs (bC (1 + q) 3 f) nilS) hrs hundS rfl hszC7 ?_) | fail)
    refine ks.mono ?_
    rintro e Y8 hP
    obtain ⟨vB, rfl, hoB, hbB⟩ := hP.fltE
    have hB8 := Below.then hB7 hbB
    obtain ⟨Y9, hY9, hth9, -, hb9⟩ := new_stC Y8 zeroC rfl vB
    have hB9 := Below.then hB8 hb9
    have hone9 := st_one zeroC vB (SV.own hoB).one
    have hl9 : (stCs zeroC vB).length = 18 := st_len rfl
    obtain ⟨X9, hX9⟩ : ∃ X, stCs zeroC vB = X := ⟨_, rfl⟩
    have hXv : Aside (.agg (stCs zeroC vB).toArray = Value.agg X9.toArray) := by rw [hX9]; exact rfl
    rw [hX9] at hY9 hth9 hone9 hl9
    have hszX : (Try.prog.info? 29).map (·.size) = some X9.length := by rw [hl9]; exact hszS
    clear ks hrs hP hoB hbB hb9 hX9 hl9 hB8 hB7 hs7
    go_wp2_with (first | (refine wpList_store_row rfl _ _ rfl Y8.heap.size rfl X9 hXv.out hth9 hszX hone9 hY9 ?_) | fail)
    go_ret
    exact ⟨rfl, hB9⟩
set_option maxRecDepth 8000 in
set_option maxHeartbeats 8000000 in
theorem cpuBounds20 (off seg op size g s z : Int) (n : Nat) (hg : off % 24 = g) (hs : seg % 4 = s) (hz : size % 8 = z) (hk : op % 4 = 3) (hn : z = n) (w : World) :
    Calls Try.prog 6 #[.int .i64 off, .int .i64 seg, .int .i64 op, .int .i64 size] w fun e w' => e = .returned (.bool true) ∧ Below w.heap.size w w' := by
  have hundS := Try.underlying29
  have hszS : (Try.prog.info? 29).map (·.size) = some 18 := by kernel_rfl
  have hundG := Try.underlying39
  have hszG : (Try.prog.info? 39).map (·.size) = some 7 := by kernel_rfl
  have hszP : (Try.prog.info? 25).map (·.size) = some 3 := by kernel_rfl
  have hmi : ∀ (v : Value) (w : World), (Instr.makeInterface 34 v).run Try.prog w = .ok (.iface 34 v) w := fun _ _ => rfl
  have k1 := fun W : World => w16_any off 24 (by decide) (by decide) W
  have k2 := fun W : World => w16_any seg 4 (by decide) (by decide) W
  have k3 := fun W : World => w16_any size 8 (by decide) (by decide) W
  have k4 := fun W : World => w16_any op 4 (by decide) (by decide) W
  have hg0 : 0 ≤ g := by omega
  have hg1 : g < 24 := by omega
  have hs0 : 0 ≤ s := by omega
  have hs4 : s ≤ 3 := by omega
  have hn7 : n ≤ 7 := by omega
  simp only [hg] at k1
  simp only [hs] at k2
  simp only [hz] at k3
  simp only [hk] at k4
  obtain ⟨f, hf⟩ : ∃ f, g - 4 = f := ⟨_, rfl⟩
  have hf0 : -4 ≤ f := by omega
  have hf1 : f ≤ 19 := by omega
  clear hg hs hz hk
  go_enter Try.func6, Try.ntmps6
  go_wp2_with fail
  refine (ck_any w).mono ?_
  rintro e W1 ⟨rfl, hB1⟩
  go_wp2_with fail
  refine (k1 W1).mono ?_
  rintro e W2 ⟨rfl, hw⟩
  rw [hw]
  clear hw W2
  go_wp2_with fail
  refine (k2 W1).mono ?_
  rintro e W2 ⟨rfl, hw⟩
  rw [hw]
  clear hw W2
  go_wp2_with fail
  refine (k3 W1).mono ?_
  rintro e W2 ⟨rfl, hw⟩
  rw [hw]
  clear hw W2
  go_upto_region 4 with fail
  have hbA := alloc_below W1 (.cells #[.int .i64 1, .int .i64 2, .int .i64 18, .int .i64 20] 3)
  have hB2 := Below.then hB1 hbA
  go_wp2_with fail
  refine (k4 _).mono ?_
  rintro e W2 ⟨rfl, hw⟩
  rw [hw]
  clear hw W2
  go_upto_region 5 with fail
  clear hbA hB1 k1 k2 k3 k4
  generalize W1.alloc (.cells #[.int .i64 1, .int .i64 2, .int .i64 18, .int .i64 20] 3) = U1 at *
  obtain ⟨U2, hU2⟩ : ∃ U2, U1.alloc (.cells ((List.replicate n 0).flatMap wcl).toArray 2) = U2 := ⟨_, rfl⟩
  have hbR := alloc_below U1 (.cells ((List.replicate n 0).flatMap wcl).toArray 2)
  have hrR := row_list (f := wcl) (sz := 1) (fun _ => rfl) U1 (List.replicate n 0) _ rfl 2
  rw [hU2] at hbR hrR
  obtain ⟨xd, hxd⟩ : ∃ xd : PG, PG.mk (bD n) (some ⟨U1.heap.size, 0, none⟩) n = xd := ⟨_, rfl⟩
  have hxdv : Aside (Value.agg #[.bool true, .slice (some ⟨U1.heap.size, 0, none⟩) n n, .int .i64 7, .int .i64 4, .int .i64 4, .int .i64 4, .int .i64 0] = .agg xd.cs.toArray) := by
    rw [← hxd]
    unfold PG.cs PG.v
    rw [show (PG.mk (bD n) (some ⟨U1.heap.size, 0, none⟩) n).g.ws.length = n from bD_len n]
    exact rfl
  have hdg : xd.g = bD n := by rw [← hxd]
  have hdw : xd.wa ≠ none := by rw [← hxd]; intro q; cases q
  have hda2 : xd.At U2 := by rw [← hxd]; exact hrR
  have hszd : (Try.prog.info? 39).map (·.size) = some xd.cs.length := by rw [pg_len]; exact hszG
  obtain ⟨Z, hZ, hthZ, hdz, hbZ⟩ := put_new U2 (sgCs zeroG nilS).toArray 39 xd.cs (by rw [pg_len]; rfl) (by rw [pg_len]; decide)
  have hda := hda2.below hbZ
  have hB := Below.then (Below.then hB2 hbR) hbZ
  go_upto_region 6 with (first | (refine wpList_makeN rfl _ rfl (n : Int) n rfl rfl hn7 ?_; rw [hU2]) | (refine wpList_store_row rfl _ _ rfl U2.heap.size rfl xd.cs hxdv.out hthZ hszd (pg_one _) hZ ?_) | fail)
  clear hZ hthZ hbZ hbR hrR hU2 hxd hxdv hda2 hB2
  generalize U2.heap.size = bd at *
  have hS := (Below.refl Z.heap.size Z).drew
  replace hB := Below.then hB hS
  replace hda := hda.below hS
  refine wp_region_held_drew (S := (fun W => Below Z.heap.size Z W)) (by kernel_rfl) (by exact hS) ?_
  intro hHeld
  generalize Z.drew = w0 at *
  refine wpAnyH_take (i := 0) (v := ?_) (by simp only [gA, gB, gC]; rfl) (by kernel_rfl) (by kernel_rfl) (by kernel_rfl) (by exact fun _ _ _ h => h) (Or.inl ⟨by rfl, ?_⟩) (by assumption) ?_; rotate_left; (focus (intro w hSw; (try dsimp only at hSw); go_simp; try with_reducible rfl)); (try simp only [Act.put, sA, sB, sC])
  refine wpAnyH_take (i := 1) (v := ?_) (by simp only [gA, gB, gC]; rfl) (by kernel_rfl) (by kernel_rfl) (by kernel_rfl) (by exact fun _ _ _ h => h) (Or.inl ⟨by rfl, ?_⟩) (by assumption) ?_; rotate_left; (focus (intro w hSw; (try dsimp only at hSw); go_simp; try with_reducible rfl)); (try simp only [Act.put, sA, sB, sC])
  refine wpAnyH_take (i := 4) (v := _) (by simp only [gA, gB, gC]; rfl) (by kernel_rfl) (by kernel_rfl) (by kernel_rfl) (by exact fun _ _ _ h => h) (yields_row (by rfl) _ rfl bd rfl xd.cs (fun _ q => (stab_blk _ _ _ _ hdz q).range) hundG rfl hszd) (by assumption) ?_; (try simp only [Act.put, sA, sB, sC])
  refine wpAnyH_ready (rs := [2]) (by kernel_rfl) (by simp) ?_
  refine AllReadyH.cons (by simp only [gA, gB, gC]; rfl) (fun K hK => ?_) AllReadyH.nil
  have hb := alloc_below w0 (.cells (ins3 ⟨20, 1, 0⟩).toArray 42)
  have hI := row_list (f := ins3) (sz := 3) (fun _ => rfl) w0 [⟨20, 1, 0⟩] (ins3 ⟨20, 1, 0⟩).toArray (by simp) 42
  refine step_build1 in_okC (by decide) rfl _ rfl (ins3 ⟨20, 1, 0⟩) rfl rfl ?_
  (try simp only [Act.put, sA, sB, sC])
  refine hK.out _ _ (Below.then hS hb) ?_
  clear hHeld hK
  intro hHeld
  replace hB := Below.then hB hb
  replace hS := Below.then hS hb
  replace hda := hda.below hb
  clear hb
  generalize w0.alloc (.cells (ins3 ⟨20, 1, 0⟩).toArray 42) = w1 at *
  generalize w0.heap.size = gI at *
  (try simp only [Act.put, sA, sB, sC])
  refine wpAnyH_ready (rs := [3]) (by kernel_rfl) (by simp) ?_
  refine AllReadyH.cons (by simp only [gA, gB, gC]; rfl) (fun K hK => ?_) AllReadyH.nil
  go_simp
  go_at_call 12
  refine (cone_any [⟨20, 1, 0⟩] [] (some ⟨gI, 0, none⟩) none 1 0 (by show 1 ≤ 100; decide) (by show 0 ≤ 100; decide) (fun _ => rfl) w1 hI (fun j y h => by simp at h)).mono ?_
  rintro e w2 ⟨x, hxg, rfl, hxo, hb⟩
  replace hB := Below.then hB hb
  replace hS := Below.then hS hb
  replace hda := hda.below hb
  clear hb hI
  refine hK.out _ _ (hS) ?_
  clear hHeld hK
  intro hHeld
  (try simp only [Act.put, sA, sB, sC])
  refine wpAnyH_ready (rs := [5]) (by kernel_rfl) (by simp) ?_
  refine AllReadyH.cons (by simp only [gA, gB, gC]; rfl) (fun K hK => ?_) AllReadyH.nil
  have hb := alloc_below w2 (.cells (x.cs ++ xd.cs).toArray 39)
  have hR := row_list pg_len w2 [x, xd] (x.cs ++ xd.cs).toArray (by simp) 39
  refine step_build2 pg_okC (by decide) rfl _ _ rfl x.cs xd.cs rfl rfl rfl rfl ?_
  (try simp only [Act.put, sA, sB, sC])
  refine hK.out _ _ (Below.then hS hb) ?_
  clear hHeld hK
  intro hHeld
  replace hB := Below.then hB hb
  replace hS := Below.then hS hb
  replace hda := hda.below hb
  replace hxo := hxo.below hb
  clear hb
  generalize w2.alloc (.cells (x.cs ++ xd.cs).toArray 39) = w3 at *
  generalize w2.heap.size = gG at *
  (try simp only [Act.put, sA, sB, sC])
  refine wpAnyH_take (i := 6) (v := ?_) (by simp only [gA, gB, gC]; rfl) (by kernel_rfl) (by kernel_rfl) (by kernel_rfl) (by exact fun _ _ _ h => h) (Or.inl ⟨by rfl, ?_⟩) (by assumption) ?_; rotate_left; (focus (intro w hSw; (try dsimp only at hSw); go_simp; try with_reducible rfl)); (try simp only [Act.put, sA, sB, sC])
  refine wpAnyH_ready (rs := [7]) (by kernel_rfl) (by simp) ?_
  refine AllReadyH.cons (by simp only [gA, gB, gC]; rfl) (fun K hK => ?_) AllReadyH.nil
  go_simp
  have hb : Below w3.heap.size w3 (w3.alloc (.cells #[.slice (some ⟨gG, 0, none⟩) 2 2, .bool false, .int .i64 0, .int .i64 0, .int .i64 0, .int .i64 0] 48)) := alloc_below w3 _
  have hm : BlkL w3.heap.size (memCs (.slice (some ⟨gG, 0, none⟩) 2 2) false 0 0 0 0) (w3.alloc (.cells #[.slice (some ⟨gG, 0, none⟩) 2 2, .bool false, .int .i64 0, .int .i64 0, .int .i64 0, .int .i64 0] 48)) := blkl_alloc w3 #[.slice (some ⟨gG, 0, none⟩) 2 2, .bool false, .int .i64 0, .int .i64 0, .int .i64 0, .int .i64 0] 48
  have hxa := own_at hxo
  have hG : RowG w3 (some ⟨gG, 0, none⟩) [x, xd] := ⟨hR, fun z hz => by rcases List.mem_cons.1 hz with rfl | hz; exact hxa; rw [List.mem_singleton.1 hz]; exact hda⟩
  have hbW := hb
  have hlw3 := hB.size
  refine hK.out _ _ (Below.then hS hb) ?_
  clear hHeld hK
  intro hHeld
  replace hB := Below.then hB hb
  have hgB := hB.size
  clear hb hR hda hxa hS
  generalize w3.alloc (.cells #[.slice (some ⟨gG, 0, none⟩) 2 2, .bool false, .int .i64 0, .int .i64 0, .int .i64 0, .int .i64 0] 48) = w4 at *
  (try simp only [Act.put, sA, sB, sC])
  refine wpAnyH_take (i := 8) (v := ?_) (by simp only [gA, gB, gC]; rfl) (by kernel_rfl) (by kernel_rfl) (by kernel_rfl) (by exact fun _ _ _ h => h) (Or.inl ⟨by rfl, ?_⟩) (by assumption) ?_; rotate_left; (focus (intro w hSw; (try dsimp only at hSw); go_simp; try with_reducible rfl)); (try simp only [Act.put, sA, sB, sC])
  refine wpAnyH_done (by kernel_rfl) ?_ _
  have hMG : MG [x, xd] := by
    obtain ⟨a1, c1, hv, -, hn1, -⟩ := hxo.slice wd_okC.len
    have hv' : Value.slice x.wa x.g.ws.length x.wc = .slice a1 x.g.ws.length c1 := hv
    injection hv' with e1 e2 e3
    refine ⟨by simp, fun z hz => ?_, fun z hz => ?_⟩
    · rcases List.mem_cons.1 hz with rfl | hz
      · rw [hxg]; exact bG_ok 20
      · rw [List.mem_singleton.1 hz, hdg]; exact bD_ok (by omega)
    · rcases List.mem_cons.1 hz with rfl | hz
      · rw [e1, e3]; exact hn1
      · rw [List.mem_singleton.1 hz]; exact fun q => absurd q hdw
  have hlw : w.heap.size ≤ w3.heap.size := hlw3
  clear hxo hlw3
  generalize hbm : w3.heap.size = bm at *
  go_wp2_with fail
  refine (cnew_any w4).mono ?_
  rintro e V1 ⟨rfl, hb1⟩
  obtain ⟨V2, hV2, hthV, hsV, hbV⟩ := new_stC V1 newC rfl nilS
  obtain ⟨V3, hV3, hth3, hs3, hk3, -⟩ := hsV.putPtr (k := 1) (by decide) ⟨s, f, 4⟩ (c' := bC 0 s f) rfl rfl
  have hb3 : Below V1.heap.size V1 V3 := hk3 _ _ (Nat.le_refl _) hbV
  have hB3 := Below.then (Below.then hB hb1) hb3
  have hm3 := stab_blk _ _ _ _ (stab_blk _ _ _ _ hm hb1) hb3
  have hbw3 : Below bm w3 V3 := hbW.trans ((Below.then hb1 hb3).mono (Nat.le_of_lt hm.2))
  have hG3 := hG.below (show Below w3.heap.size w3 V3 by rw [hbm]; exact hbw3)
  have hbs0 : bm < V1.heap.size := by
    have h1 := hm.2
    have h2 := hb1.size
    omega
  have hne : V1.heap.size ≠ bm := by omega
  have hone8 : ∀ u ∈ stCs newC nilS, u.oneCell' = true := st_one _ _ rfl
  have hsz8 : (Try.prog.info? 29).map (·.size) = some (stCs newC nilS).length := by kernel_rfl
  obtain ⟨Y, hY⟩ : ∃ Y, stCs newC nilS = Y := ⟨_, rfl⟩
  rw [hY] at hV2 hthV hone8 hsz8
  have hYv : Aside (.agg (stCs newC nilS).toArray = Value.agg Y.toArray) := by rw [hY]; exact rfl
  clear hY hsV hbV hk3 hm hB hbW hb1 hb3
  go_upto_region 8 with (first | (refine wpList_store_row rfl _ _ rfl V1.heap.size rfl Y hYv.out hthV hsz8 hone8 hV2 ?_) | fail)
  clear hV2 hthV hone8 hsz8 hYv
  go_upto_region 9 with (first | (refine wpList_store_part rfl _ _ rfl V1.heap.size 7 rfl (ptr3 ⟨s, f, 4⟩) rfl hth3 hszP (ptr3J_one _) hV3 ?_) | fail)
  clear hV3 hth3
  have hbs : bm < V1.heap.size := hbs0
  have hwbs : w.heap.size ≤ V1.heap.size := by omega
  clear hbs0
  generalize V1.heap.size = bs at *
  have hM3 : MemO bm (some ⟨gG, 0, none⟩) 2 [x, xd] false 0 0 0 0 V3 := ⟨hMG, ⟨by decide, by decide⟩, hm3, hG3⟩
  obtain ⟨O, hO⟩ : ∃ O, stepC (bC 0 s f) [oneG [⟨20, 1, 0⟩] [], bD n] = O := ⟨_, rfl⟩
  have hOe : O.e = bE 20 s f n := by rw [← hO]; exact b_step (by decide) hs0 hs4 f n
  have hOl : O.t.ps.length = 4 := by rw [← hO]; exact stepC_len rfl _
  have hmap : [x, xd].map (·.g) = [oneG [⟨20, 1, 0⟩] [], bD n] := by simp [hxg, hdg]
  have ks := cstepV (bC 0 s f) (bC_ok 0 hf0 hf1) nilS hM3 (SV.nil _) O (by rw [hmap]; exact hO)
  have hrs := hs3.blk.range
  have hszC : (Try.prog.info? 29).map (·.size) = some (stCs (bC 0 s f) nilS).length := hszS
  clear hM3 hG3 hO
  go_wp2_with (first | (refine wpList_load_row rfl _ rfl bs rfl (stCs (bC 0 s f) nilS) hrs hundS rfl hszC ?_) | fail)
  refine ks.mono ?_
  rintro e V5 hP
  obtain ⟨vA, he, hvA, hLb, hkp, i5, s5, o5, y5, k5, hk5, hm5⟩ := hP.all hm3
  subst he
  have hB5 : Below w.heap.size w V5 := hB3.trans (hLb _ hlw)
  have hbw5 : Below bm w3 V5 := hbw3.trans (hLb _ (Nat.le_refl _))
  have hs5 : StAt bs (bC 0 s f) nilS V5 := ⟨rfl, hkp _ _ hne hs3.blk⟩
  obtain ⟨V6, hV6, hth6, -, hb6⟩ := new_stC V5 O.t hOl vA
  have hB6 := Below.then hB5 hb6
  have hbw6 : Below bm w3 V6 := hbw5.trans (hb6.mono (Nat.le_of_lt hm5.2))
  have hm6 := stab_blk _ _ _ _ hm5 hb6
  have hs6 := hs5.keep hb6
  have hone6 := st_one O.t vA hvA
  have hl6 : (stCs O.t vA).length = 18 := st_len hOl
  obtain ⟨X, hX⟩ : ∃ X, stCs O.t vA = X := ⟨_, rfl⟩
  rw [hX] at hV6 hth6 hone6 hl6
  have hszX : (Try.prog.info? 29).map (·.size) = some X.length := by rw [hl6]; exact hszS
  simp only [hX, hOe]
  generalize hE : bE 20 s f n = E at *
  generalize O.v = Ov at *
  generalize O.told = Ot at *
  clear ks hP hLb hkp hm5 hB5 hbw5 hs5 hb6 hX hl6 hvA hrs hm3 hB3 hbw3 hs3 hOe hOl
  go_upto_region 10 with (first | (refine wpList_store_row rfl _ _ rfl V5.heap.size rfl X rfl hth6 hszX hone6 hV6 ?_) | fail)
  clear hV6 hth6 hszX hone6
  have hc : s = 0 ∨ s = 1 ∨ s = 2 ∨ s = 3 := by omega
  rcases hc with rfl | rfl | rfl | rfl
  · have hNv : bN 0 n = 1 := rfl
    go_upto_block 0 with fail
    go_cut [18] from 69 (fun t18 wc => t18 = .int .i64 E ∧ wc = V6)
    case first =>
      skip
      by_cases c0 : f < 0
      · by_cases c1 : 16 ≤ f
        · omega
        · by_cases c2 : 1 ≤ f
          · go_wp2_with fail
            all_goals (go_meet; first | (exfalso; omega) | exact ⟨by rw [← hE]; unfold bE; rw [hNv]; (repeat (first | rw [if_pos (by omega)] | rw [if_neg (by omega)])), rfl⟩)
          · go_wp2_with fail
            all_goals (go_meet; first | (exfalso; omega) | exact ⟨by rw [← hE]; unfold bE; rw [hNv]; (repeat (first | rw [if_pos (by omega)] | rw [if_neg (by omega)])), rfl⟩)
      · by_cases c1 : 16 ≤ f
        · by_cases c2 : 1 ≤ f
          · go_wp2_with fail
            all_goals (go_meet; first | (exfalso; omega) | exact ⟨by rw [← hE]; unfold bE; rw [hNv]; (repeat (first | rw [if_pos (by omega)] | rw [if_neg (by omega)])), rfl⟩)
          · go_wp2_with fail
            all_goals (go_meet; first | (exfalso; omega) | exact ⟨by rw [← hE]; unfold bE; rw [hNv]; (repeat (first | rw [if_pos (by omega)] | rw [if_neg (by omega)])), rfl⟩)
        · by_cases c2 : 1 ≤ f
          · go_wp2_with fail
            all_goals (go_meet; first | (exfalso; omega) | exact ⟨by rw [← hE]; unfold bE; rw [hNv]; (repeat (first | rw [if_pos (by omega)] | rw [if_neg (by omega)])), rfl⟩)
          · go_wp2_with fail
            all_goals (go_meet; first | (exfalso; omega) | exact ⟨by rw [← hE]; unfold bE; rw [hNv]; (repeat (first | rw [if_pos (by omega)] | rw [if_neg (by omega)])), rfl⟩)
    case rest =>
    obtain ⟨rfl, rfl⟩ := hcut
    have kq := fun W : World => w16_any f 9 (by decide) (by decide) W
    obtain ⟨q, hq⟩ : ∃ q, f % 9 = q := ⟨_, rfl⟩
    have hq0 : 0 ≤ q := by omega
    have hq1 : q < 9 := by omega
    simp only [hq] at kq
    go_wp2_with fail
    refine (kq wc).mono ?_
    rintro e W2 ⟨rfl, hw⟩
    rw [hw]
    clear hw W2 kq hq
    have u1 := hs6.off
    have uf := (hs6.blk.1 1 _ rfl).2
    have hs7 : StAt bs (bC (1 + q) 0 f) nilS (wc.setCell ⟨bs, 1, none⟩ (.int .i64 (1 + q))) := by
      have h1 := hs6.blk.1.set 1 (.int .i64 (1 + q)) (by show 1 < 18; decide)
      exact ⟨rfl, h1, h1.lt rfl⟩
    have hB7 : Below w.heap.size w (wc.setCell ⟨bs, 1, none⟩ (.int .i64 (1 + q))) := hB6.setCell (p := ⟨bs, 1, none⟩) hwbs _
    have hbw7 : Below bm w3 (wc.setCell ⟨bs, 1, none⟩ (.int .i64 (1 + q))) := hbw6.setCell (p := ⟨bs, 1, none⟩) (Nat.le_of_lt hbs) _
    have hm7 : BlkL bm (memCs (.slice (some ⟨gG, 0, none⟩) 2 2) i5 s5 o5 y5 k5) (wc.setCell ⟨bs, 1, none⟩ (.int .i64 (1 + q))) := ⟨hm6.1.same (heap_setCell_other _ ⟨bs, 1, none⟩ bm _ (fun e => hne e.symm)), (hm6.1.same (heap_setCell_other _ ⟨bs, 1, none⟩ bm _ (fun e => hne e.symm))).lt rfl⟩
    go_upto_region 23 with fail
    clear u1 uf hs6 hB6 hbw6 hm6
    generalize wc.setCell ⟨bs, 1, none⟩ (.int .i64 (1 + q)) = Y7 at *
    have hG7 := hG.below (show Below w3.heap.size w3 Y7 by rw [hbm]; exact hbw7)
    have hM7 : MemO bm (some ⟨gG, 0, none⟩) 2 [x, xd] i5 s5 o5 y5 k5 Y7 := ⟨hMG, by omega, hm7, hG7⟩
    have ks := cstepV (bC (1 + q) 0 f) (bC_ok (1 + q) hf0 hf1) nilS hM7 (SV.nil _) (flt 35) (by rw [hmap]; exact b_more 20 (by omega) 0 f n)
    have hrs := hs7.blk.range
    have hszC7 : (Try.prog.info? 29).map (·.size) = some (stCs (bC (1 + q) 0 f) nilS).length := hszS
    clear hM7 hG7 hm7 hbw7
    go_wp2_with (first | (refine wpList_load_row rfl _ rfl bs rfl (stCs (bC (1 + q) 0 f) nilS) hrs hundS rfl hszC7 ?_) | fail)
    refine ks.mono ?_
    rintro e Y8 hP
    obtain ⟨vB, rfl, hoB, hbB⟩ := hP.fltE
    have hB8 := Below.then hB7 hbB
    obtain ⟨Y9, hY9, hth9, -, hb9⟩ := new_stC Y8 zeroC rfl vB
    have hB9 := Below.then hB8 hb9
    have hone9 := st_one zeroC vB (SV.own hoB).one
    have hl9 : (stCs zeroC vB).length = 18 := st_len rfl
    obtain ⟨X9, hX9⟩ : ∃ X, stCs zeroC vB = X := ⟨_, rfl⟩
    have hXv : Aside (.agg (stCs zeroC vB).toArray = Value.agg X9.toArray) := by rw [hX9]; exact rfl
    rw [hX9] at hY9 hth9 hone9 hl9
    have hszX : (Try.prog.info? 29).map (·.size) = some X9.length := by rw [hl9]; exact hszS
    clear ks hrs hP hoB hbB hb9 hX9 hl9 hB8 hB7 hs7
    go_wp2_with (first | (refine wpList_store_row rfl _ _ rfl Y8.heap.size rfl X9 hXv.out hth9 hszX hone9 hY9 ?_) | fail)
    go_ret
    exact ⟨rfl, hB9⟩
  · have hNv : bN 1 n = (n : Int) := rfl
    go_upto_block 0 with fail
    go_cut [18] from 69 (fun t18 wc => t18 = .int .i64 E ∧ wc = V6)
    case first =>
      skip
      by_cases c0 : f < 0
      · by_cases c1 : 16 ≤ f
        · omega
        · by_cases c2 : (n : Int) ≤ f
          · go_wp2_with fail
            all_goals (go_meet; first | (exfalso; omega) | exact ⟨by rw [← hE]; unfold bE; rw [hNv]; (repeat (first | rw [if_pos (by omega)] | rw [if_neg (by omega)])), rfl⟩)
          · go_wp2_with fail
            all_goals (go_meet; first | (exfalso; omega) | exact ⟨by rw [← hE]; unfold bE; rw [hNv]; (repeat (first | rw [if_pos (by omega)] | rw [if_neg (by omega)])), rfl⟩)
      · by_cases c1 : 16 ≤ f
        · by_cases c2 : (n : Int) ≤ f
          · go_wp2_with fail
            all_goals (go_meet; first | (exfalso; omega) | exact ⟨by rw [← hE]; unfold bE; rw [hNv]; (repeat (first | rw [if_pos (by omega)] | rw [if_neg (by omega)])), rfl⟩)
          · go_wp2_with fail
            all_goals (go_meet; first | (exfalso; omega) | exact ⟨by rw [← hE]; unfold bE; rw [hNv]; (repeat (first | rw [if_pos (by omega)] | rw [if_neg (by omega)])), rfl⟩)
        · by_cases c2 : (n : Int) ≤ f
          · go_wp2_with fail
            all_goals (go_meet; first | (exfalso; omega) | exact ⟨by rw [← hE]; unfold bE; rw [hNv]; (repeat (first | rw [if_pos (by omega)] | rw [if_neg (by omega)])), rfl⟩)
          · go_wp2_with fail
            all_goals (go_meet; first | (exfalso; omega) | exact ⟨by rw [← hE]; unfold bE; rw [hNv]; (repeat (first | rw [if_pos (by omega)] | rw [if_neg (by omega)])), rfl⟩)
    case rest =>
    obtain ⟨rfl, rfl⟩ := hcut
    have kq := fun W : World => w16_any f 9 (by decide) (by decide) W
    obtain ⟨q, hq⟩ : ∃ q, f % 9 = q := ⟨_, rfl⟩
    have hq0 : 0 ≤ q := by omega
    have hq1 : q < 9 := by omega
    simp only [hq] at kq
    go_wp2_with fail
    refine (kq wc).mono ?_
    rintro e W2 ⟨rfl, hw⟩
    rw [hw]
    clear hw W2 kq hq
    have u1 := hs6.off
    have uf := (hs6.blk.1 1 _ rfl).2
    have hs7 : StAt bs (bC (1 + q) 1 f) nilS (wc.setCell ⟨bs, 1, none⟩ (.int .i64 (1 + q))) := by
      have h1 := hs6.blk.1.set 1 (.int .i64 (1 + q)) (by show 1 < 18; decide)
      exact ⟨rfl, h1, h1.lt rfl⟩
    have hB7 : Below w.heap.size w (wc.setCell ⟨bs, 1, none⟩ (.int .i64 (1 + q))) := hB6.setCell (p := ⟨bs, 1, none⟩) hwbs _
    have hbw7 : Below bm w3 (wc.setCell ⟨bs, 1, none⟩ (.int .i64 (1 + q))) := hbw6.setCell (p := ⟨bs, 1, none⟩) (Nat.le_of_lt hbs) _
    have hm7 : BlkL bm (memCs (.slice (some ⟨gG, 0, none⟩) 2 2) i5 s5 o5 y5 k5) (wc.setCell ⟨bs, 1, none⟩ (.int .i64 (1 + q))) := ⟨hm6.1.same (heap_setCell_other _ ⟨bs, 1, none⟩ bm _ (fun e => hne e.symm)), (hm6.1.same (heap_setCell_other _ ⟨bs, 1, none⟩ bm _ (fun e => hne e.symm))).lt rfl⟩
    go_upto_region 23 with fail
    clear u1 uf hs6 hB6 hbw6 hm6
    generalize wc.setCell ⟨bs, 1, none⟩ (.int .i64 (1 + q)) = Y7 at *
    have hG7 := hG.below (show Below w3.heap.size w3 Y7 by rw [hbm]; exact hbw7)
    have hM7 : MemO bm (some ⟨gG, 0, none⟩) 2 [x, xd] i5 s5 o5 y5 k5 Y7 := ⟨hMG, by omega, hm7, hG7⟩
    have ks := cstepV (bC (1 + q) 1 f) (bC_ok (1 + q) hf0 hf1) nilS hM7 (SV.nil _) (flt 35) (by rw [hmap]; exact b_more 20 (by omega) 1 f n)
    have hrs := hs7.blk.range
    have hszC7 : (Try.prog.info? 29).map (·.size) = some (stCs (bC (1 + q) 1 f) nilS).length := hszS
    clear hM7 hG7 hm7 hbw7
    go_wp2_with (first | (refine wpList_load_row rfl _ rfl bs rfl (stCs (bC (1 + q) 1 f) nilS) hrs hundS rfl hszC7 ?_) | fail)
    refine ks.mono ?_
    rintro e Y8 hP
    obtain ⟨vB, rfl, hoB, hbB⟩ := hP.fltE
    have hB8 := Below.then hB7 hbB
    obtain ⟨Y9, hY9, hth9, -, hb9⟩ := new_stC Y8 zeroC rfl vB
    have hB9 := Below.then hB8 hb9
    have hone9 := st_one zeroC vB (SV.own hoB).one
    have hl9 : (stCs zeroC vB).length = 18 := st_len rfl
    obtain ⟨X9, hX9⟩ : ∃ X, stCs zeroC vB = X := ⟨_, rfl⟩
    have hXv : Aside (.agg (stCs zeroC vB).toArray = Value.agg X9.toArray) := by rw [hX9]; exact rfl
    rw [hX9] at hY9 hth9 hone9 hl9
    have hszX : (Try.prog.info? 29).map (·.size) = some X9.length := by rw [hl9]; exact hszS
    clear ks hrs hP hoB hbB hb9 hX9 hl9 hB8 hB7 hs7
    go_wp2_with (first | (refine wpList_store_row rfl _ _ rfl Y8.heap.size rfl X9 hXv.out hth9 hszX hone9 hY9 ?_) | fail)
    go_ret
    exact ⟨rfl, hB9⟩
  · have hNv : bN 2 n = -1 := rfl
    go_upto_block 0 with fail
    go_cut [18] from 69 (fun t18 wc => t18 = .int .i64 E ∧ wc = V6)
    case first =>
      skip
      by_cases c0 : f < 0
      · by_cases c1 : 16 ≤ f
        · omega
        · by_cases c2 : -1 ≤ f
          · go_wp2_with fail
            all_goals (go_meet; first | (exfalso; omega) | exact ⟨by rw [← hE]; unfold bE; rw [hNv]; (repeat (first | rw [if_pos (by omega)] | rw [if_neg (by omega)])), rfl⟩)
          · go_wp2_with fail
            all_goals (go_meet; first | (exfalso; omega) | exact ⟨by rw [← hE]; unfold bE; rw [hNv]; (repeat (first | rw [if_pos (by omega)] | rw [if_neg (by omega)])), rfl⟩)
      · by_cases c1 : 16 ≤ f
        · by_cases c2 : -1 ≤ f
          · go_wp2_with fail
            all_goals (go_meet; first | (exfalso; omega) | exact ⟨by rw [← hE]; unfold bE; rw [hNv]; (repeat (first | rw [if_pos (by omega)] | rw [if_neg (by omega)])), rfl⟩)
          · go_wp2_with fail
            all_goals (go_meet; first | (exfalso; omega) | exact ⟨by rw [← hE]; unfold bE; rw [hNv]; (repeat (first | rw [if_pos (by omega)] | rw [if_neg (by omega)])), rfl⟩)
        · by_cases c2 : -1 ≤ f
          · go_wp2_with fail
            all_goals (go_meet; first | (exfalso; omega) | exact ⟨by rw [← hE]; unfold bE; rw [hNv]; (repeat (first | rw [if_pos (by omega)] | rw [if_neg (by omega)])), rfl⟩)
          · go_wp2_with fail
            all_goals (go_meet; first | (exfalso; omega) | exact ⟨by rw [← hE]; unfold bE; rw [hNv]; (repeat (first | rw [if_pos (by omega)] | rw [if_neg (by omega)])), rfl⟩)
    case rest =>
    obtain ⟨rfl, rfl⟩ := hcut
    have kq := fun W : World => w16_any f 9 (by decide) (by decide) W
    obtain ⟨q, hq⟩ : ∃ q, f % 9 = q := ⟨_, rfl⟩
    have hq0 : 0 ≤ q := by omega
    have hq1 : q < 9 := by omega
    simp only [hq] at kq
    go_wp2_with fail
    refine (kq wc).mono ?_
    rintro e W2 ⟨rfl, hw⟩
    rw [hw]
    clear hw W2 kq hq
    have u1 := hs6.off
    have uf := (hs6.blk.1 1 _ rfl).2
    have hs7 : StAt bs (bC (1 + q) 2 f) nilS (wc.setCell ⟨bs, 1, none⟩ (.int .i64 (1 + q))) := by
      have h1 := hs6.blk.1.set 1 (.int .i64 (1 + q)) (by show 1 < 18; decide)
      exact ⟨rfl, h1, h1.lt rfl⟩
    have hB7 : Below w.heap.size w (wc.setCell ⟨bs, 1, none⟩ (.int .i64 (1 + q))) := hB6.setCell (p := ⟨bs, 1, none⟩) hwbs _
    have hbw7 : Below bm w3 (wc.setCell ⟨bs, 1, none⟩ (.int .i64 (1 + q))) := hbw6.setCell (p := ⟨bs, 1, none⟩) (Nat.le_of_lt hbs) _
    have hm7 : BlkL bm (memCs (.slice (some ⟨gG, 0, none⟩) 2 2) i5 s5 o5 y5 k5) (wc.setCell ⟨bs, 1, none⟩ (.int .i64 (1 + q))) := ⟨hm6.1.same (heap_setCell_other _ ⟨bs, 1, none⟩ bm _ (fun e => hne e.symm)), (hm6.1.same (heap_setCell_other _ ⟨bs, 1, none⟩ bm _ (fun e => hne e.symm))).lt rfl⟩
    go_upto_region 23 with fail
    clear u1 uf hs6 hB6 hbw6 hm6
    generalize wc.setCell ⟨bs, 1, none⟩ (.int .i64 (1 + q)) = Y7 at *
    have hG7 := hG.below (show Below w3.heap.size w3 Y7 by rw [hbm]; exact hbw7)
    have hM7 : MemO bm (some ⟨gG, 0, none⟩) 2 [x, xd] i5 s5 o5 y5 k5 Y7 := ⟨hMG, by omega, hm7, hG7⟩
    have ks := cstepV (bC (1 + q) 2 f) (bC_ok (1 + q) hf0 hf1) nilS hM7 (SV.nil _) (flt 35) (by rw [hmap]; exact b_more 20 (by omega) 2 f n)
    have hrs := hs7.blk.range
    have hszC7 : (Try.prog.info? 29).map (·.size) = some (stCs (bC (1 + q) 2 f) nilS).length := hszS
    clear hM7 hG7 hm7 hbw7
    go_wp2_with (first | (refine wpList_load_row rfl _ rfl bs rfl (stCs (bC (1 + q) 2 f) nilS) hrs hundS rfl hszC7 ?_) | fail)
    refine ks.mono ?_
    rintro e Y8 hP
    obtain ⟨vB, rfl, hoB, hbB⟩ := hP.fltE
    have hB8 := Below.then hB7 hbB
    obtain ⟨Y9, hY9, hth9, -, hb9⟩ := new_stC Y8 zeroC rfl vB
    have hB9 := Below.then hB8 hb9
    have hone9 := st_one zeroC vB (SV.own hoB).one
    have hl9 : (stCs zeroC vB).length = 18 := st_len rfl
    obtain ⟨X9, hX9⟩ : ∃ X, stCs zeroC vB = X := ⟨_, rfl⟩
    have hXv : Aside (.agg (stCs zeroC vB).toArray = Value.agg X9.toArray) := by rw [hX9]; exact rfl
    rw [hX9] at hY9 hth9 hone9 hl9
    have hszX : (Try.prog.info? 29).map (·.size) = some X9.length := by rw [hl9]; exact hszS
    clear ks hrs hP hoB hbB hb9 hX9 hl9 hB8 hB7 hs7
    go_wp2_with (first | (refine wpList_store_row rfl _ _ rfl Y8.heap.size rfl X9 hXv.out hth9 hszX hone9 hY9 ?_) | fail)
    go_ret
    exact ⟨rfl, hB9⟩
  · have hNv : bN 3 n = -1 := rfl
    go_upto_block 0 with fail
    go_cut [18] from 69 (fun t18 wc => t18 = .int .i64 E ∧ wc = V6)
    case first =>
      skip
      by_cases c0 : f < 0
      · by_cases c1 : 16 ≤ f
        · omega
        · by_cases c2 : -1 ≤ f
          · go_wp2_with fail
            all_goals (go_meet; first | (exfalso; omega) | exact ⟨by rw [← hE]; unfold bE; rw [hNv]; (repeat (first | rw [if_pos (by omega)] | rw [if_neg (by omega)])), rfl⟩)
          · go_wp2_with fail
            all_goals (go_meet; first | (exfalso; omega) | exact ⟨by rw [← hE]; unfold bE; rw [hNv]; (repeat (first | rw [if_pos (by omega)] | rw [if_neg (by omega)])), rfl⟩)
      · by_cases c1 : 16 ≤ f
        · by_cases c2 : -1 ≤ f
          · go_wp2_with fail
            all_goals (go_meet; first | (exfalso; omega) | exact ⟨by rw [← hE]; unfold bE; rw [hNv]; (repeat (first | rw [if_pos (by omega)] | rw [if_neg (by omega)])), rfl⟩)
          · go_wp2_with fail
            all_goals (go_meet; first | (exfalso; omega) | exact ⟨by rw [← hE]; unfold bE; rw [hNv]; (repeat (first | rw [if_pos (by omega)] | rw [if_neg (by omega)])), rfl⟩)
        · by_cases c2 : -1 ≤ f
          · go_wp2_with fail
            all_goals (go_meet; first | (exfalso; omega) | exact ⟨by rw [← hE]; unfold bE; rw [hNv]; (repeat (first | rw [if_pos (by omega)] | rw [if_neg (by omega)])), rfl⟩)
          · go_wp2_with fail
            all_goals (go_meet; first | (exfalso; omega) | exact ⟨by rw [← hE]; unfold bE; rw [hNv]; (repeat (first | rw [if_pos (by omega)] | rw [if_neg (by omega)])), rfl⟩)
    case rest =>
    obtain ⟨rfl, rfl⟩ := hcut
    have kq := fun W : World => w16_any f 9 (by decide) (by decide) W
    obtain ⟨q, hq⟩ : ∃ q, f % 9 = q := ⟨_, rfl⟩
    have hq0 : 0 ≤ q := by omega
    have hq1 : q < 9 := by omega
    simp only [hq] at kq
    go_wp2_with fail
    refine (kq wc).mono ?_
    rintro e W2 ⟨rfl, hw⟩
    rw [hw]
    clear hw W2 kq hq
    have u1 := hs6.off
    have uf := (hs6.blk.1 1 _ rfl).2
    have hs7 : StAt bs (bC (1 + q) 3 f) nilS (wc.setCell ⟨bs, 1, none⟩ (.int .i64 (1 + q))) := by
      have h1 := hs6.blk.1.set 1 (.int .i64 (1 + q)) (by show 1 < 18; decide)
      exact ⟨rfl, h1, h1.lt rfl⟩
    have hB7 : Below w.heap.size w (wc.setCell ⟨bs, 1, none⟩ (.int .i64 (1 + q))) := hB6.setCell (p := ⟨bs, 1, none⟩) hwbs _
    have hbw7 : Below bm w3 (wc.setCell ⟨bs, 1, none⟩ (.int .i64 (1 + q))) := hbw6.setCell (p := ⟨bs, 1, none⟩) (Nat.le_of_lt hbs) _
    have hm7 : BlkL bm (memCs (.slice (some ⟨gG, 0, none⟩) 2 2) i5 s5 o5 y5 k5) (wc.setCell ⟨bs, 1, none⟩ (.int .i64 (1 + q))) := ⟨hm6.1.same (heap_setCell_other _ ⟨bs, 1, none⟩ bm _ (fun e => hne e.symm)), (hm6.1.same (heap_setCell_other _ ⟨bs, 1, none⟩ bm _ (fun e => hne e.symm))).lt rfl⟩
    go_upto_region 23 with fail
    clear u1 uf hs6 hB6 hbw6 hm6
    generalize wc.setCell ⟨bs, 1, none⟩ (.int .i64 (1 + q)) = Y7 at *
    have hG7 := hG.below (show Below w3.heap.size w3 Y7 by rw [hbm]; exact hbw7)
    have hM7 : MemO bm (some ⟨gG, 0, none⟩) 2 [x, xd] i5 s5 o5 y5 k5 Y7 := ⟨hMG, by omega, hm7, hG7⟩
    have ks := cstepV (bC (1 + q) 3 f) (bC_ok (1 + q) hf0 hf1) nilS hM7 (SV.nil _) (flt 35) (by rw [hmap]; exact b_more 20 (by omega) 3 f n)
    have hrs := hs7.blk.range
    have hszC7 : (Try.prog.info? 29).map (·.size) = some (stCs (bC (1 + q) 3 f) nilS).length := hszS
    clear hM7 hG7 hm7 hbw7
    go_wp2_with (first | (refine wpList_load_row rfl _ rfl bs rfl (stCs (bC (1 + q) 3 f) nilS) hrs hundS rfl hszC7 ?_) | fail)
    refine ks.mono ?_
    rintro e Y8 hP
    obtain ⟨vB, rfl, hoB, hbB⟩ := hP.fltE
    have hB8 := Below.then hB7 hbB
    obtain ⟨Y9, hY9, hth9, -, hb9⟩ := new_stC Y8 zeroC rfl vB
    have hB9 := Below.then hB8 hb9
    have hone9 := st_one zeroC vB (SV.own hoB).one
    have hl9 : (stCs zeroC vB).length = 18 := st_len rfl
    obtain ⟨X9, hX9⟩ : ∃ X, stCs zeroC vB = X := ⟨_, rfl⟩
    have hXv : Aside (.agg (stCs zeroC vB).toArray = Value.agg X9.toArray) := by rw [hX9]; exact rfl
    rw [hX9] at hY9 hth9 hone9 hl9
    have hszX : (Try.prog.info? 29).map (·.size) = some X9.length := by rw [hl9]; exact hszS
    clear ks hrs hP hoB hbB hb9 hX9 hl9 hB8 hB7 hs7
    go_wp2_with (first | (refine wpList_store_row rfl _ _ rfl Y8.heap.size rfl X9 hXv.out hth9 hszX hone9 hY9 ?_) | fail)
    go_ret
    exact ⟨rfl, hB9⟩
theorem cpuBounds_walk (off seg op size : Int) (w : World) :
    Calls Try.prog 6 #[.int .i64 off, .int .i64 seg, .int .i64 op, .int .i64 size] w fun e w' => e = .returned (.bool true) ∧ Below w.heap.size w w' := by
  have h : op % 4 = 0 ∨ op % 4 = 1 ∨ op % 4 = 2 ∨ op % 4 = 3 := by omega
  obtain ⟨n, hn⟩ : ∃ n : Nat, size % 8 = n := ⟨(size % 8).toNat, by omega⟩
  rcases h with h | h | h | h
  · exact cpuBounds1 off seg op size _ _ _ n rfl rfl rfl h hn w
  · exact cpuBounds2 off seg op size _ _ _ n rfl rfl rfl h hn w
  · exact cpuBounds18 off seg op size _ _ _ n rfl rfl rfl h hn w
  · exact cpuBounds20 off seg op size _ _ _ n rfl rfl rfl h hn w
end Go.Proofs.Ytinibccphecdfab
