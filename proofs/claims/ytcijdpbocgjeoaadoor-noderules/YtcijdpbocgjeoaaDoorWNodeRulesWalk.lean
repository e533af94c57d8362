/-
  NodeRules: the walk. Written by mk_nrules.py.
-/
import Derived.Test.YtcijdpbocgjeoaaDoorWNodeChecksWalk
import Derived.Deep.Cut
import Derived.Laws.MakeOwn
namespace Go.Proofs.YtcijdpbocgjeoaaDoor
open Go.RowKit
set_option maxRecDepth 8000
set_option linter.unusedSimpArgs false
set_option linter.unusedVariables false

def aS : ByteArray := ⟨#[47, 97]⟩
/-- The node that is asked about. -/
abbrev ndR (s : ByteArray) (d : Bool) (y : Rg) (n : Nat) : Nod := ⟨s, d, ⟨0, 0, 0, 0⟩, [], y.a, y.b, y.c, y.g, List.replicate n 0, ⟨0, 0, 0, 0⟩⟩
theorem check_a : checkOf aS = 0 := by decide +kernel
theorem check_slash : checkOf slashS = 0 := by decide +kernel
theorem ncl_one (n : Nod) (aa : Option Addr) (ca : Nat) (wa : Option Addr) (cw : Nat) : ∀ v ∈ ncl n aa ca wa cw, v.oneCell' = true := by
  intro v hv
  unfold ncl at hv
  simp only [List.mem_cons, List.not_mem_nil, or_false] at hv
  rcases hv with rfl | rfl | rfl | rfl | rfl | rfl | rfl | rfl | rfl | rfl | rfl | rfl | rfl | rfl | rfl | rfl <;> rfl
theorem ndR_v (d : Bool) (y : Rg) (n : Nat) (wa : Addr) (cs : List Value) (h : ncl (ndR aS d y n) none 0 (some wa) n = cs) : Aside ((.agg #[.string ⟨#[47, 97]⟩, .bool d, .int .i64 0, .int .i64 0, .int .i64 0, .int .i64 0, .slice none 0 0, .int .i64 y.a, .int .i64 y.b, .int .i64 y.c, .int .i64 y.g, .slice (some wa) n n, .int .i64 0, .int .i64 0, .int .i64 0, .int .i64 0] : Value) = .agg cs.toArray) := by
  rw [← h]
  unfold ncl
  simp only [ndR, List.length_nil, List.length_replicate]
  exact rfl
theorem make_words (w : World) (n : Nat) (hn : n ≤ 1000) : ∃ cur : Array Value, cur.size = n ∧ (Instr.makeSlice 27 (.int .i64 (n : Int)) (.int .i64 (n : Int))).run Tryd.prog w = .ok (.slice (some ⟨w.heap.size, 0, none⟩) n n) (w.alloc (.cells cur 2)) := by
  obtain ⟨i, hi, hz, hs, hb⟩ := info_of (e := 2) (z := .int .i64 0) (sz := 1) (b := 8) (by kernel_rfl)
  have h := run_make (P := Tryd.prog) w 27 2 i _ Tryd.underlying27 hi hz .i64 .i64 n n (by omega) (by omega) (by rw [hb]; omega) (by omega)
  refine ⟨_, ?_, h⟩
  rw [hs]
  simp [madeCells]
section
variable {ops : Array Oper} {o : Oper} {a : Act} {w : World} {Q : Exit → Act → World → Prop}
theorem step_make {t : TypeId} {K : Act → World → Prop} {E : Prop} (hg : o.guard = none) (l c : Operand) (hop : o.op = Op.makeSlice t l c) {u v r : Value} {w' : World} (hl : a.eval l = u) (hc : a.eval c = v)
    (hrun : (Instr.makeSlice t u v).run Tryd.prog w = .ok r w') (hK : K (a.put o.dst r) w') :
    if Region.wanted o (yielded ops a.tmps) = true then Oper.wp Tryd.prog o a w K Q else E := by
  have hw : Region.wanted o (yielded ops a.tmps) = true := by simp [Region.wanted, hg]
  rw [if_pos hw]
  unfold Oper.wp
  simp [execOp, hop, hl, hc, hrun, Result.andThen]
  exact hK
theorem step_store_row {T : TypeId} {K : Act → World → Prop} {E : Prop} {W : World} (hg : o.guard = none) (x y : Operand) (ho : o.op = .store T x y) (b : Nat) (hx : a.eval x = .pointer (some ⟨b, 0, none⟩)) (cs : List Value) (hy : a.eval y = .agg cs.toArray)
    (ht : w.there b 0 cs.length) (hi : (Tryd.prog.info? T).map (·.size) = some cs.length) (h1 : ∀ v ∈ cs, v.oneCell' = true) (hW : w.setCells b 0 cs = W) (hK : K (a.put o.dst undef) W) :
    if Region.wanted o (yielded ops a.tmps) = true then Oper.wp Tryd.prog o a w K Q else E := by
  have hw : Region.wanted o (yielded ops a.tmps) = true := by simp [Region.wanted, hg]
  rw [if_pos hw]
  exact wp_store_mid T x y ho b 0 cs.toArray hx hy ht hi (all_oneCell_toArray h1) (hW ▸ hK)
end
/-- The brackets' box, and what paths lean on. -/
structure NR (w W : World) (y : Rg) : Prop where
  rg : Blk W w.heap.size [.int .i64 y.a, .int .i64 y.b, .int .i64 y.c, .int .i64 y.g]
  mv : MaxV W
  bl : Below w.heap.size w W
  sz : w.heap.size + 1 ≤ W.heap.size
theorem NR.then {w W W' : World} {y : Rg} (h : NR w W y) (b : Below W.heap.size W W') : NR w W' y := by
  have h3 := h.sz
  exact ⟨h.rg.same (b.block _ (by omega)), h.mv.below b, Below.then h.bl b, Nat.le_trans h.sz b.size⟩
/-- .. and the node in a block of its own. -/
structure NR2 (w W : World) (y : Rg) (p : Nat) (cs : List Value) : Prop where
  nr : NR w W y
  nd : Blk W p cs
  hp : w.heap.size + 1 ≤ p
theorem nr_put {w W : World} {y : Rg} {p : Nat} {zs cs : List Value} (h : NR w W y) (hp : Blk W p zs) (hn : w.heap.size + 1 ≤ p) (hl : cs.length = zs.length) : NR2 w (W.setCells p 0 cs) y p cs := by
  have b : Below (w.heap.size + 1) W (W.setCells p 0 cs) := Below.cells hn cs 0 (Below.refl _ _)
  have hm : MaxV (W.setCells p 0 cs) := by
    obtain ⟨m, hm⟩ := h.mv
    exact ⟨m, (b.cell (p := ⟨0, 0, none⟩) (by show 0 < w.heap.size + 1; omega)).trans hm⟩
  exact ⟨⟨h.rg.same (b.block _ (by omega)), hm, h.bl.trans (b.mono (by omega)), Nat.le_trans h.sz b.size⟩, hp.setAll hl.symm, hn⟩
theorem nr_root {w W : World} {y : Rg} {p n : Nat} {d : Bool} {wa : Addr} (h : NR2 w W y p (ncl (ndR aS d y n) none 0 (some wa) n)) : NR2 w (W.setCell ⟨p, 0, none⟩ (.string ⟨#[47]⟩)) y p (ncl (ndR slashS d y n) none 0 (some wa) n) := by
  have hn := h.hp
  have b : Below (w.heap.size + 1) W (W.setCell ⟨p, 0, none⟩ (.string ⟨#[47]⟩)) := (Below.refl _ W).setCell (p := ⟨p, 0, none⟩) hn _
  have hm : MaxV (W.setCell ⟨p, 0, none⟩ (.string ⟨#[47]⟩)) := by
    obtain ⟨m, hm⟩ := h.nr.mv
    exact ⟨m, (b.cell (p := ⟨0, 0, none⟩) (by show 0 < w.heap.size + 1; omega)).trans hm⟩
  exact ⟨⟨h.nr.rg.same (b.block _ (by omega)), hm, h.nr.bl.trans (b.mono (by omega)), Nat.le_trans h.nr.sz b.size⟩, h.nd.set 0 (.string ⟨#[47]⟩) (by unfold ncl; simp), hn⟩
theorem rules_c (s : ByteArray) (d : Bool) (y : Rg) (n : Nat) (hs : checkOf s = 0) (hy : OkR y) : nodC (ndR s d y n) = if d = true then (if rz (ndR s d y n) = true ∧ n = 0 then 0 else 11) else if eqs s slashS = true then 3 else if 16 < n then 4 else 0 := by
  have hr : chkR (⟨y.a, y.b, y.c, y.g⟩ : Rg) = 0 := by unfold chkR; rw [if_pos]; exact hy
  have hl : chkL (⟨0, 0, 0, 0⟩ : Lab) = 0 := by decide
  have ha : chkA ([] : List Gr) = 0 := by decide
  unfold nodC dirC segC
  simp only [ndR, hs, hl, ha, ne_eq, not_true_eq_false, if_false, Nod.rg, hr, List.length_replicate]
set_option maxRecDepth 8000 in
set_option maxHeartbeats 8000000 in
theorem nodeRules_walk (x : Rg) (k : Int) (d root : Bool) (w : World) (hm : MaxV w) :
    Calls Tryd.prog 4 #[x.v, .int .i64 k, .bool d, .bool root] w fun e w' => e = .returned (.bool true) ∧ Below w.heap.size w w' := by
  have hri : (Tryd.prog.info? 26).map (·.size) = some 4 := by kernel_rfl
  have hni : (Tryd.prog.info? 29).map (·.size) = some 16 := by kernel_rfl
  have hok := goodR_ok x
  have kk := nknown_any
  have kg := rggood_any x
  have kw := w10_any k 20 (by omega) (by omega)
  have h0 : NR w (w.alloc (.cells #[.int .i64 x.a, .int .i64 x.b, .int .i64 x.c, .int .i64 x.g] 26)) x := ⟨blk_alloc _ _ _, hm.below (alloc_below _ _), alloc_below _ _, by simp⟩
  have hk0 : 0 ≤ k % 20 ∧ k % 20 < 20 := by omega
  generalize goodR x = y at *
  obtain ⟨n, hn⟩ : ∃ n : Nat, k % 20 = (n : Int) := ⟨(k % 20).toNat, by omega⟩
  rw [hn] at kw
  have hn20 : n < 20 := by omega
  have hm0 : MaxV w := hm
  clear hn hk0 hm
  go_enter Tryd.func4, Tryd.ntmps4
  go_wp2_with fail
  generalize w.alloc (.cells #[.int .i64 x.a, .int .i64 x.b, .int .i64 x.c, .int .i64 x.g] 26) = W at *
  refine (kk W).mono ?_
  rintro e W2 ⟨rfl, hB⟩
  replace h0 := h0.then hB
  have c0 := (h0.rg 0 _ rfl).1
  have c1 := (h0.rg 1 _ rfl).1
  have c2 := (h0.rg 2 _ rfl).1
  have c3 := (h0.rg 3 _ rfl).1
  clear kk hB
  go_wp2_with fail
  refine (kg W2).mono ?_
  rintro e W3 ⟨rfl, hB⟩
  replace h0 := h0.then hB
  clear c0 c1 c2 c3 kg hB
  go_wp2_with fail
  refine (kw W3).mono ?_
  rintro e W3b ⟨rfl, hB⟩
  replace hB := hB.symm
  subst hB
  have hmw : MaxV w := hm0
  have hs : Blk (W3.setCells w.heap.size 0 [.int .i64 y.a, .int .i64 y.b, .int .i64 y.c, .int .i64 y.g]) w.heap.size [.int .i64 y.a, .int .i64 y.b, .int .i64 y.c, .int .i64 y.g] := h0.rg.setAll rfl
  have ht : W3.there w.heap.size 0 ([.int .i64 y.a, .int .i64 y.b, .int .i64 y.c, .int .i64 y.g] : List Value).length := h0.rg.there
  have hbz : Below w.heap.size W3 (W3.setCells w.heap.size 0 [.int .i64 y.a, .int .i64 y.b, .int .i64 y.c, .int .i64 y.g]) := Below.cells (Nat.le_refl _) _ 0 (Below.refl _ _)
  have h1 : NR w (W3.setCells w.heap.size 0 [.int .i64 y.a, .int .i64 y.b, .int .i64 y.c, .int .i64 y.g]) y := ⟨hs, by
    obtain ⟨m, hm⟩ := h0.mv
    obtain ⟨m', hm'⟩ := hmw
    exact ⟨m, (hbz.cell (p := ⟨0, 0, none⟩) (World.block_lt_of_cell? _ _ hm')).trans hm⟩, h0.bl.trans hbz, Nat.le_trans h0.sz hbz.size⟩
  obtain ⟨W1, hW1⟩ : ∃ W', W3.setCells w.heap.size 0 [.int .i64 y.a, .int .i64 y.b, .int .i64 y.c, .int .i64 y.g] = W' := ⟨_, rfl⟩
  rw [hW1] at h1
  have h1c : ∀ v ∈ ([.int .i64 y.a, .int .i64 y.b, .int .i64 y.c, .int .i64 y.g] : List Value), v.oneCell' = true := by intro v hv; simp only [List.mem_cons, List.not_mem_nil, or_false] at hv; rcases hv with rfl | rfl | rfl | rfl <;> rfl
  go_wp2_with (first | (refine wpList_store_row rfl _ _ rfl w.heap.size rfl [.int .i64 y.a, .int .i64 y.b, .int .i64 y.c, .int .i64 y.g] rfl ht hri h1c hW1 ?_) | fail)
  clear hs ht hbz h0 hW1 h1c kw
  go_cut [9] from 17 (fun s9 wc => ∃ p wa, s9 = .pointer (some ⟨p, 0, none⟩) ∧ NR2 w wc y p (ncl (ndR aS d y n) none 0 (some wa) n))
  case first =>
    have hS0 : NR w W1.drew y := h1.then (Below.refl _ _).drew
    clear h1
    refine wp_region_held_drew (S := (fun W => NR w W y)) (by kernel_rfl) (by exact hS0) ?_
    intro hHeld
    generalize W1.drew = w0 at *
    refine wpAnyH_take (i := 0) (v := ?_) (by simp only [gA, gB, gC]; rfl) (by kernel_rfl) (by kernel_rfl) (by kernel_rfl) (by exact fun _ _ _ h => h) (Or.inl ⟨by rfl, ?_⟩) (by assumption) ?_; rotate_left; (focus (intro w hSw; (try dsimp only at hSw); go_simp; try with_reducible rfl)); (try simp only [Act.put, sA, sB, sC])
    refine wpAnyH_take (i := 1) (v := _) (by simp only [gA, gB, gC]; rfl) (by kernel_rfl) (by kernel_rfl) (by kernel_rfl) (by exact fun _ _ _ h => h) (yields_row (by rfl) _ rfl _ rfl [.int .i64 y.a, .int .i64 y.b, .int .i64 y.c, .int .i64 y.g] (fun W q => q.rg.range) Tryd.underlying26 rfl hri) (by assumption) ?_; (try simp only [Act.put, sA, sB, sC])
    refine wpAnyH_take (i := 2) (v := ?_) (by simp only [gA, gB, gC]; rfl) (by kernel_rfl) (by kernel_rfl) (by kernel_rfl) (by exact fun _ _ _ h => h) (Or.inl ⟨by rfl, ?_⟩) (by assumption) ?_; rotate_left; (focus (intro w hSw; (try dsimp only at hSw); go_simp; try with_reducible rfl)); (try simp only [Act.put, sA, sB, sC])
    refine wpAnyH_ready (rs := [3, 5]) (by kernel_rfl) (by simp) ?_
    refine AllReadyH.cons (by simp only [gA, gB, gC]; rfl) (fun K hK => ?_) ?_
    · skip
      obtain ⟨cur, -, hmk⟩ := make_words w0 n (by omega)
      refine step_make rfl _ _ rfl rfl rfl hmk ?_
      (try simp only [Act.put, sA, sB, sC])
      refine hK.out _ _ (hS0.then (alloc_below _ _)) ?_
      clear hHeld hK
      intro hHeld
      have hS1 := hS0.then (alloc_below w0 (.cells cur 2))
      obtain ⟨wa, hwa⟩ : ∃ wa : Addr, (⟨w0.heap.size, 0, none⟩ : Addr) = wa := ⟨_, rfl⟩
      rw [hwa]
      clear hwa hmk
      generalize w0.alloc (.cells cur 2) = w1 at *
      (try simp only [Act.put, sA, sB, sC])
      refine wpAnyH_take (i := 4) (v := ?_) (by simp only [gA, gB, gC]; rfl) (by kernel_rfl) (by kernel_rfl) (by kernel_rfl) (by exact fun _ _ _ h => h) (Or.inl ⟨by rfl, ?_⟩) (by assumption) ?_; rotate_left; (focus (intro w hSw; (try dsimp only at hSw); go_simp; try with_reducible rfl)); (try simp only [Act.put, sA, sB, sC])
      refine wpAnyH_ready (rs := [5]) (by kernel_rfl) (by simp) ?_
      refine AllReadyH.cons (by simp only [gA, gB, gC]; rfl) (fun K hK => ?_) AllReadyH.nil
      go_simp
      refine hK.out _ _ (hS1.then (alloc_below _ _)) ?_
      clear hHeld hK
      intro hHeld
      have hS2 := hS1.then (alloc_below w1 (.cells #[.string ⟨#[]⟩, .bool false, .int .i64 0, .int .i64 0, .int .i64 0, .int .i64 0, .slice none 0 0, .int .i64 0, .int .i64 0, .int .i64 0, .int .i64 0, .slice none 0 0, .int .i64 0, .int .i64 0, .int .i64 0, .int .i64 0] 29))
      have hp2 := blk_alloc w1 #[.string ⟨#[]⟩, .bool false, .int .i64 0, .int .i64 0, .int .i64 0, .int .i64 0, .slice none 0 0, .int .i64 0, .int .i64 0, .int .i64 0, .int .i64 0, .slice none 0 0, .int .i64 0, .int .i64 0, .int .i64 0, .int .i64 0] 29
      have hpl : w1.heap.size < (w1.alloc (.cells #[.string ⟨#[]⟩, .bool false, .int .i64 0, .int .i64 0, .int .i64 0, .int .i64 0, .slice none 0 0, .int .i64 0, .int .i64 0, .int .i64 0, .int .i64 0, .slice none 0 0, .int .i64 0, .int .i64 0, .int .i64 0, .int .i64 0] 29)).heap.size := by simp
      have hpn : w.heap.size + 1 ≤ w1.heap.size := hS1.sz
      generalize w1.alloc (.cells #[.string ⟨#[]⟩, .bool false, .int .i64 0, .int .i64 0, .int .i64 0, .int .i64 0, .slice none 0 0, .int .i64 0, .int .i64 0, .int .i64 0, .int .i64 0, .slice none 0 0, .int .i64 0, .int .i64 0, .int .i64 0, .int .i64 0] 29) = w2 at *
      generalize w1.heap.size = p at *
      obtain ⟨cs, hcs⟩ : ∃ cs, ncl (ndR aS d y n) none 0 (some wa) n = cs := ⟨_, rfl⟩
      have hlen : cs.length = 16 := by rw [← hcs]; rfl
      have hone : ∀ v ∈ cs, v.oneCell' = true := by rw [← hcs]; exact ncl_one _ _ _ _ _
      have hi : (Tryd.prog.info? 29).map (·.size) = some cs.length := by rw [hlen]; kernel_rfl
      have htp : w2.there p 0 cs.length := by rw [hlen]; exact hp2.there
      have hZ := nr_put hS2 hp2 hpn (cs := cs) (by rw [hlen]; rfl)
      obtain ⟨Wz, hWz⟩ : ∃ W', w2.setCells p 0 cs = W' := ⟨_, rfl⟩
      rw [hWz] at hZ
      have hcv := ndR_v d y n wa cs hcs
      rw [← hcs] at hZ
      clear hcs hlen
      (try simp only [Act.put, sA, sB, sC])
      refine wpAnyH_ready (rs := [6]) (by kernel_rfl) (by simp) ?_
      refine AllReadyH.cons (by simp only [gA, gB, gC]; rfl) (fun K hK => ?_) AllReadyH.nil
      refine step_store_row rfl _ _ rfl p rfl cs hcv.out htp hi hone hWz ?_
      (try simp only [Act.put, sA, sB, sC])
      refine hK.out _ _ (hZ.nr) ?_
      clear hHeld hK
      intro hHeld
      (try simp only [Act.put, sA, sB, sC])
      refine wpAnyH_done (by kernel_rfl) ?_ _
      go_wp2_with fail
      go_meet
      exact ⟨_, _, rfl, hZ⟩
    refine AllReadyH.cons (by simp only [gA, gB, gC]; rfl) (fun K hK => ?_) AllReadyH.nil
    go_simp
    refine hK.out _ _ (hS0.then (alloc_below _ _)) ?_
    clear hHeld hK
    intro hHeld
    have hS1 := hS0.then (alloc_below w0 (.cells #[.string ⟨#[]⟩, .bool false, .int .i64 0, .int .i64 0, .int .i64 0, .int .i64 0, .slice none 0 0, .int .i64 0, .int .i64 0, .int .i64 0, .int .i64 0, .slice none 0 0, .int .i64 0, .int .i64 0, .int .i64 0, .int .i64 0] 29))
    have hp1 := blk_alloc w0 #[.string ⟨#[]⟩, .bool false, .int .i64 0, .int .i64 0, .int .i64 0, .int .i64 0, .slice none 0 0, .int .i64 0, .int .i64 0, .int .i64 0, .int .i64 0, .slice none 0 0, .int .i64 0, .int .i64 0, .int .i64 0, .int .i64 0] 29
    have hpl : w0.heap.size < (w0.alloc (.cells #[.string ⟨#[]⟩, .bool false, .int .i64 0, .int .i64 0, .int .i64 0, .int .i64 0, .slice none 0 0, .int .i64 0, .int .i64 0, .int .i64 0, .int .i64 0, .slice none 0 0, .int .i64 0, .int .i64 0, .int .i64 0, .int .i64 0] 29)).heap.size := by simp
    have hpn : w.heap.size + 1 ≤ w0.heap.size := hS0.sz
    generalize w0.alloc (.cells #[.string ⟨#[]⟩, .bool false, .int .i64 0, .int .i64 0, .int .i64 0, .int .i64 0, .slice none 0 0, .int .i64 0, .int .i64 0, .int .i64 0, .int .i64 0, .slice none 0 0, .int .i64 0, .int .i64 0, .int .i64 0, .int .i64 0] 29) = w1 at *
    generalize w0.heap.size = p at *
    (try simp only [Act.put, sA, sB, sC])
    refine wpAnyH_ready (rs := [3]) (by kernel_rfl) (by simp) ?_
    refine AllReadyH.cons (by simp only [gA, gB, gC]; rfl) (fun K hK => ?_) AllReadyH.nil
    obtain ⟨cur, -, hmk⟩ := make_words w1 n (by omega)
    refine step_make rfl _ _ rfl rfl rfl hmk ?_
    (try simp only [Act.put, sA, sB, sC])
    refine hK.out _ _ (hS1.then (alloc_below _ _)) ?_
    clear hHeld hK
    intro hHeld
    have hS2 := hS1.then (alloc_below w1 (.cells cur 2))
    obtain ⟨wa, hwa⟩ : ∃ wa : Addr, (⟨w1.heap.size, 0, none⟩ : Addr) = wa := ⟨_, rfl⟩
    rw [hwa]
    clear hwa hmk
    have hp2 := hp1.same ((alloc_below w1 (.cells cur 2)).block _ hpl)
    replace hpl := Nat.lt_of_lt_of_le hpl (alloc_below w1 (.cells cur 2)).size
    generalize w1.alloc (.cells cur 2) = w2 at *
    obtain ⟨cs, hcs⟩ : ∃ cs, ncl (ndR aS d y n) none 0 (some wa) n = cs := ⟨_, rfl⟩
    have hlen : cs.length = 16 := by rw [← hcs]; rfl
    have hone : ∀ v ∈ cs, v.oneCell' = true := by rw [← hcs]; exact ncl_one _ _ _ _ _
    have hi : (Tryd.prog.info? 29).map (·.size) = some cs.length := by rw [hlen]; kernel_rfl
    have htp : w2.there p 0 cs.length := by rw [hlen]; exact hp2.there
    have hZ := nr_put hS2 hp2 hpn (cs := cs) (by rw [hlen]; rfl)
    obtain ⟨Wz, hWz⟩ : ∃ W', w2.setCells p 0 cs = W' := ⟨_, rfl⟩
    rw [hWz] at hZ
    have hcv := ndR_v d y n wa cs hcs
    rw [← hcs] at hZ
    clear hcs hlen
    (try simp only [Act.put, sA, sB, sC])
    refine wpAnyH_take (i := 4) (v := ?_) (by simp only [gA, gB, gC]; rfl) (by kernel_rfl) (by kernel_rfl) (by kernel_rfl) (by exact fun _ _ _ h => h) (Or.inl ⟨by rfl, ?_⟩) (by assumption) ?_; rotate_left; (focus (intro w hSw; (try dsimp only at hSw); go_simp; try with_reducible rfl)); (try simp only [Act.put, sA, sB, sC])
    refine wpAnyH_ready (rs := [6]) (by kernel_rfl) (by simp) ?_
    refine AllReadyH.cons (by simp only [gA, gB, gC]; rfl) (fun K hK => ?_) AllReadyH.nil
    refine step_store_row rfl _ _ rfl p rfl cs hcv.out htp hi hone hWz ?_
    (try simp only [Act.put, sA, sB, sC])
    refine hK.out _ _ (hZ.nr) ?_
    clear hHeld hK
    intro hHeld
    (try simp only [Act.put, sA, sB, sC])
    refine wpAnyH_done (by kernel_rfl) ?_ _
    go_wp2_with fail
    go_meet
    exact ⟨_, _, rfl, hZ⟩
  case rest =>
    clear h1
    obtain ⟨p, wa, rfl, h⟩ := hcut
    have kz := run_neq_zero (ndR aS d y n)
    have hR := h.nr.rg
    cases root
    case false =>
      have hC := rules_c aS d y n check_a hok
      have hE : eqs aS slashS = false := by decide +kernel
      rw [hE] at hC
      have hX := h
      have kc := ncheck_any (ndR aS d y n) none 0 (some wa) n (by show aS.size ≤ 100000; decide +kernel) (by simp; omega) wc (fun j g hg => by simp at hg) hX.nr.mv
      rw [ncl_v] at kc
      have hrow := hX.nd.range
      obtain ⟨cs, hcs⟩ : ∃ cs, ncl (ndR aS d y n) none 0 (some wa) n = cs := ⟨_, rfl⟩
      have hlen : cs.length = 16 := by rw [← hcs]; rfl
      rw [hcs] at kc hrow
      have hbl := hX.nr.bl
      have r0 := (hX.nr.rg 0 _ rfl).1
      have r1 := (hX.nr.rg 1 _ rfl).1
      have r2 := (hX.nr.rg 2 _ rfl).1
      have r3 := (hX.nr.rg 3 _ rfl).1
      rw [← hlen] at hni
      clear hcs hX hlen h hR hE
      obtain ⟨rr, hrr⟩ : ∃ rr, nodC (ndR aS d y n) = rr := ⟨_, rfl⟩
      rw [hrr] at kc hC
      clear hrr
      have kzz : ∀ W, (binOp .neq 26 (.agg #[.int .i64 y.a, .int .i64 y.b, .int .i64 y.c, .int .i64 y.g]) (.agg #[.int .i64 0, .int .i64 0, .int .i64 0, .int .i64 0])).run Tryd.prog W = .ok (.bool (!rz (ndR aS d y n))) W := run_neq_zero (ndR aS d y n)
      clear kz
      cases d
      case false =>
        clear kzz
        by_cases h16 : 16 < n
        · obtain rfl : rr = 4 := by rw [hC]; simp [h16]
          have i1 : (16 : Int) < (n : Int) := by omega
          clear hC h16
          go_wp2_with (first | (refine wpList_load_row rfl _ rfl p rfl cs hrow Tryd.underlying29 rfl hni ?_) | fail)
          refine kc.mono ?_
          rintro e W' ⟨rfl, hB⟩
          go_wp2_with fail
          go_ret
          exact ⟨rfl, Below.then hbl hB⟩
        · obtain rfl : rr = 0 := by rw [hC]; simp [h16]
          have i1 : ¬ (16 : Int) < (n : Int) := by omega
          clear hC h16
          go_wp2_with (first | (refine wpList_load_row rfl _ rfl p rfl cs hrow Tryd.underlying29 rfl hni ?_) | fail)
          refine kc.mono ?_
          rintro e W' ⟨rfl, hB⟩
          go_wp2_with fail
          go_ret
          exact ⟨rfl, Below.then hbl hB⟩
      case true =>
        cases hz : rz (ndR aS true y n)
        case false =>
          obtain rfl : rr = 11 := by rw [hC, hz]; simp
          rw [hz] at kzz
          clear hC
          go_wp2_with (first | (refine wpList_load_row rfl _ rfl p rfl cs hrow Tryd.underlying29 rfl hni ?_) | fail)
          refine kc.mono ?_
          rintro e W' ⟨rfl, hB⟩
          go_wp2_with fail
          go_ret
          exact ⟨rfl, Below.then hbl hB⟩
        case true =>
          rw [hz] at kzz
          by_cases hn0 : n = 0
          · obtain rfl : rr = 0 := by rw [hC, hz]; simp [hn0]
            have i1 : ¬ (0 : Int) < (n : Int) := by omega
            clear hC hn0
            go_wp2_with (first | (refine wpList_load_row rfl _ rfl p rfl cs hrow Tryd.underlying29 rfl hni ?_) | fail)
            refine kc.mono ?_
            rintro e W' ⟨rfl, hB⟩
            go_wp2_with fail
            go_ret
            exact ⟨rfl, Below.then hbl hB⟩
          · obtain rfl : rr = 11 := by rw [hC, hz]; simp [hn0]
            have i1 : (0 : Int) < (n : Int) := by omega
            clear hC
            go_wp2_with (first | (refine wpList_load_row rfl _ rfl p rfl cs hrow Tryd.underlying29 rfl hni ?_) | fail)
            refine kc.mono ?_
            rintro e W' ⟨rfl, hB⟩
            go_wp2_with fail
            go_ret
            exact ⟨rfl, Below.then hbl hB⟩
    case true =>
      have hC := rules_c slashS d y n check_slash hok
      have hE : eqs slashS slashS = true := by decide +kernel
      rw [hE] at hC
      have q0 := h.nd 0 _ rfl
      have hX : NR2 w (wc.setCell ⟨p, 0, none⟩ (.string ⟨#[47]⟩)) y p (ncl (ndR slashS d y n) none 0 (some wa) n) := nr_root h
      obtain ⟨Wx, hWx⟩ : ∃ Wx, wc.setCell ⟨p, 0, none⟩ (.string ⟨#[47]⟩) = Wx := ⟨_, rfl⟩
      rw [hWx] at hX
      have kc := ncheck_any (ndR slashS d y n) none 0 (some wa) n (by show slashS.size ≤ 100000; decide +kernel) (by simp; omega) Wx (fun j g hg => by simp at hg) hX.nr.mv
      rw [ncl_v] at kc
      have hrow := hX.nd.range
      obtain ⟨cs, hcs⟩ : ∃ cs, ncl (ndR slashS d y n) none 0 (some wa) n = cs := ⟨_, rfl⟩
      have hlen : cs.length = 16 := by rw [← hcs]; rfl
      rw [hcs] at kc hrow
      have hbl := hX.nr.bl
      have r0 := (hX.nr.rg 0 _ rfl).1
      have r1 := (hX.nr.rg 1 _ rfl).1
      have r2 := (hX.nr.rg 2 _ rfl).1
      have r3 := (hX.nr.rg 3 _ rfl).1
      rw [← hlen] at hni
      clear hcs hX hlen h hR hE
      obtain ⟨rr, hrr⟩ : ∃ rr, nodC (ndR slashS d y n) = rr := ⟨_, rfl⟩
      rw [hrr] at kc hC
      clear hrr
      have kzz : ∀ W, (binOp .neq 26 (.agg #[.int .i64 y.a, .int .i64 y.b, .int .i64 y.c, .int .i64 y.g]) (.agg #[.int .i64 0, .int .i64 0, .int .i64 0, .int .i64 0])).run Tryd.prog W = .ok (.bool (!rz (ndR slashS d y n))) W := run_neq_zero (ndR slashS d y n)
      clear kz
      cases d
      case false =>
        clear kzz
        obtain rfl : rr = 3 := by rw [hC]; simp
        clear hC
        go_wp2_with (first | (refine wpList_load_row rfl _ rfl p rfl cs hrow Tryd.underlying29 rfl hni ?_) | fail)
        refine kc.mono ?_
        rintro e W' ⟨rfl, hB⟩
        go_wp2_with fail
        go_ret
        exact ⟨rfl, Below.then hbl hB⟩
      case true =>
        cases hz : rz (ndR slashS true y n)
        case false =>
          obtain rfl : rr = 11 := by rw [hC, hz]; simp
          rw [hz] at kzz
          clear hC
          go_wp2_with (first | (refine wpList_load_row rfl _ rfl p rfl cs hrow Tryd.underlying29 rfl hni ?_) | fail)
          refine kc.mono ?_
          rintro e W' ⟨rfl, hB⟩
          go_wp2_with fail
          go_ret
          exact ⟨rfl, Below.then hbl hB⟩
        case true =>
          rw [hz] at kzz
          by_cases hn0 : n = 0
          · obtain rfl : rr = 0 := by rw [hC, hz]; simp [hn0]
            have i1 : ¬ (0 : Int) < (n : Int) := by omega
            clear hC hn0
            go_wp2_with (first | (refine wpList_load_row rfl _ rfl p rfl cs hrow Tryd.underlying29 rfl hni ?_) | fail)
            refine kc.mono ?_
            rintro e W' ⟨rfl, hB⟩
            go_wp2_with fail
            go_ret
            exact ⟨rfl, Below.then hbl hB⟩
          · obtain rfl : rr = 11 := by rw [hC, hz]; simp [hn0]
            have i1 : (0 : Int) < (n : Int) := by omega
            clear hC
            go_wp2_with (first | (refine wpList_load_row rfl _ rfl p rfl cs hrow Tryd.underlying29 rfl hni ?_) | fail)
            refine kc.mono ?_
            rintro e W' ⟨rfl, hB⟩
            go_wp2_with fail
            go_ret
            exact ⟨rfl, Below.then hbl hB⟩
end Go.Proofs.YtcijdpbocgjeoaaDoor
