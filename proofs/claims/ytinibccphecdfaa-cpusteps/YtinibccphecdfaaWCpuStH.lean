/-
  THE DOCUMENT'S OWN PROCESSOR (donjonref16): a step.
-/
import Derived.Test.YtinibccphecdfaaWCpuRef4
namespace Go.Proofs.Ytinibccphecdfaa
open Go.RowKit
set_option maxRecDepth 8000
set_option linter.unusedSimpArgs false
set_option linter.unusedVariables false

/-- A word that is written. -/
def stoC : Option (Int × Int × Int) → List Value
  | none => [.bool false, .int .i64 0, .int .i64 0, .int .i64 0]
  | some (k, o, y) => [.bool true, .int .i64 k, .int .i64 o, .int .i64 y]
theorem sto_len (r : Option (Int × Int × Int)) : (stoC r).length = 4 := by
  cases r with
  | none => rfl
  | some p => rfl
theorem sto_one (r : Option (Int × Int × Int)) : ∀ u ∈ stoC r, u.oneCell' = true := fun u hu => by
  cases r with
  | none => simp [stoC] at hu; rcases hu with rfl | rfl <;> rfl
  | some p =>
    obtain ⟨k, o, y⟩ := p
    simp [stoC] at hu
    rcases hu with rfl | rfl | rfl | rfl <;> rfl
abbrev zSt : Array Value := #[.bool false, .int .i64 0, .int .i64 0, .int .i64 0]
theorem results_ref5 {fn : Func} (h : fn.results = #[.cell 4 39, .cell 5 45, .tmp 6, .tmp 7, .tmp 8]) (tmps : Array Value) (w : World) (b : Nat) (h4 : tmps.getD 4 undef = .pointer (some ⟨b + 1, 0, none⟩)) (h5 : tmps.getD 5 undef = .pointer (some ⟨b + 2, 0, none⟩)) (v6 v7 v8 : Value) (h6 : tmps.getD 6 undef = v6) (h7 : tmps.getD 7 undef = v7) (h8 : tmps.getD 8 undef = v8)
    (t s : List Value) (ht : t.length = 18) (hs : s.length = 4) (hrt : w.rangeAt (b + 1) 0 t) (hrs : w.rangeAt (b + 2) 0 s) : (results fn tmps).run Try.prog w = .ok (.tuple #[.agg t.toArray, .agg s.toArray, v6, v7, v8]) w := by
  have g4 : tmps[4]?.getD undef = .pointer (some ⟨b + 1, 0, none⟩) := by simpa using h4
  have g5 : tmps[5]?.getD undef = .pointer (some ⟨b + 2, 0, none⟩) := by simpa using h5
  have g6 : tmps[6]?.getD undef = v6 := by simpa using h6
  have g7 : tmps[7]?.getD undef = v7 := by simpa using h7
  have g8 : tmps[8]?.getD undef = v8 := by simpa using h8
  have hszS : (Try.prog.info? 39).map (·.size) = some t.length := by rw [ht]; kernel_rfl
  have hszT : (Try.prog.info? 45).map (·.size) = some s.length := by rw [hs]; kernel_rfl
  have e4 := run_loadVar_mid (P := Try.prog) w (b + 1) 0 39 t _ hrt Try.underlying39 rfl hszS
  have e5 := run_loadVar_mid (P := Try.prog) w (b + 2) 0 45 s _ hrs Try.underlying45 rfl hszT
  simp [results, h, g4, g5, g6, g7, g8, asAddr, e4, e5]
/-- What a step of the document's answers. -/
def StR (O : Ot) (w : World) (e : Ending) (w' : World) : Prop := ∃ u, e = .returned (.tuple #[.agg (stCs O.t u).toArray, .agg (stoC O.wr).toArray, .int .i64 O.v, .bool O.told, .int .i64 O.e]) ∧ SV u O.t.st w' ∧ Below w.heap.size w w'
theorem st_setA {c : Cp} (v : Value) (x : Int) : (stCs c v).set 3 (.int .i64 x) = stCs { c with a := x } v := rfl
theorem st_setO {c : Cp} (v : Value) (x : Int) : (stCs c v).set 1 (.int .i64 x) = stCs { c with off := x } v := rfl
theorem StAt.setA {b : Nat} {c : Cp} {v : Value} {W : World} (h : StAt b c v W) (x : Int) : StAt b { c with a := x } v (W.setCell ⟨b, 3, none⟩ (.int .i64 x)) := by
  have h1 := h.blk.1.set 3 (.int .i64 x) (by rw [st_len h.ps]; decide)
  rw [st_setA] at h1
  exact ⟨h.ps, h1, h1.lt rfl⟩
theorem StAt.setO {b : Nat} {c : Cp} {v : Value} {W : World} (h : StAt b c v W) (x : Int) : StAt b { c with off := x } v (W.setCell ⟨b, 1, none⟩ (.int .i64 x)) := by
  have h1 := h.blk.1.set 1 (.int .i64 x) (by rw [st_len h.ps]; decide)
  rw [st_setO] at h1
  exact ⟨h.ps, h1, h1.lt rfl⟩
theorem intR_store (w : World) (y : Addr) (u : Value) (v : Int) (hc : w.cell? y = some u) (hf : w.frozen? y = false) : (Instr.storeAt 3 (.pointer (some y)) (.int .i64 v)).run Try.prog w = .ok () (w.setCell y (.int .i64 v)) := by
  have h1 := Try.underlying3
  go_simp
theorem frc_oneR (f : Fr) : ∀ u ∈ frc f, u.oneCell' = true := fr_ok.one f
theorem addC_three (g j : Nat) : (⟨g, 3, none⟩ : Addr).add j = ⟨g, 3 + j, none⟩ := by
  unfold Addr.add
  split
  · rename_i h; rw [h]
  · rfl
theorem pg_rings {b : Nat} {x : PG} {W : World} (h : BlkL b x.cs W) : CellsAt W ⟨b, 3, none⟩ [.int .i64 x.g.rg.a, .int .i64 x.g.rg.b, .int .i64 x.g.rg.c, .int .i64 x.g.rg.g] := fun j u hu => by
  have h1 : x.cs[3 + j]? = some u := by
    match j, hu with
    | 0, hu => exact hu
    | 1, hu => exact hu
    | 2, hu => exact hu
    | 3, hu => exact hu
  rw [addC_three]
  exact (h.1 _ u h1).1
theorem st_setP {c : Cp} (h : c.ps.length = 4) (v : Value) {k : Nat} (hk : k < 4) (q : Ptr) : setM (stCs c v) (4 + k * 3) (ptr3 q) = stCs { c with ps := c.ps.set k q } v := by
  obtain ⟨p0, p1, p2, p3, hl⟩ := four h
  obtain ⟨s, o, rg, a, ps, st, hl'⟩ := c
  simp only at hl
  subst hl
  match k, hk with
  | 0, _ => rfl
  | 1, _ => rfl
  | 2, _ => rfl
  | 3, _ => rfl
theorem st_setR {c : Cp} (h : c.ps.length = 4) (v : Value) {k : Nat} (hk : k < 4) (q : Ptr) (r : Int) : (stCs { c with ps := c.ps.set k q } v).set (4 + k * 3 + 2) (.int .i64 r) = stCs { c with ps := c.ps.set k ⟨q.s, q.f, r⟩ } v := by
  obtain ⟨p0, p1, p2, p3, hl⟩ := four h
  obtain ⟨s, o, rg, a, ps, st, hl'⟩ := c
  simp only at hl
  subst hl
  match k, hk with
  | 0, _ => rfl
  | 1, _ => rfl
  | 2, _ => rfl
  | 3, _ => rfl
theorem StAt.setR {b : Nat} {c : Cp} {v : Value} {W : World} {k : Nat} {q : Ptr} (h4 : c.ps.length = 4) (hk : k < 4) (h : StAt b { c with ps := c.ps.set k q } v W) (r : Int) : StAt b { c with ps := c.ps.set k ⟨q.s, q.f, r⟩ } v (W.setCell ⟨b, 4 + k * 3 + 2, none⟩ (.int .i64 r)) := by
  have hl := st_len (v := v) h.ps
  have h1 := h.blk.1.set (4 + k * 3 + 2) (.int .i64 r) (by rw [hl]; omega)
  rw [st_setR h4 v hk] at h1
  have h5 : ({ c with ps := c.ps.set k ⟨q.s, q.f, r⟩ } : Cp).ps.length = 4 := by show (c.ps.set k _).length = 4; rw [List.length_set]; exact h4
  exact ⟨h5, h1, h1.lt (List.getElem?_eq_getElem (by rw [st_len h5]; decide : 0 < (stCs { c with ps := c.ps.set k ⟨q.s, q.f, r⟩ } v).length))⟩
theorem slice_shortR (y : Addr) (n c k : Nat) (hk : k < n) (hc : n ≤ c) : ∃ u c2, u = .slice (some y) k c2 ∧ ∀ W, (Instr.slice 37 (.slice (some y) n c) none (some (.int .i64 (k : Int))) none).run Try.prog W = .ok u W := by
  obtain ⟨i, z, b, hi, hz, hsz, _⟩ := fr_ok.info
  have ht : Try.prog.elem 37 = 85 := by kernel_rfl
  refine ⟨.slice (some y) k c, c, rfl, fun W => ?_⟩
  rw [run_slice_h (P := Try.prog) W 37 (some y) n c (by rw [ht]; exact fr_ok.und) .i64 (k : Int) (by omega) (by omega), ht]
  have hc0 : ¬ c = 0 := by omega
  have hy : y.add 0 = y := by
    unfold Addr.add
    simp
  simp [sizeOf, typeInfo, hi, hsz, sliced, hc0, hy]
theorem SV.off {v : Value} {st : List Fr} {W W' : World} {b : Nat} (h : SV v st W) (hne : v.ownBlock ≠ some b) (k : Sole b W W') : SV v st W' := by
  obtain ⟨a, cap, hv, hn, hr⟩ := h
  refine ⟨a, cap, hv, hn, fun j x hx => ?_⟩
  obtain ⟨y, hy, hc⟩ := hr j x hx
  refine ⟨y, hy, fun i hi => ?_⟩
  have h1 := hc i hi
  obtain ⟨u, hu⟩ : ∃ u, (frc x)[i]? = some u := ⟨_, List.getElem?_eq_getElem (by rw [frc_len]; exact hi)⟩
  rw [hu] at h1 ⊢
  have hlt := World.block_lt_of_cell? _ _ h1
  have hb := k.block _ hlt (by rw [addC_block]; intro q; apply hne; rw [hv, hy]; simp [Value.ownBlock, q])
  exact (World.cell?_of_block hb).trans h1
theorem SV.sole {v : Value} {st : List Fr} {W W' : World} {b B : Nat} (h : SV v st W) (hB : ∀ W2, Below B W W2 → SV v st W2) (k : Sole b W W') (hb : B ≤ b) (hs : B ≤ W.heap.size) : SV v st W' := hB W' (k.below (Below.refl _ _) hb hs)
theorem all_ok {m : List PG} (h : MG m) : ∀ g ∈ m.map (·.g), g.Ok := fun g hg => by
  obtain ⟨x, hx, rfl⟩ := List.mem_map.1 hg
  exact h.ok x hx
theorem st_opC {c : Cp} {m : List Sg} {i : Ins} (hl : c.hl = false) (hf : fetE c m = 0) (hi : fetI c m = i) : stepC c m = opC c m i := by
  unfold stepC
  rw [if_neg (by rw [hl]; decide), if_neg (by rw [hf]; decide), hi]
theorem off_ok {c : Cp} {m : List Sg} (hok : ∀ g ∈ m, g.Ok) (hf : fetE c m = 0) : 0 ≤ c.off ∧ c.off < 1000 := by
  have hk := kn_ok hok c.seg
  have hl2 := hk.len
  have hin : inG (kn m c.seg) c.off := by
    apply Decidable.byContradiction
    intro hn
    unfold fetE at hf
    by_cases q1 : (kn m c.seg).is = false
    · rw [if_pos q1] at hf; cases hf
    rw [if_neg q1] at hf
    by_cases q2 : hasM (kn m c.seg).md 4 = false ∨ mayX (kn m c.seg).rg c.ring = false
    · rw [if_pos q2] at hf; cases hf
    rw [if_neg q2, if_pos hn] at hf
    cases hf
  exact ⟨hin.1, by have := hin.2; omega⟩
theorem front_p {c : Cp} (hc : c.Ok) (m : List PG) {i : Ins} (p0 : 0 ≤ i.p) (p1 : i.p ≤ 3) : ∃ (k : Nat) (p : Ptr) (x : PG), i.p = (k : Int) ∧ k < 4 ∧ c.ps.getD k ⟨0, 0, 0⟩ = p ∧ pAt c i.p = p ∧ (-1000000000000 ≤ p.f ∧ p.f ≤ 1000000000000 ∧ 0 ≤ p.r ∧ p.r ≤ 7) ∧ knP m p.s = x ∧ x.g = kn (m.map (·.g)) p.s ∧ mSeg c (m.map (·.g)) i = x.g ∧ mOff c i = p.f + i.n := by
  have hpo := pAt_ok hc i.p
  have hp : pAt c i.p = c.ps.getD i.p.toNat ⟨0, 0, 0⟩ := rfl
  have hg := knP_g m (pAt c i.p).s
  refine ⟨i.p.toNat, _, _, by omega, by omega, hp.symm, rfl, hpo, rfl, hg, ?_, rfl⟩
  unfold mSeg
  rw [hg]
theorem front_st {c : Cp} (h4 : c.ps.length = 4) (v : Value) (w : World) {X : List Value} (hX : stCs c v = X) : StAt w.heap.size c v (((w.alloc (.cells X.toArray 39)).alloc (.cells zS 39)).alloc (.cells zSt 45)) ∧ StAt (w.heap.size + 1) zeroC nilS (((w.alloc (.cells X.toArray 39)).alloc (.cells zS 39)).alloc (.cells zSt 45)) ∧ BlkL (w.heap.size + 2) (stoC none) (((w.alloc (.cells X.toArray 39)).alloc (.cells zS 39)).alloc (.cells zSt 45)) ∧ Below w.heap.size w (((w.alloc (.cells X.toArray 39)).alloc (.cells zS 39)).alloc (.cells zSt 45)) := by
  subst hX
  have hs0 : StAt w.heap.size c v (w.alloc (.cells (stCs c v).toArray 39)) := ⟨h4, blkl_alloc w (stCs c v).toArray 39⟩
  have hb0 := alloc_below w (.cells (stCs c v).toArray 39)
  have z0 : (w.alloc (.cells (stCs c v).toArray 39)).heap.size = w.heap.size + 1 := by simp
  generalize w.alloc (.cells (stCs c v).toArray 39) = w1 at *
  have hr0 : StAt w1.heap.size zeroC nilS (w1.alloc (.cells zS 39)) := ⟨rfl, blkl_alloc _ (stCs zeroC nilS).toArray 39⟩
  have hb1 := alloc_below w1 (.cells zS 39)
  have z1 : (w1.alloc (.cells zS 39)).heap.size = w.heap.size + 2 := by simp [z0]
  generalize w1.alloc (.cells zS 39) = w2 at *
  have hq0 : BlkL w2.heap.size (stoC none) (w2.alloc (.cells zSt 45)) := blkl_alloc _ (stoC none).toArray 45
  have hb2 := alloc_below w2 (.cells zSt 45)
  rw [z0] at hr0
  rw [z1] at hq0
  have hbx := Below.then hb1 hb2
  exact ⟨hs0.keep hbx, hr0.keep hb2, hq0, Below.then hb0 hbx⟩
theorem blk_off {b bx : Nat} {cs us : List Value} {o : Nat} {W W' : World} (h : BlkL b cs W) (e : W.setCells bx o us = W') (hn : b ≠ bx) : BlkL b cs W' := by
  rw [← e]
  exact (Sole.cells (bx := bx) (b := bx) ⟨rfl, rfl, rfl, Nat.le_refl _, fun _ _ _ => rfl⟩ (.inl rfl) _ _).blk h hn
theorem szSt : (Try.prog.info? 39).map (·.size) = some 18 := by kernel_rfl
theorem szSg : (Try.prog.info? 57).map (·.size) = some 7 := by kernel_rfl
theorem szPt : (Try.prog.info? 24).map (·.size) = some 3 := by kernel_rfl
theorem szIn : (Try.prog.info? 64).map (·.size) = some 3 := by kernel_rfl
theorem szTo : (Try.prog.info? 45).map (·.size) = some 4 := by kernel_rfl
abbrev z3 : Array Value := #[.int .i64 0, .int .i64 0, .int .i64 0]
abbrev z7 : Array Value := #[.bool false, .slice none 0 0, .int .i64 0, .int .i64 0, .int .i64 0, .int .i64 0, .int .i64 0]
theorem put3 (W : World) (T : TypeId) (cs : List Value) (hl : cs.length = 3) : ∃ W', (W.alloc (.cells z3 T)).setCells W.heap.size 0 cs = W' ∧ (W.alloc (.cells z3 T)).there W.heap.size 0 cs.length ∧ BlkL W.heap.size cs W' ∧ Below W.heap.size W W' := put_new W z3 T cs hl (by rw [hl]; decide)
theorem put7 (W : World) (T : TypeId) (cs : List Value) (hl : cs.length = 7) : ∃ W', (W.alloc (.cells z7 T)).setCells W.heap.size 0 cs = W' ∧ (W.alloc (.cells z7 T)).there W.heap.size 0 cs.length ∧ BlkL W.heap.size cs W' ∧ Below W.heap.size W W' := put_new W z7 T cs hl (by rw [hl]; decide)
/-- append's contract at its own values, for whatever frame: 'refine' at a great frame is quick with it, and slow with wpList_append itself. -/
theorem appAt {t : TypeId} {u v r : Value} {w w' : World} (x y : Operand) (hc : (Builtin.append_ #[t, t] t #[u, v]).run Try.prog w = .ok r w') {ops : Array Oper} {o : Oper} {rest : List Oper} {Q : Exit → Act → World → Prop} {a : Act} (h1 : o.guard = none) (h2 : o.op = .call { callee := .builtin .append, args := #[x, y], argTypes := #[t, t] }) (h3 : o.type = t) (h4 : a.eval x = u) (h5 : a.eval y = v) (h6 : wpList Try.prog ops Q rest (a.put o.dst r) w') : wpList Try.prog ops Q (o :: rest) a w := wpList_append h1 x y h2 h3 h4 h5 hc h6
end Go.Proofs.Ytinibccphecdfaa
