/-
  WHAT A GROUP PUTS, EACH SECTOR ONCE (the laws' puts).
-/
import Derived.Test.YtgjnlocokkjejaaWalFill
import Derived.Deep.RegionHeldLaw
namespace Go.Proofs.Ytgjnlocokkjejaa
open Go.RowKit Go.Maps

def flagCells (F : List Bool) : Array Value := (F.map Value.bool).toArray
theorem flag_cell {w : World} {b : Nat} {F : List Bool} {t : TypeId} (h : w.heap[b]? = some (.cells (flagCells F) t (0, 0))) (k : Nat) (hk : k < F.length) : w.cell? ⟨b, k, none⟩ = some (.bool (F.getD k false)) := by
  rw [cell_of_row _ _ _ _ _ _ h]
  simp [flagCells, List.getD, hk]
theorem flag_set {w : World} {b : Nat} {F : List Bool} {t : TypeId} (h : w.heap[b]? = some (.cells (flagCells F) t (0, 0))) (k : Nat) (x : Bool) : (w.setCell ⟨b, k, none⟩ (.bool x)).heap[b]? = some (.cells (flagCells (F.set k x)) t (0, 0)) := by
  rw [heap_setCell_at _ h]
  simp [flagCells, List.map_set]

/-- Numbers that came in. -/
def NumsAt (w : World) (a : Option Addr) (len : Nat) (R : List Int) : Prop :=
  R.length = len ∧ (0 < len → ∃ x, a = some x ∧ ∀ j, j < len → w.cell? (x.add j) = some (.int .i64 (R.getD j 0)))
theorem NumsAt.grown {w w' : World} {a : Option Addr} {len : Nat} {R : List Int} (h : NumsAt w a len R) (k : Kept [] w w') : NumsAt w' a len R := by
  refine ⟨h.1, fun h0 => ?_⟩
  obtain ⟨x, rfl, hx⟩ := h.2 h0
  exact ⟨x, rfl, fun j hj => (World.cell?_of_block (k.block _ (World.block_lt_of_cell? _ _ (hx j hj)) (by simp))).trans (hx j hj)⟩

/-- What was put, of a row that is being made. -/
structure PutsOwn (w : World) (base : Nat) (v : Value) (ps : List PutV) : Prop where
  own : w.ownsRow base 69 2 v (ps.map headOf).length (cellsC (ps.map headOf))
  bytes : ∀ x ∈ ps, w.rangeAt x.b x.o (cellsOf x.bytes) ∧ Sec x.bytes ∧ BlockTy w x.b 5 ∧ base ≤ x.b ∧ 42 ≤ x.N ∧ x.N < 60 ∧ x.o = 0
  apart : ∀ (i j : Nat) (x y : PutV), ps[i]? = some x → ps[j]? = some y → i < j → x.N ≠ y.N

theorem PutsOwn.ty {w : World} {base : Nat} {v : Value} {ps : List PutV} (h : PutsOwn w base v ps) : ∀ k ∈ ownB v, base ≤ k ∧ BlockTy w k 69 := by
  intro k hk
  unfold ownB at hk
  rcases h.own.2 with ⟨rfl, _⟩ | ⟨g, cap, cur, rfl, hb, hg, _⟩
  · cases hk
  · simp [Value.ownBlock] at hk
    subst hk
    exact ⟨hb, cur, _, hg⟩
theorem PutsOwn.kept {S : List Nat} {w w' : World} {base : Nat} {v : Value} {ps : List PutV} (h : PutsOwn w base v ps) (k : Kept S w w') (h1 : ∀ k ∈ ownB v, k ∉ S) (h2 : ∀ x ∈ ps, x.b ∉ S) : PutsOwn w' base v ps := by
  refine ⟨⟨h.own.1, ?_⟩, fun x hx => ?_, h.apart⟩
  · rcases h.own.2 with ⟨e, f⟩ | ⟨g, cap, cur, rfl, hb, hg, r⟩
    · exact .inl ⟨e, f⟩
    · exact .inr ⟨g, cap, cur, rfl, hb, (k.block g (Array.getElem?_eq_some_iff.1 hg).1 (h1 g (by simp [ownB, Value.ownBlock]))).trans hg, r⟩
  · obtain ⟨a, b, c, d, e⟩ := h.bytes x hx
    exact ⟨rangeAt_of_block (k.block x.b c.lt (h2 x hx)) a, b, c.kept k (h2 x hx), d, e⟩
theorem PutsOwn.nil (w : World) (base : Nat) : PutsOwn w base (.slice none 0 0) [] := ⟨World.ownsRow_nil _ _ _ _, by simp, by simp⟩
/-- .. at the end. -/
theorem PutsOwn.done {w : World} {base : Nat} {v : Value} {ps : List PutV} (h : PutsOwn w base v ps) : (ps = [] ∧ v = .slice none 0 0) ∨ ∃ pk cap, v = .slice (some ⟨pk, 0, none⟩) ps.length cap ∧ base ≤ pk ∧ PutsAt w pk ps ∧ ps.length ≤ cap := by
  rcases h.own.2 with ⟨e, f⟩ | ⟨g, cap, cur, e, hb, hg, hc, _, hs, ht⟩
  · left
    exact ⟨by simpa using f, e⟩
  · right
    rw [List.length_map] at e hc
    refine ⟨g, cap, e, hb, ⟨(Array.getElem?_eq_some_iff.1 hg).1, fun j x hx => ?_⟩, hc⟩
    obtain ⟨a, b, _⟩ := h.bytes x (List.mem_of_getElem? hx)
    have hh : HeadsAt w g (ps.map headOf) := heads_row hg _ (fun j hj => by
      rw [← ht]
      rw [List.getElem?_take, if_pos (by simpa using hj)]
      simp)
    obtain ⟨c1, c2⟩ := hh.2 j (headOf x) (by rw [List.getElem?_map, hx]; rfl)
    exact ⟨c1, c2, a, b⟩

/-- append, as one step of a region that draws. -/
theorem step_append_puts {ops : Array Oper} {o : Oper} {a : Act} {w : World} {K : Act → World → Prop} {Q : Exit → Act → World → Prop} {E : Prop} (hg : o.guard = none) (s x : Operand) (hop : o.op = Op.call { callee := Callee.builtin Builtin.append, args := #[s, x], argTypes := #[61, 61] }) (hty : o.type = 61) {u v r : Value} {w' : World} (hs : a.eval s = u) (hx : a.eval x = v)
    (hrun : (Builtin.append_ #[61, 61] 61 #[u, v]).run Try.prog w = .ok r w') (hK : K (a.put o.dst r) w') :
    if Region.wanted o (yielded ops a.tmps) = true then Oper.wp Try.prog o a w K Q else E := by
  have hw : Region.wanted o (yielded ops a.tmps) = true := by simp [Region.wanted, hg]
  rw [if_pos hw]
  unfold Oper.wp
  simp [execOp, hop, hty, resolve, invoke, builtin, hs, hx, hrun, Result.andThen]
  exact hK

set_option maxRecDepth 2000 in
set_option maxHeartbeats 4000000 in
theorem puts_any (w : World) (na fa ra : Option Addr) (nl nc fl fc rl rc : Nat) (Ns Fs R : List Int) (hN : NumsAt w na nl Ns) (hF : RawAt w fa fl Fs) (hR : RawAt w ra rl R) (hn63 : nl < 9223372036854775808) (hf63 : fl < 9223372036854775808) :
    Calls Try.prog 27 #[.agg #[.slice na nl nc, .slice fa fl fc, .slice ra rl rc]] w fun e w' => ∃ v, e = .returned v ∧ ∃ ps, PutsOwn w' w.heap.size v ps ∧ ps.length ≤ 30 ∧ Kept [] w w' := by
  go_enter Try.func27, Try.ntmps27
  go_wp2_with fail
  have ka : Kept [] w (w.alloc (.cells #[.slice na nl nc, .slice fa fl fc, .slice ra rl rc] 60)) := Kept.of_alloc _ _ _
  have ga : (w.alloc (.cells #[.slice na nl nc, .slice fa fl fc, .slice ra rl rc] 60)).heap[w.heap.size]? = some (.cells #[.slice na nl nc, .slice fa fl fc, .slice ra rl rc] 60 (0, 0)) := heap_alloc_new w _
  have sa : (w.alloc (.cells #[.slice na nl nc, .slice fa fl fc, .slice ra rl rc] 60)).heap.size = w.heap.size + 1 := by simp
  generalize w.alloc (.cells #[.slice na nl nc, .slice fa fl fc, .slice ra rl rc] 60) = wa at ka ga sa ⊢
  obtain ⟨base, hbase⟩ : ∃ base, w.heap.size = base := ⟨_, rfl⟩
  rw [hbase] at ga sa ⊢
  obtain ⟨hb, hhb⟩ : ∃ hb, base + 1 = hb := ⟨_, rfl⟩
  rw [hhb] at sa ⊢
  have kb : Kept [] wa (wa.alloc (.cells (flagCells (List.replicate 18 false)) 91)) := Kept.of_alloc _ _ _
  have gf : (wa.alloc (.cells (flagCells (List.replicate 18 false)) 91)).heap[hb]? = some (.cells (flagCells (List.replicate 18 false)) 91 (0, 0)) := by rw [← sa]; exact heap_alloc_new wa _
  have gg : (wa.alloc (.cells (flagCells (List.replicate 18 false)) 91)).heap[base]? = some (.cells #[.slice na nl nc, .slice fa fl fc, .slice ra rl rc] 60 (0, 0)) := (kb.block base (by omega) (by simp)).trans ga
  have kb := ka.trans kb
  change Code.wp Try.prog _ _ _ (wa.alloc (.cells (flagCells (List.replicate 18 false)) 91))
  generalize wa.alloc (.cells (flagCells (List.replicate 18 false)) 91) = wb at kb gf gg ⊢
  clear ka ga sa
  have hbw : w.heap.size ≤ base := by omega
  have hhw : base < hb := by omega
  have hbl := (Array.getElem?_eq_some_iff.1 gf).1
  clear hbase hhb
  go_loopw [3, 5] (fun t3 t5 wr => ∃ (q : Int) (ps : List PutV) (F : List Bool), 0 ≤ q ∧ q ≤ 30 ∧ t5 = .int .i64 q ∧ PutsOwn wr base t3 ps ∧ (ps.length : Int) ≤ q ∧ F.length = 18 ∧ (∀ k, k < 18 → F.getD k false = false → ∀ x ∈ ps, x.N ≠ 42 + k) ∧ wr.heap[hb]? = some (.cells (flagCells F) 91 (0, 0)) ∧ wr.heap[base]? = some (.cells #[.slice na nl nc, .slice fa fl fc, .slice ra rl rc] 60 (0, 0)) ∧ Kept [] w wr) (fun _ t5 _ => 30 - (Go.RowKit.intOf t5).toNat)
  case atStart => exact ⟨0, [], _, by omega, by omega, rfl, PutsOwn.nil _ _, by simp, by simp, by simp, gf, gg, kb⟩
  case round =>
    rename_i u3 u5
    obtain ⟨q, ps, F, hq0, hq1, rfl, hP, hpl, hFl, hFn, hfl, hgr, kw⟩ := hrel
    have b0 : wr.cell? ⟨base, 0, none⟩ = some (.slice na nl nc) := by simp [World.cell?, hgr]
    have b1 : wr.cell? ⟨base, 1, none⟩ = some (.slice fa fl fc) := by simp [World.cell?, hgr]
    have b2 : wr.cell? ⟨base, 2, none⟩ = some (.slice ra rl rc) := by simp [World.cell?, hgr]
    clear kb gf gg hbl
    by_cases hgo : q < nl ∧ q < fl ∧ q < 30
    · obtain ⟨g1, g2, g3⟩ := hgo
      obtain ⟨xn, rfl, hxn⟩ := (hN.grown kw).2 (by omega)
      have cn := hxn q.toNat (by omega)
      obtain ⟨xf, rfl, hxf⟩ := (hF.grown kw).2.2 (by omega)
      have cf := hxf q.toNat (by omega)
      have hxfw : (xf.add q.toNat).block < w.heap.size := by
        obtain ⟨x', e, hx'⟩ := hF.2.2 (by omega)
        cases e
        exact World.block_lt_of_cell? _ _ (hx' q.toNat (by omega))
      have hv : 0 ≤ Fs.getD q.toNat 0 ∧ Fs.getD q.toNat 0 < 256 := by
        have hj : q.toNat < Fs.length := by have := hF.1; omega
        rw [show Fs.getD q.toNat 0 = Fs[q.toNat] by simp [List.getD, hj]]
        exact hF.2.1 _ (List.getElem_mem hj)
      have hRw := hR.grown kw
      generalize Fs.getD q.toNat 0 = vf at cf hv
      generalize Ns.getD q.toNat 0 = vn at cn
      have cW := within_any vn 18 (by decide) (by decide) wr
      clear hxn hxf hN hF
      go_wp2_with fail
      refine cW.mono ?_
      rintro e wz ⟨rfl, rfl⟩
      clear cW
      have hk0 := Int.emod_nonneg vn (show (18 : Int) ≠ 0 by decide)
      have hk1 := Int.emod_lt_of_pos vn (show (0 : Int) < 18 by decide)
      generalize vn % 18 = k at hk0 hk1 ⊢
      have ch := flag_cell hfl k.toNat (by omega)
      cases hc : F.getD k.toNat false with
      | true =>
        rw [hc] at ch
        clear cn cf hv hRw b0 b1 b2 hc
        go_wp2_with fail
        go_roundw
        case rel => exact ⟨q + 1, ps, F, by omega, by omega, rfl, hP, by omega, hFl, hFn, hfl, hgr, kw⟩
        case measure => simp [Go.RowKit.intOf]; omega
      | false =>
        have hcF := hc
        rw [hc] at ch
        have fh := row_frozen hfl k.toNat
        have hf1 := flag_set hfl k.toNat true
        have ks : Kept [hb] wz (wz.setCell ⟨hb, k.toNat, none⟩ (.bool true)) := (Kept.refl _ _).setCell (by simp) _
        have ko : ∀ k ∈ ownB u3, k ∉ [hb] := fun j hj => by
          have := BlockTy.ne (hP.ty j hj).2 ⟨_, _, hfl⟩ (by decide)
          simpa using this
        have kx : ∀ x ∈ ps, x.b ∉ [hb] := fun x hx => by
          have := BlockTy.ne (hP.bytes x hx).2.2.1 ⟨_, _, hfl⟩ (by decide)
          simpa using this
        have hP1 := hP.kept ks ko kx
        have hg1 : (wz.setCell ⟨hb, k.toNat, none⟩ (.bool true)).heap[base]? = some (.cells #[.slice (some xn) nl nc, .slice (some xf) fl fc, .slice ra rl rc] 60 (0, 0)) := (ks.block base (Array.getElem?_eq_some_iff.1 hgr).1 (by simp; omega)).trans hgr
        have k1 : Kept [] w (wz.setCell ⟨hb, k.toNat, none⟩ (.bool true)) := kw.setCell_new (by simp; omega) _
        have hR1 := hR.grown k1
        have hxfb : (xf.add q.toNat).block ≠ hb := by
          have h1 := World.block_lt_of_cell? _ _ cf
          have h2 : (xf.add q.toNat).block < w.heap.size := hxfw
          omega
        have cf1 : (wz.setCell ⟨hb, k.toNat, none⟩ (.bool true)).cell? (xf.add q.toNat) = some (.int .u8 vf) := by
          rw [World.cell?_of_block (Below.heap_setCell _ _ _ _ hxfb)]; exact cf
        clear ko kx hP hgr kw hRw cf
        go_wp2_with fail
        generalize wz.setCell ⟨hb, k.toNat, none⟩ (.bool true) = W1 at hf1 ks hP1 hg1 k1 hR1 cf1 ⊢
        have d1 : W1.drew.cell? ⟨base, 1, none⟩ = some (.slice (some xf) fl fc) := by
          show W1.cell? _ = _
          simp [World.cell?, hg1]
        have d2 : W1.drew.cell? ⟨base, 2, none⟩ = some (.slice ra rl rc) := by
          show W1.cell? _ = _
          simp [World.cell?, hg1]
        have hS0 : W1.drew.cell? ⟨base, 1, none⟩ = some (.slice (some xf) fl fc) ∧ W1.drew.cell? ⟨base, 2, none⟩ = some (.slice ra rl rc) ∧ W1.drew.cell? (xf.add q.toNat) = some (.int .u8 vf) := ⟨d1, d2, cf1⟩
        have cFill := fill_any W1.drew vf ra rl rc R (hR1.grown (Kept.refl [] W1).drew)
        have hsec := fillB_ok vf R hv hR.2.1
        obtain ⟨l, hl⟩ : ∃ l, fillB vf R 128 = l := ⟨_, rfl⟩
        rw [hl] at cFill hsec
        obtain ⟨T, hT⟩ : ∃ T, textOf l = T := ⟨_, rfl⟩
        rw [hT] at cFill
        clear hl hR hR1 b0 b1 b2 ch fh hc cn
        have hbw1 : base < W1.heap.size := (Array.getElem?_eq_some_iff.1 hg1).1
        go_region_held_law (fun W => W.cell? ⟨base, 1, none⟩ = some (.slice (some xf) fl fc) ∧ W.cell? ⟨base, 2, none⟩ = some (.slice ra rl rc) ∧ W.cell? (xf.add q.toNat) = some (.int .u8 vf)) (first | exact hS0 | exact hS2 | exact hS3 | exact hS4 _ | exact hS5) (first
          | (refine step_append_puts rfl _ _ rfl rfl rfl rfl hrun ?_; simp [Act.put])
          | (go_at_call 32
             refine cFill.mono ?_
             rintro e W2 ⟨rfl, k2⟩
             have kk2 : ∀ {b : Nat}, b < W1.heap.size → W2.heap[b]? = W1.heap[b]? := fun hb => k2.block _ hb (by simp)
             have hbl1 : base < W1.heap.size := (Array.getElem?_eq_some_iff.1 hg1).1
             have hxl1 : (xf.add q.toNat).block < W1.heap.size := World.block_lt_of_cell? _ _ cf1
             have hS2 : W2.cell? ⟨base, 1, none⟩ = some (.slice (some xf) fl fc) ∧ W2.cell? ⟨base, 2, none⟩ = some (.slice ra rl rc) ∧ W2.cell? (xf.add q.toNat) = some (.int .u8 vf) := ⟨(World.cell?_of_block (kk2 hbl1)).trans d1, (World.cell?_of_block (kk2 hbl1)).trans d2, (World.cell?_of_block (kk2 hxl1)).trans cf1⟩
             obtain ⟨cap, W3, hcv, hrg, hty, k3⟩ := conv_bytes W2 l hsec
             rw [hT] at hcv
             have hs2 := k2.size
             have kk3 : ∀ {b : Nat}, b < W1.heap.size → W3.heap[b]? = W1.heap[b]? := fun hb => (k3.block _ (by have : W1.heap.size ≤ W2.heap.size := hs2; omega) (by simp)).trans (kk2 hb)
             have hS3 : W3.cell? ⟨base, 1, none⟩ = some (.slice (some xf) fl fc) ∧ W3.cell? ⟨base, 2, none⟩ = some (.slice ra rl rc) ∧ W3.cell? (xf.add q.toNat) = some (.int .u8 vf) := ⟨(World.cell?_of_block (kk3 hbl1)).trans d1, (World.cell?_of_block (kk3 hbl1)).trans d2, (World.cell?_of_block (kk3 hxl1)).trans cf1⟩
             have hs3 : W1.heap.size ≤ W3.heap.size := by have := k3.size; have : W1.heap.size ≤ W2.heap.size := hs2; omega
             have hS4 : ∀ o, (W3.alloc o).cell? ⟨base, 1, none⟩ = some (.slice (some xf) fl fc) ∧ (W3.alloc o).cell? ⟨base, 2, none⟩ = some (.slice ra rl rc) ∧ (W3.alloc o).cell? (xf.add q.toNat) = some (.int .u8 vf) := fun o => ⟨(World.cell?_of_block (Below.heap_alloc W3 o base (by omega))).trans hS3.1, (World.cell?_of_block (Below.heap_alloc W3 o base (by omega))).trans hS3.2.1, (World.cell?_of_block (Below.heap_alloc W3 o _ (by omega))).trans hS3.2.2⟩
             have k13 : Kept [] W1 W3 := (((Kept.refl [] W1).drew).trans k2).trans k3
             have hP3 := hP1.kept k13 (by simp) (by simp)
             obtain ⟨v', W4, hrun, hown, k4, hv4⟩ := append_put W3 base u3 (ps.map headOf) hP3.own ⟨IntKind.i64.wrap (42 + k), some ⟨W2.heap.size, 0, none⟩, 128, cap⟩ (by omega) (by simp; omega)
             have nob : ∀ {b : Nat} {t : TypeId}, BlockTy W3 b t → t ≠ 69 → b ∉ ownB u3 := fun hb ht hin => BlockTy.ne (hP3.ty _ hin).2 hb (Ne.symm ht) rfl
             have hgb3 : BlockTy W3 base 60 := ⟨_, _, (kk3 hbl1).trans hg1⟩
             have hxo : (xf.add q.toNat).block ∉ ownB u3 := fun hin => by have := (hP3.ty _ hin).1; omega
             have hS5 : W4.cell? ⟨base, 1, none⟩ = some (.slice (some xf) fl fc) ∧ W4.cell? ⟨base, 2, none⟩ = some (.slice ra rl rc) ∧ W4.cell? (xf.add q.toNat) = some (.int .u8 vf) := ⟨(World.cell?_of_block (k4.block base (by omega) (nob hgb3 (by decide)))).trans hS3.1, (World.cell?_of_block (k4.block base (by omega) (nob hgb3 (by decide)))).trans hS3.2.1, (World.cell?_of_block (k4.block _ (by omega) hxo)).trans hS3.2.2⟩)
          | fail)
        have hNe : IntKind.i64.wrap (42 + k) = ((42 + k.toNat : Nat) : Int) := by rw [IntKind.wrap_i64]; omega
        rw [hNe] at hown
        have kd4 : Kept [] w W4 := ((k1.trans k13).mono (T := ownB u3) (by simp)).trans k4 |>.fewer (fun x hx => Or.inr (by have := (hP3.ty x hx).1; omega))
        have hf4 : W4.heap[hb]? = some (.cells (flagCells (F.set k.toNat true)) 91 (0, 0)) := by
          have h3 := (kk3 (Array.getElem?_eq_some_iff.1 hf1).1).trans hf1
          exact (k4.block hb (Array.getElem?_eq_some_iff.1 h3).1 (nob ⟨_, _, h3⟩ (by decide))).trans h3
        have hg4 : W4.heap[base]? = some (.cells #[.slice (some xn) nl nc, .slice (some xf) fl fc, .slice ra rl rc] 60 (0, 0)) := (k4.block base (by omega) (nob hgb3 (by decide))).trans ((kk3 hbl1).trans hg1)
        have hP4 : PutsOwn W4 base v' (ps ++ [(⟨42 + k.toNat, l, W2.heap.size, 0, cap⟩ : PutV)]) := by
          have em : (ps ++ [(⟨42 + k.toNat, l, W2.heap.size, 0, cap⟩ : PutV)]).map headOf = ps.map headOf ++ [⟨((42 + k.toNat : Nat) : Int), some ⟨W2.heap.size, 0, none⟩, 128, cap⟩] := by simp [headOf]
          refine ⟨by rw [em]; exact hown, fun x hx => ?_, fun i j x y hx hy hij => ?_⟩
          · rcases List.mem_append.1 hx with hx | hx
            · obtain ⟨a, b, c, d⟩ := hP3.bytes x hx
              exact ⟨rangeAt_of_block (k4.block x.b c.lt (nob c (by decide))) a, b, c.kept k4 (nob c (by decide)), d⟩
            · simp at hx
              subst hx
              have hlt3 := hty.lt
              exact ⟨rangeAt_of_block (k4.block _ hlt3 (nob hty (by decide))) hrg, hsec, hty.kept k4 (nob hty (by decide)), by have : W1.heap.size ≤ W2.heap.size := hs2; show base ≤ W2.heap.size; omega, by show 42 ≤ 42 + k.toNat; omega, by show 42 + k.toNat < 60; omega, rfl⟩
          · have hjl := (List.getElem?_eq_some_iff.1 hy).1
            simp at hjl
            rw [List.getElem?_append_left (by omega)] at hx
            by_cases hj : j < ps.length
            · rw [List.getElem?_append_left hj] at hy
              exact hP3.apart i j x y hx hy hij
            · obtain rfl : j = ps.length := by omega
              simp at hy
              subst hy
              exact hFn k.toNat (by omega) hcF x (List.mem_of_getElem? hx)
        have hFn' : ∀ j, j < 18 → (F.set k.toNat true).getD j false = false → ∀ x ∈ ps ++ [(⟨42 + k.toNat, l, W2.heap.size, 0, cap⟩ : PutV)], x.N ≠ 42 + j := by
          intro j hj hf x hx
          by_cases e : j = k.toNat
          · subst e
            simp [List.getD, hFl, hj] at hf
          · have hf' : F.getD j false = false := by
              rw [List.getD_eq_getElem?_getD, List.getElem?_set_ne (Ne.symm e)] at hf
              rwa [List.getD_eq_getElem?_getD]
            rcases List.mem_append.1 hx with hx | hx
            · exact hFn j hj hf' x hx
            · simp at hx
              subst hx
              show 42 + k.toNat ≠ 42 + j
              omega
        have hpl' : ((ps ++ [(⟨42 + k.toNat, l, W2.heap.size, 0, cap⟩ : PutV)]).length : Int) ≤ q + 1 := by simp; omega
        generalize ps ++ [(⟨42 + k.toNat, l, W2.heap.size, 0, cap⟩ : PutV)] = ps' at hP4 hFn' hpl'
        have hFl' : (F.set k.toNat true).length = 18 := by simp [hFl]
        generalize F.set k.toNat true = F' at hf4 hFn' hFl'
        clear hS0 hS2 hS3 hS4 hS5 kk2 kk3 nob hrun hcv hown hP1 hP3 k13 k2 k3 k4 hFn hNe
        go_wp2_with fail
        go_roundw
        case rel => exact ⟨q + 1, ps', F', by omega, by omega, rfl, hP4, hpl', hFl', hFn', hf4, hg4, kd4⟩
        case measure => simp [Go.RowKit.intOf]; omega
    · have hend : PutsOwn wr w.heap.size u3 ps := ⟨⟨hP.own.1, hP.own.2.imp id fun ⟨g, cap, cur, a, b, c⟩ => ⟨g, cap, cur, a, by omega, c⟩⟩, fun x hx => by
        obtain ⟨a, b, c, d, e⟩ := hP.bytes x hx
        exact ⟨a, b, c, by omega, e⟩, hP.apart⟩
      have hlen : ps.length ≤ 30 := by omega
      clear hP hFn hfl hN hF hR
      by_cases g1 : q < nl
      · by_cases g2 : q < fl
        · have g3 : ¬ q < 30 := fun h => hgo ⟨g1, g2, h⟩
          clear hgo
          go_wp2
          go_ret
          exact ⟨u3, rfl, ps, hend, hlen, kw⟩
        · clear hgo
          go_wp2
          go_ret
          exact ⟨u3, rfl, ps, hend, hlen, kw⟩
      · clear hgo
        go_wp2
        go_ret
        exact ⟨u3, rfl, ps, hend, hlen, kw⟩
end Go.Proofs.Ytgjnlocokkjejaa
