/-
  TREES, GROWN: the law's Grow (donjonlaw11). UNDER WAY. Written by mk_tgrow.py.
-/
import Derived.Test.YtajondkpdgiolaaTreeFirstRef
import Derived.Test.YtajondkpdgiolaaTreeOpen
import Derived.Test.YtajondkpdgiolaaTreePut
import Derived.Test.YtajondkpdgiolaaTreeUnder
import Derived.Test.YtajondkpdgiolaaTreeOwn
import Derived.Test.YtajondkpdgiolaaMids
import Derived.Deep.CutBlock
namespace Go.Proofs.Ytajondkpdgiolaa
open Go.RowKit
set_option maxRecDepth 8000
set_option linter.unusedSimpArgs false
set_option linter.unusedVariables false

theorem OwnR.set {α : Type} {e : TypeId} {sz : Nat} {f : α → List Value} {w : World} {base g j : Nat} {v u : Value} {l : List α} (h : OwnR e sz f w base v l) (hg : v.ownBlock ≠ some g) : OwnR e sz f (w.setCell ⟨g, j, none⟩ u) base v l :=
  h.keep fun k hk => heap_setCell_other _ ⟨g, j, none⟩ k _ (fun q => hg (by rw [hk, q]))
abbrev mzero : Array Value := #[.slice none 0 0, .bool false, .int .i64 0, .int .i64 0, .int .i64 0, .int .i64 0, .slice none 0 0, .int .i64 0, .int .i64 0, .int .i64 0, .int .i64 0, .slice none 0 0, .int .i64 0, .int .i64 0, .int .i64 0, .int .i64 0]
abbrev nzT : Array Value := #[.string ⟨#[]⟩, .bool false, .int .i64 0, .int .i64 0, .int .i64 0, .int .i64 0, .slice none 0 0, .int .i64 0, .int .i64 0, .int .i64 0, .int .i64 0, .slice none 0 0, .int .i64 0, .int .i64 0, .int .i64 0, .int .i64 0]
theorem pm_len (x : PM) : x.cs.length = 16 := rfl
theorem pm_one (x : PM) : ∀ v ∈ x.cs, v.oneCell' = true := by
  intro v hv
  unfold PM.cs at hv
  simp only [List.mem_cons, List.not_mem_nil, or_false] at hv
  rcases hv with rfl | rfl | rfl | rfl | rfl | rfl | rfl | rfl | rfl | rfl | rfl | rfl | rfl | rfl | rfl | rfl <;> rfl
theorem mkPath_size (m : Mk) : (mkPath m).size ≤ 78 := by
  obtain ⟨_, _, _, h⟩ := check_path (check_names (mkPath_names m))
  exact h
theorem mkOf_any (x : PM) (W : World) (h : x.At W) : Calls Try.prog 23 #[.slice x.pa x.m.path.length x.pc] W fun e w' => e = .returned (.string (mkPath x.m)) ∧ Below W.heap.size W w' := by
  refine of_any x.pa x.m.path _ x.pc W rfl (fun j hj => ?_) (fun j => ?_)
  · have hq : x.m.path[j]? = some x.m.path[j] := List.getElem?_eq_getElem hj
    obtain ⟨y, hy, hc⟩ := h.p j _ hq
    refine ⟨y, hy, ?_⟩
    have := hc 0 (by decide)
    rw [List.getD_eq_getElem?_getD, hq]
    simpa [icell] using this
  · by_cases hj : j < x.m.path.length
    · have hq : x.m.path[j]? = some x.m.path[j] := List.getElem?_eq_getElem hj
      rw [List.getD_eq_getElem?_getD, hq]
      exact h.f _ (List.getElem_mem hj)
    · rw [List.getD_eq_getElem?_getD, List.getElem?_eq_none (by omega)]
      decide
/-- A node whose rows lie in blocks from B on. -/
def PN.Abv (B : Nat) (x : PN) : Prop := (∀ y, x.aa = some y → B ≤ y.block) ∧ ∀ y, x.wa = some y → B ≤ y.block
theorem own_abv {α : Type} {e : TypeId} {sz : Nat} {f : α → List Value} {W : World} {B n c : Nat} {aa : Option Addr} {l : List α} (h : OwnR e sz f W B (.slice aa n c) l) : ∀ y, aa = some y → B ≤ y.block := fun y hy => by
  rcases h.2 with ⟨h1, _⟩ | ⟨g, cap, cur, hv, hb, _⟩
  · rw [hy] at h1
    cases h1
  · rw [hy] at hv
    injection hv with e1
    obtain rfl := Option.some.inj e1
    exact hb
theorem first_abv (L : List Lab) (g B : Nat) (h : B ≤ g) : ∀ x ∈ firstP L L.length (some ⟨g, 0, none⟩), PN.Abv B x := by
  intro x hx
  unfold firstP at hx
  obtain ⟨n, hn, rfl⟩ := List.mem_map.1 hx
  exact ⟨fun y hy => (by obtain rfl := Option.some.inj hy; exact h), fun y hy => (by cases hy)⟩
/-- A list of nodes that is new, behind w. -/
structure GI (w W : World) (v : Value) (l : List PN) : Prop where
  o : OwnN W w.heap.size v l
  p : ∀ x ∈ l, x.At W
  b : Below w.heap.size w W
  a : ∀ x ∈ l, PN.Abv w.heap.size x
theorem GI.then {w W W' : World} {v : Value} {l : List PN} (h : GI w W v l) (b : Below W.heap.size W W') : GI w W' v l := ⟨h.o.below b, fun x hx => (h.p x hx).below b, Below.then h.b b, h.a⟩
theorem first_at (L : List Lab) (a : Option Addr) (W : World) (h : GrsAt W a allG) : ∀ x ∈ firstP L L.length a, x.At W := by
  intro x hx
  unfold firstP at hx
  obtain ⟨n, hn, rfl⟩ := List.mem_map.1 hx
  have ha : n.acl = allG ∧ n.words = [] := by
    unfold firstTo at hn
    rcases List.mem_cons.1 hn with rfl | hn
    · exact ⟨rfl, rfl⟩
    · obtain ⟨k, hk, rfl⟩ := List.mem_mapIdx.1 hn
      exact ⟨rfl, rfl⟩
  exact ⟨by rw [ha.1]; exact h, by rw [ha.2]; intro j q hq; simp at hq⟩
/-- The node as Grow makes it first. -/
def nod0 (d : Nod) (m : Mk) : Nod := ⟨mkPath m, m.dir, d.label, aclOf m.acl, 0, 0, 0, 0, [], goodL m.by_⟩
theorem gcl_grs {W : World} {a : Option Addr} {gs : List Gr} (h : RowAt 2 gcl W a gs) : GrsAt W a gs := RowAt.grs h
structure G4 (w W : World) (v : Value) (l : List PN) (x : PM) (bm : Nat) (d : PN) (bd : Nat) : Prop where
  g : GI w W v l
  xa : x.At W
  mb : BlkL bm x.cs W
  db : BlkL bd d.cs W
theorem G4.then {w W W' : World} {v : Value} {l : List PN} {x : PM} {bm : Nat} {d : PN} {bd : Nat} (h : G4 w W v l x bm d bd) (b : Below W.heap.size W W') : G4 w W' v l x bm d bd := ⟨h.g.then b, h.xa.below b, stab_blk _ _ _ _ h.mb b, stab_blk _ _ _ _ h.db b⟩
theorem blk_at {W : World} {b o : Nat} {vs cs : List Value} (h : Blk W b vs) (hc : ∀ j v, cs[j]? = some v → vs[o + j]? = some v) : CellsAt W ⟨b, o, none⟩ cs := fun j v hv => by
  have := (h (o + j) v (hc j v hv)).1
  by_cases hj : j = 0
  · subst hj; simpa [Addr.add] using this
  · simpa [Addr.add, hj] using this
theorem blk_four {W : World} {b o : Nat} {vs : List Value} {a0 a1 a2 a3 : Value} (h : Blk W b vs) (h0 : vs[o]? = some a0) (h1 : vs[o + 1]? = some a1) (h2 : vs[o + 2]? = some a2) (h3 : vs[o + 3]? = some a3) : CellsAt W ⟨b, o, none⟩ [a0, a1, a2, a3] := blk_at h fun j v hv => by
  match j, hv with
  | 0, hv => rw [← hv]; exact h0
  | 1, hv => rw [← hv]; exact h1
  | 2, hv => rw [← hv]; exact h2
  | 3, hv => rw [← hv]; exact h3
  | j + 4, hv => simp at hv
theorem boolG_load (w : World) (y : Addr) (v : Value) (h : w.cell? y = some v) : (Instr.loadAt 4 (.pointer (some y))).run Try.prog w = .ok v w := by
  have h1 := Try.underlying4
  go_simp
theorem grs_load (w : World) (y : Addr) (v : Value) (h : w.cell? y = some v) : (Instr.loadAt 31 (.pointer (some y))).run Try.prog w = .ok v w := by
  have h1 := Try.underlying31
  go_simp
theorem wds_load (w : World) (y : Addr) (v : Value) (h : w.cell? y = some v) : (Instr.loadAt 34 (.pointer (some y))).run Try.prog w = .ok v w := by
  have h1 := Try.underlying34
  go_simp
theorem i64_load (w : World) (y : Addr) (v : Value) (h : w.cell? y = some v) : (Instr.loadAt 2 (.pointer (some y))).run Try.prog w = .ok v w := by
  have h1 := Try.underlying2
  go_simp
section
variable {ops : Array Oper} {o : Oper} {a : Act} {w : World} {Q : Exit → Act → World → Prop}
theorem step_store_rowT {T : TypeId} {K : Act → World → Prop} {E : Prop} {W : World} (hg : o.guard = none) (x y : Operand) (ho : o.op = .store T x y) (b : Nat) (hx : a.eval x = .pointer (some ⟨b, 0, none⟩)) (cs : List Value) (hy : a.eval y = .agg cs.toArray)
    (ht : w.there b 0 cs.length) (hi : (Try.prog.info? T).map (·.size) = some cs.length) (h1 : ∀ v ∈ cs, v.oneCell' = true) (hW : w.setCells b 0 cs = W) (hK : K (a.put o.dst undef) W) :
    if Region.wanted o (yielded ops a.tmps) = true then Oper.wp Try.prog o a w K Q else E := by
  have hw : Region.wanted o (yielded ops a.tmps) = true := by simp [Region.wanted, hg]
  rw [if_pos hw]
  exact wp_store_mid T x y ho b 0 cs.toArray hx hy ht hi (all_oneCell_toArray h1) (hW ▸ hK)
end
/-- A node's cells, its words' slice as a value. -/
def cellsW (n : Nod) (aa : Option Addr) (ca : Nat) (v : Value) : List Value := [.string n.path, .bool n.dir, .int .i64 n.label.s, .int .i64 n.label.c, .int .i64 n.label.i, .int .i64 n.label.k, .slice aa n.acl.length ca, .int .i64 n.r1, .int .i64 n.r2, .int .i64 n.r3, .int .i64 n.gates, v, .int .i64 n.by_.s, .int .i64 n.by_.c, .int .i64 n.by_.i, .int .i64 n.by_.k]
/-- Words that are put into a node's block, one behind the other. -/
structure GW (Z W : World) (bn : Nat) (n : Nod) (aa : Option Addr) (ca : Nat) (v : Value) (ws : List Int) : Prop where
  o : OwnR 2 1 wcl W Z.heap.size v ws
  b : Below Z.heap.size Z W
  n0 : Z.heap.size ≤ bn
  a : OwnGr W Z.heap.size (.slice aa n.acl.length ca) n.acl
  ne : (Value.slice aa n.acl.length ca).ownBlock ≠ some bn
  nv : v.ownBlock ≠ some bn
  na : ∀ g, (Value.slice aa n.acl.length ca).ownBlock = some g → v.ownBlock ≠ some g
  k : BlkL bn (cellsW n aa ca v) W
section
variable {Z W W' : World} {bn ca : Nat} {n : Nod} {aa : Option Addr} {v v' : Value} {ws ws' : List Int}
theorem GW.then (h : GW Z W bn n aa ca v ws) (b : Below W.heap.size W W') : GW Z W' bn n aa ca v ws := ⟨h.o.below b, Below.then h.b b, h.n0, h.a.below b, h.ne, h.nv, h.na, stab_blk _ _ _ _ h.k b⟩
theorem GW.push (h : GW Z W bn n aa ca v ws) (hg : Grew W v W' v') (ho : OwnR 2 1 wcl W' Z.heap.size v' ws') : BlkL bn (cellsW n aa ca v) W' ∧ Below Z.heap.size Z W' ∧ GW Z (W'.setCell ⟨bn, 11, none⟩ v') bn n aa ca v' ws' := by
  have hb : Below Z.heap.size Z W' := h.b.trans (h.o.grew_below h.b.size hg)
  have hk : BlkL bn (cellsW n aa ca v) W' := ⟨h.k.1.same (hg.by_.block _ h.k.2 (fun e => h.nv e.symm)), Nat.lt_of_lt_of_le h.k.2 hg.by_.size⟩
  have hnv : v'.ownBlock ≠ some bn := fun e => hg.apart h.k.2 (fun e => h.nv e.symm) e.symm
  have ha : OwnGr W' Z.heap.size (.slice aa n.acl.length ca) n.acl := h.a.keep fun g hgg => hg.by_.block _ (h.a.lt hgg).2 (fun e => h.na g hgg e.symm)
  refine ⟨hk, hb, ho.set hnv, hb.setCell (p := ⟨bn, 11, none⟩) h.n0 _, h.n0, ha.set h.ne, h.ne, hnv, fun g hgg e => hg.apart (h.a.lt hgg).2 (fun e => h.na g hgg e.symm) e.symm, ⟨?_, by simpa using hk.2⟩⟩
  exact hk.1.set 11 v' (by simp [cellsW])
end
theorem put_len (l : List PN) (x : PN) : (putP l x).length ≤ l.length + 1 := by
  unfold putP
  have h1 : (dropP l x.n.path).length ≤ l.length := List.length_filter_le _ _
  have h2 := congrArg List.length (List.takeWhile_append_dropWhile (p := fun y : PN => lt y.n.path x.n.path) (l := dropP l x.n.path))
  rw [List.length_append] at h2 ⊢
  rw [List.length_cons]
  omega
theorem grown_GI {w W W' : World} {v v' : Value} {l : List PN} {y : PN} (g : GI w W v l) (hy : y.At W) (hya : PN.Abv w.heap.size y) (ho : OwnN W' W.heap.size v' (putP l y)) (hb : Below W.heap.size W W') : GI w W' v' (putP l y) := ⟨ho.lower g.b.size, fun x hx => by
  rcases put_sub hx with rfl | hx
  · exact hy.below hb
  · exact (g.p x hx).below hb, Below.then g.b hb, fun x hx => by
  rcases put_sub hx with rfl | hx
  · exact hya
  · exact g.a x hx⟩
set_option maxRecDepth 20000 in
set_option maxHeartbeats 8000000 in
theorem growB_any (ta : Option Addr) (ct : Nat) (ts : List Lab) (ma : Option Addr) (mc : Nat) (ms : List PM) (w : World) (hlr : RowAt 4 lrow w ta ts) (hmr : RowM w ma ms) :
    Calls Try.prog 8 #[.slice ta ts.length ct, .slice ma ms.length mc] w fun e w' => ∃ v l, e = .returned v ∧ OwnN w' w.heap.size v l ∧ (∀ x ∈ l, x.At w') ∧ namesP l = growN ts (ms.map (·.m)) ∧ Below w.heap.size w w' ∧ (∀ x ∈ l, PN.Abv w.heap.size x) := by
  have hsl : (Try.prog.info? 25).map (·.size) = some 4 := by kernel_rfl
  have hb0 := blk_alloc w #[.slice none 0 0, .slice none 0 0, .slice none 0 0] 54
  have hB0 := alloc_below w (.cells #[.slice none 0 0, .slice none 0 0, .slice none 0 0] 54)
  have hz0 := World.size_alloc w (.cells #[.slice none 0 0, .slice none 0 0, .slice none 0 0] 54)
  obtain ⟨n, hn⟩ : ∃ n, ts.length = n := ⟨_, rfl⟩
  rw [hn]
  replace hn : Aside (ts.length = n) := hn
  obtain ⟨R, hR⟩ : ∃ R, growN ts (ms.map (·.m)) = R := ⟨_, rfl⟩
  rw [hR]
  replace hR : Aside (growN ts (ms.map (·.m)) = R) := hR
  go_enter Try.func8, Try.ntmps8
  go_upto_block 0 with fail
  generalize w.alloc (.cells #[.slice none 0 0, .slice none 0 0, .slice none 0 0] 54) = W0 at *
  go_cut [] from 6 (fun wc => ∃ v, OwnR 25 4 lrow wc (w.heap.size + 1) v ((ts.take 4).map goodL) ∧ Blk wc w.heap.size [v, .slice none 0 0, .slice none 0 0] ∧ Below w.heap.size w wc ∧ w.heap.size + 1 ≤ wc.heap.size)
  case first =>
    go_wp2_with fail
    go_loopw [6] (fun t6 wr => ∃ i : Nat, i ≤ n ∧ i ≤ 4 ∧ t6 = .int .i64 (i : Int) ∧ ∃ v, OwnR 25 4 lrow wr (w.heap.size + 1) v ((ts.take i).map goodL) ∧ Blk wr w.heap.size [v, .slice none 0 0, .slice none 0 0] ∧ Below w.heap.size w wr ∧ w.heap.size + 1 ≤ wr.heap.size) (fun t6 _ => n - (Go.RowKit.intOf t6).toNat)
    case atStart => exact ⟨0, by omega, by omega, rfl, .slice none 0 0, OwnR.nil _ _ _ _ _, hb0, hB0, by omega⟩
    case round =>
      clear hb0 hB0 hz0
      obtain ⟨i, hi, hi4, rfl, v, ho, hk, hB, hz⟩ := hrel
      by_cases hlt : i < n ∧ i < 4
      · obtain ⟨tt, hti⟩ : ∃ tt, ts[i]? = some tt := ⟨_, List.getElem?_eq_getElem (by rw [hn.out]; exact hlt.1)⟩
        obtain ⟨ya, rfl, -⟩ := hlr i tt hti
        have hmap : (ts.take (i + 1)).map goodL = (ts.take i).map goodL ++ [goodL tt] := by rw [List.take_add_one, hti]; simp
        have hlL : ((ts.take i).map goodL).length ≤ 4 := by simp; omega
        generalize (ts.take i).map goodL = L at *
        have hS0 : CellsAt wr.drew (ya.add (i * 4)) [.int .i64 tt.s, .int .i64 tt.c, .int .i64 tt.i, .int .i64 tt.k] := (hlr.below lab_ok.len hB).at lab_ok.len hti
        have hk0 : Blk wr.drew w.heap.size [v, .slice none 0 0, .slice none 0 0] := hk
        have ho0 : OwnR 25 4 lrow wr.drew (w.heap.size + 1) v L := ho
        have hz0 : w.heap.size + 1 ≤ wr.drew.heap.size := hz
        have hB0 : Below w.heap.size w wr.drew := hB.drew
        have i1 : (i : Int) < (n : Int) := by omega
        have i2 : (i : Int) < 4 := by omega
        obtain ⟨va, vc, hvv, -, -, -⟩ := OwnR.slice lab_ok.len ho
        subst hvv
        clear ho hk hB hz
        go_wp2_with fail
        refine wp_region_held_drew (S := (fun W => CellsAt W (ya.add (i * 4)) [.int .i64 tt.s, .int .i64 tt.c, .int .i64 tt.i, .int .i64 tt.k])) (by kernel_rfl) (by exact hS0) ?_
        intro hHeld
        generalize wr.drew = w0 at *
        refine wpAnyH_take (i := 0) (v := ?_) (by simp only [List.getElem?_toArray, List.getElem?_cons_zero, List.getElem?_cons_succ]; rfl) (by kernel_rfl) (by kernel_rfl) (by kernel_rfl) (by exact fun _ _ _ h => h) (Or.inl ⟨by rfl, ?_⟩) (by assumption) ?_; rotate_left; (focus (intro w hSw; (try dsimp only at hSw); go_simp; try with_reducible rfl)); (try simp only [Act.put, List.setIfInBounds_toArray, List.set_cons_zero, List.set_cons_succ])
        refine wpAnyH_take (i := 2) (v := ?_) (by simp only [List.getElem?_toArray, List.getElem?_cons_zero, List.getElem?_cons_succ]; rfl) (by kernel_rfl) (by kernel_rfl) (by kernel_rfl) (by exact fun _ _ _ h => h) (Or.inl ⟨by rfl, ?_⟩) (by assumption) ?_; rotate_left; (focus (intro w hSw; (try dsimp only at hSw); go_simp; try with_reducible rfl)); (try simp only [Act.put, List.setIfInBounds_toArray, List.set_cons_zero, List.set_cons_succ])
        refine wpAnyH_take (i := 3) (v := ?_) (by simp only [List.getElem?_toArray, List.getElem?_cons_zero, List.getElem?_cons_succ]; rfl) (by kernel_rfl) (by kernel_rfl) (by kernel_rfl) (by exact fun _ _ _ h => h) (Or.inl ⟨by rfl, ?_⟩) (by assumption) ?_; rotate_left; (focus (intro w hSw; (try dsimp only at hSw); go_simp; try with_reducible rfl)); (try simp only [Act.put, List.setIfInBounds_toArray, List.set_cons_zero, List.set_cons_succ])
        refine wpAnyH_take (i := 4) (v := ?_) (by simp only [List.getElem?_toArray, List.getElem?_cons_zero, List.getElem?_cons_succ]; rfl) (by kernel_rfl) (by kernel_rfl) (by kernel_rfl) (by exact fun _ _ _ h => h) (Or.inl ⟨by rfl, ?_⟩) (by assumption) ?_; rotate_left; (focus (intro w hSw; (try dsimp only at hSw); go_simp; try with_reducible rfl)); (try simp only [Act.put, List.setIfInBounds_toArray, List.set_cons_zero, List.set_cons_succ])
        refine wpAnyH_take (i := 5) (v := _) (by simp only [List.getElem?_toArray, List.getElem?_cons_zero, List.getElem?_cons_succ]; rfl) (by kernel_rfl) (by kernel_rfl) (by kernel_rfl) (by exact fun _ _ _ h => h) (yields_at (by rfl) _ rfl _ rfl [.int .i64 tt.s, .int .i64 tt.c, .int .i64 tt.i, .int .i64 tt.k] (fun _ q => q) Try.underlying25 rfl hsl) (by assumption) ?_; (try simp only [Act.put, List.setIfInBounds_toArray, List.set_cons_zero, List.set_cons_succ])
        refine wpAnyH_ready (rs := [1, 6]) (by kernel_rfl) (by simp) ?_
        refine AllReadyH.cons (by simp only [List.getElem?_toArray, List.getElem?_cons_zero, List.getElem?_cons_succ]; rfl) (fun K hK => ?_) ?_
        · skip
          have hcf := (hk0 0 _ rfl).1
          go_simp
          refine hK.out _ _ (hS0) ?_
          clear hHeld hK
          intro hHeld
          obtain ⟨w1, hww⟩ : ∃ w', w' = w0 := ⟨_, rfl⟩
          subst hww
          have hS1 := hS0
          have hk1 := hk0
          have hz1 := hz0
          have ho1 := ho0
          have hB1 := hB0
          (try simp only [Act.put, List.setIfInBounds_toArray, List.set_cons_zero, List.set_cons_succ])
          refine wpAnyH_ready (rs := [6]) (by kernel_rfl) (by simp) ?_
          refine AllReadyH.cons (by simp only [List.getElem?_toArray, List.getElem?_cons_zero, List.getElem?_cons_succ]; rfl) (fun K hK => ?_) AllReadyH.nil
          go_simp
          go_at_call 9
          refine (good_any tt _).mono ?_
          rintro e w2 ⟨rfl, hb⟩
          have hS2 := hS1.below hb
          have hk2 := hk1.same (hb.block _ (by omega))
          have hz2 := Nat.le_trans hz1 hb.size
          have ho2 := ho1.below hb
          have hB2 := Below.then hB1 hb
          refine hK.out _ _ (hS2) ?_
          clear hHeld hK
          intro hHeld
          (try simp only [Act.put, List.setIfInBounds_toArray, List.set_cons_zero, List.set_cons_succ])
          refine wpAnyH_ready (rs := [7]) (by kernel_rfl) (by simp) ?_
          refine AllReadyH.cons (by simp only [List.getElem?_toArray, List.getElem?_cons_zero, List.getElem?_cons_succ]; rfl) (fun K hK => ?_) AllReadyH.nil
          refine step_build1 lab_ok (by decide) rfl _ rfl [.int .i64 (goodL tt).s, .int .i64 (goodL tt).c, .int .i64 (goodL tt).i, .int .i64 (goodL tt).k] rfl rfl ?_
          (try simp only [Act.put, List.setIfInBounds_toArray, List.set_cons_zero, List.set_cons_succ])
          refine hK.out _ _ (hS2.below (alloc_below _ _)) ?_
          clear hHeld hK
          intro hHeld
          obtain ⟨vz, wz, hap, hoz, hgz⟩ := OwnR.push lab_ok ho2 hz2 (goodL tt) [.int .i64 (goodL tt).s, .int .i64 (goodL tt).c, .int .i64 (goodL tt).i, .int .i64 (goodL tt).k].toArray rfl 25 (by omega)
          have hbz := ho2.grew_below hz2 hgz
          have hkz := hk2.same (hbz.block _ (by omega))
          have hzz := Nat.le_trans hz2 hbz.size
          have hBz := hB2.trans (hbz.mono (by omega))
          have hSz : CellsAt wz (ya.add (i * 4)) [.int .i64 tt.s, .int .i64 tt.c, .int .i64 tt.i, .int .i64 tt.k] := (hlr.below lab_ok.len hBz).at lab_ok.len hti
          have hS3 := hS2.below (alloc_below w2 (.cells [.int .i64 (goodL tt).s, .int .i64 (goodL tt).c, .int .i64 (goodL tt).i, .int .i64 (goodL tt).k].toArray 25))
          have hk3 := hk2.same ((alloc_below w2 (.cells [.int .i64 (goodL tt).s, .int .i64 (goodL tt).c, .int .i64 (goodL tt).i, .int .i64 (goodL tt).k].toArray 25)).block _ (by omega))
          have hz3 := Nat.le_trans hz2 (alloc_below w2 (.cells [.int .i64 (goodL tt).s, .int .i64 (goodL tt).c, .int .i64 (goodL tt).i, .int .i64 (goodL tt).k].toArray 25)).size
          have ho3 := ho2
          have hB3 := hB2
          obtain ⟨w3, hww⟩ : ∃ w', w2.alloc (.cells [.int .i64 (goodL tt).s, .int .i64 (goodL tt).c, .int .i64 (goodL tt).i, .int .i64 (goodL tt).k].toArray 25) = w' := ⟨_, rfl⟩
          rw [hww] at hS3 hk3 hz3 hap hHeld ⊢
          clear hww
          (try simp only [Act.put, List.setIfInBounds_toArray, List.set_cons_zero, List.set_cons_succ])
          refine wpAnyH_ready (rs := [8]) (by kernel_rfl) (by simp) ?_
          refine AllReadyH.cons (by simp only [List.getElem?_toArray, List.getElem?_cons_zero, List.getElem?_cons_succ]; rfl) (fun K hK => ?_) AllReadyH.nil
          refine step_append rfl _ _ rfl rfl rfl rfl hap ?_
          (try simp only [Act.put, List.setIfInBounds_toArray, List.set_cons_zero, List.set_cons_succ])
          refine hK.out _ _ (hSz) ?_
          clear hHeld hK
          intro hHeld
          have hcz := hkz 0 _ rfl
          have hk2 := hkz.set 0 vz (by simp)
          have hoz2 := hoz.set (g := w.heap.size) (j := 0) (u := vz) (fun q => by have := (hoz.lt q).1; omega)
          have hB2 : Below w.heap.size w (wz.setCell ⟨w.heap.size, 0, none⟩ vz) := hBz.setCell (p := ⟨w.heap.size, 0, none⟩) (Nat.le_refl _) _
          have hz2 : w.heap.size + 1 ≤ (wz.setCell ⟨w.heap.size, 0, none⟩ vz).heap.size := by simpa using hzz
          have hS2 : CellsAt (wz.setCell ⟨w.heap.size, 0, none⟩ vz) (ya.add (i * 4)) [.int .i64 tt.s, .int .i64 tt.c, .int .i64 tt.i, .int .i64 tt.k] := (hlr.below lab_ok.len hB2).at lab_ok.len hti
          obtain ⟨av, cv, hvv, -, -, -⟩ := OwnR.slice lab_ok.len hoz
          generalize (L ++ [goodL tt]).length = lz at hvv
          subst hvv
          (try simp only [Act.put, List.setIfInBounds_toArray, List.set_cons_zero, List.set_cons_succ])
          refine wpAnyH_take (i := 9) (v := ?_) (by simp only [List.getElem?_toArray, List.getElem?_cons_zero, List.getElem?_cons_succ]; rfl) (by kernel_rfl) (by kernel_rfl) (by kernel_rfl) (by exact fun _ _ _ h => h) (Or.inl ⟨by rfl, ?_⟩) (by assumption) ?_; rotate_left; (focus (intro w hSw; (try dsimp only at hSw); go_simp; try with_reducible rfl)); (try simp only [Act.put, List.setIfInBounds_toArray, List.set_cons_zero, List.set_cons_succ])
          refine wpAnyH_ready (rs := [10]) (by kernel_rfl) (by simp) ?_
          refine AllReadyH.cons (by simp only [List.getElem?_toArray, List.getElem?_cons_zero, List.getElem?_cons_succ]; rfl) (fun K hK => ?_) AllReadyH.nil
          go_simp
          refine hK.out _ _ (hS2) ?_
          clear hHeld hK
          intro hHeld
          (try simp only [Act.put, List.setIfInBounds_toArray, List.set_cons_zero, List.set_cons_succ])
          refine wpAnyH_done (by kernel_rfl) ?_ _
          go_wp2_with fail
          exact ⟨⟨i + 1, by omega, by omega, by simp, _, by rw [hmap]; exact hoz2, hk2, hB2, hz2⟩, by simp [Go.RowKit.intOf]; omega⟩
        refine AllReadyH.cons (by simp only [List.getElem?_toArray, List.getElem?_cons_zero, List.getElem?_cons_succ]; rfl) (fun K hK => ?_) AllReadyH.nil
        go_simp
        go_at_call 9
        refine (good_any tt _).mono ?_
        rintro e w1 ⟨rfl, hb⟩
        have hS1 := hS0.below hb
        have hk1 := hk0.same (hb.block _ (by omega))
        have hz1 := Nat.le_trans hz0 hb.size
        have ho1 := ho0.below hb
        have hB1 := Below.then hB0 hb
        refine hK.out _ _ (hS1) ?_
        clear hHeld hK
        intro hHeld
        (try simp only [Act.put, List.setIfInBounds_toArray, List.set_cons_zero, List.set_cons_succ])
        refine wpAnyH_ready (rs := [1, 7]) (by kernel_rfl) (by simp) ?_
        refine AllReadyH.cons (by simp only [List.getElem?_toArray, List.getElem?_cons_zero, List.getElem?_cons_succ]; rfl) (fun K hK => ?_) ?_
        · skip
          have hcf := (hk1 0 _ rfl).1
          go_simp
          refine hK.out _ _ (hS1) ?_
          clear hHeld hK
          intro hHeld
          obtain ⟨w2, hww⟩ : ∃ w', w' = w1 := ⟨_, rfl⟩
          subst hww
          have hS2 := hS1
          have hk2 := hk1
          have hz2 := hz1
          have ho2 := ho1
          have hB2 := hB1
          (try simp only [Act.put, List.setIfInBounds_toArray, List.set_cons_zero, List.set_cons_succ])
          refine wpAnyH_ready (rs := [7]) (by kernel_rfl) (by simp) ?_
          refine AllReadyH.cons (by simp only [List.getElem?_toArray, List.getElem?_cons_zero, List.getElem?_cons_succ]; rfl) (fun K hK => ?_) AllReadyH.nil
          refine step_build1 lab_ok (by decide) rfl _ rfl [.int .i64 (goodL tt).s, .int .i64 (goodL tt).c, .int .i64 (goodL tt).i, .int .i64 (goodL tt).k] rfl rfl ?_
          (try simp only [Act.put, List.setIfInBounds_toArray, List.set_cons_zero, List.set_cons_succ])
          refine hK.out _ _ (hS2.below (alloc_below _ _)) ?_
          clear hHeld hK
          intro hHeld
          obtain ⟨vz, wz, hap, hoz, hgz⟩ := OwnR.push lab_ok ho2 hz2 (goodL tt) [.int .i64 (goodL tt).s, .int .i64 (goodL tt).c, .int .i64 (goodL tt).i, .int .i64 (goodL tt).k].toArray rfl 25 (by omega)
          have hbz := ho2.grew_below hz2 hgz
          have hkz := hk2.same (hbz.block _ (by omega))
          have hzz := Nat.le_trans hz2 hbz.size
          have hBz := hB2.trans (hbz.mono (by omega))
          have hSz : CellsAt wz (ya.add (i * 4)) [.int .i64 tt.s, .int .i64 tt.c, .int .i64 tt.i, .int .i64 tt.k] := (hlr.below lab_ok.len hBz).at lab_ok.len hti
          have hS3 := hS2.below (alloc_below w2 (.cells [.int .i64 (goodL tt).s, .int .i64 (goodL tt).c, .int .i64 (goodL tt).i, .int .i64 (goodL tt).k].toArray 25))
          have hk3 := hk2.same ((alloc_below w2 (.cells [.int .i64 (goodL tt).s, .int .i64 (goodL tt).c, .int .i64 (goodL tt).i, .int .i64 (goodL tt).k].toArray 25)).block _ (by omega))
          have hz3 := Nat.le_trans hz2 (alloc_below w2 (.cells [.int .i64 (goodL tt).s, .int .i64 (goodL tt).c, .int .i64 (goodL tt).i, .int .i64 (goodL tt).k].toArray 25)).size
          have ho3 := ho2
          have hB3 := hB2
          obtain ⟨w3, hww⟩ : ∃ w', w2.alloc (.cells [.int .i64 (goodL tt).s, .int .i64 (goodL tt).c, .int .i64 (goodL tt).i, .int .i64 (goodL tt).k].toArray 25) = w' := ⟨_, rfl⟩
          rw [hww] at hS3 hk3 hz3 hap hHeld ⊢
          clear hww
          (try simp only [Act.put, List.setIfInBounds_toArray, List.set_cons_zero, List.set_cons_succ])
          refine wpAnyH_ready (rs := [8]) (by kernel_rfl) (by simp) ?_
          refine AllReadyH.cons (by simp only [List.getElem?_toArray, List.getElem?_cons_zero, List.getElem?_cons_succ]; rfl) (fun K hK => ?_) AllReadyH.nil
          refine step_append rfl _ _ rfl rfl rfl rfl hap ?_
          (try simp only [Act.put, List.setIfInBounds_toArray, List.set_cons_zero, List.set_cons_succ])
          refine hK.out _ _ (hSz) ?_
          clear hHeld hK
          intro hHeld
          have hcz := hkz 0 _ rfl
          have hk2 := hkz.set 0 vz (by simp)
          have hoz2 := hoz.set (g := w.heap.size) (j := 0) (u := vz) (fun q => by have := (hoz.lt q).1; omega)
          have hB2 : Below w.heap.size w (wz.setCell ⟨w.heap.size, 0, none⟩ vz) := hBz.setCell (p := ⟨w.heap.size, 0, none⟩) (Nat.le_refl _) _
          have hz2 : w.heap.size + 1 ≤ (wz.setCell ⟨w.heap.size, 0, none⟩ vz).heap.size := by simpa using hzz
          have hS2 : CellsAt (wz.setCell ⟨w.heap.size, 0, none⟩ vz) (ya.add (i * 4)) [.int .i64 tt.s, .int .i64 tt.c, .int .i64 tt.i, .int .i64 tt.k] := (hlr.below lab_ok.len hB2).at lab_ok.len hti
          obtain ⟨av, cv, hvv, -, -, -⟩ := OwnR.slice lab_ok.len hoz
          generalize (L ++ [goodL tt]).length = lz at hvv
          subst hvv
          (try simp only [Act.put, List.setIfInBounds_toArray, List.set_cons_zero, List.set_cons_succ])
          refine wpAnyH_take (i := 9) (v := ?_) (by simp only [List.getElem?_toArray, List.getElem?_cons_zero, List.getElem?_cons_succ]; rfl) (by kernel_rfl) (by kernel_rfl) (by kernel_rfl) (by exact fun _ _ _ h => h) (Or.inl ⟨by rfl, ?_⟩) (by assumption) ?_; rotate_left; (focus (intro w hSw; (try dsimp only at hSw); go_simp; try with_reducible rfl)); (try simp only [Act.put, List.setIfInBounds_toArray, List.set_cons_zero, List.set_cons_succ])
          refine wpAnyH_ready (rs := [10]) (by kernel_rfl) (by simp) ?_
          refine AllReadyH.cons (by simp only [List.getElem?_toArray, List.getElem?_cons_zero, List.getElem?_cons_succ]; rfl) (fun K hK => ?_) AllReadyH.nil
          go_simp
          refine hK.out _ _ (hS2) ?_
          clear hHeld hK
          intro hHeld
          (try simp only [Act.put, List.setIfInBounds_toArray, List.set_cons_zero, List.set_cons_succ])
          refine wpAnyH_done (by kernel_rfl) ?_ _
          go_wp2_with fail
          exact ⟨⟨i + 1, by omega, by omega, by simp, _, by rw [hmap]; exact hoz2, hk2, hB2, hz2⟩, by simp [Go.RowKit.intOf]; omega⟩
        refine AllReadyH.cons (by simp only [List.getElem?_toArray, List.getElem?_cons_zero, List.getElem?_cons_succ]; rfl) (fun K hK => ?_) AllReadyH.nil
        refine step_build1 lab_ok (by decide) rfl _ rfl [.int .i64 (goodL tt).s, .int .i64 (goodL tt).c, .int .i64 (goodL tt).i, .int .i64 (goodL tt).k] rfl rfl ?_
        (try simp only [Act.put, List.setIfInBounds_toArray, List.set_cons_zero, List.set_cons_succ])
        refine hK.out _ _ (hS1.below (alloc_below _ _)) ?_
        clear hHeld hK
        intro hHeld
        obtain ⟨vz, wz, hap, hoz, hgz⟩ := OwnR.push lab_ok ho1 hz1 (goodL tt) [.int .i64 (goodL tt).s, .int .i64 (goodL tt).c, .int .i64 (goodL tt).i, .int .i64 (goodL tt).k].toArray rfl 25 (by omega)
        have hbz := ho1.grew_below hz1 hgz
        have hkz := hk1.same (hbz.block _ (by omega))
        have hzz := Nat.le_trans hz1 hbz.size
        have hBz := hB1.trans (hbz.mono (by omega))
        have hSz : CellsAt wz (ya.add (i * 4)) [.int .i64 tt.s, .int .i64 tt.c, .int .i64 tt.i, .int .i64 tt.k] := (hlr.below lab_ok.len hBz).at lab_ok.len hti
        have hS2 := hS1.below (alloc_below w1 (.cells [.int .i64 (goodL tt).s, .int .i64 (goodL tt).c, .int .i64 (goodL tt).i, .int .i64 (goodL tt).k].toArray 25))
        have hk2 := hk1.same ((alloc_below w1 (.cells [.int .i64 (goodL tt).s, .int .i64 (goodL tt).c, .int .i64 (goodL tt).i, .int .i64 (goodL tt).k].toArray 25)).block _ (by omega))
        have hz2 := Nat.le_trans hz1 (alloc_below w1 (.cells [.int .i64 (goodL tt).s, .int .i64 (goodL tt).c, .int .i64 (goodL tt).i, .int .i64 (goodL tt).k].toArray 25)).size
        have ho2 := ho1
        have hB2 := hB1
        obtain ⟨w2, hww⟩ : ∃ w', w1.alloc (.cells [.int .i64 (goodL tt).s, .int .i64 (goodL tt).c, .int .i64 (goodL tt).i, .int .i64 (goodL tt).k].toArray 25) = w' := ⟨_, rfl⟩
        rw [hww] at hS2 hk2 hz2 hap hHeld ⊢
        clear hww
        (try simp only [Act.put, List.setIfInBounds_toArray, List.set_cons_zero, List.set_cons_succ])
        refine wpAnyH_ready (rs := [1]) (by kernel_rfl) (by simp) ?_
        refine AllReadyH.cons (by simp only [List.getElem?_toArray, List.getElem?_cons_zero, List.getElem?_cons_succ]; rfl) (fun K hK => ?_) AllReadyH.nil
        have hcf := (hk2 0 _ rfl).1
        go_simp
        refine hK.out _ _ (hS2) ?_
        clear hHeld hK
        intro hHeld
        obtain ⟨w3, hww⟩ : ∃ w', w' = w2 := ⟨_, rfl⟩
        subst hww
        have hS3 := hS2
        have hk3 := hk2
        have hz3 := hz2
        have ho3 := ho2
        have hB3 := hB2
        (try simp only [Act.put, List.setIfInBounds_toArray, List.set_cons_zero, List.set_cons_succ])
        refine wpAnyH_ready (rs := [8]) (by kernel_rfl) (by simp) ?_
        refine AllReadyH.cons (by simp only [List.getElem?_toArray, List.getElem?_cons_zero, List.getElem?_cons_succ]; rfl) (fun K hK => ?_) AllReadyH.nil
        refine step_append rfl _ _ rfl rfl rfl rfl hap ?_
        (try simp only [Act.put, List.setIfInBounds_toArray, List.set_cons_zero, List.set_cons_succ])
        refine hK.out _ _ (hSz) ?_
        clear hHeld hK
        intro hHeld
        have hcz := hkz 0 _ rfl
        have hk2 := hkz.set 0 vz (by simp)
        have hoz2 := hoz.set (g := w.heap.size) (j := 0) (u := vz) (fun q => by have := (hoz.lt q).1; omega)
        have hB2 : Below w.heap.size w (wz.setCell ⟨w.heap.size, 0, none⟩ vz) := hBz.setCell (p := ⟨w.heap.size, 0, none⟩) (Nat.le_refl _) _
        have hz2 : w.heap.size + 1 ≤ (wz.setCell ⟨w.heap.size, 0, none⟩ vz).heap.size := by simpa using hzz
        have hS2 : CellsAt (wz.setCell ⟨w.heap.size, 0, none⟩ vz) (ya.add (i * 4)) [.int .i64 tt.s, .int .i64 tt.c, .int .i64 tt.i, .int .i64 tt.k] := (hlr.below lab_ok.len hB2).at lab_ok.len hti
        obtain ⟨av, cv, hvv, -, -, -⟩ := OwnR.slice lab_ok.len hoz
        generalize (L ++ [goodL tt]).length = lz at hvv
        subst hvv
        (try simp only [Act.put, List.setIfInBounds_toArray, List.set_cons_zero, List.set_cons_succ])
        refine wpAnyH_take (i := 9) (v := ?_) (by simp only [List.getElem?_toArray, List.getElem?_cons_zero, List.getElem?_cons_succ]; rfl) (by kernel_rfl) (by kernel_rfl) (by kernel_rfl) (by exact fun _ _ _ h => h) (Or.inl ⟨by rfl, ?_⟩) (by assumption) ?_; rotate_left; (focus (intro w hSw; (try dsimp only at hSw); go_simp; try with_reducible rfl)); (try simp only [Act.put, List.setIfInBounds_toArray, List.set_cons_zero, List.set_cons_succ])
        refine wpAnyH_ready (rs := [10]) (by kernel_rfl) (by simp) ?_
        refine AllReadyH.cons (by simp only [List.getElem?_toArray, List.getElem?_cons_zero, List.getElem?_cons_succ]; rfl) (fun K hK => ?_) AllReadyH.nil
        go_simp
        refine hK.out _ _ (hS2) ?_
        clear hHeld hK
        intro hHeld
        (try simp only [Act.put, List.setIfInBounds_toArray, List.set_cons_zero, List.set_cons_succ])
        refine wpAnyH_done (by kernel_rfl) ?_ _
        go_wp2_with fail
        exact ⟨⟨i + 1, by omega, by omega, by simp, _, by rw [hmap]; exact hoz2, hk2, hB2, hz2⟩, by simp [Go.RowKit.intOf]; omega⟩
      · have hend : (ts.take i).map goodL = (ts.take 4).map goodL := by
          have hnn := hn.out
          by_cases h4 : i = 4
          · rw [h4]
          · rw [List.take_of_length_le (by omega), List.take_of_length_le (by omega)]
        rw [hend] at ho
        by_cases hin : i < n
        · obtain rfl : i = 4 := by omega
          have i1 : ((4 : Nat) : Int) < (n : Int) := by omega
          go_wp2_with fail
          go_meet
          exact ⟨v, ho, hk, hB, hz⟩
        · obtain rfl : i = n := by omega
          go_wp2_with fail
          go_meet
          exact ⟨v, ho, hk, hB, hz⟩
  case rest =>
    clear hb0 hB0 hz0
    obtain ⟨v, ho, hk, hB, hz⟩ := hcut
    have hl4 : ((ts.take 4).map goodL).length ≤ 4 := by simp; omega
    have hR' := hR.out
    unfold growN at hR'
    clear hR
    generalize (ts.take 4).map goodL = L at *
    obtain ⟨va, vc, hvv, -, -, hLr⟩ := OwnR.slice lab_ok.len ho
    subst hvv
    have hrow := hk.range
    have hcf : (Try.prog.info? 54).map (·.size) = some 3 := by kernel_rfl
    clear ho hk
    replace hR' : Aside _ := hR'
    go_wp2_with (first | (refine wpList_load_row rfl _ rfl _ rfl [.slice va L.length vc, .slice none 0 0, .slice none 0 0] hrow Try.underlying54 rfl hcf ?_) | fail)
    refine (rfirstT_any va vc L _ _ _ _ _ _ (by omega) wc hLr).mono ?_
    rintro e W1 ⟨v1, rfl, hO1, hG1, hB1⟩
    have g1 : GI w W1 v1 (firstP L L.length (some ⟨wc.heap.size + 1, 0, none⟩)) := ⟨hO1.lower (by omega), first_at L _ W1 hG1, hB.trans (hB1.mono (by omega)), first_abv L _ _ (by omega)⟩
    have hn1 := firstP_names L L.length (some ⟨wc.heap.size + 1, 0, none⟩)
    have hs1 := firstP_len L L.length (some ⟨wc.heap.size + 1, 0, none⟩)
    clear hO1 hG1 hB1 hLr hrow hz hB
    obtain ⟨m, hm⟩ : ∃ m, ms.length = m := ⟨_, rfl⟩
    rw [hm]
    replace hm : Aside (ms.length = m) := hm
    have hL1 : (firstP L L.length (some ⟨wc.heap.size + 1, 0, none⟩)).length ≤ 5 := by rw [hs1]; have := dist_len L L.length; omega
    generalize hfp : firstP L L.length (some ⟨wc.heap.size + 1, 0, none⟩) = F at *
    clear hfp hs1
    replace hn1 : Aside _ := hn1
    clear hcf
    generalize wc.heap.size = cz at *
    go_wp2_with fail
    go_loopw [7, 8] (fun t7 t8 wr => ∃ (i : Nat) (l : List PN), i ≤ m ∧ i ≤ 14 ∧ t8 = .int .i64 (i : Int) ∧ GI w wr t7 l ∧ l.length ≤ 5 + i ∧ Aside (((ms.map (·.m)).take i).foldl growStep (firstN L) = namesP l)) (fun _ t8 _ => m - (Go.RowKit.intOf t8).toNat)
    case atStart => exact ⟨0, F, by omega, by omega, rfl, g1, by omega, by rw [hn1.out]; exact rfl⟩
    case round =>
      clear g1 hL1
      obtain ⟨i, l, hi, hi14, rfl, g, hll, hf⟩ := hrel
      obtain ⟨va, vc, hvv, -, -, hrl⟩ := OwnR.slice pn_ok.len g.o
      subst hvv
      have hrn : RowN wr va l := ⟨hrl, g.p⟩
      by_cases hlt : i < m ∧ i < 14
      · obtain ⟨x, hx⟩ : ∃ x, ms[i]? = some x := ⟨_, List.getElem?_eq_getElem (by rw [hm.out]; exact hlt.1)⟩
        have hMr := hmr.below g.b
        obtain ⟨ya, rfl, -⟩ := hMr.r i x hx
        have hxa := hMr.p x (List.mem_of_getElem? hx)
        have hcx := hMr.r.at pm_len hx
        have hst : ((ms.map (·.m)).take (i + 1)).foldl growStep (firstN L) = growStep (namesP l) x.m := by
          rw [List.take_add_one, List.getElem?_map, hx, List.foldl_append, hf.out]; rfl
        replace hst : Aside _ := hst
        obtain ⟨Wm, hWm, hth, hbk, hBm⟩ := put_new wr mzero 58 x.cs rfl (by rw [pm_len]; omega)
        have hc0 := (hbk.1 0 _ rfl).1
        have hszm : (Try.prog.info? 58).map (·.size) = some x.cs.length := by kernel_rfl
        have hone := pm_one x
        have i1 : (i : Int) < (m : Int) := by omega
        have i2 : (i : Int) < 14 := by omega
        have kof := mkOf_any x Wm (hxa.below hBm)
        have g1 := g.then hBm
        have hrn1 := hrn.below hBm
        have hxa1 := hxa.below hBm
        go_wp2_with (first | (refine wpList_load_at rfl _ rfl (ya.add (i * 16)) rfl x.cs hcx Try.underlying58 rfl hszm ?_) | (refine wpList_store_row rfl _ _ rfl wr.heap.size rfl x.cs rfl hth hszm hone hWm ?_) | fail)
        refine kof.mono ?_
        rintro e W2 ⟨rfl, hB2⟩
        generalize wr.heap.size = bm at *
        have g2 := g1.then hB2
        have hrn2 := hrn1.below hB2
        have hxa2 := hxa1.below hB2
        have hbk2 := stab_blk _ _ _ _ hbk hB2
        have hsp := mkPath_size x.m
        have hst' := hst.out
        obtain ⟨T, hT⟩ : ∃ T, ((ms.map (·.m)).take (i + 1)).foldl growStep (firstN L) = T := ⟨_, rfl⟩
        rw [hT] at hst'
        replace hT : Aside _ := hT
        unfold growStep at hst'
        obtain ⟨p, hp⟩ : ∃ p, mkPath x.m = p := ⟨_, rfl⟩
        rw [hp] at hsp hst' ⊢
        replace hp : Aside (mkPath x.m = p) := hp
        clear kof hrn hrn1 hxa hxa1 hbk hBm hB2 hone hc0 hcx hth g g1 hst hMr hrl hWm Wm
        cases he : eqs p slashS
        · rw [if_neg (by rw [he]; decide)] at hst'
          have f0 : (p.toList == [47]) = false := by rw [← slash_lit]; exact he
          go_wp2_with fail
          refine (rparent_any p (by omega) W2).mono ?_
          rintro e W2' ⟨rfl, hW2'⟩
          subst hW2'
          go_wp2_with fail
          refine (rfindT_any va vc l (parentOf p) (by omega) _ hrn2).mono ?_
          rintro e W3 ⟨rfl, hB3⟩
          have hfp := find_names l (parentOf p)
          generalize hfd : findP l (parentOf p) = fd at *
          replace hfd : Aside _ := hfd
          have hszn : (Try.prog.info? 36).map (·.size) = some (foundCs fd).length := by rw [show (foundCs fd).length = 16 from rfl]; kernel_rfl
          have honen : ∀ v ∈ foundCs fd, v.oneCell' = true := pn_one _
          obtain ⟨W4, hW4, hth4, hbd, hB4⟩ := put_new W3 nzT 36 (foundCs fd) rfl (by rw [show (foundCs fd).length = 16 from rfl]; omega)
          have hB34 := Below.then hB3 hB4
          have g4 := g2.then hB34
          have hrn4 := hrn2.below hB34
          have hxa4 := hxa2.below hB34
          have hbk4 := stab_blk _ _ _ _ hbk2 hB34
          clear g2 hrn2 hxa2 hbk2 hB34 hB3 hB4
          go_wp2_with (first | (refine wpList_store_row rfl _ _ rfl W3.heap.size rfl (foundCs fd) rfl hth4 hszn honen hW4 ?_) | fail)
          generalize W3.heap.size = bd at *
          clear hth4 hW4 hszn honen W3
          refine (rfindT_any va vc l p (by omega) _ hrn4).mono ?_
          rintro e W5 ⟨rfl, hB5⟩
          have hfp2 := find_names l p
          generalize hfe : findP l p = fe at *
          replace hfe : Aside _ := hfe
          have hszn : (Try.prog.info? 36).map (·.size) = some (foundCs fe).length := by rw [show (foundCs fe).length = 16 from rfl]; kernel_rfl
          have honen : ∀ v ∈ foundCs fe, v.oneCell' = true := pn_one _
          obtain ⟨W6, hW6, hth6, hbe, hB6⟩ := put_new W5 nzT 36 (foundCs fe) rfl (by rw [show (foundCs fe).length = 16 from rfl]; omega)
          have hB56 := Below.then hB5 hB6
          have g6 := g4.then hB56
          have hrn6 := hrn4.below hB56
          have hxa6 := hxa4.below hB56
          have hbk6 := stab_blk _ _ _ _ hbk4 hB56
          have hbd6 := stab_blk _ _ _ _ hbd hB56
          clear g4 hrn4 hxa4 hbk4 hbd hB56 hB5 hB6
          rw [hfp, hfp2] at hst'
          cases fd with
          | none =>
            go_wp2_with (first | (refine wpList_store_row rfl _ _ rfl W5.heap.size rfl (foundCs fe) rfl hth6 hszn honen hW6 ?_) | fail)
            exact ⟨⟨i + 1, l, by omega, by omega, by simp, g6, by omega, by rw [hT.out]; exact hst'⟩, by simp [Go.RowKit.intOf]; omega⟩
          | some d =>
            have hd1 := (hbd6.1 1 (.bool d.n.dir) rfl).1
            by_cases hgo : d.n.dir = true ∧ fe = none
            · obtain ⟨hdd, rfl⟩ := hgo
              rw [hdd] at hd1
              replace hst' : T = putN (namesP l) (mkN d.n x.m) := by rw [hst']; simp [hdd]
              replace hst' : Aside _ := hst'
              go_upto_region 16 with (first | (refine wpList_store_row rfl _ _ rfl W5.heap.size rfl (foundCs none) rfl hth6 hszn honen hW6 ?_) | fail)
              have h4 : G4 w W6 (.slice va l.length vc) l x bm d bd := ⟨g6, hxa6, hbk6, hbd6⟩
              clear g6 hxa6 hbk6 hbd6 hth6 hszn honen hW6 hrn6 hd1 hbe
              generalize W5.heap.size = be at *
              clear W5
              go_cut [15] from 39 to 129 (fun s15 wq => ∃ (bn : Nat) (aa : Option Addr) (ca : Nat), s15 = .pointer (some ⟨bn, 0, none⟩) ∧ Below W6.heap.size W6 wq ∧ W6.heap.size ≤ bn ∧ BlkL bn (nclT (nod0 d.n x.m) aa ca none 0) wq ∧ OwnGr wq W6.heap.size (.slice aa (aclOf x.m.acl).length ca) (aclOf x.m.acl) ∧ (Value.slice aa (aclOf x.m.acl).length ca).ownBlock ≠ some bn)
              case first =>
                have hS0 : Below W6.heap.size W6 W6.drew := (Below.refl _ _).drew
                obtain ⟨A, hA⟩ : ∃ A, aclOf x.m.acl = A := ⟨_, rfl⟩
                replace hA : Aside _ := hA
                have hszN : (Try.prog.info? 36).map (·.size) = some 16 := by kernel_rfl
                refine wp_region_held_drew (S := (fun W => Below W6.heap.size W6 W)) (by kernel_rfl) (by exact hS0) ?_
                intro hHeld
                generalize W6.drew = w0 at *
                refine wpAnyH_take (i := 0) (v := ?_) (by simp only [List.getElem?_toArray, List.getElem?_cons_zero, List.getElem?_cons_succ]; rfl) (by kernel_rfl) (by kernel_rfl) (by kernel_rfl) (by exact fun _ _ _ h => h) (Or.inl ⟨by rfl, ?_⟩) (by assumption) ?_; rotate_left; (focus (intro w hSw; (try dsimp only at hSw); go_simp; try with_reducible rfl)); (try simp only [Act.put, List.setIfInBounds_toArray, List.set_cons_zero, List.set_cons_succ])
                refine wpAnyH_take (i := 1) (v := ?_) (by simp only [List.getElem?_toArray, List.getElem?_cons_zero, List.getElem?_cons_succ]; rfl) (by kernel_rfl) (by kernel_rfl) (by kernel_rfl) (by exact fun _ _ _ h => h) (Or.inl ⟨by rfl, ?_⟩) (by assumption) ?_; rotate_left; (focus (intro w hSw; (try dsimp only at hSw); go_simp; try with_reducible rfl)); (try simp only [Act.put, List.setIfInBounds_toArray, List.set_cons_zero, List.set_cons_succ])
                refine wpAnyH_take (i := 2) (v := _) (by simp only [List.getElem?_toArray, List.getElem?_cons_zero, List.getElem?_cons_succ]; rfl) (by kernel_rfl) (by kernel_rfl) (by kernel_rfl) (by exact fun _ _ _ h => h) (yields_cell (by rfl) _ rfl ⟨bm, 1, none⟩ rfl (.bool x.m.dir) (fun _ q => ((h4.then q).mb.1 1 _ rfl).1) boolG_load) (by assumption) ?_; (try simp only [Act.put, List.setIfInBounds_toArray, List.set_cons_zero, List.set_cons_succ])
                refine wpAnyH_take (i := 3) (v := ?_) (by simp only [List.getElem?_toArray, List.getElem?_cons_zero, List.getElem?_cons_succ]; rfl) (by kernel_rfl) (by kernel_rfl) (by kernel_rfl) (by exact fun _ _ _ h => h) (Or.inl ⟨by rfl, ?_⟩) (by assumption) ?_; rotate_left; (focus (intro w hSw; (try dsimp only at hSw); go_simp; try with_reducible rfl)); (try simp only [Act.put, List.setIfInBounds_toArray, List.set_cons_zero, List.set_cons_succ])
                refine wpAnyH_take (i := 4) (v := _) (by simp only [List.getElem?_toArray, List.getElem?_cons_zero, List.getElem?_cons_succ]; rfl) (by kernel_rfl) (by kernel_rfl) (by kernel_rfl) (by exact fun _ _ _ h => h) (yields_at (by rfl) _ rfl ⟨bd, 2, none⟩ rfl [.int .i64 d.n.label.s, .int .i64 d.n.label.c, .int .i64 d.n.label.i, .int .i64 d.n.label.k] (fun _ q => blk_at (h4.then q).db.1 (by intro j v hv; match j, hv with | 0, hv => exact hv | 1, hv => exact hv | 2, hv => exact hv | 3, hv => exact hv)) Try.underlying25 rfl hsl) (by assumption) ?_; (try simp only [Act.put, List.setIfInBounds_toArray, List.set_cons_zero, List.set_cons_succ])
                refine wpAnyH_take (i := 5) (v := ?_) (by simp only [List.getElem?_toArray, List.getElem?_cons_zero, List.getElem?_cons_succ]; rfl) (by kernel_rfl) (by kernel_rfl) (by kernel_rfl) (by exact fun _ _ _ h => h) (Or.inl ⟨by rfl, ?_⟩) (by assumption) ?_; rotate_left; (focus (intro w hSw; (try dsimp only at hSw); go_simp; try with_reducible rfl)); (try simp only [Act.put, List.setIfInBounds_toArray, List.set_cons_zero, List.set_cons_succ])
                refine wpAnyH_take (i := 6) (v := _) (by simp only [List.getElem?_toArray, List.getElem?_cons_zero, List.getElem?_cons_succ]; rfl) (by kernel_rfl) (by kernel_rfl) (by kernel_rfl) (by exact fun _ _ _ h => h) (yields_cell (by rfl) _ rfl ⟨bm, 6, none⟩ rfl (.slice x.aa x.m.acl.length x.ca) (fun _ q => ((h4.then q).mb.1 6 _ rfl).1) grs_load) (by assumption) ?_; (try simp only [Act.put, List.setIfInBounds_toArray, List.set_cons_zero, List.set_cons_succ])
                refine wpAnyH_take (i := 8) (v := ?_) (by simp only [List.getElem?_toArray, List.getElem?_cons_zero, List.getElem?_cons_succ]; rfl) (by kernel_rfl) (by kernel_rfl) (by kernel_rfl) (by exact fun _ _ _ h => h) (Or.inl ⟨by rfl, ?_⟩) (by assumption) ?_; rotate_left; (focus (intro w hSw; (try dsimp only at hSw); go_simp; try with_reducible rfl)); (try simp only [Act.put, List.setIfInBounds_toArray, List.set_cons_zero, List.set_cons_succ])
                refine wpAnyH_take (i := 9) (v := _) (by simp only [List.getElem?_toArray, List.getElem?_cons_zero, List.getElem?_cons_succ]; rfl) (by kernel_rfl) (by kernel_rfl) (by kernel_rfl) (by exact fun _ _ _ h => h) (yields_at (by rfl) _ rfl ⟨bm, 12, none⟩ rfl [.int .i64 x.m.by_.s, .int .i64 x.m.by_.c, .int .i64 x.m.by_.i, .int .i64 x.m.by_.k] (fun _ q => blk_at (h4.then q).mb.1 (by intro j v hv; match j, hv with | 0, hv => exact hv | 1, hv => exact hv | 2, hv => exact hv | 3, hv => exact hv)) Try.underlying25 rfl hsl) (by assumption) ?_; (try simp only [Act.put, List.setIfInBounds_toArray, List.set_cons_zero, List.set_cons_succ])
                refine wpAnyH_ready (rs := [7, 12]) (by kernel_rfl) (by simp) ?_
                refine AllReadyH.cons (by simp only [List.getElem?_toArray, List.getElem?_cons_zero, List.getElem?_cons_succ]; rfl) (fun K hK => ?_) ?_
                · go_simp
                  go_at_call 26
                  refine (aclT_any _ _ x.m.acl _ (h4.then hS0).xa.g).mono ?_
                  rintro e w1 ⟨v7, rfl, hO1, hb⟩
                  rw [hA.out] at hO1
                  obtain ⟨aa, ca, hvv, -, -, -⟩ := OwnR.slice gr_okT.len hO1
                  subst hvv
                  have hS1 := Below.then hS0 hb
                  refine hK.out _ _ (hS1) ?_
                  clear hHeld hK
                  intro hHeld
                  (try simp only [Act.put, List.setIfInBounds_toArray, List.set_cons_zero, List.set_cons_succ])
                  refine wpAnyH_ready (rs := [10, 12]) (by kernel_rfl) (by simp) ?_
                  refine AllReadyH.cons (by simp only [List.getElem?_toArray, List.getElem?_cons_zero, List.getElem?_cons_succ]; rfl) (fun K hK => ?_) ?_
                  · go_simp
                    go_at_call 9
                    refine (good_any x.m.by_ _).mono ?_
                    rintro e w2 ⟨rfl, hb⟩
                    have hS2 := Below.then hS1 hb
                    have hO2 := hO1.below hb
                    refine hK.out _ _ (hS2) ?_
                    clear hHeld hK
                    intro hHeld
                    (try simp only [Act.put, List.setIfInBounds_toArray, List.set_cons_zero, List.set_cons_succ])
                    refine wpAnyH_take (i := 11) (v := ?_) (by simp only [List.getElem?_toArray, List.getElem?_cons_zero, List.getElem?_cons_succ]; rfl) (by kernel_rfl) (by kernel_rfl) (by kernel_rfl) (by exact fun _ _ _ h => h) (Or.inl ⟨by rfl, ?_⟩) (by assumption) ?_; rotate_left; (focus (intro w hSw; (try dsimp only at hSw); go_simp; try with_reducible rfl)); (try simp only [Act.put, List.setIfInBounds_toArray, List.set_cons_zero, List.set_cons_succ])
                    refine wpAnyH_ready (rs := [12]) (by kernel_rfl) (by simp) ?_
                    refine AllReadyH.cons (by simp only [List.getElem?_toArray, List.getElem?_cons_zero, List.getElem?_cons_succ]; rfl) (fun K hK => ?_) AllReadyH.nil
                    go_simp
                    refine hK.out _ _ (Below.then hS2 (alloc_below _ _)) ?_
                    clear hHeld hK
                    intro hHeld
                    have hb := alloc_below w2 (.cells nzT 36)
                    have hbn3 := blkl_alloc w2 nzT 36
                    have hpb3 := hb
                    have hS3 := Below.then hS2 hb
                    have hO3 := hO2.below hb
                    generalize hwx : w2.alloc (.cells nzT 36) = w3 at *
                    clear hwx hb
                    (try simp only [Act.put, List.setIfInBounds_toArray, List.set_cons_zero, List.set_cons_succ])
                    refine wpAnyH_ready (rs := [13]) (by kernel_rfl) (by simp) ?_
                    refine AllReadyH.cons (by simp only [List.getElem?_toArray, List.getElem?_cons_zero, List.getElem?_cons_succ]; rfl) (fun K hK => ?_) AllReadyH.nil
                    have hthz : w3.there w2.heap.size 0 ([.string p, .bool x.m.dir, .int .i64 d.n.label.s, .int .i64 d.n.label.c, .int .i64 d.n.label.i, .int .i64 d.n.label.k, .slice aa A.length ca, .int .i64 0, .int .i64 0, .int .i64 0, .int .i64 0, .slice none 0 0, .int .i64 (goodL x.m.by_).s, .int .i64 (goodL x.m.by_).c, .int .i64 (goodL x.m.by_).i, .int .i64 (goodL x.m.by_).k] : List Value).length := hbn3.1.there
                    obtain ⟨wz, hwz⟩ : ∃ wz, w3.setCells w2.heap.size 0 [.string p, .bool x.m.dir, .int .i64 d.n.label.s, .int .i64 d.n.label.c, .int .i64 d.n.label.i, .int .i64 d.n.label.k, .slice aa A.length ca, .int .i64 0, .int .i64 0, .int .i64 0, .int .i64 0, .slice none 0 0, .int .i64 (goodL x.m.by_).s, .int .i64 (goodL x.m.by_).c, .int .i64 (goodL x.m.by_).i, .int .i64 (goodL x.m.by_).k] = wz := ⟨_, rfl⟩
                    have hbz1 : Blk wz w2.heap.size [.string p, .bool x.m.dir, .int .i64 d.n.label.s, .int .i64 d.n.label.c, .int .i64 d.n.label.i, .int .i64 d.n.label.k, .slice aa A.length ca, .int .i64 0, .int .i64 0, .int .i64 0, .int .i64 0, .slice none 0 0, .int .i64 (goodL x.m.by_).s, .int .i64 (goodL x.m.by_).c, .int .i64 (goodL x.m.by_).i, .int .i64 (goodL x.m.by_).k] := by rw [← hwz]; exact hbn3.1.setAll rfl
                    have hbz : BlkL w2.heap.size [.string p, .bool x.m.dir, .int .i64 d.n.label.s, .int .i64 d.n.label.c, .int .i64 d.n.label.i, .int .i64 d.n.label.k, .slice aa A.length ca, .int .i64 0, .int .i64 0, .int .i64 0, .int .i64 0, .slice none 0 0, .int .i64 (goodL x.m.by_).s, .int .i64 (goodL x.m.by_).c, .int .i64 (goodL x.m.by_).i, .int .i64 (goodL x.m.by_).k] wz := ⟨hbz1, hbz1.lt rfl⟩
                    have hBz : Below w2.heap.size w2 wz := by rw [← hwz]; exact Below.cells (Nat.le_refl _) _ 0 hpb3
                    have hSz := Below.then hS2 hBz
                    have hO9 := hO2.below hBz
                    have hne9 : (Value.slice aa A.length ca).ownBlock ≠ some w2.heap.size := fun q => by have h1 := (hO2.lt q).2; omega
                    refine step_store_rowT rfl _ _ rfl w2.heap.size rfl [.string p, .bool x.m.dir, .int .i64 d.n.label.s, .int .i64 d.n.label.c, .int .i64 d.n.label.i, .int .i64 d.n.label.k, .slice aa A.length ca, .int .i64 0, .int .i64 0, .int .i64 0, .int .i64 0, .slice none 0 0, .int .i64 (goodL x.m.by_).s, .int .i64 (goodL x.m.by_).c, .int .i64 (goodL x.m.by_).i, .int .i64 (goodL x.m.by_).k] rfl hthz hszN (pn_one ⟨⟨p, x.m.dir, d.n.label, A, 0, 0, 0, 0, [], goodL x.m.by_⟩, aa, ca, none, 0⟩) hwz ?_
                    (try simp only [Act.put, List.setIfInBounds_toArray, List.set_cons_zero, List.set_cons_succ])
                    refine hK.out _ _ (hSz) ?_
                    clear hHeld hK
                    intro hHeld
                    (try simp only [Act.put, List.setIfInBounds_toArray, List.set_cons_zero, List.set_cons_succ])
                    refine wpAnyH_done (by kernel_rfl) ?_ _
                    go_wp2_with fail
                    go_meet
                    exact ⟨_, aa, ca, rfl, hSz, hS2.size, by rw [show nclT (nod0 d.n x.m) aa ca none 0 = [.string p, .bool x.m.dir, .int .i64 d.n.label.s, .int .i64 d.n.label.c, .int .i64 d.n.label.i, .int .i64 d.n.label.k, .slice aa A.length ca, .int .i64 0, .int .i64 0, .int .i64 0, .int .i64 0, .slice none 0 0, .int .i64 (goodL x.m.by_).s, .int .i64 (goodL x.m.by_).c, .int .i64 (goodL x.m.by_).i, .int .i64 (goodL x.m.by_).k] from by unfold nclT nod0; rw [hp.out, hA.out]; rfl]; exact hbz, by rw [hA.out]; exact hO9.lower hS0.size, by rw [hA.out]; exact hne9⟩
                  refine AllReadyH.cons (by simp only [List.getElem?_toArray, List.getElem?_cons_zero, List.getElem?_cons_succ]; rfl) (fun K hK => ?_) AllReadyH.nil
                  go_simp
                  refine hK.out _ _ (Below.then hS1 (alloc_below _ _)) ?_
                  clear hHeld hK
                  intro hHeld
                  have hb := alloc_below w1 (.cells nzT 36)
                  have hbn2 := blkl_alloc w1 nzT 36
                  have hpb2 := hb
                  have hS2 := Below.then hS1 hb
                  have hO2 := hO1.below hb
                  generalize hwx : w1.alloc (.cells nzT 36) = w2 at *
                  clear hwx hb
                  (try simp only [Act.put, List.setIfInBounds_toArray, List.set_cons_zero, List.set_cons_succ])
                  refine wpAnyH_ready (rs := [10]) (by kernel_rfl) (by simp) ?_
                  refine AllReadyH.cons (by simp only [List.getElem?_toArray, List.getElem?_cons_zero, List.getElem?_cons_succ]; rfl) (fun K hK => ?_) AllReadyH.nil
                  go_simp
                  go_at_call 9
                  refine (good_any x.m.by_ _).mono ?_
                  rintro e w3 ⟨rfl, hb⟩
                  have hS3 := Below.then hS2 hb
                  have hO3 := hO2.below hb
                  have hbn3 := stab_blk _ _ _ _ hbn2 hb
                  have hpb3 := Below.then hpb2 hb
                  refine hK.out _ _ (hS3) ?_
                  clear hHeld hK
                  intro hHeld
                  (try simp only [Act.put, List.setIfInBounds_toArray, List.set_cons_zero, List.set_cons_succ])
                  refine wpAnyH_take (i := 11) (v := ?_) (by simp only [List.getElem?_toArray, List.getElem?_cons_zero, List.getElem?_cons_succ]; rfl) (by kernel_rfl) (by kernel_rfl) (by kernel_rfl) (by exact fun _ _ _ h => h) (Or.inl ⟨by rfl, ?_⟩) (by assumption) ?_; rotate_left; (focus (intro w hSw; (try dsimp only at hSw); go_simp; try with_reducible rfl)); (try simp only [Act.put, List.setIfInBounds_toArray, List.set_cons_zero, List.set_cons_succ])
                  refine wpAnyH_ready (rs := [13]) (by kernel_rfl) (by simp) ?_
                  refine AllReadyH.cons (by simp only [List.getElem?_toArray, List.getElem?_cons_zero, List.getElem?_cons_succ]; rfl) (fun K hK => ?_) AllReadyH.nil
                  have hthz : w3.there w1.heap.size 0 ([.string p, .bool x.m.dir, .int .i64 d.n.label.s, .int .i64 d.n.label.c, .int .i64 d.n.label.i, .int .i64 d.n.label.k, .slice aa A.length ca, .int .i64 0, .int .i64 0, .int .i64 0, .int .i64 0, .slice none 0 0, .int .i64 (goodL x.m.by_).s, .int .i64 (goodL x.m.by_).c, .int .i64 (goodL x.m.by_).i, .int .i64 (goodL x.m.by_).k] : List Value).length := hbn3.1.there
                  obtain ⟨wz, hwz⟩ : ∃ wz, w3.setCells w1.heap.size 0 [.string p, .bool x.m.dir, .int .i64 d.n.label.s, .int .i64 d.n.label.c, .int .i64 d.n.label.i, .int .i64 d.n.label.k, .slice aa A.length ca, .int .i64 0, .int .i64 0, .int .i64 0, .int .i64 0, .slice none 0 0, .int .i64 (goodL x.m.by_).s, .int .i64 (goodL x.m.by_).c, .int .i64 (goodL x.m.by_).i, .int .i64 (goodL x.m.by_).k] = wz := ⟨_, rfl⟩
                  have hbz1 : Blk wz w1.heap.size [.string p, .bool x.m.dir, .int .i64 d.n.label.s, .int .i64 d.n.label.c, .int .i64 d.n.label.i, .int .i64 d.n.label.k, .slice aa A.length ca, .int .i64 0, .int .i64 0, .int .i64 0, .int .i64 0, .slice none 0 0, .int .i64 (goodL x.m.by_).s, .int .i64 (goodL x.m.by_).c, .int .i64 (goodL x.m.by_).i, .int .i64 (goodL x.m.by_).k] := by rw [← hwz]; exact hbn3.1.setAll rfl
                  have hbz : BlkL w1.heap.size [.string p, .bool x.m.dir, .int .i64 d.n.label.s, .int .i64 d.n.label.c, .int .i64 d.n.label.i, .int .i64 d.n.label.k, .slice aa A.length ca, .int .i64 0, .int .i64 0, .int .i64 0, .int .i64 0, .slice none 0 0, .int .i64 (goodL x.m.by_).s, .int .i64 (goodL x.m.by_).c, .int .i64 (goodL x.m.by_).i, .int .i64 (goodL x.m.by_).k] wz := ⟨hbz1, hbz1.lt rfl⟩
                  have hBz : Below w1.heap.size w1 wz := by rw [← hwz]; exact Below.cells (Nat.le_refl _) _ 0 hpb3
                  have hSz := Below.then hS1 hBz
                  have hO9 := hO1.below hBz
                  have hne9 : (Value.slice aa A.length ca).ownBlock ≠ some w1.heap.size := fun q => by have h1 := (hO1.lt q).2; omega
                  refine step_store_rowT rfl _ _ rfl w1.heap.size rfl [.string p, .bool x.m.dir, .int .i64 d.n.label.s, .int .i64 d.n.label.c, .int .i64 d.n.label.i, .int .i64 d.n.label.k, .slice aa A.length ca, .int .i64 0, .int .i64 0, .int .i64 0, .int .i64 0, .slice none 0 0, .int .i64 (goodL x.m.by_).s, .int .i64 (goodL x.m.by_).c, .int .i64 (goodL x.m.by_).i, .int .i64 (goodL x.m.by_).k] rfl hthz hszN (pn_one ⟨⟨p, x.m.dir, d.n.label, A, 0, 0, 0, 0, [], goodL x.m.by_⟩, aa, ca, none, 0⟩) hwz ?_
                  (try simp only [Act.put, List.setIfInBounds_toArray, List.set_cons_zero, List.set_cons_succ])
                  refine hK.out _ _ (hSz) ?_
                  clear hHeld hK
                  intro hHeld
                  (try simp only [Act.put, List.setIfInBounds_toArray, List.set_cons_zero, List.set_cons_succ])
                  refine wpAnyH_done (by kernel_rfl) ?_ _
                  go_wp2_with fail
                  go_meet
                  exact ⟨_, aa, ca, rfl, hSz, hS1.size, by rw [show nclT (nod0 d.n x.m) aa ca none 0 = [.string p, .bool x.m.dir, .int .i64 d.n.label.s, .int .i64 d.n.label.c, .int .i64 d.n.label.i, .int .i64 d.n.label.k, .slice aa A.length ca, .int .i64 0, .int .i64 0, .int .i64 0, .int .i64 0, .slice none 0 0, .int .i64 (goodL x.m.by_).s, .int .i64 (goodL x.m.by_).c, .int .i64 (goodL x.m.by_).i, .int .i64 (goodL x.m.by_).k] from by unfold nclT nod0; rw [hp.out, hA.out]; rfl]; exact hbz, by rw [hA.out]; exact hO9.lower hS0.size, by rw [hA.out]; exact hne9⟩
                refine AllReadyH.cons (by simp only [List.getElem?_toArray, List.getElem?_cons_zero, List.getElem?_cons_succ]; rfl) (fun K hK => ?_) AllReadyH.nil
                go_simp
                refine hK.out _ _ (Below.then hS0 (alloc_below _ _)) ?_
                clear hHeld hK
                intro hHeld
                have hb := alloc_below w0 (.cells nzT 36)
                have hbn1 := blkl_alloc w0 nzT 36
                have hpb1 := hb
                have hS1 := Below.then hS0 hb
                generalize hwx : w0.alloc (.cells nzT 36) = w1 at *
                clear hwx hb
                (try simp only [Act.put, List.setIfInBounds_toArray, List.set_cons_zero, List.set_cons_succ])
                refine wpAnyH_ready (rs := [7]) (by kernel_rfl) (by simp) ?_
                refine AllReadyH.cons (by simp only [List.getElem?_toArray, List.getElem?_cons_zero, List.getElem?_cons_succ]; rfl) (fun K hK => ?_) AllReadyH.nil
                go_simp
                go_at_call 26
                refine (aclT_any _ _ x.m.acl _ (h4.then hS1).xa.g).mono ?_
                rintro e w2 ⟨v7, rfl, hO2, hb⟩
                rw [hA.out] at hO2
                obtain ⟨aa, ca, hvv, -, -, -⟩ := OwnR.slice gr_okT.len hO2
                subst hvv
                have hS2 := Below.then hS1 hb
                have hbn2 := stab_blk _ _ _ _ hbn1 hb
                have hpb2 := Below.then hpb1 hb
                refine hK.out _ _ (hS2) ?_
                clear hHeld hK
                intro hHeld
                (try simp only [Act.put, List.setIfInBounds_toArray, List.set_cons_zero, List.set_cons_succ])
                refine wpAnyH_ready (rs := [10]) (by kernel_rfl) (by simp) ?_
                refine AllReadyH.cons (by simp only [List.getElem?_toArray, List.getElem?_cons_zero, List.getElem?_cons_succ]; rfl) (fun K hK => ?_) AllReadyH.nil
                go_simp
                go_at_call 9
                refine (good_any x.m.by_ _).mono ?_
                rintro e w3 ⟨rfl, hb⟩
                have hS3 := Below.then hS2 hb
                have hO3 := hO2.below hb
                have hbn3 := stab_blk _ _ _ _ hbn2 hb
                have hpb3 := Below.then hpb2 hb
                refine hK.out _ _ (hS3) ?_
                clear hHeld hK
                intro hHeld
                (try simp only [Act.put, List.setIfInBounds_toArray, List.set_cons_zero, List.set_cons_succ])
                refine wpAnyH_take (i := 11) (v := ?_) (by simp only [List.getElem?_toArray, List.getElem?_cons_zero, List.getElem?_cons_succ]; rfl) (by kernel_rfl) (by kernel_rfl) (by kernel_rfl) (by exact fun _ _ _ h => h) (Or.inl ⟨by rfl, ?_⟩) (by assumption) ?_; rotate_left; (focus (intro w hSw; (try dsimp only at hSw); go_simp; try with_reducible rfl)); (try simp only [Act.put, List.setIfInBounds_toArray, List.set_cons_zero, List.set_cons_succ])
                refine wpAnyH_ready (rs := [13]) (by kernel_rfl) (by simp) ?_
                refine AllReadyH.cons (by simp only [List.getElem?_toArray, List.getElem?_cons_zero, List.getElem?_cons_succ]; rfl) (fun K hK => ?_) AllReadyH.nil
                have hthz : w3.there w0.heap.size 0 ([.string p, .bool x.m.dir, .int .i64 d.n.label.s, .int .i64 d.n.label.c, .int .i64 d.n.label.i, .int .i64 d.n.label.k, .slice aa A.length ca, .int .i64 0, .int .i64 0, .int .i64 0, .int .i64 0, .slice none 0 0, .int .i64 (goodL x.m.by_).s, .int .i64 (goodL x.m.by_).c, .int .i64 (goodL x.m.by_).i, .int .i64 (goodL x.m.by_).k] : List Value).length := hbn3.1.there
                obtain ⟨wz, hwz⟩ : ∃ wz, w3.setCells w0.heap.size 0 [.string p, .bool x.m.dir, .int .i64 d.n.label.s, .int .i64 d.n.label.c, .int .i64 d.n.label.i, .int .i64 d.n.label.k, .slice aa A.length ca, .int .i64 0, .int .i64 0, .int .i64 0, .int .i64 0, .slice none 0 0, .int .i64 (goodL x.m.by_).s, .int .i64 (goodL x.m.by_).c, .int .i64 (goodL x.m.by_).i, .int .i64 (goodL x.m.by_).k] = wz := ⟨_, rfl⟩
                have hbz1 : Blk wz w0.heap.size [.string p, .bool x.m.dir, .int .i64 d.n.label.s, .int .i64 d.n.label.c, .int .i64 d.n.label.i, .int .i64 d.n.label.k, .slice aa A.length ca, .int .i64 0, .int .i64 0, .int .i64 0, .int .i64 0, .slice none 0 0, .int .i64 (goodL x.m.by_).s, .int .i64 (goodL x.m.by_).c, .int .i64 (goodL x.m.by_).i, .int .i64 (goodL x.m.by_).k] := by rw [← hwz]; exact hbn3.1.setAll rfl
                have hbz : BlkL w0.heap.size [.string p, .bool x.m.dir, .int .i64 d.n.label.s, .int .i64 d.n.label.c, .int .i64 d.n.label.i, .int .i64 d.n.label.k, .slice aa A.length ca, .int .i64 0, .int .i64 0, .int .i64 0, .int .i64 0, .slice none 0 0, .int .i64 (goodL x.m.by_).s, .int .i64 (goodL x.m.by_).c, .int .i64 (goodL x.m.by_).i, .int .i64 (goodL x.m.by_).k] wz := ⟨hbz1, hbz1.lt rfl⟩
                have hBz : Below w0.heap.size w0 wz := by rw [← hwz]; exact Below.cells (Nat.le_refl _) _ 0 hpb3
                have hSz := Below.then hS0 hBz
                have hne9 : (Value.slice aa A.length ca).ownBlock ≠ some w0.heap.size := fun q => by have h1 := (hO3.lt q).1; have h2 := hbn1.2; omega
                have hO9 : OwnGr wz w1.heap.size (.slice aa A.length ca) A := by rw [← hwz]; exact hO3.setAll hne9 _
                refine step_store_rowT rfl _ _ rfl w0.heap.size rfl [.string p, .bool x.m.dir, .int .i64 d.n.label.s, .int .i64 d.n.label.c, .int .i64 d.n.label.i, .int .i64 d.n.label.k, .slice aa A.length ca, .int .i64 0, .int .i64 0, .int .i64 0, .int .i64 0, .slice none 0 0, .int .i64 (goodL x.m.by_).s, .int .i64 (goodL x.m.by_).c, .int .i64 (goodL x.m.by_).i, .int .i64 (goodL x.m.by_).k] rfl hthz hszN (pn_one ⟨⟨p, x.m.dir, d.n.label, A, 0, 0, 0, 0, [], goodL x.m.by_⟩, aa, ca, none, 0⟩) hwz ?_
                (try simp only [Act.put, List.setIfInBounds_toArray, List.set_cons_zero, List.set_cons_succ])
                refine hK.out _ _ (hSz) ?_
                clear hHeld hK
                intro hHeld
                (try simp only [Act.put, List.setIfInBounds_toArray, List.set_cons_zero, List.set_cons_succ])
                refine wpAnyH_done (by kernel_rfl) ?_ _
                go_wp2_with fail
                go_meet
                exact ⟨_, aa, ca, rfl, hSz, hS0.size, by rw [show nclT (nod0 d.n x.m) aa ca none 0 = [.string p, .bool x.m.dir, .int .i64 d.n.label.s, .int .i64 d.n.label.c, .int .i64 d.n.label.i, .int .i64 d.n.label.k, .slice aa A.length ca, .int .i64 0, .int .i64 0, .int .i64 0, .int .i64 0, .slice none 0 0, .int .i64 (goodL x.m.by_).s, .int .i64 (goodL x.m.by_).c, .int .i64 (goodL x.m.by_).i, .int .i64 (goodL x.m.by_).k] from by unfold nclT nod0; rw [hp.out, hA.out]; rfl]; exact hbz, by rw [hA.out]; exact hO9.lower hS1.size, by rw [hA.out]; exact hne9⟩
              case rest =>
                obtain ⟨bn, aa, ca, rfl, hB7, hbn, hN, hO, hne⟩ := hcut
                have h4c := h4.then hB7
                have hm1 := (h4c.mb.1 1 _ rfl).1
                have hsz4 : (Try.prog.info? 33).map (·.size) = some 4 := by kernel_rfl
                cases hdir : x.m.dir
                · rw [hdir] at hm1
                  have hrg : CellsAt wc ⟨bm, 7, none⟩ [.int .i64 x.m.rings.a, .int .i64 x.m.rings.b, .int .i64 x.m.rings.c, .int .i64 x.m.rings.g] := blk_at h4c.mb.1 (by intro j v hv; match j, hv with | 0, hv => exact hv | 1, hv => exact hv | 2, hv => exact hv | 3, hv => exact hv)
                  go_wp2_with (first | (refine wpList_load_at rfl _ rfl ⟨bm, 7, none⟩ rfl [.int .i64 x.m.rings.a, .int .i64 x.m.rings.b, .int .i64 x.m.rings.c, .int .i64 x.m.rings.g] hrg Try.underlying33 rfl hsz4 ?_) | fail)
                  refine (rggood_any x.m.rings wc).mono ?_
                  rintro e W8 ⟨rfl, hb8⟩
                  obtain ⟨W9, hW9, hth9, hN9, hB9⟩ := put_mid (stab_blk _ _ _ _ hN hb8) 7 [.int .i64 (goodR x.m.rings).a, .int .i64 (goodR x.m.rings).b, .int .i64 (goodR x.m.rings).c, .int .i64 (goodR x.m.rings).g] (by simp [nclT]) (by simp [nclT]) (Below.then hB7 hb8) hbn
                  have hO9 : OwnGr W9 W6.heap.size (.slice aa (aclOf x.m.acl).length ca) (aclOf x.m.acl) := by rw [← hW9]; exact (hO.below hb8).mid hne 7 _
                  obtain ⟨nn, hnn⟩ : ∃ nn : Nod, nn = ⟨mkPath x.m, false, d.n.label, aclOf x.m.acl, (goodR x.m.rings).a, (goodR x.m.rings).b, (goodR x.m.rings).c, (goodR x.m.rings).g, [], goodL x.m.by_⟩ := ⟨_, rfl⟩
                  have hgw0 : GW W6 W9 bn nn aa ca (.slice none 0 0) [] := by
                    subst hnn
                    refine ⟨OwnR.nil _ _ _ _ _, hB9, hbn, hO9, hne, by simp [Value.ownBlock], fun g _ => by simp [Value.ownBlock], ?_⟩
                    have e : setM (nclT (nod0 d.n x.m) aa ca none 0) 7 [.int .i64 (goodR x.m.rings).a, .int .i64 (goodR x.m.rings).b, .int .i64 (goodR x.m.rings).c, .int .i64 (goodR x.m.rings).g] = cellsW ⟨mkPath x.m, false, d.n.label, aclOf x.m.acl, (goodR x.m.rings).a, (goodR x.m.rings).b, (goodR x.m.rings).c, (goodR x.m.rings).g, [], goodL x.m.by_⟩ aa ca (.slice none 0 0) := by
                      unfold nclT nod0 cellsW
                      rw [hdir]
                      rfl
                    rw [← e]
                    exact hN9
                  have hone4 : ∀ v ∈ ([.int .i64 (goodR x.m.rings).a, .int .i64 (goodR x.m.rings).b, .int .i64 (goodR x.m.rings).c, .int .i64 (goodR x.m.rings).g] : List Value), v.oneCell' = true := by intro v hv; simp at hv; rcases hv with rfl | rfl | rfl | rfl <;> rfl
                  have hfin0 : mkN d.n x.m = { nn with words := x.m.words.take 16 } := by subst hnn; unfold mkN; rw [hdir]; simp
                  replace hfin0 : Aside _ := hfin0
                  clear hN hO hB7 hb8 hrg h4c hm1 hN9 hO9 hnn
                  go_upto_block 4 with (first | (refine wpList_store_part rfl _ _ rfl bn 7 rfl [.int .i64 (goodR x.m.rings).a, .int .i64 (goodR x.m.rings).b, .int .i64 (goodR x.m.rings).c, .int .i64 (goodR x.m.rings).g] rfl hth9 hsz4 hone4 hW9 ?_) | fail)
                  clear hth9 hW9 hone4
                  go_cut [16] from 39 to 129 (fun s16 wq => ∃ v, GW W6 wq bn nn aa ca v (x.m.words.take 16))
                  case first =>
                    obtain ⟨m2, hm2⟩ : ∃ m2, x.m.words.length = m2 := ⟨_, rfl⟩
                    replace hm2 : Aside (x.m.words.length = m2) := hm2
                    go_wp2_with fail
                    go_loopw [16] (fun t16 wr => ∃ k : Nat, k ≤ m2 ∧ k ≤ 16 ∧ t16 = .int .i64 (k : Int) ∧ ∃ v, GW W6 wr bn nn aa ca v (x.m.words.take k)) (fun t16 _ => 16 - (Go.RowKit.intOf t16).toNat)
                    case atStart => exact ⟨0, by omega, by omega, rfl, _, by simpa using hgw0⟩
                    case round =>
                      clear hgw0
                      obtain ⟨k, hk, hk16, rfl, v, hgw⟩ := hrel
                      have hmw := ((h4.then hgw.b).mb.1 11 _ rfl).1
                      rw [hm2.out] at hmw
                      by_cases hlk : k < m2 ∧ k < 16
                      · obtain ⟨qv, hqv⟩ : ∃ qv, x.m.words[k]? = some qv := ⟨_, List.getElem?_eq_getElem (by rw [hm2.out]; exact hlk.1)⟩
                        obtain ⟨yw, hyw, -⟩ := h4.xa.w k qv hqv
                        have hword : ∀ W, Below W6.heap.size W6 W → W.cell? (yw.add k) = some (.int .i64 qv) := fun W q => by
                          obtain ⟨y', hy', hc'⟩ := (h4.then q).xa.w k qv hqv
                          rw [hyw] at hy'
                          obtain rfl := Option.some.inj hy'
                          exact hc'
                        rw [hyw] at hmw
                        have hwt : x.m.words.take (k + 1) = x.m.words.take k ++ [qv] := by rw [List.take_add_one, hqv]; rfl
                        replace hwt : Aside _ := hwt
                        replace hyw : Aside _ := hyw
                        have hg0 : GW W6 wr.drew bn nn aa ca v (x.m.words.take k) := hgw.then (Below.refl _ _).drew
                        have j1 : (k : Int) < (m2 : Int) := by omega
                        have j2 : (k : Int) < 16 := by omega
                        clear hqv hgw
                        go_wp2_with fail
                        refine wp_region_held_drew (S := (fun W => Below W6.heap.size W6 W)) (by kernel_rfl) (by exact hg0.b) ?_
                        intro hHeld
                        generalize wr.drew = w0 at *
                        refine wpAnyH_take (i := 0) (v := ?_) (by simp only [List.getElem?_toArray, List.getElem?_cons_zero, List.getElem?_cons_succ]; rfl) (by kernel_rfl) (by kernel_rfl) (by kernel_rfl) (by exact fun _ _ _ h => h) (Or.inl ⟨by rfl, ?_⟩) (by assumption) ?_; rotate_left; (focus (intro w hSw; (try dsimp only at hSw); go_simp; try with_reducible rfl)); (try simp only [Act.put, List.setIfInBounds_toArray, List.set_cons_zero, List.set_cons_succ])
                        refine wpAnyH_take (i := 2) (v := ?_) (by simp only [List.getElem?_toArray, List.getElem?_cons_zero, List.getElem?_cons_succ]; rfl) (by kernel_rfl) (by kernel_rfl) (by kernel_rfl) (by exact fun _ _ _ h => h) (Or.inl ⟨by rfl, ?_⟩) (by assumption) ?_; rotate_left; (focus (intro w hSw; (try dsimp only at hSw); go_simp; try with_reducible rfl)); (try simp only [Act.put, List.setIfInBounds_toArray, List.set_cons_zero, List.set_cons_succ])
                        refine wpAnyH_take (i := 3) (v := _) (by simp only [List.getElem?_toArray, List.getElem?_cons_zero, List.getElem?_cons_succ]; rfl) (by kernel_rfl) (by kernel_rfl) (by kernel_rfl) (by exact fun _ _ _ h => h) (yields_cell (by rfl) _ rfl ⟨bm, 11, none⟩ rfl (.slice (some yw) m2 x.cw) (fun _ q => by have := ((h4.then q).mb.1 11 _ rfl).1; rw [hyw.out, hm2.out] at this; exact this) wds_load) (by assumption) ?_; (try simp only [Act.put, List.setIfInBounds_toArray, List.set_cons_zero, List.set_cons_succ])
                        refine wpAnyH_take (i := 4) (v := ?_) (by simp only [List.getElem?_toArray, List.getElem?_cons_zero, List.getElem?_cons_succ]; rfl) (by kernel_rfl) (by kernel_rfl) (by kernel_rfl) (by exact fun _ _ _ h => h) (Or.inl ⟨by rfl, ?_⟩) (by assumption) ?_; rotate_left; (focus (intro w hSw; (try dsimp only at hSw); go_simp; try with_reducible rfl)); (try simp only [Act.put, List.setIfInBounds_toArray, List.set_cons_zero, List.set_cons_succ])
                        refine wpAnyH_take (i := 5) (v := ?_) (by simp only [List.getElem?_toArray, List.getElem?_cons_zero, List.getElem?_cons_succ]; rfl) (by kernel_rfl) (by kernel_rfl) (by kernel_rfl) (by exact fun _ _ _ h => h) (Or.inl ⟨by rfl, ?_⟩) (by assumption) ?_; rotate_left; (focus (intro w hSw; (try dsimp only at hSw); go_simp; try with_reducible rfl)); (try simp only [Act.put, List.setIfInBounds_toArray, List.set_cons_zero, List.set_cons_succ])
                        refine wpAnyH_take (i := 6) (v := _) (by simp only [List.getElem?_toArray, List.getElem?_cons_zero, List.getElem?_cons_succ]; rfl) (by kernel_rfl) (by kernel_rfl) (by kernel_rfl) (by exact fun _ _ _ h => h) (yields_cell (by rfl) _ rfl (yw.add k) rfl (.int .i64 qv) (fun _ q => hword _ q) i64_load) (by assumption) ?_; (try simp only [Act.put, List.setIfInBounds_toArray, List.set_cons_zero, List.set_cons_succ])
                        refine wpAnyH_ready (rs := [1, 7]) (by kernel_rfl) (by simp) ?_
                        refine AllReadyH.cons (by simp only [List.getElem?_toArray, List.getElem?_cons_zero, List.getElem?_cons_succ]; rfl) (fun K hK => ?_) ?_
                        · skip
                          have hcf := (hg0.k.1 11 _ rfl).1
                          go_simp
                          refine hK.out _ _ (hg0.b) ?_
                          clear hHeld hK
                          intro hHeld
                          obtain ⟨w1, hww⟩ : ∃ w', w' = w0 := ⟨_, rfl⟩
                          subst hww
                          have hg1 := hg0
                          (try simp only [Act.put, List.setIfInBounds_toArray, List.set_cons_zero, List.set_cons_succ])
                          refine wpAnyH_ready (rs := [7]) (by kernel_rfl) (by simp) ?_
                          refine AllReadyH.cons (by simp only [List.getElem?_toArray, List.getElem?_cons_zero, List.getElem?_cons_succ]; rfl) (fun K hK => ?_) AllReadyH.nil
                          go_simp
                          refine hK.out _ _ (Below.then hg1.b (alloc_below _ _)) ?_
                          clear hHeld hK
                          intro hHeld
                          obtain ⟨vz, wz, hap, hoz, hgz⟩ := OwnR.push wd_okT hg1.o hg1.b.size qv #[.int .i64 qv] rfl 2 (by rw [List.length_take]; omega)
                          obtain ⟨hkz, hBz, hGz⟩ := hg1.push hgz hoz
                          have hg2 := hg1.then (alloc_below w1 (.cells #[.int .i64 qv] 2))
                          obtain ⟨w2, hww⟩ : ∃ w', w1.alloc (.cells #[.int .i64 qv] 2) = w' := ⟨_, rfl⟩
                          rw [hww] at hg2 hap hHeld ⊢
                          clear hww
                          (try simp only [Act.put, List.setIfInBounds_toArray, List.set_cons_zero, List.set_cons_succ])
                          refine wpAnyH_ready (rs := [8]) (by kernel_rfl) (by simp) ?_
                          refine AllReadyH.cons (by simp only [List.getElem?_toArray, List.getElem?_cons_zero, List.getElem?_cons_succ]; rfl) (fun K hK => ?_) AllReadyH.nil
                          refine step_append rfl _ _ rfl rfl rfl rfl hap ?_
                          (try simp only [Act.put, List.setIfInBounds_toArray, List.set_cons_zero, List.set_cons_succ])
                          refine hK.out _ _ (hBz) ?_
                          clear hHeld hK
                          intro hHeld
                          obtain ⟨hcz1, hcz2⟩ := hkz.1 11 _ rfl
                          obtain ⟨av, cv, hvv, -, -, -⟩ := OwnR.slice wd_okT.len hoz
                          generalize (x.m.words.take k ++ [qv]).length = lz at hvv
                          subst hvv
                          (try simp only [Act.put, List.setIfInBounds_toArray, List.set_cons_zero, List.set_cons_succ])
                          refine wpAnyH_take (i := 9) (v := ?_) (by simp only [List.getElem?_toArray, List.getElem?_cons_zero, List.getElem?_cons_succ]; rfl) (by kernel_rfl) (by kernel_rfl) (by kernel_rfl) (by exact fun _ _ _ h => h) (Or.inl ⟨by rfl, ?_⟩) (by assumption) ?_; rotate_left; (focus (intro w hSw; (try dsimp only at hSw); go_simp; try with_reducible rfl)); (try simp only [Act.put, List.setIfInBounds_toArray, List.set_cons_zero, List.set_cons_succ])
                          refine wpAnyH_ready (rs := [10]) (by kernel_rfl) (by simp) ?_
                          refine AllReadyH.cons (by simp only [List.getElem?_toArray, List.getElem?_cons_zero, List.getElem?_cons_succ]; rfl) (fun K hK => ?_) AllReadyH.nil
                          go_simp
                          refine hK.out _ _ (hGz.b) ?_
                          clear hHeld hK
                          intro hHeld
                          (try simp only [Act.put, List.setIfInBounds_toArray, List.set_cons_zero, List.set_cons_succ])
                          refine wpAnyH_done (by kernel_rfl) ?_ _
                          go_wp2_with fail
                          exact ⟨⟨k + 1, by omega, by omega, by simp, _, by rw [hwt.out]; exact hGz⟩, by simp [Go.RowKit.intOf]; omega⟩
                        refine AllReadyH.cons (by simp only [List.getElem?_toArray, List.getElem?_cons_zero, List.getElem?_cons_succ]; rfl) (fun K hK => ?_) AllReadyH.nil
                        go_simp
                        refine hK.out _ _ (Below.then hg0.b (alloc_below _ _)) ?_
                        clear hHeld hK
                        intro hHeld
                        obtain ⟨vz, wz, hap, hoz, hgz⟩ := OwnR.push wd_okT hg0.o hg0.b.size qv #[.int .i64 qv] rfl 2 (by rw [List.length_take]; omega)
                        obtain ⟨hkz, hBz, hGz⟩ := hg0.push hgz hoz
                        have hg1 := hg0.then (alloc_below w0 (.cells #[.int .i64 qv] 2))
                        obtain ⟨w1, hww⟩ : ∃ w', w0.alloc (.cells #[.int .i64 qv] 2) = w' := ⟨_, rfl⟩
                        rw [hww] at hg1 hap hHeld ⊢
                        clear hww
                        (try simp only [Act.put, List.setIfInBounds_toArray, List.set_cons_zero, List.set_cons_succ])
                        refine wpAnyH_ready (rs := [1]) (by kernel_rfl) (by simp) ?_
                        refine AllReadyH.cons (by simp only [List.getElem?_toArray, List.getElem?_cons_zero, List.getElem?_cons_succ]; rfl) (fun K hK => ?_) AllReadyH.nil
                        have hcf := (hg1.k.1 11 _ rfl).1
                        go_simp
                        refine hK.out _ _ (hg1.b) ?_
                        clear hHeld hK
                        intro hHeld
                        obtain ⟨w2, hww⟩ : ∃ w', w' = w1 := ⟨_, rfl⟩
                        subst hww
                        have hg2 := hg1
                        (try simp only [Act.put, List.setIfInBounds_toArray, List.set_cons_zero, List.set_cons_succ])
                        refine wpAnyH_ready (rs := [8]) (by kernel_rfl) (by simp) ?_
                        refine AllReadyH.cons (by simp only [List.getElem?_toArray, List.getElem?_cons_zero, List.getElem?_cons_succ]; rfl) (fun K hK => ?_) AllReadyH.nil
                        refine step_append rfl _ _ rfl rfl rfl rfl hap ?_
                        (try simp only [Act.put, List.setIfInBounds_toArray, List.set_cons_zero, List.set_cons_succ])
                        refine hK.out _ _ (hBz) ?_
                        clear hHeld hK
                        intro hHeld
                        obtain ⟨hcz1, hcz2⟩ := hkz.1 11 _ rfl
                        obtain ⟨av, cv, hvv, -, -, -⟩ := OwnR.slice wd_okT.len hoz
                        generalize (x.m.words.take k ++ [qv]).length = lz at hvv
                        subst hvv
                        (try simp only [Act.put, List.setIfInBounds_toArray, List.set_cons_zero, List.set_cons_succ])
                        refine wpAnyH_take (i := 9) (v := ?_) (by simp only [List.getElem?_toArray, List.getElem?_cons_zero, List.getElem?_cons_succ]; rfl) (by kernel_rfl) (by kernel_rfl) (by kernel_rfl) (by exact fun _ _ _ h => h) (Or.inl ⟨by rfl, ?_⟩) (by assumption) ?_; rotate_left; (focus (intro w hSw; (try dsimp only at hSw); go_simp; try with_reducible rfl)); (try simp only [Act.put, List.setIfInBounds_toArray, List.set_cons_zero, List.set_cons_succ])
                        refine wpAnyH_ready (rs := [10]) (by kernel_rfl) (by simp) ?_
                        refine AllReadyH.cons (by simp only [List.getElem?_toArray, List.getElem?_cons_zero, List.getElem?_cons_succ]; rfl) (fun K hK => ?_) AllReadyH.nil
                        go_simp
                        refine hK.out _ _ (hGz.b) ?_
                        clear hHeld hK
                        intro hHeld
                        (try simp only [Act.put, List.setIfInBounds_toArray, List.set_cons_zero, List.set_cons_succ])
                        refine wpAnyH_done (by kernel_rfl) ?_ _
                        go_wp2_with fail
                        exact ⟨⟨k + 1, by omega, by omega, by simp, _, by rw [hwt.out]; exact hGz⟩, by simp [Go.RowKit.intOf]; omega⟩
                      · have hend : x.m.words.take k = x.m.words.take 16 := by
                          have hmm := hm2.out
                          by_cases h16 : k = 16
                          · rw [h16]
                          · rw [List.take_of_length_le (by omega), List.take_of_length_le (by omega)]
                        rw [hend] at hgw
                        by_cases hin : k < m2
                        · obtain rfl : k = 16 := by omega
                          have j1 : ((16 : Nat) : Int) < (m2 : Int) := by omega
                          go_wp2_with fail
                          go_meet
                          exact ⟨v, hgw⟩
                        · obtain rfl : k = m2 := by omega
                          go_wp2_with fail
                          go_meet
                          exact ⟨v, hgw⟩
                  case rest =>
                    obtain ⟨v, hgw⟩ := hcut
                    obtain ⟨wa, cw, hvv, -, -, hwr⟩ := OwnR.slice wd_okT.len hgw.o
                    subst hvv
                    obtain ⟨y, hy⟩ : ∃ y : PN, y = ⟨{ nn with words := x.m.words.take 16 }, aa, ca, wa, cw⟩ := ⟨_, rfl⟩
                    have hyn : y.n = mkN d.n x.m := by rw [hfin0.out, hy]
                    have hyk : BlkL bn y.cs wc := by rw [hy]; exact hgw.k
                    have hyA : y.At wc := by
                      rw [hy]
                      obtain ⟨a9, c9, he9, -, -, hr9⟩ := OwnR.slice gr_okT.len hgw.a
                      cases he9
                      exact ⟨row_grs hr9, row_wrds hwr⟩
                    have hyB : PN.Abv w.heap.size y := by
                      rw [hy]
                      exact ⟨fun q hq => Nat.le_trans h4.g.b.size (own_abv hgw.a q hq), fun q hq => Nat.le_trans h4.g.b.size (own_abv hgw.o q hq)⟩
                    have hgb := hgw.b
                    clear hgw hwr hy hfin0
                    have hT9 := h4.then hgb
                    have hrn9 : RowN wc va l := ⟨by obtain ⟨va', vc', hvv, -, -, hr'⟩ := OwnR.slice pn_ok.len hT9.g.o; cases hvv; exact hr', hT9.g.p⟩
                    have hyr := hyk.range
                    have hung := Try.underlying36
                    have hszY : (Try.prog.info? 36).map (·.size) = some y.cs.length := by rw [pn_len]; kernel_rfl
                    have hpl := put_len l y
                    have hgi := fun v9 W9 (q : OwnN W9 wc.heap.size v9 (putP l y)) (b : Below wc.heap.size wc W9) => grown_GI hT9.g hyA hyB q b
                    have hfin : Aside (((ms.map (·.m)).take (i + 1)).foldl growStep (firstN L) = namesP (putP l y)) := by show _ = _; rw [put_names, hyn, hT.out]; exact hst'.out
                    clear h4 hT9
                    go_wp2_with (first | (refine wpList_load_row rfl _ rfl bn rfl y.cs hyr hung rfl hszY ?_) | fail)
                    refine (rputT_any va vc l y (by omega) wc hrn9).mono ?_
                    rintro e W9 ⟨v9, rfl, ho9, hB9⟩
                    have g9 := hgi v9 W9 ho9 hB9
                    clear hgi hrn9 hyr ho9
                    go_wp2_with fail
                    exact ⟨⟨i + 1, putP l y, by omega, by omega, by simp, g9, by omega, hfin⟩, by simp [Go.RowKit.intOf]; omega⟩
                · rw [hdir] at hm1
                  have hNd : BlkL bn (nclT (nod0 d.n x.m) aa ca none 0) wc.drew := hN
                  have hOd : OwnGr wc.drew W6.heap.size (.slice aa (aclOf x.m.acl).length ca) (aclOf x.m.acl) := hO.below (Below.refl _ _).drew
                  have hS0 : Below W6.heap.size W6 wc.drew := hB7.drew
                  have hone4 : ∀ v ∈ ([.int .i64 (joinL d.n.label (goodL x.m.up)).s, .int .i64 (joinL d.n.label (goodL x.m.up)).c, .int .i64 (joinL d.n.label (goodL x.m.up)).i, .int .i64 (joinL d.n.label (goodL x.m.up)).k] : List Value), v.oneCell' = true := by intro v hv; simp at hv; rcases hv with rfl | rfl | rfl | rfl <;> rfl
                  clear hN hO hB7 h4c
                  go_wp2_with fail
                  refine wp_region_held_drew (S := (fun W => Below W6.heap.size W6 W)) (by kernel_rfl) (by first | exact hSz | exact hS2 | exact hS1 | exact hS0) ?_
                  intro hHeld
                  first | (refine wpAnyH_take (i := 0) (v := ?_) (by simp only [List.getElem?_toArray, List.getElem?_cons_zero, List.getElem?_cons_succ]; rfl) (by kernel_rfl) (by kernel_rfl) (by kernel_rfl) (by exact fun _ _ _ h => h) (Or.inl ⟨by rfl, ?_⟩) (by assumption) ?_; rotate_left; (focus (intro w hSw; (try dsimp only at hSw); go_simp; try with_reducible rfl)); simp only [Act.put, List.setIfInBounds_toArray, List.set_cons_zero, List.set_cons_succ]) | (refine wpAnyH_take (i := 0) (v := undef) (by simp only [List.getElem?_toArray, List.getElem?_cons_zero, List.getElem?_cons_succ]; rfl) (by kernel_rfl) (by kernel_rfl) (by kernel_rfl) (by exact fun _ _ _ h => h) (Or.inr ⟨by rfl, rfl⟩) (by assumption) ?_; simp only [Act.put, List.setIfInBounds_toArray, List.set_cons_zero, List.set_cons_succ]) | fail
                  first | (refine wpAnyH_take (i := 1) (v := _) (by simp only [List.getElem?_toArray, List.getElem?_cons_zero, List.getElem?_cons_succ]; rfl) (by kernel_rfl) (by kernel_rfl) (by kernel_rfl) (by exact fun _ _ _ h => h) (yields_at (by rfl) _ rfl ⟨bd, 2, none⟩ rfl [.int .i64 d.n.label.s, .int .i64 d.n.label.c, .int .i64 d.n.label.i, .int .i64 d.n.label.k] (fun _ q => blk_four (h4.then q).db.1 rfl rfl rfl rfl) Try.underlying25 rfl hsl) (by assumption) ?_; simp only [Act.put, List.setIfInBounds_toArray, List.set_cons_zero, List.set_cons_succ]) | (refine wpAnyH_take (i := 1) (v := undef) (by simp only [List.getElem?_toArray, List.getElem?_cons_zero, List.getElem?_cons_succ]; rfl) (by kernel_rfl) (by kernel_rfl) (by kernel_rfl) (by exact fun _ _ _ h => h) (Or.inr ⟨by rfl, rfl⟩) (by assumption) ?_; simp only [Act.put, List.setIfInBounds_toArray, List.set_cons_zero, List.set_cons_succ]) | fail
                  first | (refine wpAnyH_take (i := 2) (v := ?_) (by simp only [List.getElem?_toArray, List.getElem?_cons_zero, List.getElem?_cons_succ]; rfl) (by kernel_rfl) (by kernel_rfl) (by kernel_rfl) (by exact fun _ _ _ h => h) (Or.inl ⟨by rfl, ?_⟩) (by assumption) ?_; rotate_left; (focus (intro w hSw; (try dsimp only at hSw); go_simp; try with_reducible rfl)); simp only [Act.put, List.setIfInBounds_toArray, List.set_cons_zero, List.set_cons_succ]) | (refine wpAnyH_take (i := 2) (v := undef) (by simp only [List.getElem?_toArray, List.getElem?_cons_zero, List.getElem?_cons_succ]; rfl) (by kernel_rfl) (by kernel_rfl) (by kernel_rfl) (by exact fun _ _ _ h => h) (Or.inr ⟨by rfl, rfl⟩) (by assumption) ?_; simp only [Act.put, List.setIfInBounds_toArray, List.set_cons_zero, List.set_cons_succ]) | fail
                  first | (refine wpAnyH_take (i := 3) (v := _) (by simp only [List.getElem?_toArray, List.getElem?_cons_zero, List.getElem?_cons_succ]; rfl) (by kernel_rfl) (by kernel_rfl) (by kernel_rfl) (by exact fun _ _ _ h => h) (yields_at (by rfl) _ rfl ⟨bm, 2, none⟩ rfl [.int .i64 x.m.up.s, .int .i64 x.m.up.c, .int .i64 x.m.up.i, .int .i64 x.m.up.k] (fun _ q => blk_four (h4.then q).mb.1 rfl rfl rfl rfl) Try.underlying25 rfl hsl) (by assumption) ?_; simp only [Act.put, List.setIfInBounds_toArray, List.set_cons_zero, List.set_cons_succ]) | (refine wpAnyH_take (i := 3) (v := undef) (by simp only [List.getElem?_toArray, List.getElem?_cons_zero, List.getElem?_cons_succ]; rfl) (by kernel_rfl) (by kernel_rfl) (by kernel_rfl) (by exact fun _ _ _ h => h) (Or.inr ⟨by rfl, rfl⟩) (by assumption) ?_; simp only [Act.put, List.setIfInBounds_toArray, List.set_cons_zero, List.set_cons_succ]) | fail
                  first | (refine wpAnyH_take (i := 4) (v := undef) (by simp only [List.getElem?_toArray, List.getElem?_cons_zero, List.getElem?_cons_succ]; rfl) (by kernel_rfl) (by kernel_rfl) (by kernel_rfl) (by exact fun _ _ _ h => h) (Or.inr ⟨by rfl, rfl⟩) (by assumption) ?_; simp only [Act.put, List.setIfInBounds_toArray, List.set_cons_zero, List.set_cons_succ]) | (refine wpAnyH_ready (rs := [4]) (by kernel_rfl) (by simp) ?_; refine AllReadyH.cons (by simp only [List.getElem?_toArray, List.getElem?_cons_zero, List.getElem?_cons_succ]; rfl) (fun K hK => ?_) AllReadyH.nil; go_simp; (first | (go_at_call 9; refine (good_any x.m.up _).mono ?_; rintro e w1 ⟨rfl, hb1⟩; have hS1 := Below.then hS0 hb1) | (go_at_call 27; refine (rljoin_any d.n.label (goodL x.m.up) _).mono ?_; rintro e w2 ⟨rfl, hb2⟩; have hS2 := Below.then hS1 hb2; obtain ⟨wz, hwz, hthz, hNz, hSz⟩ := put_mid (stab_blk _ _ _ _ (stab_blk _ _ _ _ hNd hb1) hb2) 2 [.int .i64 (joinL d.n.label (goodL x.m.up)).s, .int .i64 (joinL d.n.label (goodL x.m.up)).c, .int .i64 (joinL d.n.label (goodL x.m.up)).i, .int .i64 (joinL d.n.label (goodL x.m.up)).k] (by simp [nclT]) (by simp [nclT]) hS2 hbn)); refine hK.out _ _ (by first | exact hSz | exact hS2 | exact hS1 | exact hS0) ?_; clear hHeld hK; intro hHeld; (try simp only [Act.put, List.setIfInBounds_toArray, List.set_cons_zero, List.set_cons_succ])) | fail
                  first | (refine wpAnyH_take (i := 5) (v := undef) (by simp only [List.getElem?_toArray, List.getElem?_cons_zero, List.getElem?_cons_succ]; rfl) (by kernel_rfl) (by kernel_rfl) (by kernel_rfl) (by exact fun _ _ _ h => h) (Or.inr ⟨by rfl, rfl⟩) (by assumption) ?_; simp only [Act.put, List.setIfInBounds_toArray, List.set_cons_zero, List.set_cons_succ]) | (refine wpAnyH_ready (rs := [5]) (by kernel_rfl) (by simp) ?_; refine AllReadyH.cons (by simp only [List.getElem?_toArray, List.getElem?_cons_zero, List.getElem?_cons_succ]; rfl) (fun K hK => ?_) AllReadyH.nil; go_simp; (first | (go_at_call 9; refine (good_any x.m.up _).mono ?_; rintro e w1 ⟨rfl, hb1⟩; have hS1 := Below.then hS0 hb1) | (go_at_call 27; refine (rljoin_any d.n.label (goodL x.m.up) _).mono ?_; rintro e w2 ⟨rfl, hb2⟩; have hS2 := Below.then hS1 hb2; obtain ⟨wz, hwz, hthz, hNz, hSz⟩ := put_mid (stab_blk _ _ _ _ (stab_blk _ _ _ _ hNd hb1) hb2) 2 [.int .i64 (joinL d.n.label (goodL x.m.up)).s, .int .i64 (joinL d.n.label (goodL x.m.up)).c, .int .i64 (joinL d.n.label (goodL x.m.up)).i, .int .i64 (joinL d.n.label (goodL x.m.up)).k] (by simp [nclT]) (by simp [nclT]) hS2 hbn)); refine hK.out _ _ (by first | exact hSz | exact hS2 | exact hS1 | exact hS0) ?_; clear hHeld hK; intro hHeld; (try simp only [Act.put, List.setIfInBounds_toArray, List.set_cons_zero, List.set_cons_succ])) | fail
                  first | (refine wpAnyH_take (i := 6) (v := ?_) (by simp only [List.getElem?_toArray, List.getElem?_cons_zero, List.getElem?_cons_succ]; rfl) (by kernel_rfl) (by kernel_rfl) (by kernel_rfl) (by exact fun _ _ _ h => h) (Or.inl ⟨by rfl, ?_⟩) (by assumption) ?_; rotate_left; (focus (intro w hSw; (try dsimp only at hSw); go_simp; try with_reducible rfl)); simp only [Act.put, List.setIfInBounds_toArray, List.set_cons_zero, List.set_cons_succ]) | (refine wpAnyH_take (i := 6) (v := undef) (by simp only [List.getElem?_toArray, List.getElem?_cons_zero, List.getElem?_cons_succ]; rfl) (by kernel_rfl) (by kernel_rfl) (by kernel_rfl) (by exact fun _ _ _ h => h) (Or.inr ⟨by rfl, rfl⟩) (by assumption) ?_; simp only [Act.put, List.setIfInBounds_toArray, List.set_cons_zero, List.set_cons_succ]) | fail
                  refine wpAnyH_ready (rs := [7]) (by kernel_rfl) (by simp) ?_; refine AllReadyH.cons (by simp only [List.getElem?_toArray, List.getElem?_cons_zero, List.getElem?_cons_succ]; rfl) (fun K hK => ?_) AllReadyH.nil; refine step_store_part rfl _ _ rfl bn 2 rfl [.int .i64 (joinL d.n.label (goodL x.m.up)).s, .int .i64 (joinL d.n.label (goodL x.m.up)).c, .int .i64 (joinL d.n.label (goodL x.m.up)).i, .int .i64 (joinL d.n.label (goodL x.m.up)).k] rfl hthz hsl hone4 hwz ?_; (try simp only [Act.put, List.setIfInBounds_toArray, List.set_cons_zero, List.set_cons_succ]); refine hK.out _ _ (by first | exact hSz | exact hS2 | exact hS1 | exact hS0) ?_; clear hHeld hK; intro hHeld; (try simp only [Act.put, List.setIfInBounds_toArray, List.set_cons_zero, List.set_cons_succ])
                  refine wpAnyH_done (by kernel_rfl) ?_ _
                  have hOz : OwnGr wz W6.heap.size (.slice aa (aclOf x.m.acl).length ca) (aclOf x.m.acl) := by rw [← hwz]; exact ((hOd.below hb1).below hb2).mid hne 2 _
                  obtain ⟨y, hy⟩ : ∃ y : PN, y = ⟨mkN d.n x.m, aa, ca, none, 0⟩ := ⟨_, rfl⟩
                  have hyn : y.n = mkN d.n x.m := by rw [hy]
                  have hyk : BlkL bn y.cs wz := by
                    have e : setM (nclT (nod0 d.n x.m) aa ca none 0) 2 [.int .i64 (joinL d.n.label (goodL x.m.up)).s, .int .i64 (joinL d.n.label (goodL x.m.up)).c, .int .i64 (joinL d.n.label (goodL x.m.up)).i, .int .i64 (joinL d.n.label (goodL x.m.up)).k] = y.cs := by
                      rw [hy]
                      unfold PN.cs nclT nod0 mkN
                      rw [hdir]
                      rfl
                    rw [← e]
                    exact hNz
                  have hyA : y.At wz := by
                    rw [hy]
                    obtain ⟨a9, c9, he9, -, -, hr9⟩ := OwnR.slice gr_okT.len hOz
                    cases he9
                    have hm : (mkN d.n x.m).acl = aclOf x.m.acl ∧ (mkN d.n x.m).words = [] := by unfold mkN; rw [hdir]; exact ⟨rfl, rfl⟩
                    exact ⟨by show GrsAt wz aa (mkN d.n x.m).acl; rw [hm.1]; exact row_grs hr9, fun j q hq => by rw [show (PN.n ⟨mkN d.n x.m, aa, ca, none, 0⟩).words = [] from hm.2] at hq; simp at hq⟩
                  have hyB : PN.Abv w.heap.size y := by
                    rw [hy]
                    exact ⟨fun q hq => Nat.le_trans h4.g.b.size (own_abv hOz q hq), fun q hq => by cases hq⟩
                  clear hNz hOz hOd hNd hy hthz
                  have hT9 := h4.then hSz
                  have hrn9 : RowN wz va l := ⟨by obtain ⟨va', vc', hvv, -, -, hr'⟩ := OwnR.slice pn_ok.len hT9.g.o; cases hvv; exact hr', hT9.g.p⟩
                  have hyr := hyk.range
                  have hung := Try.underlying36
                  have hszY : (Try.prog.info? 36).map (·.size) = some y.cs.length := by rw [pn_len]; kernel_rfl
                  have hpl := put_len l y
                  have hgi := fun v9 W9 (q : OwnN W9 wz.heap.size v9 (putP l y)) (b : Below wz.heap.size wz W9) => grown_GI hT9.g hyA hyB q b
                  have hfin : Aside (((ms.map (·.m)).take (i + 1)).foldl growStep (firstN L) = namesP (putP l y)) := by show _ = _; rw [put_names, hyn, hT.out]; exact hst'.out
                  clear h4 hT9
                  go_wp2_with (first | (refine wpList_load_row rfl _ rfl bn rfl y.cs hyr hung rfl hszY ?_) | fail)
                  refine (rputT_any va vc l y (by omega) wz hrn9).mono ?_
                  rintro e W9 ⟨v9, rfl, ho9, hB9⟩
                  have g9 := hgi v9 W9 ho9 hB9
                  clear hgi hrn9 hyr ho9
                  go_wp2_with fail
                  exact ⟨⟨i + 1, putP l y, by omega, by omega, by simp, g9, by omega, hfin⟩, by simp [Go.RowKit.intOf]; omega⟩
            · have hst2 : T = namesP l := by
                rw [hst']
                simp only [Option.map]
                rw [if_neg]
                rintro ⟨h1, h2⟩
                exact hgo ⟨h1, by cases fe <;> simp_all⟩
              clear hst'
              cases hdd : d.n.dir
              · rw [hdd] at hd1
                go_wp2_with (first | (refine wpList_store_row rfl _ _ rfl W5.heap.size rfl (foundCs fe) rfl hth6 hszn honen hW6 ?_) | fail)
                exact ⟨⟨i + 1, l, by omega, by omega, by simp, g6, by omega, by rw [hT.out]; exact hst2⟩, by simp [Go.RowKit.intOf]; omega⟩
              · rw [hdd] at hd1
                obtain ⟨z, rfl⟩ : ∃ z, fe = some z := by cases fe with
                  | none => exact absurd ⟨hdd, rfl⟩ hgo
                  | some z => exact ⟨z, rfl⟩
                go_wp2_with (first | (refine wpList_store_row rfl _ _ rfl W5.heap.size rfl (foundCs (some z)) rfl hth6 hszn honen hW6 ?_) | fail)
                exact ⟨⟨i + 1, l, by omega, by omega, by simp, g6, by omega, by rw [hT.out]; exact hst2⟩, by simp [Go.RowKit.intOf]; omega⟩
        · rw [if_pos he] at hst'
          have f0 : (p.toList == [47]) = true := by rw [← slash_lit]; exact he
          go_wp2_with fail
          exact ⟨⟨i + 1, l, by omega, by omega, by simp, g2, by omega, by rw [hT.out]; exact hst'⟩, by simp [Go.RowKit.intOf]; omega⟩
      · have hend : (ms.map (·.m)).take i = (ms.map (·.m)).take 14 := by
          have hmm : (ms.map (·.m)).length = m := by rw [List.length_map]; exact hm.out
          by_cases h4 : i = 14
          · rw [h4]
          · rw [List.take_of_length_le (by omega), List.take_of_length_le (by omega)]
        have hRl : namesP l = R := by rw [← hf.out, hend]; exact hR'.out
        clear hend hrn hrl
        by_cases hin : i < m
        · obtain rfl : i = 14 := by omega
          have i1 : ((14 : Nat) : Int) < (m : Int) := by omega
          go_wp2_with fail
          exact bodyPost_ret (v := .slice va l.length vc) (by simp [results, Try.results8, go_sem]) rfl ⟨_, l, rfl, g.o, g.p, hRl, g.b, g.a⟩
        · obtain rfl : i = m := by omega
          go_wp2_with fail
          exact bodyPost_ret (v := .slice va l.length vc) (by simp [results, Try.results8, go_sem]) rfl ⟨_, l, rfl, g.o, g.p, hRl, g.b, g.a⟩
theorem growT_any (ta : Option Addr) (ct : Nat) (ts : List Lab) (ma : Option Addr) (mc : Nat) (ms : List PM) (w : World) (hlr : RowAt 4 lrow w ta ts) (hmr : RowM w ma ms) :
    Calls Try.prog 8 #[.slice ta ts.length ct, .slice ma ms.length mc] w fun e w' => ∃ v l, e = .returned v ∧ OwnN w' w.heap.size v l ∧ (∀ x ∈ l, x.At w') ∧ namesP l = growN ts (ms.map (·.m)) ∧ Below w.heap.size w w' := (growB_any ta ct ts ma mc ms w hlr hmr).mono fun e w' ⟨v, l, h1, h2, h3, h4, h5, _⟩ => ⟨v, l, h1, h2, h3, h4, h5⟩
end Go.Proofs.Ytajondkpdgiolaa
