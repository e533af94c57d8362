/-
  PART 2 of what the claims of this seat lean on: Two QuotaRef AudRef LText AudText QuotaBase AudLaw AudOk LabMap LabKeys LabMapG AudSheet QuotaMap.
-/
import Derived.Deep.RegionHeld
import Derived.Deep.CutBlock
import Derived.Lib.ItoaLen
import Derived.WideKeyEntry
import Derived.DeepKeys4
import Derived.WalkArith
import Derived.Maps.RangeRun
import Derived.Sort.MapsRangeIn
import Derived.RangeFuncNested
import Derived.RangeFuncBound
import Derived.RangeFuncCalls
import Derived.RangeFuncLeaves
import Derived.Shelf.Abstract
import Derived.Shelf.RegionOpen
import Derived.WalkKit
import Derived.OwnWalkIn
import Derived.TacticsInMore
import Derived.LoopNIn
import Derived.LoopIn
import Derived.Test.YtohocomemkckeaaGreatDoorPt1
/-! LABELS IN BLOCKS OF THE LAW'S OWN, turned where they lie. For every stage from the twelfth on. -/
namespace Go.Proofs.YtohocomemkckeaaGreatDoor
open Go.RowKit
set_option maxRecDepth 8000
set_option linter.unusedSimpArgs false
set_option linter.unusedVariables false

abbrev lab4 (t : Lab) : List Value := [.int .i64 t.s, .int .i64 t.c, .int .i64 t.i, .int .i64 t.k]
theorem lab4_one (t : Lab) : ∀ v ∈ lab4 t, v.oneCell' = true := by
  intro v hv
  simp only [List.mem_cons, List.not_mem_nil, or_false] at hv
  rcases hv with rfl | rfl | rfl | rfl <;> rfl
theorem size_setCells (b : Nat) : ∀ (vs : List Value) (o : Nat) (w : World), (w.setCells b o vs).heap.size = w.heap.size
  | [], _, _ => rfl
  | v :: r, o, w => by
    show ((w.setCell ⟨b, o, none⟩ v).setCells b (o + 1) r).heap.size = _
    rw [size_setCells b r (o + 1)]
    simp
/-- Another block, behind a store. -/
theorem BlkL.other {g b o : Nat} {cs vs : List Value} {W W' : World} (h : BlkL g cs W) (hw : W.setCells b o vs = W') (hne : g ≠ b) : BlkL g cs W' := by
  subst hw
  exact ⟨h.1.same (heap_setCells_other hne vs o W), by rw [size_setCells]; exact h.2⟩
section
variable {ops : Array Oper} {o : Oper} {a : Act} {w : World} {Q : Exit → Act → World → Prop} {T : TypeId} {d : TypeDesc}
theorem step_load_row {K : Act → World → Prop} {E : Prop} (hg : o.guard = none) (x : Operand) (ho : o.op = .load T x) (b : Nat) (hx : a.eval x = .pointer (some ⟨b, 0, none⟩)) (cs : List Value) (hc : w.rangeAt b 0 cs)
    (hu : Tryz.prog.underlying T = some d) (hd : d.isRow = true) (hi : (Tryz.prog.info? T).map (·.size) = some cs.length) (hK : K (a.put o.dst (.agg cs.toArray)) w) :
    if Region.wanted o (yielded ops a.tmps) = true then Oper.wp Tryz.prog o a w K Q else E := by
  have hw : Region.wanted o (yielded ops a.tmps) = true := by simp [Region.wanted, hg]
  rw [if_pos hw]
  exact wp_load_mid T x ho b 0 hx cs d hc hu hd hi hK
end
end Go.Proofs.YtohocomemkckeaaGreatDoor

/-! THE DOCUMENT'S OWN COUNTS: donjonref12's Nodes, May, Of, Add. -/
namespace Go.Proofs.YtohocomemkckeaaGreatDoor
open Go.RowKit
set_option maxRecDepth 8000
set_option linter.unusedSimpArgs false
set_option linter.unusedVariables false

theorem cells_sub {W : World} {x : Addr} {cs : List Value} (h : CellsAt W x cs) (k : Nat) (hk : k ≠ 0) (ds : List Value) (hd : ∀ j v, ds[j]? = some v → cs[k + j]? = some v) : CellsAt W ⟨x.block, x.off + k, none⟩ ds := fun j v hv => by
  have h1 := h (k + j) v (hd j v hv)
  have e : (⟨x.block, x.off + k, none⟩ : Addr).add j = x.add (k + j) := by
    unfold Addr.add
    by_cases hj : j = 0
    · subst hj
      simp [hk]
    · rw [if_neg hj, if_neg (by omega)]
      simp [Nat.add_assoc]
  rw [e]
  exact h1
theorem node_by {W : World} {x : Addr} {p : PN} (h : CellsAt W x p.cs) : CellsAt W ⟨x.block, x.off + 12, none⟩ (lab4 p.n.by_) := cells_sub h 12 (by decide) _ fun j v hv => by
  match j, hv with
  | 0, hv => exact hv
  | 1, hv => exact hv
  | 2, hv => exact hv
  | 3, hv => exact hv
def mayQ (n : Nat) : Int := if 20 ≤ n then 17 else 0
/-- What Add does behind its loop: an element is laid between the first k and the others. -/
theorem ins_tail {α : Type} {e t : TypeId} {sz : Nat} {f : α → List Value} (hE : ElemOk e t sz f) (ht : Tryz.prog.elem t = e) (W : World) (a1 : Option Addr) (n c1 k : Nat) (m : List α) (x : α) (hn : m.length = n) (hk : k ≤ n) (hle : n ≤ c1) (hno : a1 = none → c1 = 0) (hn1 : n ≤ 100000) (hr : RowAt sz f W a1 m) :
    ∃ A1 A2 v2 W2 v3 W3 v4 W4, (∀ X, (Instr.slice t (.slice a1 n c1) none (some (.int .i64 (k : Int))) none).run Tryz.prog X = .ok (.slice A1 k c1) X) ∧ (∀ X, (Instr.slice t (.slice a1 n c1) (some (.int .i64 (k : Int))) none none).run Tryz.prog X = .ok (.slice A2 (n - k) (c1 - k)) X) ∧
      (Builtin.append_ #[t, t] t #[.slice none 0 0, .slice A1 k c1]).run Tryz.prog W = .ok v2 W2 ∧ (Builtin.append_ #[t, t] t #[v2, .slice (some ⟨W2.heap.size, 0, none⟩) 1 1]).run Tryz.prog (W2.alloc (.cells (f x).toArray e)) = .ok v3 W3 ∧
      (Builtin.append_ #[t, t] t #[v3, .slice A2 (n - k) (c1 - k)]).run Tryz.prog W3 = .ok v4 W4 ∧ Below W.heap.size W W2 ∧ OwnR e sz f W4 W.heap.size v4 (m.take k ++ x :: m.drop k) ∧ Below W.heap.size W W4 := by
  obtain ⟨A1, hs1, hn1', hr1'⟩ := rows_take hE ht a1 n c1 k hk hle
  obtain ⟨A2, hs2, hn2', hr2'⟩ := rows_drop hE ht a1 n c1 k hk hle
  have hlt3 : (m.take k).length = k := by rw [List.length_take, hn]; omega
  have hlt4 : (m.drop k).length = n - k := by rw [List.length_drop, hn]
  have ho0 : OwnR e sz f W W.heap.size (.slice none 0 0) [] := OwnR.nil _ _ _ _ _
  obtain ⟨v2, W2, hap2, ho2, hg2⟩ := OwnR.append_any hE ho0 (Nat.le_refl _) A1 k c1 (m.take k) hlt3 (hr1' _ _ hr) (fun q => by have := hno (hn1' q); omega) (by simp) (by omega)
  rw [List.nil_append] at ho2
  have hb2 := ho0.grew_below (Nat.le_refl _) hg2
  obtain ⟨v3, W3, hap3, ho3, hg3⟩ := OwnR.push hE ho2 hb2.size x (f x).toArray rfl e (by rw [hlt3]; omega)
  have hb3 := ho2.grew_below hb2.size hg3
  have hB3 := hb2.trans hb3
  obtain ⟨v4, W4, hap4, ho4, hg4⟩ := OwnR.append_any hE ho3 hB3.size A2 (n - k) (c1 - k) (m.drop k) hlt4 (hr2' _ _ hn (hr.below hE.len hB3)) (fun q => by have := hno (hn2' q); omega) (by simp [hlt3]; omega) (by omega)
  have hb4 := ho3.grew_below hB3.size hg4
  refine ⟨A1, A2, v2, W2, v3, W3, v4, W4, hs1, hs2, hap2, hap3, hap4, hb2, ?_, hB3.trans hb4⟩
  simpa using ho4
end Go.Proofs.YtohocomemkckeaaGreatDoor

/-! THE DOCUMENT'S OWN LOG (donjonref14): All, Full, May, Seen, Chain, Add. Rows of entries. -/
namespace Go.Proofs.YtohocomemkckeaaGreatDoor
open Go.RowKit
set_option maxRecDepth 8000
set_option linter.unusedSimpArgs false
set_option linter.unusedVariables false

theorem ent_one (x : Ent) : ∀ u ∈ ecs x, u.oneCell' = true := fun u hu => by
  simp [ecs] at hu
  rcases hu with rfl | rfl | rfl | rfl | rfl | rfl | rfl | rfl | rfl <;> rfl
theorem ent_ok : ElemOk 31 22 9 ecs :=
  ⟨Tryz.underlying22, by
    obtain ⟨i, h1, h2, h3, h4⟩ := info_of (e := 31) (z := .agg #[.int .i64 0, .int .i64 0, .int .i64 0, .int .i64 0, .int .i64 0, .string ⟨#[]⟩, .int .i64 0, .string ⟨#[]⟩, .int .i64 0]) (sz := 9) (b := 88) (by kernel_rfl)
    exact ⟨i, _, _, h1, h2, h3, h4, rfl, by omega⟩, by omega, fun _ => rfl, ent_one⟩
abbrev RowE (w : World) (a : Option Addr) (l : List Ent) : Prop := RowAt 9 ecs w a l
abbrev OwnE (w : World) (b : Nat) (v : Value) (l : List Ent) : Prop := OwnR 31 9 ecs w b v l
theorem ent_lab {W : World} {x : Addr} {p : Ent} (h : CellsAt W x (ecs p)) : CellsAt W ⟨x.block, x.off + 1, none⟩ (lab4 p.label) := cells_sub h 1 (by decide) _ fun j v hv => by
  match j, hv with
  | 0, hv => exact hv
  | 1, hv => exact hv
  | 2, hv => exact hv
  | 3, hv => exact hv
theorem ebox_lab {W : World} {g : Nat} {p : Ent} (h : BlkL g (ecs p) W) : CellsAt W ⟨g, 1, none⟩ (lab4 p.label) := fun j v hv => by
  have e : (⟨g, 1, none⟩ : Addr).add j = ⟨g, 1 + j, none⟩ := by
    unfold Addr.add
    split <;> simp_all
  rw [e]
  refine (h.1 (1 + j) v ?_).1
  match j, hv with
  | 0, hv => exact hv
  | 1, hv => exact hv
  | 2, hv => exact hv
  | 3, hv => exact hv
theorem filter_stepE {l : List Ent} {p : Ent → Bool} {i : Nat} {x : Ent} (h : l[i]? = some x) : (l.take (i + 1)).filter p = (l.take i).filter p ++ (if p x = true then [x] else []) := by
  rw [List.take_add_one, h, List.filter_append]
  cases hp : p x <;> simp [hp]
theorem filter_lenE (l : List Ent) (p : Ent → Bool) (i : Nat) : ((l.take i).filter p).length ≤ l.length := by
  have h1 := List.length_filter_le p (l.take i)
  have h2 : (l.take i).length ≤ l.length := by rw [List.length_take]; omega
  omega
set_option maxHeartbeats 4000000 in
theorem raAll_any (a : Option Addr) (cap : Nat) (l : List Ent) (t : Lab) (hl : l.length ≤ 10000) (w : World) (h : RowE w a l) :
    Calls Tryz.prog 12 #[.slice a l.length cap, t.v] w fun e w' => ∃ v, e = .returned v ∧ OwnE w' w.heap.size v (audAll l t) ∧ Below w.heap.size w w' := by
  have hund := Tryz.underlying28
  have hundE := Tryz.underlying31
  have hsl : (Tryz.prog.info? 28).map (·.size) = some 4 := by kernel_rfl
  have hse : (Tryz.prog.info? 31).map (·.size) = some 9 := by kernel_rfl
  have hb0 := blkl_alloc w (lab4 t).toArray 28
  have hB0 := alloc_below w (.cells (lab4 t).toArray 28)
  replace hb0 : BlkL w.heap.size (lab4 t) (w.alloc (.cells (lab4 t).toArray 28)) := hb0
  obtain ⟨n, hn⟩ : ∃ n, l.length = n := ⟨_, rfl⟩
  have hfl := fun i => filter_lenE l (fun e => labEq e.label t) i
  rw [hn] at hl hfl ⊢
  replace hn : Aside (l.length = n) := hn
  go_enter Tryz.func12, Tryz.ntmps12
  go_wp2_with fail
  generalize w.alloc (.cells #[.int .i64 t.s, .int .i64 t.c, .int .i64 t.i, .int .i64 t.k] 28) = W0 at *
  have hz0 : w.heap.size + 1 ≤ W0.heap.size := hb0.2
  go_loopw [5, 6] (fun t5 t6 wr => ∃ (i : Nat) (v : Value), i ≤ n ∧ t6 = .int .i64 (i : Int) ∧ v = t5 ∧ OwnE wr W0.heap.size v ((l.take i).filter fun e => labEq e.label t) ∧ Below W0.heap.size W0 wr) (fun _ t6 _ => n - (Go.RowKit.intOf t6).toNat)
  case atStart => exact ⟨0, _, by omega, rfl, rfl, OwnR.nil _ _ _ _ _, Below.refl _ _⟩
  case round =>
    obtain ⟨i, v, hi, rfl, rfl, ho, hB⟩ := hrel
    by_cases hlt : i < n
    · obtain ⟨x, hx⟩ : ∃ x, l[i]? = some x := ⟨_, List.getElem?_eq_getElem (by rw [hn.out]; exact hlt)⟩
      have hBw := Below.then hB0 hB
      obtain ⟨y, rfl, -⟩ := h i x hx
      have hrow := (h.below ent_ok.len hBw).at ent_ok.len hx
      have hc := ent_lab hrow
      have hbw := stab_blk _ _ _ _ hb0 hB
      have hstep := filter_stepE (p := fun e => labEq e.label t) hx
      have hnq : ∀ W, (binOp .eql 28 (.agg (lab4 x.label).toArray) (.agg (lab4 t).toArray)).run Tryz.prog W = .ok (.bool (labEq x.label t)) W := run_eql_lab x.label t
      have hS : (fun W => CellsAt W ⟨(y.add (i * 9)).block, (y.add (i * 9)).off + 1, none⟩ (lab4 x.label) ∧ BlkL w.heap.size (lab4 t) W) wr.drew := ⟨hc, hbw⟩
      have hbd := (Below.refl wr.heap.size wr).drew
      have hBd := Below.then hB hbd
      have hod := ho.below hbd
      have hrd : CellsAt wr.drew (y.add (i * 9)) (ecs x) := hrow
      have i1 : (i : Int) < (n : Int) := by omega
      clear hc hbw hx hrow hbd ho
      cases he : labEq x.label t
      · rw [he, if_neg (by decide), List.append_nil] at hstep
        rw [he] at hnq
        rw [← hstep] at hod
        replace hstep : Aside _ := hstep
        go_wp2_with fail
        refine wp_region_held_drew (S := (fun W => CellsAt W ⟨(y.add (i * 9)).block, (y.add (i * 9)).off + 1, none⟩ (lab4 x.label) ∧ BlkL w.heap.size (lab4 t) W)) (by kernel_rfl) (by exact hS) ?_
        intro hHeld
        (first | (refine wpAnyH_take (i := 0) (v := ?_) (by simp only [gA, gB, gC]; rfl) (by kernel_rfl) (by kernel_rfl) (by kernel_rfl) (by exact fun _ _ _ h => h) (Or.inl ⟨by rfl, ?_⟩) (by assumption) ?_; rotate_left; (focus (intro w hSw; (try dsimp only at hSw); go_simp; try with_reducible rfl))) | (refine wpAnyH_take (i := 0) (v := undef) (by simp only [gA, gB, gC]; rfl) (by kernel_rfl) (by kernel_rfl) (by kernel_rfl) (by exact fun _ _ _ h => h) (Or.inr ⟨by rfl, rfl⟩) (by assumption) ?_) | fail); simp only [Act.put, sA, sB, sC]
        (first | (refine wpAnyH_take (i := 1) (v := ?_) (by simp only [gA, gB, gC]; rfl) (by kernel_rfl) (by kernel_rfl) (by kernel_rfl) (by exact fun _ _ _ h => h) (Or.inl ⟨by rfl, ?_⟩) (by assumption) ?_; rotate_left; (focus (intro w hSw; (try dsimp only at hSw); go_simp; try with_reducible rfl))) | (refine wpAnyH_take (i := 1) (v := undef) (by simp only [gA, gB, gC]; rfl) (by kernel_rfl) (by kernel_rfl) (by kernel_rfl) (by exact fun _ _ _ h => h) (Or.inr ⟨by rfl, rfl⟩) (by assumption) ?_) | fail); simp only [Act.put, sA, sB, sC]
        (first | (refine wpAnyH_take (i := 2) (v := ?_) (by simp only [gA, gB, gC]; rfl) (by kernel_rfl) (by kernel_rfl) (by kernel_rfl) (by exact fun _ _ _ h => h) (Or.inl ⟨by rfl, ?_⟩) (by assumption) ?_; rotate_left; (focus (intro w hSw; (try dsimp only at hSw); go_simp; try with_reducible rfl))) | (refine wpAnyH_take (i := 2) (v := undef) (by simp only [gA, gB, gC]; rfl) (by kernel_rfl) (by kernel_rfl) (by kernel_rfl) (by exact fun _ _ _ h => h) (Or.inr ⟨by rfl, rfl⟩) (by assumption) ?_) | fail); simp only [Act.put, sA, sB, sC]
        (first | (refine wpAnyH_take (i := 3) (v := ?_) (by simp only [gA, gB, gC]; rfl) (by kernel_rfl) (by kernel_rfl) (by kernel_rfl) (by exact fun _ _ _ h => h) (Or.inl ⟨by rfl, ?_⟩) (by assumption) ?_; rotate_left; (focus (intro w hSw; (try dsimp only at hSw); go_simp; try with_reducible rfl))) | (refine wpAnyH_take (i := 3) (v := undef) (by simp only [gA, gB, gC]; rfl) (by kernel_rfl) (by kernel_rfl) (by kernel_rfl) (by exact fun _ _ _ h => h) (Or.inr ⟨by rfl, rfl⟩) (by assumption) ?_) | fail); simp only [Act.put, sA, sB, sC]
        (first | (refine wpAnyH_take (i := 4) (v := _) (by simp only [gA, gB, gC]; rfl) (by kernel_rfl) (by kernel_rfl) (by kernel_rfl) (by exact fun _ _ _ h => h) (yields_at (by rfl) _ rfl _ rfl (lab4 x.label) (fun _ q => q.1) hund rfl hsl) (by assumption) ?_) | (refine wpAnyH_take (i := 4) (v := undef) (by simp only [gA, gB, gC]; rfl) (by kernel_rfl) (by kernel_rfl) (by kernel_rfl) (by exact fun _ _ _ h => h) (Or.inr ⟨by rfl, rfl⟩) (by assumption) ?_) | fail); simp only [Act.put, sA, sB, sC]
        (first | (refine wpAnyH_take (i := 5) (v := _) (by simp only [gA, gB, gC]; rfl) (by kernel_rfl) (by kernel_rfl) (by kernel_rfl) (by exact fun _ _ _ h => h) (yields_row (by rfl) _ rfl w.heap.size rfl (lab4 t) (fun _ q => q.2.range) hund rfl hsl) (by assumption) ?_) | (refine wpAnyH_take (i := 5) (v := undef) (by simp only [gA, gB, gC]; rfl) (by kernel_rfl) (by kernel_rfl) (by kernel_rfl) (by exact fun _ _ _ h => h) (Or.inr ⟨by rfl, rfl⟩) (by assumption) ?_) | fail); simp only [Act.put, sA, sB, sC]
        (first | (refine wpAnyH_take (i := 6) (v := ?_) (by simp only [gA, gB, gC]; rfl) (by kernel_rfl) (by kernel_rfl) (by kernel_rfl) (by exact fun _ _ _ h => h) (Or.inl ⟨by rfl, ?_⟩) (by assumption) ?_; rotate_left; (focus (intro w hSw; (try dsimp only at hSw); go_simp; try with_reducible rfl))) | (refine wpAnyH_take (i := 6) (v := undef) (by simp only [gA, gB, gC]; rfl) (by kernel_rfl) (by kernel_rfl) (by kernel_rfl) (by exact fun _ _ _ h => h) (Or.inr ⟨by rfl, rfl⟩) (by assumption) ?_) | fail); simp only [Act.put, sA, sB, sC]
        refine wpAnyH_done (by kernel_rfl) ?_ _
        go_wp2_with fail
        exact ⟨⟨i + 1, v, by omega, by simp, rfl, hod, hBd⟩, by simp [Go.RowKit.intOf]; omega⟩
      · rw [he, if_pos rfl] at hstep
        rw [he] at hnq
        obtain ⟨v2, W2, hap, ho2, hg2⟩ := OwnR.push ent_ok hod hBd.size x (ecs x).toArray rfl 31 (by have := hfl i; omega)
        have hb2 := hod.grew_below hBd.size hg2
        have hB2 := hBd.trans hb2
        rw [← hstep] at ho2
        replace hstep : Aside _ := hstep
        clear hod hg2 hb2
        go_wp2_with fail
        refine wp_region_held_drew (S := (fun W => CellsAt W ⟨(y.add (i * 9)).block, (y.add (i * 9)).off + 1, none⟩ (lab4 x.label) ∧ BlkL w.heap.size (lab4 t) W)) (by kernel_rfl) (by exact hS) ?_
        intro hHeld
        (first | (refine wpAnyH_take (i := 0) (v := ?_) (by simp only [gA, gB, gC]; rfl) (by kernel_rfl) (by kernel_rfl) (by kernel_rfl) (by exact fun _ _ _ h => h) (Or.inl ⟨by rfl, ?_⟩) (by assumption) ?_; rotate_left; (focus (intro w hSw; (try dsimp only at hSw); go_simp; try with_reducible rfl))) | (refine wpAnyH_take (i := 0) (v := undef) (by simp only [gA, gB, gC]; rfl) (by kernel_rfl) (by kernel_rfl) (by kernel_rfl) (by exact fun _ _ _ h => h) (Or.inr ⟨by rfl, rfl⟩) (by assumption) ?_) | fail); simp only [Act.put, sA, sB, sC]
        (first | (refine wpAnyH_take (i := 1) (v := ?_) (by simp only [gA, gB, gC]; rfl) (by kernel_rfl) (by kernel_rfl) (by kernel_rfl) (by exact fun _ _ _ h => h) (Or.inl ⟨by rfl, ?_⟩) (by assumption) ?_; rotate_left; (focus (intro w hSw; (try dsimp only at hSw); go_simp; try with_reducible rfl))) | (refine wpAnyH_take (i := 1) (v := undef) (by simp only [gA, gB, gC]; rfl) (by kernel_rfl) (by kernel_rfl) (by kernel_rfl) (by exact fun _ _ _ h => h) (Or.inr ⟨by rfl, rfl⟩) (by assumption) ?_) | fail); simp only [Act.put, sA, sB, sC]
        (first | (refine wpAnyH_take (i := 2) (v := ?_) (by simp only [gA, gB, gC]; rfl) (by kernel_rfl) (by kernel_rfl) (by kernel_rfl) (by exact fun _ _ _ h => h) (Or.inl ⟨by rfl, ?_⟩) (by assumption) ?_; rotate_left; (focus (intro w hSw; (try dsimp only at hSw); go_simp; try with_reducible rfl))) | (refine wpAnyH_take (i := 2) (v := undef) (by simp only [gA, gB, gC]; rfl) (by kernel_rfl) (by kernel_rfl) (by kernel_rfl) (by exact fun _ _ _ h => h) (Or.inr ⟨by rfl, rfl⟩) (by assumption) ?_) | fail); simp only [Act.put, sA, sB, sC]
        (first | (refine wpAnyH_take (i := 3) (v := ?_) (by simp only [gA, gB, gC]; rfl) (by kernel_rfl) (by kernel_rfl) (by kernel_rfl) (by exact fun _ _ _ h => h) (Or.inl ⟨by rfl, ?_⟩) (by assumption) ?_; rotate_left; (focus (intro w hSw; (try dsimp only at hSw); go_simp; try with_reducible rfl))) | (refine wpAnyH_take (i := 3) (v := undef) (by simp only [gA, gB, gC]; rfl) (by kernel_rfl) (by kernel_rfl) (by kernel_rfl) (by exact fun _ _ _ h => h) (Or.inr ⟨by rfl, rfl⟩) (by assumption) ?_) | fail); simp only [Act.put, sA, sB, sC]
        (first | (refine wpAnyH_take (i := 4) (v := _) (by simp only [gA, gB, gC]; rfl) (by kernel_rfl) (by kernel_rfl) (by kernel_rfl) (by exact fun _ _ _ h => h) (yields_at (by rfl) _ rfl _ rfl (lab4 x.label) (fun _ q => q.1) hund rfl hsl) (by assumption) ?_) | (refine wpAnyH_take (i := 4) (v := undef) (by simp only [gA, gB, gC]; rfl) (by kernel_rfl) (by kernel_rfl) (by kernel_rfl) (by exact fun _ _ _ h => h) (Or.inr ⟨by rfl, rfl⟩) (by assumption) ?_) | fail); simp only [Act.put, sA, sB, sC]
        (first | (refine wpAnyH_take (i := 5) (v := _) (by simp only [gA, gB, gC]; rfl) (by kernel_rfl) (by kernel_rfl) (by kernel_rfl) (by exact fun _ _ _ h => h) (yields_row (by rfl) _ rfl w.heap.size rfl (lab4 t) (fun _ q => q.2.range) hund rfl hsl) (by assumption) ?_) | (refine wpAnyH_take (i := 5) (v := undef) (by simp only [gA, gB, gC]; rfl) (by kernel_rfl) (by kernel_rfl) (by kernel_rfl) (by exact fun _ _ _ h => h) (Or.inr ⟨by rfl, rfl⟩) (by assumption) ?_) | fail); simp only [Act.put, sA, sB, sC]
        (first | (refine wpAnyH_take (i := 6) (v := ?_) (by simp only [gA, gB, gC]; rfl) (by kernel_rfl) (by kernel_rfl) (by kernel_rfl) (by exact fun _ _ _ h => h) (Or.inl ⟨by rfl, ?_⟩) (by assumption) ?_; rotate_left; (focus (intro w hSw; (try dsimp only at hSw); go_simp; try with_reducible rfl))) | (refine wpAnyH_take (i := 6) (v := undef) (by simp only [gA, gB, gC]; rfl) (by kernel_rfl) (by kernel_rfl) (by kernel_rfl) (by exact fun _ _ _ h => h) (Or.inr ⟨by rfl, rfl⟩) (by assumption) ?_) | fail); simp only [Act.put, sA, sB, sC]
        refine wpAnyH_done (by kernel_rfl) ?_ _
        clear hS hnq
        go_wp2_with (first | (refine wpList_load_at rfl _ rfl (y.add (i * 9)) rfl (ecs x) hrd hundE rfl hse ?_) | (refine wpList_build1 ent_ok (by decide) rfl _ rfl (ecs x) rfl rfl ?_) | (refine wpList_append rfl _ _ rfl rfl rfl rfl hap ?_) | fail)
        exact ⟨⟨i + 1, v2, by omega, by simp, rfl, ho2, hB2⟩, by simp [Go.RowKit.intOf]; omega⟩
    · obtain rfl : i = n := by omega
      have htk : l.take i = l := List.take_of_length_le (by rw [hn.out]; exact Nat.le_refl _)
      rw [htk] at ho
      have ho3 := ho.lower (b := w.heap.size) (by omega)
      have hfin := Below.then hB0 hB
      clear ho
      go_wp2_with fail
      go_ret
      exact ⟨_, rfl, ho3, hfin⟩
set_option maxHeartbeats 1000000 in
theorem raFull_any (a : Option Addr) (cap : Nat) (l : List Ent) (t : Lab) (hl : l.length ≤ 10000) (w : World) (h : RowE w a l) :
    Calls Tryz.prog 16 #[.slice a l.length cap, t.v] w fun e w' => e = .returned (.bool (audFull l t)) ∧ Below w.heap.size w w' := by
  have hB0 := alloc_below w (.cells (lab4 t).toArray 28)
  have ka := raAll_any a cap l t hl _ (h.below ent_ok.len hB0)
  obtain ⟨R, hR⟩ : ∃ R, audAll l t = R := ⟨_, rfl⟩
  have hf : audFull l t = decide (40 ≤ R.length) := by unfold audFull; rw [hR]
  rw [hf]
  rw [hR] at ka
  obtain ⟨k, hk⟩ : ∃ k, R.length = k := ⟨_, rfl⟩
  rw [hk]
  obtain ⟨b, hb⟩ : ∃ b, decide (40 ≤ k) = b := ⟨_, rfl⟩
  rw [hb]
  clear hf hR
  obtain ⟨n, hn⟩ : ∃ n, l.length = n := ⟨_, rfl⟩
  rw [hn] at ka ⊢
  clear hn
  go_enter Tryz.func16, Tryz.ntmps16
  go_wp2_with fail
  refine ka.mono ?_
  rintro e W1 ⟨v, rfl, ho, hB1⟩
  obtain ⟨ra, rc, rfl, -, -, -⟩ := OwnR.slice ent_ok.len ho
  rw [hk]
  have hB01 := Below.then hB0 hB1
  clear ho hk
  by_cases h40 : 40 ≤ k
  · have i1 : (40 : Int) ≤ (k : Int) := by omega
    obtain rfl : b = true := hb.symm.trans (decide_eq_true h40)
    clear hb
    go_wp2_with fail
    go_ret
    exact ⟨rfl, hB01⟩
  · have i1 : decide ((40 : Int) ≤ (k : Int)) = false := decide_eq_false (by omega)
    obtain rfl : b = false := hb.symm.trans (decide_eq_false h40)
    clear hb
    go_wp2_with fail
    go_ret
    exact ⟨rfl, hB01⟩
--MORE
set_option maxRecDepth 8000 in
set_option maxHeartbeats 4000000 in
theorem raMay_any (e : Ent) (w : World) :
    Calls Tryz.prog 22 #[.agg (ecs e).toArray] w fun r w' => r = .returned (.int .i64 (audMay e)) ∧ Below w.heap.size w w' := by
  have hundL := Tryz.underlying28
  have hsl : (Tryz.prog.info? 28).map (·.size) = some 4 := by kernel_rfl
  have hb0 := blkl_alloc w (ecs e).toArray 31
  have hB0 := alloc_below w (.cells (ecs e).toArray 31)
  replace hb0 : BlkL w.heap.size (ecs e) (w.alloc (.cells (ecs e).toArray 31)) := hb0
  have hcl := ebox_lab hb0
  have z2 := (hb0.1 5 _ rfl).1
  have z3 := (hb0.1 6 _ rfl).1
  have z4 := (hb0.1 7 _ rfl).1
  have z5 := (hb0.1 8 _ rfl).1
  have kc := fun W => rlcheck_any e.label W
  obtain ⟨M, hM⟩ : ∃ M, audMay e = M := ⟨_, rfl⟩
  rw [hM]
  unfold audMay at hM
  obtain ⟨ce, hce⟩ : ∃ ce, chkL e.label = ce := ⟨_, rfl⟩
  rw [hce] at kc hM
  clear hce hb0
  have hcs : ecs e = [.int .i64 e.seq, .int .i64 e.label.s, .int .i64 e.label.c, .int .i64 e.label.i, .int .i64 e.label.k, .string e.user, .int .i64 e.verb, .string e.object, .int .i64 e.verdict] := rfl
  rw [hcs] at hcl z2 z3 z4 z5 hB0 ⊢
  clear hcs
  by_cases h0 : ce = 0
  rotate_left
  · obtain rfl : M = 1 := hM.symm.trans (if_pos (by omega))
    clear hM
    go_enter Tryz.func22, Tryz.ntmps22
    go_upto_region 1 with fail
    generalize w.alloc (.cells #[.int .i64 e.seq, .int .i64 e.label.s, .int .i64 e.label.c, .int .i64 e.label.i, .int .i64 e.label.k, .string e.user, .int .i64 e.verb, .string e.object, .int .i64 e.verdict] 31) = W0 at *
    go_wp2_with (first | (refine wpList_load_at rfl _ rfl ⟨w.heap.size, 1, none⟩ rfl (lab4 e.label) hcl hundL rfl hsl ?_) | fail)
    refine (kc W0).mono ?_
    rintro r W1 ⟨rfl, hB1⟩
    have hB := Below.then hB0 hB1
    have z2 := (hB1.cell (World.block_lt_of_cell? _ _ z2)).trans z2
    have z3 := (hB1.cell (World.block_lt_of_cell? _ _ z3)).trans z3
    have z4 := (hB1.cell (World.block_lt_of_cell? _ _ z4)).trans z4
    have z5 := (hB1.cell (World.block_lt_of_cell? _ _ z5)).trans z5
    go_wp2_with fail
    go_ret
    exact ⟨rfl, hB⟩
  subst h0
  by_cases h1 : 1 ≤ e.verb
  rotate_left
  · obtain rfl : M = 1 := hM.symm.trans (if_pos (by omega))
    have g1 : e.verb < 1 := by omega
    clear hM
    go_enter Tryz.func22, Tryz.ntmps22
    go_upto_region 1 with fail
    generalize w.alloc (.cells #[.int .i64 e.seq, .int .i64 e.label.s, .int .i64 e.label.c, .int .i64 e.label.i, .int .i64 e.label.k, .string e.user, .int .i64 e.verb, .string e.object, .int .i64 e.verdict] 31) = W0 at *
    go_wp2_with (first | (refine wpList_load_at rfl _ rfl ⟨w.heap.size, 1, none⟩ rfl (lab4 e.label) hcl hundL rfl hsl ?_) | fail)
    refine (kc W0).mono ?_
    rintro r W1 ⟨rfl, hB1⟩
    have hB := Below.then hB0 hB1
    have z2 := (hB1.cell (World.block_lt_of_cell? _ _ z2)).trans z2
    have z3 := (hB1.cell (World.block_lt_of_cell? _ _ z3)).trans z3
    have z4 := (hB1.cell (World.block_lt_of_cell? _ _ z4)).trans z4
    have z5 := (hB1.cell (World.block_lt_of_cell? _ _ z5)).trans z5
    go_wp2_with fail
    go_ret
    exact ⟨rfl, hB⟩
  have g1 : ¬ e.verb < 1 := by omega
  by_cases h2 : e.verb ≤ 14
  rotate_left
  · obtain rfl : M = 1 := hM.symm.trans (if_pos (by omega))
    have g2 : 14 < e.verb := by omega
    clear hM
    go_enter Tryz.func22, Tryz.ntmps22
    go_upto_region 1 with fail
    generalize w.alloc (.cells #[.int .i64 e.seq, .int .i64 e.label.s, .int .i64 e.label.c, .int .i64 e.label.i, .int .i64 e.label.k, .string e.user, .int .i64 e.verb, .string e.object, .int .i64 e.verdict] 31) = W0 at *
    go_wp2_with (first | (refine wpList_load_at rfl _ rfl ⟨w.heap.size, 1, none⟩ rfl (lab4 e.label) hcl hundL rfl hsl ?_) | fail)
    refine (kc W0).mono ?_
    rintro r W1 ⟨rfl, hB1⟩
    have hB := Below.then hB0 hB1
    have z2 := (hB1.cell (World.block_lt_of_cell? _ _ z2)).trans z2
    have z3 := (hB1.cell (World.block_lt_of_cell? _ _ z3)).trans z3
    have z4 := (hB1.cell (World.block_lt_of_cell? _ _ z4)).trans z4
    have z5 := (hB1.cell (World.block_lt_of_cell? _ _ z5)).trans z5
    go_wp2_with fail
    go_ret
    exact ⟨rfl, hB⟩
  have g2 : ¬ 14 < e.verb := by omega
  by_cases h3 : e.user.size ≤ 78
  rotate_left
  · obtain rfl : M = 1 := hM.symm.trans (if_pos (by omega))
    have g3 : (78 : Int) < (e.user.size : Int) := by omega
    clear hM
    go_enter Tryz.func22, Tryz.ntmps22
    go_upto_region 1 with fail
    generalize w.alloc (.cells #[.int .i64 e.seq, .int .i64 e.label.s, .int .i64 e.label.c, .int .i64 e.label.i, .int .i64 e.label.k, .string e.user, .int .i64 e.verb, .string e.object, .int .i64 e.verdict] 31) = W0 at *
    go_wp2_with (first | (refine wpList_load_at rfl _ rfl ⟨w.heap.size, 1, none⟩ rfl (lab4 e.label) hcl hundL rfl hsl ?_) | fail)
    refine (kc W0).mono ?_
    rintro r W1 ⟨rfl, hB1⟩
    have hB := Below.then hB0 hB1
    have z2 := (hB1.cell (World.block_lt_of_cell? _ _ z2)).trans z2
    have z3 := (hB1.cell (World.block_lt_of_cell? _ _ z3)).trans z3
    have z4 := (hB1.cell (World.block_lt_of_cell? _ _ z4)).trans z4
    have z5 := (hB1.cell (World.block_lt_of_cell? _ _ z5)).trans z5
    go_wp2_with fail
    go_ret
    exact ⟨rfl, hB⟩
  have g3 : ¬ (78 : Int) < (e.user.size : Int) := by omega
  by_cases h4 : e.object.size ≤ 78
  rotate_left
  · obtain rfl : M = 1 := hM.symm.trans (if_pos (by omega))
    have g4 : (78 : Int) < (e.object.size : Int) := by omega
    clear hM
    go_enter Tryz.func22, Tryz.ntmps22
    go_upto_region 1 with fail
    generalize w.alloc (.cells #[.int .i64 e.seq, .int .i64 e.label.s, .int .i64 e.label.c, .int .i64 e.label.i, .int .i64 e.label.k, .string e.user, .int .i64 e.verb, .string e.object, .int .i64 e.verdict] 31) = W0 at *
    go_wp2_with (first | (refine wpList_load_at rfl _ rfl ⟨w.heap.size, 1, none⟩ rfl (lab4 e.label) hcl hundL rfl hsl ?_) | fail)
    refine (kc W0).mono ?_
    rintro r W1 ⟨rfl, hB1⟩
    have hB := Below.then hB0 hB1
    have z2 := (hB1.cell (World.block_lt_of_cell? _ _ z2)).trans z2
    have z3 := (hB1.cell (World.block_lt_of_cell? _ _ z3)).trans z3
    have z4 := (hB1.cell (World.block_lt_of_cell? _ _ z4)).trans z4
    have z5 := (hB1.cell (World.block_lt_of_cell? _ _ z5)).trans z5
    go_wp2_with fail
    go_ret
    exact ⟨rfl, hB⟩
  have g4 : ¬ (78 : Int) < (e.object.size : Int) := by omega
  by_cases h5 : 0 ≤ e.verdict
  rotate_left
  · obtain rfl : M = 1 := hM.symm.trans (if_pos (by omega))
    have g5 : e.verdict < 0 := by omega
    clear hM
    go_enter Tryz.func22, Tryz.ntmps22
    go_upto_region 1 with fail
    generalize w.alloc (.cells #[.int .i64 e.seq, .int .i64 e.label.s, .int .i64 e.label.c, .int .i64 e.label.i, .int .i64 e.label.k, .string e.user, .int .i64 e.verb, .string e.object, .int .i64 e.verdict] 31) = W0 at *
    go_wp2_with (first | (refine wpList_load_at rfl _ rfl ⟨w.heap.size, 1, none⟩ rfl (lab4 e.label) hcl hundL rfl hsl ?_) | fail)
    refine (kc W0).mono ?_
    rintro r W1 ⟨rfl, hB1⟩
    have hB := Below.then hB0 hB1
    have z2 := (hB1.cell (World.block_lt_of_cell? _ _ z2)).trans z2
    have z3 := (hB1.cell (World.block_lt_of_cell? _ _ z3)).trans z3
    have z4 := (hB1.cell (World.block_lt_of_cell? _ _ z4)).trans z4
    have z5 := (hB1.cell (World.block_lt_of_cell? _ _ z5)).trans z5
    go_wp2_with fail
    go_ret
    exact ⟨rfl, hB⟩
  have g5 : ¬ e.verdict < 0 := by omega
  by_cases h6 : e.verdict ≤ 255
  rotate_left
  · obtain rfl : M = 1 := hM.symm.trans (if_pos (by omega))
    have g6 : 255 < e.verdict := by omega
    clear hM
    go_enter Tryz.func22, Tryz.ntmps22
    go_upto_region 1 with fail
    generalize w.alloc (.cells #[.int .i64 e.seq, .int .i64 e.label.s, .int .i64 e.label.c, .int .i64 e.label.i, .int .i64 e.label.k, .string e.user, .int .i64 e.verb, .string e.object, .int .i64 e.verdict] 31) = W0 at *
    go_wp2_with (first | (refine wpList_load_at rfl _ rfl ⟨w.heap.size, 1, none⟩ rfl (lab4 e.label) hcl hundL rfl hsl ?_) | fail)
    refine (kc W0).mono ?_
    rintro r W1 ⟨rfl, hB1⟩
    have hB := Below.then hB0 hB1
    have z2 := (hB1.cell (World.block_lt_of_cell? _ _ z2)).trans z2
    have z3 := (hB1.cell (World.block_lt_of_cell? _ _ z3)).trans z3
    have z4 := (hB1.cell (World.block_lt_of_cell? _ _ z4)).trans z4
    have z5 := (hB1.cell (World.block_lt_of_cell? _ _ z5)).trans z5
    go_wp2_with fail
    go_ret
    exact ⟨rfl, hB⟩
  have g6 : ¬ 255 < e.verdict := by omega
  obtain rfl : M = 0 := hM.symm.trans (if_neg (by omega))
  clear hM
  go_enter Tryz.func22, Tryz.ntmps22
  go_upto_region 1 with fail
  generalize w.alloc (.cells #[.int .i64 e.seq, .int .i64 e.label.s, .int .i64 e.label.c, .int .i64 e.label.i, .int .i64 e.label.k, .string e.user, .int .i64 e.verb, .string e.object, .int .i64 e.verdict] 31) = W0 at *
  go_wp2_with (first | (refine wpList_load_at rfl _ rfl ⟨w.heap.size, 1, none⟩ rfl (lab4 e.label) hcl hundL rfl hsl ?_) | fail)
  refine (kc W0).mono ?_
  rintro r W1 ⟨rfl, hB1⟩
  have hB := Below.then hB0 hB1
  have z2 := (hB1.cell (World.block_lt_of_cell? _ _ z2)).trans z2
  have z3 := (hB1.cell (World.block_lt_of_cell? _ _ z3)).trans z3
  have z4 := (hB1.cell (World.block_lt_of_cell? _ _ z4)).trans z4
  have z5 := (hB1.cell (World.block_lt_of_cell? _ _ z5)).trans z5
  go_wp2_with fail
  go_ret
  exact ⟨rfl, hB⟩
set_option maxHeartbeats 4000000 in
theorem raSeen_any (a : Option Addr) (cap : Nat) (l : List Ent) (t : Lab) (hl : l.length ≤ 10000) (w : World) (h : RowE w a l) :
    Calls Tryz.prog 14 #[.slice a l.length cap, t.v] w fun e w' => ∃ v, e = .returned v ∧ OwnE w' w.heap.size v (audSeen l t) ∧ Below w.heap.size w w' := by
  have hund := Tryz.underlying28
  have hundE := Tryz.underlying31
  have hsl : (Tryz.prog.info? 28).map (·.size) = some 4 := by kernel_rfl
  have hse : (Tryz.prog.info? 31).map (·.size) = some 9 := by kernel_rfl
  have hb0 := blkl_alloc w (lab4 t).toArray 28
  have hB0 := alloc_below w (.cells (lab4 t).toArray 28)
  replace hb0 : BlkL w.heap.size (lab4 t) (w.alloc (.cells (lab4 t).toArray 28)) := hb0
  obtain ⟨n, hn⟩ : ∃ n, l.length = n := ⟨_, rfl⟩
  have hfl := fun i => filter_lenE l (fun e => rov t e.label) i
  rw [hn] at hl hfl ⊢
  replace hn : Aside (l.length = n) := hn
  go_enter Tryz.func14, Tryz.ntmps14
  go_wp2_with fail
  generalize w.alloc (.cells #[.int .i64 t.s, .int .i64 t.c, .int .i64 t.i, .int .i64 t.k] 28) = W0 at *
  have hz0 : w.heap.size + 1 ≤ W0.heap.size := hb0.2
  go_loopw [5, 6] (fun t5 t6 wr => ∃ (i : Nat) (v : Value), i ≤ n ∧ t6 = .int .i64 (i : Int) ∧ v = t5 ∧ OwnE wr W0.heap.size v ((l.take i).filter fun e => rov t e.label) ∧ Below W0.heap.size W0 wr) (fun _ t6 _ => n - (Go.RowKit.intOf t6).toNat)
  case atStart => exact ⟨0, _, by omega, rfl, rfl, OwnR.nil _ _ _ _ _, Below.refl _ _⟩
  case round =>
    obtain ⟨i, v, hi, rfl, rfl, ho, hB⟩ := hrel
    by_cases hlt : i < n
    · obtain ⟨x, hx⟩ : ∃ x, l[i]? = some x := ⟨_, List.getElem?_eq_getElem (by rw [hn.out]; exact hlt)⟩
      have hBw := Below.then hB0 hB
      obtain ⟨y, rfl, -⟩ := h i x hx
      have hrow : ∀ W, Below W0.heap.size W0 W → CellsAt W (y.add (i * 9)) (ecs x) := fun W q => (h.below ent_ok.len (Below.then hB0 q)).at ent_ok.len hx
      have hstep := filter_stepE (p := fun e => rov t e.label) hx
      have hbd := (Below.refl wr.heap.size wr).drew
      have hBd := Below.then hB hbd
      have hod := ho.below hbd
      have hS : (fun W => Below W0.heap.size W0 W) wr.drew := hBd
      have kv := rlover_any t x.label
      have i1 : (i : Int) < (n : Int) := by omega
      clear hx hbd ho
      cases he : rov t x.label
      · rw [he, if_neg (by decide), List.append_nil] at hstep
        rw [he] at kv
        rw [← hstep] at hod
        replace hstep : Aside _ := hstep
        go_wp2_with fail
        refine wp_region_held_drew (S := (fun W => Below W0.heap.size W0 W)) (by kernel_rfl) (by first | exact hS1 | exact hS) ?_
        intro hHeld
        (first | (refine wpAnyH_take (i := 0) (v := _) (by simp only [gA, gB, gC]; rfl) (by kernel_rfl) (by kernel_rfl) (by kernel_rfl) (by exact fun _ _ _ h => h) (yields_row (by rfl) _ rfl w.heap.size rfl (lab4 t) (fun _ q => (stab_blk _ _ _ _ hb0 q).range) hund rfl hsl) (by assumption) ?_) | (refine wpAnyH_take (i := 0) (v := undef) (by simp only [gA, gB, gC]; rfl) (by kernel_rfl) (by kernel_rfl) (by kernel_rfl) (by exact fun _ _ _ h => h) (Or.inr ⟨by rfl, rfl⟩) (by assumption) ?_) | fail); simp only [Act.put, sA, sB, sC]
        (first | (refine wpAnyH_take (i := 1) (v := ?_) (by simp only [gA, gB, gC]; rfl) (by kernel_rfl) (by kernel_rfl) (by kernel_rfl) (by exact fun _ _ _ h => h) (Or.inl ⟨by rfl, ?_⟩) (by assumption) ?_; rotate_left; (focus (intro w hSw; (try dsimp only at hSw); go_simp; try with_reducible rfl))) | (refine wpAnyH_take (i := 1) (v := undef) (by simp only [gA, gB, gC]; rfl) (by kernel_rfl) (by kernel_rfl) (by kernel_rfl) (by exact fun _ _ _ h => h) (Or.inr ⟨by rfl, rfl⟩) (by assumption) ?_) | fail); simp only [Act.put, sA, sB, sC]
        (first | (refine wpAnyH_take (i := 2) (v := ?_) (by simp only [gA, gB, gC]; rfl) (by kernel_rfl) (by kernel_rfl) (by kernel_rfl) (by exact fun _ _ _ h => h) (Or.inl ⟨by rfl, ?_⟩) (by assumption) ?_; rotate_left; (focus (intro w hSw; (try dsimp only at hSw); go_simp; try with_reducible rfl))) | (refine wpAnyH_take (i := 2) (v := undef) (by simp only [gA, gB, gC]; rfl) (by kernel_rfl) (by kernel_rfl) (by kernel_rfl) (by exact fun _ _ _ h => h) (Or.inr ⟨by rfl, rfl⟩) (by assumption) ?_) | fail); simp only [Act.put, sA, sB, sC]
        (first | (refine wpAnyH_take (i := 3) (v := ?_) (by simp only [gA, gB, gC]; rfl) (by kernel_rfl) (by kernel_rfl) (by kernel_rfl) (by exact fun _ _ _ h => h) (Or.inl ⟨by rfl, ?_⟩) (by assumption) ?_; rotate_left; (focus (intro w hSw; (try dsimp only at hSw); go_simp; try with_reducible rfl))) | (refine wpAnyH_take (i := 3) (v := undef) (by simp only [gA, gB, gC]; rfl) (by kernel_rfl) (by kernel_rfl) (by kernel_rfl) (by exact fun _ _ _ h => h) (Or.inr ⟨by rfl, rfl⟩) (by assumption) ?_) | fail); simp only [Act.put, sA, sB, sC]
        (first | (refine wpAnyH_take (i := 4) (v := ?_) (by simp only [gA, gB, gC]; rfl) (by kernel_rfl) (by kernel_rfl) (by kernel_rfl) (by exact fun _ _ _ h => h) (Or.inl ⟨by rfl, ?_⟩) (by assumption) ?_; rotate_left; (focus (intro w hSw; (try dsimp only at hSw); go_simp; try with_reducible rfl))) | (refine wpAnyH_take (i := 4) (v := undef) (by simp only [gA, gB, gC]; rfl) (by kernel_rfl) (by kernel_rfl) (by kernel_rfl) (by exact fun _ _ _ h => h) (Or.inr ⟨by rfl, rfl⟩) (by assumption) ?_) | fail); simp only [Act.put, sA, sB, sC]
        (first | (refine wpAnyH_take (i := 5) (v := _) (by simp only [gA, gB, gC]; rfl) (by kernel_rfl) (by kernel_rfl) (by kernel_rfl) (by exact fun _ _ _ h => h) (yields_at (by rfl) _ rfl _ rfl (lab4 x.label) (fun W q => ent_lab (hrow W q)) hund rfl hsl) (by assumption) ?_) | (refine wpAnyH_take (i := 5) (v := undef) (by simp only [gA, gB, gC]; rfl) (by kernel_rfl) (by kernel_rfl) (by kernel_rfl) (by exact fun _ _ _ h => h) (Or.inr ⟨by rfl, rfl⟩) (by assumption) ?_) | fail); simp only [Act.put, sA, sB, sC]
        first | (refine wpAnyH_take (i := 6) (v := undef) (by simp only [gA, gB, gC]; rfl) (by kernel_rfl) (by kernel_rfl) (by kernel_rfl) (by exact fun _ _ _ h => h) (Or.inr ⟨by rfl, rfl⟩) (by assumption) ?_; simp only [Act.put, sA, sB, sC]) | (refine wpAnyH_ready (rs := [6]) (by kernel_rfl) (by simp) ?_; refine AllReadyH.cons (by simp only [gA, gB, gC]; rfl) (fun K hK => ?_) AllReadyH.nil; go_simp; (first | (go_at_call 30; refine (kv wr.drew).mono ?_; rintro e W1 ⟨rfl, hB1⟩; have hS1 : (fun W => Below W0.heap.size W0 W) W1 := Below.then hS hB1)); refine hK.out _ _ (by first | exact hS1 | exact hS) ?_; clear hHeld hK; intro hHeld; (try simp only [Act.put, sA, sB, sC])) | fail
        refine wpAnyH_done (by kernel_rfl) ?_ _
        have ho1 := hod.below hB1
        go_wp2_with fail
        exact ⟨⟨i + 1, v, by omega, by simp, rfl, ho1, hS1⟩, by simp [Go.RowKit.intOf]; omega⟩
      · rw [he, if_pos rfl] at hstep
        rw [he] at kv
        replace hstep : Aside _ := hstep
        go_wp2_with fail
        refine wp_region_held_drew (S := (fun W => Below W0.heap.size W0 W)) (by kernel_rfl) (by first | exact hS1 | exact hS) ?_
        intro hHeld
        (first | (refine wpAnyH_take (i := 0) (v := _) (by simp only [gA, gB, gC]; rfl) (by kernel_rfl) (by kernel_rfl) (by kernel_rfl) (by exact fun _ _ _ h => h) (yields_row (by rfl) _ rfl w.heap.size rfl (lab4 t) (fun _ q => (stab_blk _ _ _ _ hb0 q).range) hund rfl hsl) (by assumption) ?_) | (refine wpAnyH_take (i := 0) (v := undef) (by simp only [gA, gB, gC]; rfl) (by kernel_rfl) (by kernel_rfl) (by kernel_rfl) (by exact fun _ _ _ h => h) (Or.inr ⟨by rfl, rfl⟩) (by assumption) ?_) | fail); simp only [Act.put, sA, sB, sC]
        (first | (refine wpAnyH_take (i := 1) (v := ?_) (by simp only [gA, gB, gC]; rfl) (by kernel_rfl) (by kernel_rfl) (by kernel_rfl) (by exact fun _ _ _ h => h) (Or.inl ⟨by rfl, ?_⟩) (by assumption) ?_; rotate_left; (focus (intro w hSw; (try dsimp only at hSw); go_simp; try with_reducible rfl))) | (refine wpAnyH_take (i := 1) (v := undef) (by simp only [gA, gB, gC]; rfl) (by kernel_rfl) (by kernel_rfl) (by kernel_rfl) (by exact fun _ _ _ h => h) (Or.inr ⟨by rfl, rfl⟩) (by assumption) ?_) | fail); simp only [Act.put, sA, sB, sC]
        (first | (refine wpAnyH_take (i := 2) (v := ?_) (by simp only [gA, gB, gC]; rfl) (by kernel_rfl) (by kernel_rfl) (by kernel_rfl) (by exact fun _ _ _ h => h) (Or.inl ⟨by rfl, ?_⟩) (by assumption) ?_; rotate_left; (focus (intro w hSw; (try dsimp only at hSw); go_simp; try with_reducible rfl))) | (refine wpAnyH_take (i := 2) (v := undef) (by simp only [gA, gB, gC]; rfl) (by kernel_rfl) (by kernel_rfl) (by kernel_rfl) (by exact fun _ _ _ h => h) (Or.inr ⟨by rfl, rfl⟩) (by assumption) ?_) | fail); simp only [Act.put, sA, sB, sC]
        (first | (refine wpAnyH_take (i := 3) (v := ?_) (by simp only [gA, gB, gC]; rfl) (by kernel_rfl) (by kernel_rfl) (by kernel_rfl) (by exact fun _ _ _ h => h) (Or.inl ⟨by rfl, ?_⟩) (by assumption) ?_; rotate_left; (focus (intro w hSw; (try dsimp only at hSw); go_simp; try with_reducible rfl))) | (refine wpAnyH_take (i := 3) (v := undef) (by simp only [gA, gB, gC]; rfl) (by kernel_rfl) (by kernel_rfl) (by kernel_rfl) (by exact fun _ _ _ h => h) (Or.inr ⟨by rfl, rfl⟩) (by assumption) ?_) | fail); simp only [Act.put, sA, sB, sC]
        (first | (refine wpAnyH_take (i := 4) (v := ?_) (by simp only [gA, gB, gC]; rfl) (by kernel_rfl) (by kernel_rfl) (by kernel_rfl) (by exact fun _ _ _ h => h) (Or.inl ⟨by rfl, ?_⟩) (by assumption) ?_; rotate_left; (focus (intro w hSw; (try dsimp only at hSw); go_simp; try with_reducible rfl))) | (refine wpAnyH_take (i := 4) (v := undef) (by simp only [gA, gB, gC]; rfl) (by kernel_rfl) (by kernel_rfl) (by kernel_rfl) (by exact fun _ _ _ h => h) (Or.inr ⟨by rfl, rfl⟩) (by assumption) ?_) | fail); simp only [Act.put, sA, sB, sC]
        (first | (refine wpAnyH_take (i := 5) (v := _) (by simp only [gA, gB, gC]; rfl) (by kernel_rfl) (by kernel_rfl) (by kernel_rfl) (by exact fun _ _ _ h => h) (yields_at (by rfl) _ rfl _ rfl (lab4 x.label) (fun W q => ent_lab (hrow W q)) hund rfl hsl) (by assumption) ?_) | (refine wpAnyH_take (i := 5) (v := undef) (by simp only [gA, gB, gC]; rfl) (by kernel_rfl) (by kernel_rfl) (by kernel_rfl) (by exact fun _ _ _ h => h) (Or.inr ⟨by rfl, rfl⟩) (by assumption) ?_) | fail); simp only [Act.put, sA, sB, sC]
        first | (refine wpAnyH_take (i := 6) (v := undef) (by simp only [gA, gB, gC]; rfl) (by kernel_rfl) (by kernel_rfl) (by kernel_rfl) (by exact fun _ _ _ h => h) (Or.inr ⟨by rfl, rfl⟩) (by assumption) ?_; simp only [Act.put, sA, sB, sC]) | (refine wpAnyH_ready (rs := [6]) (by kernel_rfl) (by simp) ?_; refine AllReadyH.cons (by simp only [gA, gB, gC]; rfl) (fun K hK => ?_) AllReadyH.nil; go_simp; (first | (go_at_call 30; refine (kv wr.drew).mono ?_; rintro e W1 ⟨rfl, hB1⟩; have hS1 : (fun W => Below W0.heap.size W0 W) W1 := Below.then hS hB1)); refine hK.out _ _ (by first | exact hS1 | exact hS) ?_; clear hHeld hK; intro hHeld; (try simp only [Act.put, sA, sB, sC])) | fail
        refine wpAnyH_done (by kernel_rfl) ?_ _
        have ho1 := hod.below hB1
        have hrd := hrow W1 hS1
        obtain ⟨v2, W2, hap, ho2, hg2⟩ := OwnR.push ent_ok ho1 hS1.size x (ecs x).toArray rfl 31 (by have := hfl i; omega)
        have hb2 := ho1.grew_below hS1.size hg2
        have hB2 := Below.trans hS1 hb2
        rw [← hstep.out] at ho2
        clear hod ho1 hg2 hb2 hS hS1 kv
        go_wp2_with (first | (refine wpList_load_at rfl _ rfl (y.add (i * 9)) rfl (ecs x) hrd hundE rfl hse ?_) | (refine wpList_build1 ent_ok (by decide) rfl _ rfl (ecs x) rfl rfl ?_) | (refine wpList_append rfl _ _ rfl rfl rfl rfl hap ?_) | fail)
        exact ⟨⟨i + 1, v2, by omega, by simp, rfl, ho2, hB2⟩, by simp [Go.RowKit.intOf]; omega⟩
    · obtain rfl : i = n := by omega
      have htk : l.take i = l := List.take_of_length_le (by rw [hn.out]; exact Nat.le_refl _)
      rw [htk] at ho
      have ho3 := ho.lower (b := w.heap.size) (by omega)
      have hfin := Below.then hB0 hB
      clear ho
      go_wp2_with fail
      go_ret
      exact ⟨_, rfl, ho3, hfin⟩
theorem fold_take {α : Type} {l : List Ent} {f : α → Ent → α} {a : α} {i : Nat} {x : Ent} (h : l[i]? = some x) : (l.take (i + 1)).foldl f a = f ((l.take i).foldl f a) x := by
  rw [List.take_add_one, h, List.foldl_append]
  rfl
theorem foldA_lt (l : List Ent) (i : Nat) : (l.take i).foldl (fun h e => chain h (encE e)) (ofN 0 []) < 18446744073709551616 := by
  have : ∀ (xs : List Ent) (h : Nat), h < 18446744073709551616 → xs.foldl (fun h e => chain h (encE e)) h < 18446744073709551616 := fun xs => by
    induction xs with
    | nil => exact fun h hh => hh
    | cons x r ih => exact fun h hh => ih _ (chain_ltA _ _ hh)
  exact this _ _ (chain_ltA _ _ (chain_ltA _ _ (by decide)))
theorem enc_len {e : Ent} (h : e.Small) : (encE e).length ≤ 1000000 := by
  have h1 := h.u
  have h2 := h.o
  unfold encE encT encL encW
  simp [saltTo_len]
  omega
set_option maxHeartbeats 4000000 in
theorem raChain_any (a : Option Addr) (cap : Nat) (l : List Ent) (t : Lab) (hl : l.length ≤ 10000) (hs : ∀ e ∈ l, e.Small) (w : World) (h : RowE w a l) :
    Calls Tryz.prog 18 #[.slice a l.length cap, t.v] w fun e w' => e = .returned (.int .u64 ((audChain l t : Nat) : Int)) ∧ Below w.heap.size w w' := by
  have hundL := Tryz.underlying28
  have hundE := Tryz.underlying31
  have hsl : (Tryz.prog.info? 28).map (·.size) = some 4 := by kernel_rfl
  have hse : (Tryz.prog.info? 31).map (·.size) = some 9 := by kernel_rfl
  have hb0 := blkl_alloc w (lab4 t).toArray 28
  have hB0 := alloc_below w (.cells (lab4 t).toArray 28)
  replace hb0 : BlkL w.heap.size (lab4 t) (w.alloc (.cells (lab4 t).toArray 28)) := hb0
  have ka := fun W (q : RowE W a l) => raAll_any a cap l t hl W q
  have kof := fun W => rof_any 0 (by decide) ⟨#[]⟩ (by decide) W
  obtain ⟨C, hC⟩ : ∃ C, audChain l t = C := ⟨_, rfl⟩
  rw [hC]
  unfold audChain at hC
  have hs2 : ∀ e ∈ audAll l t, e.Small := fun e he => hs e (List.mem_filter.1 he).1
  have hlA : (audAll l t).length ≤ 10000 := Nat.le_trans (List.length_filter_le _ _) hl
  obtain ⟨R, hR⟩ : ∃ R, audAll l t = R := ⟨_, rfl⟩
  rw [hR] at ka hC hs2 hlA
  clear hR hs
  have hlt := foldA_lt R
  obtain ⟨f, hf⟩ : ∃ f : Nat → Nat, f = fun i => (R.take i).foldl (fun h e => chain h (encE e)) (ofN 0 []) := ⟨_, rfl⟩
  have hf0 : f 0 = ofN 0 [] := by rw [hf]; rfl
  have hf1 : ∀ i x, R[i]? = some x → f (i + 1) = chain (f i) (encE x) := fun i x hx => by rw [hf]; exact fold_take hx
  have hfn : f R.length = C := by rw [hf]; show (R.take R.length).foldl _ _ = C; rw [List.take_length]; exact hC
  have hflt : ∀ i, f i < 18446744073709551616 := fun i => by rw [hf]; exact hlt i
  clear hf hlt hC
  replace kof : ∀ W, Calls Tryz.prog 34 #[.int .i64 0, .string ⟨#[]⟩] W fun e w' => e = .returned (.int .u64 ((f 0 : Nat) : Int)) ∧ Below W.heap.size W w' := fun W => by rw [hf0]; exact kof W
  obtain ⟨n, hn⟩ : ∃ n, l.length = n := ⟨_, rfl⟩
  rw [hn] at ka ⊢
  obtain ⟨k, hk⟩ : ∃ k, R.length = k := ⟨_, rfl⟩
  rw [hk] at hfn hlA
  clear hn hf0
  replace hk : Aside (R.length = k) := hk
  replace hfn : Aside (f k = C) := hfn
  have hrs := hb0.range
  go_enter Tryz.func18, Tryz.ntmps18
  go_upto_region 1 with fail
  generalize w.alloc (.cells #[.int .i64 t.s, .int .i64 t.c, .int .i64 t.i, .int .i64 t.k] 28) = W0 at *
  go_wp2_with fail
  refine (kof W0).mono ?_
  rintro e W1 ⟨rfl, hB1⟩
  have hr1 := (stab_blk _ _ _ _ hb0 hB1).range
  have hB01 := Below.then hB0 hB1
  go_wp2_with (first | (refine wpList_load_row rfl _ rfl w.heap.size rfl (lab4 t) hr1 hundL rfl hsl ?_) | fail)
  refine (ka W1 (h.below ent_ok.len hB01)).mono ?_
  rintro e W2 ⟨v, rfl, ho, hB2⟩
  obtain ⟨ra, rc, rfl, -, -, hrow⟩ := OwnR.slice ent_ok.len ho
  rw [hk.out]
  have hB02 := Below.then hB01 hB2
  clear ka kof hr1 hrs ho hB1 hB01 hB2 hb0
  go_wp2_with fail
  go_loopw [5, 7] (fun t5 t7 wr => ∃ i : Nat, i ≤ k ∧ t7 = .int .i64 (i : Int) ∧ t5 = .int .u64 ((f i : Nat) : Int) ∧ Below W2.heap.size W2 wr) (fun _ t7 _ => k - (Go.RowKit.intOf t7).toNat)
  case atStart => exact ⟨0, by omega, rfl, rfl, Below.refl _ _⟩
  case round =>
    obtain ⟨i, hi, rfl, rfl, hB⟩ := hrel
    by_cases hlt : i < k
    · obtain ⟨x, hx⟩ : ∃ x, R[i]? = some x := ⟨_, List.getElem?_eq_getElem (by rw [hk.out]; exact hlt)⟩
      obtain ⟨y, rfl, -⟩ := hrow i x hx
      have hrd := (hrow.below ent_ok.len hB).at ent_ok.len hx
      have hsm := hs2 x (List.mem_of_getElem? hx)
      have ke := rencE_any x hsm wr
      replace ke : Calls Tryz.prog 36 #[.agg (ecs x).toArray] wr _ := ke
      have hfx := hf1 i x hx
      have hel := enc_len hsm
      have hfi := hflt i
      obtain ⟨B, hBe⟩ : ∃ B, encE x = B := ⟨_, rfl⟩
      rw [hBe] at ke hfx hel
      obtain ⟨g, hg⟩ : ∃ g, f i = g := ⟨_, rfl⟩
      rw [hg] at hfx hfi ⊢
      have i1 : (i : Int) < (k : Int) := by omega
      clear hx hBe hg
      replace hfx : Aside _ := hfx
      go_wp2_with (first | (refine wpList_load_at rfl _ rfl (y.add (i * 9)) rfl (ecs x) hrd hundE rfl hse ?_) | fail)
      refine ke.mono ?_
      rintro e W4 ⟨v4, rfl, ho4, hB4⟩
      obtain ⟨ea, ec, rfl, hby⟩ := OwnB.slice ho4
      have kc := rchain_any ea B B.length ec g hel hfi W4 hby
      obtain ⟨bl, hbl⟩ : ∃ bl, B.length = bl := ⟨_, rfl⟩
      rw [hbl] at kc ⊢
      clear ke ho4 hby hbl
      have hB5 := Below.then hB hB4
      go_wp2_with fail
      refine kc.mono ?_
      rintro e w6 ⟨rfl, hw6⟩
      replace hw6 := hw6.symm
      subst hw6
      rw [← hfx.out]
      go_wp2_with fail
      exact ⟨⟨i + 1, by omega, by simp, rfl, hB5⟩, by simp [Go.RowKit.intOf]; omega⟩
    · obtain rfl : i = k := by omega
      have hfin := Below.then hB02 hB
      rw [hfn.out]
      go_wp2_with fail
      go_ret
      exact ⟨rfl, hfin⟩
theorem insE_tail (W : World) (a1 : Option Addr) (n c1 k : Nat) (m : List Ent) (x : Ent) (hn : m.length = n) (hk : k ≤ n) (hle : n ≤ c1) (hno : a1 = none → c1 = 0) (hn1 : n ≤ 100000) (hr : RowE W a1 m) :
    ∃ A1 A2 v2 W2 v3 W3 v4 W4, (∀ X, (Instr.slice 22 (.slice a1 n c1) none (some (.int .i64 (k : Int))) none).run Tryz.prog X = .ok (.slice A1 k c1) X) ∧ (∀ X, (Instr.slice 22 (.slice a1 n c1) (some (.int .i64 (k : Int))) none none).run Tryz.prog X = .ok (.slice A2 (n - k) (c1 - k)) X) ∧
      (Builtin.append_ #[22, 22] 22 #[.slice none 0 0, .slice A1 k c1]).run Tryz.prog W = .ok v2 W2 ∧ (Builtin.append_ #[22, 22] 22 #[v2, .slice (some ⟨W2.heap.size, 0, none⟩) 1 1]).run Tryz.prog (W2.alloc (.cells (ecs x).toArray 31)) = .ok v3 W3 ∧
      (Builtin.append_ #[22, 22] 22 #[v3, .slice A2 (n - k) (c1 - k)]).run Tryz.prog W3 = .ok v4 W4 ∧ Below W.heap.size W W2 ∧ OwnE W4 W.heap.size v4 (m.take k ++ x :: m.drop k) ∧ Below W.heap.size W W4 := by
  obtain ⟨A1, hs1, hn1', hr1'⟩ := rows_take ent_ok (by kernel_rfl) a1 n c1 k hk hle
  obtain ⟨A2, hs2, hn2', hr2'⟩ := rows_drop ent_ok (by kernel_rfl) a1 n c1 k hk hle
  have hlt3 : (m.take k).length = k := by rw [List.length_take, hn]; omega
  have hlt4 : (m.drop k).length = n - k := by rw [List.length_drop, hn]
  have ho0 : OwnE W W.heap.size (.slice none 0 0) [] := OwnR.nil _ _ _ _ _
  obtain ⟨v2, W2, hap2, ho2, hg2⟩ := OwnR.append_any ent_ok ho0 (Nat.le_refl _) A1 k c1 (m.take k) hlt3 (hr1' _ _ hr) (fun q => by have := hno (hn1' q); omega) (by simp) (by omega)
  rw [List.nil_append] at ho2
  have hb2 := ho0.grew_below (Nat.le_refl _) hg2
  obtain ⟨v3, W3, hap3, ho3, hg3⟩ := OwnR.push ent_ok ho2 hb2.size x (ecs x).toArray rfl 31 (by rw [hlt3]; omega)
  have hb3 := ho2.grew_below hb2.size hg3
  have hB3 := hb2.trans hb3
  obtain ⟨v4, W4, hap4, ho4, hg4⟩ := OwnR.append_any ent_ok ho3 hB3.size A2 (n - k) (c1 - k) (m.drop k) hlt4 (hr2' _ _ hn (hr.below ent_ok.len hB3)) (fun q => by have := hno (hn2' q); omega) (by simp [hlt3]; omega) (by omega)
  have hb4 := ho3.grew_below hB3.size hg4
  refine ⟨A1, A2, v2, W2, v3, W3, v4, W4, hs1, hs2, hap2, hap3, hap4, hb2, ?_, hB3.trans hb4⟩
  simpa using ho4
theorem set_seq (W : World) (g : Nat) (e : Ent) (s : Int) (h : BlkL g (ecs e) W) : BlkL g (ecs { e with seq := s }) (W.setCell ⟨g, 0, none⟩ (.int .i64 s)) := by
  have h1 := h.1.set 0 (.int .i64 s) (by simp [ecs])
  exact ⟨h1, h1.lt rfl⟩
set_option maxRecDepth 8000 in
set_option maxHeartbeats 8000000 in
theorem raAdd_any (a : Option Addr) (cap : Nat) (l : List Ent) (e : Ent) (hl : l.length ≤ 10000) (hcap : l.length ≤ cap) (hno : a = none → cap = 0) (w : World) (h : RowE w a l) :
    Calls Tryz.prog 7 #[.slice a l.length cap, .agg (ecs e).toArray] w fun r w' => ∃ a2 c2, r = .returned (.tuple #[.slice a2 (audAdd l e).length c2, .int .i64 (audErr l e)]) ∧ (audAdd l e).length ≤ c2 ∧ (a2 = none → c2 = 0) ∧ RowE w' a2 (audAdd l e) ∧ Below w.heap.size w w' ∧ (a2 = a ∨ ∀ y, a2 = some y → w.heap.size ≤ y.block ∧ y.block < w'.heap.size) := by
  have hundL := Tryz.underlying28
  have hundE := Tryz.underlying31
  have hsl : (Tryz.prog.info? 28).map (·.size) = some 4 := by kernel_rfl
  have hse : (Tryz.prog.info? 31).map (·.size) = some 9 := by kernel_rfl
  have hb0 := blkl_alloc w (ecs e).toArray 31
  have hB0 := alloc_below w (.cells (ecs e).toArray 31)
  replace hb0 : BlkL w.heap.size (ecs e) (w.alloc (.cells (ecs e).toArray 31)) := hb0
  have km := fun W => raMay_any e W
  have kf := fun W (q : RowE W a l) => raFull_any a cap l e.label hl W q
  have ka := fun W (q : RowE W a l) => raAll_any a cap l e.label hl W q
  have hcs : ecs e = [.int .i64 e.seq, .int .i64 e.label.s, .int .i64 e.label.c, .int .i64 e.label.i, .int .i64 e.label.k, .string e.user, .int .i64 e.verb, .string e.object, .int .i64 e.verdict] := rfl
  obtain ⟨E, hE⟩ : ∃ E, audErr l e = E := ⟨_, rfl⟩
  obtain ⟨N, hN⟩ : ∃ N, audAdd l e = N := ⟨_, rfl⟩
  rw [hE, hN]
  unfold audAdd at hN
  rw [hE] at hN
  unfold audErr at hE
  obtain ⟨M, hM⟩ : ∃ M, audMay e = M := ⟨_, rfl⟩
  rw [hM] at hE km
  obtain ⟨F, hF⟩ : ∃ F, audFull l e.label = F := ⟨_, rfl⟩
  rw [hF] at hE kf
  have hnx : audNext l e = { e with seq := (((audAll l e.label).length + 1 : Nat) : Int) } := rfl
  rw [hnx] at hN
  have hql : (audAll l e.label).length ≤ 10000 := Nat.le_trans (List.length_filter_le _ _) hl
  obtain ⟨q, hq⟩ : ∃ q, (audAll l e.label).length = q := ⟨_, rfl⟩
  rw [hq] at hN hql
  obtain ⟨n, hn⟩ : ∃ n, l.length = n := ⟨_, rfl⟩
  rw [hn] at kf ka hcap hl ⊢
  replace hn : Aside (l.length = n) := hn
  replace hq : Aside ((audAll l e.label).length = q) := hq
  clear hM hF hnx
  rw [hcs] at hB0 hb0 ⊢
  go_enter Tryz.func7, Tryz.ntmps7
  go_upto_region 1 with fail
  generalize w.alloc (.cells ([.int .i64 e.seq, .int .i64 e.label.s, .int .i64 e.label.c, .int .i64 e.label.i, .int .i64 e.label.k, .string e.user, .int .i64 e.verb, .string e.object, .int .i64 e.verdict]).toArray 31) = W0 at *
  rw [← hcs] at hb0
  clear hcs
  have hr0 := hb0.range
  go_wp2_with (first | (refine wpList_load_row rfl _ rfl w.heap.size rfl (ecs e) hr0 hundE rfl hse ?_) | fail)
  refine (km W0).mono ?_
  rintro r W1 ⟨rfl, hB1⟩
  have hB01 := Below.then hB0 hB1
  have hb1 := stab_blk _ _ _ _ hb0 hB1
  clear hr0 hb0 km
  by_cases hM0 : M = 0
  rotate_left
  · rw [if_pos hM0] at hE
    subst hE
    rw [if_neg (by decide)] at hN
    subst hN
    have hrow := h.below ent_ok.len hB01
    clear kf ka
    go_wp2_with fail
    refine bodyPost_ret (v := .tuple #[.slice a n cap, .int .i64 1]) (by simp [results, Tryz.results7, go_sem]) rfl ?_
    exact ⟨a, cap, by rw [hn.out], by rw [hn.out]; exact hcap, hno, hrow, hB01, .inl rfl⟩
  subst hM0
  rw [if_neg (by simp)] at hE
  have hcl := ebox_lab hb1
  go_wp2_with (first | (refine wpList_load_at rfl _ rfl ⟨w.heap.size, 1, none⟩ rfl (lab4 e.label) hcl hundL rfl hsl ?_) | fail)
  refine (kf W1 (h.below ent_ok.len hB01)).mono ?_
  rintro r W2 ⟨rfl, hB2⟩
  have hB02 := Below.then hB01 hB2
  have hb2 := stab_blk _ _ _ _ hb1 hB2
  clear hcl hb1 kf hB01
  cases F
  rotate_left
  · rw [if_pos rfl] at hE
    subst hE
    rw [if_neg (by decide)] at hN
    subst hN
    have hrow := h.below ent_ok.len hB02
    clear ka
    go_wp2_with fail
    refine bodyPost_ret (v := .tuple #[.slice a n cap, .int .i64 18]) (by simp [results, Tryz.results7, go_sem]) rfl ?_
    exact ⟨a, cap, by rw [hn.out], by rw [hn.out]; exact hcap, hno, hrow, hB02, .inl rfl⟩
  rw [if_neg (by decide)] at hE
  subst hE
  rw [if_pos rfl] at hN
  have hcl := ebox_lab hb2
  go_wp2_with (first | (refine wpList_load_at rfl _ rfl ⟨w.heap.size, 1, none⟩ rfl (lab4 e.label) hcl hundL rfl hsl ?_) | fail)
  refine (ka W2 (h.below ent_ok.len hB02)).mono ?_
  rintro r W3 ⟨v3, rfl, ho3, hB3⟩
  obtain ⟨a3, c3, rfl, -, -, -⟩ := OwnR.slice ent_ok.len ho3
  rw [hq.out]
  have hB03 := Below.then hB02 hB3
  have hb3 := stab_blk _ _ _ _ hb2 hB3
  clear hcl hb2 ka hB02 ho3
  have hb4 := set_seq W3 w.heap.size e (((q + 1 : Nat)) : Int) hb3
  have hB04 : Below w.heap.size w (W3.setCell ⟨w.heap.size, 0, none⟩ (.int .i64 ((q + 1 : Nat) : Int))) := hB03.setCell (p := ⟨w.heap.size, 0, none⟩) (Nat.le_refl _) _
  rw [show (((q + 1 : Nat)) : Int) = (q : Int) + 1 by omega] at hb4 hB04 hN
  obtain ⟨k30, k31⟩ := hb3.1 0 _ rfl
  obtain ⟨x, hx⟩ : ∃ x, x = { e with seq := (q : Int) + 1 } := ⟨_, rfl⟩
  rw [← hx] at hb4 hN
  clear hb3 hB03 hx
  go_upto_region 6 with fail
  generalize W3.setCell ⟨w.heap.size, 0, none⟩ (.int .i64 ((q : Int) + 1)) = Z at *
  clear k30 k31
  unfold audIns at hN
  replace hN : Aside _ := hN
  go_wp2_with fail
  go_loopw [6] (fun t6 wr => ∃ k : Nat, k ≤ n ∧ t6 = .int .i64 (k : Int) ∧ Aside (∀ y ∈ l.take k, lessL x.label y.label = false) ∧ Below Z.heap.size Z wr) (fun t6 _ => n - (Go.RowKit.intOf t6).toNat)
  case atStart => exact ⟨0, by omega, rfl, (fun y hy => by simp at hy), Below.refl _ _⟩
  case round =>
    obtain ⟨k, hk, rfl, hall, hB⟩ := hrel
    have hbd := (Below.refl wr.heap.size wr).drew
    have hBd := Below.then hB hbd
    have hS : (fun W => Below Z.heap.size Z W) wr.drew := hBd
    by_cases hlt : k < n
    · obtain ⟨z, hz⟩ : ∃ z, l[k]? = some z := ⟨_, List.getElem?_eq_getElem (by rw [hn.out]; exact hlt)⟩
      obtain ⟨y, rfl, -⟩ := h k z hz
      have hrow : ∀ W, Below Z.heap.size Z W → CellsAt W (y.add (k * 9)) (ecs z) := fun W q => (h.below ent_ok.len (Below.then hB04 q)).at ent_ok.len hz
      have kv := rlless_any x.label z.label
      have i1 : (k : Int) < (n : Int) := by omega
      clear hbd
      cases hle : lessL x.label z.label
      · rw [hle] at kv
        have hall2 : Aside (∀ y ∈ l.take (k + 1), lessL x.label y.label = false) := fun u hu => by
          rw [List.take_add_one, hz, List.mem_append] at hu
          rcases hu with hu | hu
          · exact hall.out u hu
          · simp at hu
            rw [hu]
            exact hle
        clear hall hz
        go_wp2_with fail
        refine wp_region_held_drew (S := (fun W => Below Z.heap.size Z W)) (by kernel_rfl) (by first | exact hS1 | exact hS) ?_
        intro hHeld
        (first | (refine wpAnyH_take (i := 0) (v := ?_) (by simp only [gA, gB, gC]; rfl) (by kernel_rfl) (by kernel_rfl) (by kernel_rfl) (by exact fun _ _ _ h => h) (Or.inl ⟨by rfl, ?_⟩) (by assumption) ?_; rotate_left; (focus (intro w hSw; (try dsimp only at hSw); go_simp; try with_reducible rfl))) | (refine wpAnyH_take (i := 0) (v := undef) (by simp only [gA, gB, gC]; rfl) (by kernel_rfl) (by kernel_rfl) (by kernel_rfl) (by exact fun _ _ _ h => h) (Or.inr ⟨by rfl, rfl⟩) (by assumption) ?_) | fail); simp only [Act.put, sA, sB, sC, Bool.not_false, Bool.not_true]
        (first | (refine wpAnyH_take (i := 1) (v := ?_) (by simp only [gA, gB, gC]; rfl) (by kernel_rfl) (by kernel_rfl) (by kernel_rfl) (by exact fun _ _ _ h => h) (Or.inl ⟨by rfl, ?_⟩) (by assumption) ?_; rotate_left; (focus (intro w hSw; (try dsimp only at hSw); go_simp; try with_reducible rfl))) | (refine wpAnyH_take (i := 1) (v := undef) (by simp only [gA, gB, gC]; rfl) (by kernel_rfl) (by kernel_rfl) (by kernel_rfl) (by exact fun _ _ _ h => h) (Or.inr ⟨by rfl, rfl⟩) (by assumption) ?_) | fail); simp only [Act.put, sA, sB, sC, Bool.not_false, Bool.not_true]
        (first | (refine wpAnyH_take (i := 2) (v := ?_) (by simp only [gA, gB, gC]; rfl) (by kernel_rfl) (by kernel_rfl) (by kernel_rfl) (by exact fun _ _ _ h => h) (Or.inl ⟨by rfl, ?_⟩) (by assumption) ?_; rotate_left; (focus (intro w hSw; (try dsimp only at hSw); go_simp; try with_reducible rfl))) | (refine wpAnyH_take (i := 2) (v := undef) (by simp only [gA, gB, gC]; rfl) (by kernel_rfl) (by kernel_rfl) (by kernel_rfl) (by exact fun _ _ _ h => h) (Or.inr ⟨by rfl, rfl⟩) (by assumption) ?_) | fail); simp only [Act.put, sA, sB, sC, Bool.not_false, Bool.not_true]
        (first | (refine wpAnyH_take (i := 3) (v := ?_) (by simp only [gA, gB, gC]; rfl) (by kernel_rfl) (by kernel_rfl) (by kernel_rfl) (by exact fun _ _ _ h => h) (Or.inl ⟨by rfl, ?_⟩) (by assumption) ?_; rotate_left; (focus (intro w hSw; (try dsimp only at hSw); go_simp; try with_reducible rfl))) | (refine wpAnyH_take (i := 3) (v := undef) (by simp only [gA, gB, gC]; rfl) (by kernel_rfl) (by kernel_rfl) (by kernel_rfl) (by exact fun _ _ _ h => h) (Or.inr ⟨by rfl, rfl⟩) (by assumption) ?_) | fail); simp only [Act.put, sA, sB, sC, Bool.not_false, Bool.not_true]
        (first | (refine wpAnyH_take (i := 4) (v := ?_) (by simp only [gA, gB, gC]; rfl) (by kernel_rfl) (by kernel_rfl) (by kernel_rfl) (by exact fun _ _ _ h => h) (Or.inl ⟨by rfl, ?_⟩) (by assumption) ?_; rotate_left; (focus (intro w hSw; (try dsimp only at hSw); go_simp; try with_reducible rfl))) | (refine wpAnyH_take (i := 4) (v := undef) (by simp only [gA, gB, gC]; rfl) (by kernel_rfl) (by kernel_rfl) (by kernel_rfl) (by exact fun _ _ _ h => h) (Or.inr ⟨by rfl, rfl⟩) (by assumption) ?_) | fail); simp only [Act.put, sA, sB, sC, Bool.not_false, Bool.not_true]
        (first | (refine wpAnyH_take (i := 5) (v := ?_) (by simp only [gA, gB, gC]; rfl) (by kernel_rfl) (by kernel_rfl) (by kernel_rfl) (by exact fun _ _ _ h => h) (Or.inl ⟨by rfl, ?_⟩) (by assumption) ?_; rotate_left; (focus (intro w hSw; (try dsimp only at hSw); go_simp; try with_reducible rfl))) | (refine wpAnyH_take (i := 5) (v := undef) (by simp only [gA, gB, gC]; rfl) (by kernel_rfl) (by kernel_rfl) (by kernel_rfl) (by exact fun _ _ _ h => h) (Or.inr ⟨by rfl, rfl⟩) (by assumption) ?_) | fail); simp only [Act.put, sA, sB, sC, Bool.not_false, Bool.not_true]
        (first | (refine wpAnyH_take (i := 6) (v := _) (by simp only [gA, gB, gC]; rfl) (by kernel_rfl) (by kernel_rfl) (by kernel_rfl) (by exact fun _ _ _ h => h) (yields_at (by rfl) _ rfl ⟨w.heap.size, 1, none⟩ rfl (lab4 x.label) (fun _ q => ebox_lab (stab_blk _ _ _ _ hb4 q)) hundL rfl hsl) (by assumption) ?_) | (refine wpAnyH_take (i := 6) (v := undef) (by simp only [gA, gB, gC]; rfl) (by kernel_rfl) (by kernel_rfl) (by kernel_rfl) (by exact fun _ _ _ h => h) (Or.inr ⟨by rfl, rfl⟩) (by assumption) ?_) | fail); simp only [Act.put, sA, sB, sC, Bool.not_false, Bool.not_true]
        (first | (refine wpAnyH_take (i := 7) (v := ?_) (by simp only [gA, gB, gC]; rfl) (by kernel_rfl) (by kernel_rfl) (by kernel_rfl) (by exact fun _ _ _ h => h) (Or.inl ⟨by rfl, ?_⟩) (by assumption) ?_; rotate_left; (focus (intro w hSw; (try dsimp only at hSw); go_simp; try with_reducible rfl))) | (refine wpAnyH_take (i := 7) (v := undef) (by simp only [gA, gB, gC]; rfl) (by kernel_rfl) (by kernel_rfl) (by kernel_rfl) (by exact fun _ _ _ h => h) (Or.inr ⟨by rfl, rfl⟩) (by assumption) ?_) | fail); simp only [Act.put, sA, sB, sC, Bool.not_false, Bool.not_true]
        (first | (refine wpAnyH_take (i := 8) (v := ?_) (by simp only [gA, gB, gC]; rfl) (by kernel_rfl) (by kernel_rfl) (by kernel_rfl) (by exact fun _ _ _ h => h) (Or.inl ⟨by rfl, ?_⟩) (by assumption) ?_; rotate_left; (focus (intro w hSw; (try dsimp only at hSw); go_simp; try with_reducible rfl))) | (refine wpAnyH_take (i := 8) (v := undef) (by simp only [gA, gB, gC]; rfl) (by kernel_rfl) (by kernel_rfl) (by kernel_rfl) (by exact fun _ _ _ h => h) (Or.inr ⟨by rfl, rfl⟩) (by assumption) ?_) | fail); simp only [Act.put, sA, sB, sC, Bool.not_false, Bool.not_true]
        (first | (refine wpAnyH_take (i := 9) (v := ?_) (by simp only [gA, gB, gC]; rfl) (by kernel_rfl) (by kernel_rfl) (by kernel_rfl) (by exact fun _ _ _ h => h) (Or.inl ⟨by rfl, ?_⟩) (by assumption) ?_; rotate_left; (focus (intro w hSw; (try dsimp only at hSw); go_simp; try with_reducible rfl))) | (refine wpAnyH_take (i := 9) (v := undef) (by simp only [gA, gB, gC]; rfl) (by kernel_rfl) (by kernel_rfl) (by kernel_rfl) (by exact fun _ _ _ h => h) (Or.inr ⟨by rfl, rfl⟩) (by assumption) ?_) | fail); simp only [Act.put, sA, sB, sC, Bool.not_false, Bool.not_true]
        (first | (refine wpAnyH_take (i := 10) (v := ?_) (by simp only [gA, gB, gC]; rfl) (by kernel_rfl) (by kernel_rfl) (by kernel_rfl) (by exact fun _ _ _ h => h) (Or.inl ⟨by rfl, ?_⟩) (by assumption) ?_; rotate_left; (focus (intro w hSw; (try dsimp only at hSw); go_simp; try with_reducible rfl))) | (refine wpAnyH_take (i := 10) (v := undef) (by simp only [gA, gB, gC]; rfl) (by kernel_rfl) (by kernel_rfl) (by kernel_rfl) (by exact fun _ _ _ h => h) (Or.inr ⟨by rfl, rfl⟩) (by assumption) ?_) | fail); simp only [Act.put, sA, sB, sC, Bool.not_false, Bool.not_true]
        (first | (refine wpAnyH_take (i := 11) (v := _) (by simp only [gA, gB, gC]; rfl) (by kernel_rfl) (by kernel_rfl) (by kernel_rfl) (by exact fun _ _ _ h => h) (yields_at (by rfl) _ rfl _ rfl (lab4 z.label) (fun W q => ent_lab (hrow W q)) hundL rfl hsl) (by assumption) ?_) | (refine wpAnyH_take (i := 11) (v := undef) (by simp only [gA, gB, gC]; rfl) (by kernel_rfl) (by kernel_rfl) (by kernel_rfl) (by exact fun _ _ _ h => h) (Or.inr ⟨by rfl, rfl⟩) (by assumption) ?_) | fail); simp only [Act.put, sA, sB, sC, Bool.not_false, Bool.not_true]
        first | (refine wpAnyH_take (i := 12) (v := undef) (by simp only [gA, gB, gC]; rfl) (by kernel_rfl) (by kernel_rfl) (by kernel_rfl) (by exact fun _ _ _ h => h) (Or.inr ⟨by rfl, rfl⟩) (by assumption) ?_; simp only [Act.put, sA, sB, sC, Bool.not_false, Bool.not_true]) | (refine wpAnyH_ready (rs := [12]) (by kernel_rfl) (by simp) ?_; refine AllReadyH.cons (by simp only [gA, gB, gC]; rfl) (fun K hK => ?_) AllReadyH.nil; go_simp; (first | (go_at_call 23; refine (kv _).mono ?_; rintro e W1 ⟨rfl, hB1⟩; have hS1 : (fun W => Below Z.heap.size Z W) W1 := Below.then hS hB1)); refine hK.out _ _ (by first | exact hS1 | exact hS) ?_; clear hHeld hK; intro hHeld; (try simp only [Act.put, sA, sB, sC, Bool.not_false, Bool.not_true])) | fail
        (first | (refine wpAnyH_take (i := 13) (v := ?_) (by simp only [gA, gB, gC]; rfl) (by kernel_rfl) (by kernel_rfl) (by kernel_rfl) (by exact fun _ _ _ h => h) (Or.inl ⟨by rfl, ?_⟩) (by assumption) ?_; rotate_left; (focus (intro w hSw; (try dsimp only at hSw); go_simp; try with_reducible rfl))) | (refine wpAnyH_take (i := 13) (v := undef) (by simp only [gA, gB, gC]; rfl) (by kernel_rfl) (by kernel_rfl) (by kernel_rfl) (by exact fun _ _ _ h => h) (Or.inr ⟨by rfl, rfl⟩) (by assumption) ?_) | fail); simp only [Act.put, sA, sB, sC, Bool.not_false, Bool.not_true]
        (first | (refine wpAnyH_take (i := 14) (v := ?_) (by simp only [gA, gB, gC]; rfl) (by kernel_rfl) (by kernel_rfl) (by kernel_rfl) (by exact fun _ _ _ h => h) (Or.inl ⟨by rfl, ?_⟩) (by assumption) ?_; rotate_left; (focus (intro w hSw; (try dsimp only at hSw); go_simp; try with_reducible rfl))) | (refine wpAnyH_take (i := 14) (v := undef) (by simp only [gA, gB, gC]; rfl) (by kernel_rfl) (by kernel_rfl) (by kernel_rfl) (by exact fun _ _ _ h => h) (Or.inr ⟨by rfl, rfl⟩) (by assumption) ?_) | fail); simp only [Act.put, sA, sB, sC, Bool.not_false, Bool.not_true]
        refine wpAnyH_done (by kernel_rfl) ?_ _
        go_wp2_with fail
        exact ⟨⟨k + 1, by omega, by simp, hall2, hS1⟩, by simp [Go.RowKit.intOf]; omega⟩
      · rw [hle] at kv
        obtain ⟨ht1, ht2⟩ := tw_take (f := fun y : Ent => !lessL x.label y.label) l k (fun u hu => by rw [hall.out u hu]; rfl) (fun u hu => by rw [hz] at hu; obtain rfl := Option.some.inj hu; rw [hle]; rfl)
        clear hz
        replace ht1 : Aside _ := ht1
        replace ht2 : Aside _ := ht2
        go_wp2_with fail
        refine wp_region_held_drew (S := (fun W => Below Z.heap.size Z W)) (by kernel_rfl) (by first | exact hS1 | exact hS) ?_
        intro hHeld
        (first | (refine wpAnyH_take (i := 0) (v := ?_) (by simp only [gA, gB, gC]; rfl) (by kernel_rfl) (by kernel_rfl) (by kernel_rfl) (by exact fun _ _ _ h => h) (Or.inl ⟨by rfl, ?_⟩) (by assumption) ?_; rotate_left; (focus (intro w hSw; (try dsimp only at hSw); go_simp; try with_reducible rfl))) | (refine wpAnyH_take (i := 0) (v := undef) (by simp only [gA, gB, gC]; rfl) (by kernel_rfl) (by kernel_rfl) (by kernel_rfl) (by exact fun _ _ _ h => h) (Or.inr ⟨by rfl, rfl⟩) (by assumption) ?_) | fail); simp only [Act.put, sA, sB, sC, Bool.not_false, Bool.not_true]
        (first | (refine wpAnyH_take (i := 1) (v := ?_) (by simp only [gA, gB, gC]; rfl) (by kernel_rfl) (by kernel_rfl) (by kernel_rfl) (by exact fun _ _ _ h => h) (Or.inl ⟨by rfl, ?_⟩) (by assumption) ?_; rotate_left; (focus (intro w hSw; (try dsimp only at hSw); go_simp; try with_reducible rfl))) | (refine wpAnyH_take (i := 1) (v := undef) (by simp only [gA, gB, gC]; rfl) (by kernel_rfl) (by kernel_rfl) (by kernel_rfl) (by exact fun _ _ _ h => h) (Or.inr ⟨by rfl, rfl⟩) (by assumption) ?_) | fail); simp only [Act.put, sA, sB, sC, Bool.not_false, Bool.not_true]
        (first | (refine wpAnyH_take (i := 2) (v := ?_) (by simp only [gA, gB, gC]; rfl) (by kernel_rfl) (by kernel_rfl) (by kernel_rfl) (by exact fun _ _ _ h => h) (Or.inl ⟨by rfl, ?_⟩) (by assumption) ?_; rotate_left; (focus (intro w hSw; (try dsimp only at hSw); go_simp; try with_reducible rfl))) | (refine wpAnyH_take (i := 2) (v := undef) (by simp only [gA, gB, gC]; rfl) (by kernel_rfl) (by kernel_rfl) (by kernel_rfl) (by exact fun _ _ _ h => h) (Or.inr ⟨by rfl, rfl⟩) (by assumption) ?_) | fail); simp only [Act.put, sA, sB, sC, Bool.not_false, Bool.not_true]
        (first | (refine wpAnyH_take (i := 3) (v := ?_) (by simp only [gA, gB, gC]; rfl) (by kernel_rfl) (by kernel_rfl) (by kernel_rfl) (by exact fun _ _ _ h => h) (Or.inl ⟨by rfl, ?_⟩) (by assumption) ?_; rotate_left; (focus (intro w hSw; (try dsimp only at hSw); go_simp; try with_reducible rfl))) | (refine wpAnyH_take (i := 3) (v := undef) (by simp only [gA, gB, gC]; rfl) (by kernel_rfl) (by kernel_rfl) (by kernel_rfl) (by exact fun _ _ _ h => h) (Or.inr ⟨by rfl, rfl⟩) (by assumption) ?_) | fail); simp only [Act.put, sA, sB, sC, Bool.not_false, Bool.not_true]
        (first | (refine wpAnyH_take (i := 4) (v := ?_) (by simp only [gA, gB, gC]; rfl) (by kernel_rfl) (by kernel_rfl) (by kernel_rfl) (by exact fun _ _ _ h => h) (Or.inl ⟨by rfl, ?_⟩) (by assumption) ?_; rotate_left; (focus (intro w hSw; (try dsimp only at hSw); go_simp; try with_reducible rfl))) | (refine wpAnyH_take (i := 4) (v := undef) (by simp only [gA, gB, gC]; rfl) (by kernel_rfl) (by kernel_rfl) (by kernel_rfl) (by exact fun _ _ _ h => h) (Or.inr ⟨by rfl, rfl⟩) (by assumption) ?_) | fail); simp only [Act.put, sA, sB, sC, Bool.not_false, Bool.not_true]
        (first | (refine wpAnyH_take (i := 5) (v := ?_) (by simp only [gA, gB, gC]; rfl) (by kernel_rfl) (by kernel_rfl) (by kernel_rfl) (by exact fun _ _ _ h => h) (Or.inl ⟨by rfl, ?_⟩) (by assumption) ?_; rotate_left; (focus (intro w hSw; (try dsimp only at hSw); go_simp; try with_reducible rfl))) | (refine wpAnyH_take (i := 5) (v := undef) (by simp only [gA, gB, gC]; rfl) (by kernel_rfl) (by kernel_rfl) (by kernel_rfl) (by exact fun _ _ _ h => h) (Or.inr ⟨by rfl, rfl⟩) (by assumption) ?_) | fail); simp only [Act.put, sA, sB, sC, Bool.not_false, Bool.not_true]
        (first | (refine wpAnyH_take (i := 6) (v := _) (by simp only [gA, gB, gC]; rfl) (by kernel_rfl) (by kernel_rfl) (by kernel_rfl) (by exact fun _ _ _ h => h) (yields_at (by rfl) _ rfl ⟨w.heap.size, 1, none⟩ rfl (lab4 x.label) (fun _ q => ebox_lab (stab_blk _ _ _ _ hb4 q)) hundL rfl hsl) (by assumption) ?_) | (refine wpAnyH_take (i := 6) (v := undef) (by simp only [gA, gB, gC]; rfl) (by kernel_rfl) (by kernel_rfl) (by kernel_rfl) (by exact fun _ _ _ h => h) (Or.inr ⟨by rfl, rfl⟩) (by assumption) ?_) | fail); simp only [Act.put, sA, sB, sC, Bool.not_false, Bool.not_true]
        (first | (refine wpAnyH_take (i := 7) (v := ?_) (by simp only [gA, gB, gC]; rfl) (by kernel_rfl) (by kernel_rfl) (by kernel_rfl) (by exact fun _ _ _ h => h) (Or.inl ⟨by rfl, ?_⟩) (by assumption) ?_; rotate_left; (focus (intro w hSw; (try dsimp only at hSw); go_simp; try with_reducible rfl))) | (refine wpAnyH_take (i := 7) (v := undef) (by simp only [gA, gB, gC]; rfl) (by kernel_rfl) (by kernel_rfl) (by kernel_rfl) (by exact fun _ _ _ h => h) (Or.inr ⟨by rfl, rfl⟩) (by assumption) ?_) | fail); simp only [Act.put, sA, sB, sC, Bool.not_false, Bool.not_true]
        (first | (refine wpAnyH_take (i := 8) (v := ?_) (by simp only [gA, gB, gC]; rfl) (by kernel_rfl) (by kernel_rfl) (by kernel_rfl) (by exact fun _ _ _ h => h) (Or.inl ⟨by rfl, ?_⟩) (by assumption) ?_; rotate_left; (focus (intro w hSw; (try dsimp only at hSw); go_simp; try with_reducible rfl))) | (refine wpAnyH_take (i := 8) (v := undef) (by simp only [gA, gB, gC]; rfl) (by kernel_rfl) (by kernel_rfl) (by kernel_rfl) (by exact fun _ _ _ h => h) (Or.inr ⟨by rfl, rfl⟩) (by assumption) ?_) | fail); simp only [Act.put, sA, sB, sC, Bool.not_false, Bool.not_true]
        (first | (refine wpAnyH_take (i := 9) (v := ?_) (by simp only [gA, gB, gC]; rfl) (by kernel_rfl) (by kernel_rfl) (by kernel_rfl) (by exact fun _ _ _ h => h) (Or.inl ⟨by rfl, ?_⟩) (by assumption) ?_; rotate_left; (focus (intro w hSw; (try dsimp only at hSw); go_simp; try with_reducible rfl))) | (refine wpAnyH_take (i := 9) (v := undef) (by simp only [gA, gB, gC]; rfl) (by kernel_rfl) (by kernel_rfl) (by kernel_rfl) (by exact fun _ _ _ h => h) (Or.inr ⟨by rfl, rfl⟩) (by assumption) ?_) | fail); simp only [Act.put, sA, sB, sC, Bool.not_false, Bool.not_true]
        (first | (refine wpAnyH_take (i := 10) (v := ?_) (by simp only [gA, gB, gC]; rfl) (by kernel_rfl) (by kernel_rfl) (by kernel_rfl) (by exact fun _ _ _ h => h) (Or.inl ⟨by rfl, ?_⟩) (by assumption) ?_; rotate_left; (focus (intro w hSw; (try dsimp only at hSw); go_simp; try with_reducible rfl))) | (refine wpAnyH_take (i := 10) (v := undef) (by simp only [gA, gB, gC]; rfl) (by kernel_rfl) (by kernel_rfl) (by kernel_rfl) (by exact fun _ _ _ h => h) (Or.inr ⟨by rfl, rfl⟩) (by assumption) ?_) | fail); simp only [Act.put, sA, sB, sC, Bool.not_false, Bool.not_true]
        (first | (refine wpAnyH_take (i := 11) (v := _) (by simp only [gA, gB, gC]; rfl) (by kernel_rfl) (by kernel_rfl) (by kernel_rfl) (by exact fun _ _ _ h => h) (yields_at (by rfl) _ rfl _ rfl (lab4 z.label) (fun W q => ent_lab (hrow W q)) hundL rfl hsl) (by assumption) ?_) | (refine wpAnyH_take (i := 11) (v := undef) (by simp only [gA, gB, gC]; rfl) (by kernel_rfl) (by kernel_rfl) (by kernel_rfl) (by exact fun _ _ _ h => h) (Or.inr ⟨by rfl, rfl⟩) (by assumption) ?_) | fail); simp only [Act.put, sA, sB, sC, Bool.not_false, Bool.not_true]
        first | (refine wpAnyH_take (i := 12) (v := undef) (by simp only [gA, gB, gC]; rfl) (by kernel_rfl) (by kernel_rfl) (by kernel_rfl) (by exact fun _ _ _ h => h) (Or.inr ⟨by rfl, rfl⟩) (by assumption) ?_; simp only [Act.put, sA, sB, sC, Bool.not_false, Bool.not_true]) | (refine wpAnyH_ready (rs := [12]) (by kernel_rfl) (by simp) ?_; refine AllReadyH.cons (by simp only [gA, gB, gC]; rfl) (fun K hK => ?_) AllReadyH.nil; go_simp; (first | (go_at_call 23; refine (kv _).mono ?_; rintro e W1 ⟨rfl, hB1⟩; have hS1 : (fun W => Below Z.heap.size Z W) W1 := Below.then hS hB1)); refine hK.out _ _ (by first | exact hS1 | exact hS) ?_; clear hHeld hK; intro hHeld; (try simp only [Act.put, sA, sB, sC, Bool.not_false, Bool.not_true])) | fail
        (first | (refine wpAnyH_take (i := 13) (v := ?_) (by simp only [gA, gB, gC]; rfl) (by kernel_rfl) (by kernel_rfl) (by kernel_rfl) (by exact fun _ _ _ h => h) (Or.inl ⟨by rfl, ?_⟩) (by assumption) ?_; rotate_left; (focus (intro w hSw; (try dsimp only at hSw); go_simp; try with_reducible rfl))) | (refine wpAnyH_take (i := 13) (v := undef) (by simp only [gA, gB, gC]; rfl) (by kernel_rfl) (by kernel_rfl) (by kernel_rfl) (by exact fun _ _ _ h => h) (Or.inr ⟨by rfl, rfl⟩) (by assumption) ?_) | fail); simp only [Act.put, sA, sB, sC, Bool.not_false, Bool.not_true]
        (first | (refine wpAnyH_take (i := 14) (v := ?_) (by simp only [gA, gB, gC]; rfl) (by kernel_rfl) (by kernel_rfl) (by kernel_rfl) (by exact fun _ _ _ h => h) (Or.inl ⟨by rfl, ?_⟩) (by assumption) ?_; rotate_left; (focus (intro w hSw; (try dsimp only at hSw); go_simp; try with_reducible rfl))) | (refine wpAnyH_take (i := 14) (v := undef) (by simp only [gA, gB, gC]; rfl) (by kernel_rfl) (by kernel_rfl) (by kernel_rfl) (by exact fun _ _ _ h => h) (Or.inr ⟨by rfl, rfl⟩) (by assumption) ?_) | fail); simp only [Act.put, sA, sB, sC, Bool.not_false, Bool.not_true]
        refine wpAnyH_done (by kernel_rfl) ?_ _
        have hS2 : Below Z.heap.size Z W1 := hS1
        have hBz := Below.then hB04 hS2
        obtain ⟨A1, A2, v2, W2', v3, W3', v4, W4', hs1, hs2, hap2, hap3, hap4, hbe, ho4, hbf⟩ := insE_tail W1 (some y) n cap k l x hn.out hk hcap hno (by omega) (h.below ent_ok.len hBz)
        have hbx := stab_blk _ _ _ _ (stab_blk _ _ _ _ hb4 hS2) hbe
        have hrg := hbx.range
        rw [← ht1.out, ← ht2.out, hN.out] at ho4
        obtain ⟨a4, c4, rfl, hle4, hno4, hr4⟩ := OwnR.slice ent_ok.len ho4
        have how : ∀ y, a4 = some y → w.heap.size ≤ y.block ∧ y.block < W4'.heap.size := fun y q => by
          have := OwnR.lt ho4 (k := y.block) (by rw [q]; rfl)
          exact ⟨Nat.le_trans hBz.size this.1, this.2⟩
        have hfin := Below.then hBz hbf
        clear hbx hall ht1 ht2 hbe hbf ho4 hS hB hBd
        go_wp2_with (first | (refine wpList_load_row rfl _ rfl w.heap.size rfl (ecs x) hrg hundE rfl hse ?_) | (refine wpList_build1 ent_ok (by decide) rfl _ rfl (ecs x) rfl rfl ?_) | (refine wpList_append rfl _ _ rfl rfl rfl rfl hap2 ?_) | (refine wpList_append rfl _ _ rfl rfl rfl rfl hap3 ?_) | (refine wpList_append rfl _ _ rfl rfl rfl rfl hap4 ?_) | fail)
        refine bodyPost_ret (v := .tuple #[.slice a4 N.length c4, .int .i64 0]) (by simp [results, Tryz.results7, go_sem]) rfl ?_
        exact ⟨a4, c4, rfl, hle4, hno4, hr4, hfin, .inr how⟩
    · have i1 : ¬ (k : Int) < (n : Int) := by omega
      obtain ⟨ht1, ht2⟩ := tw_take (f := fun y : Ent => !lessL x.label y.label) l k (fun u hu => by rw [hall.out u hu]; rfl) (fun u hu => by have := (List.getElem?_eq_some_iff.1 hu).1; rw [hn.out] at this; omega)
      replace ht1 : Aside _ := ht1
      replace ht2 : Aside _ := ht2
      go_wp2_with fail
      refine wp_region_held_drew (S := (fun W => Below Z.heap.size Z W)) (by kernel_rfl) (by first | exact hS) ?_
      intro hHeld
      (first | (refine wpAnyH_take (i := 0) (v := ?_) (by simp only [gA, gB, gC]; rfl) (by kernel_rfl) (by kernel_rfl) (by kernel_rfl) (by exact fun _ _ _ h => h) (Or.inl ⟨by rfl, ?_⟩) (by assumption) ?_; rotate_left; (focus (intro w hSw; (try dsimp only at hSw); go_simp; try with_reducible rfl))) | (refine wpAnyH_take (i := 0) (v := undef) (by simp only [gA, gB, gC]; rfl) (by kernel_rfl) (by kernel_rfl) (by kernel_rfl) (by exact fun _ _ _ h => h) (Or.inr ⟨by rfl, rfl⟩) (by assumption) ?_) | fail); simp only [Act.put, sA, sB, sC]
      (first | (refine wpAnyH_take (i := 1) (v := ?_) (by simp only [gA, gB, gC]; rfl) (by kernel_rfl) (by kernel_rfl) (by kernel_rfl) (by exact fun _ _ _ h => h) (Or.inl ⟨by rfl, ?_⟩) (by assumption) ?_; rotate_left; (focus (intro w hSw; (try dsimp only at hSw); go_simp; try with_reducible rfl))) | (refine wpAnyH_take (i := 1) (v := undef) (by simp only [gA, gB, gC]; rfl) (by kernel_rfl) (by kernel_rfl) (by kernel_rfl) (by exact fun _ _ _ h => h) (Or.inr ⟨by rfl, rfl⟩) (by assumption) ?_) | fail); simp only [Act.put, sA, sB, sC]
      (first | (refine wpAnyH_take (i := 2) (v := ?_) (by simp only [gA, gB, gC]; rfl) (by kernel_rfl) (by kernel_rfl) (by kernel_rfl) (by exact fun _ _ _ h => h) (Or.inl ⟨by rfl, ?_⟩) (by assumption) ?_; rotate_left; (focus (intro w hSw; (try dsimp only at hSw); go_simp; try with_reducible rfl))) | (refine wpAnyH_take (i := 2) (v := undef) (by simp only [gA, gB, gC]; rfl) (by kernel_rfl) (by kernel_rfl) (by kernel_rfl) (by exact fun _ _ _ h => h) (Or.inr ⟨by rfl, rfl⟩) (by assumption) ?_) | fail); simp only [Act.put, sA, sB, sC]
      (first | (refine wpAnyH_take (i := 3) (v := ?_) (by simp only [gA, gB, gC]; rfl) (by kernel_rfl) (by kernel_rfl) (by kernel_rfl) (by exact fun _ _ _ h => h) (Or.inl ⟨by rfl, ?_⟩) (by assumption) ?_; rotate_left; (focus (intro w hSw; (try dsimp only at hSw); go_simp; try with_reducible rfl))) | (refine wpAnyH_take (i := 3) (v := undef) (by simp only [gA, gB, gC]; rfl) (by kernel_rfl) (by kernel_rfl) (by kernel_rfl) (by exact fun _ _ _ h => h) (Or.inr ⟨by rfl, rfl⟩) (by assumption) ?_) | fail); simp only [Act.put, sA, sB, sC]
      (first | (refine wpAnyH_take (i := 4) (v := ?_) (by simp only [gA, gB, gC]; rfl) (by kernel_rfl) (by kernel_rfl) (by kernel_rfl) (by exact fun _ _ _ h => h) (Or.inl ⟨by rfl, ?_⟩) (by assumption) ?_; rotate_left; (focus (intro w hSw; (try dsimp only at hSw); go_simp; try with_reducible rfl))) | (refine wpAnyH_take (i := 4) (v := undef) (by simp only [gA, gB, gC]; rfl) (by kernel_rfl) (by kernel_rfl) (by kernel_rfl) (by exact fun _ _ _ h => h) (Or.inr ⟨by rfl, rfl⟩) (by assumption) ?_) | fail); simp only [Act.put, sA, sB, sC]
      (first | (refine wpAnyH_take (i := 5) (v := ?_) (by simp only [gA, gB, gC]; rfl) (by kernel_rfl) (by kernel_rfl) (by kernel_rfl) (by exact fun _ _ _ h => h) (Or.inl ⟨by rfl, ?_⟩) (by assumption) ?_; rotate_left; (focus (intro w hSw; (try dsimp only at hSw); go_simp; try with_reducible rfl))) | (refine wpAnyH_take (i := 5) (v := undef) (by simp only [gA, gB, gC]; rfl) (by kernel_rfl) (by kernel_rfl) (by kernel_rfl) (by exact fun _ _ _ h => h) (Or.inr ⟨by rfl, rfl⟩) (by assumption) ?_) | fail); simp only [Act.put, sA, sB, sC]
      (first | (refine wpAnyH_take (i := 6) (v := ?_) (by simp only [gA, gB, gC]; rfl) (by kernel_rfl) (by kernel_rfl) (by kernel_rfl) (by exact fun _ _ _ h => h) (Or.inl ⟨by rfl, ?_⟩) (by assumption) ?_; rotate_left; (focus (intro w hSw; (try dsimp only at hSw); go_simp; try with_reducible rfl))) | (refine wpAnyH_take (i := 6) (v := undef) (by simp only [gA, gB, gC]; rfl) (by kernel_rfl) (by kernel_rfl) (by kernel_rfl) (by exact fun _ _ _ h => h) (Or.inr ⟨by rfl, rfl⟩) (by assumption) ?_) | fail); simp only [Act.put, sA, sB, sC]
      (first | (refine wpAnyH_take (i := 7) (v := ?_) (by simp only [gA, gB, gC]; rfl) (by kernel_rfl) (by kernel_rfl) (by kernel_rfl) (by exact fun _ _ _ h => h) (Or.inl ⟨by rfl, ?_⟩) (by assumption) ?_; rotate_left; (focus (intro w hSw; (try dsimp only at hSw); go_simp; try with_reducible rfl))) | (refine wpAnyH_take (i := 7) (v := undef) (by simp only [gA, gB, gC]; rfl) (by kernel_rfl) (by kernel_rfl) (by kernel_rfl) (by exact fun _ _ _ h => h) (Or.inr ⟨by rfl, rfl⟩) (by assumption) ?_) | fail); simp only [Act.put, sA, sB, sC]
      (first | (refine wpAnyH_take (i := 8) (v := ?_) (by simp only [gA, gB, gC]; rfl) (by kernel_rfl) (by kernel_rfl) (by kernel_rfl) (by exact fun _ _ _ h => h) (Or.inl ⟨by rfl, ?_⟩) (by assumption) ?_; rotate_left; (focus (intro w hSw; (try dsimp only at hSw); go_simp; try with_reducible rfl))) | (refine wpAnyH_take (i := 8) (v := undef) (by simp only [gA, gB, gC]; rfl) (by kernel_rfl) (by kernel_rfl) (by kernel_rfl) (by exact fun _ _ _ h => h) (Or.inr ⟨by rfl, rfl⟩) (by assumption) ?_) | fail); simp only [Act.put, sA, sB, sC]
      (first | (refine wpAnyH_take (i := 9) (v := ?_) (by simp only [gA, gB, gC]; rfl) (by kernel_rfl) (by kernel_rfl) (by kernel_rfl) (by exact fun _ _ _ h => h) (Or.inl ⟨by rfl, ?_⟩) (by assumption) ?_; rotate_left; (focus (intro w hSw; (try dsimp only at hSw); go_simp; try with_reducible rfl))) | (refine wpAnyH_take (i := 9) (v := undef) (by simp only [gA, gB, gC]; rfl) (by kernel_rfl) (by kernel_rfl) (by kernel_rfl) (by exact fun _ _ _ h => h) (Or.inr ⟨by rfl, rfl⟩) (by assumption) ?_) | fail); simp only [Act.put, sA, sB, sC]
      (first | (refine wpAnyH_take (i := 10) (v := ?_) (by simp only [gA, gB, gC]; rfl) (by kernel_rfl) (by kernel_rfl) (by kernel_rfl) (by exact fun _ _ _ h => h) (Or.inl ⟨by rfl, ?_⟩) (by assumption) ?_; rotate_left; (focus (intro w hSw; (try dsimp only at hSw); go_simp; try with_reducible rfl))) | (refine wpAnyH_take (i := 10) (v := undef) (by simp only [gA, gB, gC]; rfl) (by kernel_rfl) (by kernel_rfl) (by kernel_rfl) (by exact fun _ _ _ h => h) (Or.inr ⟨by rfl, rfl⟩) (by assumption) ?_) | fail); simp only [Act.put, sA, sB, sC]
      (first | (refine wpAnyH_take (i := 11) (v := ?_) (by simp only [gA, gB, gC]; rfl) (by kernel_rfl) (by kernel_rfl) (by kernel_rfl) (by exact fun _ _ _ h => h) (Or.inl ⟨by rfl, ?_⟩) (by assumption) ?_; rotate_left; (focus (intro w hSw; (try dsimp only at hSw); go_simp; try with_reducible rfl))) | (refine wpAnyH_take (i := 11) (v := undef) (by simp only [gA, gB, gC]; rfl) (by kernel_rfl) (by kernel_rfl) (by kernel_rfl) (by exact fun _ _ _ h => h) (Or.inr ⟨by rfl, rfl⟩) (by assumption) ?_) | fail); simp only [Act.put, sA, sB, sC]
      first | (refine wpAnyH_take (i := 12) (v := undef) (by simp only [gA, gB, gC]; rfl) (by kernel_rfl) (by kernel_rfl) (by kernel_rfl) (by exact fun _ _ _ h => h) (Or.inr ⟨by rfl, rfl⟩) (by assumption) ?_; simp only [Act.put, sA, sB, sC]) | (refine wpAnyH_ready (rs := [12]) (by kernel_rfl) (by simp) ?_; refine AllReadyH.cons (by simp only [gA, gB, gC]; rfl) (fun K hK => ?_) AllReadyH.nil; go_simp; (first | (fail)); refine hK.out _ _ (by first | exact hS) ?_; clear hHeld hK; intro hHeld; (try simp only [Act.put, sA, sB, sC])) | fail
      (first | (refine wpAnyH_take (i := 13) (v := ?_) (by simp only [gA, gB, gC]; rfl) (by kernel_rfl) (by kernel_rfl) (by kernel_rfl) (by exact fun _ _ _ h => h) (Or.inl ⟨by rfl, ?_⟩) (by assumption) ?_; rotate_left; (focus (intro w hSw; (try dsimp only at hSw); go_simp; try with_reducible rfl))) | (refine wpAnyH_take (i := 13) (v := undef) (by simp only [gA, gB, gC]; rfl) (by kernel_rfl) (by kernel_rfl) (by kernel_rfl) (by exact fun _ _ _ h => h) (Or.inr ⟨by rfl, rfl⟩) (by assumption) ?_) | fail); simp only [Act.put, sA, sB, sC]
      (first | (refine wpAnyH_take (i := 14) (v := ?_) (by simp only [gA, gB, gC]; rfl) (by kernel_rfl) (by kernel_rfl) (by kernel_rfl) (by exact fun _ _ _ h => h) (Or.inl ⟨by rfl, ?_⟩) (by assumption) ?_; rotate_left; (focus (intro w hSw; (try dsimp only at hSw); go_simp; try with_reducible rfl))) | (refine wpAnyH_take (i := 14) (v := undef) (by simp only [gA, gB, gC]; rfl) (by kernel_rfl) (by kernel_rfl) (by kernel_rfl) (by exact fun _ _ _ h => h) (Or.inr ⟨by rfl, rfl⟩) (by assumption) ?_) | fail); simp only [Act.put, sA, sB, sC]
      refine wpAnyH_done (by kernel_rfl) ?_ _
      have hS2 : Below Z.heap.size Z wr.drew := hBd
      have hBz := Below.then hB04 hS2
      obtain ⟨A1, A2, v2, W2', v3, W3', v4, W4', hs1, hs2, hap2, hap3, hap4, hbe, ho4, hbf⟩ := insE_tail wr.drew a n cap k l x hn.out hk hcap hno (by omega) (h.below ent_ok.len hBz)
      have hbx := stab_blk _ _ _ _ (stab_blk _ _ _ _ hb4 hS2) hbe
      have hrg := hbx.range
      rw [← ht1.out, ← ht2.out, hN.out] at ho4
      obtain ⟨a4, c4, rfl, hle4, hno4, hr4⟩ := OwnR.slice ent_ok.len ho4
      have how : ∀ y, a4 = some y → w.heap.size ≤ y.block ∧ y.block < W4'.heap.size := fun y q => by
        have := OwnR.lt ho4 (k := y.block) (by rw [q]; rfl)
        exact ⟨Nat.le_trans hBz.size this.1, this.2⟩
      have hfin := Below.then hBz hbf
      clear hbx hall ht1 ht2 hbe hbf ho4 hS hB hBd
      go_wp2_with (first | (refine wpList_load_row rfl _ rfl w.heap.size rfl (ecs x) hrg hundE rfl hse ?_) | (refine wpList_build1 ent_ok (by decide) rfl _ rfl (ecs x) rfl rfl ?_) | (refine wpList_append rfl _ _ rfl rfl rfl rfl hap2 ?_) | (refine wpList_append rfl _ _ rfl rfl rfl rfl hap3 ?_) | (refine wpList_append rfl _ _ rfl rfl rfl rfl hap4 ?_) | fail)
      refine bodyPost_ret (v := .tuple #[.slice a4 N.length c4, .int .i64 0]) (by simp [results, Tryz.results7, go_sem]) rfl ?_
      exact ⟨a4, c4, rfl, hle4, hno4, hr4, hfin, .inr how⟩
end Go.Proofs.YtohocomemkckeaaGreatDoor

/-! NUMBERS AND LABELS AS TEXTS, for the stages behind the fourth: digits (donjonref14), decimal and Text (donjonref4). -/
namespace Go.Proofs.YtohocomemkckeaaGreatDoor
open Go.RowKit
set_option maxRecDepth 8000
set_option linter.unusedSimpArgs false
set_option linter.unusedVariables false

def itoaB (n : Int) : ByteArray := ⟨(Lib.itoa n).toArray⟩
def dgB (n : Nat) : ByteArray := ⟨(Lib.decDigits n).toArray⟩
theorem app_listB (x y : List UInt8) : (⟨x.toArray⟩ : ByteArray) ++ ⟨y.toArray⟩ = ⟨(x ++ y).toArray⟩ := by
  apply ByteArray.ext
  simp [ByteArray.data_append]
theorem dg_low (n : Nat) (h : n < 10) : dgB n = chr (48 + n) := by
  unfold dgB
  rw [Lib.decDigits, dif_pos h]
  rfl
theorem dg_next (n : Nat) (h : 10 ≤ n) : dgB n = dgB (n / 10) ++ dgB (n % 10) := by
  unfold dgB
  rw [app_listB]
  congr 2
  have h2 : n % 10 < 10 := Nat.mod_lt _ (by decide)
  rw [Lib.decDigits, dif_neg (by omega), Lib.decDigits.eq_def (n % 10), dif_pos h2]
theorem dg_size : ∀ k n : Nat, n < 10 ^ (k + 1) → (dgB n).size ≤ k + 1
  | 0, n, h => by
    rw [dg_low n (by omega)]
    exact Nat.le_refl _
  | k + 1, n, h => by
    by_cases h10 : n < 10
    · rw [dg_low n h10]
      show 1 ≤ _
      omega
    · rw [dg_next n (by omega), ByteArray.size_append, dg_low (n % 10) (Nat.mod_lt _ (by decide))]
      have := dg_size k (n / 10) (by rw [Nat.pow_succ] at h; omega)
      show _ + 1 ≤ _
      omega
theorem dg_20 {n : Nat} (h : n < 18446744073709551616) : (dgB n).size ≤ 20 := dg_size 19 n (Nat.lt_trans h (by decide))
theorem itoa_pos (n : Nat) : itoaB (n : Int) = dgB n := by
  unfold itoaB dgB Lib.itoa
  rw [if_neg (by omega), Int.toNat_natCast]
theorem itoa_neg (n : Nat) (h : 0 < n) : itoaB (-(n : Int)) = (⟨#[45]⟩ : ByteArray) ++ dgB n := by
  unfold itoaB dgB Lib.itoa
  rw [if_pos (by omega), Int.natAbs_neg, Int.natAbs_natCast]
  exact (app_listB [45] _).symm
theorem itoaB_size (n : Int) (h0 : -9223372036854775808 ≤ n) (h1 : n ≤ 9223372036854775807) : (itoaB n).size ≤ 21 := by
  have := Lib.itoa_length_le n h0 h1
  unfold itoaB
  show (Lib.itoa n).toArray.size ≤ 21
  simpa using this
set_option maxHeartbeats 1000000 in
theorem digits_low (n : Nat) (h : n < 10) (w : World) :
    Calls Tryz.prog 68 #[.int .u64 (n : Int)] w fun e w' => e = .returned (.string (dgB n)) ∧ Below w.heap.size w w' := by
  rw [dg_low n h]
  have hbt := chr_made2 w n (by omega)
  have hcv := hbt.conv
  have e1 : IntKind.u8.wrap (48 + (n : Int)) = 48 + (n : Int) := by rw [IntKind.wrap_u8]; omega
  have hB := alloc_below w (.cells #[.int .u8 (48 + (n : Int))] 5)
  have i1 : ¬ (10 : Int) ≤ (n : Int) := by omega
  obtain ⟨c, hc⟩ : ∃ c, chr (48 + n) = c := ⟨_, rfl⟩
  rw [hc] at hcv ⊢
  clear hbt hc
  go_enter Tryz.func68, Tryz.ntmps68
  go_wp2_with fail
  go_ret
  exact ⟨rfl, hB⟩
set_option maxHeartbeats 1000000 in
theorem digits_any : ∀ (n : Nat), n < 18446744073709551616 → ∀ (w : World), Calls Tryz.prog 68 #[.int .u64 (n : Int)] w fun e w' => e = .returned (.string (dgB n)) ∧ Below w.heap.size w w' := by
  intro n
  induction n using Nat.strongRecOn with
  | ind n ih =>
    intro hn w
    by_cases h10 : n < 10
    · exact digits_low n h10 w
    · have k1 := ih (n / 10) (by omega) (by omega)
      have k2 := digits_low (n % 10) (Nat.mod_lt _ (by decide))
      have s1 := dg_20 (n := n / 10) (by omega)
      have s2 := dg_20 (n := n % 10) (by omega)
      rw [dg_next n (by omega)]
      obtain ⟨x, hx⟩ : ∃ x, dgB (n / 10) = x := ⟨_, rfl⟩
      obtain ⟨y, hy⟩ : ∃ y, dgB (n % 10) = y := ⟨_, rfl⟩
      rw [hx] at k1 s1 ⊢
      rw [hy] at k2 s2 ⊢
      have i1 : (10 : Int) ≤ (n : Int) := by omega
      have s3 : ¬ 9223372036854775807 < x.size + y.size := by omega
      have e1 : (n : Int) / 10 = ((n / 10 : Nat) : Int) := by omega
      have e2 : (n : Int) % 10 = ((n % 10 : Nat) : Int) := by omega
      rw [← e1] at k1
      rw [← e2] at k2
      clear hx hy ih e1 e2
      go_enter Tryz.func68, Tryz.ntmps68
      go_wp2_with fail
      refine (k1 w).mono ?_
      rintro e W1 ⟨rfl, hB1⟩
      go_wp2_with fail
      refine (k2 W1).mono ?_
      rintro e W2 ⟨rfl, hB2⟩
      have hB := Below.then hB1 hB2
      go_wp2_with fail
      go_ret
      exact ⟨rfl, hB⟩
set_option maxHeartbeats 1000000 in
theorem decL_low (n : Nat) (h : n < 10) (w : World) :
    Calls Tryz.prog 69 #[.int .i64 (n : Int)] w fun e w' => e = .returned (.string (dgB n)) ∧ Below w.heap.size w w' := by
  rw [dg_low n h]
  have hbt := chr_made2 w n (by omega)
  have hcv := hbt.conv
  have e1 : IntKind.u8.wrap (48 + (n : Int)) = 48 + (n : Int) := by rw [IntKind.wrap_u8]; omega
  have hB := alloc_below w (.cells #[.int .u8 (48 + (n : Int))] 5)
  have i1 : ¬ (10 : Int) ≤ (n : Int) := by omega
  obtain ⟨c, hc⟩ : ∃ c, chr (48 + n) = c := ⟨_, rfl⟩
  rw [hc] at hcv ⊢
  clear hbt hc
  go_enter Tryz.func69, Tryz.ntmps69
  go_wp2_with fail
  go_ret
  exact ⟨rfl, hB⟩
set_option maxHeartbeats 1000000 in
theorem decL_any : ∀ (n : Nat), n < 1000 → ∀ (w : World), Calls Tryz.prog 69 #[.int .i64 (n : Int)] w fun e w' => e = .returned (.string (dgB n)) ∧ Below w.heap.size w w' := by
  intro n
  induction n using Nat.strongRecOn with
  | ind n ih =>
    intro hn w
    by_cases h10 : n < 10
    · exact decL_low n h10 w
    · have k1 := ih (n / 10) (by omega) (by omega)
      have k2 := decL_low (n % 10) (Nat.mod_lt _ (by decide))
      have s1 := dg_20 (n := n / 10) (by omega)
      have s2 := dg_20 (n := n % 10) (by omega)
      rw [dg_next n (by omega)]
      obtain ⟨x, hx⟩ : ∃ x, dgB (n / 10) = x := ⟨_, rfl⟩
      obtain ⟨y, hy⟩ : ∃ y, dgB (n % 10) = y := ⟨_, rfl⟩
      rw [hx] at k1 s1 ⊢
      rw [hy] at k2 s2 ⊢
      have i1 : (10 : Int) ≤ (n : Int) := by omega
      have s3 : ¬ 9223372036854775807 < x.size + y.size := by omega
      have e1 : (n : Int) / 10 = ((n / 10 : Nat) : Int) := by omega
      have e2 : (n : Int) % 10 = ((n % 10 : Nat) : Int) := by omega
      rw [← e1] at k1
      rw [← e2] at k2
      clear hx hy ih e1 e2
      go_enter Tryz.func69, Tryz.ntmps69
      go_wp2_with fail
      refine (k1 w).mono ?_
      rintro e W1 ⟨rfl, hB1⟩
      go_wp2_with fail
      refine (k2 W1).mono ?_
      rintro e W2 ⟨rfl, hB2⟩
      have hB := Below.then hB1 hB2
      go_wp2_with fail
      go_ret
      exact ⟨rfl, hB⟩
/-- A label's text. -/
def ltextB (l : Lab) : ByteArray := itoaB l.s ++ ⟨#[46]⟩ ++ itoaB l.c ++ ⟨#[46]⟩ ++ itoaB l.i ++ ⟨#[46]⟩ ++ itoaB l.k
theorem ltext_size {l : Lab} (h : GL l) : (ltextB l).size ≤ 100 := by
  obtain ⟨a, b, c, d, e, f, g, i⟩ := h
  have h1 := itoaB_size l.s (by omega) (by omega)
  have h2 := itoaB_size l.c (by omega) (by omega)
  have h3 := itoaB_size l.i (by omega) (by omega)
  have h4 := itoaB_size l.k (by omega) (by omega)
  unfold ltextB
  simp only [ByteArray.size_append]
  show _ + 1 + _ + 1 + _ + 1 + _ ≤ _
  omega
set_option maxHeartbeats 2000000 in
theorem rltext_any {l : Lab} (hg : GL l) (w : World) :
    Calls Tryz.prog 44 #[l.v] w fun e w' => e = .returned (.string (ltextB l)) ∧ Below w.heap.size w w' := by
  have kd : ∀ n : Int, 0 ≤ n → n < 1000 → ∀ W, Calls Tryz.prog 69 #[.int .i64 n] W fun e w' => e = .returned (.string (itoaB n)) ∧ Below W.heap.size W w' := fun n h0 h1 W => by
    obtain ⟨k, rfl⟩ := Int.eq_ofNat_of_zero_le h0
    rw [itoa_pos]
    exact decL_any k (by omega) W
  obtain ⟨x0, x1, x2, x3, x4, x5, x6, x7⟩ := hg
  have la := itoaB_size l.s (by omega) (by omega)
  have lb := itoaB_size l.c (by omega) (by omega)
  have lc := itoaB_size l.i (by omega) (by omega)
  have ld := itoaB_size l.k (by omega) (by omega)
  have s1 : ¬ 9223372036854775807 < (itoaB l.s).size + 1 := by omega
  have s2 : ¬ 9223372036854775807 < (itoaB l.s).size + 1 + (itoaB l.c).size := by omega
  have s3 : ¬ 9223372036854775807 < (itoaB l.s).size + 1 + (itoaB l.c).size + 1 := by omega
  have s4 : ¬ 9223372036854775807 < (itoaB l.s).size + 1 + (itoaB l.c).size + 1 + (itoaB l.i).size := by omega
  have s5 : ¬ 9223372036854775807 < (itoaB l.s).size + 1 + (itoaB l.c).size + 1 + (itoaB l.i).size + 1 := by omega
  have s6 : ¬ 9223372036854775807 < (itoaB l.s).size + 1 + (itoaB l.c).size + 1 + (itoaB l.i).size + 1 + (itoaB l.k).size := by omega
  unfold ltextB
  have y1 : l.s < 1000 := by omega
  have y3 : l.c < 1000 := by omega
  have y5 : l.i < 1000 := by omega
  have y7 : l.k < 1000 := by omega
  clear la lb lc ld x1 x3 x5 x7
  have hS : Boxed (w.alloc (.cells #[.int .i64 l.s, .int .i64 l.c, .int .i64 l.i, .int .i64 l.k] 28)).drew w.heap.size l := (boxed_alloc w l).keep (Below.refl _ _).drew
  have hB := (alloc_below w (.cells #[.int .i64 l.s, .int .i64 l.c, .int .i64 l.i, .int .i64 l.k] 28)).drew
  go_enter Tryz.func44, Tryz.ntmps44
  go_wp2_with fail
  generalize (w.alloc (.cells #[.int .i64 l.s, .int .i64 l.c, .int .i64 l.i, .int .i64 l.k] 28)) = W0 at hS hB ⊢
  go_region_held (fun W => Boxed W w.heap.size l) (first | exact hS | exact Boxed.keep (by assumption) (by assumption))
    (first
    | (go_at_call 69; refine (kd _ (by assumption) (by assumption) _).mono ?_; rintro e w1 ⟨rfl, hb⟩; replace hB := Below.then hB hb)
    | fail)
  go_wp2
  go_ret
  exact ⟨rfl, hB⟩
end Go.Proofs.YtohocomemkckeaaGreatDoor

/-! AN ENTRY'S TEXT: words of errors and of verbs; the document's own Text (donjonref14). Written by mk_audtext.py. -/
namespace Go.Proofs.YtohocomemkckeaaGreatDoor
open Go.RowKit
set_option maxRecDepth 8000
set_option linter.unusedSimpArgs false
set_option linter.unusedVariables false

def wArgs (v : Int) : ByteArray := if v = 1 then ⟨#[97, 114, 103]⟩ else if v = 2 then ⟨#[110, 111, 110, 101]⟩ else if v = 3 then ⟨#[107, 105, 110, 100]⟩ else if v = 4 then ⟨#[109, 97, 110, 121]⟩ else if v = 5 then ⟨#[108, 111, 110, 103]⟩ else if v = 6 then ⟨#[119, 111, 114, 100]⟩ else if v = 7 then ⟨#[105, 115]⟩ else if v = 8 then ⟨#[99, 117, 116]⟩ else if v = 9 then ⟨#[109, 111, 114, 101]⟩ else ⟨#[101, 114, 114, 111, 114]⟩
theorem wArgs_size (v : Int) : (wArgs v).size ≤ 10 := by
  unfold wArgs
  repeat (first | (split; decide) | decide)
set_option maxHeartbeats 2000000 in
theorem wArgs_any (v : Int) (w : World) : Calls Tryz.prog 65 #[.int .i64 v] w fun e w' => e = .returned (.string (wArgs v)) ∧ w' = w := by
  unfold wArgs
  by_cases h1 : v = 1
  · subst h1
    simp only [if_true, if_false, show ((1 : Int) = 1) = True from by simp]
    go_enter Tryz.func65, Tryz.ntmps65
    go_wp2_with fail
    go_ret
    exact ⟨rfl, rfl⟩
  by_cases h2 : v = 2
  · subst h2
    simp only [if_true, if_false, show ((2 : Int) = 1) = False from by simp, show ((2 : Int) = 2) = True from by simp]
    go_enter Tryz.func65, Tryz.ntmps65
    go_wp2_with fail
    go_ret
    exact ⟨rfl, rfl⟩
  by_cases h3 : v = 3
  · subst h3
    simp only [if_true, if_false, show ((3 : Int) = 1) = False from by simp, show ((3 : Int) = 2) = False from by simp, show ((3 : Int) = 3) = True from by simp]
    go_enter Tryz.func65, Tryz.ntmps65
    go_wp2_with fail
    go_ret
    exact ⟨rfl, rfl⟩
  by_cases h4 : v = 4
  · subst h4
    simp only [if_true, if_false, show ((4 : Int) = 1) = False from by simp, show ((4 : Int) = 2) = False from by simp, show ((4 : Int) = 3) = False from by simp, show ((4 : Int) = 4) = True from by simp]
    go_enter Tryz.func65, Tryz.ntmps65
    go_wp2_with fail
    go_ret
    exact ⟨rfl, rfl⟩
  by_cases h5 : v = 5
  · subst h5
    simp only [if_true, if_false, show ((5 : Int) = 1) = False from by simp, show ((5 : Int) = 2) = False from by simp, show ((5 : Int) = 3) = False from by simp, show ((5 : Int) = 4) = False from by simp, show ((5 : Int) = 5) = True from by simp]
    go_enter Tryz.func65, Tryz.ntmps65
    go_wp2_with fail
    go_ret
    exact ⟨rfl, rfl⟩
  by_cases h6 : v = 6
  · subst h6
    simp only [if_true, if_false, show ((6 : Int) = 1) = False from by simp, show ((6 : Int) = 2) = False from by simp, show ((6 : Int) = 3) = False from by simp, show ((6 : Int) = 4) = False from by simp, show ((6 : Int) = 5) = False from by simp, show ((6 : Int) = 6) = True from by simp]
    go_enter Tryz.func65, Tryz.ntmps65
    go_wp2_with fail
    go_ret
    exact ⟨rfl, rfl⟩
  by_cases h7 : v = 7
  · subst h7
    simp only [if_true, if_false, show ((7 : Int) = 1) = False from by simp, show ((7 : Int) = 2) = False from by simp, show ((7 : Int) = 3) = False from by simp, show ((7 : Int) = 4) = False from by simp, show ((7 : Int) = 5) = False from by simp, show ((7 : Int) = 6) = False from by simp, show ((7 : Int) = 7) = True from by simp]
    go_enter Tryz.func65, Tryz.ntmps65
    go_wp2_with fail
    go_ret
    exact ⟨rfl, rfl⟩
  by_cases h8 : v = 8
  · subst h8
    simp only [if_true, if_false, show ((8 : Int) = 1) = False from by simp, show ((8 : Int) = 2) = False from by simp, show ((8 : Int) = 3) = False from by simp, show ((8 : Int) = 4) = False from by simp, show ((8 : Int) = 5) = False from by simp, show ((8 : Int) = 6) = False from by simp, show ((8 : Int) = 7) = False from by simp, show ((8 : Int) = 8) = True from by simp]
    go_enter Tryz.func65, Tryz.ntmps65
    go_wp2_with fail
    go_ret
    exact ⟨rfl, rfl⟩
  by_cases h9 : v = 9
  · subst h9
    simp only [if_true, if_false, show ((9 : Int) = 1) = False from by simp, show ((9 : Int) = 2) = False from by simp, show ((9 : Int) = 3) = False from by simp, show ((9 : Int) = 4) = False from by simp, show ((9 : Int) = 5) = False from by simp, show ((9 : Int) = 6) = False from by simp, show ((9 : Int) = 7) = False from by simp, show ((9 : Int) = 8) = False from by simp, show ((9 : Int) = 9) = True from by simp]
    go_enter Tryz.func65, Tryz.ntmps65
    go_wp2_with fail
    go_ret
    exact ⟨rfl, rfl⟩
  rw [if_neg h1, if_neg h2, if_neg h3, if_neg h4, if_neg h5, if_neg h6, if_neg h7, if_neg h8, if_neg h9]
  have g1 : (v == 1) = false := by simpa using h1
  have g2 : (v == 2) = false := by simpa using h2
  have g3 : (v == 3) = false := by simpa using h3
  have g4 : (v == 4) = false := by simpa using h4
  have g5 : (v == 5) = false := by simpa using h5
  have g6 : (v == 6) = false := by simpa using h6
  have g7 : (v == 7) = false := by simpa using h7
  have g8 : (v == 8) = false := by simpa using h8
  have g9 : (v == 9) = false := by simpa using h9
  go_enter Tryz.func65, Tryz.ntmps65
  go_wp2_with fail
  go_ret
  exact ⟨rfl, rfl⟩
def wSys (v : Int) : ByteArray := if v = 11 then ⟨#[98, 97, 100]⟩ else if v = 12 then ⟨#[100, 101, 97, 100]⟩ else if v = 13 then ⟨#[102, 117, 108, 108]⟩ else if v = 14 then ⟨#[98, 117, 115, 121]⟩ else if v = 15 then ⟨#[108, 97, 98, 101, 108]⟩ else if v = 16 then ⟨#[97, 99, 108]⟩ else if v = 17 then ⟨#[113, 117, 111, 116, 97]⟩ else if v = 18 then ⟨#[108, 111, 103]⟩ else if v = 19 then ⟨#[114, 117, 108, 101]⟩ else if v = 20 then ⟨#[108, 111, 103, 105, 110]⟩ else if v = 21 then ⟨#[110, 97, 109, 101]⟩ else ⟨#[101, 114, 114, 111, 114]⟩
theorem wSys_size (v : Int) : (wSys v).size ≤ 10 := by
  unfold wSys
  repeat (first | (split; decide) | decide)
set_option maxHeartbeats 2000000 in
theorem wSys_any (v : Int) (w : World) : Calls Tryz.prog 66 #[.int .i64 v] w fun e w' => e = .returned (.string (wSys v)) ∧ w' = w := by
  unfold wSys
  by_cases h11 : v = 11
  · subst h11
    simp only [if_true, if_false, show ((11 : Int) = 11) = True from by simp]
    go_enter Tryz.func66, Tryz.ntmps66
    go_wp2_with fail
    go_ret
    exact ⟨rfl, rfl⟩
  by_cases h12 : v = 12
  · subst h12
    simp only [if_true, if_false, show ((12 : Int) = 11) = False from by simp, show ((12 : Int) = 12) = True from by simp]
    go_enter Tryz.func66, Tryz.ntmps66
    go_wp2_with fail
    go_ret
    exact ⟨rfl, rfl⟩
  by_cases h13 : v = 13
  · subst h13
    simp only [if_true, if_false, show ((13 : Int) = 11) = False from by simp, show ((13 : Int) = 12) = False from by simp, show ((13 : Int) = 13) = True from by simp]
    go_enter Tryz.func66, Tryz.ntmps66
    go_wp2_with fail
    go_ret
    exact ⟨rfl, rfl⟩
  by_cases h14 : v = 14
  · subst h14
    simp only [if_true, if_false, show ((14 : Int) = 11) = False from by simp, show ((14 : Int) = 12) = False from by simp, show ((14 : Int) = 13) = False from by simp, show ((14 : Int) = 14) = True from by simp]
    go_enter Tryz.func66, Tryz.ntmps66
    go_wp2_with fail
    go_ret
    exact ⟨rfl, rfl⟩
  by_cases h15 : v = 15
  · subst h15
    simp only [if_true, if_false, show ((15 : Int) = 11) = False from by simp, show ((15 : Int) = 12) = False from by simp, show ((15 : Int) = 13) = False from by simp, show ((15 : Int) = 14) = False from by simp, show ((15 : Int) = 15) = True from by simp]
    go_enter Tryz.func66, Tryz.ntmps66
    go_wp2_with fail
    go_ret
    exact ⟨rfl, rfl⟩
  by_cases h16 : v = 16
  · subst h16
    simp only [if_true, if_false, show ((16 : Int) = 11) = False from by simp, show ((16 : Int) = 12) = False from by simp, show ((16 : Int) = 13) = False from by simp, show ((16 : Int) = 14) = False from by simp, show ((16 : Int) = 15) = False from by simp, show ((16 : Int) = 16) = True from by simp]
    go_enter Tryz.func66, Tryz.ntmps66
    go_wp2_with fail
    go_ret
    exact ⟨rfl, rfl⟩
  by_cases h17 : v = 17
  · subst h17
    simp only [if_true, if_false, show ((17 : Int) = 11) = False from by simp, show ((17 : Int) = 12) = False from by simp, show ((17 : Int) = 13) = False from by simp, show ((17 : Int) = 14) = False from by simp, show ((17 : Int) = 15) = False from by simp, show ((17 : Int) = 16) = False from by simp, show ((17 : Int) = 17) = True from by simp]
    go_enter Tryz.func66, Tryz.ntmps66
    go_wp2_with fail
    go_ret
    exact ⟨rfl, rfl⟩
  by_cases h18 : v = 18
  · subst h18
    simp only [if_true, if_false, show ((18 : Int) = 11) = False from by simp, show ((18 : Int) = 12) = False from by simp, show ((18 : Int) = 13) = False from by simp, show ((18 : Int) = 14) = False from by simp, show ((18 : Int) = 15) = False from by simp, show ((18 : Int) = 16) = False from by simp, show ((18 : Int) = 17) = False from by simp, show ((18 : Int) = 18) = True from by simp]
    go_enter Tryz.func66, Tryz.ntmps66
    go_wp2_with fail
    go_ret
    exact ⟨rfl, rfl⟩
  by_cases h19 : v = 19
  · subst h19
    simp only [if_true, if_false, show ((19 : Int) = 11) = False from by simp, show ((19 : Int) = 12) = False from by simp, show ((19 : Int) = 13) = False from by simp, show ((19 : Int) = 14) = False from by simp, show ((19 : Int) = 15) = False from by simp, show ((19 : Int) = 16) = False from by simp, show ((19 : Int) = 17) = False from by simp, show ((19 : Int) = 18) = False from by simp, show ((19 : Int) = 19) = True from by simp]
    go_enter Tryz.func66, Tryz.ntmps66
    go_wp2_with fail
    go_ret
    exact ⟨rfl, rfl⟩
  by_cases h20 : v = 20
  · subst h20
    simp only [if_true, if_false, show ((20 : Int) = 11) = False from by simp, show ((20 : Int) = 12) = False from by simp, show ((20 : Int) = 13) = False from by simp, show ((20 : Int) = 14) = False from by simp, show ((20 : Int) = 15) = False from by simp, show ((20 : Int) = 16) = False from by simp, show ((20 : Int) = 17) = False from by simp, show ((20 : Int) = 18) = False from by simp, show ((20 : Int) = 19) = False from by simp, show ((20 : Int) = 20) = True from by simp]
    go_enter Tryz.func66, Tryz.ntmps66
    go_wp2_with fail
    go_ret
    exact ⟨rfl, rfl⟩
  by_cases h21 : v = 21
  · subst h21
    simp only [if_true, if_false, show ((21 : Int) = 11) = False from by simp, show ((21 : Int) = 12) = False from by simp, show ((21 : Int) = 13) = False from by simp, show ((21 : Int) = 14) = False from by simp, show ((21 : Int) = 15) = False from by simp, show ((21 : Int) = 16) = False from by simp, show ((21 : Int) = 17) = False from by simp, show ((21 : Int) = 18) = False from by simp, show ((21 : Int) = 19) = False from by simp, show ((21 : Int) = 20) = False from by simp, show ((21 : Int) = 21) = True from by simp]
    go_enter Tryz.func66, Tryz.ntmps66
    go_wp2_with fail
    go_ret
    exact ⟨rfl, rfl⟩
  rw [if_neg h11, if_neg h12, if_neg h13, if_neg h14, if_neg h15, if_neg h16, if_neg h17, if_neg h18, if_neg h19, if_neg h20, if_neg h21]
  have g11 : (v == 11) = false := by simpa using h11
  have g12 : (v == 12) = false := by simpa using h12
  have g13 : (v == 13) = false := by simpa using h13
  have g14 : (v == 14) = false := by simpa using h14
  have g15 : (v == 15) = false := by simpa using h15
  have g16 : (v == 16) = false := by simpa using h16
  have g17 : (v == 17) = false := by simpa using h17
  have g18 : (v == 18) = false := by simpa using h18
  have g19 : (v == 19) = false := by simpa using h19
  have g20 : (v == 20) = false := by simpa using h20
  have g21 : (v == 21) = false := by simpa using h21
  go_enter Tryz.func66, Tryz.ntmps66
  go_wp2_with fail
  go_ret
  exact ⟨rfl, rfl⟩
def wFlt (v : Int) : ByteArray := if v = 31 then ⟨#[114, 101, 97, 100]⟩ else if v = 32 then ⟨#[119, 114, 105, 116, 101]⟩ else if v = 33 then ⟨#[101, 120, 101, 99]⟩ else if v = 34 then ⟨#[103, 97, 116, 101]⟩ else if v = 35 then ⟨#[98, 111, 117, 110, 100]⟩ else if v = 36 then ⟨#[111, 112]⟩ else if v = 37 then ⟨#[115, 116, 97, 99, 107]⟩ else ⟨#[101, 114, 114, 111, 114]⟩
theorem wFlt_size (v : Int) : (wFlt v).size ≤ 10 := by
  unfold wFlt
  repeat (first | (split; decide) | decide)
set_option maxHeartbeats 2000000 in
theorem wFlt_any (v : Int) (w : World) : Calls Tryz.prog 67 #[.int .i64 v] w fun e w' => e = .returned (.string (wFlt v)) ∧ w' = w := by
  unfold wFlt
  by_cases h31 : v = 31
  · subst h31
    simp only [if_true, if_false, show ((31 : Int) = 31) = True from by simp]
    go_enter Tryz.func67, Tryz.ntmps67
    go_wp2_with fail
    go_ret
    exact ⟨rfl, rfl⟩
  by_cases h32 : v = 32
  · subst h32
    simp only [if_true, if_false, show ((32 : Int) = 31) = False from by simp, show ((32 : Int) = 32) = True from by simp]
    go_enter Tryz.func67, Tryz.ntmps67
    go_wp2_with fail
    go_ret
    exact ⟨rfl, rfl⟩
  by_cases h33 : v = 33
  · subst h33
    simp only [if_true, if_false, show ((33 : Int) = 31) = False from by simp, show ((33 : Int) = 32) = False from by simp, show ((33 : Int) = 33) = True from by simp]
    go_enter Tryz.func67, Tryz.ntmps67
    go_wp2_with fail
    go_ret
    exact ⟨rfl, rfl⟩
  by_cases h34 : v = 34
  · subst h34
    simp only [if_true, if_false, show ((34 : Int) = 31) = False from by simp, show ((34 : Int) = 32) = False from by simp, show ((34 : Int) = 33) = False from by simp, show ((34 : Int) = 34) = True from by simp]
    go_enter Tryz.func67, Tryz.ntmps67
    go_wp2_with fail
    go_ret
    exact ⟨rfl, rfl⟩
  by_cases h35 : v = 35
  · subst h35
    simp only [if_true, if_false, show ((35 : Int) = 31) = False from by simp, show ((35 : Int) = 32) = False from by simp, show ((35 : Int) = 33) = False from by simp, show ((35 : Int) = 34) = False from by simp, show ((35 : Int) = 35) = True from by simp]
    go_enter Tryz.func67, Tryz.ntmps67
    go_wp2_with fail
    go_ret
    exact ⟨rfl, rfl⟩
  by_cases h36 : v = 36
  · subst h36
    simp only [if_true, if_false, show ((36 : Int) = 31) = False from by simp, show ((36 : Int) = 32) = False from by simp, show ((36 : Int) = 33) = False from by simp, show ((36 : Int) = 34) = False from by simp, show ((36 : Int) = 35) = False from by simp, show ((36 : Int) = 36) = True from by simp]
    go_enter Tryz.func67, Tryz.ntmps67
    go_wp2_with fail
    go_ret
    exact ⟨rfl, rfl⟩
  by_cases h37 : v = 37
  · subst h37
    simp only [if_true, if_false, show ((37 : Int) = 31) = False from by simp, show ((37 : Int) = 32) = False from by simp, show ((37 : Int) = 33) = False from by simp, show ((37 : Int) = 34) = False from by simp, show ((37 : Int) = 35) = False from by simp, show ((37 : Int) = 36) = False from by simp, show ((37 : Int) = 37) = True from by simp]
    go_enter Tryz.func67, Tryz.ntmps67
    go_wp2_with fail
    go_ret
    exact ⟨rfl, rfl⟩
  rw [if_neg h31, if_neg h32, if_neg h33, if_neg h34, if_neg h35, if_neg h36, if_neg h37]
  have g31 : (v == 31) = false := by simpa using h31
  have g32 : (v == 32) = false := by simpa using h32
  have g33 : (v == 33) = false := by simpa using h33
  have g34 : (v == 34) = false := by simpa using h34
  have g35 : (v == 35) = false := by simpa using h35
  have g36 : (v == 36) = false := by simpa using h36
  have g37 : (v == 37) = false := by simpa using h37
  go_enter Tryz.func67, Tryz.ntmps67
  go_wp2_with fail
  go_ret
  exact ⟨rfl, rfl⟩
def errW (v : Int) : ByteArray := if v = 0 then ⟨#[111, 107]⟩ else if v < 11 then wArgs v else if v < 31 then wSys v else wFlt v
theorem errW_size (v : Int) : (errW v).size ≤ 10 := by
  unfold errW
  split
  · decide
  · split
    · exact wArgs_size v
    · split
      · exact wSys_size v
      · exact wFlt_size v
set_option maxHeartbeats 2000000 in
theorem errW_any (v : Int) (w : World) : Calls Tryz.prog 42 #[.int .i64 v] w fun e w' => e = .returned (.string (errW v)) ∧ w' = w := by
  unfold errW
  by_cases h0 : v = 0
  · subst h0
    rw [if_pos rfl]
    go_enter Tryz.func42, Tryz.ntmps42
    go_wp2_with fail
    go_ret
    exact ⟨rfl, rfl⟩
  have g0 : (v == 0) = false := by simpa using h0
  rw [if_neg h0]
  by_cases h1 : v < 11
  · rw [if_pos h1]
    go_enter Tryz.func42, Tryz.ntmps42
    go_wp2_with fail
    refine (wArgs_any v w).mono ?_
    rintro e w' ⟨rfl, hw⟩
    replace hw := hw.symm
    subst hw
    go_wp2_with fail
    go_ret
    exact ⟨rfl, rfl⟩
  rw [if_neg h1]
  by_cases h2 : v < 31
  · rw [if_pos h2]
    go_enter Tryz.func42, Tryz.ntmps42
    go_wp2_with fail
    refine (wSys_any v w).mono ?_
    rintro e w' ⟨rfl, hw⟩
    replace hw := hw.symm
    subst hw
    go_wp2_with fail
    go_ret
    exact ⟨rfl, rfl⟩
  rw [if_neg h2]
  go_enter Tryz.func42, Tryz.ntmps42
  go_wp2_with fail
  refine (wFlt_any v w).mono ?_
  rintro e w' ⟨rfl, hw⟩
  replace hw := hw.symm
  subst hw
  go_wp2_with fail
  go_ret
  exact ⟨rfl, rfl⟩
def verbW (v : Int) : ByteArray := if v = 1 then ⟨#[108, 111, 103, 105, 110]⟩ else if v = 2 then ⟨#[115, 101, 103]⟩ else if v = 3 then ⟨#[100, 105, 114]⟩ else if v = 4 then ⟨#[100, 101, 108]⟩ else if v = 5 then ⟨#[97, 99, 108]⟩ else if v = 6 then ⟨#[114, 105, 110, 103, 115]⟩ else if v = 7 then ⟨#[112, 117, 116]⟩ else if v = 8 then ⟨#[103, 101, 116]⟩ else if v = 9 then ⟨#[108, 105, 115, 116]⟩ else if v = 10 then ⟨#[114, 117, 110]⟩ else if v = 11 then ⟨#[115, 101, 110, 100]⟩ else if v = 12 then ⟨#[116, 97, 107, 101]⟩ else if v = 13 then ⟨#[114, 101, 108, 101, 97, 115, 101]⟩ else if v = 14 then ⟨#[100, 101, 110, 121]⟩ else ⟨#[]⟩
theorem verbW_size (v : Int) : (verbW v).size ≤ 10 := by
  unfold verbW
  by_cases h1 : v = 1
  · rw [if_pos h1]; decide
  rw [if_neg h1]
  by_cases h2 : v = 2
  · rw [if_pos h2]; decide
  rw [if_neg h2]
  by_cases h3 : v = 3
  · rw [if_pos h3]; decide
  rw [if_neg h3]
  by_cases h4 : v = 4
  · rw [if_pos h4]; decide
  rw [if_neg h4]
  by_cases h5 : v = 5
  · rw [if_pos h5]; decide
  rw [if_neg h5]
  by_cases h6 : v = 6
  · rw [if_pos h6]; decide
  rw [if_neg h6]
  by_cases h7 : v = 7
  · rw [if_pos h7]; decide
  rw [if_neg h7]
  by_cases h8 : v = 8
  · rw [if_pos h8]; decide
  rw [if_neg h8]
  by_cases h9 : v = 9
  · rw [if_pos h9]; decide
  rw [if_neg h9]
  by_cases h10 : v = 10
  · rw [if_pos h10]; decide
  rw [if_neg h10]
  by_cases h11 : v = 11
  · rw [if_pos h11]; decide
  rw [if_neg h11]
  by_cases h12 : v = 12
  · rw [if_pos h12]; decide
  rw [if_neg h12]
  by_cases h13 : v = 13
  · rw [if_pos h13]; decide
  rw [if_neg h13]
  by_cases h14 : v = 14
  · rw [if_pos h14]; decide
  rw [if_neg h14]
  decide
def orS (s : ByteArray) : ByteArray := if s.toList.isEmpty = true then ⟨#[45]⟩ else s
theorem orS_size (s : ByteArray) : (orS s).size ≤ s.size + 1 := by
  unfold orS
  split
  · show 1 ≤ _; omega
  · omega
theorem ror_any (s : ByteArray) (w : World) : Calls Tryz.prog 45 #[.string s] w fun e w' => e = .returned (.string (orS s)) ∧ w' = w := by
  unfold orS
  cases h : s.toList.isEmpty
  · rw [if_neg (by decide)]
    go_enter Tryz.func45, Tryz.ntmps45
    go_wp2_with fail
    go_ret
    exact ⟨rfl, rfl⟩
  · rw [if_pos rfl]
    go_enter Tryz.func45, Tryz.ntmps45
    go_wp2_with fail
    go_ret
    exact ⟨rfl, rfl⟩
set_option maxHeartbeats 4000000 in
theorem rverb_any (v : Int) (h1 : 1 ≤ v) (h14 : v ≤ 14) (w : World) : Calls Tryz.prog 46 #[.int .i64 v] w fun e w' => e = .returned (.string (verbW v)) ∧ Below w.heap.size w w' := by
  obtain ⟨k, hk⟩ : ∃ k : Nat, v = (k : Int) := ⟨v.toNat, by omega⟩
  have hB : ∀ o, Below w.heap.size w (w.alloc o) := fun o => alloc_below w o
  by_cases g1 : v = 1
  · subst g1
    rw [show verbW 1 = ⟨#[108, 111, 103, 105, 110]⟩ from by decide +kernel]
    clear hk h1 h14
    go_enter Tryz.func46, Tryz.ntmps46
    go_wp2_with fail
    go_ret
    exact ⟨rfl, hB _⟩
  by_cases g2 : v = 2
  · subst g2
    rw [show verbW 2 = ⟨#[115, 101, 103]⟩ from by decide +kernel]
    clear hk h1 h14
    go_enter Tryz.func46, Tryz.ntmps46
    go_wp2_with fail
    go_ret
    exact ⟨rfl, hB _⟩
  by_cases g3 : v = 3
  · subst g3
    rw [show verbW 3 = ⟨#[100, 105, 114]⟩ from by decide +kernel]
    clear hk h1 h14
    go_enter Tryz.func46, Tryz.ntmps46
    go_wp2_with fail
    go_ret
    exact ⟨rfl, hB _⟩
  by_cases g4 : v = 4
  · subst g4
    rw [show verbW 4 = ⟨#[100, 101, 108]⟩ from by decide +kernel]
    clear hk h1 h14
    go_enter Tryz.func46, Tryz.ntmps46
    go_wp2_with fail
    go_ret
    exact ⟨rfl, hB _⟩
  by_cases g5 : v = 5
  · subst g5
    rw [show verbW 5 = ⟨#[97, 99, 108]⟩ from by decide +kernel]
    clear hk h1 h14
    go_enter Tryz.func46, Tryz.ntmps46
    go_wp2_with fail
    go_ret
    exact ⟨rfl, hB _⟩
  by_cases g6 : v = 6
  · subst g6
    rw [show verbW 6 = ⟨#[114, 105, 110, 103, 115]⟩ from by decide +kernel]
    clear hk h1 h14
    go_enter Tryz.func46, Tryz.ntmps46
    go_wp2_with fail
    go_ret
    exact ⟨rfl, hB _⟩
  by_cases g7 : v = 7
  · subst g7
    rw [show verbW 7 = ⟨#[112, 117, 116]⟩ from by decide +kernel]
    clear hk h1 h14
    go_enter Tryz.func46, Tryz.ntmps46
    go_wp2_with fail
    go_ret
    exact ⟨rfl, hB _⟩
  by_cases g8 : v = 8
  · subst g8
    rw [show verbW 8 = ⟨#[103, 101, 116]⟩ from by decide +kernel]
    clear hk h1 h14
    go_enter Tryz.func46, Tryz.ntmps46
    go_wp2_with fail
    go_ret
    exact ⟨rfl, hB _⟩
  by_cases g9 : v = 9
  · subst g9
    rw [show verbW 9 = ⟨#[108, 105, 115, 116]⟩ from by decide +kernel]
    clear hk h1 h14
    go_enter Tryz.func46, Tryz.ntmps46
    go_wp2_with fail
    go_ret
    exact ⟨rfl, hB _⟩
  by_cases g10 : v = 10
  · subst g10
    rw [show verbW 10 = ⟨#[114, 117, 110]⟩ from by decide +kernel]
    clear hk h1 h14
    go_enter Tryz.func46, Tryz.ntmps46
    go_wp2_with fail
    go_ret
    exact ⟨rfl, hB _⟩
  by_cases g11 : v = 11
  · subst g11
    rw [show verbW 11 = ⟨#[115, 101, 110, 100]⟩ from by decide +kernel]
    clear hk h1 h14
    go_enter Tryz.func46, Tryz.ntmps46
    go_wp2_with fail
    go_ret
    exact ⟨rfl, hB _⟩
  by_cases g12 : v = 12
  · subst g12
    rw [show verbW 12 = ⟨#[116, 97, 107, 101]⟩ from by decide +kernel]
    clear hk h1 h14
    go_enter Tryz.func46, Tryz.ntmps46
    go_wp2_with fail
    go_ret
    exact ⟨rfl, hB _⟩
  by_cases g13 : v = 13
  · subst g13
    rw [show verbW 13 = ⟨#[114, 101, 108, 101, 97, 115, 101]⟩ from by decide +kernel]
    clear hk h1 h14
    go_enter Tryz.func46, Tryz.ntmps46
    go_wp2_with fail
    go_ret
    exact ⟨rfl, hB _⟩
  by_cases g14 : v = 14
  · subst g14
    rw [show verbW 14 = ⟨#[100, 101, 110, 121]⟩ from by decide +kernel]
    clear hk h1 h14
    go_enter Tryz.func46, Tryz.ntmps46
    go_wp2_with fail
    go_ret
    exact ⟨rfl, hB _⟩
  omega
set_option maxHeartbeats 1000000 in
theorem rdec_any (n : Int) (h0 : -9223372036854775808 ≤ n) (h1 : n ≤ 9223372036854775807) (w : World) : Calls Tryz.prog 43 #[.int .i64 n] w fun e w' => e = .returned (.string (itoaB n)) ∧ Below w.heap.size w w' := by
  by_cases hn : n < 0
  · obtain ⟨k, hk⟩ : ∃ k : Nat, n = -(k : Int) := ⟨n.natAbs, by omega⟩
    have hkp : 0 < k := by omega
    have hs := dg_20 (n := k) (by omega)
    have kd := digits_any k (by omega)
    have e0 : itoaB n = (⟨#[45]⟩ : ByteArray) ++ dgB k := by rw [hk, itoa_neg k hkp]
    rw [e0]
    have e1 : IntKind.u64.wrap n = 18446744073709551616 - (k : Int) := by rw [IntKind.wrap_u64]; omega
    have e2 : IntKind.u64.wrap (-(18446744073709551616 - (k : Int))) = (k : Int) := by rw [IntKind.wrap_u64]; omega
    have e3 : IntKind.u64.wrap (0 - (18446744073709551616 - (k : Int))) = (k : Int) := by rw [IntKind.wrap_u64]; omega
    have e4 : IntKind.u64.wrap ((k : Int) - 18446744073709551616) = (k : Int) := by rw [IntKind.wrap_u64]; omega
    generalize dgB k = x at *
    have s1 : ¬ 9223372036854775807 < 1 + x.size := by omega
    clear hk e0 hs
    go_enter Tryz.func43, Tryz.ntmps43
    go_wp2_with fail
    refine (kd w).mono ?_
    rintro e W1 ⟨rfl, hB⟩
    go_wp2_with fail
    go_ret
    exact ⟨rfl, hB⟩
  · obtain ⟨k, rfl⟩ : ∃ k : Nat, n = (k : Int) := ⟨n.toNat, by omega⟩
    have kd := digits_any k (by omega)
    rw [itoa_pos]
    have e1 : IntKind.u64.wrap (k : Int) = (k : Int) := by rw [IntKind.wrap_u64]; omega
    go_enter Tryz.func43, Tryz.ntmps43
    go_wp2_with fail
    refine (kd w).mono ?_
    rintro e W1 ⟨rfl, hB⟩
    go_wp2_with fail
    go_ret
    exact ⟨rfl, hB⟩
/-- An entry's text. -/
def audText (e : Ent) : ByteArray := itoaB e.seq ++ ⟨#[32]⟩ ++ ltextB e.label ++ ⟨#[32]⟩ ++ orS e.user ++ ⟨#[32]⟩ ++ verbW e.verb ++ ⟨#[32]⟩ ++ orS e.object ++ ⟨#[32]⟩ ++ errW e.verdict
theorem intA_load (w : World) (y : Addr) (v : Value) (h : w.cell? y = some v) : (Instr.loadAt 3 (.pointer (some y))).run Tryz.prog w = .ok v w := by
  have h1 := Tryz.underlying3
  go_simp
theorem strE_load (w : World) (y : Addr) (v : Value) (h : w.cell? y = some v) : (Instr.loadAt 9 (.pointer (some y))).run Tryz.prog w = .ok v w := by
  have h1 := Tryz.underlying9
  go_simp
theorem errA_load (w : World) (y : Addr) (v : Value) (h : w.cell? y = some v) : (Instr.loadAt 29 (.pointer (some y))).run Tryz.prog w = .ok v w := by
  have h1 := Tryz.underlying29
  go_simp
set_option maxRecDepth 8000 in
set_option maxHeartbeats 4000000 in
theorem raText_any (e : Ent) (hm : audMay e = 0) (hq : -9223372036854775808 ≤ e.seq ∧ e.seq ≤ 9223372036854775807) (w : World) :
    Calls Tryz.prog 20 #[.agg (ecs e).toArray] w fun r w' => r = .returned (.string (audText e)) ∧ Below w.heap.size w w' := by
  have hundL := Tryz.underlying28
  have hsl : (Tryz.prog.info? 28).map (·.size) = some 4 := by kernel_rfl
  obtain ⟨m0, m1, m2, m3, m4, m5, m6⟩ := may_zero.1 hm
  have hG := chkL_zero.1 m0
  have hb0 := blkl_alloc w (ecs e).toArray 31
  have hB0 := alloc_below w (.cells (ecs e).toArray 31)
  replace hb0 : BlkL w.heap.size (ecs e) (w.alloc (.cells (ecs e).toArray 31)) := hb0
  have k1 := rdec_any e.seq hq.1 hq.2
  have k2 := rltext_any hG
  have k3 := ror_any e.user
  have k4 := rverb_any e.verb m1 m2
  have k5 := ror_any e.object
  have k6 := errW_any e.verdict
  have z1 := itoaB_size e.seq hq.1 hq.2
  have z2 := ltext_size hG
  have z3 := orS_size e.user
  have z4 := verbW_size e.verb
  have z5 := orS_size e.object
  have z6 := errW_size e.verdict
  unfold audText
  have hcs : ecs e = [.int .i64 e.seq, .int .i64 e.label.s, .int .i64 e.label.c, .int .i64 e.label.i, .int .i64 e.label.k, .string e.user, .int .i64 e.verb, .string e.object, .int .i64 e.verdict] := rfl
  generalize itoaB e.seq = x1 at *
  generalize ltextB e.label = x2 at *
  generalize orS e.user = x3 at *
  generalize verbW e.verb = x4 at *
  generalize orS e.object = x5 at *
  generalize errW e.verdict = x6 at *
  have s1 : ¬ 9223372036854775807 < x1.size + 1 := by omega
  have s2 : ¬ 9223372036854775807 < x1.size + 1 + x2.size := by omega
  have s3 : ¬ 9223372036854775807 < x1.size + 1 + x2.size + 1 := by omega
  have s4 : ¬ 9223372036854775807 < x1.size + 1 + x2.size + 1 + x3.size := by omega
  have s5 : ¬ 9223372036854775807 < x1.size + 1 + x2.size + 1 + x3.size + 1 := by omega
  have s6 : ¬ 9223372036854775807 < x1.size + 1 + x2.size + 1 + x3.size + 1 + x4.size := by omega
  have s7 : ¬ 9223372036854775807 < x1.size + 1 + x2.size + 1 + x3.size + 1 + x4.size + 1 := by omega
  have s8 : ¬ 9223372036854775807 < x1.size + 1 + x2.size + 1 + x3.size + 1 + x4.size + 1 + x5.size := by omega
  have s9 : ¬ 9223372036854775807 < x1.size + 1 + x2.size + 1 + x3.size + 1 + x4.size + 1 + x5.size + 1 := by omega
  have s10 : ¬ 9223372036854775807 < x1.size + 1 + x2.size + 1 + x3.size + 1 + x4.size + 1 + x5.size + 1 + x6.size := by omega
  clear z1 z2 z3 z4 z5 z6 hm m0 m1 m2 m3 m4 m5 m6 hG hq
  rw [hcs] at hb0 hB0 ⊢
  go_enter Tryz.func20, Tryz.ntmps20
  go_upto_region 1 with fail
  generalize w.alloc (.cells ([.int .i64 e.seq, .int .i64 e.label.s, .int .i64 e.label.c, .int .i64 e.label.i, .int .i64 e.label.k, .string e.user, .int .i64 e.verb, .string e.object, .int .i64 e.verdict]).toArray 31) = Z at *
  rw [← hcs] at hb0
  clear hcs
  have hS0 : Below Z.heap.size Z Z.drew := (Below.refl _ _).drew
  refine wp_region_held_drew (S := (fun W => Below Z.heap.size Z W)) (by kernel_rfl) (by exact hS0) ?_
  intro hHeld
  generalize Z.drew = w0 at *
  refine wpAnyH_take (i := 0) (v := ?_) (by simp only [gA, gB, gC]; rfl) (by kernel_rfl) (by kernel_rfl) (by kernel_rfl) (by exact fun _ _ _ h => h) (Or.inl ⟨by rfl, ?_⟩) (by assumption) ?_; rotate_left; (focus (intro w hSw; (try dsimp only at hSw); go_simp; try with_reducible rfl)); (try simp only [Act.put, sA, sB, sC])
  refine wpAnyH_take (i := 1) (v := _) (by simp only [gA, gB, gC]; rfl) (by kernel_rfl) (by kernel_rfl) (by kernel_rfl) (by exact fun _ _ _ h => h) (yields_cell (by rfl) _ rfl ⟨w.heap.size, 0, none⟩ rfl (.int .i64 e.seq) (fun _ q => ((stab_blk _ _ _ _ hb0 q).1 0 _ rfl).1) intA_load) (by assumption) ?_; (try simp only [Act.put, sA, sB, sC])
  refine wpAnyH_take (i := 4) (v := ?_) (by simp only [gA, gB, gC]; rfl) (by kernel_rfl) (by kernel_rfl) (by kernel_rfl) (by exact fun _ _ _ h => h) (Or.inl ⟨by rfl, ?_⟩) (by assumption) ?_; rotate_left; (focus (intro w hSw; (try dsimp only at hSw); go_simp; try with_reducible rfl)); (try simp only [Act.put, sA, sB, sC])
  refine wpAnyH_take (i := 5) (v := _) (by simp only [gA, gB, gC]; rfl) (by kernel_rfl) (by kernel_rfl) (by kernel_rfl) (by exact fun _ _ _ h => h) (yields_at (by rfl) _ rfl ⟨w.heap.size, 1, none⟩ rfl (lab4 e.label) (fun _ q => ebox_lab (stab_blk _ _ _ _ hb0 q)) hundL rfl hsl) (by assumption) ?_; (try simp only [Act.put, sA, sB, sC])
  refine wpAnyH_take (i := 9) (v := ?_) (by simp only [gA, gB, gC]; rfl) (by kernel_rfl) (by kernel_rfl) (by kernel_rfl) (by exact fun _ _ _ h => h) (Or.inl ⟨by rfl, ?_⟩) (by assumption) ?_; rotate_left; (focus (intro w hSw; (try dsimp only at hSw); go_simp; try with_reducible rfl)); (try simp only [Act.put, sA, sB, sC])
  refine wpAnyH_take (i := 10) (v := _) (by simp only [gA, gB, gC]; rfl) (by kernel_rfl) (by kernel_rfl) (by kernel_rfl) (by exact fun _ _ _ h => h) (yields_cell (by rfl) _ rfl ⟨w.heap.size, 5, none⟩ rfl (.string e.user) (fun _ q => ((stab_blk _ _ _ _ hb0 q).1 5 _ rfl).1) strE_load) (by assumption) ?_; (try simp only [Act.put, sA, sB, sC])
  refine wpAnyH_take (i := 14) (v := ?_) (by simp only [gA, gB, gC]; rfl) (by kernel_rfl) (by kernel_rfl) (by kernel_rfl) (by exact fun _ _ _ h => h) (Or.inl ⟨by rfl, ?_⟩) (by assumption) ?_; rotate_left; (focus (intro w hSw; (try dsimp only at hSw); go_simp; try with_reducible rfl)); (try simp only [Act.put, sA, sB, sC])
  refine wpAnyH_take (i := 15) (v := _) (by simp only [gA, gB, gC]; rfl) (by kernel_rfl) (by kernel_rfl) (by kernel_rfl) (by exact fun _ _ _ h => h) (yields_cell (by rfl) _ rfl ⟨w.heap.size, 6, none⟩ rfl (.int .i64 e.verb) (fun _ q => ((stab_blk _ _ _ _ hb0 q).1 6 _ rfl).1) intA_load) (by assumption) ?_; (try simp only [Act.put, sA, sB, sC])
  refine wpAnyH_take (i := 19) (v := ?_) (by simp only [gA, gB, gC]; rfl) (by kernel_rfl) (by kernel_rfl) (by kernel_rfl) (by exact fun _ _ _ h => h) (Or.inl ⟨by rfl, ?_⟩) (by assumption) ?_; rotate_left; (focus (intro w hSw; (try dsimp only at hSw); go_simp; try with_reducible rfl)); (try simp only [Act.put, sA, sB, sC])
  refine wpAnyH_take (i := 20) (v := _) (by simp only [gA, gB, gC]; rfl) (by kernel_rfl) (by kernel_rfl) (by kernel_rfl) (by exact fun _ _ _ h => h) (yields_cell (by rfl) _ rfl ⟨w.heap.size, 7, none⟩ rfl (.string e.object) (fun _ q => ((stab_blk _ _ _ _ hb0 q).1 7 _ rfl).1) strE_load) (by assumption) ?_; (try simp only [Act.put, sA, sB, sC])
  refine wpAnyH_take (i := 24) (v := ?_) (by simp only [gA, gB, gC]; rfl) (by kernel_rfl) (by kernel_rfl) (by kernel_rfl) (by exact fun _ _ _ h => h) (Or.inl ⟨by rfl, ?_⟩) (by assumption) ?_; rotate_left; (focus (intro w hSw; (try dsimp only at hSw); go_simp; try with_reducible rfl)); (try simp only [Act.put, sA, sB, sC])
  refine wpAnyH_take (i := 25) (v := _) (by simp only [gA, gB, gC]; rfl) (by kernel_rfl) (by kernel_rfl) (by kernel_rfl) (by exact fun _ _ _ h => h) (yields_cell (by rfl) _ rfl ⟨w.heap.size, 8, none⟩ rfl (.int .i64 e.verdict) (fun _ q => ((stab_blk _ _ _ _ hb0 q).1 8 _ rfl).1) errA_load) (by assumption) ?_; (try simp only [Act.put, sA, sB, sC])
  refine wpAnyH_ready (rs := [2]) (by kernel_rfl) (by simp) ?_
  refine AllReadyH.cons (by simp only [gA, gB, gC]; rfl) (fun K hK => ?_) AllReadyH.nil
  go_simp
  go_at_call 43
  refine (k1 w0).mono ?_
  rintro e w1 ⟨rfl, hb⟩
  have hS1 := Below.then hS0 hb
  clear hb
  refine hK.out _ _ (by exact hS1) ?_
  clear hHeld hK
  intro hHeld
  (try simp only [Act.put, sA, sB, sC])
  refine wpAnyH_take (i := 3) (v := ?_) (by simp only [gA, gB, gC]; rfl) (by kernel_rfl) (by kernel_rfl) (by kernel_rfl) (by exact fun _ _ _ h => h) (Or.inl ⟨by rfl, ?_⟩) (by assumption) ?_; rotate_left; (focus (intro w hSw; (try dsimp only at hSw); go_simp; try with_reducible rfl)); (try simp only [Act.put, sA, sB, sC])
  refine wpAnyH_ready (rs := [6]) (by kernel_rfl) (by simp) ?_
  refine AllReadyH.cons (by simp only [gA, gB, gC]; rfl) (fun K hK => ?_) AllReadyH.nil
  go_simp
  go_at_call 44
  refine (k2 w1).mono ?_
  rintro e w2 ⟨rfl, hb⟩
  have hS2 := Below.then hS1 hb
  clear hb
  refine hK.out _ _ (by exact hS2) ?_
  clear hHeld hK
  intro hHeld
  (try simp only [Act.put, sA, sB, sC])
  refine wpAnyH_take (i := 7) (v := ?_) (by simp only [gA, gB, gC]; rfl) (by kernel_rfl) (by kernel_rfl) (by kernel_rfl) (by exact fun _ _ _ h => h) (Or.inl ⟨by rfl, ?_⟩) (by assumption) ?_; rotate_left; (focus (intro w hSw; (try dsimp only at hSw); go_simp; try with_reducible rfl)); (try simp only [Act.put, sA, sB, sC])
  refine wpAnyH_take (i := 8) (v := ?_) (by simp only [gA, gB, gC]; rfl) (by kernel_rfl) (by kernel_rfl) (by kernel_rfl) (by exact fun _ _ _ h => h) (Or.inl ⟨by rfl, ?_⟩) (by assumption) ?_; rotate_left; (focus (intro w hSw; (try dsimp only at hSw); go_simp; try with_reducible rfl)); (try simp only [Act.put, sA, sB, sC])
  refine wpAnyH_ready (rs := [11]) (by kernel_rfl) (by simp) ?_
  refine AllReadyH.cons (by simp only [gA, gB, gC]; rfl) (fun K hK => ?_) AllReadyH.nil
  go_simp
  go_at_call 45
  refine (k3 w2).mono ?_
  rintro e w' ⟨rfl, hw'⟩
  replace hw' := hw'.symm
  subst hw'
  refine hK.out _ _ (by exact hS2) ?_
  clear hHeld hK
  intro hHeld
  (try simp only [Act.put, sA, sB, sC])
  refine wpAnyH_take (i := 12) (v := ?_) (by simp only [gA, gB, gC]; rfl) (by kernel_rfl) (by kernel_rfl) (by kernel_rfl) (by exact fun _ _ _ h => h) (Or.inl ⟨by rfl, ?_⟩) (by assumption) ?_; rotate_left; (focus (intro w hSw; (try dsimp only at hSw); go_simp; try with_reducible rfl)); (try simp only [Act.put, sA, sB, sC])
  refine wpAnyH_take (i := 13) (v := ?_) (by simp only [gA, gB, gC]; rfl) (by kernel_rfl) (by kernel_rfl) (by kernel_rfl) (by exact fun _ _ _ h => h) (Or.inl ⟨by rfl, ?_⟩) (by assumption) ?_; rotate_left; (focus (intro w hSw; (try dsimp only at hSw); go_simp; try with_reducible rfl)); (try simp only [Act.put, sA, sB, sC])
  refine wpAnyH_ready (rs := [16]) (by kernel_rfl) (by simp) ?_
  refine AllReadyH.cons (by simp only [gA, gB, gC]; rfl) (fun K hK => ?_) AllReadyH.nil
  go_simp
  go_at_call 46
  refine (k4 w2).mono ?_
  rintro e w3 ⟨rfl, hb⟩
  have hS3 := Below.then hS2 hb
  clear hb
  refine hK.out _ _ (by exact hS3) ?_
  clear hHeld hK
  intro hHeld
  (try simp only [Act.put, sA, sB, sC])
  refine wpAnyH_take (i := 17) (v := ?_) (by simp only [gA, gB, gC]; rfl) (by kernel_rfl) (by kernel_rfl) (by kernel_rfl) (by exact fun _ _ _ h => h) (Or.inl ⟨by rfl, ?_⟩) (by assumption) ?_; rotate_left; (focus (intro w hSw; (try dsimp only at hSw); go_simp; try with_reducible rfl)); (try simp only [Act.put, sA, sB, sC])
  refine wpAnyH_take (i := 18) (v := ?_) (by simp only [gA, gB, gC]; rfl) (by kernel_rfl) (by kernel_rfl) (by kernel_rfl) (by exact fun _ _ _ h => h) (Or.inl ⟨by rfl, ?_⟩) (by assumption) ?_; rotate_left; (focus (intro w hSw; (try dsimp only at hSw); go_simp; try with_reducible rfl)); (try simp only [Act.put, sA, sB, sC])
  refine wpAnyH_ready (rs := [21]) (by kernel_rfl) (by simp) ?_
  refine AllReadyH.cons (by simp only [gA, gB, gC]; rfl) (fun K hK => ?_) AllReadyH.nil
  go_simp
  go_at_call 45
  refine (k5 w3).mono ?_
  rintro e w' ⟨rfl, hw'⟩
  replace hw' := hw'.symm
  subst hw'
  refine hK.out _ _ (by exact hS3) ?_
  clear hHeld hK
  intro hHeld
  (try simp only [Act.put, sA, sB, sC])
  refine wpAnyH_take (i := 22) (v := ?_) (by simp only [gA, gB, gC]; rfl) (by kernel_rfl) (by kernel_rfl) (by kernel_rfl) (by exact fun _ _ _ h => h) (Or.inl ⟨by rfl, ?_⟩) (by assumption) ?_; rotate_left; (focus (intro w hSw; (try dsimp only at hSw); go_simp; try with_reducible rfl)); (try simp only [Act.put, sA, sB, sC])
  refine wpAnyH_take (i := 23) (v := ?_) (by simp only [gA, gB, gC]; rfl) (by kernel_rfl) (by kernel_rfl) (by kernel_rfl) (by exact fun _ _ _ h => h) (Or.inl ⟨by rfl, ?_⟩) (by assumption) ?_; rotate_left; (focus (intro w hSw; (try dsimp only at hSw); go_simp; try with_reducible rfl)); (try simp only [Act.put, sA, sB, sC])
  refine wpAnyH_ready (rs := [26]) (by kernel_rfl) (by simp) ?_
  refine AllReadyH.cons (by simp only [gA, gB, gC]; rfl) (fun K hK => ?_) AllReadyH.nil
  go_simp
  go_at_call 42
  refine (k6 w3).mono ?_
  rintro e w' ⟨rfl, hw'⟩
  replace hw' := hw'.symm
  subst hw'
  refine hK.out _ _ (by exact hS3) ?_
  clear hHeld hK
  intro hHeld
  (try simp only [Act.put, sA, sB, sC])
  refine wpAnyH_take (i := 27) (v := ?_) (by simp only [gA, gB, gC]; rfl) (by kernel_rfl) (by kernel_rfl) (by kernel_rfl) (by exact fun _ _ _ h => h) (Or.inl ⟨by rfl, ?_⟩) (by assumption) ?_; rotate_left; (focus (intro w hSw; (try dsimp only at hSw); go_simp; try with_reducible rfl)); (try simp only [Act.put, sA, sB, sC])
  refine wpAnyH_take (i := 28) (v := ?_) (by simp only [gA, gB, gC]; rfl) (by kernel_rfl) (by kernel_rfl) (by kernel_rfl) (by exact fun _ _ _ h => h) (Or.inl ⟨by rfl, ?_⟩) (by assumption) ?_; rotate_left; (focus (intro w hSw; (try dsimp only at hSw); go_simp; try with_reducible rfl)); (try simp only [Act.put, sA, sB, sC])
  refine wpAnyH_done (by kernel_rfl) ?_ _
  have hB := Below.then hB0 hS3
  go_wp2_with fail
  go_ret
  exact ⟨rfl, hB⟩
end Go.Proofs.YtohocomemkckeaaGreatDoor

/-! COUNTS, whatever they are made of: what the laws ask of them; the laws' small functions. -/
namespace Go.Proofs.YtohocomemkckeaaGreatDoor
open Go.RowKit
set_option maxRecDepth 8000
set_option linter.unusedSimpArgs false
set_option linter.unusedVariables false

/-- Nothing has turned but blocks of S. -/
structure Turned (S : List Nat) (w w' : World) : Prop where
  os : w'.os = w.os
  tape : w'.tape = w.tape
  output : w'.output = w.output
  size : w.heap.size ≤ w'.heap.size
  block : ∀ k, k < w.heap.size → k ∉ S → w'.heap[k]? = w.heap[k]?
theorem Turned.below {S : List Nat} {w w' : World} (h : Turned S w w') {B : Nat} (hS : ∀ k ∈ S, B ≤ k) (hB : B ≤ w.heap.size) : Below B w w' :=
  ⟨h.os, h.tape, h.output, h.size, fun k hk => h.block k (by omega) fun q => by have := hS k q; omega⟩
theorem Turned.blk {S : List Nat} {w w' : World} (h : Turned S w w') {g : Nat} {cs : List Value} (hb : BlkL g cs w) (hg : g ∉ S) : BlkL g cs w' := ⟨hb.1.same (h.block g hb.2 hg), Nat.lt_of_lt_of_le hb.2 h.size⟩
theorem Turned.own {α : Type} {S : List Nat} {w w' : World} (h : Turned S w w') {e : TypeId} {sz : Nat} {f : α → List Value} {b : Nat} {v : Value} {l : List α} (ho : OwnR e sz f w b v l) (hb : ∀ k ∈ S, k < b) : OwnR e sz f w' b v l :=
  ho.keep fun k hk => h.block k (ho.lt hk).2 fun q => by have := hb k q; have := (ho.lt hk).1; omega
theorem Turned.own' {α : Type} {S : List Nat} {w w' : World} (h : Turned S w w') {e : TypeId} {sz : Nat} {f : α → List Value} {b : Nat} {v : Value} {l : List α} (ho : OwnR e sz f w b v l) (hb : ∀ k, v.ownBlock = some k → k ∉ S) : OwnR e sz f w' b v l :=
  ho.keep fun k hk => h.block k (ho.lt hk).2 (hb k hk)
theorem Turned.then {S : List Nat} {w w' w'' : World} (h : Turned S w w') (k : Below w'.heap.size w' w'') : Turned S w w'' :=
  ⟨k.os.trans h.os, k.tape.trans h.tape, k.output.trans h.output, Nat.le_trans h.size k.size, fun j hj hn => (k.block j (Nat.lt_of_lt_of_le hj h.size)).trans (h.block j hj hn)⟩
end Go.Proofs.YtohocomemkckeaaGreatDoor

/-! THE LAWS' SMALL FUNCTIONS (chapter 14), and what the laws ask of package audit, whatever it is made of. -/
namespace Go.Proofs.YtohocomemkckeaaGreatDoor
open Go.RowKit
set_option maxRecDepth 8000
set_option linter.unusedSimpArgs false
set_option linter.unusedVariables false

theorem run_eql_ent (x y : Ent) (w : World) : (binOp .eql 31 (.agg (ecs x).toArray) (.agg (ecs y).toArray)).run Tryz.prog w = .ok (.bool (entEq x y)) w := by
  have h1 := Tryz.underlying31
  have h2 := Tryz.underlying28
  have h3 := Tryz.underlying3
  have h4 := Tryz.underlying9
  have h5 := Tryz.underlying29
  unfold ecs entEq labEq eqs
  go_simp
  repeat' split
  all_goals simp_all
theorem run_neq_ent (x y : Ent) (w : World) : (binOp .neq 31 (.agg (ecs x).toArray) (.agg (ecs y).toArray)).run Tryz.prog w = .ok (.bool (!entEq x y)) w := by
  have h1 := Tryz.underlying31
  have h2 := Tryz.underlying28
  have h3 := Tryz.underlying3
  have h4 := Tryz.underlying9
  have h5 := Tryz.underlying29
  unfold ecs entEq labEq eqs
  go_simp
  repeat' split
  all_goals simp_all
set_option maxHeartbeats 400000 in
theorem w14_any (k m : Int) (h0 : 0 < m) (h1 : m < 1000000) (w : World) :
    Calls Tryz.prog 21 #[.int .i64 k, .int .i64 m] w fun e w' => e = .returned (.int .i64 (k % m)) ∧ w' = w := by
  have b1 := Int.lt_tmod_of_pos k h0
  have b2 := Int.tmod_lt_of_pos k h0
  have hm0 : ¬ m = 0 := by omega
  have hm1 : ¬ m = -1 := by omega
  by_cases hn : k.tmod m < 0
  · have e1 : k % m = k.tmod m + m := by
      rw [Int.tmod_eq_emod] at hn ⊢
      split at hn
      · have := Int.emod_nonneg k (by omega : m ≠ 0); omega
      · rename_i hc; rw [if_neg hc]; rw [Int.natAbs_of_nonneg (by omega)]; omega
    rw [e1]
    clear e1
    go_enter Tryz.func21, Tryz.ntmps21
    go_wp2
    go_ret
    exact ⟨rfl, rfl⟩
  · have e1 : k % m = k.tmod m := by
      rw [Int.tmod_eq_emod] at hn ⊢
      split
      · simp
      · rename_i hc
        rw [if_neg hc] at hn
        have := Int.emod_lt_of_pos k h0
        rw [Int.natAbs_of_nonneg (by omega)] at *
        omega
    rw [e1]
    clear e1
    go_enter Tryz.func21, Tryz.ntmps21
    go_wp2
    go_ret
    exact ⟨rfl, rfl⟩
set_option maxHeartbeats 2000000 in
theorem same_any (a b : Option Addr) (ca cb : Nat) (l : List Ent) (hl : l.length ≤ 100000) (w : World) (ha : RowE w a l) (hb : RowE w b l) :
    Calls Tryz.prog 10 #[.slice a l.length ca, .slice b l.length cb] w fun e w' => e = .returned (.bool true) ∧ Below w.heap.size w w' := by
  have hundE := Tryz.underlying31
  have hse : (Tryz.prog.info? 31).map (·.size) = some 9 := by kernel_rfl
  obtain ⟨n, hn⟩ : ∃ n, l.length = n := ⟨_, rfl⟩
  rw [hn] at hl ⊢
  replace hn : Aside (l.length = n) := hn
  go_enter Tryz.func10, Tryz.ntmps10
  go_wp2_with fail
  go_loopw [5] (fun t5 wr => ∃ i : Nat, i ≤ n ∧ t5 = .int .i64 (i : Int) ∧ Below w.heap.size w wr) (fun t5 _ => n - (Go.RowKit.intOf t5).toNat)
  case atStart => exact ⟨0, by omega, rfl, Below.refl _ _⟩
  case round =>
    obtain ⟨i, hi, rfl, hB⟩ := hrel
    by_cases hlt : i < n
    · obtain ⟨x, hx⟩ : ∃ x, l[i]? = some x := ⟨_, List.getElem?_eq_getElem (by rw [hn.out]; exact hlt)⟩
      obtain ⟨y, rfl, -⟩ := ha i x hx
      obtain ⟨z, rfl, -⟩ := hb i x hx
      have hBd := Below.then hB (Below.refl wr.heap.size wr).drew
      have hS : (fun W => Below w.heap.size w W) wr.drew := hBd
      have hnq : ∀ W, (binOp .neq 31 (.agg (ecs x).toArray) (.agg (ecs x).toArray)).run Tryz.prog W = .ok (.bool false) W := fun W => by rw [run_neq_ent, entEq_iff.2 rfl]; rfl
      have i1 : (i : Int) < (n : Int) := by omega
      go_wp2_with fail
      refine wp_region_held_drew (S := (fun W => Below w.heap.size w W)) (by kernel_rfl) (by exact hS) ?_
      intro hHeld
      (first | (refine wpAnyH_take (i := 0) (v := ?_) (by simp only [gA, gB, gC]; rfl) (by kernel_rfl) (by kernel_rfl) (by kernel_rfl) (by exact fun _ _ _ h => h) (Or.inl ⟨by rfl, ?_⟩) (by assumption) ?_; rotate_left; (focus (intro w hSw; (try dsimp only at hSw); go_simp; try with_reducible rfl))) | (refine wpAnyH_take (i := 0) (v := undef) (by simp only [gA, gB, gC]; rfl) (by kernel_rfl) (by kernel_rfl) (by kernel_rfl) (by exact fun _ _ _ h => h) (Or.inr ⟨by rfl, rfl⟩) (by assumption) ?_) | fail); simp only [Act.put, sA, sB, sC]
      (first | (refine wpAnyH_take (i := 1) (v := ?_) (by simp only [gA, gB, gC]; rfl) (by kernel_rfl) (by kernel_rfl) (by kernel_rfl) (by exact fun _ _ _ h => h) (Or.inl ⟨by rfl, ?_⟩) (by assumption) ?_; rotate_left; (focus (intro w hSw; (try dsimp only at hSw); go_simp; try with_reducible rfl))) | (refine wpAnyH_take (i := 1) (v := undef) (by simp only [gA, gB, gC]; rfl) (by kernel_rfl) (by kernel_rfl) (by kernel_rfl) (by exact fun _ _ _ h => h) (Or.inr ⟨by rfl, rfl⟩) (by assumption) ?_) | fail); simp only [Act.put, sA, sB, sC]
      (first | (refine wpAnyH_take (i := 2) (v := ?_) (by simp only [gA, gB, gC]; rfl) (by kernel_rfl) (by kernel_rfl) (by kernel_rfl) (by exact fun _ _ _ h => h) (Or.inl ⟨by rfl, ?_⟩) (by assumption) ?_; rotate_left; (focus (intro w hSw; (try dsimp only at hSw); go_simp; try with_reducible rfl))) | (refine wpAnyH_take (i := 2) (v := undef) (by simp only [gA, gB, gC]; rfl) (by kernel_rfl) (by kernel_rfl) (by kernel_rfl) (by exact fun _ _ _ h => h) (Or.inr ⟨by rfl, rfl⟩) (by assumption) ?_) | fail); simp only [Act.put, sA, sB, sC]
      (first | (refine wpAnyH_take (i := 3) (v := _) (by simp only [gA, gB, gC]; rfl) (by kernel_rfl) (by kernel_rfl) (by kernel_rfl) (by exact fun _ _ _ h => h) (yields_at (by rfl) _ rfl _ rfl (ecs x) (fun _ q => (ha.below ent_ok.len q).at ent_ok.len hx) hundE rfl hse) (by assumption) ?_) | (refine wpAnyH_take (i := 3) (v := undef) (by simp only [gA, gB, gC]; rfl) (by kernel_rfl) (by kernel_rfl) (by kernel_rfl) (by exact fun _ _ _ h => h) (Or.inr ⟨by rfl, rfl⟩) (by assumption) ?_) | fail); simp only [Act.put, sA, sB, sC]
      (first | (refine wpAnyH_take (i := 4) (v := ?_) (by simp only [gA, gB, gC]; rfl) (by kernel_rfl) (by kernel_rfl) (by kernel_rfl) (by exact fun _ _ _ h => h) (Or.inl ⟨by rfl, ?_⟩) (by assumption) ?_; rotate_left; (focus (intro w hSw; (try dsimp only at hSw); go_simp; try with_reducible rfl))) | (refine wpAnyH_take (i := 4) (v := undef) (by simp only [gA, gB, gC]; rfl) (by kernel_rfl) (by kernel_rfl) (by kernel_rfl) (by exact fun _ _ _ h => h) (Or.inr ⟨by rfl, rfl⟩) (by assumption) ?_) | fail); simp only [Act.put, sA, sB, sC]
      (first | (refine wpAnyH_take (i := 5) (v := ?_) (by simp only [gA, gB, gC]; rfl) (by kernel_rfl) (by kernel_rfl) (by kernel_rfl) (by exact fun _ _ _ h => h) (Or.inl ⟨by rfl, ?_⟩) (by assumption) ?_; rotate_left; (focus (intro w hSw; (try dsimp only at hSw); go_simp; try with_reducible rfl))) | (refine wpAnyH_take (i := 5) (v := undef) (by simp only [gA, gB, gC]; rfl) (by kernel_rfl) (by kernel_rfl) (by kernel_rfl) (by exact fun _ _ _ h => h) (Or.inr ⟨by rfl, rfl⟩) (by assumption) ?_) | fail); simp only [Act.put, sA, sB, sC]
      (first | (refine wpAnyH_take (i := 6) (v := ?_) (by simp only [gA, gB, gC]; rfl) (by kernel_rfl) (by kernel_rfl) (by kernel_rfl) (by exact fun _ _ _ h => h) (Or.inl ⟨by rfl, ?_⟩) (by assumption) ?_; rotate_left; (focus (intro w hSw; (try dsimp only at hSw); go_simp; try with_reducible rfl))) | (refine wpAnyH_take (i := 6) (v := undef) (by simp only [gA, gB, gC]; rfl) (by kernel_rfl) (by kernel_rfl) (by kernel_rfl) (by exact fun _ _ _ h => h) (Or.inr ⟨by rfl, rfl⟩) (by assumption) ?_) | fail); simp only [Act.put, sA, sB, sC]
      (first | (refine wpAnyH_take (i := 7) (v := _) (by simp only [gA, gB, gC]; rfl) (by kernel_rfl) (by kernel_rfl) (by kernel_rfl) (by exact fun _ _ _ h => h) (yields_at (by rfl) _ rfl _ rfl (ecs x) (fun _ q => (hb.below ent_ok.len q).at ent_ok.len hx) hundE rfl hse) (by assumption) ?_) | (refine wpAnyH_take (i := 7) (v := undef) (by simp only [gA, gB, gC]; rfl) (by kernel_rfl) (by kernel_rfl) (by kernel_rfl) (by exact fun _ _ _ h => h) (Or.inr ⟨by rfl, rfl⟩) (by assumption) ?_) | fail); simp only [Act.put, sA, sB, sC]
      (first | (refine wpAnyH_take (i := 8) (v := ?_) (by simp only [gA, gB, gC]; rfl) (by kernel_rfl) (by kernel_rfl) (by kernel_rfl) (by exact fun _ _ _ h => h) (Or.inl ⟨by rfl, ?_⟩) (by assumption) ?_; rotate_left; (focus (intro w hSw; (try dsimp only at hSw); go_simp; try with_reducible rfl))) | (refine wpAnyH_take (i := 8) (v := undef) (by simp only [gA, gB, gC]; rfl) (by kernel_rfl) (by kernel_rfl) (by kernel_rfl) (by exact fun _ _ _ h => h) (Or.inr ⟨by rfl, rfl⟩) (by assumption) ?_) | fail); simp only [Act.put, sA, sB, sC]
      refine wpAnyH_done (by kernel_rfl) ?_ _
      go_wp2_with fail
      exact ⟨⟨i + 1, by omega, by simp, hBd⟩, by simp [Go.RowKit.intOf]; omega⟩
    · obtain rfl : i = n := by omega
      go_wp2_with fail
      go_ret
      exact ⟨rfl, hB⟩
theorem set_verb (W : World) (g : Nat) (e : Ent) (s : Int) (h : BlkL g (ecs e) W) : BlkL g (ecs { e with verb := s }) (W.setCell ⟨g, 6, none⟩ (.int .i64 s)) := by
  have h1 := h.1.set 6 (.int .i64 s) (by simp [ecs])
  exact ⟨h1, h1.lt rfl⟩
theorem set_verdict (W : World) (g : Nat) (e : Ent) (s : Int) (h : BlkL g (ecs e) W) : BlkL g (ecs { e with verdict := s }) (W.setCell ⟨g, 8, none⟩ (.int .i64 s)) := by
  have h1 := h.1.set 8 (.int .i64 s) (by simp [ecs])
  exact ⟨h1, h1.lt rfl⟩
theorem set_user (W : World) (g : Nat) (e : Ent) (s : ByteArray) (h : BlkL g (ecs e) W) : BlkL g (ecs { e with user := s }) (W.setCell ⟨g, 5, none⟩ (.string s)) := by
  have h1 := h.1.set 5 (.string s) (by simp [ecs])
  exact ⟨h1, h1.lt rfl⟩
theorem set_object (W : World) (g : Nat) (e : Ent) (s : ByteArray) (h : BlkL g (ecs e) W) : BlkL g (ecs { e with object := s }) (W.setCell ⟨g, 7, none⟩ (.string s)) := by
  have h1 := h.1.set 7 (.string s) (by simp [ecs])
  exact ⟨h1, h1.lt rfl⟩
abbrev zE : Array Value := #[.int .i64 0, .int .i64 0, .int .i64 0, .int .i64 0, .int .i64 0, .string ⟨#[]⟩, .int .i64 0, .string ⟨#[]⟩, .int .i64 0]
/-- The argument's box, the result's, and what lay there. -/
structure GE (w W : World) (e : Ent) : Prop where
  bl : Below w.heap.size w W
  bx : BlkL w.heap.size (ecs e) W
  rs : BlkL (w.heap.size + 1) zE.toList W
theorem GE.then {w W W' : World} {e : Ent} (h : GE w W e) (b : Below W.heap.size W W') : GE w W' e := ⟨Below.then h.bl b, stab_blk _ _ _ _ h.bx b, stab_blk _ _ _ _ h.rs b⟩
theorem GE.set {w W : World} {e e' : Ent} (h : GE w W e) (k : Nat) (v : Value) (hb : BlkL w.heap.size (ecs e') (W.setCell ⟨w.heap.size, k, none⟩ v)) : GE w (W.setCell ⟨w.heap.size, k, none⟩ v) e' :=
  ⟨h.bl.setCell (p := ⟨w.heap.size, k, none⟩) (Nat.le_refl _) v, hb, by
    have h1 := h.rs.1.same (heap_setCell_other W ⟨w.heap.size, k, none⟩ (w.heap.size + 1) v (by show w.heap.size + 1 ≠ w.heap.size; omega))
    exact ⟨h1, h1.lt rfl⟩⟩
set_option maxRecDepth 8000 in
set_option maxHeartbeats 4000000 in
theorem agood_any (e : Ent) (w : World) :
    Calls Tryz.prog 6 #[.agg (ecs e).toArray] w fun r w' => r = .returned (.agg (ecs (goodE e)).toArray) ∧ Below w.heap.size w w' := by
  have hundL := Tryz.underlying28
  have hundE := Tryz.underlying31
  have hsl : (Tryz.prog.info? 28).map (·.size) = some 4 := by kernel_rfl
  have hse : (Tryz.prog.info? 31).map (·.size) = some 9 := by kernel_rfl
  have hb0 := blkl_alloc w (ecs e).toArray 31
  have hB0 := alloc_below w (.cells (ecs e).toArray 31)
  have hB1 := alloc_below (w.alloc (.cells (ecs e).toArray 31)) (.cells zE 31)
  have hb1 := blkl_alloc (w.alloc (.cells (ecs e).toArray 31)) zE 31
  rw [World.size_alloc] at hb1
  have h0 : GE w ((w.alloc (.cells (ecs e).toArray 31)).alloc (.cells zE 31)) e := ⟨Below.then hB0 hB1, stab_blk _ _ _ _ hb0 hB1, hb1⟩
  clear hb0 hB0 hB1 hb1
  have hcs : ecs e = [.int .i64 e.seq, .int .i64 e.label.s, .int .i64 e.label.c, .int .i64 e.label.i, .int .i64 e.label.k, .string e.user, .int .i64 e.verb, .string e.object, .int .i64 e.verdict] := rfl
  obtain ⟨R, hR⟩ : ∃ R, goodE e = R := ⟨_, rfl⟩
  rw [hR]
  replace hR : Aside (goodE e = R) := hR
  rw [hcs] at h0 ⊢
  go_enter Tryz.func6, Tryz.ntmps6
  go_upto_region 1 with fail
  generalize (w.alloc (.cells ([.int .i64 e.seq, .int .i64 e.label.s, .int .i64 e.label.c, .int .i64 e.label.i, .int .i64 e.label.k, .string e.user, .int .i64 e.verb, .string e.object, .int .i64 e.verdict]).toArray 31)).alloc (.cells zE 31) = W0 at *
  clear hcs
  have hcl := ebox_lab h0.bx
  go_wp2_with (first | (refine wpList_load_at rfl _ rfl ⟨w.heap.size, 1, none⟩ rfl (lab4 e.label) hcl hundL rfl hsl ?_) | fail)
  refine (good_any e.label W0).mono ?_
  rintro r W1 ⟨rfl, hB1⟩
  have h1 := h0.then hB1
  clear h0 hcl hB1
  obtain ⟨W2, hW2, hth2, hb2, hB2⟩ := put_mid h1.bx 1 (lab4 (goodL e.label)) (by simp [ecs]) (by simp [ecs]) h1.bl (Nat.le_refl _)
  have h2 : GE w W2 { e with label := goodL e.label } := ⟨hB2, hb2, h1.rs.other hW2 (by omega)⟩
  obtain ⟨e2, he2⟩ : ∃ e2, ({ e with label := goodL e.label } : Ent) = e2 := ⟨_, rfl⟩
  rw [he2] at h2
  clear hb2 hB2 h1
  have z6 := (h2.bx.1 6 _ rfl).1
  have kw := w14_any e2.verb 14 (by decide) (by decide) W2
  have hm14 : 0 ≤ e2.verb % 14 ∧ e2.verb % 14 < 14 := ⟨Int.emod_nonneg _ (by decide), Int.emod_lt_of_pos _ (by decide)⟩
  obtain ⟨m, hm⟩ : ∃ m, e2.verb % 14 = m := ⟨_, rfl⟩
  rw [hm] at kw hm14
  go_upto_region 2 with (first | (refine wpList_store_part rfl _ _ rfl w.heap.size 1 rfl (lab4 (goodL e.label)) rfl hth2 hsl (lab4_one _) hW2 ?_) | fail)
  clear hth2 hW2
  replace hm : Aside (e2.verb % 14 = m) := hm
  go_wp2_with fail
  refine kw.mono ?_
  rintro r w' ⟨rfl, hw'⟩
  replace hw' := hw'.symm
  subst hw'
  obtain ⟨-, f6⟩ := h2.bx.1 6 _ rfl
  have h3 := h2.set 6 _ (set_verb _ _ _ (1 + m) h2.bx)
  obtain ⟨e3, he3⟩ : ∃ e3, ({ e2 with verb := 1 + m } : Ent) = e3 := ⟨_, rfl⟩
  rw [he3] at h3
  go_upto_region 3 with fail
  generalize W2.setCell ⟨w.heap.size, 6, none⟩ (.int .i64 (1 + m)) = W3 at *
  clear z6 kw h2 f6 hm14
  have z8 := (h3.bx.1 8 _ rfl).1
  have kw := w14_any e3.verdict 38 (by decide) (by decide) W3
  obtain ⟨d, hd⟩ : ∃ d, e3.verdict % 38 = d := ⟨_, rfl⟩
  rw [hd] at kw
  replace hd : Aside (e3.verdict % 38 = d) := hd
  go_wp2_with fail
  refine kw.mono ?_
  rintro r w' ⟨rfl, hw'⟩
  replace hw' := hw'.symm
  subst hw'
  obtain ⟨-, f8⟩ := h3.bx.1 8 _ rfl
  have h4 := h3.set 8 _ (set_verdict _ _ _ d h3.bx)
  obtain ⟨e4, he4⟩ : ∃ e4, ({ e3 with verdict := d } : Ent) = e4 := ⟨_, rfl⟩
  rw [he4] at h4
  go_upto_region 4 with fail
  generalize W3.setCell ⟨w.heap.size, 8, none⟩ (.int .i64 d) = W4 at *
  clear z8 kw h3 f8
  have z5 := (h4.bx.1 5 _ rfl).1
  obtain ⟨-, f5⟩ := h4.bx.1 5 _ rfl
  go_upto_if 19 with fail
  go_cut [] from 3 (fun wc => GE w wc { e4 with user := cutS e4.user 12 })
  case first =>
    by_cases hc : 12 < e4.user.size
    · have i1 : (12 : Int) < (e4.user.size : Int) := by omega
      have hcu : cutS e4.user 12 = e4.user.extract 0 12 := by unfold cutS; rw [if_pos hc]
      have h5 : GE w (W4.setCell ⟨w.heap.size, 5, none⟩ (.string (e4.user.extract 0 12))) { e4 with user := cutS e4.user 12 } := by rw [hcu]; exact h4.set 5 _ (set_user _ _ _ (e4.user.extract 0 12) h4.bx)
      clear hcu
      go_wp2_with fail
      go_meet
      exact h5
    · have i1 : ¬ (12 : Int) < (e4.user.size : Int) := by omega
      have hcu : cutS e4.user 12 = e4.user := by unfold cutS; rw [if_neg hc]
      have h5 : GE w W4 { e4 with user := cutS e4.user 12 } := by rw [hcu]; exact h4
      clear hcu
      go_wp2_with fail
      go_meet
      exact h5
  case rest =>
  clear h4 z5 f5
  have h5 := hcut
  clear hcut
  obtain ⟨e5, he5⟩ : ∃ e5, ({ e4 with user := cutS e4.user 12 } : Ent) = e5 := ⟨_, rfl⟩
  rw [he5] at h5
  have z7 := (h5.bx.1 7 _ rfl).1
  obtain ⟨-, f7⟩ := h5.bx.1 7 _ rfl
  go_upto_if 27 with fail
  go_cut [] from 3 (fun wd => GE w wd { e5 with object := cutS e5.object 30 })
  case first =>
    by_cases hc : 30 < e5.object.size
    · have i1 : (30 : Int) < (e5.object.size : Int) := by omega
      have hcu : cutS e5.object 30 = e5.object.extract 0 30 := by unfold cutS; rw [if_pos hc]
      have h6 : GE w (wc.setCell ⟨w.heap.size, 7, none⟩ (.string (e5.object.extract 0 30))) { e5 with object := cutS e5.object 30 } := by rw [hcu]; exact h5.set 7 _ (set_object _ _ _ (e5.object.extract 0 30) h5.bx)
      clear hcu
      go_wp2_with fail
      go_meet
      exact h6
    · have i1 : ¬ (30 : Int) < (e5.object.size : Int) := by omega
      have hcu : cutS e5.object 30 = e5.object := by unfold cutS; rw [if_neg hc]
      have h6 : GE w wc { e5 with object := cutS e5.object 30 } := by rw [hcu]; exact h5
      clear hcu
      go_wp2_with fail
      go_meet
      exact h6
  case rest =>
  clear h5 z7 f7
  have h6 := hcut
  clear hcut
  have hRe : ({ e5 with object := cutS e5.object 30 } : Ent) = R := by
    rw [← hR.out, ← he5, ← he4, ← he3, ← he2]
    unfold goodE
    rw [← hd.out, ← hm.out, ← he3, ← he2]
  rw [hRe] at h6
  have hrg := h6.bx.range
  obtain ⟨W9, hW9, hth9, hk9, hb9⟩ := put_mid h6.rs 0 (ecs R) (by simp [ecs]) (by simp) h6.bl (by omega)
  replace hk9 : BlkL (w.heap.size + 1) (ecs R) W9 := hk9
  clear hRe he5 he4 he3 he2 hR hd hm
  go_wp2_with (first | (refine wpList_load_row rfl _ rfl w.heap.size rfl (ecs R) hrg hundE rfl hse ?_) | (refine wpList_store_part rfl _ _ rfl (w.heap.size + 1) 0 rfl (ecs R) rfl hth9 hse (ent_one R) hW9 ?_) | fail)
  refine bodyPost_ret (v := .agg (ecs R).toArray) (results_row1 rfl _ _ (w.heap.size + 1) rfl (ecs R) hk9.range hundE rfl hse) rfl ?_
  exact ⟨rfl, hb9⟩
end Go.Proofs.YtohocomemkckeaaGreatDoor

/-! WHAT THE LAWS ASK OF PACKAGE audit, whatever it is made of (chapter 14); the chapter's example. -/
namespace Go.Proofs.YtohocomemkckeaaGreatDoor
open Go.RowKit
set_option maxRecDepth 8000
set_option linter.unusedSimpArgs false
set_option linter.unusedVariables false

/-- A row that is told: its block lies from b on, and there it stands. -/
structure TellE (w : World) (b : Nat) (v : Value) (l : List Ent) : Prop where
  sl : ∃ a cap, v = .slice a l.length cap ∧ l.length ≤ cap ∧ (a = none → cap = 0) ∧ RowE w a l
  ln : ∀ k, v.ownBlock = some k → b ≤ k ∧ k < w.heap.size
theorem TellE.lt {w : World} {b : Nat} {v : Value} {l : List Ent} (h : TellE w b v l) {k : Nat} (hk : v.ownBlock = some k) : b ≤ k ∧ k < w.heap.size := h.ln k hk
theorem addA_block (y : Addr) (m : Nat) : (y.add m).block = y.block := by
  unfold Addr.add
  split <;> rfl
theorem RowAt.keepB {α : Type} {sz : Nat} {f : α → List Value} {w w' : World} {a : Option Addr} {l : List α} (h : RowAt sz f w a l) (hb : ∀ y, a = some y → w'.heap[y.block]? = w.heap[y.block]?) : RowAt sz f w' a l := fun j x hx => by
  obtain ⟨y, hy, hc⟩ := h j x hx
  refine ⟨y, hy, fun i hi => ?_⟩
  rw [← hc i hi]
  exact World.cell?_of_block (by rw [addA_block]; exact hb y hy)
theorem TellE.keep {w w' : World} {b : Nat} {v : Value} {l : List Ent} (h : TellE w b v l) (hb : ∀ k, v.ownBlock = some k → w'.heap[k]? = w.heap[k]?) : TellE w' b v l := by
  obtain ⟨⟨a, cap, rfl, h1, h2, h3⟩, h4⟩ := h
  refine ⟨⟨a, cap, rfl, h1, h2, h3.keepB fun y hy => hb y.block (by rw [hy]; rfl)⟩, fun k hk => ⟨(h4 k hk).1, ?_⟩⟩
  have h5 := hb k hk
  rw [Array.getElem?_eq_getElem (h4 k hk).2] at h5
  exact (Array.getElem?_eq_some_iff.1 h5).1
theorem TellE.below {w w' : World} {b : Nat} {v : Value} {l : List Ent} (h : TellE w b v l) (k : Below w.heap.size w w') : TellE w' b v l := h.keep fun j hj => k.block j (h.lt hj).2
theorem TellE.lower {w : World} {b c : Nat} {v : Value} {l : List Ent} (h : TellE w b v l) (hb : c ≤ b) : TellE w c v l := ⟨h.sl, fun k hk => ⟨Nat.le_trans hb (h.ln k hk).1, (h.ln k hk).2⟩⟩
theorem tell_own {w : World} {b : Nat} {v : Value} {l : List Ent} (h : OwnE w b v l) : TellE w b v l := ⟨OwnR.slice ent_ok.len h, fun k hk => OwnR.lt h hk⟩
/-- I w: what the calls lean on of the library's variables. Q w S p st: at p lies a log of the entries st, in the blocks S. -/
structure LogOk (I : World → Prop) (Q : World → List Nat → Addr → List Ent → Prop) : Prop where
  keep : ∀ {w w' : World} {S : List Nat} {p : Addr} {st : List Ent}, Q w S p st → (∀ k ∈ S, w'.heap[k]? = w.heap[k]?) → Q w' S p st
  lt : ∀ {w : World} {S : List Nat} {p : Addr} {st : List Ent}, Q w S p st → ∀ k ∈ S, k < w.heap.size
  new : ∀ w, I w → Calls Tryz.prog 5 #[] w fun e w' => ∃ p S, e = .returned (.pointer (some p)) ∧ Q w' S p [] ∧ (∀ k ∈ S, w.heap.size ≤ k) ∧ Below w.heap.size w w'
  add : ∀ {S p st} (e : Ent) (_ : e.Small) (w : World), I w → Q w S p st → AudSt st → st.length ≤ 200 → Calls Tryz.prog 8 #[.pointer (some p), .agg (ecs e).toArray] w fun r w' => r = .returned (.int .i64 (audErr st e)) ∧ ∃ S', Q w' S' p (audAdd st e) ∧ Turned S w w' ∧ ∀ k ∈ S', k ∈ S ∨ w.heap.size ≤ k
  full : ∀ {S p st} (t : Lab) (_ : GL t) (w : World), I w → Q w S p st → AudSt st → st.length ≤ 200 → Calls Tryz.prog 15 #[.pointer (some p), t.v] w fun r w' => r = .returned (.bool (audFull st t)) ∧ Below w.heap.size w w'
  all : ∀ {S p st} (t : Lab) (_ : GL t) (w : World), I w → Q w S p st → AudSt st → st.length ≤ 200 → Calls Tryz.prog 11 #[.pointer (some p), t.v] w fun r w' => ∃ v, r = .returned v ∧ TellE w' w.heap.size v (audAll st t) ∧ Below w.heap.size w w'
  seen : ∀ {S p st} (t : Lab) (_ : GL t) (w : World), I w → Q w S p st → AudSt st → st.length ≤ 200 → Calls Tryz.prog 13 #[.pointer (some p), t.v] w fun r w' => ∃ v, r = .returned v ∧ TellE w' w.heap.size v (audSeen st t) ∧ Below w.heap.size w w'
  chain : ∀ {S p st} (t : Lab) (_ : GL t) (w : World), I w → Q w S p st → AudSt st → st.length ≤ 200 → Calls Tryz.prog 17 #[.pointer (some p), t.v] w fun r w' => r = .returned (.int .u64 ((audChain st t : Nat) : Int)) ∧ Below w.heap.size w w'
  text : ∀ (e : Ent) (_ : audMay e = 0) (_ : -9223372036854775808 ≤ e.seq ∧ e.seq ≤ 9223372036854775807) (w : World), I w → Calls Tryz.prog 19 #[.agg (ecs e).toArray] w fun r w' => r = .returned (.string (audText e)) ∧ Below w.heap.size w w'
theorem LogOk.below {I : World → Prop} {Q : World → List Nat → Addr → List Ent → Prop} (C : LogOk I Q) {w w' : World} {S : List Nat} {p : Addr} {st : List Ent} (h : Q w S p st) (b : Below w.heap.size w w') : Q w' S p st := C.keep h fun k hk => b.block k (C.lt h k hk)
theorem may_small {e : Ent} (h : audMay e = 0) : e.Small := by
  obtain ⟨_, _, _, h1, h2, _⟩ := may_zero.1 h
  exact ⟨by omega, by omega⟩
def knE : Ent := ⟨1, ⟨0, 0, 3, 255⟩, ⟨#[97]⟩, 2, ⟨#[47, 120]⟩, 0⟩
theorem knE_may : audMay knE = 0 := by decide +kernel
theorem knE_text : audText knE = ⟨#[49, 32, 48, 46, 48, 46, 51, 46, 50, 53, 53, 32, 97, 32, 115, 101, 103, 32, 47, 120, 32, 111, 107]⟩ := by
  unfold audText knE
  simp only [ltextB]
  rw [show (1 : Int) = ((1 : Nat) : Int) from rfl, itoa_pos, dg_low 1 (by decide), show (0 : Int) = ((0 : Nat) : Int) from rfl, itoa_pos, dg_low 0 (by decide), show (3 : Int) = ((3 : Nat) : Int) from rfl, itoa_pos, dg_low 3 (by decide), show (255 : Int) = ((255 : Nat) : Int) from rfl, itoa_pos, dg_next 255 (by decide), dg_next (255 / 10) (by decide), dg_low (255 / 10 / 10) (by decide), dg_low (255 / 10 % 10) (by decide)]
  decide +kernel
set_option maxHeartbeats 1000000 in
theorem aknown_any {I : World → Prop} {Q : World → List Nat → Addr → List Ent → Prop} (C : LogOk I Q) (w : World) (hI : I w) : Calls Tryz.prog 4 #[] w fun e w' => e = .returned (.bool true) ∧ Below w.heap.size w w' := by
  have kt := C.text knE knE_may (by decide) w hI
  rw [knE_text] at kt
  replace kt : Calls Tryz.prog 19 #[.agg #[.int .i64 1, .int .i64 0, .int .i64 0, .int .i64 3, .int .i64 255, .string ⟨#[97]⟩, .int .i64 2, .string ⟨#[47, 120]⟩, .int .i64 0]] w _ := kt
  go_enter Tryz.func4, Tryz.ntmps4
  go_wp2_with fail
  refine kt.mono ?_
  rintro e W1 ⟨rfl, hB⟩
  go_wp2_with fail
  go_ret
  exact ⟨rfl, hB⟩
/-- A label's box of one's own turned. -/
theorem turn_labA {b : Nat} {W : World} {s : Lab} (t : Lab) (hb : BlkL b (lab4 s) W) : ∃ W', W.setCells b 0 (lab4 t) = W' ∧ W.there b 0 (lab4 t).length ∧ BlkL b (lab4 t) W' ∧ (∀ k, k ≠ b → W'.heap[k]? = W.heap[k]?) ∧ ∀ B W0, B ≤ b → Below B W0 W → Below B W0 W' := by
  have h1 : Blk (W.setCells b 0 (lab4 t)) b (lab4 t) := hb.1.setAll rfl
  exact ⟨_, rfl, hb.1.there, ⟨h1, h1.lt rfl⟩, fun k hk => heap_setCells_other hk _ _ _, fun B W0 hB h => Below.cells hB _ 0 h⟩
/-- A log in the law's own world: its blocks lie from b on. -/
structure LG (Q : World → List Nat → Addr → List Ent → Prop) (b : Nat) (W : World) (p : Addr) (st : List Ent) : Prop where
  q : ∃ S, Q W S p st ∧ ∀ k ∈ S, b ≤ k
  ok : AudSt st
theorem LG.below {I : World → Prop} {Q : World → List Nat → Addr → List Ent → Prop} (C : LogOk I Q) {b : Nat} {W W' : World} {p : Addr} {st : List Ent} (h : LG Q b W p st) (k : Below W.heap.size W W') : LG Q b W' p st := by
  obtain ⟨S, h1, h2⟩ := h.q
  exact ⟨⟨S, C.below h1 k, h2⟩, h.ok⟩
/-- An entry added: what lies below b, or was made since X, is as it was. -/
theorem LG.add {I : World → Prop} {Q : World → List Nat → Addr → List Ent → Prop} (C : LogOk I Q) {b : Nat} {X W : World} {p : Addr} {st : List Ent} (e : Ent) (he : e.Small) (h : LG Q b X p st) (hX : Below X.heap.size X W) (hb : b ≤ X.heap.size) (hl : st.length ≤ 200) (hI : I W) :
    Calls Tryz.prog 8 #[.pointer (some p), .agg (ecs e).toArray] W fun r w' => r = .returned (.int .i64 (audErr st e)) ∧ LG Q b w' p (audAdd st e) ∧ Below b W w' ∧ ∀ k, X.heap.size ≤ k → k < W.heap.size → w'.heap[k]? = W.heap[k]? ∧ ∀ W2, (∀ j, j ≠ k → W2.heap[j]? = w'.heap[j]?) → LG Q b W2 p (audAdd st e) := by
  obtain ⟨S, h1, h2⟩ := h.q
  have h3 := C.below h1 hX
  refine (C.add e he W hI h3 h.ok hl).mono ?_
  rintro r w' ⟨rfl, S', hq, hT, hS⟩
  have hS2 : ∀ k ∈ S', b ≤ k := fun k hk => by
    rcases hS k hk with hk | hk
    · exact h2 k hk
    · exact Nat.le_trans (Nat.le_trans hb hX.size) hk
  refine ⟨rfl, ⟨⟨S', hq, hS2⟩, add_st h.ok e⟩, hT.below h2 (Nat.le_trans hb hX.size), fun k hk1 hk2 => ⟨hT.block k hk2 fun q => ?_, fun W2 hW2 => ⟨⟨S', C.keep hq fun j hj => hW2 j fun q => ?_, hS2⟩, add_st h.ok e⟩⟩⟩
  · have := C.lt h1 k q
    omega
  · subst q
    rcases hS j hj with hk | hk
    · have := C.lt h1 j hk
      omega
    · omega
/-- A log in the law's own world: its blocks lie from b on, and are none of F. -/
structure LGF (Q : World → List Nat → Addr → List Ent → Prop) (F : List Nat) (b : Nat) (W : World) (p : Addr) (st : List Ent) : Prop where
  q : ∃ S, Q W S p st ∧ ∀ k ∈ S, b ≤ k ∧ k ∉ F
  ok : AudSt st
  fl : ∀ k ∈ F, k < W.heap.size
section
variable {I : World → Prop} {Q : World → List Nat → Addr → List Ent → Prop} {F : List Nat} {b : Nat} {W W' : World} {p : Addr} {st : List Ent}
theorem LGF.below (C : LogOk I Q) (h : LGF Q F b W p st) (k : Below W.heap.size W W') : LGF Q F b W' p st := by
  obtain ⟨S, h1, h2⟩ := h.q
  exact ⟨⟨S, C.below h1 k, h2⟩, h.ok, fun j hj => Nat.lt_of_lt_of_le (h.fl j hj) k.size⟩
theorem LGF.turn (C : LogOk I Q) (h : LGF Q F b W p st) (hs : W.heap.size ≤ W'.heap.size) (k : ∀ j, b ≤ j → W'.heap[j]? = W.heap[j]?) : LGF Q F b W' p st := by
  obtain ⟨S, h1, h2⟩ := h.q
  exact ⟨⟨S, C.keep h1 fun j hj => k j (h2 j hj).1, h2⟩, h.ok, fun j hj => Nat.lt_of_lt_of_le (h.fl j hj) hs⟩
theorem LGF.more (C : LogOk I Q) (h : LGF Q F b W p st) (k : Below W.heap.size W W') (G : List Nat) (hG : ∀ g ∈ G, W.heap.size ≤ g ∧ g < W'.heap.size) : LGF Q (G ++ F) b W' p st := by
  obtain ⟨S, h1, h2⟩ := h.q
  refine ⟨⟨S, C.below h1 k, fun j hj => ⟨(h2 j hj).1, fun q => ?_⟩⟩, h.ok, fun j hj => ?_⟩
  · rcases List.mem_append.1 q with q | q
    · have := (hG j q).1
      have := C.lt h1 j hj
      omega
    · exact (h2 j hj).2 q
  · rcases List.mem_append.1 hj with hj | hj
    · exact (hG j hj).2
    · exact Nat.lt_of_lt_of_le (h.fl j hj) k.size
theorem LGF.add (C : LogOk I Q) (h : LGF Q F b W p st) (e : Ent) (he : e.Small) (hb : b ≤ W.heap.size) (hl : st.length ≤ 200) (hI : I W) :
    Calls Tryz.prog 8 #[.pointer (some p), .agg (ecs e).toArray] W fun r w' => r = .returned (.int .i64 (audErr st e)) ∧ LGF Q F b w' p (audAdd st e) ∧ Below b W w' ∧ ∀ k ∈ F, w'.heap[k]? = W.heap[k]? := by
  obtain ⟨S, h1, h2⟩ := h.q
  refine (C.add e he W hI h1 h.ok hl).mono ?_
  rintro r w' ⟨rfl, S', hq, hT, hS⟩
  have hB := hT.below (fun k hk => (h2 k hk).1) hb
  refine ⟨rfl, ⟨⟨S', hq, fun k hk => ?_⟩, add_st h.ok e, fun k hk => Nat.lt_of_lt_of_le (h.fl k hk) hB.size⟩, hB, fun k hk => hT.block k (h.fl k hk) fun q => (h2 k q).2 hk⟩
  rcases hS k hk with hk | hk
  · exact h2 k hk
  · exact ⟨Nat.le_trans hb hk, fun q => by have := h.fl k q; omega⟩
end
theorem run_field_lab (e : Ent) (w : World) : (Instr.field 31 (.agg (ecs e).toArray) 1).run Tryz.prog w = .ok (.agg (lab4 e.label).toArray) w := by
  have h1 := Tryz.underlying31
  have h2 : (Tryz.prog.info? 28).map (·.size) = some 4 := by kernel_rfl
  have h3 := Tryz.underlying28
  obtain ⟨i, hi, hs⟩ : ∃ i, Tryz.prog.info? 28 = some i ∧ i.size = 4 := by
    cases hq : Tryz.prog.info? 28 with
    | none => rw [hq] at h2; cases h2
    | some i => rw [hq] at h2; exact ⟨i, rfl, Option.some.inj h2⟩
  unfold ecs Instr.field
  simp only [Sem.run_bind]
  go_simp
  try simp [part, sizeOf, typeInfo, hi, hs, h3, TypeDesc.isRow]
  rfl
section
variable {ops : Array Oper} {o : Oper} {a : Act} {w : World} {Q : Exit → Act → World → Prop} {rest : List Oper}
theorem wpList_field_lab (hg : o.guard = none) (x : Operand) (ho : o.op = .field 31 x 1) (e : Ent) (hx : a.eval x = .agg (ecs e).toArray) (h : wpList Tryz.prog ops Q rest (a.put o.dst (.agg (lab4 e.label).toArray)) w) : wpList Tryz.prog ops Q (o :: rest) a w := by
  refine wpList_value hg ?_ h
  unfold execOp
  have hr := run_field_lab e w
  simp only [ho, hx, Sem.run_bind, hr, Result.andThen_ok]
  rfl
end
end Go.Proofs.YtohocomemkckeaaGreatDoor

/-! MAPS OF THE PROGRAM'S OWN, KEYED BY LABELS, of integers: what is looked up, and what m[k]++ leaves. For every stage from the twelfth on. -/
namespace Go.Proofs.YtohocomemkckeaaGreatDoor
open Go.RowKit Go.ChangeShapes Go.WideShapes
set_option maxRecDepth 8000
set_option linter.unusedSimpArgs false
set_option linter.unusedVariables false

theorem labOut : laidOutB Tryz.prog = true := by kernel_rfl
theorem labRow : (28 : TypeId) < Tryz.prog.types.size := of_decide_eq_true (by kernel_rfl)
theorem labWide : (match Tryz.prog.underlying 28 with | some (.array _ _) | some (.struct _) => true | _ => false) = true := by kernel_rfl
theorem labLaw : WideMaps.KeyLaw Tryz.prog 28 := deep_law_laid labOut (m := 2) (by omega) labRow (by kernel_rfl) labWide
theorem labKeyT : Tryz.prog.keyType 28 = true := by kernel_rfl
theorem labCells : Tryz.prog.cellsOf 28 = 4 := by kernel_rfl
theorem labInt : Tryz.prog.cellsOf 3 = 1 := by kernel_rfl
theorem labFs : (Tryz.prog.fieldsOf 28).toList.map (fun f => (f.name != "_", f.type, f.offset)) = [(true, 3, 0), (true, 3, 1), (true, 3, 2), (true, 3, 3)] := by kernel_rfl
theorem labTs : ∃ n, Tryz.prog.types.size = n + 1 := ⟨Tryz.prog.types.size - 1, (Nat.succ_pred_eq_of_pos (Nat.lt_of_le_of_lt (Nat.zero_le _) labRow)).symm⟩
theorem lab_wf {n : Int} (h0 : 0 ≤ n) (h1 : n ≤ 255) : (Lit.int .i64 n).wf = true := WalkArith.wf_i64 (by omega)
theorem lits_int (d : Nat) {n : Int} (h0 : 0 ≤ n) (h1 : n ≤ 255) : Tryz.prog.keyLits (d + 1) 3 [.int .i64 n] = some [.int .i64 n] := by
  unfold Program.keyLits
  rw [Tryz.underlying3]
  simp [lab_wf h0 h1]
theorem labKey {x : Lab} (hx : GL x) : ∃ l, keyOf Tryz.prog 28 x.v = some l := by
  obtain ⟨n, hn⟩ := labTs
  have hf : (Value.agg #[.int .i64 x.s, .int .i64 x.c, .int .i64 x.i, .int .i64 x.k]).formed Tryz.prog 28 = true := by
    unfold Value.formed
    rw [und, labCells]
    rfl
  have hnm : (Tryz.prog.fieldsOf 28).all (·.name != "_") = true := by kernel_rfl
  have hl : Tryz.prog.keyLits (Tryz.prog.types.size + 1) 28 [.int .i64 x.s, .int .i64 x.c, .int .i64 x.i, .int .i64 x.k] = some [.int .i64 x.s, .int .i64 x.c, .int .i64 x.i, .int .i64 x.k] := by
    unfold Program.keyLits
    rw [und]
    simp only [labCells, hnm]
    rw [if_pos (by first | exact ⟨rfl, rfl⟩ | exact ⟨rfl, trivial⟩)]
    have hm : (Tryz.prog.fieldsOf 28).toList.mapM (fun f => Tryz.prog.keyLits Tryz.prog.types.size f.type (([.int .i64 x.s, .int .i64 x.c, .int .i64 x.i, .int .i64 x.k] : List Value).drop f.offset |>.take (Tryz.prog.cellsOf f.type))) = ((Tryz.prog.fieldsOf 28).toList.map (fun f => (f.name != "_", f.type, f.offset))).mapM (fun p : Bool × TypeId × Nat => Tryz.prog.keyLits Tryz.prog.types.size p.2.1 (([.int .i64 x.s, .int .i64 x.c, .int .i64 x.i, .int .i64 x.k] : List Value).drop p.2.2 |>.take (Tryz.prog.cellsOf p.2.1))) := by
      rw [List.mapM_map]
      rfl
    rw [hm, labFs, hn]
    simp only [List.mapM_cons, List.mapM_nil, labInt, List.drop_zero, List.drop_succ_cons, List.take_succ_cons, List.take_zero, List.take_nil]
    rw [lits_int n hx.s0 (by have := hx.s1; omega), lits_int n hx.c0 hx.c1, lits_int n hx.i0 (by have := hx.i1; omega), lits_int n hx.k0 hx.k1]
    rfl
  refine ⟨.string (keyBytes [.int .i64 x.s, .int .i64 x.c, .int .i64 x.i, .int .i64 x.k]), ?_⟩
  unfold keyOf
  rw [und]
  simp only [labKeyT, hf, Bool.true_and, if_true]
  rw [show (Value.agg #[.int .i64 x.s, .int .i64 x.c, .int .i64 x.i, .int .i64 x.k]).cells.toList = [.int .i64 x.s, .int .i64 x.c, .int .i64 x.i, .int .i64 x.k] from rfl, hl]
  rfl
theorem labV_inj {x y : Lab} (h : x.v = y.v) : x = y := by
  obtain ⟨a, b, c, d⟩ := x
  obtain ⟨a', b', c', d'⟩ := y
  simp [Lab.v] at h
  obtain ⟨rfl, rfl, rfl, rfl⟩ := h
  rfl
/-- A map's entries: each label's number, no label twice. -/
structure CEs (es : Array MapEntry) (clock : Nat) (f : Lab → Nat) : Prop where
  born : ∀ e ∈ es.toList, e.born < clock
  nod : (es.toList.map (·.born)).Nodup
  ent : ∀ e ∈ es.toList, ∃ x : Lab, GL x ∧ e.key = x.v ∧ e.val = .int .i64 ((f x : Nat) : Int)
  uniq : (es.toList.map (·.key)).Nodup
  has : ∀ x, 0 < f x → ∃ e ∈ es.toList, e.key = x.v
/-- At b lies such a map, with m entries at most. -/
def MapL (W : World) (b : Nat) (f : Lab → Nat) (m : Nat) : Prop := ∃ es clock, W.heap[b]? = some (.map es clock) ∧ CEs es clock f ∧ es.size ≤ m
theorem CEs.keys {es : Array MapEntry} {clock : Nat} {f : Lab → Nat} (h : CEs es clock f) : ∀ e ∈ es.toList, ∃ l, keyOf Tryz.prog 28 e.key = some l := fun e he => by
  obtain ⟨x, hx, hk, _⟩ := h.ent e he
  rw [hk]
  exact labKey hx
theorem CEs.val {es : Array MapEntry} {clock : Nat} {f : Lab → Nat} (h : CEs es clock f) {e : MapEntry} (he : e ∈ es.toList) {x : Lab} (hk : e.key = x.v) : e.val = .int .i64 ((f x : Nat) : Int) := by
  obtain ⟨y, _, hy, hv⟩ := h.ent e he
  rw [hv, labV_inj (hy.symm.trans hk)]
theorem MapL.same {W W' : World} {b m : Nat} {f : Lab → Nat} (h : MapL W b f m) (hb : W'.heap[b]? = W.heap[b]?) : MapL W' b f m := by
  obtain ⟨es, clock, h1, h2, h3⟩ := h
  exact ⟨es, clock, hb.trans h1, h2, h3⟩
theorem MapL.lt {W : World} {b m : Nat} {f : Lab → Nat} (h : MapL W b f m) : b < W.heap.size := by
  obtain ⟨es, clock, h1, h2⟩ := h
  exact (Array.getElem?_eq_some_iff.1 h1).1
theorem mapL_made (W : World) : MapL (W.alloc (.map #[] 0)) W.heap.size (fun _ => 0) 0 :=
  ⟨#[], 0, (MapKept.heap_alloc W _).1, ⟨fun e he => (by simp at he), List.nodup_nil, fun e he => (by simp at he), List.nodup_nil, fun x hx => (by cases hx)⟩, by simp⟩
/-- Nothing has turned but that block. -/
structure Turn1 (b : Nat) (w w' : World) : Prop where
  os : w'.os = w.os
  tape : w'.tape = w.tape
  output : w'.output = w.output
  size : w'.heap.size = w.heap.size
  block : ∀ k, k ≠ b → w'.heap[k]? = w.heap[k]?
theorem turn1_set (w : World) (b : Nat) (o : Obj) : Turn1 b w (ChangeMaps.setBlock w b o) := ⟨rfl, rfl, rfl, by simp [ChangeMaps.setBlock], fun k hk => by simp [ChangeMaps.setBlock, Array.getElem?_setIfInBounds, Ne.symm hk]⟩
theorem set_at {w : World} {b : Nat} (h : b < w.heap.size) (o : Obj) : (ChangeMaps.setBlock w b o).heap[b]? = some o := by simp [ChangeMaps.setBlock, Array.getElem?_setIfInBounds, h]
end Go.Proofs.YtohocomemkckeaaGreatDoor

/-! maps.Keys OVER A MAP KEYED BY LABELS: its iterator gives each key once. For every stage from the twelfth on. -/
namespace Go.Proofs.YtohocomemkckeaaGreatDoor
open Go.RowKit Go.ChangeMaps
set_option maxRecDepth 8000
set_option linter.unusedSimpArgs false
set_option linter.unusedVariables false

/-- Under way: b is the map, r its iterator, dn have come, and these are ss. -/
structure RngL (W : World) (b r : Nat) (es : Array MapEntry) (clock : Nat) (seen : Array Nat) (c0 : Nat) (dn : List MapEntry) (ss : List Lab) : Prop where
  map : W.heap[b]? = some (.map es clock)
  it : W.heap[r]? = some (.mapIter (some b) clock seen c0)
  c0 : clock ≤ c0
  seen : seen.toList = dn.map (·.born)
  sub : ∀ e ∈ dn, e ∈ es.toList
  nod : (dn.map (·.born)).Nodup
  keys : dn.map (·.key) = ss.map Lab.v
/-- What has come, once all have. -/
structure SKeys (f : Lab → Nat) (m : Nat) (xs : List Lab) : Prop where
  nod : xs.Nodup
  has : ∀ x, 0 < f x → x ∈ xs
  good : ∀ x ∈ xs, GL x
  len : xs.length ≤ m
section
variable {W W' : World} {b r clock c0 m : Nat} {es : Array MapEntry} {seen : Array Nat} {dn : List MapEntry} {ss : List Lab} {f : Lab → Nat}
theorem RngL.kept (h : RngL W b r es clock seen c0 dn ss) (k : KeepsWalks W W') : RngL W' b r es clock seen c0 dn ss := ⟨k.same b _ h.map rfl, k.same r _ h.it rfl, h.c0, h.seen, h.sub, h.nod, h.keys⟩
theorem nodup_len {α : Type} [DecidableEq α] : ∀ (l1 l2 : List α), l1.Nodup → (∀ x ∈ l1, x ∈ l2) → l1.length ≤ l2.length
  | [], _, _, _ => Nat.zero_le _
  | a :: l, l2, hn, hs => by
    obtain ⟨h1, h2⟩ := List.nodup_cons.1 hn
    have ha := hs a (List.mem_cons_self)
    have h3 := nodup_len l (l2.erase a) h2 fun x hx => (List.mem_erase_of_ne (fun e : x = a => h1 (by rw [← e]; exact hx))).2 (hs x (List.mem_cons_of_mem _ hx))
    have h4 := List.length_erase_of_mem ha
    have h5 := List.length_pos_of_mem ha
    simp only [List.length_cons]
    omega
theorem RngL.few (h : RngL W b r es clock seen c0 dn ss) : ss.length ≤ es.size := by
  have h1 := nodup_len (dn.map (·.born)) (es.toList.map (·.born)) h.nod fun x hx => by
    obtain ⟨e, he, rfl⟩ := List.mem_map.1 hx
    exact List.mem_map.2 ⟨e, h.sub e he, rfl⟩
  have h2 := congrArg List.length h.keys
  simp at h1 h2
  omega
theorem labv_map_nodup : ∀ {ss : List Lab}, (ss.map Lab.v).Nodup → ss.Nodup
  | [], _ => List.nodup_nil
  | a :: l, h => by
    obtain ⟨h1, h2⟩ := List.nodup_cons.1 h
    exact List.nodup_cons.2 ⟨fun hm => h1 (List.mem_map.2 ⟨a, hm, rfl⟩), labv_map_nodup h2⟩
theorem born_key {es : Array MapEntry} (hn : (es.toList.map (·.born)).Nodup) (hk : (es.toList.map (·.key)).Nodup) : ∀ {dn : List MapEntry}, (∀ e ∈ dn, e ∈ es.toList) → (dn.map (·.born)).Nodup → (dn.map (·.key)).Nodup
  | [], _, _ => List.nodup_nil
  | a :: l, hs, hb => by
    obtain ⟨h1, h2⟩ := List.nodup_cons.1 hb
    refine List.nodup_cons.2 ⟨fun hm => ?_, born_key hn hk (fun e he => hs e (List.mem_cons_of_mem _ he)) h2⟩
    obtain ⟨e, he, hek⟩ := List.mem_map.1 hm
    obtain ⟨i, hi⟩ := List.mem_iff_getElem?.1 (hs a List.mem_cons_self)
    obtain ⟨j, hj⟩ := List.mem_iff_getElem?.1 (hs e (List.mem_cons_of_mem _ he))
    have hil := (List.getElem?_eq_some_iff.1 hi).1
    have e1 : (es.toList.map (·.key))[i]? = (es.toList.map (·.key))[j]? := by rw [List.getElem?_map, List.getElem?_map, hi, hj]; simp [hek]
    have e2 := (List.getElem?_inj (by simpa using hil) hk).1 e1
    subst e2
    obtain rfl := Option.some.inj (hi.symm.trans hj)
    exact h1 (List.mem_map.2 ⟨a, he, rfl⟩)
theorem RngL.done (h : RngL W b r es clock seen c0 dn ss) (hC : CEs es clock f) (hm : es.size ≤ m) (h0 : (leftOf es seen).size = 0) : SKeys f m ss := by
  have hall : ∀ e ∈ es.toList, e ∈ dn := fun e he => by
    have h1 : leftOf es seen = #[] := Array.eq_empty_of_size_eq_zero h0
    unfold leftOf at h1
    have h2 := (Array.filter_eq_empty_iff.1 h1) e (by simpa using he)
    have h3 : e.born ∈ seen.toList := by simpa using h2
    rw [h.seen] at h3
    obtain ⟨e2, he2, hb⟩ := List.mem_map.1 h3
    obtain ⟨i, hi⟩ := List.mem_iff_getElem?.1 he
    obtain ⟨j, hj⟩ := List.mem_iff_getElem?.1 (h.sub e2 he2)
    have hil := (List.getElem?_eq_some_iff.1 hi).1
    have e1 : (es.toList.map (·.born))[i]? = (es.toList.map (·.born))[j]? := by rw [List.getElem?_map, List.getElem?_map, hi, hj]; simp [hb]
    have e3 := (List.getElem?_inj (by simpa using hil) hC.nod).1 e1
    subst e3
    obtain rfl := Option.some.inj (hi.symm.trans hj)
    exact he2
  have hmem : ∀ x, x ∈ ss ↔ ∃ e ∈ dn, e.key = x.v := fun x => by
    constructor
    · intro hx
      have : x.v ∈ dn.map (·.key) := by rw [h.keys]; exact List.mem_map.2 ⟨x, hx, rfl⟩
      obtain ⟨e, he, hk⟩ := List.mem_map.1 this
      exact ⟨e, he, hk⟩
    · rintro ⟨e, he, hk⟩
      have : e.key ∈ ss.map Lab.v := by rw [← h.keys]; exact List.mem_map.2 ⟨e, he, rfl⟩
      obtain ⟨y, hy, hv⟩ := List.mem_map.1 this
      rw [← labV_inj (hv.trans hk)]
      exact hy
  refine ⟨?_, fun x hx => ?_, fun x hx => ?_, Nat.le_trans h.few hm⟩
  · apply labv_map_nodup
    rw [← h.keys]
    exact born_key hC.nod hC.uniq h.sub h.nod
  · obtain ⟨e, he, hk⟩ := hC.has x hx
    exact (hmem x).2 ⟨e, hall e he, hk⟩
  · obtain ⟨e, he, hk⟩ := (hmem x).1 hx
    obtain ⟨y, hy, hv, -⟩ := hC.ent e (h.sub e he)
    rw [labV_inj (hk.symm.trans hv)]
    exact hy
theorem RngL.next (h : RngL W b r es clock seen c0 dn ss) {e : MapEntry} (he : e ∈ (leftOf es seen).toList) {x : Lab} (hx : e.key = x.v) (hne : r ≠ b) {W1 : World} (h1 : W1.heap[b]? = W.heap[b]?) (h2 : W1.heap[r]? = some (.mapIter (some b) clock (seen.push e.born) clock)) : RngL W1 b r es clock (seen.push e.born) clock (dn ++ [e]) (ss ++ [x]) := by
  unfold leftOf at he
  simp at he
  refine ⟨h1.trans h.map, h2, Nat.le_refl _, by simp [h.seen], fun y hy => ?_, ?_, by simp [h.keys, hx]⟩
  · simp at hy
    rcases hy with hy | rfl
    · exact h.sub y hy
    · simpa using he.1
  · rw [List.map_append]
    refine List.nodup_append.2 ⟨h.nod, by simp, fun a ha c hc e1 => ?_⟩
    simp at hc
    rw [← h.seen] at ha
    subst e1 hc
    exact he.2 (by simpa using ha)
end
def seenN (W : World) (r : Nat) : Nat := match W.heap[r]? with | some (.mapIter _ _ seen _) => seen.size | _ => 0
theorem RngL.seenN {W : World} {b r clock c0 : Nat} {es : Array MapEntry} {seen : Array Nat} {dn : List MapEntry} {ss : List Lab} (h : RngL W b r es clock seen c0 dn ss) : seenN W r = ss.length := by
  unfold Go.Proofs.YtohocomemkckeaaGreatDoor.seenN
  rw [h.it]
  have h1 := congrArg List.length h.seen
  have h2 := congrArg List.length h.keys
  simp at h1 h2
  show seen.size = _
  omega
end Go.Proofs.YtohocomemkckeaaGreatDoor

/-! MAPS OF THE PROGRAM'S OWN, KEYED BY LABELS, of whatever values: what is looked up, what m[k] = v leaves, what a range over one meets. For every stage from the fourteenth on. -/
namespace Go.Proofs.YtohocomemkckeaaGreatDoor
open Go.RowKit Go.ChangeShapes Go.WideShapes Go.ChangeMaps
set_option maxRecDepth 8000
set_option linter.unusedSimpArgs false
set_option linter.unusedVariables false

/-- A map's entries: each label's value, for those labels that are live, and no other ones. -/
structure GEs (es : Array MapEntry) (clock : Nat) (val : Lab → Value) (live : Lab → Bool) : Prop where
  born : ∀ e ∈ es.toList, e.born < clock
  nod : (es.toList.map (·.born)).Nodup
  ent : ∀ e ∈ es.toList, ∃ x : Lab, GL x ∧ e.key = x.v ∧ e.val = val x ∧ live x = true
  uniq : (es.toList.map (·.key)).Nodup
  has : ∀ x, live x = true → ∃ e ∈ es.toList, e.key = x.v
/-- At b lies such a map, with m entries at most. -/
def MapG (W : World) (b : Nat) (val : Lab → Value) (live : Lab → Bool) (m : Nat) : Prop := ∃ es clock, W.heap[b]? = some (.map es clock) ∧ GEs es clock val live ∧ es.size ≤ m
section
variable {es : Array MapEntry} {clock : Nat} {val : Lab → Value} {live : Lab → Bool}
theorem GEs.keys (h : GEs es clock val live) : ∀ e ∈ es.toList, ∃ l, keyOf Tryz.prog 28 e.key = some l := fun e he => by
  obtain ⟨x, hx, hk, _⟩ := h.ent e he
  rw [hk]
  exact labKey hx
theorem GEs.val_eq (h : GEs es clock val live) {e : MapEntry} (he : e ∈ es.toList) {x : Lab} (hk : e.key = x.v) : e.val = val x ∧ live x = true := by
  obtain ⟨y, _, hy, hv, hl⟩ := h.ent e he
  obtain rfl := labV_inj (hy.symm.trans hk)
  exact ⟨hv, hl⟩
theorem GEs.dead (h : GEs es clock val live) {x : Lab} (hn : ∀ e ∈ es.toList, e.key ≠ x.v) : live x = false := by
  cases hq : live x
  · rfl
  · obtain ⟨e, he, hk⟩ := h.has x hq
    exact absurd hk (hn e he)
end
section
variable {W W' : World} {b m : Nat} {val : Lab → Value} {live : Lab → Bool}
theorem MapG.same (h : MapG W b val live m) (hb : W'.heap[b]? = W.heap[b]?) : MapG W' b val live m := by
  obtain ⟨es, clock, h1, h2, h3⟩ := h
  exact ⟨es, clock, hb.trans h1, h2, h3⟩
theorem MapG.lt (h : MapG W b val live m) : b < W.heap.size := by
  obtain ⟨es, clock, h1, h2⟩ := h
  exact (Array.getElem?_eq_some_iff.1 h1).1
theorem MapG.more (h : MapG W b val live m) {n : Nat} (hn : m ≤ n) : MapG W b val live n := by
  obtain ⟨es, clock, h1, h2, h3⟩ := h
  exact ⟨es, clock, h1, h2, Nat.le_trans h3 hn⟩
theorem MapG.turn (h : MapG W b val live m) {val' : Lab → Value} {live' : Lab → Bool} (hv : ∀ x, GL x → val' x = val x) (hl : ∀ x, live' x = live x) : MapG W b val' live' m := by
  obtain ⟨es, clock, h1, h2, h3⟩ := h
  refine ⟨es, clock, h1, ⟨h2.born, h2.nod, fun e he => ?_, h2.uniq, fun x hx => h2.has x (by rw [← hl]; exact hx)⟩, h3⟩
  obtain ⟨x, hx, hk, hv1, hl1⟩ := h2.ent e he
  exact ⟨x, hx, hk, by rw [hv x hx]; exact hv1, by rw [hl]; exact hl1⟩
theorem mapG_made (W : World) (val : Lab → Value) : MapG (W.alloc (.map #[] 0)) W.heap.size val (fun _ => false) 0 :=
  ⟨#[], 0, (MapKept.heap_alloc W _).1, ⟨fun e he => (by simp at he), List.nodup_nil, fun e he => (by simp at he), List.nodup_nil, fun x hx => (by cases hx)⟩, by simp⟩
/-- Looked up: the label's value; a label that is not there has the type's zero. -/
theorem lookG_run {T ET : TypeId} {z : Value} (hu : Tryz.prog.underlying T = some (.map 28 ET)) (hz : ∀ w, (zeroValue ET).run Tryz.prog w = .ok z w) (h : MapG W b val live m) {x : Lab} (hx : GL x) (hd : live x = false → val x = z) : (Instr.lookup T (.map (some b)) x.v false).run Tryz.prog W = .ok (val x) W := by
  obtain ⟨es, clock, hb, hC, hm⟩ := h
  obtain ⟨lx, hlx⟩ := labKey hx
  rcases labLaw.find W hlx es.toList hC.keys with ⟨h1, h2⟩ | ⟨j, e0, h1, h2, h3⟩
  · rw [hd (hC.dead h2)]
    simp [Instr.lookup, run_underlying hu, MapKept.run_getObj_map hb, labLaw.check W _ hlx, h1, hz, Result.andThen]
  · have hv := (hC.val_eq (List.mem_of_getElem? h2) h3).1
    simp [Instr.lookup, run_underlying hu, MapKept.run_getObj_map hb, labLaw.check W _ hlx, h1, hv, Result.andThen]
theorem lookN_run {T ET : TypeId} {z : Value} (hu : Tryz.prog.underlying T = some (.map 28 ET)) (hz : ∀ w, (zeroValue ET).run Tryz.prog w = .ok z w) (W : World) {x : Lab} (hx : GL x) : (Instr.lookup T (.map none) x.v false).run Tryz.prog W = .ok z W := by
  obtain ⟨lx, hlx⟩ := labKey hx
  rcases labLaw.find W hlx [] (by simp) with ⟨h1, -⟩ | ⟨j, e0, -, h2, -⟩
  · simp [Instr.lookup, run_underlying hu, labLaw.check W _ hlx, h1, hz, Result.andThen]
  · simp at h2
/-- m[x] = v. -/
theorem updG_run {T ET : TypeId} (hu : Tryz.prog.underlying T = some (.map 28 ET)) (h : MapG W b val live m) {x : Lab} (hx : GL x) (v : Value) {val' : Lab → Value} {live' : Lab → Bool} (hv : ∀ y, val' y = if labEq x y = true then v else val y) (hl : ∀ y, live' y = (labEq x y || live y)) :
    ∃ W1, (Instr.mapUpdate T (.map (some b)) x.v v).run Tryz.prog W = .ok () W1 ∧ MapG W1 b val' live' (m + 1) ∧ Turn1 b W W1 := by
  have hlt := h.lt
  obtain ⟨es, clock, hb, hC, hm⟩ := h
  obtain ⟨lx, hlx⟩ := labKey hx
  rcases labLaw.find W hlx es.toList hC.keys with ⟨h1, h2⟩ | ⟨j, e0, h1, h2, h3⟩
  · refine ⟨ChangeMaps.setBlock W b (.map (es.push ⟨x.v, v, clock⟩) (clock + 1)), ?_, ⟨_, _, set_at hlt _, ?_, by simp; omega⟩, turn1_set _ _ _⟩
    · simp [Instr.mapUpdate, run_underlying hu, MapKept.run_getObj_map hb, labLaw.check W false hlx, h1, MapKept.run_setObj_map _ hb, Result.andThen, ChangeMaps.setBlock]
    · refine ⟨fun e he => ?_, ?_, fun e he => ?_, ?_, fun y hy => ?_⟩
      · simp at he
        rcases he with he | rfl
        · have := hC.born e (by simpa using he); omega
        · exact Nat.lt_succ_self _
      · simp only [Array.toList_push, List.map_append, List.map_cons, List.map_nil]
        refine List.nodup_append.2 ⟨hC.nod, by simp, fun a ha c hc e1 => ?_⟩
        simp only [List.mem_singleton] at hc
        obtain ⟨z, hz, rfl⟩ := List.mem_map.1 ha
        have := hC.born z hz
        omega
      · simp at he
        rcases he with he | rfl
        · obtain ⟨y, hy, hk, hv1, hl1⟩ := hC.ent e (by simpa using he)
          refine ⟨y, hy, hk, ?_, by rw [hl, hl1]; simp⟩
          rw [hv, if_neg, hv1]
          intro q
          rw [← (labEq_iff _ _).1 q] at hk
          exact h2 e (by simpa using he) hk
        · exact ⟨x, hx, rfl, by rw [hv, if_pos ((labEq_iff _ _).2 rfl)], by rw [hl, (labEq_iff x x).2 rfl]; rfl⟩
      · simp only [Array.toList_push, List.map_append, List.map_cons, List.map_nil]
        refine List.nodup_append.2 ⟨hC.uniq, by simp, fun a ha c hc e1 => ?_⟩
        simp only [List.mem_singleton] at hc
        obtain ⟨z, hz, rfl⟩ := List.mem_map.1 ha
        exact h2 z hz (e1.trans hc)
      · rw [hl] at hy
        cases q : labEq x y
        · rw [q] at hy
          obtain ⟨e, he, hk⟩ := hC.has y hy
          exact ⟨e, by simp at he ⊢; exact .inl he, hk⟩
        · exact ⟨⟨x.v, v, clock⟩, by simp, by rw [(labEq_iff _ _).1 q]⟩
  · have hj : es[j]? = some e0 := by simpa using h2
    have hjl := (List.getElem?_eq_some_iff.1 h2).1
    have hset : (es.modify j (fun e => { e with key := x.v, val := v })).toList = es.toList.set j { e0 with key := x.v, val := v } := by
      rw [Array.toList_modify, ChangeMaps.modify_eq_set _ _ _ _ h2]
    refine ⟨ChangeMaps.setBlock W b (.map (es.modify j (fun e => { e with key := x.v, val := v })) clock), ?_, ⟨_, _, set_at hlt _, ?_, by simp; omega⟩, turn1_set _ _ _⟩
    · simp [Instr.mapUpdate, run_underlying hu, MapKept.run_getObj_map hb, labLaw.check W false hlx, h1, hj, h3, labLaw.stays W hlx, MapKept.run_setObj_map _ hb, Result.andThen, ChangeMaps.setBlock]
    · have hmb : (es.toList.set j { e0 with key := x.v, val := v }).map (·.born) = es.toList.map (·.born) := by
        rw [List.map_set]
        exact WideElems.set_self _ _ _ (by rw [List.getElem?_map, h2]; rfl)
      have hmk : (es.toList.set j { e0 with key := x.v, val := v }).map (·.key) = es.toList.map (·.key) := by
        rw [List.map_set]
        exact WideElems.set_self _ _ _ (by rw [List.getElem?_map, h2]; simp [h3])
      refine ⟨fun e he => ?_, by rw [hset, hmb]; exact hC.nod, fun e he => ?_, by rw [hset, hmk]; exact hC.uniq, fun y hy => ?_⟩
      · rw [hset] at he
        rcases List.mem_or_eq_of_mem_set he with he | rfl
        · exact hC.born e he
        · exact hC.born e0 (List.mem_of_getElem? h2)
      · rw [hset] at he
        obtain ⟨i, hi⟩ := List.mem_iff_getElem?.1 he
        by_cases hij : i = j
        · subst hij
          rw [List.getElem?_set_self hjl] at hi
          obtain rfl := Option.some.inj hi
          exact ⟨x, hx, rfl, by rw [hv, if_pos ((labEq_iff _ _).2 rfl)], by rw [hl, (labEq_iff x x).2 rfl]; rfl⟩
        · rw [List.getElem?_set_ne (Ne.symm hij)] at hi
          obtain ⟨y, hy, hk, hv1, hl1⟩ := hC.ent e (List.mem_of_getElem? hi)
          refine ⟨y, hy, hk, ?_, by rw [hl, hl1]; simp⟩
          rw [hv, if_neg, hv1]
          intro q
          have hxy := (labEq_iff _ _).1 q
          have hil := (List.getElem?_eq_some_iff.1 hi).1
          have h4 : (es.toList.map (·.key))[i]? = (es.toList.map (·.key))[j]? := by rw [List.getElem?_map, List.getElem?_map, hi, h2]; simp [hk, h3, hxy]
          exact hij ((List.getElem?_inj (by simpa using hil) hC.uniq).1 h4)
      · rw [hset]
        rw [hl] at hy
        cases q : labEq x y
        · rw [q] at hy
          obtain ⟨e, he, hk⟩ := hC.has y hy
          obtain ⟨i, hi⟩ := List.mem_iff_getElem?.1 he
          have hij : i ≠ j := fun e1 => by
            subst e1
            obtain rfl := Option.some.inj (hi.symm.trans h2)
            have := (labEq_iff x y).2 (labV_inj (h3.symm.trans hk))
            rw [q] at this
            cases this
          exact ⟨e, List.mem_of_getElem? (by rw [List.getElem?_set_ne (Ne.symm hij)]; exact hi), hk⟩
        · refine ⟨_, List.mem_set hjl _, ?_⟩
          rw [← (labEq_iff _ _).1 q]
end
/-- What a range has met, once all have come: each live label once. -/
structure LKeys (live : Lab → Bool) (m : Nat) (xs : List Lab) : Prop where
  nod : xs.Nodup
  mem : ∀ x, x ∈ xs ↔ live x = true
  good : ∀ x ∈ xs, GL x
  len : xs.length ≤ m
section
variable {W : World} {b r clock c0 m : Nat} {es : Array MapEntry} {seen : Array Nat} {dn : List MapEntry} {ss : List Lab} {val : Lab → Value} {live : Lab → Bool}
theorem RngL.doneG (h : RngL W b r es clock seen c0 dn ss) (hC : GEs es clock val live) (hm : es.size ≤ m) (h0 : (leftOf es seen).size = 0) : LKeys live m ss := by
  have hall : ∀ e ∈ es.toList, e ∈ dn := fun e he => by
    have h1 : leftOf es seen = #[] := Array.eq_empty_of_size_eq_zero h0
    unfold leftOf at h1
    have h2 := (Array.filter_eq_empty_iff.1 h1) e (by simpa using he)
    have h3 : e.born ∈ seen.toList := by simpa using h2
    rw [h.seen] at h3
    obtain ⟨e2, he2, hb⟩ := List.mem_map.1 h3
    obtain ⟨i, hi⟩ := List.mem_iff_getElem?.1 he
    obtain ⟨j, hj⟩ := List.mem_iff_getElem?.1 (h.sub e2 he2)
    have hil := (List.getElem?_eq_some_iff.1 hi).1
    have e1 : (es.toList.map (·.born))[i]? = (es.toList.map (·.born))[j]? := by rw [List.getElem?_map, List.getElem?_map, hi, hj]; simp [hb]
    have e3 := (List.getElem?_inj (by simpa using hil) hC.nod).1 e1
    subst e3
    obtain rfl := Option.some.inj (hi.symm.trans hj)
    exact he2
  have hmem : ∀ x, x ∈ ss ↔ ∃ e ∈ dn, e.key = x.v := fun x => by
    constructor
    · intro hx
      have : x.v ∈ dn.map (·.key) := by rw [h.keys]; exact List.mem_map.2 ⟨x, hx, rfl⟩
      obtain ⟨e, he, hk⟩ := List.mem_map.1 this
      exact ⟨e, he, hk⟩
    · rintro ⟨e, he, hk⟩
      have : e.key ∈ ss.map Lab.v := by rw [← h.keys]; exact List.mem_map.2 ⟨e, he, rfl⟩
      obtain ⟨y, hy, hv⟩ := List.mem_map.1 this
      rw [← labV_inj (hv.trans hk)]
      exact hy
  refine ⟨?_, fun x => ⟨fun hx => ?_, fun hx => ?_⟩, fun x hx => ?_, Nat.le_trans h.few hm⟩
  · apply labv_map_nodup
    rw [← h.keys]
    exact born_key hC.nod hC.uniq h.sub h.nod
  · obtain ⟨e, he, hk⟩ := (hmem x).1 hx
    exact (hC.val_eq (h.sub e he) hk).2
  · obtain ⟨e, he, hk⟩ := hC.has x hx
    exact (hmem x).2 ⟨e, hall e he, hk⟩
  · obtain ⟨e, he, hk⟩ := (hmem x).1 hx
    obtain ⟨y, hy, hv, -⟩ := hC.ent e (h.sub e he)
    rw [labV_inj (hk.symm.trans hv)]
    exact hy
end
end Go.Proofs.YtohocomemkckeaaGreatDoor

/-! A LABEL'S SHEET AS IT LANDED: an array of forty entries and their number; a map from labels to sheets; the log over it. -/
namespace Go.Proofs.YtohocomemkckeaaGreatDoor
open Go.RowKit
set_option maxRecDepth 8000
set_option linter.unusedSimpArgs false
set_option linter.unusedVariables false

def zEnt : Ent := ⟨0, ⟨0, 0, 0, 0⟩, ⟨#[]⟩, 0, ⟨#[]⟩, 0⟩
/-- A sheet's cells. -/
def scs (xs : List Ent) : List Value := (xs ++ List.replicate (40 - xs.length) zEnt).flatMap ecs ++ [.int .i64 (xs.length : Int)]
theorem scs_front {xs : List Ent} (h : xs.length ≤ 40) : ((xs ++ List.replicate (40 - xs.length) zEnt).flatMap ecs).length = 360 := by
  rw [flat_length ecs_len]
  simp
  omega
theorem scs_len {xs : List Ent} (h : xs.length ≤ 40) : (scs xs).length = 361 := by
  unfold scs
  rw [List.length_append, scs_front h]
  rfl
theorem scs_cnt {xs : List Ent} (h : xs.length ≤ 40) : (scs xs)[360]? = some (.int .i64 (xs.length : Int)) := by
  unfold scs
  rw [List.getElem?_append_right (by rw [scs_front h]; exact Nat.le_refl _), scs_front h]
  rfl
theorem scs_one (xs : List Ent) : ∀ v ∈ scs xs, v.oneCell' = true := fun v hv => by
  unfold scs at hv
  rcases List.mem_append.1 hv with hv | hv
  · obtain ⟨e, _, he⟩ := List.mem_flatMap.1 hv
    exact ent_one e v he
  · simp at hv
    subst hv
    rfl
theorem scs_row {W : World} {g : Nat} {xs : List Ent} (h : Blk W g (scs xs)) : RowE W (some ⟨g, 0, none⟩) xs := fun j x hx => by
  refine ⟨_, rfl, fun i hi => ?_⟩
  rw [add_at]
  have hj := (List.getElem?_eq_some_iff.1 hx).1
  have h1 : (xs ++ List.replicate (40 - xs.length) zEnt)[j]? = some x := by rw [List.getElem?_append_left hj]; exact hx
  have h2 := flat_at ecs_len _ j i x h1 hi
  obtain ⟨v, hv⟩ : ∃ v, (ecs x)[i]? = some v := ⟨_, List.getElem?_eq_getElem (by rw [ecs_len]; exact hi)⟩
  rw [hv] at h2 ⊢
  have h3 : (scs xs)[j * 9 + i]? = some v := by
    unfold scs
    rw [List.getElem?_append_left (List.getElem?_eq_some_iff.1 h2).1]
    exact h2
  exact (h _ v h3).1
theorem setM_mid : ∀ (vs A B C : List Value), B.length = vs.length → setM (A ++ B ++ C) A.length vs = A ++ vs ++ C
  | [], A, B, C, h => by
    have : B = [] := List.length_eq_zero_iff.1 h
    subst this
    rfl
  | v :: vs, A, b :: B, C, h => by
    have h' : B.length = vs.length := by simpa using h
    show setM ((A ++ b :: B ++ C).set A.length v) (A.length + 1) vs = _
    have e : (A ++ b :: B ++ C).set A.length v = (A ++ [v]) ++ B ++ C := by
      rw [List.append_assoc, List.set_append_right _ _ (Nat.le_refl _), Nat.sub_self]
      simp
    rw [e, show A.length + 1 = (A ++ [v]).length by simp, setM_mid vs (A ++ [v]) B C h']
    simp
theorem setM_out : ∀ (vs cs : List Value) (k j : Nat), k + vs.length ≤ j → (setM cs k vs)[j]? = cs[j]?
  | [], cs, k, j, h => rfl
  | v :: vs, cs, k, j, h => by
    show (setM (cs.set k v) (k + 1) vs)[j]? = _
    simp only [List.length_cons] at h
    rw [setM_out vs (cs.set k v) (k + 1) j (by omega), List.getElem?_set_ne (by omega)]
theorem scs_add {xs : List Ent} (h : xs.length < 40) (e : Ent) : (setM (scs xs) (xs.length * 9) (ecs e)).set 360 (.int .i64 ((xs.length : Int) + 1)) = scs (xs ++ [e]) := by
  obtain ⟨m, hm⟩ : ∃ m, 40 - xs.length = m + 1 := ⟨39 - xs.length, by omega⟩
  have e1 : scs xs = xs.flatMap ecs ++ ecs zEnt ++ ((List.replicate m zEnt).flatMap ecs ++ [.int .i64 (xs.length : Int)]) := by
    unfold scs
    rw [hm, List.replicate_succ, List.flatMap_append, List.flatMap_cons]
    simp [List.append_assoc]
  have hl : (xs.flatMap ecs).length = xs.length * 9 := flat_length ecs_len _
  rw [e1, ← hl, setM_mid (ecs e) _ (ecs zEnt) _ rfl]
  have hm2 : 40 - (xs ++ [e]).length = m := by simp; omega
  have hl2 : (xs.flatMap ecs ++ ecs e ++ (List.replicate m zEnt).flatMap ecs).length = 360 := by
    rw [List.length_append, List.length_append, hl, ecs_len, flat_length ecs_len]
    simp
    omega
  rw [← List.append_assoc, List.set_append_right _ _ (by rw [hl2]; exact Nat.le_refl _), hl2]
  unfold scs
  rw [hm2]
  simp [List.append_assoc]
theorem und_s : Tryz.prog.underlying 47 = some (.map 28 56) := by kernel_rfl
theorem info_s : (Tryz.prog.info? 56).map (fun i => (i.zero, i.size)) = some (some (.agg (scs []).toArray), 361) := by kernel_rfl
theorem zero_s (w : World) : (zeroValue 56).run Tryz.prog w = .ok (.agg (scs []).toArray) w := by
  have h := info_s
  cases hq : Tryz.prog.info? 56 with
  | none => rw [hq] at h; cases h
  | some i =>
    rw [hq] at h
    have h2 : i.zero = some (.agg (scs []).toArray) := congrArg Prod.fst (Option.some.inj h)
    simp [zeroValue, typeInfo, hq, h2]
theorem size_s : (Tryz.prog.info? 56).map (·.size) = some 361 := by
  have h := info_s
  cases hq : Tryz.prog.info? 56 with
  | none => rw [hq] at h; cases h
  | some i =>
    rw [hq] at h
    exact congrArg some (congrArg Prod.snd (Option.some.inj h))
theorem size_of {xs : List Ent} (h : xs.length ≤ 40) : (Tryz.prog.info? 56).map (·.size) = some (scs xs).length := by rw [scs_len h]; exact size_s
theorem und40 : Tryz.prog.underlying 54 = some (.array 40 31) := by kernel_rfl
theorem slice40 (g n : Nat) (hn : n ≤ 40) (w : World) : (Instr.sliceAt 54 (.pointer (some ⟨g, 0, none⟩)) none (some (.int .i64 (n : Int))) none).run Tryz.prog w = .ok (.slice (some ⟨g, 0, none⟩) n 40) w := by
  obtain ⟨i, hi, hz, hs, hby⟩ := info_of (e := 31) (z := .agg zE) (sz := 9) (b := 88) (by kernel_rfl)
  have h1 : ¬ (n : Int) < 0 := by omega
  have h2 : ¬ (40 : Int) < (n : Int) := by omega
  simp [Instr.sliceAt, run_underlying und40, Instr.sureAddr, Instr.sliceBounds, Instr.sliceBound, sizeOf, typeInfo, hi, hs, Addr.add_mid, go_sem, h1, h2, hn]
theorem und_st : ∃ fs, Tryz.prog.underlying 56 = some (.struct fs) ∧ (fs[1]?).map (fun f => (f.type, f.offset)) = some (3, 360) := by
  refine ⟨Tryz.prog.fieldsOf 56, by kernel_rfl, by kernel_rfl⟩
theorem run_field_cnt {xs : List Ent} (h : xs.length ≤ 40) (w : World) : (Instr.field 56 (.agg (scs xs).toArray) 1).run Tryz.prog w = .ok (.int .i64 (xs.length : Int)) w := by
  obtain ⟨fs, h1, h2⟩ := und_st
  have h3 : (Tryz.prog.info? 3).map (·.size) = some 1 := by kernel_rfl
  obtain ⟨i, hi, hs⟩ : ∃ i, Tryz.prog.info? 3 = some i ∧ i.size = 1 := by
    cases hq : Tryz.prog.info? 3 with
    | none => rw [hq] at h3; cases h3
    | some i => rw [hq] at h3; exact ⟨i, rfl, Option.some.inj h3⟩
  have h4 := Tryz.underlying3
  obtain ⟨f, hf, hft, hfo⟩ : ∃ f, fs[1]? = some f ∧ f.type = 3 ∧ f.offset = 360 := by
    cases hq : fs[1]? with
    | none => rw [hq] at h2; cases h2
    | some f =>
      rw [hq] at h2
      have := Option.some.inj h2
      exact ⟨f, rfl, congrArg Prod.fst this, congrArg Prod.snd this⟩
  have h5 := scs_cnt h
  unfold Instr.field
  simp [Sem.run_bind, run_underlying h1, hf, hft, hfo, part, sizeOf, typeInfo, hi, hs, h4, TypeDesc.isRow, h5, Result.andThen, asAgg, go_sem]
end Go.Proofs.YtohocomemkckeaaGreatDoor

/-! COUNTS AS THEY LANDED: a struct of one field, a map of labels to numbers: New, Add, Of. Written by mk_qmap.py. -/
namespace Go.Proofs.YtohocomemkckeaaGreatDoor
open Go.RowKit
set_option maxRecDepth 8000
set_option linter.unusedSimpArgs false
set_option linter.unusedVariables false

theorem Turn1.blk {b : Nat} {w w' : World} (h : Turn1 b w w') {g : Nat} {cs : List Value} (hb : BlkL g cs w) (hg : g ≠ b) : BlkL g cs w' := ⟨hb.1.same (h.block g hg), by rw [h.size]; exact hb.2⟩
theorem Turn1.trans {b : Nat} {w w' w'' : World} (h : Turn1 b w w') (k : Turn1 b w' w'') : Turn1 b w w'' := ⟨k.os.trans h.os, k.tape.trans h.tape, k.output.trans h.output, k.size.trans h.size, fun j hj => (k.block j hj).trans (h.block j hj)⟩
/-- Counts at p: the struct's block, and the map's, once it is made. -/
def CntQ (w : World) (S : List Nat) (p : Addr) (ls : List Lab) : Prop := ∃ g, p = ⟨g, 0, none⟩ ∧ ((S = [g] ∧ ls = [] ∧ BlkL g [.map none] w) ∨ ∃ b, S = [g, b] ∧ g ≠ b ∧ BlkL g [.map (some b)] w ∧ MapL w b (cntL ls) ls.length)
theorem lt_of_same {w w' : World} {k : Nat} (h : w'.heap[k]? = w.heap[k]?) (hk : k < w.heap.size) : k < w'.heap.size := by
  have h1 : w.heap[k]? = some w.heap[k] := Array.getElem?_eq_getElem hk
  rw [h1] at h
  exact (Array.getElem?_eq_some_iff.1 h).1
theorem BlkL.keep {w w' : World} {g : Nat} {cs : List Value} (h : BlkL g cs w) (hk : w'.heap[g]? = w.heap[g]?) : BlkL g cs w' := ⟨h.1.same hk, lt_of_same hk h.2⟩
theorem CntQ.keep {w w' : World} {S : List Nat} {p : Addr} {ls : List Lab} (h : CntQ w S p ls) (hk : ∀ k ∈ S, w'.heap[k]? = w.heap[k]?) : CntQ w' S p ls := by
  obtain ⟨g, rfl, ⟨rfl, rfl, hg⟩ | ⟨b, rfl, hne, hg, hm⟩⟩ := h
  · exact ⟨g, rfl, .inl ⟨rfl, rfl, hg.keep (hk g (by simp))⟩⟩
  · exact ⟨g, rfl, .inr ⟨b, rfl, hne, hg.keep (hk g (by simp)), hm.same (hk b (by simp))⟩⟩
theorem CntQ.lt {w : World} {S : List Nat} {p : Addr} {ls : List Lab} (h : CntQ w S p ls) : ∀ k ∈ S, k < w.heap.size := by
  obtain ⟨g, rfl, ⟨rfl, rfl, hg⟩ | ⟨b, rfl, hne, hg, hm⟩⟩ := h
  · intro k hk
    simp at hk
    subst hk
    exact hg.2
  · intro k hk
    simp at hk
    rcases hk with rfl | rfl
    · exact hg.2
    · exact hm.lt
/-- A map, or none: what is looked up in it. -/
def MapV (W : World) (m : Option Nat) (f : Lab → Nat) (k : Nat) : Prop := (m = none ∧ f = fun _ => 0) ∨ ∃ b, m = some b ∧ MapL W b f k
theorem CntQ.get {w : World} {S : List Nat} {p : Addr} {ls : List Lab} (h : CntQ w S p ls) : ∃ g m, p = ⟨g, 0, none⟩ ∧ BlkL g [.map m] w ∧ MapV w m (cntL ls) ls.length := by
  obtain ⟨g, rfl, ⟨rfl, rfl, hg⟩ | ⟨b, rfl, hne, hg, hm⟩⟩ := h
  · exact ⟨g, none, rfl, hg, .inl ⟨rfl, rfl⟩⟩
  · exact ⟨g, some b, rfl, hg, .inr ⟨b, rfl, hm⟩⟩
theorem MapV.below {w w' : World} {m : Option Nat} {f : Lab → Nat} {k : Nat} (h : MapV w m f k) (hb : Below w.heap.size w w') : MapV w' m f k := by
  obtain h | ⟨b, h1, h2⟩ := h
  · exact .inl h
  · exact .inr ⟨b, h1, h2.same (hb.block _ h2.lt)⟩
end Go.Proofs.YtohocomemkckeaaGreatDoor
