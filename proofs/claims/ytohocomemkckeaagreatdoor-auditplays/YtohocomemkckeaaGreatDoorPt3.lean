/-
  PART 3 of what the claims of this seat lean on: AudLog AudSeen Srt Srt2 Srt3 Srt4 Srt5 Srt6 Srt7 Srt8 SortShelf Opens LabOpen AudSrt TextShelf AudTextP HashFns.
-/
import Derived.Deep.RegionHeld
import Derived.Deep.CutBlock
import Derived.Sort.AssemblyPlain
import Derived.Sort.WalkA
import Derived.Shelf.Abstract
import Derived.Shelf.GgSortFunc.Lays
import Derived.Test.YtohocomemkckeaaGreatDoorRows
import Derived.ProofKit
import Derived.OpenShut
import Derived.ChangeSame
import Derived.ChangeSlices
import Derived.SizedLaws
import Derived.Deep.Slices
import Derived.Deep.Strs
import Derived.Shelf.GgSortFunc.Slice
import Derived.Shelf.GgSortFunc.SmallK
import Derived.Shelf.GgSortFunc.Tiny
import Derived.Shelf.SlSortFuncK.BreakPatternsK
import Derived.Laws.OwnMore
import Derived.Shelf.LaysM
import Derived.Shelf.Strconv.Itoa3
import Derived.Shelf.Strings.OnBuilder
import Derived.Lib.SmallJoins
import Derived.Lib.AppendIntMem
import Derived.Test.YtohocomemkckeaaGreatDoorPt1
import Derived.Test.YtohocomemkckeaaGreatDoorPt2
/-! PACKAGE audit AS IT LANDED (mayBe, New, Full, All, Add): a map from labels to sheets. Written by mk_audlog.py. -/
namespace Go.Proofs.YtohocomemkckeaaGreatDoor
open Go.RowKit
set_option maxRecDepth 8000
set_option linter.unusedSimpArgs false
set_option linter.unusedVariables false

set_option maxRecDepth 8000 in
set_option maxHeartbeats 4000000 in
theorem mayBe_any (e : Ent) (w : World) :
    Calls Tryz.prog 24 #[.agg (ecs e).toArray] w fun r w' => r = .returned (.bool (decide (audMay e = 0))) ∧ Below w.heap.size w w' := by
  have hundL := Tryz.underlying28
  have hsl : (Tryz.prog.info? 28).map (·.size) = some 4 := by kernel_rfl
  have hb0 := blkl_alloc w (ecs e).toArray 31
  have hB0 := alloc_below w (.cells (ecs e).toArray 31)
  replace hb0 : BlkL w.heap.size (ecs e) (w.alloc (.cells (ecs e).toArray 31)) := hb0
  have hcl := ebox_lab hb0
  have z2 := (hb0.1 5 _ rfl).1
  have z3 := (hb0.1 6 _ rfl).1
  have z4 := (hb0.1 7 _ rfl).1
  have z5 := (hb0.1 8 _ rfl).1
  have kc := fun W => lcheck_any e.label W
  obtain ⟨M, hM⟩ : ∃ M, decide (audMay e = 0) = M := ⟨_, rfl⟩
  rw [hM]
  obtain ⟨ce, hce⟩ : ∃ ce, chkL e.label = ce := ⟨_, rfl⟩
  rw [hce] at kc
  clear hb0
  have hcs : ecs e = [.int .i64 e.seq, .int .i64 e.label.s, .int .i64 e.label.c, .int .i64 e.label.i, .int .i64 e.label.k, .string e.user, .int .i64 e.verb, .string e.object, .int .i64 e.verdict] := rfl
  rw [hcs] at hcl z2 z3 z4 z5 hB0 ⊢
  clear hcs
  by_cases h0 : ce = 0
  rotate_left
  · obtain rfl : M = false := hM.symm.trans (decide_eq_false (by intro q; have := may_zero.1 q; omega))
    have g0 : (ce == 0) = false := by simpa using h0
    clear hM hce
    go_enter Tryz.func24, Tryz.ntmps24
    go_upto_region 1 with fail
    generalize w.alloc (.cells #[.int .i64 e.seq, .int .i64 e.label.s, .int .i64 e.label.c, .int .i64 e.label.i, .int .i64 e.label.k, .string e.user, .int .i64 e.verb, .string e.object, .int .i64 e.verdict] 31) = W0 at *
    go_wp2_with (first | (refine wpList_load_at rfl _ rfl ⟨w.heap.size, 1, none⟩ rfl (lab4 e.label) hcl hundL rfl hsl ?_) | fail)
    refine (kc W0).mono ?_
    rintro r W1 ⟨rfl, hB1⟩
    have hB := Below.then hB0 hB1
    have z2 := (hB1.cell (World.block_lt_of_cell? _ _ z2)).trans z2
    have z3 := (hB1.cell (World.block_lt_of_cell? _ _ z3)).trans z3
    have z4 := (hB1.cell (World.block_lt_of_cell? _ _ z4)).trans z4
    have z5 := (hB1.cell (World.block_lt_of_cell? _ _ z5)).trans z5
    go_wp2_with fail
    go_ret
    exact ⟨rfl, hB⟩
  subst h0
  by_cases h1 : 1 ≤ e.verb
  rotate_left
  · obtain rfl : M = false := hM.symm.trans (decide_eq_false (by intro q; have := may_zero.1 q; omega))
    have g1 : ¬ 1 ≤ e.verb := by omega
    clear hM hce
    go_enter Tryz.func24, Tryz.ntmps24
    go_upto_region 1 with fail
    generalize w.alloc (.cells #[.int .i64 e.seq, .int .i64 e.label.s, .int .i64 e.label.c, .int .i64 e.label.i, .int .i64 e.label.k, .string e.user, .int .i64 e.verb, .string e.object, .int .i64 e.verdict] 31) = W0 at *
    go_wp2_with (first | (refine wpList_load_at rfl _ rfl ⟨w.heap.size, 1, none⟩ rfl (lab4 e.label) hcl hundL rfl hsl ?_) | fail)
    refine (kc W0).mono ?_
    rintro r W1 ⟨rfl, hB1⟩
    have hB := Below.then hB0 hB1
    have z2 := (hB1.cell (World.block_lt_of_cell? _ _ z2)).trans z2
    have z3 := (hB1.cell (World.block_lt_of_cell? _ _ z3)).trans z3
    have z4 := (hB1.cell (World.block_lt_of_cell? _ _ z4)).trans z4
    have z5 := (hB1.cell (World.block_lt_of_cell? _ _ z5)).trans z5
    go_wp2_with fail
    go_ret
    exact ⟨rfl, hB⟩
  have g1 : 1 ≤ e.verb := by omega
  by_cases h2 : e.verb ≤ 14
  rotate_left
  · obtain rfl : M = false := hM.symm.trans (decide_eq_false (by intro q; have := may_zero.1 q; omega))
    have g2 : ¬ e.verb ≤ 14 := by omega
    clear hM hce
    go_enter Tryz.func24, Tryz.ntmps24
    go_upto_region 1 with fail
    generalize w.alloc (.cells #[.int .i64 e.seq, .int .i64 e.label.s, .int .i64 e.label.c, .int .i64 e.label.i, .int .i64 e.label.k, .string e.user, .int .i64 e.verb, .string e.object, .int .i64 e.verdict] 31) = W0 at *
    go_wp2_with (first | (refine wpList_load_at rfl _ rfl ⟨w.heap.size, 1, none⟩ rfl (lab4 e.label) hcl hundL rfl hsl ?_) | fail)
    refine (kc W0).mono ?_
    rintro r W1 ⟨rfl, hB1⟩
    have hB := Below.then hB0 hB1
    have z2 := (hB1.cell (World.block_lt_of_cell? _ _ z2)).trans z2
    have z3 := (hB1.cell (World.block_lt_of_cell? _ _ z3)).trans z3
    have z4 := (hB1.cell (World.block_lt_of_cell? _ _ z4)).trans z4
    have z5 := (hB1.cell (World.block_lt_of_cell? _ _ z5)).trans z5
    go_wp2_with fail
    go_ret
    exact ⟨rfl, hB⟩
  have g2 : e.verb ≤ 14 := by omega
  by_cases h3 : e.user.size ≤ 78
  rotate_left
  · obtain rfl : M = false := hM.symm.trans (decide_eq_false (by intro q; have := may_zero.1 q; omega))
    have g3 : ¬ (e.user.size : Int) ≤ 78 := by omega
    clear hM hce
    go_enter Tryz.func24, Tryz.ntmps24
    go_upto_region 1 with fail
    generalize w.alloc (.cells #[.int .i64 e.seq, .int .i64 e.label.s, .int .i64 e.label.c, .int .i64 e.label.i, .int .i64 e.label.k, .string e.user, .int .i64 e.verb, .string e.object, .int .i64 e.verdict] 31) = W0 at *
    go_wp2_with (first | (refine wpList_load_at rfl _ rfl ⟨w.heap.size, 1, none⟩ rfl (lab4 e.label) hcl hundL rfl hsl ?_) | fail)
    refine (kc W0).mono ?_
    rintro r W1 ⟨rfl, hB1⟩
    have hB := Below.then hB0 hB1
    have z2 := (hB1.cell (World.block_lt_of_cell? _ _ z2)).trans z2
    have z3 := (hB1.cell (World.block_lt_of_cell? _ _ z3)).trans z3
    have z4 := (hB1.cell (World.block_lt_of_cell? _ _ z4)).trans z4
    have z5 := (hB1.cell (World.block_lt_of_cell? _ _ z5)).trans z5
    go_wp2_with fail
    go_ret
    exact ⟨rfl, hB⟩
  have g3 : (e.user.size : Int) ≤ 78 := by omega
  by_cases h4 : e.object.size ≤ 78
  rotate_left
  · obtain rfl : M = false := hM.symm.trans (decide_eq_false (by intro q; have := may_zero.1 q; omega))
    have g4 : ¬ (e.object.size : Int) ≤ 78 := by omega
    clear hM hce
    go_enter Tryz.func24, Tryz.ntmps24
    go_upto_region 1 with fail
    generalize w.alloc (.cells #[.int .i64 e.seq, .int .i64 e.label.s, .int .i64 e.label.c, .int .i64 e.label.i, .int .i64 e.label.k, .string e.user, .int .i64 e.verb, .string e.object, .int .i64 e.verdict] 31) = W0 at *
    go_wp2_with (first | (refine wpList_load_at rfl _ rfl ⟨w.heap.size, 1, none⟩ rfl (lab4 e.label) hcl hundL rfl hsl ?_) | fail)
    refine (kc W0).mono ?_
    rintro r W1 ⟨rfl, hB1⟩
    have hB := Below.then hB0 hB1
    have z2 := (hB1.cell (World.block_lt_of_cell? _ _ z2)).trans z2
    have z3 := (hB1.cell (World.block_lt_of_cell? _ _ z3)).trans z3
    have z4 := (hB1.cell (World.block_lt_of_cell? _ _ z4)).trans z4
    have z5 := (hB1.cell (World.block_lt_of_cell? _ _ z5)).trans z5
    go_wp2_with fail
    go_ret
    exact ⟨rfl, hB⟩
  have g4 : (e.object.size : Int) ≤ 78 := by omega
  by_cases h5 : 0 ≤ e.verdict
  rotate_left
  · obtain rfl : M = false := hM.symm.trans (decide_eq_false (by intro q; have := may_zero.1 q; omega))
    have g5 : ¬ 0 ≤ e.verdict := by omega
    clear hM hce
    go_enter Tryz.func24, Tryz.ntmps24
    go_upto_region 1 with fail
    generalize w.alloc (.cells #[.int .i64 e.seq, .int .i64 e.label.s, .int .i64 e.label.c, .int .i64 e.label.i, .int .i64 e.label.k, .string e.user, .int .i64 e.verb, .string e.object, .int .i64 e.verdict] 31) = W0 at *
    go_wp2_with (first | (refine wpList_load_at rfl _ rfl ⟨w.heap.size, 1, none⟩ rfl (lab4 e.label) hcl hundL rfl hsl ?_) | fail)
    refine (kc W0).mono ?_
    rintro r W1 ⟨rfl, hB1⟩
    have hB := Below.then hB0 hB1
    have z2 := (hB1.cell (World.block_lt_of_cell? _ _ z2)).trans z2
    have z3 := (hB1.cell (World.block_lt_of_cell? _ _ z3)).trans z3
    have z4 := (hB1.cell (World.block_lt_of_cell? _ _ z4)).trans z4
    have z5 := (hB1.cell (World.block_lt_of_cell? _ _ z5)).trans z5
    go_wp2_with fail
    go_ret
    exact ⟨rfl, hB⟩
  have g5 : 0 ≤ e.verdict := by omega
  by_cases h6 : e.verdict ≤ 255
  rotate_left
  · obtain rfl : M = false := hM.symm.trans (decide_eq_false (by intro q; have := may_zero.1 q; omega))
    have g6 : decide (e.verdict ≤ 255) = false := by exact decide_eq_false h6
    clear hM hce
    go_enter Tryz.func24, Tryz.ntmps24
    go_upto_region 1 with fail
    generalize w.alloc (.cells #[.int .i64 e.seq, .int .i64 e.label.s, .int .i64 e.label.c, .int .i64 e.label.i, .int .i64 e.label.k, .string e.user, .int .i64 e.verb, .string e.object, .int .i64 e.verdict] 31) = W0 at *
    go_wp2_with (first | (refine wpList_load_at rfl _ rfl ⟨w.heap.size, 1, none⟩ rfl (lab4 e.label) hcl hundL rfl hsl ?_) | fail)
    refine (kc W0).mono ?_
    rintro r W1 ⟨rfl, hB1⟩
    have hB := Below.then hB0 hB1
    have z2 := (hB1.cell (World.block_lt_of_cell? _ _ z2)).trans z2
    have z3 := (hB1.cell (World.block_lt_of_cell? _ _ z3)).trans z3
    have z4 := (hB1.cell (World.block_lt_of_cell? _ _ z4)).trans z4
    have z5 := (hB1.cell (World.block_lt_of_cell? _ _ z5)).trans z5
    go_wp2_with fail
    go_ret
    exact ⟨rfl, hB⟩
  have g6 : e.verdict ≤ 255 := by omega
  obtain rfl : M = true := hM.symm.trans (decide_eq_true (may_zero.2 ⟨hce, h1, h2, h3, h4, h5, h6⟩))
  clear hM hce
  go_enter Tryz.func24, Tryz.ntmps24
  go_upto_region 1 with fail
  generalize w.alloc (.cells #[.int .i64 e.seq, .int .i64 e.label.s, .int .i64 e.label.c, .int .i64 e.label.i, .int .i64 e.label.k, .string e.user, .int .i64 e.verb, .string e.object, .int .i64 e.verdict] 31) = W0 at *
  go_wp2_with (first | (refine wpList_load_at rfl _ rfl ⟨w.heap.size, 1, none⟩ rfl (lab4 e.label) hcl hundL rfl hsl ?_) | fail)
  refine (kc W0).mono ?_
  rintro r W1 ⟨rfl, hB1⟩
  have hB := Below.then hB0 hB1
  have z2 := (hB1.cell (World.block_lt_of_cell? _ _ z2)).trans z2
  have z3 := (hB1.cell (World.block_lt_of_cell? _ _ z3)).trans z3
  have z4 := (hB1.cell (World.block_lt_of_cell? _ _ z4)).trans z4
  have z5 := (hB1.cell (World.block_lt_of_cell? _ _ z5)).trans z5
  go_wp2_with fail
  go_ret
  exact ⟨rfl, hB⟩
/-- A label's sheet, as a value; whether it is there. -/
def shv (st : List Ent) (x : Lab) : Value := .agg (scs (audAll st x)).toArray
def liv (st : List Ent) (x : Lab) : Bool := !(audAll st x).isEmpty
theorem liv_iff {st : List Ent} {x : Lab} : liv st x = true ↔ audAll st x ≠ [] := by
  unfold liv
  cases audAll st x <;> simp
/-- The log at p: the struct's block, and the map's, once it is made. -/
def LogQ (w : World) (S : List Nat) (p : Addr) (st : List Ent) : Prop := ∃ g, p = ⟨g, 0, none⟩ ∧ ((S = [g] ∧ st = [] ∧ BlkL g [.map none] w) ∨ ∃ b, S = [g, b] ∧ g ≠ b ∧ BlkL g [.map (some b)] w ∧ MapG w b (shv st) (liv st) st.length)
theorem LogQ.keep {w w' : World} {S : List Nat} {p : Addr} {st : List Ent} (h : LogQ w S p st) (hk : ∀ k ∈ S, w'.heap[k]? = w.heap[k]?) : LogQ w' S p st := by
  obtain ⟨g, rfl, ⟨rfl, rfl, hg⟩ | ⟨b, rfl, hne, hg, hm⟩⟩ := h
  · exact ⟨g, rfl, .inl ⟨rfl, rfl, hg.keep (hk g (by simp))⟩⟩
  · exact ⟨g, rfl, .inr ⟨b, rfl, hne, hg.keep (hk g (by simp)), hm.same (hk b (by simp))⟩⟩
theorem LogQ.lt {w : World} {S : List Nat} {p : Addr} {st : List Ent} (h : LogQ w S p st) : ∀ k ∈ S, k < w.heap.size := by
  obtain ⟨g, rfl, ⟨rfl, rfl, hg⟩ | ⟨b, rfl, hne, hg, hm⟩⟩ := h
  · intro k hk
    simp at hk
    subst hk
    exact hg.2
  · intro k hk
    simp at hk
    rcases hk with rfl | rfl
    · exact hg.2
    · exact hm.lt
/-- A map, or none. -/
def MapS (W : World) (m : Option Nat) (st : List Ent) : Prop := (m = none ∧ st = []) ∨ ∃ b, m = some b ∧ MapG W b (shv st) (liv st) st.length
theorem LogQ.get {w : World} {S : List Nat} {p : Addr} {st : List Ent} (h : LogQ w S p st) : ∃ g m, p = ⟨g, 0, none⟩ ∧ BlkL g [.map m] w ∧ MapS w m st := by
  obtain ⟨g, rfl, ⟨rfl, rfl, hg⟩ | ⟨b, rfl, hne, hg, hm⟩⟩ := h
  · exact ⟨g, none, rfl, hg, .inl ⟨rfl, rfl⟩⟩
  · exact ⟨g, some b, rfl, hg, .inr ⟨b, rfl, hm⟩⟩
theorem MapS.below {w w' : World} {m : Option Nat} {st : List Ent} (h : MapS w m st) (hb : Below w.heap.size w w') : MapS w' m st := by
  obtain h | ⟨b, h1, h2⟩ := h
  · exact .inl h
  · exact .inr ⟨b, h1, h2.same (hb.block _ h2.lt)⟩
theorem shv_dead {st : List Ent} {x : Lab} (h : liv st x = false) : shv st x = .agg (scs []).toArray := by
  unfold liv at h
  unfold shv
  cases hq : audAll st x with
  | nil => rfl
  | cons a r => rw [hq] at h; cases h
theorem lookS_run {W : World} {m : Option Nat} {st : List Ent} (h : MapS W m st) {x : Lab} (hx : GL x) : (Instr.lookup 47 (.map m) x.v false).run Tryz.prog W = .ok (shv st x) W := by
  obtain ⟨rfl, rfl⟩ | ⟨b, rfl, h⟩ := h
  · exact lookN_run und_s zero_s W hx
  · exact lookG_run und_s zero_s h hx shv_dead
section
variable {ops : Array Oper} {o : Oper} {a : Act} {w : World} {Q : Exit → Act → World → Prop} {T : TypeId}
theorem yields_lookG {S : World → Prop} (hw : Region.wanted o (yielded ops a.tmps) = true) (x y : Operand) (ho : o.op = .lookup T x y false) {u v r : Value} (hx : a.eval x = u) (hy : a.eval y = v)
    (hS : ∀ w, S w → (Instr.lookup T u v false).run Tryz.prog w = .ok r w) : YieldsIf Tryz.prog ops S o r a :=
  .inl ⟨hw, fun w hw' => by
    unfold execOp
    simp [ho, hx, hy, hS w hw', Result.andThen]
    try rfl⟩
theorem yields_oneG {S : World → Prop} (hw : Region.wanted o (yielded ops a.tmps) = true) (x : Operand) (ho : o.op = .load T x) (y : Addr) (hx : a.eval x = .pointer (some y)) (v : Value) (hS : ∀ w, S w → w.cell? y = some v) (hl : ∀ w y v, w.cell? y = some v → (Instr.loadAt T (.pointer (some y))).run Tryz.prog w = .ok v w) : YieldsIf Tryz.prog ops S o v a :=
  .inl ⟨hw, fun w hw' => by
    unfold execOp
    simp only [ho, hx, Sem.run_bind, hl w y v (hS w hw'), Result.andThen_ok]
    rfl⟩
theorem yields_fieldG {S : World → Prop} {k : Nat} (hw : Region.wanted o (yielded ops a.tmps) = true) (x : Operand) (ho : o.op = .field T x k) {u r : Value} (hx : a.eval x = u)
    (hr : ∀ w, (Instr.field T u k).run Tryz.prog w = .ok r w) : YieldsIf Tryz.prog ops S o r a :=
  .inl ⟨hw, fun w hw' => by
    unfold execOp
    simp [ho, hx, hr w, Result.andThen]
    try rfl⟩
theorem step_alloc_s {K : Act → World → Prop} {E : Prop} (hg : o.guard = none) (ho : o.op = .alloc 56) (hK : K (a.put o.dst (.pointer (some ⟨w.heap.size, 0, none⟩))) (w.alloc (.cells (scs []).toArray 56))) :
    if Region.wanted o (yielded ops a.tmps) = true then Oper.wp Tryz.prog o a w K Q else E := by
  have hw : Region.wanted o (yielded ops a.tmps) = true := by simp [Region.wanted, hg]
  rw [if_pos hw]
  unfold Oper.wp
  simp only [execOp, ho, Instr.alloc, Sem.run_bind, zero_s, Result.andThen_ok, newVar, newRow]
  exact hK
theorem step_upd {K : Act → World → Prop} {E : Prop} (hg : o.guard = none) (x y z : Operand) (ho : o.op = .mapUpdate T x y z) {u v r : Value} {w' : World} (hx : a.eval x = u) (hy : a.eval y = v) (hz : a.eval z = r)
    (hrun : (Instr.mapUpdate T u v r).run Tryz.prog w = .ok () w') (hK : K (a.put o.dst undef) w') :
    if Region.wanted o (yielded ops a.tmps) = true then Oper.wp Tryz.prog o a w K Q else E := by
  have hw : Region.wanted o (yielded ops a.tmps) = true := by simp [Region.wanted, hg]
  rw [if_pos hw]
  unfold Oper.wp
  simp [execOp, ho, hx, hy, hz, hrun, Result.andThen]
  exact hK
end
theorem mapS_load (w : World) (y : Addr) (v : Value) (h : w.cell? y = some v) : (Instr.loadAt 47 (.pointer (some y))).run Tryz.prog w = .ok v w := by
  have h1 := und_s
  go_simp
theorem eqlS_nil (W : World) : (binOp .eql 47 (.map none) (.map none)).run Tryz.prog W = .ok (.bool true) W := by kernel_rfl
theorem eqlS_map (b : Nat) (W : World) : (binOp .eql 47 (.map (some b)) (.map none)).run Tryz.prog W = .ok (.bool false) W := by kernel_rfl
theorem eqlS_any (m : Option Nat) (W : World) : (binOp .eql 47 (.map m) (.map none)).run Tryz.prog W = .ok (.bool m.isNone) W := by
  cases m
  · exact eqlS_nil W
  · exact eqlS_map _ W
theorem anew_any (w : World) : Calls Tryz.prog 5 #[] w fun e w' => ∃ p S, e = .returned (.pointer (some p)) ∧ LogQ w' S p [] ∧ (∀ k ∈ S, w.heap.size ≤ k) ∧ Below w.heap.size w w' := by
  have h2 := blkl_alloc w #[.map none] 49
  have hB2 := alloc_below w (.cells #[.map none] 49)
  go_enter Tryz.func5, Tryz.ntmps5
  go_wp2_with fail
  go_ret
  refine ⟨⟨w.heap.size, 0, none⟩, rfl, [w.heap.size], ⟨_, rfl, .inl ⟨rfl, rfl, h2⟩⟩, fun k hk => ?_, hB2⟩
  simp at hk
  omega
theorem full_eq {st : List Ent} (hst : AudSt st) (x : Lab) : audFull st x = (((audAll st x).length : Int) == 40) := by
  have := hst.cnt x
  unfold audFull
  by_cases h : 40 ≤ (audAll st x).length
  · rw [decide_eq_true h, show (audAll st x).length = 40 by omega]
    rfl
  · rw [decide_eq_false h]
    exact (beq_eq_false_iff_ne.2 (by omega)).symm
set_option maxRecDepth 8000 in
set_option maxHeartbeats 4000000 in
theorem afull_any {S : List Nat} {p : Addr} {st : List Ent} (x : Lab) (hGx : GL x) (w : World) (h : LogQ w S p st) (hst : AudSt st) : Calls Tryz.prog 15 #[.pointer (some p), x.v] w fun r w' => r = .returned (.bool (audFull st x)) ∧ Below w.heap.size w w' := by
  have hundL := Tryz.underlying28
  have hsl : (Tryz.prog.info? 28).map (·.size) = some 4 := by kernel_rfl
  rw [full_eq hst x]
  have hx40 := hst.cnt x
  obtain ⟨g, m, rfl, hg, hm⟩ := h.get
  have hb0 := blkl_alloc w (lab4 x).toArray 28
  have hB0 := alloc_below w (.cells (lab4 x).toArray 28)
  replace hb0 : BlkL w.heap.size (lab4 x) (w.alloc (.cells (lab4 x).toArray 28)) := hb0
  have hg0 := stab_blk _ _ _ _ hg hB0
  have hm0 := hm.below hB0
  have hlk := fun W (q : MapS W m st) => lookS_run q hGx
  unfold shv at hlk
  obtain ⟨xs, hxs⟩ : ∃ xs, audAll st x = xs := ⟨_, rfl⟩
  rw [hxs] at hlk hx40 ⊢
  have hfc := fun W => run_field_cnt hx40 W
  obtain ⟨n, hn⟩ : ∃ n, xs.length = n := ⟨_, rfl⟩
  rw [hn] at hfc ⊢
  obtain ⟨R, hR⟩ : ∃ R, ((n : Int) == 40) = R := ⟨_, rfl⟩
  rw [hR]
  clear hxs hn hx40
  go_enter Tryz.func15, Tryz.ntmps15
  go_upto_region 1 with fail
  generalize w.alloc (.cells #[.int .i64 x.s, .int .i64 x.c, .int .i64 x.i, .int .i64 x.k] 28) = Z at *
  have hBd : Below Z.heap.size Z Z.drew := (Below.refl _ _).drew
  have hS : (fun W => Below Z.heap.size Z W) Z.drew := hBd
  refine wp_region_held_drew (S := (fun W => Below Z.heap.size Z W)) (by kernel_rfl) (by exact hS) ?_
  intro hHeld
  (first | (refine wpAnyH_take (i := 0) (v := ?_) (by simp only [gA, gB, gC]; rfl) (by kernel_rfl) (by kernel_rfl) (by kernel_rfl) (by exact fun _ _ _ h => h) (Or.inl ⟨by rfl, ?_⟩) (by assumption) ?_; rotate_left; (focus (intro w hSw; (try dsimp only at hSw); go_simp; try with_reducible rfl))) | (refine wpAnyH_take (i := 0) (v := undef) (by simp only [gA, gB, gC]; rfl) (by kernel_rfl) (by kernel_rfl) (by kernel_rfl) (by exact fun _ _ _ h => h) (Or.inr ⟨by rfl, rfl⟩) (by assumption) ?_) | fail); simp only [Act.put, sA, sB, sC]
  (first | (refine wpAnyH_take (i := 1) (v := ?_) (by simp only [gA, gB, gC]; rfl) (by kernel_rfl) (by kernel_rfl) (by kernel_rfl) (by exact fun _ _ _ h => h) (Or.inl ⟨by rfl, ?_⟩) (by assumption) ?_; rotate_left; (focus (intro w hSw; (try dsimp only at hSw); go_simp; try with_reducible rfl))) | (refine wpAnyH_take (i := 1) (v := undef) (by simp only [gA, gB, gC]; rfl) (by kernel_rfl) (by kernel_rfl) (by kernel_rfl) (by exact fun _ _ _ h => h) (Or.inr ⟨by rfl, rfl⟩) (by assumption) ?_) | fail); simp only [Act.put, sA, sB, sC]
  (first | (refine wpAnyH_take (i := 2) (v := ?_) (by simp only [gA, gB, gC]; rfl) (by kernel_rfl) (by kernel_rfl) (by kernel_rfl) (by exact fun _ _ _ h => h) (Or.inl ⟨by rfl, ?_⟩) (by assumption) ?_; rotate_left; (focus (intro w hSw; (try dsimp only at hSw); go_simp; try with_reducible rfl))) | (refine wpAnyH_take (i := 2) (v := undef) (by simp only [gA, gB, gC]; rfl) (by kernel_rfl) (by kernel_rfl) (by kernel_rfl) (by exact fun _ _ _ h => h) (Or.inr ⟨by rfl, rfl⟩) (by assumption) ?_) | fail); simp only [Act.put, sA, sB, sC]
  (first | (refine wpAnyH_take (i := 3) (v := _) (by simp only [gA, gB, gC]; rfl) (by kernel_rfl) (by kernel_rfl) (by kernel_rfl) (by exact fun _ _ _ h => h) (yields_oneG (by rfl) _ rfl ⟨g, 0, none⟩ rfl (.map m) (fun _ q => ((stab_blk _ _ _ _ hg0 q).1 0 _ rfl).1) mapS_load) (by assumption) ?_) | (refine wpAnyH_take (i := 3) (v := undef) (by simp only [gA, gB, gC]; rfl) (by kernel_rfl) (by kernel_rfl) (by kernel_rfl) (by exact fun _ _ _ h => h) (Or.inr ⟨by rfl, rfl⟩) (by assumption) ?_) | fail); simp only [Act.put, sA, sB, sC]
  (first | (refine wpAnyH_take (i := 4) (v := _) (by simp only [gA, gB, gC]; rfl) (by kernel_rfl) (by kernel_rfl) (by kernel_rfl) (by exact fun _ _ _ h => h) (yields_row (by rfl) _ rfl w.heap.size rfl (lab4 x) (fun _ q => (stab_blk _ _ _ _ hb0 q).range) hundL rfl hsl) (by assumption) ?_) | (refine wpAnyH_take (i := 4) (v := undef) (by simp only [gA, gB, gC]; rfl) (by kernel_rfl) (by kernel_rfl) (by kernel_rfl) (by exact fun _ _ _ h => h) (Or.inr ⟨by rfl, rfl⟩) (by assumption) ?_) | fail); simp only [Act.put, sA, sB, sC]
  (first | (refine wpAnyH_take (i := 5) (v := _) (by simp only [gA, gB, gC]; rfl) (by kernel_rfl) (by kernel_rfl) (by kernel_rfl) (by exact fun _ _ _ h => h) (yields_lookG (u := .map m) (v := x.v) (by rfl) _ _ rfl rfl rfl (fun W q => hlk W (hm0.below q))) (by assumption) ?_) | (refine wpAnyH_take (i := 5) (v := undef) (by simp only [gA, gB, gC]; rfl) (by kernel_rfl) (by kernel_rfl) (by kernel_rfl) (by exact fun _ _ _ h => h) (Or.inr ⟨by rfl, rfl⟩) (by assumption) ?_) | fail); simp only [Act.put, sA, sB, sC]
  (first | (refine wpAnyH_take (i := 6) (v := _) (by simp only [gA, gB, gC]; rfl) (by kernel_rfl) (by kernel_rfl) (by kernel_rfl) (by exact fun _ _ _ h => h) (yields_fieldG (by rfl) _ rfl rfl hfc) (by assumption) ?_) | (refine wpAnyH_take (i := 6) (v := undef) (by simp only [gA, gB, gC]; rfl) (by kernel_rfl) (by kernel_rfl) (by kernel_rfl) (by exact fun _ _ _ h => h) (Or.inr ⟨by rfl, rfl⟩) (by assumption) ?_) | fail); simp only [Act.put, sA, sB, sC]
  (first | (refine wpAnyH_take (i := 7) (v := ?_) (by simp only [gA, gB, gC]; rfl) (by kernel_rfl) (by kernel_rfl) (by kernel_rfl) (by exact fun _ _ _ h => h) (Or.inl ⟨by rfl, ?_⟩) (by assumption) ?_; rotate_left; (focus (intro w hSw; (try dsimp only at hSw); go_simp; try with_reducible rfl))) | (refine wpAnyH_take (i := 7) (v := undef) (by simp only [gA, gB, gC]; rfl) (by kernel_rfl) (by kernel_rfl) (by kernel_rfl) (by exact fun _ _ _ h => h) (Or.inr ⟨by rfl, rfl⟩) (by assumption) ?_) | fail); simp only [Act.put, sA, sB, sC]
  (first | (refine wpAnyH_take (i := 8) (v := ?_) (by simp only [gA, gB, gC]; rfl) (by kernel_rfl) (by kernel_rfl) (by kernel_rfl) (by exact fun _ _ _ h => h) (Or.inl ⟨by rfl, ?_⟩) (by assumption) ?_; rotate_left; (focus (intro w hSw; (try dsimp only at hSw); go_simp; try with_reducible rfl))) | (refine wpAnyH_take (i := 8) (v := undef) (by simp only [gA, gB, gC]; rfl) (by kernel_rfl) (by kernel_rfl) (by kernel_rfl) (by exact fun _ _ _ h => h) (Or.inr ⟨by rfl, rfl⟩) (by assumption) ?_) | fail); simp only [Act.put, sA, sB, sC]
  refine wpAnyH_done (by kernel_rfl) ?_ _
  go_wp2_with fail
  go_ret
  exact ⟨rfl, Below.then hB0 hBd⟩
set_option maxRecDepth 8000 in
set_option maxHeartbeats 4000000 in
theorem aall_any {S : List Nat} {p : Addr} {st : List Ent} (x : Lab) (hGx : GL x) (w : World) (h : LogQ w S p st) (hst : AudSt st) : Calls Tryz.prog 11 #[.pointer (some p), x.v] w fun r w' => ∃ v, r = .returned v ∧ TellE w' w.heap.size v (audAll st x) ∧ Below w.heap.size w w' := by
  have hundL := Tryz.underlying28
  have hsl : (Tryz.prog.info? 28).map (·.size) = some 4 := by kernel_rfl
  have hx40 := hst.cnt x
  obtain ⟨g, m, rfl, hg, hm⟩ := h.get
  have hb0 := blkl_alloc w (lab4 x).toArray 28
  have hB0 := alloc_below w (.cells (lab4 x).toArray 28)
  replace hb0 : BlkL w.heap.size (lab4 x) (w.alloc (.cells (lab4 x).toArray 28)) := hb0
  have hg0 := stab_blk _ _ _ _ hg hB0
  have hm0 := hm.below hB0
  have hlk := fun W (q : MapS W m st) => lookS_run q hGx
  unfold shv at hlk
  obtain ⟨xs, hxs⟩ : ∃ xs, audAll st x = xs := ⟨_, rfl⟩
  rw [hxs] at hlk hx40 ⊢
  clear hxs
  go_enter Tryz.func11, Tryz.ntmps11
  go_upto_region 1 with fail
  generalize w.alloc (.cells #[.int .i64 x.s, .int .i64 x.c, .int .i64 x.i, .int .i64 x.k] 28) = Z at *
  go_cut [5] from 6 (fun s5 wc => ∃ b5 : Nat, Z.heap.size ≤ b5 ∧ s5 = .pointer (some ⟨b5, 0, none⟩) ∧ BlkL b5 (scs xs) wc ∧ Below Z.heap.size Z wc)
  case first =>
    have hS0 : (fun W => Below Z.heap.size Z W) Z.drew := (Below.refl _ _).drew
    refine wp_region_held_drew (S := (fun W => Below Z.heap.size Z W)) (by kernel_rfl) (by exact hS0) ?_
    intro hHeld
    generalize Z.drew = w0 at *
    refine wpAnyH_take (i := 0) (v := ?_) (by simp only [gA, gB, gC]; rfl) (by kernel_rfl) (by kernel_rfl) (by kernel_rfl) (by exact fun _ _ _ h => h) (Or.inl ⟨by rfl, ?_⟩) (by assumption) ?_; rotate_left; (focus (intro w hSw; (try dsimp only at hSw); go_simp; try with_reducible rfl)); (try simp only [Act.put, sA, sB, sC])
    refine wpAnyH_take (i := 1) (v := ?_) (by simp only [gA, gB, gC]; rfl) (by kernel_rfl) (by kernel_rfl) (by kernel_rfl) (by exact fun _ _ _ h => h) (Or.inl ⟨by rfl, ?_⟩) (by assumption) ?_; rotate_left; (focus (intro w hSw; (try dsimp only at hSw); go_simp; try with_reducible rfl)); (try simp only [Act.put, sA, sB, sC])
    refine wpAnyH_take (i := 2) (v := ?_) (by simp only [gA, gB, gC]; rfl) (by kernel_rfl) (by kernel_rfl) (by kernel_rfl) (by exact fun _ _ _ h => h) (Or.inl ⟨by rfl, ?_⟩) (by assumption) ?_; rotate_left; (focus (intro w hSw; (try dsimp only at hSw); go_simp; try with_reducible rfl)); (try simp only [Act.put, sA, sB, sC])
    refine wpAnyH_take (i := 3) (v := _) (by simp only [gA, gB, gC]; rfl) (by kernel_rfl) (by kernel_rfl) (by kernel_rfl) (by exact fun _ _ _ h => h) (yields_oneG (by rfl) _ rfl ⟨g, 0, none⟩ rfl (.map m) (fun _ q => ((stab_blk _ _ _ _ hg0 q).1 0 _ rfl).1) mapS_load) (by assumption) ?_; (try simp only [Act.put, sA, sB, sC])
    refine wpAnyH_take (i := 4) (v := _) (by simp only [gA, gB, gC]; rfl) (by kernel_rfl) (by kernel_rfl) (by kernel_rfl) (by exact fun _ _ _ h => h) (yields_row (by rfl) _ rfl w.heap.size rfl (lab4 x) (fun _ q => (stab_blk _ _ _ _ hb0 q).range) hundL rfl hsl) (by assumption) ?_; (try simp only [Act.put, sA, sB, sC])
    refine wpAnyH_take (i := 5) (v := _) (by simp only [gA, gB, gC]; rfl) (by kernel_rfl) (by kernel_rfl) (by kernel_rfl) (by exact fun _ _ _ h => h) (yields_lookG (u := .map m) (v := x.v) (by rfl) _ _ rfl rfl rfl (fun W q => hlk W (hm0.below q))) (by assumption) ?_; (try simp only [Act.put, sA, sB, sC])
    refine wpAnyH_ready (rs := [6]) (by kernel_rfl) (by simp) ?_
    refine AllReadyH.cons (by simp only [gA, gB, gC]; rfl) (fun K hK => ?_) AllReadyH.nil
    obtain ⟨w2, hw2, hth2, hn2, hb2⟩ := put_new w0 (scs []).toArray 56 (scs xs) (by rw [scs_len hx40]; exact (scs_len (xs := []) (by decide)).symm) (by rw [scs_len hx40]; decide)
    have hS1 := Below.then hS0 (alloc_below w0 (.cells (scs []).toArray 56))
    have hS2 := Below.then hS0 hb2
    have hz0 := hS0.size
    refine step_alloc_s rfl rfl ?_
    (try simp only [Act.put, sA, sB, sC])
    refine hK.out _ _ (hS1) ?_
    clear hHeld hK
    intro hHeld
    (try simp only [Act.put, sA, sB, sC])
    refine wpAnyH_ready (rs := [7]) (by kernel_rfl) (by simp) ?_
    refine AllReadyH.cons (by simp only [gA, gB, gC]; rfl) (fun K hK => ?_) AllReadyH.nil
    refine step_store_part rfl _ _ rfl w0.heap.size 0 rfl (scs xs) rfl hth2 (size_of hx40) (scs_one xs) hw2 ?_
    (try simp only [Act.put, sA, sB, sC])
    refine hK.out _ _ (hS2) ?_
    clear hHeld hK
    intro hHeld
    (try simp only [Act.put, sA, sB, sC])
    refine wpAnyH_done (by kernel_rfl) ?_ _
    go_wp2_with fail
    go_meet
    exact ⟨w0.heap.size, hz0, rfl, hn2, hS2⟩
  case rest =>
    obtain ⟨b5, hz5, rfl, hb5, hBZ⟩ := hcut
    have hc360 := (hb5.1 360 _ (scs_cnt hx40)).1
    have hB := Below.then hB0 hBZ
    obtain ⟨n, hn⟩ : ∃ n, xs.length = n := ⟨_, rfl⟩
    rw [hn] at hc360 hx40
    have hs40 := slice40 b5 n hx40
    have htell : TellE wc w.heap.size (.slice (some ⟨b5, 0, none⟩) n 40) xs := ⟨⟨_, _, by rw [hn], by omega, (fun q => by cases q), scs_row hb5.1⟩, fun k hk => by
      cases hk
      exact ⟨Nat.le_trans hB0.size hz5, hb5.2⟩⟩
    clear hb5 hBZ hn hg0 hb0 hm0 hg hm hlk
    go_wp2_with fail
    go_ret
    exact ⟨_, rfl, htell, hB⟩
theorem shv_add {st : List Ent} (hst : AudSt st) {e : Ent} (he : audErr st e = 0) (y : Lab) : shv (audAdd st e) y = if labEq e.label y = true then .agg (scs (audAll st e.label ++ [audNext st e])).toArray else shv st y := by
  unfold shv
  rw [add_all hst.sort]
  by_cases hq : labEq e.label y = true
  · rw [if_pos ⟨he, hq⟩, if_pos hq, (labEq_iff _ _).1 hq]
  · rw [if_neg (fun k => hq k.2), if_neg hq, List.append_nil]
theorem liv_add {st : List Ent} (hst : AudSt st) {e : Ent} (he : audErr st e = 0) (y : Lab) : liv (audAdd st e) y = (labEq e.label y || liv st y) := by
  unfold liv
  rw [add_all hst.sort]
  by_cases hq : labEq e.label y = true
  · rw [if_pos ⟨he, hq⟩, hq]
    cases audAll st y <;> rfl
  · rw [if_neg (fun k => hq k.2), List.append_nil, Bool.not_eq_true _ |>.mp hq]
    rfl
theorem add_len0 {st : List Ent} {e : Ent} (he : audErr st e = 0) : (audAdd st e).length = st.length + 1 := by
  unfold audAdd
  rw [if_pos he, ins_len]
theorem set_seqA (W : World) (g : Nat) (e : Ent) (s : Int) (h : BlkL g (ecs e) W) : BlkL g (ecs { e with seq := s }) (W.setCell ⟨g, 0, none⟩ (.int .i64 s)) := by
  have h1 := h.1.set 0 (.int .i64 s) (by simp [ecs])
  exact ⟨h1, h1.lt rfl⟩
theorem Turned.cell {S : List Nat} {w W : World} (h : Turned S w W) {p : Addr} (hp : w.heap.size ≤ p.block) (v : Value) : Turned S w (W.setCell p v) :=
  have h1 := (Below.refl w.heap.size W).setCell (p := p) hp v
  ⟨h1.os.trans h.os, h1.tape.trans h.tape, h1.output.trans h.output, Nat.le_trans h.size (by simp), fun k hk hn => (h1.block k hk).trans (h.block k hk hn)⟩
theorem Turned.cells {S : List Nat} {w W : World} (h : Turned S w W) {b : Nat} (hp : w.heap.size ≤ b) (o : Nat) (vs : List Value) : Turned S w (W.setCells b o vs) :=
  have h1 := Below.cells hp vs o (Below.refl w.heap.size W)
  ⟨h1.os.trans h.os, h1.tape.trans h.tape, h1.output.trans h.output, by rw [size_setCells]; exact h.size, fun k hk hn => (h1.block k hk).trans (h.block k hk hn)⟩
theorem Turned.turn1 {S : List Nat} {w W W' : World} (h : Turned S w W) {b : Nat} (k : Turn1 b W W') (hb : b ∈ S) : Turned S w W' :=
  ⟨k.os.trans h.os, k.tape.trans h.tape, k.output.trans h.output, by rw [k.size]; exact h.size, fun j hj hn => (k.block j (fun e => hn (by rw [e]; exact hb))).trans (h.block j hj hn)⟩
set_option maxRecDepth 8000 in
set_option maxHeartbeats 8000000 in
theorem aadd_any {S : List Nat} {p : Addr} {st : List Ent} (e : Ent) (w : World) (h : LogQ w S p st) (hst : AudSt st) : Calls Tryz.prog 8 #[.pointer (some p), .agg (ecs e).toArray] w fun r w' => r = .returned (.int .i64 (audErr st e)) ∧ ∃ S', LogQ w' S' p (audAdd st e) ∧ Turned S w w' ∧ ∀ k ∈ S', k ∈ S ∨ w.heap.size ≤ k := by
  have hundL := Tryz.underlying28
  have hundE := Tryz.underlying31
  have hundS := Tryz.underlying56
  have hsl : (Tryz.prog.info? 28).map (·.size) = some 4 := by kernel_rfl
  have hse : (Tryz.prog.info? 31).map (·.size) = some 9 := by kernel_rfl
  have hb0 := blkl_alloc w (ecs e).toArray 31
  have hB0 := alloc_below w (.cells (ecs e).toArray 31)
  replace hb0 : BlkL w.heap.size (ecs e) (w.alloc (.cells (ecs e).toArray 31)) := hb0
  have km := mayBe_any e
  have hcs : ecs e = [.int .i64 e.seq, .int .i64 e.label.s, .int .i64 e.label.c, .int .i64 e.label.i, .int .i64 e.label.k, .string e.user, .int .i64 e.verb, .string e.object, .int .i64 e.verdict] := rfl
  obtain ⟨E, hE⟩ : ∃ E, audErr st e = E := ⟨_, rfl⟩
  obtain ⟨N, hN⟩ : ∃ N, audAdd st e = N := ⟨_, rfl⟩
  rw [hE, hN]
  replace hE : Aside (audErr st e = E) := hE
  replace hN : Aside (audAdd st e = N) := hN
  go_enter Tryz.func8, Tryz.ntmps8
  rw [hcs]
  go_upto_region 1 with fail
  rw [← hcs]
  replace hcs : Aside (ecs e = [.int .i64 e.seq, .int .i64 e.label.s, .int .i64 e.label.c, .int .i64 e.label.i, .int .i64 e.label.k, .string e.user, .int .i64 e.verb, .string e.object, .int .i64 e.verdict]) := hcs
  generalize w.alloc (.cells (ecs e).toArray 31) = W0 at *
  have hr0 := hb0.range
  go_wp2_with (first | (refine wpList_load_row rfl _ rfl w.heap.size rfl (ecs e) hr0 hundE rfl hse ?_) | fail)
  refine (km W0).mono ?_
  rintro r W1 ⟨rfl, hB1⟩
  have hB01 := Below.then hB0 hB1
  have hb1 := stab_blk _ _ _ _ hb0 hB1
  clear hr0 hb0 km hB0 hB1
  by_cases hM0 : audMay e = 0
  rotate_left
  · rw [decide_eq_false hM0]
    have hE1 : E = 1 := by
      rw [← hE.out]
      unfold audErr
      rw [if_pos hM0]
    have hN1 : N = st := by
      rw [← hN.out]
      unfold audAdd
      rw [if_neg (by rw [hE.out, hE1]; decide)]
    subst hE1 hN1
    clear hE hN
    have hq := h.keep (fun k hk => hB01.block k (h.lt k hk))
    go_wp2_with fail
    go_ret
    exact ⟨rfl, S, hq, ⟨hB01.os, hB01.tape, hB01.output, hB01.size, fun k hk _ => hB01.block k hk⟩, fun k hk => .inl hk⟩
  rw [decide_eq_true hM0]
  have hGx : GL e.label := chkL_zero.1 (may_zero.1 hM0).1
  have hq1 := h.keep (fun k hk => hB01.block k (h.lt k hk))
  have hcl := ebox_lab hb1
  have kf := afull_any e.label hGx W1 hq1 hst
  clear hq1
  go_wp2_with (first | (refine wpList_load_at rfl _ rfl ⟨w.heap.size, 1, none⟩ rfl (lab4 e.label) hcl hundL rfl hsl ?_) | fail)
  refine kf.mono ?_
  rintro r W2 ⟨rfl, hB2⟩
  have hB02 := Below.then hB01 hB2
  have hb2 := stab_blk _ _ _ _ hb1 hB2
  clear hcl hb1 kf hB01 hB2
  cases hF : audFull st e.label
  rotate_left
  · have hE1 : E = 18 := by
      rw [← hE.out]
      unfold audErr
      rw [if_neg (by simp [hM0]), if_pos hF]
    have hN1 : N = st := by
      rw [← hN.out]
      unfold audAdd
      rw [if_neg (by rw [hE.out, hE1]; decide)]
    subst hE1 hN1
    clear hE hN
    have hq := h.keep (fun k hk => hB02.block k (h.lt k hk))
    go_wp2_with fail
    go_ret
    exact ⟨rfl, S, hq, ⟨hB02.os, hB02.tape, hB02.output, hB02.size, fun k hk _ => hB02.block k hk⟩, fun k hk => .inl hk⟩
  have hE0 : audErr st e = 0 := err_zero.2 ⟨hM0, hF⟩
  have hE1 : E = 0 := hE.out.symm.trans hE0
  subst hE1
  have hx40 : (audAll st e.label).length < 40 := by
    unfold audFull at hF
    have := of_decide_eq_false hF
    omega
  have hvv := shv_add hst hE0
  have hll := liv_add hst hE0
  have hlen := add_len0 hE0
  rw [hN.out] at hvv hll hlen
  have hN2 : audNext st e = { e with seq := (((audAll st e.label).length + 1 : Nat) : Int) } := rfl
  rw [hN2] at hvv
  clear hN2 hN hE hF hM0 hst
  obtain ⟨g, rfl, hcase0⟩ := h
  obtain ⟨m, hg, hcase⟩ : ∃ m, BlkL g [.map m] w ∧ ((m = none ∧ S = [g] ∧ st = []) ∨ ∃ b, m = some b ∧ S = [g, b] ∧ g ≠ b ∧ MapG w b (shv st) (liv st) st.length) := by
    rcases hcase0 with ⟨h1, h2, h3⟩ | ⟨b, h1, h2, h3, h4⟩
    · exact ⟨none, h3, .inl ⟨rfl, h1, h2⟩⟩
    · exact ⟨some b, h3, .inr ⟨b, rfl, h1, h2, h4⟩⟩
  clear hcase0
  have hgl : g < w.heap.size := hg.2
  have hgw : w.heap.size ≠ g := by omega
  have hg2 := stab_blk _ _ _ _ hg hB02
  have hc0 := (hg2.1 0 _ rfl).1
  have heq := eqlS_any m
  clear hg
  go_upto_if 17 with fail
  clear heq
  go_cut [] from 13 (fun wc => ∃ b, g ≠ b ∧ w.heap.size ≠ b ∧ (∀ k ∈ [g, b], k ∈ S ∨ w.heap.size ≤ k) ∧ (∀ k ∈ S, k ∈ [g, b]) ∧ BlkL g [.map (some b)] wc ∧ MapG wc b (shv st) (liv st) st.length ∧ BlkL w.heap.size (ecs e) wc ∧ Turned [g, b] w wc)
  case first =>
    rcases hcase with ⟨rfl, rfl, hnil⟩ | ⟨b, rfl, rfl, hgb, hm⟩
    · have hmm := @run_makeMap Tryz.prog
      have hf0 := (hg2.1 0 _ rfl).2
      have hB1 := alloc_below W2 (.map #[] 0)
      have hm1 : MapG (W2.alloc (.map #[] 0)) W2.heap.size (shv st) (liv st) st.length := by
        rw [hnil]
        exact mapG_made W2 (shv [])
      have hg1 := stab_blk _ _ _ _ hg2 hB1
      have hb1 := stab_blk _ _ _ _ hb2 hB1
      have hfz := (hg1.1 0 _ rfl).2
      have hc1 := (hg1.1 0 _ rfl).1
      have hge := hg2.2
      have hne : g ≠ W2.heap.size := by omega
      have hwl : w.heap.size < W2.heap.size := hb2.2
      have hT2 : Turned [g, W2.heap.size] w (W2.alloc (.map #[] 0)) := by
        have := Below.then hB02 hB1
        exact ⟨this.os, this.tape, this.output, this.size, fun k hk _ => this.block k hk⟩
      obtain ⟨Z1, hZ1⟩ : ∃ Z1, W2.alloc (.map #[] 0) = Z1 := ⟨_, rfl⟩
      rw [hZ1] at hB1 hm1 hg1 hb1 hfz hc1 hT2
      obtain ⟨Z2, hZ2⟩ : ∃ Z2, Z1.setCell ⟨g, 0, none⟩ (.map (some W2.heap.size)) = Z2 := ⟨_, rfl⟩
      have hoth : ∀ k, k ≠ g → Z2.heap[k]? = Z1.heap[k]? := fun k hk => by rw [← hZ2]; exact heap_setCell_other Z1 ⟨g, 0, none⟩ k _ hk
      have hsz : Z2.heap.size = Z1.heap.size := by rw [← hZ2]; simp
      have hTZ : Turned [g, W2.heap.size] w Z2 := by
        refine ⟨?_, ?_, ?_, by rw [hsz]; exact hT2.size, fun k hk hn => ?_⟩
        · rw [← hZ2]; exact hT2.os
        · rw [← hZ2]; exact hT2.tape
        · rw [← hZ2]; exact hT2.output
        · rw [hoth k (fun e => hn (by simp [e])), hT2.block k hk hn]
      have hg3 : BlkL g [.map (some W2.heap.size)] Z2 := by
        rw [← hZ2]
        exact ⟨hg1.1.set 0 _ (by simp), by simpa using hg1.2⟩
      have hb3 : BlkL w.heap.size (ecs e) Z2 := hb1.keep (hoth _ hgw)
      have hm3 : MapG Z2 W2.heap.size (shv st) (liv st) st.length := hm1.same (hoth _ (Ne.symm hne))
      have hnew : ∀ k ∈ [g, W2.heap.size], k ∈ [g] ∨ w.heap.size ≤ k := fun k hk => by
        simp at hk
        rcases hk with rfl | rfl
        · exact .inl (by simp)
        · exact .inr (by omega)
      clear hnil hg2 hB1 hm1 hg1 hb1 hoth hsz hT2 hb2 hB02 hvv hll
      go_wp2_with fail
      (try rw [hZ1])
      (try rw [hZ2])
      go_meet
      exact ⟨W2.heap.size, hne, by omega, hnew, fun k hk => by simp at hk; simp [hk], hg3, hm3, hb3, hTZ⟩
    · have hm2 := hm.same (hB02.block _ hm.lt)
      have hwb : w.heap.size ≠ b := fun q => by have := hm.lt; omega
      have hTZ : Turned [g, b] w W2 := ⟨hB02.os, hB02.tape, hB02.output, hB02.size, fun k hk _ => hB02.block k hk⟩
      clear hvv hll hm hB02
      go_wp2_with fail
      go_meet
      exact ⟨b, hgb, hwb, fun k hk => .inl hk, fun k hk => hk, hg2, hm2, hb2, hTZ⟩
  case rest =>
    clear hb2 hB02 hcase hg2 hc0
    obtain ⟨b, hgb, hwb, hS1, hS2, hgZ, hmZ, hbZ, hTZ⟩ := hcut
    obtain ⟨Z, rfl⟩ : ∃ Z, Z = wc := ⟨_, rfl⟩
    have hlk := fun W (q : MapG W b (shv st) (liv st) st.length) => lookG_run und_s zero_s q hGx shv_dead
    have hshv : shv st e.label = .agg (scs (audAll st e.label)).toArray := rfl
    rw [hshv] at hlk
    obtain ⟨xs, hxs⟩ : ∃ xs, audAll st e.label = xs := ⟨_, rfl⟩
    rw [hxs] at hlk hx40 hvv
    clear hshv hxs
    have hx40' : xs.length ≤ 40 := Nat.le_of_lt hx40
    have hszw := hTZ.size
    have hbZl := hbZ.2
    have hmZl := hmZ.lt
    go_upto_region 7 with fail
    go_cut [5] from 22 (fun s5 wd => ∃ b5 : Nat, Z.heap.size ≤ b5 ∧ s5 = .pointer (some ⟨b5, 0, none⟩) ∧ BlkL b5 (scs xs) wd ∧ Below Z.heap.size Z wd)
    case first =>
      have hx40 := hx40'
      have hS0 : (fun W => Below Z.heap.size Z W) Z.drew := (Below.refl _ _).drew
      clear hvv hll
      refine wp_region_held_drew (S := (fun W => Below Z.heap.size Z W)) (by kernel_rfl) (by exact hS0) ?_
      intro hHeld
      generalize Z.drew = w0 at *
      refine wpAnyH_take (i := 0) (v := ?_) (by simp only [gA, gB, gC]; rfl) (by kernel_rfl) (by kernel_rfl) (by kernel_rfl) (by exact fun _ _ _ h => h) (Or.inl ⟨by rfl, ?_⟩) (by assumption) ?_; rotate_left; (focus (intro w hSw; (try dsimp only at hSw); go_simp; try with_reducible rfl)); (try simp only [Act.put, sA, sB, sC])
      refine wpAnyH_take (i := 1) (v := ?_) (by simp only [gA, gB, gC]; rfl) (by kernel_rfl) (by kernel_rfl) (by kernel_rfl) (by exact fun _ _ _ h => h) (Or.inl ⟨by rfl, ?_⟩) (by assumption) ?_; rotate_left; (focus (intro w hSw; (try dsimp only at hSw); go_simp; try with_reducible rfl)); (try simp only [Act.put, sA, sB, sC])
      refine wpAnyH_take (i := 2) (v := ?_) (by simp only [gA, gB, gC]; rfl) (by kernel_rfl) (by kernel_rfl) (by kernel_rfl) (by exact fun _ _ _ h => h) (Or.inl ⟨by rfl, ?_⟩) (by assumption) ?_; rotate_left; (focus (intro w hSw; (try dsimp only at hSw); go_simp; try with_reducible rfl)); (try simp only [Act.put, sA, sB, sC])
      refine wpAnyH_take (i := 3) (v := _) (by simp only [gA, gB, gC]; rfl) (by kernel_rfl) (by kernel_rfl) (by kernel_rfl) (by exact fun _ _ _ h => h) (yields_oneG (by rfl) _ rfl ⟨g, 0, none⟩ rfl (.map (some b)) (fun _ q => ((stab_blk _ _ _ _ hgZ q).1 0 _ rfl).1) mapS_load) (by assumption) ?_; (try simp only [Act.put, sA, sB, sC])
      refine wpAnyH_take (i := 4) (v := ?_) (by simp only [gA, gB, gC]; rfl) (by kernel_rfl) (by kernel_rfl) (by kernel_rfl) (by exact fun _ _ _ h => h) (Or.inl ⟨by rfl, ?_⟩) (by assumption) ?_; rotate_left; (focus (intro w hSw; (try dsimp only at hSw); go_simp; try with_reducible rfl)); (try simp only [Act.put, sA, sB, sC])
      refine wpAnyH_take (i := 5) (v := _) (by simp only [gA, gB, gC]; rfl) (by kernel_rfl) (by kernel_rfl) (by kernel_rfl) (by exact fun _ _ _ h => h) (yields_at (by rfl) _ rfl ⟨w.heap.size, 1, none⟩ rfl (lab4 e.label) (fun _ q => ebox_lab (p := e) (stab_blk _ _ _ _ hbZ q)) hundL rfl hsl) (by assumption) ?_; (try simp only [Act.put, sA, sB, sC])
      refine wpAnyH_take (i := 6) (v := _) (by simp only [gA, gB, gC]; rfl) (by kernel_rfl) (by kernel_rfl) (by kernel_rfl) (by exact fun _ _ _ h => h) (yields_lookG (u := .map (some b)) (v := e.label.v) (by rfl) _ _ rfl rfl rfl (fun W q => hlk W (hmZ.same (q.block _ hmZ.lt)))) (by assumption) ?_; (try simp only [Act.put, sA, sB, sC])
      refine wpAnyH_ready (rs := [7]) (by kernel_rfl) (by simp) ?_
      refine AllReadyH.cons (by simp only [gA, gB, gC]; rfl) (fun K hK => ?_) AllReadyH.nil
      obtain ⟨w2, hw2, hth2, hn2, hb2⟩ := put_new w0 (scs []).toArray 56 (scs xs) (by rw [scs_len hx40]; exact (scs_len (xs := []) (by decide)).symm) (by rw [scs_len hx40]; decide)
      have hS1 := Below.then hS0 (alloc_below w0 (.cells (scs []).toArray 56))
      have hS2 := Below.then hS0 hb2
      have hz0 := hS0.size
      refine step_alloc_s rfl rfl ?_
      (try simp only [Act.put, sA, sB, sC])
      refine hK.out _ _ (hS1) ?_
      clear hHeld hK
      intro hHeld
      (try simp only [Act.put, sA, sB, sC])
      refine wpAnyH_ready (rs := [8]) (by kernel_rfl) (by simp) ?_
      refine AllReadyH.cons (by simp only [gA, gB, gC]; rfl) (fun K hK => ?_) AllReadyH.nil
      refine step_store_part rfl _ _ rfl w0.heap.size 0 rfl (scs xs) rfl hth2 (size_of hx40) (scs_one xs) hw2 ?_
      (try simp only [Act.put, sA, sB, sC])
      refine hK.out _ _ (hS2) ?_
      clear hHeld hK
      intro hHeld
      (try simp only [Act.put, sA, sB, sC])
      refine wpAnyH_done (by kernel_rfl) ?_ _
      go_wp2_with fail
      go_meet
      exact ⟨w0.heap.size, hz0, rfl, hn2, hS2⟩
    case rest =>
      obtain ⟨b5, hz5, rfl, hb5, hBZ⟩ := hcut
      obtain ⟨X, rfl⟩ : ∃ X, X = wc := ⟨_, rfl⟩
      have hgX := stab_blk _ _ _ _ hgZ hBZ
      have hbX := stab_blk _ _ _ _ hbZ hBZ
      have hmX := hmZ.same (hBZ.block _ hmZl)
      have hTX := hTZ.then hBZ
      have hwX : w.heap.size ≠ b5 := by omega
      have hbX5 : b ≠ b5 := by omega
      have hgX5 : g ≠ b5 := by omega
      clear hgZ hbZ hmZ hTZ hBZ hlk
      have hc360 := (hb5.1 360 _ (scs_cnt hx40')).1
      obtain ⟨n, hn⟩ : ∃ n, xs.length = n := ⟨_, rfl⟩
      have hwr : IntKind.i64.wrap ((n : Int) + 1) = (n : Int) + 1 := by rw [IntKind.wrap_i64]; omega
      have hbc := (hbX.1 0 _ rfl).1
      have hbf := (hbX.1 0 _ rfl).2
      rw [hn] at hc360
      obtain ⟨X1, hX1⟩ : ∃ X1, X.setCell ⟨w.heap.size, 0, none⟩ (.int .i64 ((n : Int) + 1)) = X1 := ⟨_, rfl⟩
      obtain ⟨e2, he2⟩ : ∃ e2, ({ e with seq := (n : Int) + 1 } : Ent) = e2 := ⟨_, rfl⟩
      have hoth1 : ∀ k, k ≠ w.heap.size → X1.heap[k]? = X.heap[k]? := fun k hk => by rw [← hX1]; exact heap_setCell_other X ⟨w.heap.size, 0, none⟩ k _ hk
      have hb1 : BlkL w.heap.size (ecs e2) X1 := by rw [← hX1, ← he2]; exact set_seqA X _ e _ hbX
      have h51 : BlkL b5 (scs xs) X1 := hb5.keep (hoth1 _ (Ne.symm hwX))
      have hg1 : BlkL g [.map (some b)] X1 := hgX.keep (hoth1 _ (Ne.symm hgw))
      have hm1 := hmX.same (hoth1 _ (Ne.symm hwb))
      have hT1 : Turned [g, b] w X1 := by rw [← hX1]; exact hTX.cell (p := ⟨w.heap.size, 0, none⟩) (Nat.le_refl _) _
      have hel : e2.label = e.label := by rw [← he2]
      clear hbX hgX hmX hTX
      go_upto_region 9 with fail
      (try rw [hX1])
      have hc361 := (h51.1 360 _ (scs_cnt hx40')).1
      rw [hn] at hc361
      have hr1 := hb1.range
      have i40 : (n : Int) < 40 := by omega
      have hnn : n * 9 + 9 ≤ 361 := by omega
      have hl361 := scs_len hx40'
      obtain ⟨X2, hX2⟩ : ∃ X2, X1.setCells b5 (n * 9) (ecs e2) = X2 := ⟨_, rfl⟩
      have hth2 : X1.there b5 (n * 9) (ecs e2).length := h51.1.thereM (n * 9) _ (by rw [ecs_len, hl361]; exact hnn)
      have h52 : BlkL b5 (setM (scs xs) (n * 9) (ecs e2)) X2 := by
        rw [← hX2]
        exact ⟨Blk.putM _ _ h51.1 (by rw [ecs_len, hl361]; exact hnn), by rw [size_setCells]; exact h51.2⟩
      have hoth2 : ∀ k, k ≠ b5 → X2.heap[k]? = X1.heap[k]? := fun k hk => by rw [← hX2]; exact heap_setCells_other hk _ _ _
      have hb2 : BlkL w.heap.size (ecs e2) X2 := hb1.keep (hoth2 _ hwX)
      have hg2 : BlkL g [.map (some b)] X2 := hg1.keep (hoth2 _ hgX5)
      have hm2 := hm1.same (hoth2 _ hbX5)
      have hT2 : Turned [g, b] w X2 := by rw [← hX2]; exact hT1.cells (Nat.le_trans hszw hz5) _ _
      have hone2 := ent_one e2
      go_upto_region 10 with (first | (refine wpList_load_row rfl _ rfl w.heap.size rfl (ecs e2) hr1 hundE rfl hse ?_) | (refine wpList_store_part rfl _ _ rfl b5 (n * 9) rfl (ecs e2) rfl hth2 hse hone2 hX2 ?_) | fail)
      simp only [Act.put]
      have h360 : (setM (scs xs) (n * 9) (ecs e2))[360]? = some (.int .i64 (n : Int)) := by
        rw [setM_out _ _ _ _ (by rw [ecs_len]; omega), scs_cnt hx40', hn]
      have hc362 := (h52.1 360 _ h360).1
      have hf362 := (h52.1 360 _ h360).2
      obtain ⟨ys, hys⟩ : ∃ ys, xs ++ [e2] = ys := ⟨_, rfl⟩
      obtain ⟨Y, hY⟩ : ∃ Y, X2.setCell ⟨b5, 360, none⟩ (.int .i64 ((n : Int) + 1)) = Y := ⟨_, rfl⟩
      have hoth3 : ∀ k, k ≠ b5 → Y.heap[k]? = X2.heap[k]? := fun k hk => by rw [← hY]; exact heap_setCell_other X2 ⟨b5, 360, none⟩ k _ hk
      have h53 : BlkL b5 (scs ys) Y := by
        rw [← hY, ← hys, ← scs_add hx40 e2, hn]
        exact ⟨h52.1.set 360 _ (by rw [setM_len, hl361]; decide), by simpa using h52.2⟩
      have hb3 : BlkL w.heap.size (ecs e2) Y := hb2.keep (hoth3 _ hwX)
      have hg3 : BlkL g [.map (some b)] Y := hg2.keep (hoth3 _ hgX5)
      have hm3 := hm2.same (hoth3 _ hbX5)
      have hT3 : Turned [g, b] w Y := by rw [← hY]; exact hT2.cell (p := ⟨b5, 360, none⟩) (Nat.le_trans hszw hz5) _
      have hy40 : ys.length ≤ 40 := by rw [← hys]; simp; omega
      have hvv2 : ∀ y, shv N y = if labEq e.label y = true then .agg (scs ys).toArray else shv st y := fun y => by
        rw [hvv, hn, ← hys, ← he2]
        rfl
      clear hth2 hX1 hX2 h51 h52 hb1 hb2 hg1 hg2 hm1 hm2 hT1 hT2 hr1 hc360 hc361 h360 hvv hbc hbf hone2 hb5
      go_upto_region 11 with fail
      (try rw [hY])
      have h5b : b5 ≠ b := Ne.symm hbX5
      have hxb := hwb
      clear hc362 hf362 hY hoth1 hoth2 hoth3
      go_cut [] from 42 (fun wd => MapG wd b (shv N) (liv N) (st.length + 1) ∧ BlkL g [.map (some b)] wd ∧ Turn1 b Y.drew wd)
      case first =>
        have hBd : Below Y.heap.size Y Y.drew := (Below.refl _ _).drew
        have hS0 : (fun W => BlkL g [.map (some b)] W ∧ BlkL w.heap.size (ecs e2) W ∧ BlkL b5 (scs ys) W) Y.drew := ⟨stab_blk _ _ _ _ hg3 hBd, stab_blk _ _ _ _ hb3 hBd, stab_blk _ _ _ _ h53 hBd⟩
        have hM0 := hm3.same (hBd.block _ hm3.lt)
        have hvv := hvv2
        clear hBd hm3 hg3 hb3 h53
        refine wp_region_held_drew (S := (fun W => BlkL g [.map (some b)] W ∧ BlkL w.heap.size (ecs e2) W ∧ BlkL b5 (scs ys) W)) (by kernel_rfl) (by exact hS0) ?_
        intro hHeld
        generalize Y.drew = w0 at *
        refine wpAnyH_take (i := 0) (v := ?_) (by simp only [gA, gB, gC]; rfl) (by kernel_rfl) (by kernel_rfl) (by kernel_rfl) (by exact fun _ _ _ h => h) (Or.inl ⟨by rfl, ?_⟩) (by assumption) ?_; rotate_left; (focus (intro w hSw; (try dsimp only at hSw); go_simp; try with_reducible rfl)); (try simp only [Act.put, sA, sB, sC])
        refine wpAnyH_take (i := 1) (v := ?_) (by simp only [gA, gB, gC]; rfl) (by kernel_rfl) (by kernel_rfl) (by kernel_rfl) (by exact fun _ _ _ h => h) (Or.inl ⟨by rfl, ?_⟩) (by assumption) ?_; rotate_left; (focus (intro w hSw; (try dsimp only at hSw); go_simp; try with_reducible rfl)); (try simp only [Act.put, sA, sB, sC])
        refine wpAnyH_take (i := 2) (v := ?_) (by simp only [gA, gB, gC]; rfl) (by kernel_rfl) (by kernel_rfl) (by kernel_rfl) (by exact fun _ _ _ h => h) (Or.inl ⟨by rfl, ?_⟩) (by assumption) ?_; rotate_left; (focus (intro w hSw; (try dsimp only at hSw); go_simp; try with_reducible rfl)); (try simp only [Act.put, sA, sB, sC])
        refine wpAnyH_take (i := 3) (v := _) (by simp only [gA, gB, gC]; rfl) (by kernel_rfl) (by kernel_rfl) (by kernel_rfl) (by exact fun _ _ _ h => h) (yields_oneG (by rfl) _ rfl ⟨g, 0, none⟩ rfl (.map (some b)) (fun _ q => (q.1.1 0 _ rfl).1) mapS_load) (by assumption) ?_; (try simp only [Act.put, sA, sB, sC])
        refine wpAnyH_take (i := 4) (v := ?_) (by simp only [gA, gB, gC]; rfl) (by kernel_rfl) (by kernel_rfl) (by kernel_rfl) (by exact fun _ _ _ h => h) (Or.inl ⟨by rfl, ?_⟩) (by assumption) ?_; rotate_left; (focus (intro w hSw; (try dsimp only at hSw); go_simp; try with_reducible rfl)); (try simp only [Act.put, sA, sB, sC])
        refine wpAnyH_take (i := 5) (v := _) (by simp only [gA, gB, gC]; rfl) (by kernel_rfl) (by kernel_rfl) (by kernel_rfl) (by exact fun _ _ _ h => h) (yields_at (by rfl) _ rfl ⟨w.heap.size, 1, none⟩ rfl (lab4 e.label) (fun _ q => hel ▸ ebox_lab q.2.1) hundL rfl hsl) (by assumption) ?_; (try simp only [Act.put, sA, sB, sC])
        refine wpAnyH_take (i := 6) (v := _) (by simp only [gA, gB, gC]; rfl) (by kernel_rfl) (by kernel_rfl) (by kernel_rfl) (by exact fun _ _ _ h => h) (yields_row (by rfl) _ rfl b5 rfl (scs ys) (fun _ q => q.2.2.range) hundS rfl (size_of hy40)) (by assumption) ?_; (try simp only [Act.put, sA, sB, sC])
        refine wpAnyH_ready (rs := [7]) (by kernel_rfl) (by simp) ?_
        refine AllReadyH.cons (by simp only [gA, gB, gC]; rfl) (fun K hK => ?_) AllReadyH.nil
        obtain ⟨w1, hrun1, hM1, hT1⟩ := updG_run und_s hM0 hGx (.agg (scs ys).toArray) hvv hll
        have hS1 : (fun W => BlkL g [.map (some b)] W ∧ BlkL w.heap.size (ecs e2) W ∧ BlkL b5 (scs ys) W) w1 := ⟨hT1.blk hS0.1 hgb, hT1.blk hS0.2.1 hxb, hT1.blk hS0.2.2 h5b⟩
        refine step_upd rfl _ _ _ rfl rfl rfl rfl hrun1 ?_
        (try simp only [Act.put, sA, sB, sC])
        refine hK.out _ _ (hS1) ?_
        clear hHeld hK
        intro hHeld
        (try simp only [Act.put, sA, sB, sC])
        refine wpAnyH_done (by kernel_rfl) ?_ _
        go_wp2_with fail
        go_meet
        exact ⟨hM1, hS1.1, hT1⟩
      case rest =>
        obtain ⟨hM, hg4, hT⟩ := hcut
        have hTd : Turned [g, b] w Y.drew := hT3.then (Below.refl _ _).drew
        have hTT := hTd.turn1 hT (by simp)
        have hTS : Turned S w wc := ⟨hTT.os, hTT.tape, hTT.output, hTT.size, fun k hk hn => hTT.block k hk fun q => by
          rcases hS1 k q with q | q
          · exact hn q
          · omega⟩
        rw [← hlen] at hM
        clear hvv2 hll
        go_wp2_with fail
        go_ret
        exact ⟨rfl, [g, b], ⟨g, rfl, .inr ⟨b, rfl, hgb, hg4, hM⟩⟩, hTS, hS1⟩
end Go.Proofs.YtohocomemkckeaaGreatDoor

/-! WHAT IS SEEN, label by label (chapter 14): rows of entries that stand by their labels are alike if each label's entries are. -/
namespace Go.Proofs.YtohocomemkckeaaGreatDoor
open Go.RowKit
set_option maxRecDepth 8000
set_option linter.unusedSimpArgs false
set_option linter.unusedVariables false

theorem all_cons (a : Ent) (r : List Ent) (t : Lab) : audAll (a :: r) t = (if labEq a.label t = true then [a] else []) ++ audAll r t := by
  unfold audAll
  rw [List.filter_cons]
  split <;> rfl
theorem mem_all {l : List Ent} {t : Lab} {x : Ent} : x ∈ audAll l t ↔ x ∈ l ∧ x.label = t := by
  unfold audAll
  rw [List.mem_filter, labEq_iff]
theorem sortE_uniq : ∀ {l r : List Ent}, SortE l → SortE r → (∀ t, audAll l t = audAll r t) → l = r
  | [], [], _, _, _ => rfl
  | [], b :: r, _, _, h => by
    have := h b.label
    rw [all_cons, if_pos ((labEq_iff _ _).2 rfl)] at this
    simp [audAll] at this
  | a :: l, [], _, _, h => by
    have := h a.label
    rw [all_cons, if_pos ((labEq_iff _ _).2 rfl)] at this
    simp [audAll] at this
  | a :: l, b :: r, hl, hr, h => by
    obtain ⟨h1, h2⟩ := List.pairwise_cons.1 hl
    obtain ⟨h3, h4⟩ := List.pairwise_cons.1 hr
    have e1 : lessL a.label b.label = false := by
      have hm : a ∈ audAll (b :: r) a.label := by rw [← h a.label]; exact mem_all.2 ⟨List.mem_cons_self, rfl⟩
      rcases List.mem_cons.1 (mem_all.1 hm).1 with q | q
      · rw [q]; exact less_irr _
      · exact h3 a q
    have e2 : lessL b.label a.label = false := by
      have hm : b ∈ audAll (a :: l) b.label := by rw [h b.label]; exact mem_all.2 ⟨List.mem_cons_self, rfl⟩
      rcases List.mem_cons.1 (mem_all.1 hm).1 with q | q
      · rw [q]; exact less_irr _
      · exact h1 b q
    have e3 : a.label = b.label := by
      rcases less_tot a.label b.label with q | q | q
      · rw [e1] at q; cases q
      · exact q
      · rw [e2] at q; cases q
    have e4 : a = b := by
      have := h a.label
      rw [all_cons, all_cons, if_pos ((labEq_iff _ _).2 rfl), if_pos ((labEq_iff _ _).2 e3.symm)] at this
      simp only [List.cons_append, List.nil_append] at this
      injection this
    subst e4
    rw [sortE_uniq h2 h4 fun t => by
      have := h t
      rw [all_cons, all_cons] at this
      exact List.append_cancel_left this]
theorem seen_sort {l : List Ent} (h : SortE l) (b : Lab) : SortE (audSeen l b) := List.Pairwise.sublist List.filter_sublist h
theorem all_seen (l : List Ent) (b t : Lab) : audAll (audSeen l b) t = if rov b t = true then audAll l t else [] := by
  unfold audAll audSeen
  rw [List.filter_filter]
  by_cases hq : rov b t = true
  · rw [if_pos hq]
    refine List.filter_congr fun x _ => ?_
    cases hx : labEq x.label t
    · rfl
    · rw [(labEq_iff _ _).1 hx, hq]; rfl
  · rw [if_neg hq, List.filter_eq_nil_iff]
    intro x _ k
    simp only [Bool.and_eq_true] at k
    rw [(labEq_iff _ _).1 k.1] at k
    exact hq k.2
theorem all_all (l : List Ent) (s t : Lab) : audAll (audAll l s) t = if labEq s t = true then audAll l t else [] := by
  by_cases hq : labEq s t = true
  · rw [if_pos hq, (labEq_iff _ _).1 hq]
    unfold audAll
    rw [List.filter_filter]
    exact List.filter_congr fun x _ => Bool.and_self _
  · rw [if_neg hq]
    unfold audAll
    rw [List.filter_filter, List.filter_eq_nil_iff]
    intro x _ k
    simp only [Bool.and_eq_true, labEq_iff] at k hq
    exact hq (k.2.symm.trans k.1)
theorem all_append (a b : List Ent) (t : Lab) : audAll (a ++ b) t = audAll a t ++ audAll b t := List.filter_append ..
theorem all_flat (l : List Ent) (t : Lab) : ∀ (xs : List Lab), xs.Nodup → (t ∈ xs → audAll (xs.flatMap (audAll l)) t = audAll l t) ∧ (t ∉ xs → audAll (xs.flatMap (audAll l)) t = [])
  | [], _ => ⟨(fun h => by cases h), fun _ => rfl⟩
  | x :: r, h => by
    obtain ⟨h1, h2⟩ := List.nodup_cons.1 h
    obtain ⟨i1, i2⟩ := all_flat l t r h2
    rw [List.flatMap_cons, all_append, all_all]
    by_cases hq : labEq x t = true
    · obtain rfl := (labEq_iff _ _).1 hq
      rw [if_pos hq, i2 h1, List.append_nil]
      exact ⟨fun _ => rfl, fun q => absurd List.mem_cons_self q⟩
    · rw [if_neg hq, List.nil_append]
      refine ⟨fun q => i1 ?_, fun q => i2 fun k => q (List.mem_cons_of_mem _ k)⟩
      rcases List.mem_cons.1 q with q | q
      · exact absurd ((labEq_iff _ _).2 q.symm) hq
      · exact q
theorem flat_sort (l : List Ent) : ∀ {xs : List Lab}, SortL xs → SortE (xs.flatMap (audAll l))
  | [], _ => List.Pairwise.nil
  | x :: r, h => by
    obtain ⟨h1, h2⟩ := List.pairwise_cons.1 h
    rw [List.flatMap_cons]
    refine List.pairwise_append.2 ⟨?_, flat_sort l h2, fun a ha b hb => ?_⟩
    · refine List.Pairwise.imp_of_mem (R := fun _ _ => True) (fun {a b} ha hb _ => ?_) (List.pairwise_of_forall fun _ _ => trivial)
      rw [(mem_all.1 ha).2, (mem_all.1 hb).2]
      exact less_irr _
    · obtain ⟨y, hy, hb⟩ := List.mem_flatMap.1 hb
      rw [(mem_all.1 ha).2, (mem_all.1 hb).2]
      exact h1 y hy
/-- Those of the labels below, one label behind the other. -/
theorem seen_flat {l : List Ent} {xs : List Lab} {b : Lab} (hl : SortE l) (hn : xs.Nodup) (hs : SortL xs) (hm : ∀ x, x ∈ xs ↔ (audAll l x ≠ [] ∧ rov b x = true)) : xs.flatMap (audAll l) = audSeen l b := by
  refine sortE_uniq (flat_sort l hs) (seen_sort hl b) fun t => ?_
  obtain ⟨i1, i2⟩ := all_flat l t xs hn
  rw [all_seen]
  by_cases hq : rov b t = true
  · rw [if_pos hq]
    by_cases h0 : audAll l t = []
    · rw [h0]
      by_cases hx : t ∈ xs
      · rw [i1 hx, h0]
      · exact i2 hx
    · exact i1 ((hm t).2 ⟨h0, hq⟩)
  · rw [if_neg hq]
    exact i2 fun q => hq ((hm t).1 q).2
end Go.Proofs.YtohocomemkckeaaGreatDoor

/-! SORTS by a closure that may lay blocks of its own (sort.Slice's family): what is asked of the row, of less and of swap; insertion sort. For every stage from the twelfth on. -/
namespace Go.Proofs.YtohocomemkckeaaGreatDoor
open Go.RowKit
set_option maxRecDepth 8000
set_option linter.unusedSimpArgs false
set_option linter.unusedVariables false

/-- S w d: in the world w the row holds d. Less answers lt, and turns nothing that lay there; swap turns the row's block alone. -/
structure Srt {α : Type} [Inhabited α] (n g sf : Nat) (lb sb : Array Value) (lt : α → α → Bool) (blk : Nat) (S : World → Array α → Prop) : Prop where
  enter : ∀ args w, (callFunc g args).run Tryz.prog w = .ok (.enter g args) w
  less : ∀ (w : World) (d : Array α) (i j : Nat), S w d → i < n → j < n → Calls Tryz.prog g (#[.int .i64 (i : Int), .int .i64 (j : Int)] ++ lb) w fun e w' => e = .returned (.bool (lt d[i]! d[j]!)) ∧ Below w.heap.size w w'
  swap : ∀ (w : World) (d : Array α) (i j : Nat), S w d → i < n → j < n → ∃ w', (callFunc sf (#[.int .i64 (i : Int), .int .i64 (j : Int)] ++ sb)).run Tryz.prog w = .ok (.value (.tuple #[])) w' ∧ S w' (Sort.swp d i j) ∧ Turned [blk] w w'
  keep : ∀ {w w' : World} {d : Array α}, S w d → Below w.heap.size w w' → S w' d
  lt : ∀ {w : World} {d : Array α}, S w d → blk < w.heap.size
  size : ∀ {w : World} {d : Array α}, S w d → d.size = n
  few : n < 1000000
  brk : ∀ (w : World) (d : Array α) (a b : Nat), S w d → a ≤ b → b ≤ n → Calls Tryz.prog 84 #[.agg #[.func (.func g) #[] lb, .func (.func sf) #[] sb], .int .i64 (a : Int), .int .i64 (b : Int)] w fun e w' => e = .returned (.tuple #[]) ∧ S w' (Sort.breakPatterns d a b) ∧ Turned [blk] w w'
  far : ∃ B, (∀ {w : World} {d : Array α}, S w d → B ≤ w.heap.size) ∧ ∀ {w w' : World} {d : Array α}, S w d → (∀ k, k < B → w'.heap[k]? = w.heap[k]?) → S w' d
theorem turned_refl (S : List Nat) (w : World) : Turned S w w := ⟨rfl, rfl, rfl, Nat.le_refl _, fun _ _ _ => rfl⟩
theorem turned_below {S : List Nat} {w w' : World} (h : Below w.heap.size w w') : Turned S w w' := ⟨h.os, h.tape, h.output, h.size, fun k hk _ => h.block k hk⟩
theorem Turned.trans {S : List Nat} {w w' w'' : World} (h : Turned S w w') (k : Turned S w' w'') : Turned S w w'' :=
  ⟨k.os.trans h.os, k.tape.trans h.tape, k.output.trans h.output, Nat.le_trans h.size k.size, fun j hj hn => (k.block j (Nat.lt_of_lt_of_le hj h.size) hn).trans (h.block j hj hn)⟩
/-- What a function of the family holds: its row, its box of less and swap, and that nothing else has turned. -/
structure Sr {α : Type} (S : World → Array α → Prop) (blk bx : Nat) (lv sv : Value) (w w' : World) (d : Array α) : Prop where
  row : S w' d
  box : BlkL bx [lv, sv] w'
  ne : bx ≠ blk
  turned : Turned [blk] w w'
section
variable {α : Type} [Inhabited α] {n g sf blk bx : Nat} {lb sb : Array Value} {lt : α → α → Bool} {S : World → Array α → Prop} {lv sv : Value} {w w1 w2 : World} {d : Array α}
theorem Sr.below (h : Sr S blk bx lv sv w w1 d) (K : Srt n g sf lb sb lt blk S) (hb : Below w1.heap.size w1 w2) : Sr S blk bx lv sv w w2 d :=
  ⟨K.keep h.row hb, stab_blk _ _ _ _ h.box hb, h.ne, h.turned.trans (turned_below hb)⟩
theorem Sr.swapped {α : Type} {blk bx : Nat} {S : World → Array α → Prop} {lv sv : Value} {w w1 w2 : World} {d : Array α} (h : Sr S blk bx lv sv w w1 d) {d' : Array α} (hS : S w2 d') (ht : Turned [blk] w1 w2) : Sr S blk bx lv sv w w2 d' :=
  ⟨hS, ht.blk h.box (by simpa using h.ne), h.ne, h.turned.trans ht⟩
theorem Sr.begin (K : Srt n g sf lb sb lt blk S) (hS : S w d) (T : TypeId) : Sr S blk w.heap.size lv sv w (w.alloc (.cells #[lv, sv] T)) d :=
  have hb := alloc_below w (.cells #[lv, sv] T)
  ⟨K.keep hS hb, blkl_alloc w #[lv, sv] T, fun e => by have := K.lt hS; omega, turned_below hb⟩
theorem Srt.lessAt (K : Srt n g sf lb sb lt blk S) {i j : Int} (p q : Nat) (hi : i = (p : Int)) (hj : j = (q : Int)) (hp : p < n) (hq : q < n) (hS : S w d) {v : Bool} (hv : lt d[p]! d[q]! = v) :
    Calls Tryz.prog g (#[.int .i64 i, .int .i64 j] ++ lb) w fun e w' => e = .returned (.bool v) ∧ Below w.heap.size w w' := by
  subst hi hj hv
  exact K.less w d p q hS hp hq
theorem Srt.swapAt (K : Srt n g sf lb sb lt blk S) {i j : Int} (p q : Nat) (hi : i = (p : Int)) (hj : j = (q : Int)) (hp : p < n) (hq : q < n) (h : Sr S blk bx lv sv w1 w d) :
    ∃ w', (callFunc sf (#[.int .i64 i, .int .i64 j] ++ sb)).run Tryz.prog w = .ok (.value (.tuple #[])) w' ∧ Sr S blk bx lv sv w1 w' (Sort.swp d p q) := by
  subst hi hj
  obtain ⟨w', h1, h2, h3⟩ := K.swap w d p q h.row hp hq
  exact ⟨w', h1, h.swapped h2 h3⟩
theorem Sr.c0 {α : Type} {blk bx : Nat} {S : World → Array α → Prop} {lv sv : Value} {w w1 : World} {d : Array α} (h : Sr S blk bx lv sv w w1 d) : w1.cell? ⟨bx, 0, none⟩ = some lv := (h.box.1 0 lv rfl).1
theorem Sr.c1 {α : Type} {blk bx : Nat} {S : World → Array α → Prop} {lv sv : Value} {w w1 : World} {d : Array α} (h : Sr S blk bx lv sv w w1 d) : w1.cell? ⟨bx, 1, none⟩ = some sv := (h.box.1 1 sv rfl).1
end
set_option maxRecDepth 8000 in
set_option maxHeartbeats 4000000 in
theorem sins_any {α : Type} [Inhabited α] {n g sf blk : Nat} {lb sb : Array Value} {lt : α → α → Bool} {S : World → Array α → Prop} (K : Srt n g sf lb sb lt blk S) (a b : Nat) (d : Array α) (w : World) (hS : S w d) (hab : a ≤ b) (hb : b ≤ n) :
    Calls Tryz.prog 82 #[.agg #[.func (.func g) #[] lb, .func (.func sf) #[] sb], .int .i64 (a : Int), .int .i64 (b : Int)] w fun e w' => e = .returned (.tuple #[]) ∧ S w' (Sort.insertionSort lt d a b) ∧ Turned [blk] w w' := by
  have eg := K.enter
  have hn := K.few
  obtain ⟨R, hR⟩ : ∃ R, Sort.insertionSort lt d a b = R := ⟨_, rfl⟩
  rw [hR]
  replace hR : Aside (Sort.insOuter lt a b (a + 1) d = R) := hR
  have h0 := Sr.begin (lv := .func (.func g) #[] lb) (sv := .func (.func sf) #[] sb) K hS 84
  go_enter Tryz.func82, Tryz.ntmps82
  go_wp2_with fail
  generalize w.alloc (.cells #[.func (.func g) #[] lb, .func (.func sf) #[] sb] 84) = W0 at *
  go_loopw [6] (fun t wr => ∃ (i : Nat) (dk : Array α), t = .int .i64 (i : Int) ∧ a < i ∧ i ≤ b + 1 ∧ Sr S blk w.heap.size (.func (.func g) #[] lb) (.func (.func sf) #[] sb) w wr dk ∧ Aside (Sort.insOuter lt a b i dk = R)) (fun t _ => b + 1 - (Go.RowKit.intOf t).toNat)
  case atStart => exact ⟨a + 1, d, by simp, by omega, by omega, h0, hR⟩
  case round =>
    clear h0 hR
    obtain ⟨i, dk, rfl, hai, hib, h, hO⟩ := hrel
    by_cases hlt : i < b
    · replace hO : Aside (Sort.insOuter lt a b (i + 1) (Sort.insInner lt a i dk) = R) := by
        have := hO.out
        rwa [insOuter_go _ _ _ _ _ hlt] at this
      have i1 : (i : Int) < (b : Int) := by omega
      go_wp2_with fail
      go_loopw [7] (fun t wr => ∃ (j : Nat) (dj : Array α), t = .int .i64 (j : Int) ∧ a ≤ j ∧ j ≤ i ∧ Sr S blk w.heap.size (.func (.func g) #[] lb) (.func (.func sf) #[] sb) w wr dj ∧ Aside (Sort.insInner lt a j dj = Sort.insInner lt a i dk)) (fun t _ => (Go.RowKit.intOf t).toNat)
      case atStart => exact ⟨i, dk, rfl, by omega, by omega, h, rfl⟩
      case round =>
        clear h
        obtain ⟨j, dj, rfl, haj, hji, h, hI⟩ := hrel
        have c0 := h.c0
        have c1 := h.c1
        by_cases hja : a < j
        · have i2 : (a : Int) < (j : Int) := by omega
          have kl := K.less wr dj j (j - 1) h.row (by omega) (by omega)
          have ej : (((j - 1 : Nat)) : Int) = (j : Int) - 1 := by omega
          rw [ej] at kl
          cases hlv : lt dj[j]! dj[j - 1]!
          · rw [hlv] at kl
            replace hI : Aside (dj = Sort.insInner lt a i dk) := by
              have := hI.out
              rwa [insInner_stop _ _ _ _ (.inr hlv)] at this
            clear hlv
            go_wp2_with (go_at_fn g; refine kl.mono ?_; rintro e w1 ⟨rfl, hb1⟩)
            exact ⟨⟨i + 1, dj, by simp, by omega, by omega, h.below K hb1, by rw [hI.out]; exact hO⟩, by simp [Go.RowKit.intOf]; omega⟩
          · rw [hlv] at kl
            replace hI : Aside (Sort.insInner lt a (j - 1) (Sort.swp dj j (j - 1)) = Sort.insInner lt a i dk) := by
              have := hI.out
              rwa [insInner_go _ _ _ _ hja hlv] at this
            clear hlv
            go_wp2_with (go_at_fn g; refine kl.mono ?_; rintro e w1 ⟨rfl, hb1⟩; have h1 := h.below K hb1; have c1' := h1.c1; obtain ⟨w2, hsw, hS2, hT2⟩ := K.swap w1 dj j (j - 1) h1.row (by omega) (by omega); rw [ej] at hsw; have h2 := h1.swapped hS2 hT2)
            exact ⟨⟨j - 1, _, by rw [ej], by omega, by omega, h2, hI⟩, by simp [Go.RowKit.intOf]; omega⟩
        · replace hI : Aside (dj = Sort.insInner lt a i dk) := by
            have := hI.out
            rwa [insInner_stop _ _ _ _ (.inl (by omega))] at this
          have i2 : ¬ (a : Int) < (j : Int) := by omega
          go_wp2_with fail
          exact ⟨⟨i + 1, dj, by simp, by omega, by omega, h, by rw [hI.out]; exact hO⟩, by simp [Go.RowKit.intOf]; omega⟩
    · have hR2 := hO.out
      rw [insOuter_stop _ _ _ _ _ hlt] at hR2
      subst hR2
      clear hO
      have i1 : ¬ (i : Int) < (b : Int) := by omega
      go_wp2_with fail
      go_end0
      exact ⟨rfl, h.row, h.turned⟩
end Go.Proofs.YtohocomemkckeaaGreatDoor

/-! SORTS by a closure: siftDown, heapSort. Written by mk_srt.py. -/
namespace Go.Proofs.YtohocomemkckeaaGreatDoor
open Go.RowKit
set_option maxRecDepth 8000
set_option linter.unusedSimpArgs false
set_option linter.unusedVariables false

section
variable {α : Type} [Inhabited α] {lt : α → α → Bool} {hi F root c : Nat} {d : Array α}
theorem sift_end (h : hi ≤ 2 * root + 1) : Sort.siftDown lt hi F root d = d := by rw [Sort.siftDown, dif_pos h]
theorem sift_right (h0 : 2 * root + 2 < hi) (h1 : lt d[F + (2 * root + 1)]! d[F + (2 * root + 1) + 1]! = true) : Sort.siftDown lt hi F root d = if lt d[F + root]! d[F + (2 * root + 2)]! = true then Sort.siftDown lt hi F (2 * root + 2) (Sort.swp d (F + root) (F + (2 * root + 2))) else d := by
  rw [Sort.siftDown, dif_neg (by omega), if_pos (by simp [h1]; omega)]
  cases h : lt d[F + root]! d[F + (2 * root + 2)]!
  · simp
  · simp [h0]
theorem sift_left (h0 : 2 * root + 1 < hi) (h1 : ¬ 2 * root + 2 < hi ∨ lt d[F + (2 * root + 1)]! d[F + (2 * root + 1) + 1]! = false) : Sort.siftDown lt hi F root d = if lt d[F + root]! d[F + (2 * root + 1)]! = true then Sort.siftDown lt hi F (2 * root + 1) (Sort.swp d (F + root) (F + (2 * root + 1))) else d := by
  rw [Sort.siftDown, dif_neg (by omega), if_neg (by rcases h1 with h | h <;> simp [h])]
  cases h : lt d[F + root]! d[F + (2 * root + 1)]!
  · simp
  · simp
end
set_option maxRecDepth 8000 in
set_option maxHeartbeats 8000000 in
theorem ssift_any {α : Type} [Inhabited α] {n g sf blk : Nat} {lb sb : Array Value} {lt : α → α → Bool} {S : World → Array α → Prop} (K : Srt n g sf lb sb lt blk S) (lo hi F : Nat) (d : Array α) (w : World) (hS : S w d) (hb : F + hi ≤ n) (hlo : lo ≤ n) :
    Calls Tryz.prog 93 #[.agg #[.func (.func g) #[] lb, .func (.func sf) #[] sb], .int .i64 (lo : Int), .int .i64 (hi : Int), .int .i64 (F : Int)] w fun e w' => e = .returned (.tuple #[]) ∧ S w' (Sort.siftDown lt hi F lo d) ∧ Turned [blk] w w' := by
  have eg := K.enter
  have hn := K.few
  obtain ⟨R, hR⟩ : ∃ R, Sort.siftDown lt hi F lo d = R := ⟨_, rfl⟩
  rw [hR]
  replace hR : Aside (Sort.siftDown lt hi F lo d = R) := hR
  have h0 := Sr.begin (lv := .func (.func g) #[] lb) (sv := .func (.func sf) #[] sb) K hS 84
  go_enter Tryz.func93, Tryz.ntmps93
  go_wp2_with fail
  generalize w.alloc (.cells #[.func (.func g) #[] lb, .func (.func sf) #[] sb] 84) = W0 at *
  go_loopw [8] (fun t wr => ∃ (r : Nat) (dk : Array α), t = .int .i64 (r : Int) ∧ r ≤ n ∧ Sr S blk w.heap.size (.func (.func g) #[] lb) (.func (.func sf) #[] sb) w wr dk ∧ Aside (Sort.siftDown lt hi F r dk = R)) (fun t _ => hi - (Go.RowKit.intOf t).toNat)
  case atStart => exact ⟨lo, d, rfl, hlo, h0, hR⟩
  case round =>
    clear h0 hR
    obtain ⟨r, dk, rfl, hrn, h, hO⟩ := hrel
    have c0 := h.c0
    have c1 := h.c1
    by_cases hend : hi ≤ 2 * r + 1
    · have hR2 := hO.out
      rw [sift_end hend] at hR2
      subst hR2
      clear hO
      have i1 : (hi : Int) ≤ 2 * (r : Int) + 1 := by omega
      go_wp2_with fail
      go_end0
      exact ⟨rfl, h.row, h.turned⟩
    have i1 : ¬ (hi : Int) ≤ 2 * (r : Int) + 1 := by omega
    by_cases hr2 : 2 * r + 2 < hi
    · have i2 : 2 * (r : Int) + 1 + 1 < (hi : Int) := by omega
      cases hl1 : lt dk[F + (2 * r + 1)]! dk[F + (2 * r + 1) + 1]!
      · have hO2 := hO.out
        rw [sift_left (by omega) (.inr hl1)] at hO2
        clear hO
        cases hl2 : lt dk[F + r]! dk[F + (2 * r + 1)]!
        · rw [hl2, if_neg (by decide)] at hO2
          subst hO2
          go_wp2_with (first | (go_at_fn g; refine (K.lessAt (F + r) (F + (2 * r + 1)) (by omega) (by omega) (by omega) (by omega) h1.row hl2).mono ?_; rintro e w2 ⟨rfl, hb2⟩; have h2 := h1.below K hb2; have c0 := h2.c0; have c1 := h2.c1) | (go_at_fn g; refine (K.lessAt (F + (2 * r + 1)) (F + (2 * r + 1) + 1) (by omega) (by omega) (by omega) (by omega) h.row hl1).mono ?_; rintro e w1 ⟨rfl, hb1⟩; have h1 := h.below K hb1; have c0 := h1.c0; have c1 := h1.c1))
          refine bodyPost_ret (results_none rfl _ _ _) rfl ?_
          exact ⟨rfl, h2.row, h2.turned⟩
        · rw [hl2, if_pos rfl] at hO2
          replace hO2 : Aside _ := hO2
          go_wp2_with (first | (go_at_fn g; refine (K.lessAt (F + r) (F + (2 * r + 1)) (by omega) (by omega) (by omega) (by omega) h1.row hl2).mono ?_; rintro e w2 ⟨rfl, hb2⟩; have h2 := h1.below K hb2; have c0 := h2.c0; have c1 := h2.c1; obtain ⟨w3, hsw, h3⟩ := K.swapAt (i := (F : Int) + (r : Int)) (j := (F : Int) + (2 * (r : Int) + 1)) (F + r) (F + (2 * r + 1)) (by omega) (by omega) (by omega) (by omega) h2) | (go_at_fn g; refine (K.lessAt (F + (2 * r + 1)) (F + (2 * r + 1) + 1) (by omega) (by omega) (by omega) (by omega) h.row hl1).mono ?_; rintro e w1 ⟨rfl, hb1⟩; have h1 := h.below K hb1; have c0 := h1.c0; have c1 := h1.c1))
          exact ⟨⟨2 * r + 1, _, by simp; try omega, by omega, h3, hO2⟩, by simp [Go.RowKit.intOf]; omega⟩
      · have hO2 := hO.out
        rw [sift_right hr2 hl1] at hO2
        clear hO
        cases hl2 : lt dk[F + r]! dk[F + (2 * r + 2)]!
        · rw [hl2, if_neg (by decide)] at hO2
          subst hO2
          go_wp2_with (first | (go_at_fn g; refine (K.lessAt (F + r) (F + (2 * r + 2)) (by omega) (by omega) (by omega) (by omega) h1.row hl2).mono ?_; rintro e w2 ⟨rfl, hb2⟩; have h2 := h1.below K hb2; have c0 := h2.c0; have c1 := h2.c1) | (go_at_fn g; refine (K.lessAt (F + (2 * r + 1)) (F + (2 * r + 1) + 1) (by omega) (by omega) (by omega) (by omega) h.row hl1).mono ?_; rintro e w1 ⟨rfl, hb1⟩; have h1 := h.below K hb1; have c0 := h1.c0; have c1 := h1.c1))
          refine bodyPost_ret (results_none rfl _ _ _) rfl ?_
          exact ⟨rfl, h2.row, h2.turned⟩
        · rw [hl2, if_pos rfl] at hO2
          replace hO2 : Aside _ := hO2
          go_wp2_with (first | (go_at_fn g; refine (K.lessAt (F + r) (F + (2 * r + 2)) (by omega) (by omega) (by omega) (by omega) h1.row hl2).mono ?_; rintro e w2 ⟨rfl, hb2⟩; have h2 := h1.below K hb2; have c0 := h2.c0; have c1 := h2.c1; obtain ⟨w3, hsw, h3⟩ := K.swapAt (i := (F : Int) + (r : Int)) (j := (F : Int) + (2 * (r : Int) + 1 + 1)) (F + r) (F + (2 * r + 2)) (by omega) (by omega) (by omega) (by omega) h2) | (go_at_fn g; refine (K.lessAt (F + (2 * r + 1)) (F + (2 * r + 1) + 1) (by omega) (by omega) (by omega) (by omega) h.row hl1).mono ?_; rintro e w1 ⟨rfl, hb1⟩; have h1 := h.below K hb1; have c0 := h1.c0; have c1 := h1.c1))
          exact ⟨⟨2 * r + 2, _, by simp; try omega, by omega, h3, hO2⟩, by simp [Go.RowKit.intOf]; omega⟩
    · have i2 : ¬ 2 * (r : Int) + 1 + 1 < (hi : Int) := by omega
      have hO2 := hO.out
      rw [sift_left (by omega) (.inl hr2)] at hO2
      clear hO
      cases hl2 : lt dk[F + r]! dk[F + (2 * r + 1)]!
      · rw [hl2, if_neg (by decide)] at hO2
        subst hO2
        go_wp2_with (go_at_fn g; refine (K.lessAt (F + r) (F + (2 * r + 1)) (by omega) (by omega) (by omega) (by omega) h.row hl2).mono ?_; rintro e w2 ⟨rfl, hb2⟩; have h2 := h.below K hb2; have c0 := h2.c0; have c1 := h2.c1)
        refine bodyPost_ret (results_none rfl _ _ _) rfl ?_
        exact ⟨rfl, h2.row, h2.turned⟩
      · rw [hl2, if_pos rfl] at hO2
        replace hO2 : Aside _ := hO2
        go_wp2_with (go_at_fn g; refine (K.lessAt (F + r) (F + (2 * r + 1)) (by omega) (by omega) (by omega) (by omega) h.row hl2).mono ?_; rintro e w2 ⟨rfl, hb2⟩; have h2 := h.below K hb2; have c0 := h2.c0; have c1 := h2.c1; obtain ⟨w3, hsw, h3⟩ := K.swapAt (i := (F : Int) + (r : Int)) (j := (F : Int) + (2 * (r : Int) + 1)) (F + r) (F + (2 * r + 1)) (by omega) (by omega) (by omega) (by omega) h2)
        exact ⟨⟨2 * r + 1, _, by simp; try omega, by omega, h3, hO2⟩, by simp [Go.RowKit.intOf]; omega⟩
set_option maxRecDepth 8000 in
set_option maxHeartbeats 8000000 in
theorem sheap_any {α : Type} [Inhabited α] {n g sf blk : Nat} {lb sb : Array Value} {lt : α → α → Bool} {S : World → Array α → Prop} (K : Srt n g sf lb sb lt blk S) (a b : Nat) (d : Array α) (w : World) (hS : S w d) (hab : a < b) (hb : b ≤ n) :
    Calls Tryz.prog 83 #[.agg #[.func (.func g) #[] lb, .func (.func sf) #[] sb], .int .i64 (a : Int), .int .i64 (b : Int)] w fun e w' => e = .returned (.tuple #[]) ∧ S w' (Sort.heapSort lt d a b) ∧ Turned [blk] w w' := by
  have hn := K.few
  have hund := Tryz.underlying84
  have hsz : (Tryz.prog.info? 84).map (·.size) = some 2 := by kernel_rfl
  obtain ⟨R, hR⟩ : ∃ R, Sort.heapSort lt d a b = R := ⟨_, rfl⟩
  rw [hR]
  obtain ⟨m, hm⟩ : ∃ m, b - a = m := ⟨_, rfl⟩
  obtain ⟨q, hq⟩ : ∃ q, (m - 1) / 2 + 1 = q := ⟨_, rfl⟩
  replace hR : Aside (Sort.heapPop lt a m (Sort.heapBuild lt m a q d) = R) := by
    unfold Sort.heapSort at hR
    rw [hm, hq] at hR
    exact hR
  have eh : (b : Int) - (a : Int) = (m : Int) := by omega
  have e1 : (1 : Int) ≤ (m : Int) := by omega
  have e2 : ((m : Int) - 1) / 2 = (q : Int) - 1 := by omega
  have e3 : ((m : Int) - 1).tdiv 2 = (q : Int) - 1 := by rw [Int.tdiv_eq_ediv_of_nonneg (by omega)]; exact e2
  have hqm : q ≤ m := by omega
  have hmn : a + m ≤ n := by omega
  clear hm hq
  have h0 := Sr.begin (lv := .func (.func g) #[] lb) (sv := .func (.func sf) #[] sb) K hS 84
  go_enter Tryz.func83, Tryz.ntmps83
  go_wp2_with fail
  generalize w.alloc (.cells #[.func (.func g) #[] lb, .func (.func sf) #[] sb] 84) = W0 at *
  go_loopw [9] (fun t wr => ∃ (k : Nat) (dk : Array α), t = .int .i64 ((k : Int) - 1) ∧ k ≤ m ∧ Sr S blk w.heap.size (.func (.func g) #[] lb) (.func (.func sf) #[] sb) w wr dk ∧ Aside (Sort.heapPop lt a m (Sort.heapBuild lt m a k dk) = R)) (fun t _ => (Go.RowKit.intOf t + 1).toNat)
  case atStart => exact ⟨q, d, rfl, hqm, h0, hR⟩
  case round =>
    clear h0 hR e2 e3 hqm
    obtain ⟨k, dk, rfl, hkm, h, hO⟩ := hrel
    cases k with
    | succ k =>
      have hrr := h.box.range
      have ek : ((k + 1 : Nat) : Int) - 1 = (k : Int) := by omega
      rw [ek]
      go_wp2_with (first | (refine wpList_load_row rfl _ rfl w.heap.size rfl [.func (.func g) #[] lb, .func (.func sf) #[] sb] hrr hund rfl hsz ?_) | (go_at_call 93; refine (ssift_any K k m a dk wr h.row hmn (by omega)).mono ?_; rintro e w1 ⟨rfl, hS1, hT1⟩; have h1 := h.swapped hS1 hT1))
      exact ⟨⟨k, _, rfl, by omega, h1, hO⟩, by simp [Go.RowKit.intOf]; try omega⟩
    | zero =>
      replace hO : Aside (Sort.heapPop lt a m dk = R) := hO
      rw [show (((0 : Nat) : Int) - 1) = -1 from rfl]
      go_wp2_with fail
      go_loopw [10] (fun t wr => ∃ (k : Nat) (dk : Array α), t = .int .i64 ((k : Int) - 1) ∧ k ≤ m ∧ Sr S blk w.heap.size (.func (.func g) #[] lb) (.func (.func sf) #[] sb) w wr dk ∧ Aside (Sort.heapPop lt a k dk = R)) (fun t _ => (Go.RowKit.intOf t + 1).toNat)
      case atStart => exact ⟨m, dk, rfl, Nat.le_refl _, h, hO⟩
      case round =>
        clear h hO
        obtain ⟨k, dk, rfl, hkm, h, hO⟩ := hrel
        cases k with
        | succ k =>
          have c1 := h.c1
          have ek : ((k + 1 : Nat) : Int) - 1 = (k : Int) := by omega
          rw [ek]
          obtain ⟨w3, hsw, h3⟩ := K.swapAt (i := (a : Int)) (j := (a : Int) + (k : Int)) a (a + k) rfl (by omega) (by omega) (by omega) h
          have hrr := h3.box.range
          go_wp2_with (first | (refine wpList_load_row rfl _ rfl w.heap.size rfl [.func (.func g) #[] lb, .func (.func sf) #[] sb] hrr hund rfl hsz ?_) | (go_at_call 93; refine (ssift_any K 0 k a _ w3 h3.row (by omega) (by omega)).mono ?_; rintro e w1 ⟨rfl, hS1, hT1⟩; have h1 := h3.swapped hS1 hT1))
          exact ⟨⟨k, _, rfl, by omega, h1, hO⟩, by simp [Go.RowKit.intOf]; try omega⟩
        | zero =>
          have hR2 := hO.out
          rw [Sort.heapPop] at hR2
          subst hR2
          clear hO
          rw [show (((0 : Nat) : Int) - 1) = -1 from rfl]
          go_wp2_with fail
          go_end0
          exact ⟨rfl, h.row, h.turned⟩
end Go.Proofs.YtohocomemkckeaaGreatDoor

/-! SORTS by a closure: partitionEqual. -/
namespace Go.Proofs.YtohocomemkckeaaGreatDoor
open Go.RowKit
set_option maxRecDepth 8000
set_option linter.unusedSimpArgs false
set_option linter.unusedVariables false

section
variable {α : Type} [Inhabited α] {p : α → Bool} {d : Array α} {i j : Nat}
theorem up_go (h : i ≤ j) (hp : p d[i]! = true) : Sort.scanUp p d j i = Sort.scanUp p d j (i + 1) := by rw [Sort.scanUp, if_pos (by simp [h, hp])]
theorem up_end (h : ¬ i ≤ j ∨ p d[i]! = false) : Sort.scanUp p d j i = i := by rw [Sort.scanUp, if_neg (by rcases h with h | h <;> simp [h])]
theorem dn_go (h : i ≤ j) (h0 : 0 < j) (hp : p d[j]! = true) : Sort.scanDown p d i j = Sort.scanDown p d i (j - 1) := by
  cases j with
  | zero => omega
  | succ j => rw [Sort.scanDown, if_pos (by simp [h, hp])]; rfl
theorem dn_end (h : ¬ i ≤ j ∨ p d[j]! = false) : Sort.scanDown p d i j = j := by
  cases j with
  | zero => rw [Sort.scanDown]
  | succ j => rw [Sort.scanDown, if_neg (by rcases h with h | h <;> simp [h])]
end
set_option maxRecDepth 8000 in
set_option maxHeartbeats 8000000 in
theorem sparteq_any {α : Type} [Inhabited α] {n g sf blk : Nat} {lb sb : Array Value} {lt : α → α → Bool} {S : World → Array α → Prop} (K : Srt n g sf lb sb lt blk S) (a b pv : Nat) (d : Array α) (w : World) (hS : S w d) (hap : a ≤ pv) (hpb : pv < b) (hb : b ≤ n) :
    Calls Tryz.prog 88 #[.agg #[.func (.func g) #[] lb, .func (.func sf) #[] sb], .int .i64 (a : Int), .int .i64 (b : Int), .int .i64 (pv : Int)] w fun e w' => e = .returned (.int .i64 (((Sort.partitionEqual lt d a b pv).1 : Nat) : Int)) ∧ S w' (Sort.partitionEqual lt d a b pv).2 ∧ Turned [blk] w w' := by
  have eg := K.enter
  have hn := K.few
  obtain ⟨⟨M, R⟩, hR⟩ : ∃ r, Sort.partitionEqual lt d a b pv = r := ⟨_, rfl⟩
  rw [hR]
  show Calls _ _ _ _ fun e w' => e = .returned (.int .i64 ((M : Nat) : Int)) ∧ S w' R ∧ Turned [blk] w w'
  replace hR : Aside (Sort.partEqLoop lt a (a + 1) (b - 1) (Sort.swp d a pv) = (M, R)) := hR
  have h0 := Sr.begin (lv := .func (.func g) #[] lb) (sv := .func (.func sf) #[] sb) K hS 84
  obtain ⟨w3, hsw, h3⟩ := K.swapAt (i := (a : Int)) (j := (pv : Int)) a pv rfl rfl (by omega) (by omega) h0
  have c1 := h0.c1
  go_enter Tryz.func88, Tryz.ntmps88
  go_wp2_with fail
  generalize w.alloc (.cells #[.func (.func g) #[] lb, .func (.func sf) #[] sb] 84) = W0 at *
  clear h0 hsw c1
  go_loopw [9, 10] (fun t9 t10 wr => ∃ (i j : Nat) (dk : Array α), t9 = .int .i64 (i : Int) ∧ t10 = .int .i64 (j : Int) ∧ a < i ∧ i ≤ j + 2 ∧ j < b ∧ Sr S blk w.heap.size (.func (.func g) #[] lb) (.func (.func sf) #[] sb) w wr dk ∧ Aside (Sort.partEqLoop lt a i j dk = (M, R))) (fun t9 t10 _ => (Go.RowKit.intOf t10 + 1 - Go.RowKit.intOf t9).toNat)
  case atStart => exact ⟨a + 1, b - 1, _, by simp, by congr 1; omega, by omega, by omega, by omega, h3, hR⟩
  case round =>
    clear h3 hR
    obtain ⟨i, j, dk, rfl, rfl, hai, hij, hjb, h, hO⟩ := hrel
    replace hO := hO.out
    rw [Sort.partEqLoop_eq] at hO
    replace hO : Aside _ := hO
    go_upto_block 2 with fail
    go_cut [9] from 20 to 56 (fun s9 wc => ∃ (i2 : Nat), s9 = .int .i64 (i2 : Int) ∧ i ≤ i2 ∧ i2 ≤ j + 2 ∧ Sr S blk w.heap.size (.func (.func g) #[] lb) (.func (.func sf) #[] sb) w wc dk ∧ Aside (Sort.scanUp (fun x => !lt dk[a]! x) dk j i = i2))
    case first =>
      go_wp2_with fail
      go_loopw [9] (fun t9 wr => ∃ (i2 : Nat), t9 = .int .i64 (i2 : Int) ∧ i ≤ i2 ∧ i2 ≤ j + 2 ∧ Sr S blk w.heap.size (.func (.func g) #[] lb) (.func (.func sf) #[] sb) w wr dk ∧ Aside (Sort.scanUp (fun x => !lt dk[a]! x) dk j i = Sort.scanUp (fun x => !lt dk[a]! x) dk j i2)) (fun t9 _ => j + 2 - (Go.RowKit.intOf t9).toNat)
      case atStart => exact ⟨i, rfl, Nat.le_refl _, hij, h, rfl⟩
      case round =>
        clear h hO
        obtain ⟨i2, rfl, hi2, hi2j, h, hI⟩ := hrel
        have c0 := h.c0
        by_cases hle : i2 ≤ j
        · have i1 : (i2 : Int) ≤ (j : Int) := by omega
          cases hl1 : lt dk[a]! dk[i2]!
          · have hI2 := hI.out
            rw [up_go (i := i2) hle (by simp [hl1])] at hI2
            replace hI2 : Aside _ := hI2
            go_wp2_with (go_at_fn g; refine (K.lessAt a i2 rfl rfl (by omega) (by omega) h.row hl1).mono ?_; rintro e w1 ⟨rfl, hb1⟩; have h1 := h.below K hb1)
            exact ⟨⟨i2 + 1, by simp, by omega, by omega, h1, hI2⟩, by simp [Go.RowKit.intOf]; omega⟩
          · have hI2 := hI.out
            rw [up_end (i := i2) (.inr (by simp [hl1]))] at hI2
            replace hI2 : Aside _ := hI2
            go_wp2_with (go_at_fn g; refine (K.lessAt a i2 rfl rfl (by omega) (by omega) h.row hl1).mono ?_; rintro e w1 ⟨rfl, hb1⟩; have h1 := h.below K hb1)
            go_meet
            exact ⟨i2, rfl, hi2, hi2j, h1, hI2⟩
        · have i1 : ¬ (i2 : Int) ≤ (j : Int) := by omega
          have hI2 := hI.out
          rw [up_end (i := i2) (.inl hle)] at hI2
          replace hI2 : Aside _ := hI2
          go_wp2_with fail
          go_meet
          exact ⟨i2, rfl, hi2, hi2j, h, hI2⟩
    case rest =>
      clear h
      obtain ⟨i2, rfl, hi2, hi2j, h, hI⟩ := hcut
      replace hO := hO.out
      rw [hI.out] at hO
      replace hO : Aside _ := hO
      go_upto_block 4 with fail
      go_cut [10] from 20 to 56 (fun s10 wc => ∃ (j2 : Nat), s10 = .int .i64 (j2 : Int) ∧ j2 ≤ j ∧ i2 ≤ j2 + 2 ∧ Sr S blk w.heap.size (.func (.func g) #[] lb) (.func (.func sf) #[] sb) w wc dk ∧ Aside (Sort.scanDown (fun x => lt dk[a]! x) dk i2 j = j2))
      case first =>
        go_wp2_with fail
        go_loopw [10] (fun t10 wr => ∃ (j2 : Nat), t10 = .int .i64 (j2 : Int) ∧ j2 ≤ j ∧ i2 ≤ j2 + 2 ∧ Sr S blk w.heap.size (.func (.func g) #[] lb) (.func (.func sf) #[] sb) w wr dk ∧ Aside (Sort.scanDown (fun x => lt dk[a]! x) dk i2 j = Sort.scanDown (fun x => lt dk[a]! x) dk i2 j2)) (fun t10 _ => (Go.RowKit.intOf t10).toNat)
        case atStart => exact ⟨j, rfl, Nat.le_refl _, hi2j, h, rfl⟩
        case round =>
          clear h hO hI
          obtain ⟨j2, rfl, hj2, hj2i, h, hI⟩ := hrel
          have c0 := h.c0
          by_cases hle : i2 ≤ j2
          · have i1 : (i2 : Int) ≤ (j2 : Int) := by omega
            cases hl1 : lt dk[a]! dk[j2]!
            · have hI2 := hI.out
              rw [dn_end (j := j2) (.inr (by simp [hl1]))] at hI2
              replace hI2 : Aside _ := hI2
              go_wp2_with (go_at_fn g; refine (K.lessAt a j2 rfl rfl (by omega) (by omega) h.row hl1).mono ?_; rintro e w1 ⟨rfl, hb1⟩; have h1 := h.below K hb1)
              go_meet
              exact ⟨j2, rfl, hj2, hj2i, h1, hI2⟩
            · have hI2 := hI.out
              rw [dn_go (j := j2) hle (by omega) (by simp [hl1])] at hI2
              replace hI2 : Aside _ := hI2
              go_wp2_with (go_at_fn g; refine (K.lessAt a j2 rfl rfl (by omega) (by omega) h.row hl1).mono ?_; rintro e w1 ⟨rfl, hb1⟩; have h1 := h.below K hb1)
              exact ⟨⟨j2 - 1, by simp; omega, by omega, by omega, h1, hI2⟩, by simp [Go.RowKit.intOf]; omega⟩
          · have i1 : ¬ (i2 : Int) ≤ (j2 : Int) := by omega
            have hI2 := hI.out
            rw [dn_end (j := j2) (.inl hle)] at hI2
            replace hI2 : Aside _ := hI2
            go_wp2_with fail
            go_meet
            exact ⟨j2, rfl, hj2, hj2i, h, hI2⟩
      case rest =>
        clear h hI
        obtain ⟨j2, rfl, hj2, hj2i, h, hI⟩ := hcut
        replace hO := hO.out
        rw [hI.out] at hO
        have c1 := h.c1
        clear hI
        by_cases hgt : i2 > j2
        · rw [if_pos hgt] at hO
          injection hO with e1 e2
          subst e1 e2
          have i1 : (j2 : Int) < (i2 : Int) := by omega
          go_wp2_with fail
          go_ret
          exact ⟨rfl, h.row, h.turned⟩
        · rw [if_neg hgt] at hO
          replace hO : Aside _ := hO
          have i1 : ¬ (j2 : Int) < (i2 : Int) := by omega
          obtain ⟨w3, hsw, h3⟩ := K.swapAt (i := (i2 : Int)) (j := (j2 : Int)) i2 j2 rfl rfl (by omega) (by omega) h
          go_wp2_with fail
          exact ⟨⟨i2 + 1, j2 - 1, _, by simp, by simp; omega, by omega, by omega, by omega, h3, hO⟩, by simp [Go.RowKit.intOf]; omega⟩
end Go.Proofs.YtohocomemkckeaaGreatDoor

/-! SORTS by a closure: partition. Written by mk_srt.py. -/
namespace Go.Proofs.YtohocomemkckeaaGreatDoor
open Go.RowKit
set_option maxRecDepth 8000
set_option linter.unusedSimpArgs false
set_option linter.unusedVariables false

theorem part_two {α : Type} [Inhabited α] (lt : α → α → Bool) (d : Array α) (a b pv : Nat) : Sort.partition lt d a b pv =
    if Sort.scanUp (fun x => lt x (Sort.swp d a pv)[a]!) (Sort.swp d a pv) (b - 1) (a + 1) > Sort.scanDown (fun x => !lt x (Sort.swp d a pv)[a]!) (Sort.swp d a pv) (Sort.scanUp (fun x => lt x (Sort.swp d a pv)[a]!) (Sort.swp d a pv) (b - 1) (a + 1)) (b - 1) then (Sort.scanDown (fun x => !lt x (Sort.swp d a pv)[a]!) (Sort.swp d a pv) (Sort.scanUp (fun x => lt x (Sort.swp d a pv)[a]!) (Sort.swp d a pv) (b - 1) (a + 1)) (b - 1), true, Sort.swp (Sort.swp d a pv) (Sort.scanDown (fun x => !lt x (Sort.swp d a pv)[a]!) (Sort.swp d a pv) (Sort.scanUp (fun x => lt x (Sort.swp d a pv)[a]!) (Sort.swp d a pv) (b - 1) (a + 1)) (b - 1)) a) else
      let r := Sort.partLoop lt a (Sort.scanUp (fun x => lt x (Sort.swp d a pv)[a]!) (Sort.swp d a pv) (b - 1) (a + 1) + 1) (Sort.scanDown (fun x => !lt x (Sort.swp d a pv)[a]!) (Sort.swp d a pv) (Sort.scanUp (fun x => lt x (Sort.swp d a pv)[a]!) (Sort.swp d a pv) (b - 1) (a + 1)) (b - 1) - 1) (Sort.swp (Sort.swp d a pv) (Sort.scanUp (fun x => lt x (Sort.swp d a pv)[a]!) (Sort.swp d a pv) (b - 1) (a + 1)) (Sort.scanDown (fun x => !lt x (Sort.swp d a pv)[a]!) (Sort.swp d a pv) (Sort.scanUp (fun x => lt x (Sort.swp d a pv)[a]!) (Sort.swp d a pv) (b - 1) (a + 1)) (b - 1)))
      (r.1, false, Sort.swp r.2 r.1 a) := rfl
set_option maxRecDepth 16000 in
set_option maxHeartbeats 8000000 in
theorem spart_any {α : Type} [Inhabited α] {n g sf blk : Nat} {lb sb : Array Value} {lt : α → α → Bool} {S : World → Array α → Prop} (K : Srt n g sf lb sb lt blk S) (a b pv : Nat) (d : Array α) (w : World) (hS : S w d) (hap : a ≤ pv) (hpb : pv < b) (hb : b ≤ n) :
    Calls Tryz.prog 89 #[.agg #[.func (.func g) #[] lb, .func (.func sf) #[] sb], .int .i64 (a : Int), .int .i64 (b : Int), .int .i64 (pv : Int)] w fun e w' => e = .returned (.tuple #[.int .i64 (((Sort.partition lt d a b pv).1 : Nat) : Int), .bool (Sort.partition lt d a b pv).2.1]) ∧ S w' (Sort.partition lt d a b pv).2.2 ∧ Turned [blk] w w' := by
  have eg := K.enter
  have hn := K.few
  obtain ⟨⟨M, A, R⟩, hR⟩ : ∃ r, Sort.partition lt d a b pv = r := ⟨_, rfl⟩
  rw [hR]
  show Calls _ _ _ _ fun e w' => e = .returned (.tuple #[.int .i64 ((M : Nat) : Int), .bool A]) ∧ S w' R ∧ Turned [blk] w w'
  rw [part_two] at hR
  have h0 := Sr.begin (lv := .func (.func g) #[] lb) (sv := .func (.func sf) #[] sb) K hS 84
  obtain ⟨w3, hsw, h⟩ := K.swapAt (i := (a : Int)) (j := (pv : Int)) a pv rfl rfl (by omega) (by omega) h0
  have c1 := h0.c1
  obtain ⟨i, hi⟩ : ∃ i, a + 1 = i := ⟨_, rfl⟩
  obtain ⟨j, hj⟩ : ∃ j, b - 1 = j := ⟨_, rfl⟩
  obtain ⟨dk, hdk⟩ : ∃ dk, Sort.swp d a pv = dk := ⟨_, rfl⟩
  rw [hi, hj, hdk] at hR
  rw [hdk] at h
  have hO : Aside _ := hR
  have ei : (a : Int) + 1 = (i : Int) := by omega
  have ej : (b : Int) - 1 = (j : Int) := by omega
  have hai : a < i := by omega
  have hij : i ≤ j + 2 := by omega
  have hjb : j < b := by omega
  clear hR hi hj hdk
  go_enter Tryz.func89, Tryz.ntmps89
  go_upto_block 0 with fail
  generalize w.alloc (.cells #[.func (.func g) #[] lb, .func (.func sf) #[] sb] 84) = W0 at *
  clear h0 hsw c1 ei ej
  go_upto_block 0 with fail
  go_cut [10] from 21 (fun s1 wc => ∃ (i2 : Nat), s1 = .int .i64 (i2 : Int) ∧ i ≤ i2 ∧ i2 ≤ j + 2 ∧ Sr S blk w.heap.size (.func (.func g) #[] lb) (.func (.func sf) #[] sb) w wc dk ∧ Aside (Sort.scanUp (fun x => lt x dk[a]!) dk j i = i2))
  case first =>
    go_wp2_with fail
    go_loopw [10] (fun t9 wr => ∃ (i2 : Nat), t9 = .int .i64 (i2 : Int) ∧ i ≤ i2 ∧ i2 ≤ j + 2 ∧ Sr S blk w.heap.size (.func (.func g) #[] lb) (.func (.func sf) #[] sb) w wr dk ∧ Aside (Sort.scanUp (fun x => lt x dk[a]!) dk j i = Sort.scanUp (fun x => lt x dk[a]!) dk j i2)) (fun t9 _ => j + 2 - (Go.RowKit.intOf t9).toNat)
    case atStart => exact ⟨i, rfl, Nat.le_refl _, hij, h, rfl⟩
    case round =>
      clear h hO
      obtain ⟨i2, rfl, hi2, hi2j, h, hI⟩ := hrel
      have c0 := h.c0
      by_cases hle : i2 ≤ j
      · have i1 : (i2 : Int) ≤ (j : Int) := by omega
        cases hl1 : lt dk[i2]! dk[a]!
        · have hI2 := hI.out
          rw [up_end (i := i2) (.inr (by simp [hl1]))] at hI2
          replace hI2 : Aside _ := hI2
          go_wp2_with (go_at_fn g; refine (K.lessAt i2 a rfl rfl (by omega) (by omega) h.row hl1).mono ?_; rintro e w1 ⟨rfl, hb1⟩; have h1 := h.below K hb1)
          go_meet
          exact ⟨i2, rfl, hi2, hi2j, h1, hI2⟩
        · have hI2 := hI.out
          rw [up_go (i := i2) hle (by simp [hl1])] at hI2
          replace hI2 : Aside _ := hI2
          go_wp2_with (go_at_fn g; refine (K.lessAt i2 a rfl rfl (by omega) (by omega) h.row hl1).mono ?_; rintro e w1 ⟨rfl, hb1⟩; have h1 := h.below K hb1)
          exact ⟨⟨i2 + 1, by simp, by omega, by omega, h1, hI2⟩, by simp [Go.RowKit.intOf]; omega⟩
      · have i1 : ¬ (i2 : Int) ≤ (j : Int) := by omega
        have hI2 := hI.out
        rw [up_end (i := i2) (.inl hle)] at hI2
        replace hI2 : Aside _ := hI2
        go_wp2_with fail
        go_meet
        exact ⟨i2, rfl, hi2, hi2j, h, hI2⟩
  case rest =>
    clear h
    obtain ⟨i2, rfl, hi2, hi2j, h, hI⟩ := hcut
    replace hO := hO.out
    rw [hI.out] at hO
    replace hO : Aside _ := hO
    go_upto_block 2 with fail
    go_cut [11] from 21 (fun s1 wc => ∃ (j2 : Nat), s1 = .int .i64 (j2 : Int) ∧ j2 ≤ j ∧ i2 ≤ j2 + 2 ∧ Sr S blk w.heap.size (.func (.func g) #[] lb) (.func (.func sf) #[] sb) w wc dk ∧ Aside (Sort.scanDown (fun x => !lt x dk[a]!) dk i2 j = j2))
    case first =>
      go_wp2_with fail
      go_loopw [11] (fun t10 wr => ∃ (j2 : Nat), t10 = .int .i64 (j2 : Int) ∧ j2 ≤ j ∧ i2 ≤ j2 + 2 ∧ Sr S blk w.heap.size (.func (.func g) #[] lb) (.func (.func sf) #[] sb) w wr dk ∧ Aside (Sort.scanDown (fun x => !lt x dk[a]!) dk i2 j = Sort.scanDown (fun x => !lt x dk[a]!) dk i2 j2)) (fun t10 _ => (Go.RowKit.intOf t10).toNat)
      case atStart => exact ⟨j, rfl, Nat.le_refl _, hi2j, h, rfl⟩
      case round =>
        clear h hO hI
        obtain ⟨j2, rfl, hj2, hj2i, h, hI⟩ := hrel
        have c0 := h.c0
        by_cases hle : i2 ≤ j2
        · have i1 : (i2 : Int) ≤ (j2 : Int) := by omega
          cases hl1 : lt dk[j2]! dk[a]!
          · have hI2 := hI.out
            rw [dn_go (j := j2) hle (by omega) (by simp [hl1])] at hI2
            replace hI2 : Aside _ := hI2
            go_wp2_with (go_at_fn g; refine (K.lessAt j2 a rfl rfl (by omega) (by omega) h.row hl1).mono ?_; rintro e w1 ⟨rfl, hb1⟩; have h1 := h.below K hb1)
            exact ⟨⟨j2 - 1, by simp; omega, by omega, by omega, h1, hI2⟩, by simp [Go.RowKit.intOf]; omega⟩
          · have hI2 := hI.out
            rw [dn_end (j := j2) (.inr (by simp [hl1]))] at hI2
            replace hI2 : Aside _ := hI2
            go_wp2_with (go_at_fn g; refine (K.lessAt j2 a rfl rfl (by omega) (by omega) h.row hl1).mono ?_; rintro e w1 ⟨rfl, hb1⟩; have h1 := h.below K hb1)
            go_meet
            exact ⟨j2, rfl, hj2, hj2i, h1, hI2⟩
        · have i1 : ¬ (i2 : Int) ≤ (j2 : Int) := by omega
          have hI2 := hI.out
          rw [dn_end (j := j2) (.inl hle)] at hI2
          replace hI2 : Aside _ := hI2
          go_wp2_with fail
          go_meet
          exact ⟨j2, rfl, hj2, hj2i, h, hI2⟩
    case rest =>
      clear h hI
      obtain ⟨j2, rfl, hj2, hj2i, h, hI⟩ := hcut
      replace hO := hO.out
      rw [hI.out] at hO
      have c1 := h.c1
      clear hI
      by_cases hgt : i2 > j2
      · rw [if_pos hgt] at hO
        obtain ⟨e1, e2, e3⟩ : j2 = M ∧ true = A ∧ Sort.swp dk j2 a = R := by simpa using hO
        subst e1 e2 e3
        have i1 : (j2 : Int) < (i2 : Int) := by omega
        obtain ⟨w3, hsw, h3⟩ := K.swapAt (i := (j2 : Int)) (j := (a : Int)) j2 a rfl rfl (by omega) (by omega) h
        go_wp2_with fail
        go_ret2
        exact ⟨rfl, h3.row, h3.turned⟩
      · rw [if_neg hgt] at hO
        obtain ⟨⟨M1, R1⟩, hL⟩ : ∃ r, Sort.partLoop lt a (i2 + 1) (j2 - 1) (Sort.swp dk i2 j2) = r := ⟨_, rfl⟩
        rw [hL] at hO
        obtain ⟨e1, e2, e3⟩ : M1 = M ∧ false = A ∧ Sort.swp R1 M1 a = R := by simpa using hO
        subst e1 e2 e3
        replace hL : Aside _ := hL
        clear hO
        have i1 : ¬ (j2 : Int) < (i2 : Int) := by omega
        obtain ⟨w3, hsw, h3⟩ := K.swapAt (i := (i2 : Int)) (j := (j2 : Int)) i2 j2 rfl rfl (by omega) (by omega) h
        go_wp2_with fail
        go_loopw [10, 11] (fun t9 t10 wr => ∃ (i j : Nat) (dk : Array α), t9 = .int .i64 (i : Int) ∧ t10 = .int .i64 (j : Int) ∧ a < i ∧ i ≤ j + 2 ∧ j < b ∧ Sr S blk w.heap.size (.func (.func g) #[] lb) (.func (.func sf) #[] sb) w wr dk ∧ Aside (Sort.partLoop lt a i j dk = (M1, R1))) (fun t9 t10 _ => (Go.RowKit.intOf t10 + 1 - Go.RowKit.intOf t9).toNat)
        case atStart => exact ⟨i2 + 1, j2 - 1, _, by simp, by simp; omega, by omega, by omega, by omega, h3, hL⟩
        case round =>
          clear h3 hL h hsw c1 hij hai hjb hi2 hi2j hj2 hj2i hgt i1
          obtain ⟨i, j, dk, rfl, rfl, hai, hij, hjb, h, hO⟩ := hrel
          replace hO := hO.out
          rw [Sort.partLoop_eq] at hO
          replace hO : Aside _ := hO
          go_upto_block 6 with fail
          go_cut [10] from 64 to 100 (fun s1 wc => ∃ (i2 : Nat), s1 = .int .i64 (i2 : Int) ∧ i ≤ i2 ∧ i2 ≤ j + 2 ∧ Sr S blk w.heap.size (.func (.func g) #[] lb) (.func (.func sf) #[] sb) w wc dk ∧ Aside (Sort.scanUp (fun x => lt x dk[a]!) dk j i = i2))
          case first =>
            go_wp2_with fail
            go_loopw [10] (fun t9 wr => ∃ (i2 : Nat), t9 = .int .i64 (i2 : Int) ∧ i ≤ i2 ∧ i2 ≤ j + 2 ∧ Sr S blk w.heap.size (.func (.func g) #[] lb) (.func (.func sf) #[] sb) w wr dk ∧ Aside (Sort.scanUp (fun x => lt x dk[a]!) dk j i = Sort.scanUp (fun x => lt x dk[a]!) dk j i2)) (fun t9 _ => j + 2 - (Go.RowKit.intOf t9).toNat)
            case atStart => exact ⟨i, rfl, Nat.le_refl _, hij, h, rfl⟩
            case round =>
              clear h hO
              obtain ⟨i2, rfl, hi2, hi2j, h, hI⟩ := hrel
              have c0 := h.c0
              by_cases hle : i2 ≤ j
              · have i1 : (i2 : Int) ≤ (j : Int) := by omega
                cases hl1 : lt dk[i2]! dk[a]!
                · have hI2 := hI.out
                  rw [up_end (i := i2) (.inr (by simp [hl1]))] at hI2
                  replace hI2 : Aside _ := hI2
                  go_wp2_with (go_at_fn g; refine (K.lessAt i2 a rfl rfl (by omega) (by omega) h.row hl1).mono ?_; rintro e w1 ⟨rfl, hb1⟩; have h1 := h.below K hb1)
                  go_meet
                  exact ⟨i2, rfl, hi2, hi2j, h1, hI2⟩
                · have hI2 := hI.out
                  rw [up_go (i := i2) hle (by simp [hl1])] at hI2
                  replace hI2 : Aside _ := hI2
                  go_wp2_with (go_at_fn g; refine (K.lessAt i2 a rfl rfl (by omega) (by omega) h.row hl1).mono ?_; rintro e w1 ⟨rfl, hb1⟩; have h1 := h.below K hb1)
                  exact ⟨⟨i2 + 1, by simp, by omega, by omega, h1, hI2⟩, by simp [Go.RowKit.intOf]; omega⟩
              · have i1 : ¬ (i2 : Int) ≤ (j : Int) := by omega
                have hI2 := hI.out
                rw [up_end (i := i2) (.inl hle)] at hI2
                replace hI2 : Aside _ := hI2
                go_wp2_with fail
                go_meet
                exact ⟨i2, rfl, hi2, hi2j, h, hI2⟩
          case rest =>
            clear h
            obtain ⟨i2, rfl, hi2, hi2j, h, hI⟩ := hcut
            replace hO := hO.out
            rw [hI.out] at hO
            replace hO : Aside _ := hO
            go_upto_block 8 with fail
            go_cut [11] from 64 to 100 (fun s1 wc => ∃ (j2 : Nat), s1 = .int .i64 (j2 : Int) ∧ j2 ≤ j ∧ i2 ≤ j2 + 2 ∧ Sr S blk w.heap.size (.func (.func g) #[] lb) (.func (.func sf) #[] sb) w wc dk ∧ Aside (Sort.scanDown (fun x => !lt x dk[a]!) dk i2 j = j2))
            case first =>
              go_wp2_with fail
              go_loopw [11] (fun t10 wr => ∃ (j2 : Nat), t10 = .int .i64 (j2 : Int) ∧ j2 ≤ j ∧ i2 ≤ j2 + 2 ∧ Sr S blk w.heap.size (.func (.func g) #[] lb) (.func (.func sf) #[] sb) w wr dk ∧ Aside (Sort.scanDown (fun x => !lt x dk[a]!) dk i2 j = Sort.scanDown (fun x => !lt x dk[a]!) dk i2 j2)) (fun t10 _ => (Go.RowKit.intOf t10).toNat)
              case atStart => exact ⟨j, rfl, Nat.le_refl _, hi2j, h, rfl⟩
              case round =>
                clear h hO hI
                obtain ⟨j2, rfl, hj2, hj2i, h, hI⟩ := hrel
                have c0 := h.c0
                by_cases hle : i2 ≤ j2
                · have i1 : (i2 : Int) ≤ (j2 : Int) := by omega
                  cases hl1 : lt dk[j2]! dk[a]!
                  · have hI2 := hI.out
                    rw [dn_go (j := j2) hle (by omega) (by simp [hl1])] at hI2
                    replace hI2 : Aside _ := hI2
                    go_wp2_with (go_at_fn g; refine (K.lessAt j2 a rfl rfl (by omega) (by omega) h.row hl1).mono ?_; rintro e w1 ⟨rfl, hb1⟩; have h1 := h.below K hb1)
                    exact ⟨⟨j2 - 1, by simp; omega, by omega, by omega, h1, hI2⟩, by simp [Go.RowKit.intOf]; omega⟩
                  · have hI2 := hI.out
                    rw [dn_end (j := j2) (.inr (by simp [hl1]))] at hI2
                    replace hI2 : Aside _ := hI2
                    go_wp2_with (go_at_fn g; refine (K.lessAt j2 a rfl rfl (by omega) (by omega) h.row hl1).mono ?_; rintro e w1 ⟨rfl, hb1⟩; have h1 := h.below K hb1)
                    go_meet
                    exact ⟨j2, rfl, hj2, hj2i, h1, hI2⟩
                · have i1 : ¬ (i2 : Int) ≤ (j2 : Int) := by omega
                  have hI2 := hI.out
                  rw [dn_end (j := j2) (.inl hle)] at hI2
                  replace hI2 : Aside _ := hI2
                  go_wp2_with fail
                  go_meet
                  exact ⟨j2, rfl, hj2, hj2i, h, hI2⟩
            case rest =>
              clear h hI
              obtain ⟨j2, rfl, hj2, hj2i, h, hI⟩ := hcut
              replace hO := hO.out
              rw [hI.out] at hO
              have c1 := h.c1
              clear hI
              by_cases hgt : i2 > j2
              · rw [if_pos hgt] at hO
                obtain ⟨e1, e2⟩ := Prod.mk.inj hO
                subst e1 e2
                have i1 : (j2 : Int) < (i2 : Int) := by omega
                obtain ⟨w3, hsw, h3⟩ := K.swapAt (i := (j2 : Int)) (j := (a : Int)) j2 a rfl rfl (by omega) (by omega) h
                go_wp2_with fail
                go_ret2
                exact ⟨rfl, h3.row, h3.turned⟩
              · rw [if_neg hgt] at hO
                replace hO : Aside _ := hO
                have i1 : ¬ (j2 : Int) < (i2 : Int) := by omega
                obtain ⟨w3, hsw, h3⟩ := K.swapAt (i := (i2 : Int)) (j := (j2 : Int)) i2 j2 rfl rfl (by omega) (by omega) h
                go_wp2_with fail
                exact ⟨⟨i2 + 1, j2 - 1, _, by simp, by simp; omega, by omega, by omega, by omega, h3, hO⟩, by simp [Go.RowKit.intOf]; omega⟩
end Go.Proofs.YtohocomemkckeaaGreatDoor

/-! SORTS by a closure: partialInsertionSort. -/
namespace Go.Proofs.YtohocomemkckeaaGreatDoor
open Go.RowKit
set_option maxRecDepth 8000
set_option linter.unusedSimpArgs false
set_option linter.unusedVariables false

section
variable {α : Type} [Inhabited α] {lt : α → α → Bool} {d : Array α} {a b i j s : Nat}
theorem partial_succ : Sort.partialIns lt a b (s + 1) i d = if Sort.scanSorted lt d b i = b then (d, true) else if b - a < 50 then (d, false) else
    Sort.partialIns lt a b s (Sort.scanSorted lt d b i) (if b - Sort.scanSorted lt d b i ≥ 2 then Sort.shiftUp lt b (Sort.scanSorted lt d b i + 1) (if Sort.scanSorted lt d b i - a ≥ 2 then Sort.shiftDown lt (Sort.scanSorted lt d b i - 1) (Sort.swp d (Sort.scanSorted lt d b i) (Sort.scanSorted lt d b i - 1)) else Sort.swp d (Sort.scanSorted lt d b i) (Sort.scanSorted lt d b i - 1)) else (if Sort.scanSorted lt d b i - a ≥ 2 then Sort.shiftDown lt (Sort.scanSorted lt d b i - 1) (Sort.swp d (Sort.scanSorted lt d b i) (Sort.scanSorted lt d b i - 1)) else Sort.swp d (Sort.scanSorted lt d b i) (Sort.scanSorted lt d b i - 1))) := rfl
theorem ss_go (h : i < b) (hp : lt d[i]! d[i - 1]! = false) : Sort.scanSorted lt d b i = Sort.scanSorted lt d b (i + 1) := by rw [Sort.scanSorted, if_pos (by simp [h, hp])]
theorem ss_end (h : ¬ i < b ∨ lt d[i]! d[i - 1]! = true) : Sort.scanSorted lt d b i = i := by rw [Sort.scanSorted, if_neg (by rcases h with h | h <;> simp [h])]
theorem sh_go (h : lt d[j + 1]! d[j]! = true) : Sort.shiftDown lt (j + 1) d = Sort.shiftDown lt j (Sort.swp d (j + 1) j) := by rw [Sort.shiftDown, if_neg (by simp [h])]
theorem sh_end (h : lt d[j + 1]! d[j]! = false) : Sort.shiftDown lt (j + 1) d = d := by rw [Sort.shiftDown, if_pos (by simp [h])]
theorem su_go (h : j < b) (hp : lt d[j]! d[j - 1]! = true) : Sort.shiftUp lt b j d = Sort.shiftUp lt b (j + 1) (Sort.swp d j (j - 1)) := by rw [Sort.shiftUp, if_pos h, if_neg (by simp [hp])]
theorem su_stop (h : j < b) (hp : lt d[j]! d[j - 1]! = false) : Sort.shiftUp lt b j d = d := by rw [Sort.shiftUp, if_pos h, if_pos (by simp [hp])]
theorem su_end (h : ¬ j < b) : Sort.shiftUp lt b j d = d := by rw [Sort.shiftUp, if_neg h]
end
set_option maxRecDepth 16000 in
set_option maxHeartbeats 8000000 in
theorem spartial_any {α : Type} [Inhabited α] {n g sf blk : Nat} {lb sb : Array Value} {lt : α → α → Bool} {S : World → Array α → Prop} (K : Srt n g sf lb sb lt blk S) (a b : Nat) (d : Array α) (w : World) (hS : S w d) (hab : a < b) (hb : b ≤ n) :
    Calls Tryz.prog 87 #[.agg #[.func (.func g) #[] lb, .func (.func sf) #[] sb], .int .i64 (a : Int), .int .i64 (b : Int)] w fun e w' => e = .returned (.bool (Sort.partialInsertionSort lt d a b).2) ∧ S w' (Sort.partialInsertionSort lt d a b).1 ∧ Turned [blk] w w' := by
  have eg := K.enter
  have hn := K.few
  obtain ⟨⟨R, A⟩, hR⟩ : ∃ r, Sort.partialInsertionSort lt d a b = r := ⟨_, rfl⟩
  rw [hR]
  show Calls _ _ _ _ fun e w' => e = .returned (.bool A) ∧ S w' R ∧ Turned [blk] w w'
  replace hR : Aside (Sort.partialIns lt a b 5 (a + 1) d = (R, A)) := hR
  have h0 := Sr.begin (lv := .func (.func g) #[] lb) (sv := .func (.func sf) #[] sb) K hS 84
  go_enter Tryz.func87, Tryz.ntmps87
  go_wp2_with fail
  generalize w.alloc (.cells #[.func (.func g) #[] lb, .func (.func sf) #[] sb] 84) = W0 at *
  go_loopw [7, 8] (fun t7 t8 wr => ∃ (s i : Nat) (dk : Array α), t8 = .int .i64 (5 - (s : Int)) ∧ s ≤ 5 ∧ t7 = .int .i64 (i : Int) ∧ a < i ∧ i ≤ b ∧ Sr S blk w.heap.size (.func (.func g) #[] lb) (.func (.func sf) #[] sb) w wr dk ∧ Aside (Sort.partialIns lt a b s i dk = (R, A))) (fun _ t8 _ => (5 - Go.RowKit.intOf t8).toNat)
  case atStart => exact ⟨5, a + 1, d, rfl, by omega, by simp, by omega, by omega, h0, hR⟩
  case round =>
    clear h0 hR
    obtain ⟨s, i, dk, rfl, hs5, rfl, hai, hib, h, hO⟩ := hrel
    cases s with
    | zero =>
      have hR2 := hO.out
      rw [Sort.partialIns] at hR2
      obtain ⟨e1, e2⟩ := Prod.mk.inj hR2
      subst e1 e2
      clear hO hR2
      rw [show ((5 : Int) - ((0 : Nat) : Int)) = 5 from rfl]
      go_wp2_with fail
      go_ret
      exact ⟨rfl, h.row, h.turned⟩
    | succ s =>
      have i0 : (5 : Int) - ((s + 1 : Nat) : Int) < 5 := by omega
      obtain ⟨z, hz⟩ : ∃ z : Int, (5 : Int) - ((s + 1 : Nat) : Int) = z := ⟨_, rfl⟩
      rw [hz] at i0 ⊢
      replace hO := hO.out
      rw [partial_succ] at hO
      replace hO : Aside _ := hO
      have iz : 0 ≤ z := by omega
      replace hz : Aside (z = 4 - (s : Int)) := by show z = 4 - (s : Int); omega
      go_upto_block 2 with fail
      go_cut [7] from 13 to 90 (fun s7 wc => ∃ (i2 : Nat), s7 = .int .i64 (i2 : Int) ∧ a < i2 ∧ i2 ≤ b ∧ Sr S blk w.heap.size (.func (.func g) #[] lb) (.func (.func sf) #[] sb) w wc dk ∧ Aside (Sort.scanSorted lt dk b i = i2))
      case first =>
        go_wp2_with fail
        go_loopw [7] (fun t7 wr => ∃ (i2 : Nat), t7 = .int .i64 (i2 : Int) ∧ a < i2 ∧ i2 ≤ b ∧ Sr S blk w.heap.size (.func (.func g) #[] lb) (.func (.func sf) #[] sb) w wr dk ∧ Aside (Sort.scanSorted lt dk b i = Sort.scanSorted lt dk b i2)) (fun t7 _ => b - (Go.RowKit.intOf t7).toNat)
        case atStart => exact ⟨i, rfl, hai, hib, h, rfl⟩
        case round =>
          clear h hO
          obtain ⟨i2, rfl, hi2, hi2b, h, hI⟩ := hrel
          have c0 := h.c0
          by_cases hlt : i2 < b
          · have i1 : (i2 : Int) < (b : Int) := by omega
            cases hl1 : lt dk[i2]! dk[i2 - 1]!
            · have hI2 := hI.out
              rw [ss_go (i := i2) hlt hl1] at hI2
              replace hI2 : Aside _ := hI2
              go_wp2_with (go_at_fn g; refine (K.lessAt i2 (i2 - 1) rfl (by omega) (by omega) (by omega) h.row hl1).mono ?_; rintro e w1 ⟨rfl, hb1⟩; have h1 := h.below K hb1)
              exact ⟨⟨i2 + 1, by simp, by omega, by omega, h1, hI2⟩, by simp [Go.RowKit.intOf]; omega⟩
            · have hI2 := hI.out
              rw [ss_end (i := i2) (.inr hl1)] at hI2
              replace hI2 : Aside _ := hI2
              go_wp2_with (go_at_fn g; refine (K.lessAt i2 (i2 - 1) rfl (by omega) (by omega) (by omega) h.row hl1).mono ?_; rintro e w1 ⟨rfl, hb1⟩; have h1 := h.below K hb1)
              go_meet
              exact ⟨i2, rfl, hi2, hi2b, h1, hI2⟩
          · have i1 : ¬ (i2 : Int) < (b : Int) := by omega
            have hI2 := hI.out
            rw [ss_end (i := i2) (.inl hlt)] at hI2
            replace hI2 : Aside _ := hI2
            go_wp2_with fail
            go_meet
            exact ⟨i2, rfl, hi2, hi2b, h, hI2⟩
      case rest =>
        clear h hai hib
        obtain ⟨i2, rfl, hai, hib, h, hI⟩ := hcut
        replace hO := hO.out
        rw [hI.out] at hO
        clear hI
        have c1 := h.c1
        by_cases hib2 : i2 = b
        · rw [if_pos hib2] at hO
          obtain ⟨e1, e2⟩ := Prod.mk.inj hO
          subst e1 e2 hib2
          clear hO
          go_wp2_with fail
          go_ret
          exact ⟨rfl, h.row, h.turned⟩
        rw [if_neg hib2] at hO
        have i1 : ((i2 : Int) == (b : Int)) = false := by simp; omega
        by_cases h50 : b - a < 50
        · rw [if_pos h50] at hO
          obtain ⟨e1, e2⟩ := Prod.mk.inj hO
          subst e1 e2
          clear hO
          have i2 : (b : Int) - (a : Int) < 50 := by omega
          go_wp2_with fail
          go_ret
          exact ⟨rfl, h.row, h.turned⟩
        rw [if_neg h50] at hO
        have i3 : ¬ (b : Int) - (a : Int) < 50 := by omega
        obtain ⟨w3, hsw, h3⟩ := K.swapAt (i := (i2 : Int)) (j := (i2 : Int) - 1) i2 (i2 - 1) rfl (by omega) (by omega) (by omega) h
        obtain ⟨d2, hd2⟩ : ∃ d2, Sort.swp dk i2 (i2 - 1) = d2 := ⟨_, rfl⟩
        rw [hd2] at hO h3
        clear hd2 h
        obtain ⟨d3, hd3⟩ : ∃ d3, (if i2 - a ≥ 2 then Sort.shiftDown lt (i2 - 1) d2 else d2) = d3 := ⟨_, rfl⟩
        rw [hd3] at hO
        obtain ⟨d4, hd4⟩ : ∃ d4, (if b - i2 ≥ 2 then Sort.shiftUp lt b (i2 + 1) d3 else d3) = d4 := ⟨_, rfl⟩
        rw [hd4] at hO
        replace hO : Aside _ := hO
        replace hd3 : Aside _ := hd3
        replace hd4 : Aside _ := hd4
        go_upto_if 47 with fail
        clear hsw c1 i3 h50
        go_cut [9] from 44 to 90 (fun s9 wc => s9 = s9 ∧ Sr S blk w.heap.size (.func (.func g) #[] lb) (.func (.func sf) #[] sb) w wc d3)
        case first =>
          by_cases h2 : i2 - a ≥ 2
          · have hd3' := hd3.out
            rw [if_pos h2] at hd3'
            replace hd3' : Aside _ := hd3'
            have i4 : (2 : Int) ≤ (i2 : Int) - (a : Int) := by omega
            clear hO hd3 hd4
            go_wp2_with fail
            go_loopw [9] (fun t9 wr => ∃ (q : Nat) (dq : Array α), t9 = .int .i64 (q : Int) ∧ q < i2 ∧ Sr S blk w.heap.size (.func (.func g) #[] lb) (.func (.func sf) #[] sb) w wr dq ∧ Aside (Sort.shiftDown lt q dq = d3)) (fun t9 _ => (Go.RowKit.intOf t9).toNat)
            case atStart => exact ⟨i2 - 1, d2, by congr 1; omega, by omega, h3, hd3'⟩
            case round =>
              clear h3 hd3'
              obtain ⟨q, dq, rfl, hqi, h, hI⟩ := hrel
              have c0 := h.c0
              have c1 := h.c1
              cases q with
              | zero =>
                have hI2 := hI.out
                rw [Sort.shiftDown] at hI2
                subst hI2
                go_wp2_with fail
                go_meet
                exact ⟨trivial, h⟩
              | succ q =>
                have eq1 : ((q + 1 : Nat) : Int) = (q : Int) + 1 := by omega
                rw [eq1]
                cases hl1 : lt dq[q + 1]! dq[q]!
                · have hI2 := hI.out
                  rw [sh_end hl1] at hI2
                  subst hI2
                  go_wp2_with (go_at_fn g; refine (K.lessAt (q + 1) q (by omega) (by omega) (by omega) (by omega) h.row hl1).mono ?_; rintro e w1 ⟨rfl, hb1⟩; have h1 := h.below K hb1)
                  go_meet
                  exact ⟨trivial, h1⟩
                · have hI2 := hI.out
                  rw [sh_go hl1] at hI2
                  replace hI2 : Aside _ := hI2
                  go_wp2_with (go_at_fn g; refine (K.lessAt (q + 1) q (by omega) (by omega) (by omega) (by omega) h.row hl1).mono ?_; rintro e w1 ⟨rfl, hb1⟩; have h1 := h.below K hb1; have c1 := h1.c1; obtain ⟨w4, hsw, h4⟩ := K.swapAt (i := (q : Int) + 1) (j := (q : Int)) (q + 1) q (by omega) (by omega) (by omega) (by omega) h1)
                  exact ⟨⟨q, _, by simp, by omega, h4, hI2⟩, by simp [Go.RowKit.intOf]⟩
          · have hd3' := hd3.out
            rw [if_neg h2] at hd3'
            subst hd3'
            have i4 : ¬ (2 : Int) ≤ (i2 : Int) - (a : Int) := by omega
            clear hO hd3 hd4
            go_wp2_with fail
            go_meet
            exact ⟨trivial, h3⟩
        case rest =>
          clear h3 hd3
          obtain ⟨-, h3⟩ := hcut
          by_cases h2 : b - i2 ≥ 2
          · have hd4' := hd4.out
            rw [if_pos h2] at hd4'
            replace hd4' : Aside _ := hd4'
            have i4 : (2 : Int) ≤ (b : Int) - (i2 : Int) := by omega
            clear hd4
            go_wp2_with fail
            go_loopw [10] (fun t9 wr => ∃ (q : Nat) (dq : Array α), t9 = .int .i64 (q : Int) ∧ i2 < q ∧ q ≤ b ∧ Sr S blk w.heap.size (.func (.func g) #[] lb) (.func (.func sf) #[] sb) w wr dq ∧ Aside (Sort.shiftUp lt b q dq = d4)) (fun t9 _ => b - (Go.RowKit.intOf t9).toNat)
            case atStart => exact ⟨i2 + 1, d3, by simp, by omega, by omega, h3, hd4'⟩
            case round =>
              clear h3 hd4'
              obtain ⟨q, dq, rfl, hqi, hqb, h, hI⟩ := hrel
              have c0 := h.c0
              have c1 := h.c1
              by_cases hlt : q < b
              · have i5 : (q : Int) < (b : Int) := by omega
                cases hl1 : lt dq[q]! dq[q - 1]!
                · have hI2 := hI.out
                  rw [su_stop hlt hl1] at hI2
                  subst hI2
                  go_wp2_with (go_at_fn g; refine (K.lessAt q (q - 1) rfl (by omega) (by omega) (by omega) h.row hl1).mono ?_; rintro e w1 ⟨rfl, hb1⟩; have h1 := h.below K hb1)
                  exact ⟨⟨s, i2, _, by congr 1; have := hz.out; omega, by omega, rfl, hai, hib, h1, hO⟩, by have := hz.out; simp [Go.RowKit.intOf]; omega⟩
                · have hI2 := hI.out
                  rw [su_go hlt hl1] at hI2
                  replace hI2 : Aside _ := hI2
                  go_wp2_with (go_at_fn g; refine (K.lessAt q (q - 1) rfl (by omega) (by omega) (by omega) h.row hl1).mono ?_; rintro e w1 ⟨rfl, hb1⟩; have h1 := h.below K hb1; have c1 := h1.c1; obtain ⟨w4, hsw, h4⟩ := K.swapAt (i := (q : Int)) (j := (q : Int) - 1) q (q - 1) rfl (by omega) (by omega) (by omega) h1)
                  exact ⟨⟨q + 1, _, by simp, by omega, by omega, h4, hI2⟩, by simp [Go.RowKit.intOf]; omega⟩
              · have i5 : ¬ (q : Int) < (b : Int) := by omega
                have hI2 := hI.out
                rw [su_end hlt] at hI2
                subst hI2
                go_wp2_with fail
                exact ⟨⟨s, i2, _, by congr 1; have := hz.out; omega, by omega, rfl, hai, hib, h, hO⟩, by have := hz.out; simp [Go.RowKit.intOf]; omega⟩
          · have hd4' := hd4.out
            rw [if_neg h2] at hd4'
            subst hd4'
            have i4 : ¬ (2 : Int) ≤ (b : Int) - (i2 : Int) := by omega
            go_wp2_with fail
            exact ⟨⟨s, i2, _, by congr 1; have := hz.out; omega, by omega, rfl, hai, hib, h3, hO⟩, by have := hz.out; simp [Go.RowKit.intOf]; omega⟩
end Go.Proofs.YtohocomemkckeaaGreatDoor

/-! SORTS by a closure: order2, median, medianAdjacent, choosePivot; reverseRange. -/
namespace Go.Proofs.YtohocomemkckeaaGreatDoor
open Go.RowKit
set_option maxRecDepth 8000
set_option linter.unusedSimpArgs false
set_option linter.unusedVariables false

set_option maxRecDepth 8000 in
set_option maxHeartbeats 4000000 in
theorem sorder_any {α : Type} [Inhabited α] {n g sf blk cb : Nat} {lb sb : Array Value} {lt : α → α → Bool} {S : World → Array α → Prop} (K : Srt n g sf lb sb lt blk S) (a b s : Nat) (d : Array α) (w : World) (hS : S w d) (hc : BlkL cb [.int .i64 (s : Int)] w) (hk : ∀ {w w' : World}, S w d → (∀ k, k ≠ cb → w'.heap[k]? = w.heap[k]?) → S w' d) (ha : a < n) (hb : b < n) (hs : s < 1000) :
    Calls Tryz.prog 104 #[.agg #[.func (.func g) #[] lb, .func (.func sf) #[] sb], .int .i64 (a : Int), .int .i64 (b : Int), .pointer (some ⟨cb, 0, none⟩)] w fun e w' => e = .returned (.tuple #[.int .i64 ((Sort.order2 lt d a b s).1 : Int), .int .i64 ((Sort.order2 lt d a b s).2.1 : Int)]) ∧ S w' d ∧ BlkL cb [.int .i64 ((Sort.order2 lt d a b s).2.2 : Int)] w' ∧ Turned [cb] w w' := by
  have eg := K.enter
  have hn := K.few
  have hb0 := blkl_alloc w #[.func (.func g) #[] lb, .func (.func sf) #[] sb] 84
  have hB0 := alloc_below w (.cells #[.func (.func g) #[] lb, .func (.func sf) #[] sb] 84)
  have c0 := (hb0.1 0 _ rfl).1
  have hS0 := K.keep hS hB0
  have hc0 := stab_blk _ _ _ _ hc hB0
  unfold Sort.order2
  cases hl1 : lt d[b]! d[a]!
  · rw [if_neg (by decide)]
    show Calls _ _ _ _ fun e w' => e = .returned (.tuple #[.int .i64 (a : Int), .int .i64 (b : Int)]) ∧ S w' d ∧ BlkL cb [.int .i64 (s : Int)] w' ∧ Turned [cb] w w'
    go_enter Tryz.func104, Tryz.ntmps104
    go_wp2_with (go_at_fn g; refine (K.lessAt b a rfl rfl hb ha hS0 hl1).mono ?_; rintro e w1 ⟨rfl, hb1⟩)
    go_ret2
    exact ⟨rfl, K.keep hS0 hb1, stab_blk _ _ _ _ hc0 hb1, turned_below (Below.then hB0 hb1)⟩
  · rw [if_pos rfl]
    show Calls _ _ _ _ fun e w' => e = .returned (.tuple #[.int .i64 (b : Int), .int .i64 (a : Int)]) ∧ S w' d ∧ BlkL cb [.int .i64 ((s + 1 : Nat) : Int)] w' ∧ Turned [cb] w w'
    have es : ((s + 1 : Nat) : Int) = (s : Int) + 1 := by omega
    rw [es]
    go_enter Tryz.func104, Tryz.ntmps104
    go_wp2_with (go_at_fn g; refine (K.lessAt b a rfl rfl hb ha hS0 hl1).mono ?_; rintro e w1 ⟨rfl, hb1⟩; have hc1 := stab_blk _ _ _ _ hc0 hb1; have c2 := (hc1.1 0 _ rfl).1; have f2 := (hc1.1 0 _ rfl).2)
    go_ret2
    have hB1 := Below.then hB0 hb1
    refine ⟨rfl, hk (K.keep hS0 hb1) (fun k hk => heap_setCell_other _ ⟨cb, 0, none⟩ k _ hk), ⟨hc1.1.set 0 _ (by simp), by simpa using hc1.2⟩, hB1.os, hB1.tape, hB1.output, by simpa using hB1.size, fun k hk hn => ?_⟩
    rw [heap_setCell_other _ ⟨cb, 0, none⟩ k _ (by simpa using hn)]
    exact hB1.block k hk
section
variable {α : Type} [Inhabited α] (lt : α → α → Bool) (d : Array α) (a b c s : Nat)
theorem order_lt {n : Nat} (ha : a < n) (hb : b < n) : (Sort.order2 lt d a b s).1 < n ∧ (Sort.order2 lt d a b s).2.1 < n := by
  rcases Sort.order2_mem lt d a b s with ⟨h1, h2⟩ | ⟨h1, h2⟩ <;> rw [h1, h2]
  · exact ⟨ha, hb⟩
  · exact ⟨hb, ha⟩
theorem order_count : (Sort.order2 lt d a b s).2.2 ≤ s + 1 := by
  unfold Sort.order2
  split <;> simp
theorem median_count : (Sort.median lt d a b c s).2 ≤ s + 3 := by
  have h1 := order_count lt d a b s
  have h2 := order_count lt d (Sort.order2 lt d a b s).2.1 c (Sort.order2 lt d a b s).2.2
  have h3 := order_count lt d (Sort.order2 lt d a b s).1 (Sort.order2 lt d (Sort.order2 lt d a b s).2.1 c (Sort.order2 lt d a b s).2.2).1 (Sort.order2 lt d (Sort.order2 lt d a b s).2.1 c (Sort.order2 lt d a b s).2.2).2.2
  show (Sort.order2 lt d (Sort.order2 lt d a b s).1 (Sort.order2 lt d (Sort.order2 lt d a b s).2.1 c (Sort.order2 lt d a b s).2.2).1 (Sort.order2 lt d (Sort.order2 lt d a b s).2.1 c (Sort.order2 lt d a b s).2.2).2.2).2.2 ≤ s + 3
  omega
theorem median_lt {n : Nat} (ha : a < n) (hb : b < n) (hc : c < n) : (Sort.median lt d a b c s).1 < n := by
  rcases Sort.median_mem lt d a b c s with h | h | h <;> rw [h] <;> assumption
end
set_option maxRecDepth 8000 in
set_option maxHeartbeats 4000000 in
theorem smedian_any {α : Type} [Inhabited α] {n g sf blk cb : Nat} {lb sb : Array Value} {lt : α → α → Bool} {S : World → Array α → Prop} (K : Srt n g sf lb sb lt blk S) (a b c s : Nat) (d : Array α) (w : World) (hS : S w d) (hc : BlkL cb [.int .i64 (s : Int)] w) (hk : ∀ {w w' : World}, S w d → (∀ k, k ≠ cb → w'.heap[k]? = w.heap[k]?) → S w' d) (ha : a < n) (hb : b < n) (hcn : c < n) (hs : s < 900) :
    Calls Tryz.prog 97 #[.agg #[.func (.func g) #[] lb, .func (.func sf) #[] sb], .int .i64 (a : Int), .int .i64 (b : Int), .int .i64 (c : Int), .pointer (some ⟨cb, 0, none⟩)] w fun e w' => e = .returned (.int .i64 ((Sort.median lt d a b c s).1 : Int)) ∧ S w' d ∧ BlkL cb [.int .i64 ((Sort.median lt d a b c s).2 : Int)] w' ∧ Turned [cb] w w' := by
  have hund := Tryz.underlying84
  have hsz : (Tryz.prog.info? 84).map (·.size) = some 2 := by kernel_rfl
  have hb0 := blkl_alloc w #[.func (.func g) #[] lb, .func (.func sf) #[] sb] 84
  have hB0 := alloc_below w (.cells #[.func (.func g) #[] lb, .func (.func sf) #[] sb] 84)
  have hne : w.heap.size ≠ cb := fun e => by have := hc.2; omega
  have hS0 := K.keep hS hB0
  have hc0 := stab_blk _ _ _ _ hc hB0
  have hT0 : Turned [cb] w _ := turned_below hB0
  have e1 : Sort.median lt d a b c s = ((Sort.order2 lt d (Sort.order2 lt d a b s).1 (Sort.order2 lt d (Sort.order2 lt d a b s).2.1 c (Sort.order2 lt d a b s).2.2).1 (Sort.order2 lt d (Sort.order2 lt d a b s).2.1 c (Sort.order2 lt d a b s).2.2).2.2).2.1, (Sort.order2 lt d (Sort.order2 lt d a b s).1 (Sort.order2 lt d (Sort.order2 lt d a b s).2.1 c (Sort.order2 lt d a b s).2.2).1 (Sort.order2 lt d (Sort.order2 lt d a b s).2.1 c (Sort.order2 lt d a b s).2.2).2.2).2.2) := rfl
  rw [e1]
  clear e1
  have k1 := fun W q1 q2 => sorder_any (cb := cb) K a b s d W q1 q2 hk ha hb (by omega)
  have l1 := order_lt lt d a b s ha hb
  have m1 := order_count lt d a b s
  generalize Sort.order2 lt d a b s = r1 at *
  obtain ⟨x1, y1, s1⟩ := r1
  simp only at k1 l1 m1 ⊢
  have k2 := fun W q1 q2 => sorder_any (cb := cb) K y1 c s1 d W q1 q2 hk l1.2 hcn (by omega)
  have l2 := order_lt lt d y1 c s1 l1.2 hcn
  have m2 := order_count lt d y1 c s1
  generalize Sort.order2 lt d y1 c s1 = r2 at *
  obtain ⟨x2, y2, s2⟩ := r2
  simp only at k2 l2 m2 ⊢
  have k3 := fun W q1 q2 => sorder_any (cb := cb) K x1 x2 s2 d W q1 q2 hk l1.1 l2.1 (by omega)
  generalize Sort.order2 lt d x1 x2 s2 = r3 at *
  obtain ⟨x3, y3, s3⟩ := r3
  simp only at k3 ⊢
  go_enter Tryz.func97, Tryz.ntmps97
  have hr0 := hb0.range
  go_upto_region 1 with fail
  generalize w.alloc (.cells #[.func (.func g) #[] lb, .func (.func sf) #[] sb] 84) = W0 at *
  go_wp2_with (first | (refine wpList_load_row rfl _ rfl w.heap.size rfl [.func (.func g) #[] lb, .func (.func sf) #[] sb] hr0 hund rfl hsz ?_) | fail)
  refine (k1 _ hS0 hc0).mono ?_
  rintro e W1 ⟨rfl, hS1, hc1, hT1⟩
  have hb1 := hT1.blk hb0 (by simpa using hne)
  have hT01 := hT0.trans hT1
  have hr1 := hb1.range
  clear hr0 hb0 hS0 hc0 hT0 hT1
  go_wp2_with (first | (refine wpList_load_row rfl _ rfl w.heap.size rfl [.func (.func g) #[] lb, .func (.func sf) #[] sb] hr1 hund rfl hsz ?_) | fail)
  refine (k2 _ hS1 hc1).mono ?_
  rintro e W2 ⟨rfl, hS2, hc2, hT2⟩
  have hb2 := hT2.blk hb1 (by simpa using hne)
  have hT02 := hT01.trans hT2
  have hr2 := hb2.range
  clear hr1 hb1 hS1 hc1 hT01 hT2
  go_wp2_with (first | (refine wpList_load_row rfl _ rfl w.heap.size rfl [.func (.func g) #[] lb, .func (.func sf) #[] sb] hr2 hund rfl hsz ?_) | fail)
  refine (k3 _ hS2 hc2).mono ?_
  rintro e W3 ⟨rfl, hS3, hc3, hT3⟩
  go_wp2_with fail
  go_ret
  exact ⟨rfl, hS3, hc3, hT02.trans hT3⟩
set_option maxRecDepth 8000 in
set_option maxHeartbeats 4000000 in
theorem smedadj_any {α : Type} [Inhabited α] {n g sf blk cb : Nat} {lb sb : Array Value} {lt : α → α → Bool} {S : World → Array α → Prop} (K : Srt n g sf lb sb lt blk S) (a s : Nat) (d : Array α) (w : World) (hS : S w d) (hc : BlkL cb [.int .i64 (s : Int)] w) (hk : ∀ {w w' : World}, S w d → (∀ k, k ≠ cb → w'.heap[k]? = w.heap[k]?) → S w' d) (ha : 0 < a) (hb : a + 1 < n) (hs : s < 900) :
    Calls Tryz.prog 96 #[.agg #[.func (.func g) #[] lb, .func (.func sf) #[] sb], .int .i64 (a : Int), .pointer (some ⟨cb, 0, none⟩)] w fun e w' => e = .returned (.int .i64 ((Sort.medianAdjacent lt d a s).1 : Int)) ∧ S w' d ∧ BlkL cb [.int .i64 ((Sort.medianAdjacent lt d a s).2 : Int)] w' ∧ Turned [cb] w w' := by
  have hn := K.few
  have hund := Tryz.underlying84
  have hsz : (Tryz.prog.info? 84).map (·.size) = some 2 := by kernel_rfl
  have hb0 := blkl_alloc w #[.func (.func g) #[] lb, .func (.func sf) #[] sb] 84
  have hB0 := alloc_below w (.cells #[.func (.func g) #[] lb, .func (.func sf) #[] sb] 84)
  have hS0 := K.keep hS hB0
  have hc0 := stab_blk _ _ _ _ hc hB0
  have hT0 : Turned [cb] w _ := turned_below hB0
  have k1 := fun W q1 q2 => smedian_any (cb := cb) K (a - 1) a (a + 1) s d W q1 q2 hk (by omega) (by omega) (by omega) hs
  rw [show Sort.medianAdjacent lt d a s = Sort.median lt d (a - 1) a (a + 1) s from rfl]
  rw [show (((a - 1 : Nat)) : Int) = (a : Int) - 1 by omega, show (((a + 1 : Nat)) : Int) = (a : Int) + 1 by omega] at k1
  generalize Sort.median lt d (a - 1) a (a + 1) s = r1 at *
  have hr0 := hb0.range
  go_enter Tryz.func96, Tryz.ntmps96
  go_upto_region 1 with fail
  generalize w.alloc (.cells #[.func (.func g) #[] lb, .func (.func sf) #[] sb] 84) = W0 at *
  go_wp2_with (first | (refine wpList_load_row rfl _ rfl w.heap.size rfl [.func (.func g) #[] lb, .func (.func sf) #[] sb] hr0 hund rfl hsz ?_) | fail)
  refine (k1 _ hS0 hc0).mono ?_
  rintro e W1 ⟨rfl, hS1, hc1, hT1⟩
  go_wp2_with fail
  go_ret
  exact ⟨rfl, hS1, hc1, hT0.trans hT1⟩
theorem rev_go {α : Type} [Inhabited α] {d : Array α} {i j : Nat} (h : i < j) : Sort.reverseLoop i j d = Sort.reverseLoop (i + 1) (j - 1) (Sort.swp d i j) := by rw [Sort.reverseLoop, if_pos h]
theorem rev_end {α : Type} [Inhabited α] {d : Array α} {i j : Nat} (h : ¬ i < j) : Sort.reverseLoop i j d = d := by rw [Sort.reverseLoop, if_neg h]
set_option maxRecDepth 8000 in
set_option maxHeartbeats 4000000 in
theorem srev_any {α : Type} [Inhabited α] {n g sf blk : Nat} {lb sb : Array Value} {lt : α → α → Bool} {S : World → Array α → Prop} (K : Srt n g sf lb sb lt blk S) (a b : Nat) (d : Array α) (w : World) (hS : S w d) (hab : a < b) (hb : b ≤ n) :
    Calls Tryz.prog 86 #[.agg #[.func (.func g) #[] lb, .func (.func sf) #[] sb], .int .i64 (a : Int), .int .i64 (b : Int)] w fun e w' => e = .returned (.tuple #[]) ∧ S w' (Sort.reverseRange d a b) ∧ Turned [blk] w w' := by
  have hn := K.few
  obtain ⟨R, hR⟩ : ∃ R, Sort.reverseRange d a b = R := ⟨_, rfl⟩
  rw [hR]
  replace hR : Aside (Sort.reverseLoop a (b - 1) d = R) := hR
  have h0 := Sr.begin (lv := .func (.func g) #[] lb) (sv := .func (.func sf) #[] sb) K hS 84
  go_enter Tryz.func86, Tryz.ntmps86
  go_wp2_with fail
  generalize w.alloc (.cells #[.func (.func g) #[] lb, .func (.func sf) #[] sb] 84) = W0 at *
  go_loopw [6, 7] (fun t6 t7 wr => ∃ (i j : Nat) (dk : Array α), t6 = .int .i64 (i : Int) ∧ t7 = .int .i64 (j : Int) ∧ i ≤ j + 2 ∧ j < b ∧ Sr S blk w.heap.size (.func (.func g) #[] lb) (.func (.func sf) #[] sb) w wr dk ∧ Aside (Sort.reverseLoop i j dk = R)) (fun _ t7 _ => (Go.RowKit.intOf t7).toNat)
  case atStart => exact ⟨a, b - 1, d, rfl, by congr 1; omega, by omega, by omega, h0, hR⟩
  case round =>
    clear h0 hR
    obtain ⟨i, j, dk, rfl, rfl, hij, hjb, h, hO⟩ := hrel
    have c1 := h.c1
    by_cases hlt : i < j
    · replace hO := hO.out
      rw [rev_go hlt] at hO
      replace hO : Aside _ := hO
      have i1 : (i : Int) < (j : Int) := by omega
      obtain ⟨w3, hsw, h3⟩ := K.swapAt (i := (i : Int)) (j := (j : Int)) i j rfl rfl (by omega) (by omega) h
      go_wp2_with fail
      exact ⟨⟨i + 1, j - 1, _, by simp, by simp; omega, by omega, by omega, h3, hO⟩, by simp [Go.RowKit.intOf]; omega⟩
    · replace hO := hO.out
      rw [rev_end hlt] at hO
      subst hO
      have i1 : ¬ (i : Int) < (j : Int) := by omega
      go_wp2_with fail
      go_end0
      exact ⟨rfl, h.row, h.turned⟩
end Go.Proofs.YtohocomemkckeaaGreatDoor

/-! SORTS by a closure: choosePivot. -/
namespace Go.Proofs.YtohocomemkckeaaGreatDoor
open Go.RowKit
set_option maxRecDepth 8000
set_option linter.unusedSimpArgs false
set_option linter.unusedVariables false

def hintZ (s : Nat) : Int := if s = 0 then 1 else if s = 12 then 2 else 0
def rawP {α : Type} [Inhabited α] (lt : α → α → Bool) (d : Array α) (a q l : Nat) : Nat × Nat :=
  if l ≥ 50 then Sort.median lt d (Sort.medianAdjacent lt d (a + q) 0).1 (Sort.medianAdjacent lt d (a + q * 2) (Sort.medianAdjacent lt d (a + q) 0).2).1 (Sort.medianAdjacent lt d (a + q * 3) (Sort.medianAdjacent lt d (a + q * 2) (Sort.medianAdjacent lt d (a + q) 0).2).2).1 (Sort.medianAdjacent lt d (a + q * 3) (Sort.medianAdjacent lt d (a + q * 2) (Sort.medianAdjacent lt d (a + q) 0).2).2).2
  else Sort.median lt d (a + q) (a + q * 2) (a + q * 3) 0
theorem choose_eq {α : Type} [Inhabited α] (lt : α → α → Bool) (d : Array α) (a b : Nat) (h : 8 ≤ b - a) : Sort.choosePivot lt d a b = ((rawP lt d a ((b - a) / 4) (b - a)).1, if (rawP lt d a ((b - a) / 4) (b - a)).2 = 0 then Sort.Hint.increasing else if (rawP lt d a ((b - a) / 4) (b - a)).2 = 12 then .decreasing else .unknown) := by
  unfold Sort.choosePivot rawP
  simp only [Nat.mul_one, if_pos (show b - a ≥ 8 from h)]
theorem medadj_lt {α : Type} [Inhabited α] (lt : α → α → Bool) (d : Array α) (a s n : Nat) (h : a + 1 < n) : (Sort.medianAdjacent lt d a s).1 < n := median_lt lt d (a - 1) a (a + 1) s (by omega) (by omega) h
theorem medadj_count {α : Type} [Inhabited α] (lt : α → α → Bool) (d : Array α) (a s : Nat) : (Sort.medianAdjacent lt d a s).2 ≤ s + 3 := median_count lt d (a - 1) a (a + 1) s
set_option maxRecDepth 8000 in
set_option maxHeartbeats 4000000 in
theorem schoose_any {α : Type} [Inhabited α] {n g sf blk : Nat} {lb sb : Array Value} {lt : α → α → Bool} {S : World → Array α → Prop} (K : Srt n g sf lb sb lt blk S) (a b : Nat) (d : Array α) (w : World) (hS : S w d) (hab : 12 < b - a) (hb : b ≤ n) :
    Calls Tryz.prog 85 #[.agg #[.func (.func g) #[] lb, .func (.func sf) #[] sb], .int .i64 (a : Int), .int .i64 (b : Int)] w fun e w' => e = .returned (.tuple #[.int .i64 ((rawP lt d a ((b - a) / 4) (b - a)).1 : Int), .int .i64 (hintZ (rawP lt d a ((b - a) / 4) (b - a)).2)]) ∧ S w' d ∧ Below w.heap.size w w' := by
  have hn := K.few
  have hund := Tryz.underlying84
  have hsz : (Tryz.prog.info? 84).map (·.size) = some 2 := by kernel_rfl
  obtain ⟨l, hl⟩ : ∃ l, b - a = l := ⟨_, rfl⟩
  obtain ⟨q, hq⟩ : ∃ q, l / 4 = q := ⟨_, rfl⟩
  rw [hl, hq]
  obtain ⟨⟨X, MS⟩, hrw⟩ : ∃ r, rawP lt d a q l = r := ⟨_, rfl⟩
  rw [hrw]
  obtain ⟨Hz, hHz⟩ : ∃ z, hintZ MS = z := ⟨_, rfl⟩
  show Calls _ _ _ _ fun e w' => e = .returned (.tuple #[.int .i64 (X : Int), .int .i64 (hintZ MS)]) ∧ S w' d ∧ Below w.heap.size w w'
  rw [hHz]
  replace hHz : Aside (hintZ MS = Hz) := hHz
  replace hrw : Aside (rawP lt d a q l = (X, MS)) := hrw
  have eh : (b : Int) - (a : Int) = (l : Int) := by omega
  have e2 : (l : Int) / 4 = (q : Int) := by omega
  have e3 : (l : Int).tdiv 4 = (q : Int) := by rw [Int.tdiv_eq_ediv_of_nonneg (by omega)]; exact e2
  have i8 : (8 : Int) ≤ (l : Int) := by omega
  have hq1 : 1 ≤ q := by omega
  have hqn : a + q * 4 ≤ n := by omega
  have hb0 := blkl_alloc w #[.func (.func g) #[] lb, .func (.func sf) #[] sb] 84
  have hB0 := alloc_below w (.cells #[.func (.func g) #[] lb, .func (.func sf) #[] sb] 84)
  have hS0 := K.keep hS hB0
  obtain ⟨B, hB1, hB2⟩ := K.far
  go_enter Tryz.func85, Tryz.ntmps85
  go_upto_region 2 with fail
  generalize w.alloc (.cells #[.func (.func g) #[] lb, .func (.func sf) #[] sb] 84) = W0 at *
  have hc0 := blkl_alloc W0 #[.int .i64 0] 3
  have hB3 := alloc_below W0 (.cells #[.int .i64 0] 3)
  have hS1 := K.keep hS0 hB3
  have hb1 := stab_blk _ _ _ _ hb0 hB3
  have hcb : w.heap.size ≠ W0.heap.size := by have := hb0.2; omega
  have hcw : w.heap.size ≤ W0.heap.size := hB0.size
  have hT1 : Turned [W0.heap.size] w (W0.alloc (.cells #[.int .i64 0] 3)) := turned_below (Below.then hB0 hB3)
  have hk : ∀ {w w' : World}, S w d → (∀ k, k ≠ W0.heap.size → w'.heap[k]? = w.heap[k]?) → S w' d := fun q1 q2 => hB2 q1 fun k hk => q2 k (by have := hB1 hS0; omega)
  replace hc0 : BlkL W0.heap.size [.int .i64 ((0 : Nat) : Int)] (W0.alloc (.cells #[.int .i64 0] 3)) := hc0
  clear hS0 hb0 hB0 hB3 hB1 hB2
  have hr1 := hb1.range
  replace hrw := hrw.out
  unfold rawP at hrw
  by_cases h50 : l ≥ 50
  · rw [if_pos h50] at hrw
    have i50 : (50 : Int) ≤ (l : Int) := by omega
    have k1 := fun W q1 q2 => smedadj_any (cb := W0.heap.size) K (a + q) 0 d W q1 q2 hk (by omega) (by omega) (by omega)
    have l1 := medadj_lt lt d (a + q) 0 n (by omega)
    have m1 := medadj_count lt d (a + q) 0
    generalize Sort.medianAdjacent lt d (a + q) 0 = r1 at *
    obtain ⟨x1, s1⟩ := r1
    simp only at k1 l1 m1 hrw
    have k2 := fun W q1 q2 => smedadj_any (cb := W0.heap.size) K (a + q * 2) s1 d W q1 q2 hk (by omega) (by omega) (by omega)
    have l2 := medadj_lt lt d (a + q * 2) s1 n (by omega)
    have m2 := medadj_count lt d (a + q * 2) s1
    generalize Sort.medianAdjacent lt d (a + q * 2) s1 = r2 at *
    obtain ⟨x2, s2⟩ := r2
    simp only at k2 l2 m2 hrw
    have k3 := fun W q1 q2 => smedadj_any (cb := W0.heap.size) K (a + q * 3) s2 d W q1 q2 hk (by omega) (by omega) (by omega)
    have l3 := medadj_lt lt d (a + q * 3) s2 n (by omega)
    have m3 := medadj_count lt d (a + q * 3) s2
    generalize Sort.medianAdjacent lt d (a + q * 3) s2 = r3 at *
    obtain ⟨x3, s3⟩ := r3
    simp only at k3 l3 m3 hrw
    have k4 := fun W q1 q2 => smedian_any (cb := W0.heap.size) K x1 x2 x3 s3 d W q1 q2 hk l1 l2 l3 (by omega)
    rw [hrw] at k4
    simp only at k4
    clear hrw
    rw [show ((a + q : Nat) : Int) = (a : Int) + (q : Int) by omega] at k1
    rw [show ((a + q * 2 : Nat) : Int) = (a : Int) + (q : Int) * 2 by omega] at k2
    rw [show ((a + q * 3 : Nat) : Int) = (a : Int) + (q : Int) * 3 by omega] at k3
    go_upto_region 8 with fail
    generalize W0.alloc (.cells #[.int .i64 0] 3) = Z at *
    generalize W0.heap.size = cb at *
    go_wp2_with (first | (refine wpList_load_row rfl _ rfl w.heap.size rfl [.func (.func g) #[] lb, .func (.func sf) #[] sb] hr1 hund rfl hsz ?_) | fail)
    refine (k1 _ hS1 hc0).mono ?_
    rintro e W1 ⟨rfl, hS2, hc2, hT2⟩
    have hb2 := hT2.blk hb1 (by simpa using hcb)
    have hr2 := hb2.range
    have hT12 := hT1.trans hT2
    clear hS1 hc0 hr1 hT1 hT2 hb1
    go_wp2_with (first | (refine wpList_load_row rfl _ rfl w.heap.size rfl [.func (.func g) #[] lb, .func (.func sf) #[] sb] hr2 hund rfl hsz ?_) | fail)
    refine (k2 _ hS2 hc2).mono ?_
    rintro e W2 ⟨rfl, hS3, hc3, hT3⟩
    have hb3 := hT3.blk hb2 (by simpa using hcb)
    have hr3 := hb3.range
    have hT13 := hT12.trans hT3
    clear hS2 hc2 hr2 hT12 hT3 hb2
    go_wp2_with (first | (refine wpList_load_row rfl _ rfl w.heap.size rfl [.func (.func g) #[] lb, .func (.func sf) #[] sb] hr3 hund rfl hsz ?_) | fail)
    refine (k3 _ hS3 hc3).mono ?_
    rintro e W3 ⟨rfl, hS4, hc4, hT4⟩
    have hb4 := hT4.blk hb3 (by simpa using hcb)
    have hr4 := hb4.range
    have hT14 := hT13.trans hT4
    clear hS3 hc3 hr3 hT13 hT4 hb3
    go_wp2_with (first | (refine wpList_load_row rfl _ rfl w.heap.size rfl [.func (.func g) #[] lb, .func (.func sf) #[] sb] hr4 hund rfl hsz ?_) | fail)
    refine (k4 _ hS4 hc4).mono ?_
    rintro e W9 ⟨rfl, hS9, hc9, hT9⟩
    have hT := hT14.trans hT9
    have hBf : Below w.heap.size w W9 := hT.below (fun k hk => by simp at hk; omega) (Nat.le_refl _)
    have c9 := (hc9.1 0 _ rfl).1
    clear hS4 hc4 hr4 hT14 hT9 hT
    replace hHz := hHz.out
    unfold hintZ at hHz
    by_cases hz0 : MS = 0
    · rw [if_pos hz0] at hHz
      subst hz0 hHz
      go_wp2_with fail
      go_ret2
      exact ⟨rfl, hS9, hBf⟩
    rw [if_neg hz0] at hHz
    by_cases hz12 : MS = 12
    · rw [if_pos hz12] at hHz
      subst hz12 hHz
      go_wp2_with fail
      go_ret2
      exact ⟨rfl, hS9, hBf⟩
    · rw [if_neg hz12] at hHz
      subst hHz
      have i8 : ((MS : Int) == 0) = false := by simp; omega
      have i9 : ((MS : Int) == 12) = false := by simp; omega
      go_wp2_with fail
      go_ret2
      exact ⟨rfl, hS9, hBf⟩
  · rw [if_neg h50] at hrw
    have i50 : ¬ (50 : Int) ≤ (l : Int) := by omega
    have k4 := fun W q1 q2 => smedian_any (cb := W0.heap.size) K (a + q) (a + q * 2) (a + q * 3) 0 d W q1 q2 hk (by omega) (by omega) (by omega) (by omega)
    rw [hrw] at k4
    simp only at k4
    clear hrw
    rw [show ((a + q : Nat) : Int) = (a : Int) + (q : Int) by omega, show ((a + q * 2 : Nat) : Int) = (a : Int) + (q : Int) * 2 by omega, show ((a + q * 3 : Nat) : Int) = (a : Int) + (q : Int) * 3 by omega] at k4
    go_upto_region 11 with fail
    generalize W0.alloc (.cells #[.int .i64 0] 3) = Z at *
    generalize W0.heap.size = cb at *
    go_wp2_with (first | (refine wpList_load_row rfl _ rfl w.heap.size rfl [.func (.func g) #[] lb, .func (.func sf) #[] sb] hr1 hund rfl hsz ?_) | fail)
    refine (k4 _ hS1 hc0).mono ?_
    rintro e W9 ⟨rfl, hS9, hc9, hT9⟩
    have hT := hT1.trans hT9
    have hBf : Below w.heap.size w W9 := hT.below (fun k hk => by simp at hk; omega) (Nat.le_refl _)
    have c9 := (hc9.1 0 _ rfl).1
    clear hS1 hc0 hr1 hT1 hT9 hT
    replace hHz := hHz.out
    unfold hintZ at hHz
    by_cases hz0 : MS = 0
    · rw [if_pos hz0] at hHz
      subst hz0 hHz
      go_wp2_with fail
      go_ret2
      exact ⟨rfl, hS9, hBf⟩
    rw [if_neg hz0] at hHz
    by_cases hz12 : MS = 12
    · rw [if_pos hz12] at hHz
      subst hz12 hHz
      go_wp2_with fail
      go_ret2
      exact ⟨rfl, hS9, hBf⟩
    · rw [if_neg hz12] at hHz
      subst hHz
      have i8 : ((MS : Int) == 0) = false := by simp; omega
      have i9 : ((MS : Int) == 12) = false := by simp; omega
      go_wp2_with fail
      go_ret2
      exact ⟨rfl, hS9, hBf⟩
end Go.Proofs.YtohocomemkckeaaGreatDoor

/-! SORTS by a closure: pdqsort. -/
namespace Go.Proofs.YtohocomemkckeaaGreatDoor
open Go.RowKit
set_option maxRecDepth 8000
set_option linter.unusedSimpArgs false
set_option linter.unusedVariables false

section
variable {α : Type} [Inhabited α] {lt : α → α → Bool} {d d1 d2 d3 d4 : Array α} {a b lim l1 X pv mid : Nat} {wb wp A ap : Bool} {H H2 : Sort.Hint}
theorem pdq_round (h12 : ¬ b - a ≤ 12) (h0 : ¬ lim = 0) (hd1 : (if !wb then Sort.breakPatterns d a b else d) = d1) (hl1 : (if !wb then lim - 1 else lim) = l1) (hc : Sort.choosePivot lt d1 a b = (X, H))
    (hd2 : (if H = .decreasing then Sort.reverseRange d1 a b else d1) = d2) (hpv : (if H = .decreasing then (b - 1) - (X - a) else X) = pv) (hH : (if H = .decreasing then Sort.Hint.increasing else H) = H2)
    (hpi : (if wb && wp && H2 = .increasing then Sort.partialInsertionSort lt d2 a b else (d2, false)) = (d3, A)) :
    Sort.pdq lt d a b lim wb wp = if A then d3 else if a > 0 && !lt d3[a - 1]! d3[pv]! then
      (match Sort.partitionEqual lt d3 a b pv with | (mid, d4) => if _h : a < mid ∧ mid ≤ b then Sort.pdq lt d4 mid b l1 wb wp else d4) else
      (match Sort.partition lt d3 a b pv with | (mid, ap, d4) => if _h : a ≤ mid ∧ mid < b then
        (if mid - a < b - mid then (Sort.pdq lt (Sort.pdq lt d4 a mid l1 true true) (mid + 1) b l1 (decide (mid - a ≥ (b - a) / 8)) ap) else (Sort.pdq lt (Sort.pdq lt d4 (mid + 1) b l1 true true) a mid l1 (decide (b - mid ≥ (b - a) / 8)) ap)) else d4) := by
  rw [Sort.pdq]
  simp only [if_neg h12, if_neg h0, hd1, hl1, hc, hd2, hpv, hH, hpi]
theorem pdq_eqs (he : Sort.partitionEqual lt d3 a b pv = (mid, d4)) (h1 : a < mid) (h2 : mid ≤ b) : (match Sort.partitionEqual lt d3 a b pv with | (mid, d4) => if _h : a < mid ∧ mid ≤ b then Sort.pdq lt d4 mid b l1 wb wp else d4) = Sort.pdq lt d4 mid b l1 wb wp := by
  rw [he]
  exact dif_pos ⟨h1, h2⟩
theorem pdq_parts (he : Sort.partition lt d3 a b pv = (mid, ap, d4)) (h1 : a ≤ mid) (h2 : mid < b) : (match Sort.partition lt d3 a b pv with | (mid, ap, d4) => if _h : a ≤ mid ∧ mid < b then
        (if mid - a < b - mid then (Sort.pdq lt (Sort.pdq lt d4 a mid l1 true true) (mid + 1) b l1 (decide (mid - a ≥ (b - a) / 8)) ap) else (Sort.pdq lt (Sort.pdq lt d4 (mid + 1) b l1 true true) a mid l1 (decide (b - mid ≥ (b - a) / 8)) ap)) else d4) = (if mid - a < b - mid then (Sort.pdq lt (Sort.pdq lt d4 a mid l1 true true) (mid + 1) b l1 (decide (mid - a ≥ (b - a) / 8)) ap) else (Sort.pdq lt (Sort.pdq lt d4 (mid + 1) b l1 true true) a mid l1 (decide (b - mid ≥ (b - a) / 8)) ap)) := by
  rw [he]
  exact dif_pos ⟨h1, h2⟩
theorem parteq_range (hap : a ≤ pv) (hpb : pv < b) (hb : b ≤ d.size) : a < (Sort.partitionEqual lt d a b pv).1 ∧ (Sort.partitionEqual lt d a b pv).1 ≤ b := by
  have h := Sort.partEqLoop_spec lt a b _ (a + 1) (b - 1) (Sort.swp d a pv) (Nat.le_refl _) (Nat.lt_succ_self a) (by omega) (by omega) (by rw [Sort.size_swp]; exact hb) (fun t h1 h2 => by omega) (fun t h1 h2 => by omega)
  exact ⟨h.1, h.2.1⟩
/-- Go's number of a hint. -/
def hintN : Sort.Hint → Int
  | .unknown => 0
  | .increasing => 1
  | .decreasing => 2
theorem choose_two (h : 12 < b - a) : ∃ X H, Sort.choosePivot lt d a b = (X, H) ∧ X = (rawP lt d a ((b - a) / 4) (b - a)).1 ∧ hintN H = hintZ (rawP lt d a ((b - a) / 4) (b - a)).2 ∧ a ≤ X ∧ X < b := by
  have hr := Sort.choosePivot_holds lt d a b (by omega)
  rw [choose_eq lt d a b (by omega)] at hr ⊢
  refine ⟨_, _, rfl, rfl, ?_, hr.1, hr.2⟩
  unfold hintZ
  split
  · rfl
  · split <;> rfl
end
set_option maxRecDepth 16000 in
set_option maxHeartbeats 16000000 in
theorem spdq_any {α : Type} [Inhabited α] {n g sf blk : Nat} {lb sb : Array Value} {lt : α → α → Bool} {S : World → Array α → Prop} (K : Srt n g sf lb sb lt blk S) (hSWO : Sort.SWO lt) : ∀ (m a b lim : Nat) (d : Array α) (w : World), b - a ≤ m → S w d → a ≤ b → b ≤ n → lim ≤ 1000 →
    Calls Tryz.prog 54 #[.agg #[.func (.func g) #[] lb, .func (.func sf) #[] sb], .int .i64 (a : Int), .int .i64 (b : Int), .int .i64 (lim : Int)] w fun e w' => e = .returned (.tuple #[]) ∧ S w' (Sort.pdq lt d a b lim true true) ∧ Turned [blk] w w' := by
  intro m
  induction m using Nat.strongRecOn with
  | _ m ih =>
  intro a b lim d w hm hS hab hb hlim
  have eg := K.enter
  have hn := K.few
  have hund := Tryz.underlying84
  have hsz : (Tryz.prog.info? 84).map (·.size) = some 2 := by kernel_rfl
  obtain ⟨R, hR⟩ : ∃ R, Sort.pdq lt d a b lim true true = R := ⟨_, rfl⟩
  rw [hR]
  replace hR : Aside (Sort.pdq lt d a b lim true true = R) := hR
  have h0 := Sr.begin (lv := .func (.func g) #[] lb) (sv := .func (.func sf) #[] sb) K hS 84
  go_enter Tryz.func54, Tryz.ntmps54
  go_wp2_with fail
  generalize w.alloc (.cells #[.func (.func g) #[] lb, .func (.func sf) #[] sb] 84) = W0 at *
  go_loopw [1, 2, 3, 8, 9] (fun t1 t2 t3 t8 t9 wr => ∃ (p q l : Nat) (wb wp : Bool) (dk : Array α), t1 = .int .i64 (p : Int) ∧ t2 = .int .i64 (q : Int) ∧ t3 = .int .i64 (l : Int) ∧ t8 = .bool wb ∧ t9 = .bool wp ∧ p ≤ q ∧ q ≤ n ∧ q - p ≤ m ∧ l ≤ 1000 ∧ Sr S blk w.heap.size (.func (.func g) #[] lb) (.func (.func sf) #[] sb) w wr dk ∧ Aside (Sort.pdq lt dk p q l wb wp = R)) (fun t1 t2 _ _ _ _ => (Go.RowKit.intOf t2 - Go.RowKit.intOf t1).toNat)
  case atStart => exact ⟨a, b, lim, true, true, d, rfl, rfl, rfl, rfl, rfl, hab, hb, hm, hlim, h0, hR⟩
  case round =>
    clear h0 hR hm hab hb hlim hS
    obtain ⟨p, q, l, wb, wp, dk, rfl, rfl, rfl, rfl, rfl, hpq, hqn, hm, hl, h, hO⟩ := hrel
    obtain ⟨z, hz⟩ : ∃ z, q - p = z := ⟨_, rfl⟩
    have ez : (q : Int) - (p : Int) = (z : Int) := by omega
    have hrr := h.box.range
    by_cases h12 : q - p ≤ 12
    · have hR2 := hO.out
      rw [Sort.pdq, if_pos h12] at hR2
      have i1 : (z : Int) ≤ 12 := by omega
      replace hR2 : Aside _ := hR2
      clear hO
      go_wp2_with (first | (refine wpList_load_row rfl _ rfl w.heap.size rfl [.func (.func g) #[] lb, .func (.func sf) #[] sb] hrr hund rfl hsz ?_) | (go_at_call 82; refine (sins_any K p q dk wr h.row hpq hqn).mono ?_; rintro e w1 ⟨rfl, hS1, hT1⟩))
      refine bodyPost_ret (results_none rfl _ _ _) rfl ?_
      exact ⟨rfl, by rw [← hR2.out]; exact hS1, h.turned.trans hT1⟩
    have i1 : ¬ (z : Int) ≤ 12 := by omega
    by_cases hl0 : l = 0
    · have hR2 := hO.out
      rw [Sort.pdq, if_neg h12, if_pos hl0] at hR2
      subst hl0
      replace hR2 : Aside _ := hR2
      clear hO
      go_wp2_with (first | (refine wpList_load_row rfl _ rfl w.heap.size rfl [.func (.func g) #[] lb, .func (.func sf) #[] sb] hrr hund rfl hsz ?_) | (go_at_call 83; refine (sheap_any K p q dk wr h.row (by omega) hqn).mono ?_; rintro e w1 ⟨rfl, hS1, hT1⟩))
      refine bodyPost_ret (results_none rfl _ _ _) rfl ?_
      exact ⟨rfl, by rw [← hR2.out]; exact hS1, h.turned.trans hT1⟩
    have i2 : ((l : Int) == 0) = false := by simp; omega
    obtain ⟨d1, hd1⟩ : ∃ d1, (if !wb then Sort.breakPatterns dk p q else dk) = d1 := ⟨_, rfl⟩
    obtain ⟨l1, hl1⟩ : ∃ l1, (if !wb then l - 1 else l) = l1 := ⟨_, rfl⟩
    have hl1n : l1 ≤ 1000 := by rw [← hl1]; split <;> omega
    obtain ⟨X, H, hc, hX, hHz, hpX, hXq⟩ := choose_two (lt := lt) (d := d1) (a := p) (b := q) (by omega)
    obtain ⟨d2, hd2⟩ : ∃ d2, (if H = .decreasing then Sort.reverseRange d1 p q else d1) = d2 := ⟨_, rfl⟩
    obtain ⟨pv, hpv⟩ : ∃ pv, (if H = .decreasing then (q - 1) - (X - p) else X) = pv := ⟨_, rfl⟩
    obtain ⟨H2, hH2⟩ : ∃ H2, (if H = .decreasing then Sort.Hint.increasing else H) = H2 := ⟨_, rfl⟩
    obtain ⟨⟨d3, A⟩, hpi⟩ : ∃ r, (if wb && wp && H2 = .increasing then Sort.partialInsertionSort lt d2 p q else (d2, false)) = r := ⟨_, rfl⟩
    have hO2 := hO.out
    rw [pdq_round h12 hl0 hd1 hl1 hc hd2 hpv hH2 hpi] at hO2
    replace hO2 : Aside _ := hO2
    have hpvr : p ≤ pv ∧ pv < q := by rw [← hpv]; split <;> omega
    replace hd1 : Aside _ := hd1
    replace hl1 : Aside _ := hl1
    replace hd2 : Aside _ := hd2
    replace hpv : Aside _ := hpv
    replace hH2 : Aside _ := hH2
    replace hpi : Aside _ := hpi
    replace hc : Aside _ := hc
    replace hz : Aside _ := hz
    clear hO
    go_upto_if 35 with fail
    clear i1 i2
    go_cut [3] from 19 to 129 (fun s3 wc => s3 = .int .i64 (l1 : Int) ∧ Sr S blk w.heap.size (.func (.func g) #[] lb) (.func (.func sf) #[] sb) w wc d1)
    case first =>
      cases wb
      · have e1 : Sort.breakPatterns dk p q = d1 := hd1.out
        have e2 : l - 1 = l1 := hl1.out
        subst e1 e2
        have e3 : ((l - 1 : Nat) : Int) = (l : Int) - 1 := by omega
        go_wp2_with (first | (refine wpList_load_row rfl _ rfl w.heap.size rfl [.func (.func g) #[] lb, .func (.func sf) #[] sb] hrr hund rfl hsz ?_) | (go_at_call 84; refine (K.brk wr dk p q h.row hpq hqn).mono ?_; rintro e w1 ⟨rfl, hS1, hT1⟩))
        go_meet
        exact ⟨by rw [e3], h.swapped hS1 hT1⟩
      · have e1 : dk = d1 := hd1.out
        have e2 : l = l1 := hl1.out
        subst e1 e2
        go_wp2_with fail
        go_meet
        exact ⟨rfl, h⟩
    case rest =>
    clear h hrr
    obtain ⟨rfl, h⟩ := hcut
    have hrr := h.box.range
    have kc := schoose_any K p q d1 wc h.row (by omega) hqn
    rw [← hX, ← hHz] at kc
    clear hX hHz hd1 hl1 hl0 hl
    go_wp2_with (first | (refine wpList_load_row rfl _ rfl w.heap.size rfl [.func (.func g) #[] lb, .func (.func sf) #[] sb] hrr hund rfl hsz ?_) | fail)
    refine kc.mono ?_
    rintro e w1 ⟨rfl, hS1, hB1⟩
    replace h := h.below K hB1
    clear hS1 hB1 kc hrr
    have hrr := h.box.range
    go_upto_if 50 with fail
    go_cut [11, 12] from 19 to 129 (fun s11 s12 wc => s11 = .int .i64 (pv : Int) ∧ s12 = .int .i64 (hintN H2) ∧ Sr S blk w.heap.size (.func (.func g) #[] lb) (.func (.func sf) #[] sb) w wc d2)
    case first =>
      cases H
      · have e1 := hd2.out
        have e2 := hpv.out
        have e3 := hH2.out
        rw [if_neg (by decide)] at e1 e2 e3
        subst e1 e2 e3
        unfold hintN
        go_wp2_with fail
        go_meet
        exact ⟨rfl, rfl, h⟩
      · have e1 := hd2.out
        have e2 := hpv.out
        have e3 := hH2.out
        rw [if_neg (by decide)] at e1 e2 e3
        subst e1 e2 e3
        unfold hintN
        go_wp2_with fail
        go_meet
        exact ⟨rfl, rfl, h⟩
      · have e1 := hd2.out
        have e2 := hpv.out
        have e3 := hH2.out
        rw [if_pos rfl] at e1 e2 e3
        subst e1 e2 e3
        have e4 : ((q - 1 - (X - p) : Nat) : Int) = (q : Int) - 1 - ((X : Int) - (p : Int)) := by omega
        unfold hintN
        go_wp2_with (first | (refine wpList_load_row rfl _ rfl w.heap.size rfl [.func (.func g) #[] lb, .func (.func sf) #[] sb] hrr hund rfl hsz ?_) | (go_at_call 86; refine (srev_any K p q d1 _ h.row (by omega) hqn).mono ?_; rintro e w2 ⟨rfl, hS1, hT1⟩))
        go_meet
        exact ⟨by rw [e4], rfl, h.swapped hS1 hT1⟩
    case rest =>
    clear h hrr
    obtain ⟨rfl, rfl, h⟩ := hcut
    have hrr := h.box.range
    clear hd2 hpv hH2 hc hpX hXq
    obtain ⟨c, hcc⟩ : ∃ c : Bool, (wb && wp && decide (H2 = .increasing)) = c := ⟨_, rfl⟩
    replace hcc : Aside _ := hcc
    have hpi2 : Aside ((if c = true then Sort.partialInsertionSort lt d2 p q else (d2, false)) = (d3, A)) := by
      have e1 := hpi.out
      have e2 := hcc.out
      show (if c = true then _ else _) = _
      rw [← e1, ← e2]
    clear hpi
    go_upto_region 16 with fail
    go_cut [68] from 61 to 129 (fun s68 wx => s68 = .bool c ∧ wx = wc)
    case first =>
      cases wb
      · have e1 : false = c := hcc.out
        subst e1
        go_wp2_with fail
        go_meet
        exact ⟨rfl, rfl⟩
      cases wp
      · have e1 : false = c := hcc.out
        subst e1
        go_wp2_with fail
        go_meet
        exact ⟨rfl, rfl⟩
      cases H2
      · have e1 : false = c := hcc.out
        subst e1
        unfold hintN
        go_wp2_with fail
        go_meet
        exact ⟨rfl, rfl⟩
      · have e1 : true = c := hcc.out
        subst e1
        unfold hintN
        go_wp2_with fail
        go_meet
        exact ⟨rfl, rfl⟩
      · have e1 : false = c := hcc.out
        subst e1
        unfold hintN
        go_wp2_with fail
        go_meet
        exact ⟨rfl, rfl⟩
    case rest =>
    obtain ⟨rfl, hwx⟩ := hcut
    rename_i wx
    obtain rfl := hwx.symm
    go_upto_if 68 with fail
    go_cut [] from 61 to 129 (fun wx => A = false ∧ Sr S blk w.heap.size (.func (.func g) #[] lb) (.func (.func sf) #[] sb) w wx d3)
    case first =>
      cases c
      · have e1 : (d2, false) = (d3, A) := hpi2.out
        obtain ⟨e2, e3⟩ := Prod.mk.inj e1
        subst e2 e3
        go_wp2_with fail
        go_meet
        exact ⟨trivial, h⟩
      · have e1 : Sort.partialInsertionSort lt d2 p q = (d3, A) := hpi2.out
        have kp := spartial_any K p q d2 wc h.row (by omega) hqn
        rw [e1] at kp
        cases A
        · go_wp2_with (first | (refine wpList_load_row rfl _ rfl w.heap.size rfl [.func (.func g) #[] lb, .func (.func sf) #[] sb] hrr hund rfl hsz ?_) | (go_at_call 87; refine kp.mono ?_; rintro e w2 ⟨rfl, hS1, hT1⟩))
          go_meet
          exact ⟨trivial, h.swapped hS1 hT1⟩
        · have e4 := hO2.out
          rw [if_pos rfl] at e4
          subst e4
          go_wp2_with (first | (refine wpList_load_row rfl _ rfl w.heap.size rfl [.func (.func g) #[] lb, .func (.func sf) #[] sb] hrr hund rfl hsz ?_) | (go_at_call 87; refine kp.mono ?_; rintro e w2 ⟨rfl, hS1, hT1⟩))
          refine bodyPost_ret (results_none rfl _ _ _) rfl ?_
          exact ⟨rfl, hS1, h.turned.trans hT1⟩
    case rest =>
    clear h hrr hpi2
    obtain ⟨rfl, h⟩ := hcut
    have hrr := h.box.range
    have c0 := h.c0
    have hO3 := hO2.out
    rw [if_neg (by decide)] at hO3
    clear hO2
    obtain ⟨c2, hc2⟩ : ∃ c2 : Bool, (decide (p > 0) && !lt d3[p - 1]! d3[pv]!) = c2 := ⟨_, rfl⟩
    rw [hc2] at hO3
    replace hO3 : Aside _ := hO3
    replace hc2 : Aside _ := hc2
    have hds := K.size h.row
    go_upto_region 18 with fail
    go_cut [83] from 61 to 129 (fun s83 wx => s83 = .bool c2 ∧ Sr S blk w.heap.size (.func (.func g) #[] lb) (.func (.func sf) #[] sb) w wx d3)
    case first =>
      by_cases hp0 : 0 < p
      · have i3 : (0 : Int) < (p : Int) := by omega
        have e1 := hc2.out
        rw [decide_eq_true (show p > 0 from hp0), Bool.true_and] at e1
        cases hl1 : lt d3[p - 1]! d3[pv]!
        · rw [hl1] at e1
          subst e1
          go_wp2_with (go_at_fn g; refine (K.lessAt (p - 1) pv (by omega) rfl (by omega) (by omega) h.row hl1).mono ?_; rintro e w2 ⟨rfl, hb1⟩; have h1 := h.below K hb1)
          go_meet
          exact ⟨rfl, h1⟩
        · rw [hl1] at e1
          subst e1
          go_wp2_with (go_at_fn g; refine (K.lessAt (p - 1) pv (by omega) rfl (by omega) (by omega) h.row hl1).mono ?_; rintro e w2 ⟨rfl, hb1⟩; have h1 := h.below K hb1)
          go_meet
          exact ⟨rfl, h1⟩
      · have i3 : ¬ (0 : Int) < (p : Int) := by omega
        have e1 := hc2.out
        rw [decide_eq_false (show ¬ p > 0 from hp0), Bool.false_and] at e1
        subst e1
        go_wp2_with fail
        go_meet
        exact ⟨rfl, h⟩
    case rest =>
    clear h hrr c0 hc2
    obtain ⟨rfl, h⟩ := hcut
    have hrr := h.box.range
    replace hO3 := hO3.out
    cases c2
    · rw [if_neg (by decide)] at hO3
      obtain ⟨⟨mid, ap, d4⟩, he⟩ : ∃ r, Sort.partition lt d3 p q pv = r := ⟨_, rfl⟩
      have hrg := Sort.partition_holds lt hSWO d3 p q pv hpvr.1 hpvr.2 (by omega)
      have kp := fun W (hW : S W d3) => spart_any K p q pv d3 W hW hpvr.1 hpvr.2 hqn
      rw [he] at hrg kp
      have hr1 : p ≤ mid := hrg.1
      have hr2 : mid < q := hrg.2.1
      replace hO3 := (pdq_parts (l1 := l1) he hr1 hr2).symm.trans hO3
      clear hrg he
      simp only at kp
      by_cases hlr : mid - p < q - mid
      · rw [if_pos hlr] at hO3
        have ed : decide (mid - p ≥ (q - p) / 8) = decide ((z : Int) / 8 ≤ (mid : Int) - (p : Int)) := decide_eq_decide.2 (by have := hz.out; omega)
        rw [ed] at hO3
        replace hO3 : Aside _ := hO3
        have i4 : (mid : Int) - (p : Int) < (q : Int) - (mid : Int) := by omega
        have e8 : (z : Int).tdiv 8 = (z : Int) / 8 := Int.tdiv_eq_ediv_of_nonneg (by omega)
        go_wp2_with (first | (refine wpList_load_row rfl _ rfl w.heap.size rfl [.func (.func g) #[] lb, .func (.func sf) #[] sb] hrr hund rfl hsz ?_) | fail)
        refine (kp _ h.row).mono ?_
        rintro e w2 ⟨rfl, hS2, hT2⟩
        have h2 := h.swapped hS2 hT2
        have hr2' := h2.box.range
        have kr := ih (mid - p) (by omega) p mid l1 d4 w2 (Nat.le_refl _) h2.row hr1 (by omega) hl1n
        clear kp hrr
        go_wp2_with (first | (refine wpList_load_row rfl _ rfl w.heap.size rfl [.func (.func g) #[] lb, .func (.func sf) #[] sb] hr2' hund rfl hsz ?_) | (go_at_call 54; refine kr.mono ?_; rintro e w3 ⟨rfl, hS3, hT3⟩))
        exact ⟨⟨mid + 1, q, l1, _, ap, _, by simp, rfl, rfl, rfl, rfl, by omega, hqn, by omega, hl1n, h2.swapped hS3 hT3, hO3⟩, by simp [Go.RowKit.intOf]; omega⟩
      · rw [if_neg hlr] at hO3
        have ed : decide (q - mid ≥ (q - p) / 8) = decide ((z : Int) / 8 ≤ (q : Int) - (mid : Int)) := decide_eq_decide.2 (by have := hz.out; omega)
        rw [ed] at hO3
        replace hO3 : Aside _ := hO3
        have i4 : ¬ (mid : Int) - (p : Int) < (q : Int) - (mid : Int) := by omega
        have e8 : (z : Int).tdiv 8 = (z : Int) / 8 := Int.tdiv_eq_ediv_of_nonneg (by omega)
        go_wp2_with (first | (refine wpList_load_row rfl _ rfl w.heap.size rfl [.func (.func g) #[] lb, .func (.func sf) #[] sb] hrr hund rfl hsz ?_) | fail)
        refine (kp _ h.row).mono ?_
        rintro e w2 ⟨rfl, hS2, hT2⟩
        have h2 := h.swapped hS2 hT2
        have hr2' := h2.box.range
        have kr := ih (q - (mid + 1)) (by omega) (mid + 1) q l1 d4 w2 (Nat.le_refl _) h2.row (by omega) hqn hl1n
        rw [show ((mid + 1 : Nat) : Int) = (mid : Int) + 1 by omega] at kr
        clear kp hrr
        go_wp2_with (first | (refine wpList_load_row rfl _ rfl w.heap.size rfl [.func (.func g) #[] lb, .func (.func sf) #[] sb] hr2' hund rfl hsz ?_) | (go_at_call 54; refine kr.mono ?_; rintro e w3 ⟨rfl, hS3, hT3⟩))
        exact ⟨⟨p, mid, l1, _, ap, _, rfl, rfl, rfl, rfl, rfl, hr1, by omega, by omega, hl1n, h2.swapped hS3 hT3, hO3⟩, by simp [Go.RowKit.intOf]; omega⟩
    · rw [if_pos rfl] at hO3
      obtain ⟨⟨mid, d4⟩, he⟩ : ∃ r, Sort.partitionEqual lt d3 p q pv = r := ⟨_, rfl⟩
      have hrg := parteq_range (lt := lt) (d := d3) hpvr.1 hpvr.2 (by omega)
      have kp := fun W (hW : S W d3) => sparteq_any K p q pv d3 W hW hpvr.1 hpvr.2 hqn
      rw [he] at hrg kp
      have hr1 : p < mid := hrg.1
      have hr2 : mid ≤ q := hrg.2
      replace hO3 := (pdq_eqs (l1 := l1) (wb := wb) (wp := wp) he hr1 hr2).symm.trans hO3
      replace hO3 : Aside _ := hO3
      clear hrg he
      simp only at kp
      go_wp2_with (first | (refine wpList_load_row rfl _ rfl w.heap.size rfl [.func (.func g) #[] lb, .func (.func sf) #[] sb] hrr hund rfl hsz ?_) | (go_at_call 88; refine (kp _ h.row).mono ?_; rintro e w2 ⟨rfl, hS2, hT2⟩))
      exact ⟨⟨mid, q, l1, wb, wp, d4, rfl, rfl, rfl, rfl, rfl, hr2, hqn, by omega, hl1n, h.swapped hS2 hT2, hO3⟩, by simp [Go.RowKit.intOf]; omega⟩
end Go.Proofs.YtohocomemkckeaaGreatDoor

/-! sort.Slice AT THIS PROGRAM: the library of contracts laid in plain words. -/
namespace Go.Proofs.YtohocomemkckeaaGreatDoor
open Go.RowKit Go.Shelf
def laysSlice_ren : Go.Shelf.Ren := ⟨fun | 6 => 27 | 10 => 50 | 11 => 51 | 12 => 52 | 13 => 53 | 14 => 54 | 24 => 80 | 25 => 81 | 26 => 82 | 27 => 83 | 28 => 84 | 29 => 85 | 30 => 86 | 31 => 87 | 32 => 88 | 33 => 89 | 34 => 93 | 35 => 94 | 36 => 95 | 37 => 96 | 38 => 97 | 39 => 104 | n => n, fun | 20 => 20 | 26 => 58 | 35 => 75 | 0 => 0 | 37 => 77 | 3 => 3 | 41 => 81 | 44 => 84 | 49 => 104 | 51 => 42 | 4 => 4 | 54 => 108 | 53 => 107 | 58 => 112 | 5 => 5 | 9 => 9 | 60 => 116 | 64 => 120 | 66 => 128 | 67 => 129 | 17 => 17 | 32 => 72 | 33 => 73 | 82 => 149 | 12 => 12 | 75 => 143 | 76 => 144 | 77 => 145 | 78 => 114 | 79 => 146 | 80 => 147 | n => n, fun | n => n⟩
theorem laysSlice : Go.Proofs.LaysGg.n6 Tryz.prog laysSlice_ren := {
  mixed := by kernel_rfl
  f6 := Tryz.func27.trans (congrArg some (by kernel_rfl))
  f10 := Tryz.func50.trans (congrArg some (by kernel_rfl))
  f11 := Tryz.func51.trans (congrArg some (by kernel_rfl))
  f12 := Tryz.func52.trans (congrArg some (by kernel_rfl))
  f13 := Tryz.func53.trans (congrArg some (by kernel_rfl))
  f14 := Tryz.func54.trans (congrArg some (by kernel_rfl))
  f24 := Tryz.func80.trans (congrArg some (by kernel_rfl))
  f25 := Tryz.func81.trans (congrArg some (by kernel_rfl))
  f26 := Tryz.func82.trans (congrArg some (by kernel_rfl))
  f27 := Tryz.func83.trans (congrArg some (by kernel_rfl))
  f28 := Tryz.func84.trans (congrArg some (by kernel_rfl))
  f29 := Tryz.func85.trans (congrArg some (by kernel_rfl))
  f30 := Tryz.func86.trans (congrArg some (by kernel_rfl))
  f31 := Tryz.func87.trans (congrArg some (by kernel_rfl))
  f32 := Tryz.func88.trans (congrArg some (by kernel_rfl))
  f33 := Tryz.func89.trans (congrArg some (by kernel_rfl))
  f34 := Tryz.func93.trans (congrArg some (by kernel_rfl))
  f35 := Tryz.func94.trans (congrArg some (by kernel_rfl))
  f36 := Tryz.func95.trans (congrArg some (by kernel_rfl))
  f37 := Tryz.func96.trans (congrArg some (by kernel_rfl))
  f38 := Tryz.func97.trans (congrArg some (by kernel_rfl))
  f39 := Tryz.func104.trans (congrArg some (by kernel_rfl))
  t0 := Tryz.underlying0
  a0 := Tryz.isAgg0
  z0 := Tryz.sizeOf0
  v0 := Tryz.zeroValue0
  i0 := by kernel_rfl
  t3 := Tryz.underlying3
  a3 := Tryz.isAgg3
  z3 := Tryz.sizeOf3
  v3 := Tryz.zeroValue3
  i3 := by kernel_rfl
  t4 := Tryz.underlying4
  a4 := Tryz.isAgg4
  z4 := Tryz.sizeOf4
  v4 := Tryz.zeroValue4
  i4 := by kernel_rfl
  t5 := Tryz.underlying5
  a5 := Tryz.isAgg5
  z5 := Tryz.sizeOf5
  v5 := Tryz.zeroValue5
  i5 := by kernel_rfl
  t9 := Tryz.underlying9
  a9 := Tryz.isAgg9
  z9 := Tryz.sizeOf9
  v9 := Tryz.zeroValue9
  i9 := by kernel_rfl
  t12 := Tryz.underlying12
  a12 := Tryz.isAgg12
  z12 := Tryz.sizeOf12
  v12 := Tryz.zeroValue12
  i12 := by kernel_rfl
  t17 := Tryz.underlying17
  a17 := Tryz.isAgg17
  z17 := Tryz.sizeOf17
  v17 := Tryz.zeroValue17
  i17 := by kernel_rfl
  t20 := Tryz.underlying20
  a20 := Tryz.isAgg20
  z20 := Tryz.sizeOf20
  v20 := Tryz.zeroValue20
  i20 := by kernel_rfl
  t26 := Tryz.underlying58
  a26 := Tryz.isAgg58
  z26 := Tryz.sizeOf58
  v26 := Tryz.zeroValue58
  i26 := by kernel_rfl
  t32 := Tryz.underlying72
  a32 := Tryz.isAgg72
  z32 := Tryz.sizeOf72
  v32 := Tryz.zeroValue72
  i32 := by kernel_rfl
  t33 := Tryz.underlying73
  a33 := Tryz.isAgg73
  z33 := Tryz.sizeOf73
  v33 := Tryz.zeroValue73
  i33 := by kernel_rfl
  t35 := Tryz.underlying75
  a35 := Tryz.isAgg75
  z35 := Tryz.sizeOf75
  v35 := Tryz.zeroValue75
  i35 := by kernel_rfl
  t37 := Tryz.underlying77
  a37 := Tryz.isAgg77
  z37 := Tryz.sizeOf77
  v37 := Tryz.zeroValue77
  i37 := by kernel_rfl
  t41 := Tryz.underlying81
  a41 := Tryz.isAgg81
  z41 := Tryz.sizeOf81
  v41 := Tryz.zeroValue81
  i41 := by kernel_rfl
  t44 := Tryz.underlying84
  a44 := Tryz.isAgg84
  z44 := Tryz.sizeOf84
  v44 := Tryz.zeroValue84
  i44 := by kernel_rfl
  t49 := Tryz.underlying104
  a49 := Tryz.isAgg104
  z49 := Tryz.sizeOf104
  v49 := Tryz.zeroValue104
  i49 := by kernel_rfl
  t51 := Tryz.underlying42
  a51 := Tryz.isAgg42
  z51 := Tryz.sizeOf42
  v51 := Tryz.zeroValue42
  i51 := by kernel_rfl
  t53 := Tryz.underlying107
  a53 := Tryz.isAgg107
  z53 := Tryz.sizeOf107
  v53 := Tryz.zeroValue107
  i53 := by kernel_rfl
  t54 := Tryz.underlying108
  a54 := Tryz.isAgg108
  z54 := Tryz.sizeOf108
  v54 := Tryz.zeroValue108
  i54 := by kernel_rfl
  t58 := Tryz.underlying112
  a58 := Tryz.isAgg112
  z58 := Tryz.sizeOf112
  v58 := Tryz.zeroValue112
  i58 := by kernel_rfl
  t60 := Tryz.underlying116
  a60 := Tryz.isAgg116
  z60 := Tryz.sizeOf116
  v60 := Tryz.zeroValue116
  i60 := by kernel_rfl
  t64 := Tryz.underlying120
  a64 := Tryz.isAgg120
  z64 := Tryz.sizeOf120
  v64 := Tryz.zeroValue120
  i64 := by kernel_rfl
  t66 := Tryz.underlying128
  a66 := Tryz.isAgg128
  z66 := Tryz.sizeOf128
  v66 := Tryz.zeroValue128
  i66 := by kernel_rfl
  t67 := Tryz.underlying129
  a67 := Tryz.isAgg129
  z67 := Tryz.sizeOf129
  v67 := Tryz.zeroValue129
  i67 := by kernel_rfl
  t75 := Tryz.underlying143
  a75 := Tryz.isAgg143
  z75 := Tryz.sizeOf143
  v75 := Tryz.zeroValue143
  i75 := by kernel_rfl
  t76 := Tryz.underlying144
  a76 := Tryz.isAgg144
  z76 := Tryz.sizeOf144
  v76 := Tryz.zeroValue144
  i76 := by kernel_rfl
  t77 := Tryz.underlying145
  a77 := Tryz.isAgg145
  z77 := Tryz.sizeOf145
  v77 := Tryz.zeroValue145
  i77 := by kernel_rfl
  t78 := Tryz.underlying114
  a78 := Tryz.isAgg114
  z78 := Tryz.sizeOf114
  v78 := Tryz.zeroValue114
  i78 := by kernel_rfl
  t79 := Tryz.underlying146
  a79 := Tryz.isAgg146
  z79 := Tryz.sizeOf146
  v79 := Tryz.zeroValue146
  i79 := by kernel_rfl
  t80 := Tryz.underlying147
  a80 := Tryz.isAgg147
  z80 := Tryz.sizeOf147
  v80 := Tryz.zeroValue147
  i80 := by kernel_rfl
  t82 := Tryz.underlying149
  a82 := Tryz.isAgg149
  z82 := Tryz.sizeOf149
  v82 := Tryz.zeroValue149
  i82 := by kernel_rfl }
end Go.Proofs.YtohocomemkckeaaGreatDoor

/-! ARGUMENTS OPENED, FOR WHATEVER TYPES: a struct's fields, a row of elements, each read by a reader of its own. -/
namespace Go.Proofs.YtohocomemkckeaaGreatDoor
open Go.ChangeShapes Go.WideShapes Go.ChangeAt Go.RowKit
set_option maxRecDepth 8000
set_option linter.unusedVariables false
set_option linter.unusedSimpArgs false

theorem own : ownKnob Tryz.prog.godebug = none := by kernel_rfl
theorem laidOut : laidOutB Tryz.prog = true := by kernel_rfl
theorem int_fits {n : Int} (h : (Lit.int .i64 n).wf = true) : -9223372036854775808 ≤ n ∧ n ≤ 9223372036854775807 := by
  simpa [Lit.wf, IntKind.min, IntKind.max, IntKind.bits, IntKind.signed] using h
theorem nat_u64 {n : Int} (h : (Lit.int .u64 n).wf = true) : ∃ k : Nat, n = (k : Int) ∧ k < 18446744073709551616 := by
  have : 0 ≤ n ∧ n ≤ 18446744073709551615 := by simpa [Lit.wf, IntKind.min, IntKind.max, IntKind.bits, IntKind.signed] using h
  exact ⟨n.toNat, by omega, by omega⟩
theorem nat_u8 {n : Int} (h : (Lit.int .u8 n).wf = true) : ∃ k : Nat, n = (k : Int) ∧ k < 256 := by
  have : 0 ≤ n ∧ n ≤ 255 := by simpa [Lit.wf, IntKind.min, IntKind.max, IntKind.bits, IntKind.signed] using h
  exact ⟨n.toNat, by omega, by omega⟩
section
variable {H : Type} {enc : TypeId × Value → H} {W : World} {base : Nat} {sp : Nat → Bool} {held : Bool}
/-- What a reading of a type tells of its cells. -/
def Reads (enc : TypeId × Value → H) (W : World) (base : Nat) (sp : Nat → Bool) (held : Bool) (t : TypeId) (p : List Value → Prop) : Prop := ∀ (n : Nat) (cs : List Value) (x : DataW H × List MemPlace), DataW.trod enc Tryz.prog W base sp held n t cs = some x → p cs
theorem reads_int {t : TypeId} {k : IntKind} (ht : Tryz.prog.underlying t = some (.int k)) : Reads enc W base sp held t fun cs => ∃ n, cs = [.int k n] ∧ (Lit.int k n).wf = true := fun n cs x h => by
  obtain ⟨m, rfl, _, hw⟩ := DataW.trod_int ht h
  exact ⟨m, rfl, hw⟩
theorem reads_bool {t : TypeId} (ht : Tryz.prog.underlying t = some .bool) : Reads enc W base sp held t fun cs => ∃ b, cs = [.bool b] := fun n cs x h => by
  obtain ⟨b, rfl, _⟩ := DataW.trod_bool ht h
  exact ⟨b, rfl⟩
theorem reads_string {t : TypeId} (ht : Tryz.prog.underlying t = some .string) : Reads enc W base sp held t fun cs => ∃ s : ByteArray, cs = [.string s] ∧ s.size ≤ 9223372036854775807 := fun n cs x h => by
  obtain ⟨s, rfl, _, hs⟩ := DataW.trod_string ht h
  exact ⟨s, rfl, by simpa [maxLen] using hs⟩
/-- A field of a struct. -/
theorem read_field {t ty : TypeId} {i off sz : Nat} {p : List Value → Prop} (ht : Tryz.prog.underlying t = some (.struct (Tryz.prog.fieldsOf t))) (hf : ((Tryz.prog.fieldsOf t)[i]?).map (fun f => (f.type, f.offset)) = some (ty, off)) (hc : Tryz.prog.cellsOf ty = sz) (hp : Reads enc W base sp held ty p) {n : Nat} {cs : List Value} {x : DataW H × List MemPlace} (h : DataW.trod enc Tryz.prog W base sp held n t cs = some x) : p ((cs.drop off).take sz) := by
  obtain ⟨xs, m, _, _, _, hlen, hg⟩ := DataW.trod_struct ht h
  cases hfi : (Tryz.prog.fieldsOf t)[i]? with
  | none => rw [hfi] at hf; cases hf
  | some f =>
    rw [hfi] at hf
    have e : (f.type, f.offset) = (ty, off) := by simpa using hf
    have e1 : f.type = ty := congrArg Prod.fst e
    have e2 : f.offset = off := congrArg Prod.snd e
    have hh := hg i f hfi
    have hi : i < xs.length := by
      have := (Array.getElem?_eq_some_iff.1 hfi).1
      omega
    rw [List.getElem?_eq_getElem hi, e1, e2, hc] at hh
    exact hp _ _ _ hh
theorem struct_len {t : TypeId} {sz : Nat} (ht : Tryz.prog.underlying t = some (.struct (Tryz.prog.fieldsOf t))) (hc : Tryz.prog.cellsOf t = sz) {n : Nat} {cs : List Value} {x : DataW H × List MemPlace} (h : DataW.trod enc Tryz.prog W base sp held n t cs = some x) : cs.length = sz := by
  obtain ⟨xs, m, _, _, hl, _⟩ := DataW.trod_struct ht h
  rw [hl, hc]
theorem pick_all {α : Type} {len : Nat} {p : Nat → α → Prop} (h : ∀ i, i < len → ∃ g, p i g) : ∃ l : List α, l.length = len ∧ ∀ j g, l[j]? = some g → p j g := by
  by_cases h0 : len = 0
  · subst h0
    exact ⟨[], rfl, fun j g q => by cases q⟩
  haveI : Inhabited α := ⟨(h 0 (by omega)).choose⟩
  have h' : ∀ i, ∃ g, i < len → p i g := fun i => by
    by_cases hi : i < len
    · obtain ⟨g, hg⟩ := h i hi; exact ⟨g, fun _ => hg⟩
    · exact ⟨default, fun k => absurd k hi⟩
  obtain ⟨f, hf⟩ := Classical.axiomOfChoice h'
  refine ⟨(List.range len).map f, by simp, fun j g hg => ?_⟩
  have hj : j < len := by
    have := (List.getElem?_eq_some_iff.1 hg).1
    simpa using this
  simp [List.getElem?_range hj] at hg
  subst hg
  exact hf j hj
/-- A row of elements. -/
theorem open_rows {α : Type} {t e : TypeId} {sz : Nat} {f : α → List Value} {q : α → Prop} (ht : Tryz.prog.underlying t = some (.slice e)) (hc : Tryz.prog.cellsOf e = sz) (hp : Reads enc W 0 (fun _ => true) true e fun cs => ∃ g, cs = f g ∧ q g) {n : Nat} {a : Option Addr} {len cap : Nat} {x : DataW H × List MemPlace} (h : DataW.trod enc Tryz.prog W 0 (fun _ => true) true n t [.slice a len cap] = some x) :
    ∃ l : List α, l.length = len ∧ (∀ j g, l[j]? = some g → ∃ y, a = some y ∧ (∀ i, i < sz → W.cell? (y.add (j * sz + i)) = (f g)[i]?)) ∧ (∀ g ∈ l, q g) ∧ (a = none → cap = 0) ∧ len ≤ cap ∧ cap ≤ 9223372036854775807 := by
  rcases Go.Deep.open_slice ht h with ⟨hcs, _⟩ | ⟨ad, l, c, m, n', Dd, Pl, hcs, _, hl, hm, hmm, _, hx⟩
  · simp at hcs
    obtain ⟨rfl, rfl, rfl⟩ := hcs
    exact ⟨[], rfl, fun j g hg => by simp at hg, by simp, fun _ => rfl, Nat.le_refl _, by omega⟩
  · simp at hcs
    obtain ⟨rfl, rfl, rfl⟩ := hcs
    simp only [if_true] at hmm
    have each : ∀ i, i < len → ∃ g : α, (∀ k, k < sz → W.cell? (ad.add (i * sz + k)) = (f g)[k]?) ∧ q g := fun i hi => by
      obtain ⟨cs', h2, h3⟩ := hx i (by omega)
      rw [hc] at h2
      obtain ⟨_, hlen, hcell⟩ := World.cells?_some h2
      obtain ⟨g, rfl, hq⟩ := hp _ _ _ h3
      refine ⟨g, fun k hk => ?_, hq⟩
      have e0 := hcell k (by omega)
      rw [Go.Deep.add_add] at e0
      rw [e0]
    obtain ⟨L, hL, hpp⟩ := pick_all each
    refine ⟨L, hL, fun j g hg => ⟨ad, rfl, (hpp j g hg).1⟩, fun g hg => ?_, fun h => (by cases h), hl, by simpa [maxLen] using hm⟩
    obtain ⟨j, hj, rfl⟩ := List.getElem_of_mem hg
    exact (hpp j L[j] (List.getElem?_eq_getElem hj)).2
end
end Go.Proofs.YtohocomemkckeaaGreatDoor

/-! STRUCTS THAT CAME IN, WHATEVER THEIR NUMBER OF CELLS; labels. For every stage from the tenth on. -/
namespace Go.Proofs.YtohocomemkckeaaGreatDoor
open Go.ChangeShapes Go.WideShapes Go.ChangeAt Go.RowKit
set_option maxRecDepth 8000
set_option linter.unusedVariables false
set_option linter.unusedSimpArgs false

def lcells (l : Lab) : List Value := [.int .i64 l.s, .int .i64 l.c, .int .i64 l.i, .int .i64 l.k]
def fitsI (n : Int) : Prop := -9223372036854775808 ≤ n ∧ n ≤ 9223372036854775807
def Lab.fits (l : Lab) : Prop := fitsI l.s ∧ fitsI l.c ∧ fitsI l.i ∧ fitsI l.k
theorem cInt : Tryz.prog.cellsOf 3 = 1 := by kernel_rfl
theorem cStr : Tryz.prog.cellsOf 9 = 1 := by kernel_rfl
theorem cBool : Tryz.prog.cellsOf 4 = 1 := by kernel_rfl
theorem cLab : Tryz.prog.cellsOf 28 = 4 := by kernel_rfl
/-- A struct as a parameter: its cells, and how they read. -/
theorem open_struct {H : Type} {enc : TypeId × Value → H} {W : World} {r : Reach} {b0 base : Nat} {sp : Nat → Bool} {held : Bool} {t : TypeId} {fs : Array Field} {v : Value} {d : DataW H} {p : List MemPlace} {q : List Value → Prop} (hs : Tryz.prog.underlying t = some (.struct fs)) (hq : Reads enc W base sp held t q)
    (hv : Value.okWide Tryz.prog W r b0 t v) (h : DataW.Trod enc Tryz.prog W base sp held t v d p) : ∃ cs : List Value, v = .agg cs.toArray ∧ q cs := by
  obtain ⟨cs, rfl, hsz⟩ := okWide_struct hs hv
  obtain ⟨fuel, hf⟩ := h
  exact ⟨cs.toList, by simp, hq fuel cs.toList (d, p) hf⟩
section
variable {H : Type} {enc : TypeId × Value → H} {W : World} {base : Nat} {sp : Nat → Bool} {held : Bool}
theorem reads_lab : Reads enc W base sp held 28 fun cs => ∃ l, cs = lcells l ∧ l.fits := fun n cs x h => by
  have hl := struct_len und cLab h
  obtain ⟨s, e0, w0⟩ := read_field (i := 0) (ty := 3) (off := 0) und (by kernel_rfl) cInt (reads_int Tryz.underlying3) h
  obtain ⟨c, e1, w1⟩ := read_field (i := 1) (ty := 3) (off := 1) und (by kernel_rfl) cInt (reads_int Tryz.underlying3) h
  obtain ⟨i, e2, w2⟩ := read_field (i := 2) (ty := 3) (off := 2) und (by kernel_rfl) cInt (reads_int Tryz.underlying3) h
  obtain ⟨k, e3, w3⟩ := read_field (i := 3) (ty := 3) (off := 3) und (by kernel_rfl) cInt (reads_int Tryz.underlying3) h
  match cs, hl with
  | [v0, v1, v2, v3], _ =>
    simp at e0 e1 e2 e3
    subst e0 e1 e2 e3
    exact ⟨⟨s, c, i, k⟩, rfl, int_fits w0, int_fits w1, int_fits w2, int_fits w3⟩
end
/-- A row within a struct. -/
theorem reads_rows {α : Type} {H : Type} {enc : TypeId × Value → H} {W : World} {t e : TypeId} {sz : Nat} {f : α → List Value} {q : α → Prop} (ht : Tryz.prog.underlying t = some (.slice e)) (hc : Tryz.prog.cellsOf e = sz) (hp : Reads enc W 0 (fun _ => true) true e fun cs => ∃ g, cs = f g ∧ q g) (hone : Tryz.prog.cellsOf t = 1) :
    Reads enc W 0 (fun _ => true) true t fun cs => ∃ (l : List α) (a : Option Addr) (cap : Nat), cs = [.slice a l.length cap] ∧ (∀ j g, l[j]? = some g → ∃ y, a = some y ∧ (∀ i, i < sz → W.cell? (y.add (j * sz + i)) = (f g)[i]?)) ∧ (∀ g ∈ l, q g) ∧ (a = none → cap = 0) ∧ l.length ≤ cap := fun n cs x h => by
  have h' := h
  rcases Go.Deep.open_slice ht h with ⟨hcs, _⟩ | ⟨ad, l, c', m, n', Dd, Pl, hcs, _⟩
  · subst hcs
    obtain ⟨L, hL, h1, h2, h3, h4, _⟩ := open_rows (f := f) (q := q) ht hc hp h'
    exact ⟨L, _, _, by rw [hL], h1, h2, h3, by omega⟩
  · subst hcs
    obtain ⟨L, hL, h1, h2, h3, h4, _⟩ := open_rows (f := f) (q := q) ht hc hp h'
    exact ⟨L, _, _, by rw [hL], h1, h2, h3, by omega⟩
end Go.Proofs.YtohocomemkckeaaGreatDoor

/-! sort.Slice OF LABELS by package label's Less, in the closure of audit.Seen (SrtLab, turned). -/
namespace Go.Proofs.YtohocomemkckeaaGreatDoor
open Go.RowKit Go.Shelf
set_option maxRecDepth 8000
set_option linter.unusedSimpArgs false
set_option linter.unusedVariables false

section
set_option linter.unusedSectionVars false
variable [Inhabited Lab]
theorem swo_less : Sort.SWO lessL where
  irrefl := less_irr
  trans := fun _ _ _ h k => lessL_trans h k
  ntrans := fun x y z h k => by
    cases hq : lessL x z
    · rfl
    · rcases less_tot y z with q | q | q
      · rw [q] at k; cases k
      · subst q; rw [hq] at h; cases h
      · have := lessL_trans hq q
        rw [this] at h; cases h
/-- In w the row in block g holds d, and the variable's box bs the slice over it. -/
structure RowS (g bs n c : Nat) (w : World) (d : Array Lab) : Prop where
  row : Sort.HoldsK lrow 4 w g 0 d
  size : d.size = n
  box : BlkL bs [.slice (some ⟨g, 0, none⟩) n c] w
  lt : g < w.heap.size
theorem holds_same {w w' : World} {g : Nat} {d : Array Lab} (h : Sort.HoldsK lrow 4 w g 0 d) (hb : w'.heap[g]? = w.heap[g]?) : Sort.HoldsK lrow 4 w' g 0 d := fun j hj => by
  have := h j hj
  refine ⟨?_, ?_⟩
  · rw [← this.1]
    exact World.cell?_of_block hb
  · rw [← this.2]
    exact World.frozen?_of_block hb
theorem RowS.same {g bs n c : Nat} {w w' : World} {d : Array Lab} (h : RowS g bs n c w d) (hb : ∀ k, k = g ∨ k = bs → w'.heap[k]? = w.heap[k]?) : RowS g bs n c w' d :=
  have lt1 : ∀ k, k < w.heap.size → w'.heap[k]? = w.heap[k]? → k < w'.heap.size := fun k hk e => by
    rw [Array.getElem?_eq_getElem hk] at e
    exact (Array.getElem?_eq_some_iff.1 e).1
  ⟨holds_same h.row (hb g (.inl rfl)), h.size, ⟨h.box.1.same (hb bs (.inr rfl)), lt1 bs h.box.2 (hb bs (.inr rfl))⟩, lt1 g h.lt (hb g (.inl rfl))⟩
theorem RowS.cells {g bs n c : Nat} {w : World} {d : Array Lab} (h : RowS g bs n c w d) {i : Nat} (hi : i < n) : CellsAt w ((⟨g, 0, none⟩ : Addr).add (i * 4)) (lab4 d[i]!) := fun j v hv => by
  have hj : j < 4 := (List.getElem?_eq_some_iff.1 hv).1
  have hc := (h.row.cell (i := i) (c := j) (by rw [h.size]; exact hi) hj).1
  have e1 : ((⟨g, 0, none⟩ : Addr).add (i * 4)).add j = ⟨g, 0 + i * 4 + j, none⟩ := by
    unfold Addr.add
    split <;> split <;> simp_all
  rw [e1, hc]
  have : (lrow d[i]!)[j]? = some v := hv
  simp [this]
theorem turned_put {w : World} {g m : Nat} {d : Array Lab} {os : Array Obj} : Turned [g] w (sortWorldK lrow 4 w g 0 m d os) := by
  refine ⟨rfl, rfl, rfl, ?_, fun k hk hn => ?_⟩
  · unfold sortWorldK
    simp [Sort.putRowK, Sort.putRow, Sort.mapBlock, Sort.ahead]
  · unfold sortWorldK
    have hne : ¬ g = k := fun e => hn (by simp [e])
    show (Array.modify w.heap g _ ++ os)[k]? = _
    rw [Array.getElem?_append_left (by simpa using hk), Array.getElem?_modify, if_neg hne]
theorem rows_put {g bs n c m : Nat} {w : World} {d d' : Array Lab} {os : Array Obj} (h : RowS g bs n c w d) (hne : bs ≠ g) (hs : d'.size = d.size) : RowS g bs n c (sortWorldK lrow 4 w g 0 m d' os) d' := by
  have ht : Turned [g] w (sortWorldK lrow 4 w g 0 m d' os) := turned_put
  exact ⟨holdsK_sortWorldK lrow 4 w g 0 m d d' os h.lt h.row hs, hs.trans h.size, ht.blk h.box (by simpa using hne), Nat.lt_of_lt_of_le h.lt ht.size⟩
theorem rows_swap {g bs n c : Nat} {w : World} {d : Array Lab} (h : RowS g bs n c w d) (hne : bs ≠ g) {i j : Nat} (hi : i < n) (hj : j < n) :
    RowS g bs n c ((w.setCells g (0 + i * 4) (lrow d[j]!)).setCells g (0 + j * 4) (lrow d[i]!)) (Sort.swp d i j) ∧ Turned [g] w ((w.setCells g (0 + i * 4) (lrow d[j]!)).setCells g (0 + j * 4) (lrow d[i]!)) := by
  have e1 := Sort.putRowK_swp lrow 4 (fun _ => rfl) w g 0 d i j (by rw [h.size]; exact hi) (by rw [h.size]; exact hj)
  rw [Sort.putRowK_self lrow 4 w g 0 d h.row] at e1
  have e2 : Sort.putRowK lrow 4 w g 0 (Sort.swp d i j) = sortWorldK lrow 4 w g 0 0 (Sort.swp d i j) #[] := by
    unfold sortWorldK
    rw [Sort.grow_empty]
    rfl
  rw [e1, e2]
  exact ⟨rows_put h hne (Sort.size_swp _ _ _), turned_put⟩
theorem lslice_load (w : World) (y : Addr) (v : Value) (h : w.cell? y = some v) : (Instr.loadAt 23 (.pointer (some y))).run Tryz.prog w = .ok v w := by
  have h1 := Tryz.underlying23
  go_simp
set_option maxRecDepth 8000 in
set_option maxHeartbeats 2000000 in
theorem allless_any {g bs n c : Nat} {w : World} {d : Array Lab} (h : RowS g bs n c w d) (hn : n < 1000000) {i j : Nat} (hi : i < n) (hj : j < n) :
    Calls Tryz.prog 28 #[.int .i64 (i : Int), .int .i64 (j : Int), .pointer (some ⟨bs, 0, none⟩)] w fun e w' => e = .returned (.bool (lessL d[i]! d[j]!)) ∧ Below w.heap.size w w' := by
  have hundL := Tryz.underlying28
  have hsl : (Tryz.prog.info? 28).map (·.size) = some 4 := by kernel_rfl
  have hci := h.cells hi
  have hcj := h.cells hj
  have kl := lless_any d[i]! d[j]!
  obtain ⟨R, hR⟩ : ∃ R, lessL d[i]! d[j]! = R := ⟨_, rfl⟩
  obtain ⟨x, hx⟩ : ∃ x, d[i]! = x := ⟨_, rfl⟩
  obtain ⟨y, hy⟩ : ∃ y, d[j]! = y := ⟨_, rfl⟩
  rw [hR] at kl ⊢
  rw [hx] at hci kl
  rw [hy] at hcj kl
  clear hR hx hy
  have i1 : (i : Int) < (n : Int) := by omega
  have j1 : (j : Int) < (n : Int) := by omega
  have hbx := h.box
  clear h
  generalize (⟨g, 0, none⟩ : Addr) = a0 at *
  have hS : (fun W => BlkL bs [.slice (some a0) n c] W ∧ CellsAt W (a0.add (i * 4)) (lab4 x) ∧ CellsAt W (a0.add (j * 4)) (lab4 y)) w.drew := ⟨hbx, hci, hcj⟩
  go_enter Tryz.func28, Tryz.ntmps28
  go_upto_region 1 with fail
  refine wp_region_held_drew (S := (fun W => BlkL bs [.slice (some a0) n c] W ∧ CellsAt W (a0.add (i * 4)) (lab4 x) ∧ CellsAt W (a0.add (j * 4)) (lab4 y))) (by kernel_rfl) (by first | exact hS1 | exact hS) ?_
  intro hHeld
  (first | (refine wpAnyH_take (i := 0) (v := _) (by simp only [gA, gB, gC]; rfl) (by kernel_rfl) (by kernel_rfl) (by kernel_rfl) (by exact fun _ _ _ h => h) (yields_oneG (by rfl) _ rfl ⟨bs, 0, none⟩ rfl (.slice (some a0) n c) (fun _ q => (q.1.1 0 _ rfl).1) lslice_load) (by assumption) ?_) | (refine wpAnyH_take (i := 0) (v := undef) (by simp only [gA, gB, gC]; rfl) (by kernel_rfl) (by kernel_rfl) (by kernel_rfl) (by exact fun _ _ _ h => h) (Or.inr ⟨by rfl, rfl⟩) (by assumption) ?_) | fail); simp only [Act.put, sA, sB, sC]
  (first | (refine wpAnyH_take (i := 1) (v := ?_) (by simp only [gA, gB, gC]; rfl) (by kernel_rfl) (by kernel_rfl) (by kernel_rfl) (by exact fun _ _ _ h => h) (Or.inl ⟨by rfl, ?_⟩) (by assumption) ?_; rotate_left; (focus (intro w hSw; (try dsimp only at hSw); go_simp; try with_reducible rfl))) | (refine wpAnyH_take (i := 1) (v := undef) (by simp only [gA, gB, gC]; rfl) (by kernel_rfl) (by kernel_rfl) (by kernel_rfl) (by exact fun _ _ _ h => h) (Or.inr ⟨by rfl, rfl⟩) (by assumption) ?_) | fail); simp only [Act.put, sA, sB, sC]
  (first | (refine wpAnyH_take (i := 2) (v := ?_) (by simp only [gA, gB, gC]; rfl) (by kernel_rfl) (by kernel_rfl) (by kernel_rfl) (by exact fun _ _ _ h => h) (Or.inl ⟨by rfl, ?_⟩) (by assumption) ?_; rotate_left; (focus (intro w hSw; (try dsimp only at hSw); go_simp; try with_reducible rfl))) | (refine wpAnyH_take (i := 2) (v := undef) (by simp only [gA, gB, gC]; rfl) (by kernel_rfl) (by kernel_rfl) (by kernel_rfl) (by exact fun _ _ _ h => h) (Or.inr ⟨by rfl, rfl⟩) (by assumption) ?_) | fail); simp only [Act.put, sA, sB, sC]
  (first | (refine wpAnyH_take (i := 3) (v := _) (by simp only [gA, gB, gC]; rfl) (by kernel_rfl) (by kernel_rfl) (by kernel_rfl) (by exact fun _ _ _ h => h) (yields_at (by rfl) _ rfl _ rfl (lab4 x) (fun _ q => q.2.1) hundL rfl hsl) (by assumption) ?_) | (refine wpAnyH_take (i := 3) (v := undef) (by simp only [gA, gB, gC]; rfl) (by kernel_rfl) (by kernel_rfl) (by kernel_rfl) (by exact fun _ _ _ h => h) (Or.inr ⟨by rfl, rfl⟩) (by assumption) ?_) | fail); simp only [Act.put, sA, sB, sC]
  (first | (refine wpAnyH_take (i := 4) (v := _) (by simp only [gA, gB, gC]; rfl) (by kernel_rfl) (by kernel_rfl) (by kernel_rfl) (by exact fun _ _ _ h => h) (yields_oneG (by rfl) _ rfl ⟨bs, 0, none⟩ rfl (.slice (some a0) n c) (fun _ q => (q.1.1 0 _ rfl).1) lslice_load) (by assumption) ?_) | (refine wpAnyH_take (i := 4) (v := undef) (by simp only [gA, gB, gC]; rfl) (by kernel_rfl) (by kernel_rfl) (by kernel_rfl) (by exact fun _ _ _ h => h) (Or.inr ⟨by rfl, rfl⟩) (by assumption) ?_) | fail); simp only [Act.put, sA, sB, sC]
  (first | (refine wpAnyH_take (i := 5) (v := ?_) (by simp only [gA, gB, gC]; rfl) (by kernel_rfl) (by kernel_rfl) (by kernel_rfl) (by exact fun _ _ _ h => h) (Or.inl ⟨by rfl, ?_⟩) (by assumption) ?_; rotate_left; (focus (intro w hSw; (try dsimp only at hSw); go_simp; try with_reducible rfl))) | (refine wpAnyH_take (i := 5) (v := undef) (by simp only [gA, gB, gC]; rfl) (by kernel_rfl) (by kernel_rfl) (by kernel_rfl) (by exact fun _ _ _ h => h) (Or.inr ⟨by rfl, rfl⟩) (by assumption) ?_) | fail); simp only [Act.put, sA, sB, sC]
  (first | (refine wpAnyH_take (i := 6) (v := ?_) (by simp only [gA, gB, gC]; rfl) (by kernel_rfl) (by kernel_rfl) (by kernel_rfl) (by exact fun _ _ _ h => h) (Or.inl ⟨by rfl, ?_⟩) (by assumption) ?_; rotate_left; (focus (intro w hSw; (try dsimp only at hSw); go_simp; try with_reducible rfl))) | (refine wpAnyH_take (i := 6) (v := undef) (by simp only [gA, gB, gC]; rfl) (by kernel_rfl) (by kernel_rfl) (by kernel_rfl) (by exact fun _ _ _ h => h) (Or.inr ⟨by rfl, rfl⟩) (by assumption) ?_) | fail); simp only [Act.put, sA, sB, sC]
  (first | (refine wpAnyH_take (i := 7) (v := _) (by simp only [gA, gB, gC]; rfl) (by kernel_rfl) (by kernel_rfl) (by kernel_rfl) (by exact fun _ _ _ h => h) (yields_at (by rfl) _ rfl _ rfl (lab4 y) (fun _ q => q.2.2) hundL rfl hsl) (by assumption) ?_) | (refine wpAnyH_take (i := 7) (v := undef) (by simp only [gA, gB, gC]; rfl) (by kernel_rfl) (by kernel_rfl) (by kernel_rfl) (by exact fun _ _ _ h => h) (Or.inr ⟨by rfl, rfl⟩) (by assumption) ?_) | fail); simp only [Act.put, sA, sB, sC]
  first | (refine wpAnyH_take (i := 8) (v := undef) (by simp only [gA, gB, gC]; rfl) (by kernel_rfl) (by kernel_rfl) (by kernel_rfl) (by exact fun _ _ _ h => h) (Or.inr ⟨by rfl, rfl⟩) (by assumption) ?_; simp only [Act.put, sA, sB, sC]) | (refine wpAnyH_ready (rs := [8]) (by kernel_rfl) (by simp) ?_; refine AllReadyH.cons (by simp only [gA, gB, gC]; rfl) (fun K hK => ?_) AllReadyH.nil; go_simp; (first | (go_at_call 29; refine (kl _).mono ?_; rintro e w1 ⟨rfl, hb1⟩; have hS1 : (fun W => BlkL bs [.slice (some a0) n c] W ∧ CellsAt W (a0.add (i * 4)) (lab4 x) ∧ CellsAt W (a0.add (j * 4)) (lab4 y)) w1 := ⟨stab_blk _ _ _ _ hS.1 hb1, hS.2.1.below hb1, hS.2.2.below hb1⟩)); refine hK.out _ _ (by first | exact hS1 | exact hS) ?_; clear hHeld hK; intro hHeld; (try simp only [Act.put, sA, sB, sC])) | fail
  (first | (refine wpAnyH_take (i := 9) (v := ?_) (by simp only [gA, gB, gC]; rfl) (by kernel_rfl) (by kernel_rfl) (by kernel_rfl) (by exact fun _ _ _ h => h) (Or.inl ⟨by rfl, ?_⟩) (by assumption) ?_; rotate_left; (focus (intro w hSw; (try dsimp only at hSw); go_simp; try with_reducible rfl))) | (refine wpAnyH_take (i := 9) (v := undef) (by simp only [gA, gB, gC]; rfl) (by kernel_rfl) (by kernel_rfl) (by kernel_rfl) (by exact fun _ _ _ h => h) (Or.inr ⟨by rfl, rfl⟩) (by assumption) ?_) | fail); simp only [Act.put, sA, sB, sC]
  refine wpAnyH_done (by kernel_rfl) ?_ _
  go_wp2_with fail
  go_ret
  exact ⟨rfl, Below.then (Below.refl w.heap.size w).drew hb1⟩
theorem lab_info : ∃ ie, Tryz.prog.info? 28 = some ie ∧ ie.hasPointers = false ∧ ie.bytes = 32 ∧ ie.size = 4 := by
  have h : (Tryz.prog.info? 28).map (fun i => (i.hasPointers, i.bytes, i.size)) = some (false, 32, 4) := by kernel_rfl
  cases he : Tryz.prog.info? 28 with
  | none => rw [he] at h; cases h
  | some i =>
    rw [he] at h
    simp at h
    exact ⟨i, rfl, h.1, h.2.1, h.2.2⟩
theorem labs_info : ∃ i, Tryz.prog.info? 23 = some i ∧ i.desc = .slice 28 := by
  have h : ((Tryz.prog.info? 23).map (fun i => match i.desc with | .slice e => some e | _ => none)) = some (some 28) := by kernel_rfl
  cases he : Tryz.prog.info? 23 with
  | none => rw [he] at h; cases h
  | some i =>
    rw [he] at h
    refine ⟨i, rfl, ?_⟩
    cases hd : i.desc <;> simp [hd] at h ⊢
    exact h
theorem lab_swapper {ie : TypeInfo} (h1 : ie.hasPointers = false) (h2 : ie.bytes = 32) (n : Nat) (hn : 2 ≤ n) (ke : Nat) : Lib.swapperK n ie ke = 9 := by
  have c : (n == 0) = false := by simp; omega
  have d : (n == 1) = false := by simp; omega
  simp [Lib.swapperK, h1, h2, c, d]
theorem lab_one (x : Lab) : ∀ v ∈ lrow x, v.oneCell' = true := fun v hv => by simp [lrow] at hv; rcases hv with rfl | rfl | rfl | rfl <;> rfl
theorem lays28 : LaysGg.n28 Tryz.prog laysSlice_ren := { laysSlice with }
theorem lbrk_any {g bs n c : Nat} {w : World} {d : Array Lab} (hne : bs ≠ g) (hn : n < 1000000) (h : RowS g bs n c w d) (a b : Nat) (hab : a ≤ b) (hb : b ≤ n) (lv : Array Value) (gf sf : Nat) (sb : Array Value) (hsw : SwapSwapsK Tryz.prog sf sb lrow 4 g 0 n) :
    Calls Tryz.prog 84 #[.agg #[.func (.func gf) #[] lv, .func (.func sf) #[] sb], .int .i64 (a : Int), .int .i64 (b : Int)] w fun e w' => e = .returned (.tuple #[]) ∧ RowS g bs n c w' (Sort.breakPatterns d a b) ∧ Turned [g] w w' := by
  have hb' : b ≤ d.size := by rw [h.size]; exact hb
  have hsw' : SwapSwapsK Tryz.prog sf sb lrow 4 g 0 d.size := by rw [h.size]; exact hsw
  have k := Any.breakPatterns_func_cells_w lays28 lrow 4 (fun _ => rfl) (.func gf) #[] lv sf sb g 0 a b d w hsw' h.row h.lt hab hb' (by rw [h.size]; omega)
  replace k : Calls Tryz.prog 84 _ _ _ := k
  refine k.mono ?_
  rintro e w' ⟨rfl, m, os, rfl⟩
  exact ⟨rfl, rows_put h hne (Sort.breakPatterns_holds d a b hab hb').1, turned_put⟩
theorem srt_lab {g bs n c B : Nat} (hne : bs ≠ g) (hgB : g < B) (hbB : bs < B) (hn : n < 1000000) : Srt n 28 79 #[.pointer (some ⟨bs, 0, none⟩)] #[.slice (some ⟨g, 0, none⟩) n c, typeHandle Tryz.prog 28] lessL g (fun w d => RowS g bs n c w d ∧ B ≤ w.heap.size) := by
  obtain ⟨ie, hie, hp, hb, hs⟩ := lab_info
  have hsw := swapSwapsK_of_literal (P := Tryz.prog) false 79 (fun args W => run_callFunc_extern Tryz.func79 (by kernel_rfl) (by kernel_rfl) (by kernel_rfl) (e := Extern.ReflectliteSwapper.swap false) (by kernel_rfl) args W) 28 ie hie lrow 4 (fun _ => rfl) hs (fun _ => by kernel_rfl) lab_one g 0 n c
  refine ⟨enters_of Tryz.func28 (by kernel_rfl) rfl, fun w d i j h hi hj => allless_any h.1 hn hi hj, fun w d i j h hi hj => ?_, fun {w w' d} h hb => ⟨h.1.same fun k hk => hb.block k ?_, Nat.le_trans h.2 hb.size⟩, fun h => h.1.lt, fun h => h.1.size, hn, fun w d a b h hab hb => ?_, ⟨B, fun h => h.2, fun {w w' d} h hk => ⟨h.1.same fun k hq => hk k ?_, ?_⟩⟩⟩
  · have h1 := rows_swap h.1 hne hi hj
    exact ⟨_, hsw w d h.1.row h.1.size i j hi hj, ⟨h1.1, Nat.le_trans h.2 h1.2.size⟩, h1.2⟩
  · have h1 := h.1.lt
    have h2 := h.1.box.2
    omega
  · refine (lbrk_any hne hn h.1 a b hab hb _ _ _ _ hsw).mono ?_
    rintro e w' ⟨rfl, h1, ht⟩
    exact ⟨rfl, ⟨h1, Nat.le_trans h.2 ht.size⟩, ht⟩
  · omega
  · have h1 : B - 1 < w.heap.size := by have := h.2; omega
    have h2 := hk (B - 1) (by omega)
    rw [Array.getElem?_eq_getElem h1] at h2
    have := (Array.getElem?_eq_some_iff.1 h2).1
    omega
end
set_option maxRecDepth 8000 in
set_option maxHeartbeats 2000000 in
theorem lsort_any (v : Value) (xs : List Lab) (bs base : Nat) (w : World) (ho : OwnR 28 4 lrow w base v xs) (hb : BlkL bs [v] w) (hbs : some bs ≠ v.ownBlock) (hl : xs.length ≤ 1000) :
    Calls Tryz.prog 27 #[.iface 23 v, .func (.func 28) #[] #[.pointer (some ⟨bs, 0, none⟩)]] w fun e w' => e = .returned (.tuple #[]) ∧ ∃ ys a c, ys.Perm xs ∧ SortL ys ∧ v = .slice a ys.length c ∧ RowAt 4 lrow w' a ys ∧ Turned v.ownBlock.toList w w' := by
  haveI : Inhabited Lab := ⟨⟨0, 0, 0, 0⟩⟩
  obtain ⟨ie, hie, hp, hby, hsz⟩ := lab_info
  obtain ⟨it, hit, hid⟩ := labs_info
  by_cases h1 : xs.length ≤ 1
  · obtain ⟨a, c, hv, -, -, hr⟩ := OwnR.slice lab_ok.len ho
    have hs : SortL xs := by
      match xs, h1 with
      | [], _ => exact List.Pairwise.nil
      | [x], _ => exact List.pairwise_singleton _ _
    obtain ⟨f, hf⟩ : ∃ f, Tryz.prog.funcs.findIdx? (·.name == "internal/reflectlite" ++ ".Swapper$" ++ toString (Lib.swapperK xs.length ie 25)) = some f := by
      rcases (show xs.length = 0 ∨ xs.length = 1 by omega) with q | q
      · exact ⟨71, by rw [q]; simp only [Lib.swapperK]; kernel_rfl⟩
      · exact ⟨72, by rw [q]; simp only [Lib.swapperK]; kernel_rfl⟩
    have k := Any.sort_Slice_tiny laysSlice 23 28 it ie hit hid (by kernel_rfl) hie 25 (fun _ => by kernel_rfl) a xs.length c h1 f hf (.func 28) #[] #[.pointer (some ⟨bs, 0, none⟩)] w
    replace k : Calls Tryz.prog 27 _ _ _ := k
    rw [← hv] at k
    refine k.mono ?_
    rintro e w' ⟨rfl, os, rfl⟩
    have hB : Below w.heap.size w (Sort.grow w os) := ⟨rfl, rfl, rfl, by simp [Sort.grow], fun k hk => by simp [Sort.grow, Array.getElem?_append_left hk]⟩
    exact ⟨rfl, xs, a, c, List.Perm.refl _, hs, hv, hr.below lab_ok.len hB, turned_below hB⟩
  · obtain ⟨g, c, rfl, hgl, hrow⟩ : ∃ g c, v = .slice (some ⟨g, 0, none⟩) xs.length c ∧ g < w.heap.size ∧ Sort.HoldsK lrow 4 w g 0 xs.toArray := by
      rcases ho.2 with ⟨-, h2⟩ | ⟨g, cap, cur, hv, -, hh, -⟩
      · omega
      · refine ⟨g, cap, hv, (Array.getElem?_eq_some_iff.1 hh).1, fun j hj => ?_⟩
        have ho' := ho
        rw [hv] at ho'
        have hj' : j < xs.length * 4 := by simpa using hj
        obtain ⟨a1, c1, hv1, -, -, hr1⟩ := OwnR.slice lab_ok.len ho'
        obtain ⟨rfl, rfl⟩ : some ⟨g, 0, none⟩ = a1 ∧ cap = c1 := by
          injection hv1 with q1 q2 q3
          exact ⟨q1, q3⟩
        obtain ⟨x, hx⟩ : ∃ x, xs[j / 4]? = some x := ⟨_, List.getElem?_eq_getElem (by omega)⟩
        obtain ⟨y, hy, hcy⟩ := hr1 (j / 4) x hx
        obtain rfl := Option.some.inj hy
        have hc := hcy (j % 4) (Nat.mod_lt _ (by decide))
        rw [show j / 4 * 4 + j % 4 = j by omega] at hc
        have ea : (⟨g, 0, none⟩ : Addr).add j = ⟨g, 0 + j, none⟩ := by
          unfold Addr.add
          split <;> simp_all
        have e4 : (lrow x)[j % 4]? = some (lrow x)[j % 4]! := by
          have h4 : j % 4 < (lrow x).length := Nat.mod_lt _ (by decide)
          rw [List.getElem?_eq_getElem h4, getElem!_pos (lrow x) (j % 4) h4]
        have ex : xs.toArray[j / 4]! = x := by
          rw [Array.getElem!_eq_getD, Array.getD_eq_getD_getElem?]
          simp [hx]
        have c2 := World.ownsRow.frozenAt (show w.ownsRow base 28 4 (.slice (some ⟨g, 0, none⟩) xs.length cap) xs.length (xs.flatMap lrow) from ho') j
        rw [Nat.zero_add] at ea ⊢
        refine ⟨?_, c2⟩
        rw [← ea, hc, e4, Sort.get_flatK lrow 4 xs.toArray j (by simpa using hj'), ex]
        rfl
    have hbs' : bs ≠ g := fun e => hbs (by rw [e]; rfl)
    obtain ⟨n, hn⟩ : ∃ n, xs.length = n := ⟨_, rfl⟩
    rw [hn] at hb h1 hl ⊢
    have h2 : 2 ≤ n := by omega
    have hn9 := lab_swapper hp hby n h2 25
    have hB : sliceBound Tryz.prog 28 ie 25 (some ⟨g, 0, none⟩) n c = #[.slice (some ⟨g, 0, none⟩) n c, typeHandle Tryz.prog 28] := by
      unfold sliceBound
      rw [if_neg (swapperK_gt _ _ _ h2)]
    have hrs : RowS g bs n c w xs.toArray := ⟨hrow, by simpa using hn, hb, hgl⟩
    have hBw : Below w.heap.size w (sliceWorld Tryz.prog laysSlice_ren 23 (some ⟨g, 0, none⟩) n c w) := by
      unfold sliceWorld
      exact below2 w _ _
    have hrs1 := hrs.same (w' := sliceWorld Tryz.prog laysSlice_ren 23 (some ⟨g, 0, none⟩) n c w) fun k hk => hBw.block k (by
      have h3 := hrs.lt
      have h4 := hrs.box.2
      omega)
    have K := srt_lab (g := g) (bs := bs) (n := n) (c := c) (B := w.heap.size) hbs' hgl hb.2 (by omega)
    have hlim : Lib.bitLen n ≤ 1000 := Nat.le_trans (Lib.bitLen_le n 62 (by omega) (by omega)) (by decide)
    have kp := spdq_any K swo_less n 0 n (Lib.bitLen n) xs.toArray _ (by omega) ⟨hrs1, hBw.size⟩ (by omega) (Nat.le_refl _) hlim
    have k := Any.sort_Slice_of_pdq laysSlice 23 28 it ie hit hid (by kernel_rfl) hie 25 (fun _ => by kernel_rfl) (some ⟨g, 0, none⟩) n c (by omega) 79 (by rw [hn9]; kernel_rfl) (.func 28) #[] #[.pointer (some ⟨bs, 0, none⟩)] w
      (fun w' => RowS g bs n c w' (Sort.pdq lessL xs.toArray 0 n (Lib.bitLen n) true true) ∧ Turned [g] w w') (by
        rw [hB]
        refine Calls.mono (show Calls Tryz.prog 54 _ _ _ from kp) ?_
        rintro e w' ⟨he, hS, hT⟩
        exact ⟨he, hS.1, (turned_below hBw).trans hT⟩)
    replace k : Calls Tryz.prog 27 _ _ _ := k
    refine k.mono ?_
    rintro e w' ⟨rfl, hR, hT⟩
    have hps := Sort.pdq_sorts lessL swo_less xs.toArray 0 n (Lib.bitLen n) true true (Nat.zero_le _) (by simp; omega) (Or.inl rfl)
    generalize Sort.pdq lessL xs.toArray 0 n (Lib.bitLen n) true true = d at hR hps
    obtain ⟨⟨hz, -, hpm⟩, hso⟩ := hps
    have hdn : d.size = n := hR.size
    have hyl : d.toList.length = n := by simpa using hdn
    refine ⟨rfl, d.toList, some ⟨g, 0, none⟩, c, ?_, ?_, by rw [hyl], ?_, hT⟩
    · have e1 : (d.extract 0 n).toList = d.toList := by rw [← hdn]; simp
      have e2 : (xs.toArray.extract 0 n).toList = xs := by rw [← hn]; simp
      rw [e1, e2] at hpm
      exact hpm
    · refine List.pairwise_iff_getElem.2 fun i j hi hj hij => ?_
      have := hso i j (Nat.zero_le _) hij (by omega)
      rw [getElem!_pos d i (by simpa using hi), getElem!_pos d j (by simpa using hj)] at this
      simpa using this
    · intro j x hx
      refine ⟨_, rfl, fun i hi => ?_⟩
      have hj : j < n := by have := (List.getElem?_eq_some_iff.1 hx).1; omega
      have hxx : d[j]! = x := by
        rw [getElem!_pos d j (by omega)]
        have := (List.getElem?_eq_some_iff.1 hx).2
        simpa using this
      have hc := (hR.row.cell (i := j) (c := i) (by omega) hi).1
      rw [hxx] at hc
      have ea : (⟨g, 0, none⟩ : Addr).add (j * 4 + i) = ⟨g, 0 + j * 4 + i, none⟩ := by
        unfold Addr.add
        split <;> simp_all
      have e4 : (lrow x)[i]? = some (lrow x)[i]! := by
        have h4 : i < (lrow x).length := hi
        rw [List.getElem?_eq_getElem h4, getElem!_pos (lrow x) i h4]
      rw [ea, hc, e4]
end Go.Proofs.YtohocomemkckeaaGreatDoor

/-! strconv.Itoa AND strings.Join AT THIS PROGRAM: the library of contracts laid in plain words, and the calls. -/
namespace Go.Proofs.YtohocomemkckeaaGreatDoor
open Go.RowKit Go.Shelf
def laysItoa_ren : Go.Shelf.Ren := ⟨fun | 171 => 38 | 243 => 64 | 246 => 92 | 283 => 100 | 284 => 101 | 285 => 102 | 286 => 103 | 129 => 81 | 317 => 105 | 318 => 106 | 319 => 107 | 320 => 108 | 337 => 109 | 338 => 110 | n => n, fun | 3 => 3 | 9 => 9 | 2 => 2 | 4 => 4 | 171 => 124 | 0 => 0 | 53 => 42 | 37 => 61 | 5 => 5 | 173 => 126 | 212 => 133 | 51 => 104 | 20 => 20 | 213 => 134 | 46 => 81 | 232 => 136 | 233 => 137 | n => n, fun | 17 => 2 | 18 => 3 | 19 => 4 | n => n⟩
theorem laysItoa : Go.Proofs.LaysM.n171 Tryz.prog laysItoa_ren := {
  mixed := by kernel_rfl
  f129 := Tryz.func81.trans (congrArg some (by kernel_rfl))
  f171 := Tryz.func38.trans (congrArg some (by kernel_rfl))
  f243 := Tryz.func64.trans (congrArg some (by kernel_rfl))
  f246 := Tryz.func92.trans (congrArg some (by kernel_rfl))
  f283 := Tryz.func100.trans (congrArg some (by kernel_rfl))
  f284 := Tryz.func101.trans (congrArg some (by kernel_rfl))
  f285 := Tryz.func102.trans (congrArg some (by kernel_rfl))
  f286 := Tryz.func103.trans (congrArg some (by kernel_rfl))
  f317 := Tryz.func105.trans (congrArg some (by kernel_rfl))
  f318 := Tryz.func106.trans (congrArg some (by kernel_rfl))
  f319 := Tryz.func107.trans (congrArg some (by kernel_rfl))
  f320 := Tryz.func108.trans (congrArg some (by kernel_rfl))
  f337 := Tryz.func109.trans (congrArg some (by kernel_rfl))
  f338 := Tryz.func110.trans (congrArg some (by kernel_rfl))
  t0 := Tryz.underlying0
  a0 := Tryz.isAgg0
  z0 := Tryz.sizeOf0
  v0 := Tryz.zeroValue0
  t2 := Tryz.underlying2
  a2 := Tryz.isAgg2
  z2 := Tryz.sizeOf2
  v2 := Tryz.zeroValue2
  t3 := Tryz.underlying3
  a3 := Tryz.isAgg3
  z3 := Tryz.sizeOf3
  v3 := Tryz.zeroValue3
  t4 := Tryz.underlying4
  a4 := Tryz.isAgg4
  z4 := Tryz.sizeOf4
  v4 := Tryz.zeroValue4
  t5 := Tryz.underlying5
  a5 := Tryz.isAgg5
  z5 := Tryz.sizeOf5
  v5 := Tryz.zeroValue5
  t9 := Tryz.underlying9
  a9 := Tryz.isAgg9
  z9 := Tryz.sizeOf9
  v9 := Tryz.zeroValue9
  t20 := Tryz.underlying20
  a20 := Tryz.isAgg20
  z20 := Tryz.sizeOf20
  v20 := Tryz.zeroValue20
  t37 := Tryz.underlying61
  a37 := Tryz.isAgg61
  z37 := Tryz.sizeOf61
  v37 := Tryz.zeroValue61
  t46 := Tryz.underlying81
  a46 := Tryz.isAgg81
  z46 := Tryz.sizeOf81
  v46 := Tryz.zeroValue81
  t51 := Tryz.underlying104
  a51 := Tryz.isAgg104
  z51 := Tryz.sizeOf104
  v51 := Tryz.zeroValue104
  t53 := Tryz.underlying42
  a53 := Tryz.isAgg42
  z53 := Tryz.sizeOf42
  v53 := Tryz.zeroValue42
  t171 := Tryz.underlying124
  a171 := Tryz.isAgg124
  z171 := Tryz.sizeOf124
  v171 := Tryz.zeroValue124
  t173 := Tryz.underlying126
  a173 := Tryz.isAgg126
  z173 := Tryz.sizeOf126
  v173 := Tryz.zeroValue126
  t212 := Tryz.underlying133
  a212 := Tryz.isAgg133
  z212 := Tryz.sizeOf133
  v212 := Tryz.zeroValue133
  t213 := Tryz.underlying134
  a213 := Tryz.isAgg134
  z213 := Tryz.sizeOf134
  t232 := Tryz.underlying136
  a232 := Tryz.isAgg136
  z232 := Tryz.sizeOf136
  v232 := Tryz.zeroValue136
  t233 := Tryz.underlying137
  a233 := Tryz.isAgg137
  z233 := Tryz.sizeOf137
  v233 := Tryz.zeroValue137
  g17 := by kernel_rfl
  g18 := by kernel_rfl
  g19 := by kernel_rfl
  i0 := by kernel_rfl
  i2 := by kernel_rfl
  i3 := by kernel_rfl
  i4 := by kernel_rfl
  i5 := by kernel_rfl
  i9 := by kernel_rfl
  i20 := by kernel_rfl
  i37 := by kernel_rfl
  i46 := by kernel_rfl
  i51 := by kernel_rfl
  i53 := by kernel_rfl
  i171 := by kernel_rfl
  i173 := by kernel_rfl
  i212 := by kernel_rfl
  i232 := by kernel_rfl
  i233 := by kernel_rfl
  m17 := by kernel_rfl
  m18 := by kernel_rfl
  m19 := by kernel_rfl }
def laysJoin_ren : Go.Shelf.Ren := ⟨fun | 156 => 37 | 165 => 61 | 166 => 62 | 169 => 63 | 240 => 90 | 241 => 91 | 276 => 98 | 277 => 99 | n => n, fun | 31 => 68 | 9 => 9 | 3 => 3 | 4 => 4 | 0 => 0 | 20 => 20 | 72 => 91 | 76 => 95 | 70 => 89 | 37 => 61 | 75 => 94 | 127 => 114 | 164 => 72 | 5 => 5 | 80 => 67 | n => n, fun | n => n⟩
theorem laysJoin : Go.Proofs.Lays.n156 Tryz.prog laysJoin_ren := {
  mixed := by kernel_rfl
  f156 := Tryz.func37.trans (congrArg some (by kernel_rfl))
  f165 := Tryz.func61.trans (congrArg some (by kernel_rfl))
  f166 := Tryz.func62.trans (congrArg some (by kernel_rfl))
  f169 := Tryz.func63.trans (congrArg some (by kernel_rfl))
  f240 := Tryz.func90.trans (congrArg some (by kernel_rfl))
  f241 := Tryz.func91.trans (congrArg some (by kernel_rfl))
  f276 := Tryz.func98.trans (congrArg some (by kernel_rfl))
  f277 := Tryz.func99.trans (congrArg some (by kernel_rfl))
  t0 := Tryz.underlying0
  a0 := Tryz.isAgg0
  z0 := Tryz.sizeOf0
  v0 := Tryz.zeroValue0
  t3 := Tryz.underlying3
  a3 := Tryz.isAgg3
  z3 := Tryz.sizeOf3
  v3 := Tryz.zeroValue3
  t4 := Tryz.underlying4
  a4 := Tryz.isAgg4
  z4 := Tryz.sizeOf4
  v4 := Tryz.zeroValue4
  t9 := Tryz.underlying9
  a9 := Tryz.isAgg9
  z9 := Tryz.sizeOf9
  v9 := Tryz.zeroValue9
  t20 := Tryz.underlying20
  a20 := Tryz.isAgg20
  z20 := Tryz.sizeOf20
  v20 := Tryz.zeroValue20
  t31 := Tryz.underlying68
  a31 := Tryz.isAgg68
  z31 := Tryz.sizeOf68
  v31 := Tryz.zeroValue68
  t37 := Tryz.underlying61
  a37 := Tryz.isAgg61
  z37 := Tryz.sizeOf61
  v37 := Tryz.zeroValue61
  t70 := Tryz.underlying89
  a70 := Tryz.isAgg89
  z70 := Tryz.sizeOf89
  v70 := Tryz.zeroValue89
  t72 := Tryz.underlying91
  a72 := Tryz.isAgg91
  z72 := Tryz.sizeOf91
  v72 := Tryz.zeroValue91
  t75 := Tryz.underlying94
  a75 := Tryz.isAgg94
  z75 := Tryz.sizeOf94
  v75 := Tryz.zeroValue94
  t76 := Tryz.underlying95
  a76 := Tryz.isAgg95
  z76 := Tryz.sizeOf95
  v76 := Tryz.zeroValue95
  t127 := Tryz.underlying114
  a127 := Tryz.isAgg114
  z127 := Tryz.sizeOf114
  v127 := Tryz.zeroValue114
  t164 := Tryz.underlying72
  a164 := Tryz.isAgg72
  z164 := Tryz.sizeOf72
  v164 := Tryz.zeroValue72 }

theorem itoa_any (n : Int) (h0 : -9223372036854775808 ≤ n) (h1 : n ≤ 9223372036854775807) (w : World) (htab : Lib.TabIs Tryz.prog w "internal/strconv.uint64pow10" .u64 Lib.pow10Tab) :
    Calls Tryz.prog 38 #[.int .i64 n] w fun e w' => e = .returned (.string ⟨(Lib.itoa n).toArray⟩) ∧ Below w.heap.size w w' :=
  (Any.strconv_Itoa laysItoa n h0 h1 w htab).mono fun _ _ ⟨he, _, _, hw⟩ => ⟨he, hw ▸ Lib.below_grow _ _ (Nat.le_refl _) _ _⟩
theorem joinX : Builder.Extra Tryz.prog laysJoin_ren where
  sizeBuilder := by kernel_rfl
  liesBuilder := by kernel_rfl
  t5 := Tryz.underlying5
  a5 := Tryz.isAgg5
  z5 := Tryz.sizeOf5
  v5 := Tryz.zeroValue5
  infoByte := by kernel_rfl
  cellsByte := by kernel_rfl
  sizeByte := by kernel_rfl
  neB5 := by decide
theorem join_any (bk o c : Nat) (xs : List ByteArray) (sep : ByteArray) (w : World) (hcells : ∀ (j : Nat) x, xs[j]? = some x → w.cell? ⟨bk, o + j, none⟩ = some (.string x)) (hbk : bk < w.heap.size) (hN : xs.length ≤ 140737488355328) (hcap : xs.length ≤ c) (hlen : (Lib.join (xs.map (·.data.toList)) sep.data.toList).length ≤ 140737488355328) :
    Calls Tryz.prog 37 #[.slice (some ⟨bk, o, none⟩) xs.length c, .string sep] w fun e w' => e = .returned (.string ⟨(Lib.join (xs.map (·.data.toList)) sep.data.toList).toArray⟩) ∧ Below w.heap.size w w' :=
  Any.strings_Join laysJoin joinX bk o c xs sep w hcells hbk hN hcap hlen
end Go.Proofs.YtohocomemkckeaaGreatDoor

/-! PACKAGE audit's Text AS IT LANDED: numbers by strconv.Itoa, words of verbs out of a table, joined by strings.Join. Written by mk_audtextp.py. -/
namespace Go.Proofs.YtohocomemkckeaaGreatDoor
open Go.RowKit
set_option maxRecDepth 8000
set_option linter.unusedSimpArgs false
set_option linter.unusedVariables false

/-- The table that strconv.Itoa reads is as its initialiser lays it. -/
abbrev Tab (w : World) : Prop := Lib.TabIs Tryz.prog w "internal/strconv.uint64pow10" .u64 Lib.pow10Tab
theorem tabG : (Tryz.prog.globalNamed "internal/strconv.uint64pow10").isSome = true := by kernel_rfl
theorem Tab.keep {w w' : World} (h : Tab w) (hb : Below w.heap.size w w') : Tab w' :=
  let ⟨_, hg⟩ := Option.isSome_iff_exists.1 tabG
  Joins.tab_stays hg h hb (Nat.le_refl _)
theorem keepT {W W' : World} {g : Nat} {l : Lab} (hb : Below W.heap.size W W') (h : Boxed W g l ∧ Tab W) : Boxed W' g l ∧ Tab W' := ⟨h.1.keep hb, h.2.keep hb⟩
set_option maxHeartbeats 1000000 in
/-- label.Text, of a label that may be. -/
theorem ltextP_any {l : Lab} (hf : GL l) (w : World) (ht : Tab w) :
    Calls Tryz.prog 39 #[l.v] w fun e w' => e = .returned (.string (ltextB l)) ∧ Below w.heap.size w w' := by
  obtain ⟨a0, a1, b0, b1, c0, c1, d0, d1⟩ := hf
  have la := itoaB_size l.s (by omega) (by omega)
  have lb := itoaB_size l.c (by omega) (by omega)
  have lc := itoaB_size l.i (by omega) (by omega)
  have ld := itoaB_size l.k (by omega) (by omega)
  have i1 := itoa_any l.s (by omega) (by omega)
  have i2 := itoa_any l.c (by omega) (by omega)
  have i3 := itoa_any l.i (by omega) (by omega)
  have i4 := itoa_any l.k (by omega) (by omega)
  have hi : ∀ n : Int, (⟨(Lib.itoa n).toArray⟩ : ByteArray) = itoaB n := fun _ => rfl
  rw [hi] at i1 i2 i3 i4
  unfold ltextB
  clear a0 a1 b0 b1 c0 c1 d0 d1 hi
  generalize itoaB l.s = t1 at *
  generalize itoaB l.c = u1 at *
  generalize itoaB l.i = u2 at *
  generalize itoaB l.k = u3 at *
  have s1 : ¬ 9223372036854775807 < t1.size + 1 := by omega
  have s2 : ¬ 9223372036854775807 < t1.size + 1 + u1.size := by omega
  have s3 : ¬ 9223372036854775807 < t1.size + 1 + u1.size + 1 := by omega
  have s4 : ¬ 9223372036854775807 < t1.size + 1 + u1.size + 1 + u2.size := by omega
  have s5 : ¬ 9223372036854775807 < t1.size + 1 + u1.size + 1 + u2.size + 1 := by omega
  have s6 : ¬ 9223372036854775807 < t1.size + 1 + u1.size + 1 + u2.size + 1 + u3.size := by omega
  clear la lb lc ld
  have hS : Boxed (w.alloc (.cells #[.int .i64 l.s, .int .i64 l.c, .int .i64 l.i, .int .i64 l.k] 28)).drew w.heap.size l ∧ Tab (w.alloc (.cells #[.int .i64 l.s, .int .i64 l.c, .int .i64 l.i, .int .i64 l.k] 28)).drew :=
    ⟨(boxed_alloc w l).keep (Below.refl _ _).drew, ht.keep ((Below.refl _ _).alloc (Nat.le_refl _) _).drew⟩
  have hB := (Below.refl w.heap.size w).alloc (Nat.le_refl _) (.cells #[.int .i64 l.s, .int .i64 l.c, .int .i64 l.i, .int .i64 l.k] 28)
  go_enter Tryz.func39, Tryz.ntmps39
  go_wp2_with fail
  generalize (w.alloc (.cells #[.int .i64 l.s, .int .i64 l.c, .int .i64 l.i, .int .i64 l.k] 28)) = W0 at hS hB ⊢
  go_region_held (fun W => Boxed W w.heap.size l ∧ Tab W) (first | exact hS | exact keepT (by assumption) (by assumption))
    (first
    | (go_at_call 38; refine (i1 _ hS.2).mono ?_; rintro e w1 ⟨rfl, hb1⟩; have hT1 := hS.2.keep hb1)
    | (go_at_call 38; refine (i2 _ hT1).mono ?_; rintro e w2 ⟨rfl, hb2⟩; have hT2 := hT1.keep hb2)
    | (go_at_call 38; refine (i3 _ hT2).mono ?_; rintro e w3 ⟨rfl, hb3⟩; have hT3 := hT2.keep hb3)
    | (go_at_call 38; refine (i4 _ hT3).mono ?_; rintro e w4 ⟨rfl, hb4⟩)
    | fail)
  go_wp2
  go_ret
  exact ⟨rfl, Below.then (Below.then (Below.then (Below.then hB.drew hb1) hb2) hb3) hb4⟩
/-- The table of the verbs' words is as its initialiser lays it. -/
def Vb (w : World) : Prop := ∀ v : Nat, 1 ≤ v → v ≤ 14 → w.cell? ⟨0, v, none⟩ = some (.string (verbW (v : Int)))
theorem Vb.keep {w w' : World} (h : Vb w) (hb : Below w.heap.size w w') : Vb w' := fun v h1 h2 => (hb.cell (World.block_lt_of_cell? _ _ (h v h1 h2))).trans (h v h1 h2)
theorem verbWord_any (v : Nat) (h1 : 1 ≤ v) (h14 : v ≤ 14) (w : World) (hV : Vb w) : Calls Tryz.prog 41 #[.int .i64 (v : Int)] w fun e w' => e = .returned (.string (verbW (v : Int))) ∧ w' = w := by
  have hc := hV v h1 h14
  have i1 : ¬ (v : Int) < 0 := by omega
  have i2 : ¬ (15 : Int) ≤ (v : Int) := by omega
  have i3 : (v : Int) < 15 := by omega
  generalize verbW (v : Int) = x at *
  go_enter Tryz.func41, Tryz.ntmps41
  go_wp2_with fail
  go_ret
  exact ⟨rfl, rfl⟩
theorem shown_any (s : ByteArray) (w : World) : Calls Tryz.prog 40 #[.string s] w fun e w' => e = .returned (.string (orS s)) ∧ Below w.heap.size w w' := by
  unfold orS
  by_cases h : s.toList.isEmpty = true
  · rw [if_pos h]
    go_enter Tryz.func40, Tryz.ntmps40
    go_wp2_with fail
    go_ret
    exact ⟨rfl, Below.refl _ _⟩
  · rw [if_neg h]
    have h2 : s.toList.isEmpty = false := by simpa using h
    clear h
    go_enter Tryz.func40, Tryz.ntmps40
    go_wp2_with fail
    go_ret
    exact ⟨rfl, Below.refl _ _⟩
theorem orS_verb (v : Nat) (h1 : 1 ≤ v) (h14 : v ≤ 14) : orS (verbW (v : Int)) = verbW (v : Int) := by
  have : ∀ k : Fin 15, 1 ≤ k.val → orS (verbW (k.val : Int)) = verbW (k.val : Int) := by decide +kernel
  exact this ⟨v, by omega⟩ h1
theorem cat6 (x1 x2 x3 x4 x5 x6 : ByteArray) : (⟨(Lib.join ([x1, x2, x3, x4, x5, x6].map (·.data.toList)) (⟨#[32]⟩ : ByteArray).data.toList).toArray⟩ : ByteArray) = x1 ++ ⟨#[32]⟩ ++ x2 ++ ⟨#[32]⟩ ++ x3 ++ ⟨#[32]⟩ ++ x4 ++ ⟨#[32]⟩ ++ x5 ++ ⟨#[32]⟩ ++ x6 := by
  apply ByteArray.ext
  apply Array.ext'
  simp [Lib.join, List.intercalate, List.intersperse, ByteArray.data_append]
theorem joins6 (x1 x2 x3 x4 x5 x6 : ByteArray) (hs : x1.size + x2.size + x3.size + x4.size + x5.size + x6.size ≤ 1000) (w : World) :
    Calls Tryz.prog 37 #[.slice (some ⟨w.heap.size, 0, none⟩) 6 6, .string ⟨#[32]⟩] (w.alloc (.cells #[.string x1, .string x2, .string x3, .string x4, .string x5, .string x6] 9)) fun e w' => e = .returned (.string (x1 ++ ⟨#[32]⟩ ++ x2 ++ ⟨#[32]⟩ ++ x3 ++ ⟨#[32]⟩ ++ x4 ++ ⟨#[32]⟩ ++ x5 ++ ⟨#[32]⟩ ++ x6)) ∧ Below (w.alloc (.cells #[.string x1, .string x2, .string x3, .string x4, .string x5, .string x6] 9)).heap.size (w.alloc (.cells #[.string x1, .string x2, .string x3, .string x4, .string x5, .string x6] 9)) w' := by
  have k := join_any w.heap.size 0 6 [x1, x2, x3, x4, x5, x6] ⟨#[32]⟩ (w.alloc (.cells #[.string x1, .string x2, .string x3, .string x4, .string x5, .string x6] 9)) (fun j x hx => by
    have hc := (blk_alloc w #[.string x1, .string x2, .string x3, .string x4, .string x5, .string x6] 9) j (.string x) (by
      match j, hx with
      | 0, hx => simpa using hx
      | 1, hx => simpa using hx
      | 2, hx => simpa using hx
      | 3, hx => simpa using hx
      | 4, hx => simpa using hx
      | 5, hx => simpa using hx)
    rw [Nat.zero_add]
    exact hc.1) (by simp) (by simp) (by simp) (by
      have e := congrArg (fun b : ByteArray => b.size) (cat6 x1 x2 x3 x4 x5 x6)
      simp only [ByteArray.size_append] at e
      have e2 : (⟨(Lib.join ([x1, x2, x3, x4, x5, x6].map (·.data.toList)) (⟨#[32]⟩ : ByteArray).data.toList).toArray⟩ : ByteArray).size = (Lib.join ([x1, x2, x3, x4, x5, x6].map (·.data.toList)) (⟨#[32]⟩ : ByteArray).data.toList).length := by
        show (Lib.join ([x1, x2, x3, x4, x5, x6].map (·.data.toList)) (⟨#[32]⟩ : ByteArray).data.toList).toArray.size = _
        simp
      rw [e2] at e
      have e3 : (⟨#[32]⟩ : ByteArray).size = 1 := rfl
      rw [e, e3]
      omega)
  rw [cat6] at k
  exact k
theorem intP_load (w : World) (y : Addr) (v : Value) (h : w.cell? y = some v) : (Instr.loadAt 3 (.pointer (some y))).run Tryz.prog w = .ok v w := by
  have h1 := Tryz.underlying3
  go_simp
theorem strP_load (w : World) (y : Addr) (v : Value) (h : w.cell? y = some v) : (Instr.loadAt 9 (.pointer (some y))).run Tryz.prog w = .ok v w := by
  have h1 := Tryz.underlying9
  go_simp
theorem errP_load (w : World) (y : Addr) (v : Value) (h : w.cell? y = some v) : (Instr.loadAt 29 (.pointer (some y))).run Tryz.prog w = .ok v w := by
  have h1 := Tryz.underlying29
  go_simp
set_option maxRecDepth 8000 in
set_option maxHeartbeats 4000000 in
theorem atext_any (e : Ent) (hm : audMay e = 0) (hq : -9223372036854775808 ≤ e.seq ∧ e.seq ≤ 9223372036854775807) (w : World) (hTw : Tab w) (hVw : Vb w) :
    Calls Tryz.prog 19 #[.agg (ecs e).toArray] w fun r w' => r = .returned (.string (audText e)) ∧ Below w.heap.size w w' := by
  have hundL := Tryz.underlying28
  have hsl : (Tryz.prog.info? 28).map (·.size) = some 4 := by kernel_rfl
  obtain ⟨m0, m1, m2, m3, m4, m5, m6⟩ := may_zero.1 hm
  have hG := chkL_zero.1 m0
  have hb0 := blkl_alloc w (ecs e).toArray 31
  have hB0 := alloc_below w (.cells (ecs e).toArray 31)
  replace hb0 : BlkL w.heap.size (ecs e) (w.alloc (.cells (ecs e).toArray 31)) := hb0
  have hT := fun {W : World} (q : Below (w.alloc (.cells (ecs e).toArray 31)).heap.size (w.alloc (.cells (ecs e).toArray 31)) W) => (hTw.keep hB0).keep q
  have hV := fun {W : World} (q : Below (w.alloc (.cells (ecs e).toArray 31)).heap.size (w.alloc (.cells (ecs e).toArray 31)) W) => (hVw.keep hB0).keep q
  have k1 := itoa_any e.seq hq.1 hq.2
  have hi : (⟨(Lib.itoa e.seq).toArray⟩ : ByteArray) = itoaB e.seq := rfl
  rw [hi] at k1
  clear hi
  have k2 := fun W (q : Tab W) => ltextP_any hG W q
  have k3 := shown_any e.user
  obtain ⟨vb, hvb⟩ := Int.eq_ofNat_of_zero_le (show 0 ≤ e.verb by omega)
  have k4 : ∀ W, Vb W → Calls Tryz.prog 41 #[.int .i64 e.verb] W fun r w' => r = .returned (.string (verbW e.verb)) ∧ Below W.heap.size W w' := fun W q => by
    rw [hvb]
    exact (verbWord_any vb (by omega) (by omega) W q).mono fun _ _ ⟨h1, h2⟩ => ⟨h1, h2 ▸ Below.refl _ _⟩
  have k4b := shown_any (verbW e.verb)
  have hov : orS (verbW e.verb) = verbW e.verb := by rw [hvb]; exact orS_verb vb (by omega) (by omega)
  rw [hov] at k4b
  clear hov hvb
  have k5 := shown_any e.object
  have k6 : ∀ W, Calls Tryz.prog 42 #[.int .i64 e.verdict] W fun r w' => r = .returned (.string (errW e.verdict)) ∧ Below W.heap.size W w' := fun W => (errW_any e.verdict W).mono fun _ _ ⟨h1, h2⟩ => ⟨h1, h2 ▸ Below.refl _ _⟩
  have z1 := itoaB_size e.seq hq.1 hq.2
  have z2 := ltext_size hG
  have z3 := orS_size e.user
  have z4 := verbW_size e.verb
  have z5 := orS_size e.object
  have z6 := errW_size e.verdict
  unfold audText
  have hcs : ecs e = [.int .i64 e.seq, .int .i64 e.label.s, .int .i64 e.label.c, .int .i64 e.label.i, .int .i64 e.label.k, .string e.user, .int .i64 e.verb, .string e.object, .int .i64 e.verdict] := rfl
  generalize itoaB e.seq = x1 at *
  generalize ltextB e.label = x2 at *
  generalize orS e.user = x3 at *
  generalize verbW e.verb = x4 at *
  generalize orS e.object = x5 at *
  generalize errW e.verdict = x6 at *
  have k7 := fun W => joins6 x1 x2 x3 x4 x5 x6 (by omega) W
  clear z1 z2 z3 z4 z5 z6 hm m0 m1 m2 m3 m4 m5 m6 hG hq hTw hVw
  rw [hcs] at hb0 hB0 hT hV ⊢
  go_enter Tryz.func19, Tryz.ntmps19
  go_upto_region 1 with fail
  generalize w.alloc (.cells ([.int .i64 e.seq, .int .i64 e.label.s, .int .i64 e.label.c, .int .i64 e.label.i, .int .i64 e.label.k, .string e.user, .int .i64 e.verb, .string e.object, .int .i64 e.verdict]).toArray 31) = Z at *
  rw [← hcs] at hb0
  clear hcs
  have hS0 : Below Z.heap.size Z Z.drew := (Below.refl _ _).drew
  refine wp_region_held_drew (S := (fun W => Below Z.heap.size Z W)) (by kernel_rfl) (by exact hS0) ?_
  intro hHeld
  generalize Z.drew = w0 at *
  refine wpAnyH_take (i := 0) (v := ?_) (by simp only [gA, gB, gC]; rfl) (by kernel_rfl) (by kernel_rfl) (by kernel_rfl) (by exact fun _ _ _ h => h) (Or.inl ⟨by rfl, ?_⟩) (by assumption) ?_; rotate_left; (focus (intro w hSw; (try dsimp only at hSw); go_simp; try with_reducible rfl)); (try simp only [Act.put, sA, sB, sC])
  refine wpAnyH_take (i := 1) (v := _) (by simp only [gA, gB, gC]; rfl) (by kernel_rfl) (by kernel_rfl) (by kernel_rfl) (by exact fun _ _ _ h => h) (yields_cell (by rfl) _ rfl ⟨w.heap.size, 0, none⟩ rfl (.int .i64 e.seq) (fun _ q => ((stab_blk _ _ _ _ hb0 q).1 0 _ rfl).1) intP_load) (by assumption) ?_; (try simp only [Act.put, sA, sB, sC])
  refine wpAnyH_take (i := 3) (v := ?_) (by simp only [gA, gB, gC]; rfl) (by kernel_rfl) (by kernel_rfl) (by kernel_rfl) (by exact fun _ _ _ h => h) (Or.inl ⟨by rfl, ?_⟩) (by assumption) ?_; rotate_left; (focus (intro w hSw; (try dsimp only at hSw); go_simp; try with_reducible rfl)); (try simp only [Act.put, sA, sB, sC])
  refine wpAnyH_take (i := 4) (v := _) (by simp only [gA, gB, gC]; rfl) (by kernel_rfl) (by kernel_rfl) (by kernel_rfl) (by exact fun _ _ _ h => h) (yields_at (by rfl) _ rfl ⟨w.heap.size, 1, none⟩ rfl (lab4 e.label) (fun _ q => ebox_lab (stab_blk _ _ _ _ hb0 q)) hundL rfl hsl) (by assumption) ?_; (try simp only [Act.put, sA, sB, sC])
  refine wpAnyH_take (i := 6) (v := ?_) (by simp only [gA, gB, gC]; rfl) (by kernel_rfl) (by kernel_rfl) (by kernel_rfl) (by exact fun _ _ _ h => h) (Or.inl ⟨by rfl, ?_⟩) (by assumption) ?_; rotate_left; (focus (intro w hSw; (try dsimp only at hSw); go_simp; try with_reducible rfl)); (try simp only [Act.put, sA, sB, sC])
  refine wpAnyH_take (i := 7) (v := _) (by simp only [gA, gB, gC]; rfl) (by kernel_rfl) (by kernel_rfl) (by kernel_rfl) (by exact fun _ _ _ h => h) (yields_cell (by rfl) _ rfl ⟨w.heap.size, 5, none⟩ rfl (.string e.user) (fun _ q => ((stab_blk _ _ _ _ hb0 q).1 5 _ rfl).1) strP_load) (by assumption) ?_; (try simp only [Act.put, sA, sB, sC])
  refine wpAnyH_take (i := 9) (v := ?_) (by simp only [gA, gB, gC]; rfl) (by kernel_rfl) (by kernel_rfl) (by kernel_rfl) (by exact fun _ _ _ h => h) (Or.inl ⟨by rfl, ?_⟩) (by assumption) ?_; rotate_left; (focus (intro w hSw; (try dsimp only at hSw); go_simp; try with_reducible rfl)); (try simp only [Act.put, sA, sB, sC])
  refine wpAnyH_take (i := 10) (v := _) (by simp only [gA, gB, gC]; rfl) (by kernel_rfl) (by kernel_rfl) (by kernel_rfl) (by exact fun _ _ _ h => h) (yields_cell (by rfl) _ rfl ⟨w.heap.size, 6, none⟩ rfl (.int .i64 e.verb) (fun _ q => ((stab_blk _ _ _ _ hb0 q).1 6 _ rfl).1) intP_load) (by assumption) ?_; (try simp only [Act.put, sA, sB, sC])
  refine wpAnyH_take (i := 13) (v := ?_) (by simp only [gA, gB, gC]; rfl) (by kernel_rfl) (by kernel_rfl) (by kernel_rfl) (by exact fun _ _ _ h => h) (Or.inl ⟨by rfl, ?_⟩) (by assumption) ?_; rotate_left; (focus (intro w hSw; (try dsimp only at hSw); go_simp; try with_reducible rfl)); (try simp only [Act.put, sA, sB, sC])
  refine wpAnyH_take (i := 14) (v := _) (by simp only [gA, gB, gC]; rfl) (by kernel_rfl) (by kernel_rfl) (by kernel_rfl) (by exact fun _ _ _ h => h) (yields_cell (by rfl) _ rfl ⟨w.heap.size, 7, none⟩ rfl (.string e.object) (fun _ q => ((stab_blk _ _ _ _ hb0 q).1 7 _ rfl).1) strP_load) (by assumption) ?_; (try simp only [Act.put, sA, sB, sC])
  refine wpAnyH_take (i := 16) (v := ?_) (by simp only [gA, gB, gC]; rfl) (by kernel_rfl) (by kernel_rfl) (by kernel_rfl) (by exact fun _ _ _ h => h) (Or.inl ⟨by rfl, ?_⟩) (by assumption) ?_; rotate_left; (focus (intro w hSw; (try dsimp only at hSw); go_simp; try with_reducible rfl)); (try simp only [Act.put, sA, sB, sC])
  refine wpAnyH_take (i := 17) (v := _) (by simp only [gA, gB, gC]; rfl) (by kernel_rfl) (by kernel_rfl) (by kernel_rfl) (by exact fun _ _ _ h => h) (yields_cell (by rfl) _ rfl ⟨w.heap.size, 8, none⟩ rfl (.int .i64 e.verdict) (fun _ q => ((stab_blk _ _ _ _ hb0 q).1 8 _ rfl).1) errP_load) (by assumption) ?_; (try simp only [Act.put, sA, sB, sC])
  refine wpAnyH_ready (rs := [2]) (by kernel_rfl) (by simp) ?_
  refine AllReadyH.cons (by simp only [gA, gB, gC]; rfl) (fun K hK => ?_) AllReadyH.nil
  go_simp
  go_at_call 38
  refine (k1 w0 (hT hS0)).mono ?_
  rintro e w1 ⟨rfl, hb⟩
  have hS1 := Below.then hS0 hb
  clear hb
  refine hK.out _ _ (by exact hS1) ?_
  clear hHeld hK
  intro hHeld
  (try simp only [Act.put, sA, sB, sC])
  refine wpAnyH_ready (rs := [5]) (by kernel_rfl) (by simp) ?_
  refine AllReadyH.cons (by simp only [gA, gB, gC]; rfl) (fun K hK => ?_) AllReadyH.nil
  go_simp
  go_at_call 39
  refine (k2 w1 (hT hS1)).mono ?_
  rintro e w2 ⟨rfl, hb⟩
  have hS2 := Below.then hS1 hb
  clear hb
  refine hK.out _ _ (by exact hS2) ?_
  clear hHeld hK
  intro hHeld
  (try simp only [Act.put, sA, sB, sC])
  refine wpAnyH_ready (rs := [8]) (by kernel_rfl) (by simp) ?_
  refine AllReadyH.cons (by simp only [gA, gB, gC]; rfl) (fun K hK => ?_) AllReadyH.nil
  go_simp
  go_at_call 40
  refine (k3 w2).mono ?_
  rintro e w3 ⟨rfl, hb⟩
  have hS3 := Below.then hS2 hb
  clear hb
  refine hK.out _ _ (by exact hS3) ?_
  clear hHeld hK
  intro hHeld
  (try simp only [Act.put, sA, sB, sC])
  refine wpAnyH_ready (rs := [11]) (by kernel_rfl) (by simp) ?_
  refine AllReadyH.cons (by simp only [gA, gB, gC]; rfl) (fun K hK => ?_) AllReadyH.nil
  go_simp
  go_at_call 41
  refine (k4 w3 (hV hS3)).mono ?_
  rintro e w4 ⟨rfl, hb⟩
  have hS4 := Below.then hS3 hb
  clear hb
  refine hK.out _ _ (by exact hS4) ?_
  clear hHeld hK
  intro hHeld
  (try simp only [Act.put, sA, sB, sC])
  refine wpAnyH_ready (rs := [12]) (by kernel_rfl) (by simp) ?_
  refine AllReadyH.cons (by simp only [gA, gB, gC]; rfl) (fun K hK => ?_) AllReadyH.nil
  go_simp
  go_at_call 40
  refine (k4b w4).mono ?_
  rintro e w5 ⟨rfl, hb⟩
  have hS5 := Below.then hS4 hb
  clear hb
  refine hK.out _ _ (by exact hS5) ?_
  clear hHeld hK
  intro hHeld
  (try simp only [Act.put, sA, sB, sC])
  refine wpAnyH_ready (rs := [15]) (by kernel_rfl) (by simp) ?_
  refine AllReadyH.cons (by simp only [gA, gB, gC]; rfl) (fun K hK => ?_) AllReadyH.nil
  go_simp
  go_at_call 40
  refine (k5 w5).mono ?_
  rintro e w6 ⟨rfl, hb⟩
  have hS6 := Below.then hS5 hb
  clear hb
  refine hK.out _ _ (by exact hS6) ?_
  clear hHeld hK
  intro hHeld
  (try simp only [Act.put, sA, sB, sC])
  refine wpAnyH_ready (rs := [18]) (by kernel_rfl) (by simp) ?_
  refine AllReadyH.cons (by simp only [gA, gB, gC]; rfl) (fun K hK => ?_) AllReadyH.nil
  go_simp
  go_at_call 42
  refine (k6 w6).mono ?_
  rintro e w7 ⟨rfl, hb⟩
  have hS7 := Below.then hS6 hb
  clear hb
  refine hK.out _ _ (by exact hS7) ?_
  clear hHeld hK
  intro hHeld
  (try simp only [Act.put, sA, sB, sC])
  refine wpAnyH_ready (rs := [19]) (by kernel_rfl) (by simp) ?_
  refine AllReadyH.cons (by simp only [gA, gB, gC]; rfl) (fun K hK => ?_) AllReadyH.nil
  have hb := alloc_below w7 (.cells #[.string x1, .string x2, .string x3, .string x4, .string x5, .string x6] 9)
  have kj := k7 w7
  have hS8 := Below.then hS7 hb
  go_simp
  generalize w7.alloc (.cells #[.string x1, .string x2, .string x3, .string x4, .string x5, .string x6] 9) = w8 at *
  clear hb
  refine hK.out _ _ (by exact hS8) ?_
  clear hHeld hK
  intro hHeld
  (try simp only [Act.put, sA, sB, sC])
  refine wpAnyH_ready (rs := [20]) (by kernel_rfl) (by simp) ?_
  refine AllReadyH.cons (by simp only [gA, gB, gC]; rfl) (fun K hK => ?_) AllReadyH.nil
  go_simp
  go_at_call 37
  refine (kj).mono ?_
  rintro e w9 ⟨rfl, hb⟩
  have hS9 := Below.then hS8 hb
  clear hb
  refine hK.out _ _ (by exact hS9) ?_
  clear hHeld hK
  intro hHeld
  (try simp only [Act.put, sA, sB, sC])
  refine wpAnyH_take (i := 21) (v := ?_) (by simp only [gA, gB, gC]; rfl) (by kernel_rfl) (by kernel_rfl) (by kernel_rfl) (by exact fun _ _ _ h => h) (Or.inl ⟨by rfl, ?_⟩) (by assumption) ?_; rotate_left; (focus (intro w hSw; (try dsimp only at hSw); go_simp; try with_reducible rfl)); (try simp only [Act.put, sA, sB, sC])
  refine wpAnyH_done (by kernel_rfl) ?_ _
  have hfin := Below.then hB0 hS9
  go_wp2_with fail
  go_ret
  exact ⟨rfl, hfin⟩
end Go.Proofs.YtohocomemkckeaaGreatDoor

/-! PACKAGE hash: Chain and Of; the chapter's example. -/
namespace Go.Proofs.YtohocomemkckeaaGreatDoor
open Go.RowKit
set_option maxRecDepth 8000
set_option linter.unusedSimpArgs false
set_option linter.unusedVariables false

set_option maxHeartbeats 1000000 in
theorem chain_any (a : Option Addr) (l : List UInt8) (n cap h : Nat) (hn : n ≤ 1000000) (hh : h < 18446744073709551616) (w : World) (hb : BytesAt w a n l) :
    Calls Tryz.prog 32 #[.int .u64 (h : Int), .slice a n cap] w fun e w' => e = .returned (.int .u64 (chain h l : Nat)) ∧ Below w.heap.size w w' := by
  go_enter Tryz.func32, Tryz.ntmps32
  go_wp2
  go_loopw [0, 9] (fun t0 t9 wr => ∃ i : Nat, i ≤ n ∧ t9 = .int .i64 (i : Int) ∧ t0 = .int .u64 (chain h (l.take i) : Nat) ∧ wr = w) (fun _ t9 _ => n - (Go.RowKit.intOf t9).toNat)
  case atStart => exact ⟨0, by omega, rfl, by rw [List.take_zero, chain_nil], rfl⟩
  case round =>
    obtain ⟨i, hi, rfl, rfl, rfl⟩ := hrel
    by_cases hlt : i < n
    · obtain ⟨y, rfl, hc⟩ := hb.2 i hlt
      have hnx := chain_take h l (i := i) (by rw [hb.1]; exact hlt)
      have hg := chain_lt hh (l.take i)
      obtain ⟨g, hge⟩ : ∃ g, chain h (l.take i) = g := ⟨_, rfl⟩
      rw [hge] at hnx hg ⊢
      have hcl := (l.getD i 0).toNat_lt
      obtain ⟨c, hce⟩ : ∃ c, (l.getD i 0).toNat = c := ⟨_, rfl⟩
      rw [hce] at hc hnx hcl
      have hst := st_run hg (c := c) (by omega)
      have hwc : IntKind.u64.wrap (c : Int) = (c : Int) := by rw [IntKind.wrap_u64]; omega
      go_wp2
      exact ⟨⟨i + 1, by omega, by simp, by rw [hnx], trivial⟩, by simp [Go.RowKit.intOf]; omega⟩
    · obtain rfl : i = n := by omega
      rw [← hb.1, List.take_length]
      go_wp2
      go_ret
      exact ⟨rfl, Below.refl _ _⟩

/-- The first i of eight cells hold the salt's bytes. -/
def Eight (W : World) (b s i : Nat) : Prop := ∃ vs : List Value, vs.length = 8 ∧ Blk W b vs ∧ ∀ j, j < i → vs[j]? = some (.int .u8 ((UInt8.ofNat (s / 2 ^ (8 * (7 - j)))).toNat : Int))
theorem Eight.at {W : World} {b s i : Nat} (h : Eight W b s i) {k : Nat} (hk : k < 8) : ∃ v, W.cell? ⟨b, k, none⟩ = some v ∧ W.frozen? ⟨b, k, none⟩ = false := by
  obtain ⟨vs, hl, hb, _⟩ := h
  exact ⟨_, hb k vs[k] (List.getElem?_eq_getElem (by omega))⟩
theorem Eight.next {W : World} {b s i : Nat} (h : Eight W b s i) (hi : i < 8) : Eight (W.setCell ⟨b, i, none⟩ (.int .u8 ((UInt8.ofNat (s / 2 ^ (8 * (7 - i)))).toNat : Int))) b s (i + 1) := by
  obtain ⟨vs, hl, hb, hv⟩ := h
  refine ⟨vs.set i _, by simp [hl], hb.set i _ (by omega), fun j hj => ?_⟩
  by_cases e : i = j
  · subst e
    rw [List.getElem?_set_self (by omega)]
  · rw [List.getElem?_set_ne e]
    exact hv j (by omega)
theorem Eight.bytes {W : World} {b s : Nat} (h : Eight W b s 8) : BytesAt W (some ⟨b, 0, none⟩) 8 (saltTo s 8) := by
  obtain ⟨vs, hl, hb, hv⟩ := h
  refine ⟨saltTo_len s 8, fun j hj => ⟨_, rfl, ?_⟩⟩
  rw [add_at, (hb j _ (hv j hj)).1]
  unfold saltTo
  rw [List.getD_eq_getElem?_getD, List.getElem?_map, List.getElem?_range hj]
  rfl
set_option maxHeartbeats 2000000 in
theorem of_any (x : Int) (hx : -9223372036854775808 ≤ x ∧ x ≤ 9223372036854775807) (u : ByteArray) (hu : u.size ≤ 1000000) (w : World) :
    Calls Tryz.prog 31 #[.int .i64 x, .string u] w fun e w' => e = .returned (.int .u64 (ofN x u.data.toList : Nat)) ∧ Below w.heap.size w w' := by
  unfold ofN
  have hs := saltN_lt x
  have hsx : IntKind.u64.wrap x = (saltN x : Int) := by rw [IntKind.wrap_u64]; unfold saltN; omega
  obtain ⟨s, hse⟩ : ∃ s, saltN x = s := ⟨_, rfl⟩
  rw [hse] at hs hsx ⊢
  clear hse
  obtain ⟨g, hg⟩ : ∃ g, chain 14695981039346656037 (saltTo s 8) = g := ⟨_, rfl⟩
  rw [hg]
  have hg : Aside (chain 14695981039346656037 (saltTo s 8) = g) := hg
  go_enter Tryz.func31, Tryz.ntmps31
  go_wp2_with fail
  go_loopw [7] (fun t7 wr => ∃ i : Nat, i ≤ 8 ∧ t7 = .int .i64 (i : Int) ∧ Eight wr w.heap.size s i ∧ Below w.heap.size w wr) (fun t7 _ => 8 - (Go.RowKit.intOf t7).toNat)
  case atStart => exact ⟨0, by omega, rfl, ⟨_, rfl, blk_alloc _ _ _, fun j hj => absurd hj (by omega)⟩, (Below.refl _ _).alloc (Nat.le_refl _) _⟩
  case round =>
    obtain ⟨i, hi, rfl, h8, hB⟩ := hrel
    by_cases hlt : i < 8
    · obtain ⟨v0, hv0, hf0⟩ := h8.at hlt
      have hnx := h8.next hlt
      have hce : ((UInt8.ofNat (s / 2 ^ (8 * (7 - i)))).toNat : Int) = (s : Int) / 2 ^ (56 - 8 * i) % 256 := by
        rw [show 56 - 8 * i = 8 * (7 - i) by omega]
        simp [UInt8.toNat_ofNat']
      rw [hce] at hnx
      have hBn : Below w.heap.size w (wr.setCell ⟨w.heap.size, i, none⟩ (.int .u8 ((s : Int) / 2 ^ (56 - 8 * i) % 256))) := hB.setCell (Nat.le_refl _) _
      clear hce
      go_wp2_with fail
      exact ⟨⟨i + 1, by omega, by simp, hnx, hBn⟩, by simp [Go.RowKit.intOf]; omega⟩
    · obtain rfl : i = 8 := by omega
      have hgl := chain_lt start_lt (saltTo s 8)
      rw [hg.out] at hgl
      have c1 := chain_any _ (saltTo s 8) 8 8 14695981039346656037 (by omega) start_lt wr h8.bytes
      rw [hg.out] at c1
      go_wp2_with fail
      refine c1.mono ?_
      rintro e w1 ⟨rfl, hB1⟩
      obtain ⟨cap2, W2, hcv, hb2, hB2⟩ := conv_str w1 u
      have c2 := chain_any _ u.data.toList u.size cap2 g (by omega) hgl W2 hb2
      go_wp2_with fail
      refine c2.mono ?_
      rintro e w' ⟨rfl, hB3⟩
      go_wp2_with fail
      go_ret
      exact ⟨rfl, Below.then (Below.then (Below.then hB hB1) hB2) hB3⟩

theorem cell_mark (w : World) (C : Array Value) (t : TypeId) (fr : Nat × Nat) (j : Nat) : (w.alloc (.cells C t fr)).cell? ⟨w.heap.size, j, none⟩ = C[j]? := World.cell?_alloc_mark w C t fr j
theorem example_st : chain 14695981039346656037 [97] = 12638187200555641996 := by
  rw [chain_one]
  decide +kernel
end Go.Proofs.YtohocomemkckeaaGreatDoor
