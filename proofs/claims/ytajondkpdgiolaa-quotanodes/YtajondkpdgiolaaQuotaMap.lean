/-
  COUNTS AS THEY LANDED: a struct of one field, a map of labels to numbers: New, Add, Of. Written by mk_qmap.py.
-/
import Derived.Test.YtajondkpdgiolaaLabMap
import Derived.Test.YtajondkpdgiolaaQuotaBase
namespace Go.Proofs.Ytajondkpdgiolaa
open Go.RowKit
set_option maxRecDepth 8000
set_option linter.unusedSimpArgs false
set_option linter.unusedVariables false

theorem Turn1.blk {b : Nat} {w w' : World} (h : Turn1 b w w') {g : Nat} {cs : List Value} (hb : BlkL g cs w) (hg : g ≠ b) : BlkL g cs w' := ⟨hb.1.same (h.block g hg), by rw [h.size]; exact hb.2⟩
theorem Turn1.trans {b : Nat} {w w' w'' : World} (h : Turn1 b w w') (k : Turn1 b w' w'') : Turn1 b w w'' := ⟨k.os.trans h.os, k.tape.trans h.tape, k.output.trans h.output, k.size.trans h.size, fun j hj => (k.block j hj).trans (h.block j hj)⟩
/-- Counts at p: the struct's block, and the map's, once it is made. -/
def CntQ (w : World) (S : List Nat) (p : Addr) (ls : List Lab) : Prop := ∃ g, p = ⟨g, 0, none⟩ ∧ ((S = [g] ∧ ls = [] ∧ BlkL g [.map none] w) ∨ ∃ b, S = [g, b] ∧ g ≠ b ∧ BlkL g [.map (some b)] w ∧ MapL w b (cntL ls))
theorem lt_of_same {w w' : World} {k : Nat} (h : w'.heap[k]? = w.heap[k]?) (hk : k < w.heap.size) : k < w'.heap.size := by
  have h1 : w.heap[k]? = some w.heap[k] := Array.getElem?_eq_getElem hk
  rw [h1] at h
  exact (Array.getElem?_eq_some_iff.1 h).1
theorem BlkL.keep {w w' : World} {g : Nat} {cs : List Value} (h : BlkL g cs w) (hk : w'.heap[g]? = w.heap[g]?) : BlkL g cs w' := ⟨h.1.same hk, lt_of_same hk h.2⟩
theorem CntQ.keep {w w' : World} {S : List Nat} {p : Addr} {ls : List Lab} (h : CntQ w S p ls) (hk : ∀ k ∈ S, w'.heap[k]? = w.heap[k]?) : CntQ w' S p ls := by
  obtain ⟨g, rfl, ⟨rfl, rfl, hg⟩ | ⟨b, rfl, hne, hg, hm⟩⟩ := h
  · exact ⟨g, rfl, .inl ⟨rfl, rfl, hg.keep (hk g (by simp))⟩⟩
  · exact ⟨g, rfl, .inr ⟨b, rfl, hne, hg.keep (hk g (by simp)), hm.same (hk b (by simp))⟩⟩
theorem CntQ.lt {w : World} {S : List Nat} {p : Addr} {ls : List Lab} (h : CntQ w S p ls) : ∀ k ∈ S, k < w.heap.size := by
  obtain ⟨g, rfl, ⟨rfl, rfl, hg⟩ | ⟨b, rfl, hne, hg, hm⟩⟩ := h
  · intro k hk
    simp at hk
    subst hk
    exact hg.2
  · intro k hk
    simp at hk
    rcases hk with rfl | rfl
    · exact hg.2
    · exact hm.lt
/-- A map, or none: what is looked up in it. -/
def MapV (W : World) (m : Option Nat) (f : Lab → Nat) : Prop := (m = none ∧ f = fun _ => 0) ∨ ∃ b, m = some b ∧ MapL W b f
theorem CntQ.get {w : World} {S : List Nat} {p : Addr} {ls : List Lab} (h : CntQ w S p ls) : ∃ g m, p = ⟨g, 0, none⟩ ∧ BlkL g [.map m] w ∧ MapV w m (cntL ls) := by
  obtain ⟨g, rfl, ⟨rfl, rfl, hg⟩ | ⟨b, rfl, hne, hg, hm⟩⟩ := h
  · exact ⟨g, none, rfl, hg, .inl ⟨rfl, rfl⟩⟩
  · exact ⟨g, some b, rfl, hg, .inr ⟨b, rfl, hm⟩⟩
theorem MapV.below {w w' : World} {m : Option Nat} {f : Lab → Nat} (h : MapV w m f) (hb : Below w.heap.size w w') : MapV w' m f := by
  obtain h | ⟨b, h1, h2⟩ := h
  · exact .inl h
  · exact .inr ⟨b, h1, h2.same (hb.block _ h2.lt)⟩
theorem lookV_run {W : World} {m : Option Nat} {f : Lab → Nat} (h : MapV W m f) {x : Lab} (hx : GL x) : (Instr.lookup 67 (.map m) x.v false).run Try.prog W = .ok (.int .i64 ((f x : Nat) : Int)) W := by
  obtain ⟨rfl, rfl⟩ | ⟨b, rfl, h⟩ := h
  · obtain ⟨lx, hlx⟩ := labKey hx
    rcases labLaw.find W hlx [] (by simp) with ⟨h1, -⟩ | ⟨j, e0, -, h2, -⟩
    · simp [Instr.lookup, run_underlying und_m, labLaw.check W _ hlx, h1, zero_int, Result.andThen]
    · simp at h2
  · exact look_run h hx
theorem eql_nil (W : World) : (binOp .eql 67 (.map none) (.map none)).run Try.prog W = .ok (.bool true) W := by kernel_rfl
theorem eql_map (b : Nat) (W : World) : (binOp .eql 67 (.map (some b)) (.map none)).run Try.prog W = .ok (.bool false) W := by kernel_rfl
theorem cnew_any (w : World) : Calls Try.prog 14 #[] w fun e w' => ∃ p S, e = .returned (.pointer (some p)) ∧ CntQ w' S p [] ∧ (∀ k ∈ S, w.heap.size ≤ k) ∧ Below w.heap.size w w' := by
  have h2 := blkl_alloc w #[.map none] 69
  have hB2 := alloc_below w (.cells #[.map none] 69)
  go_enter Try.func14, Try.ntmps14
  go_wp2_with fail
  go_ret
  refine ⟨⟨w.heap.size, 0, none⟩, rfl, [w.heap.size], ⟨_, rfl, .inl ⟨rfl, rfl, h2⟩⟩, fun k hk => ?_, hB2⟩
  simp at hk
  omega
section
variable {ops : Array Oper} {o : Oper} {a : Act} {w : World} {Q : Exit → Act → World → Prop}
theorem step_look {K : Act → World → Prop} {E : Prop} (hg : o.guard = none) (x y : Operand) (ho : o.op = .lookup 67 x y false) {u v r : Value} {w' : World} (hx : a.eval x = u) (hy : a.eval y = v)
    (hrun : (Instr.lookup 67 u v false).run Try.prog w = .ok r w') (hK : K (a.put o.dst r) w') :
    if Region.wanted o (yielded ops a.tmps) = true then Oper.wp Try.prog o a w K Q else E := by
  have hw : Region.wanted o (yielded ops a.tmps) = true := by simp [Region.wanted, hg]
  rw [if_pos hw]
  unfold Oper.wp
  simp [execOp, ho, hx, hy, hrun, Result.andThen]
  exact hK
theorem step_entry {K : Act → World → Prop} {E : Prop} (hg : o.guard = none) (x y : Operand) (ho : o.op = .mapEntry 67 x y) {u v r : Value} {w' : World} (hx : a.eval x = u) (hy : a.eval y = v)
    (hrun : (Instr.mapEntry 67 u v).run Try.prog w = .ok r w') (hK : K (a.put o.dst r) w') :
    if Region.wanted o (yielded ops a.tmps) = true then Oper.wp Try.prog o a w K Q else E := by
  have hw : Region.wanted o (yielded ops a.tmps) = true := by simp [Region.wanted, hg]
  rw [if_pos hw]
  unfold Oper.wp
  simp [execOp, ho, hx, hy, hrun, Result.andThen]
  exact hK
theorem step_estore {K : Act → World → Prop} {E : Prop} (hg : o.guard = none) (x y z : Operand) (ho : o.op = .entryStore 67 x y z) {u v r : Value} {w' : World} (hx : a.eval x = u) (hy : a.eval y = v) (hz : a.eval z = r)
    (hrun : (Instr.entryStore 67 u v r).run Try.prog w = .ok () w') (hK : K (a.put o.dst undef) w') :
    if Region.wanted o (yielded ops a.tmps) = true then Oper.wp Try.prog o a w K Q else E := by
  have hw : Region.wanted o (yielded ops a.tmps) = true := by simp [Region.wanted, hg]
  rw [if_pos hw]
  unfold Oper.wp
  simp [execOp, ho, hx, hy, hz, hrun, Result.andThen]
  exact hK
theorem yields_look {S : World → Prop} (hw : Region.wanted o (yielded ops a.tmps) = true) (x y : Operand) (ho : o.op = .lookup 67 x y false) {u v r : Value} (hx : a.eval x = u) (hy : a.eval y = v)
    (hS : ∀ w, S w → (Instr.lookup 67 u v false).run Try.prog w = .ok r w) : YieldsIf Try.prog ops S o r a :=
  .inl ⟨hw, fun w hw' => by
    unfold execOp
    simp [ho, hx, hy, hS w hw', Result.andThen]
    try rfl⟩
end
theorem map_load (w : World) (y : Addr) (v : Value) (h : w.cell? y = some v) : (Instr.loadAt 67 (.pointer (some y))).run Try.prog w = .ok v w := by
  have h1 := und_m
  go_simp
section
variable {ops : Array Oper} {o : Oper} {a : Act} {S : World → Prop}
theorem yields_one {T : TypeId} (hw : Region.wanted o (yielded ops a.tmps) = true) (x : Operand) (ho : o.op = .load T x) (y : Addr) (hx : a.eval x = .pointer (some y)) (v : Value) (hS : ∀ w, S w → w.cell? y = some v) (hl : ∀ w y v, w.cell? y = some v → (Instr.loadAt T (.pointer (some y))).run Try.prog w = .ok v w) : YieldsIf Try.prog ops S o v a :=
  .inl ⟨hw, fun w hw' => by
    unfold execOp
    simp only [ho, hx, Sem.run_bind, hl w y v (hS w hw'), Result.andThen_ok]
    rfl⟩
end
set_option maxRecDepth 8000 in
set_option maxHeartbeats 4000000 in
theorem cof_any {S : List Nat} {p : Addr} {ls : List Lab} (x : Lab) (hGx : GL x) (w : World) (h : CntQ w S p ls) : Calls Try.prog 18 #[.pointer (some p), x.v] w fun e w' => e = .returned (.int .i64 ((cntL ls x : Nat) : Int)) ∧ Below w.heap.size w w' := by
  have hundL := Try.underlying25
  have hsl : (Try.prog.info? 25).map (·.size) = some 4 := by kernel_rfl
  obtain ⟨g, m, rfl, hg, hm⟩ := h.get
  have hb0 := blkl_alloc w (lab4 x).toArray 25
  have hB0 := alloc_below w (.cells (lab4 x).toArray 25)
  replace hb0 : BlkL w.heap.size (lab4 x) (w.alloc (.cells (lab4 x).toArray 25)) := hb0
  have hg0 := stab_blk _ _ _ _ hg hB0
  have hm0 := hm.below hB0
  obtain ⟨R, hR⟩ : ∃ R, cntL ls x = R := ⟨_, rfl⟩
  have hlk := fun W (q : MapV W m (cntL ls)) => lookV_run q hGx
  rw [hR] at hlk ⊢
  clear hR
  go_enter Try.func18, Try.ntmps18
  go_upto_region 1 with fail
  generalize w.alloc (.cells #[.int .i64 x.s, .int .i64 x.c, .int .i64 x.i, .int .i64 x.k] 25) = Z at *
  have hBd : Below Z.heap.size Z Z.drew := (Below.refl _ _).drew
  have hS : (fun W => BlkL g [.map m] W ∧ BlkL w.heap.size (lab4 x) W ∧ MapV W m (cntL ls)) Z.drew := ⟨stab_blk _ _ _ _ hg0 hBd, stab_blk _ _ _ _ hb0 hBd, hm0.below hBd⟩
  refine wp_region_held_drew (S := (fun W => BlkL g [.map m] W ∧ BlkL w.heap.size (lab4 x) W ∧ MapV W m (cntL ls))) (by kernel_rfl) (by exact hS) ?_
  intro hHeld
  first | (refine wpAnyH_take (i := 0) (v := ?_) (by simp only [List.getElem?_toArray, List.getElem?_cons_zero, List.getElem?_cons_succ]; rfl) (by kernel_rfl) (by kernel_rfl) (by kernel_rfl) (by exact fun _ _ _ h => h) (Or.inl ⟨by rfl, ?_⟩) (by assumption) ?_; rotate_left; (focus (intro w hSw; (try dsimp only at hSw); go_simp; try with_reducible rfl)); simp only [Act.put, List.setIfInBounds_toArray, List.set_cons_zero, List.set_cons_succ]) | (refine wpAnyH_take (i := 0) (v := undef) (by simp only [List.getElem?_toArray, List.getElem?_cons_zero, List.getElem?_cons_succ]; rfl) (by kernel_rfl) (by kernel_rfl) (by kernel_rfl) (by exact fun _ _ _ h => h) (Or.inr ⟨by rfl, rfl⟩) (by assumption) ?_; simp only [Act.put, List.setIfInBounds_toArray, List.set_cons_zero, List.set_cons_succ]) | fail
  first | (refine wpAnyH_take (i := 1) (v := ?_) (by simp only [List.getElem?_toArray, List.getElem?_cons_zero, List.getElem?_cons_succ]; rfl) (by kernel_rfl) (by kernel_rfl) (by kernel_rfl) (by exact fun _ _ _ h => h) (Or.inl ⟨by rfl, ?_⟩) (by assumption) ?_; rotate_left; (focus (intro w hSw; (try dsimp only at hSw); go_simp; try with_reducible rfl)); simp only [Act.put, List.setIfInBounds_toArray, List.set_cons_zero, List.set_cons_succ]) | (refine wpAnyH_take (i := 1) (v := undef) (by simp only [List.getElem?_toArray, List.getElem?_cons_zero, List.getElem?_cons_succ]; rfl) (by kernel_rfl) (by kernel_rfl) (by kernel_rfl) (by exact fun _ _ _ h => h) (Or.inr ⟨by rfl, rfl⟩) (by assumption) ?_; simp only [Act.put, List.setIfInBounds_toArray, List.set_cons_zero, List.set_cons_succ]) | fail
  first | (refine wpAnyH_take (i := 2) (v := ?_) (by simp only [List.getElem?_toArray, List.getElem?_cons_zero, List.getElem?_cons_succ]; rfl) (by kernel_rfl) (by kernel_rfl) (by kernel_rfl) (by exact fun _ _ _ h => h) (Or.inl ⟨by rfl, ?_⟩) (by assumption) ?_; rotate_left; (focus (intro w hSw; (try dsimp only at hSw); go_simp; try with_reducible rfl)); simp only [Act.put, List.setIfInBounds_toArray, List.set_cons_zero, List.set_cons_succ]) | (refine wpAnyH_take (i := 2) (v := undef) (by simp only [List.getElem?_toArray, List.getElem?_cons_zero, List.getElem?_cons_succ]; rfl) (by kernel_rfl) (by kernel_rfl) (by kernel_rfl) (by exact fun _ _ _ h => h) (Or.inr ⟨by rfl, rfl⟩) (by assumption) ?_; simp only [Act.put, List.setIfInBounds_toArray, List.set_cons_zero, List.set_cons_succ]) | fail
  first | (refine wpAnyH_take (i := 3) (v := _) (by simp only [List.getElem?_toArray, List.getElem?_cons_zero, List.getElem?_cons_succ]; rfl) (by kernel_rfl) (by kernel_rfl) (by kernel_rfl) (by exact fun _ _ _ h => h) (yields_one (by rfl) _ rfl ⟨g, 0, none⟩ rfl (.map m) (fun _ q => (q.1.1 0 _ rfl).1) map_load) (by assumption) ?_; simp only [Act.put, List.setIfInBounds_toArray, List.set_cons_zero, List.set_cons_succ]) | (refine wpAnyH_take (i := 3) (v := undef) (by simp only [List.getElem?_toArray, List.getElem?_cons_zero, List.getElem?_cons_succ]; rfl) (by kernel_rfl) (by kernel_rfl) (by kernel_rfl) (by exact fun _ _ _ h => h) (Or.inr ⟨by rfl, rfl⟩) (by assumption) ?_; simp only [Act.put, List.setIfInBounds_toArray, List.set_cons_zero, List.set_cons_succ]) | fail
  first | (refine wpAnyH_take (i := 4) (v := _) (by simp only [List.getElem?_toArray, List.getElem?_cons_zero, List.getElem?_cons_succ]; rfl) (by kernel_rfl) (by kernel_rfl) (by kernel_rfl) (by exact fun _ _ _ h => h) (yields_row (by rfl) _ rfl w.heap.size rfl (lab4 x) (fun _ q => q.2.1.range) hundL rfl hsl) (by assumption) ?_; simp only [Act.put, List.setIfInBounds_toArray, List.set_cons_zero, List.set_cons_succ]) | (refine wpAnyH_take (i := 4) (v := undef) (by simp only [List.getElem?_toArray, List.getElem?_cons_zero, List.getElem?_cons_succ]; rfl) (by kernel_rfl) (by kernel_rfl) (by kernel_rfl) (by exact fun _ _ _ h => h) (Or.inr ⟨by rfl, rfl⟩) (by assumption) ?_; simp only [Act.put, List.setIfInBounds_toArray, List.set_cons_zero, List.set_cons_succ]) | fail
  first | (refine wpAnyH_take (i := 5) (v := _) (by simp only [List.getElem?_toArray, List.getElem?_cons_zero, List.getElem?_cons_succ]; rfl) (by kernel_rfl) (by kernel_rfl) (by kernel_rfl) (by exact fun _ _ _ h => h) (yields_look (u := .map m) (v := x.v) (by rfl) _ _ rfl rfl rfl (fun W q => hlk W q.2.2)) (by assumption) ?_; simp only [Act.put, List.setIfInBounds_toArray, List.set_cons_zero, List.set_cons_succ]) | (refine wpAnyH_take (i := 5) (v := undef) (by simp only [List.getElem?_toArray, List.getElem?_cons_zero, List.getElem?_cons_succ]; rfl) (by kernel_rfl) (by kernel_rfl) (by kernel_rfl) (by exact fun _ _ _ h => h) (Or.inr ⟨by rfl, rfl⟩) (by assumption) ?_; simp only [Act.put, List.setIfInBounds_toArray, List.set_cons_zero, List.set_cons_succ]) | fail
  first | (refine wpAnyH_take (i := 6) (v := ?_) (by simp only [List.getElem?_toArray, List.getElem?_cons_zero, List.getElem?_cons_succ]; rfl) (by kernel_rfl) (by kernel_rfl) (by kernel_rfl) (by exact fun _ _ _ h => h) (Or.inl ⟨by rfl, ?_⟩) (by assumption) ?_; rotate_left; (focus (intro w hSw; (try dsimp only at hSw); go_simp; try with_reducible rfl)); simp only [Act.put, List.setIfInBounds_toArray, List.set_cons_zero, List.set_cons_succ]) | (refine wpAnyH_take (i := 6) (v := undef) (by simp only [List.getElem?_toArray, List.getElem?_cons_zero, List.getElem?_cons_succ]; rfl) (by kernel_rfl) (by kernel_rfl) (by kernel_rfl) (by exact fun _ _ _ h => h) (Or.inr ⟨by rfl, rfl⟩) (by assumption) ?_; simp only [Act.put, List.setIfInBounds_toArray, List.set_cons_zero, List.set_cons_succ]) | fail
  refine wpAnyH_done (by kernel_rfl) ?_ _
  go_wp2_with fail
  go_ret
  exact ⟨rfl, Below.then hB0 hBd⟩
theorem cnt_nil : cntL [] = fun _ => 0 := rfl
set_option maxRecDepth 8000 in
set_option maxHeartbeats 4000000 in
theorem cadd_any {S : List Nat} {p : Addr} {ls : List Lab} (x : Lab) (hGx : GL x) (w : World) (h : CntQ w S p ls) (hl : ls.length ≤ 1000) : Calls Try.prog 16 #[.pointer (some p), x.v] w fun e w' => e = .returned (.int .i64 ((cntL ls x + 1 : Nat) : Int)) ∧ ∃ S', CntQ w' S' p (x :: ls) ∧ Turned S w w' ∧ ∀ k ∈ S', k ∈ S ∨ w.heap.size ≤ k := by
  have hundL := Try.underlying25
  have hsl : (Try.prog.info? 25).map (·.size) = some 4 := by kernel_rfl
  have hb0 := blkl_alloc w (lab4 x).toArray 25
  have hB0 := alloc_below w (.cells (lab4 x).toArray 25)
  replace hb0 : BlkL w.heap.size (lab4 x) (w.alloc (.cells (lab4 x).toArray 25)) := hb0
  have hbnd : cntL ls x ≤ 1000 := Nat.le_trans List.countP_le_length hl
  have hgg : ∀ y, cntL (x :: ls) y = if labEq x y = true then cntL ls x + 1 else cntL ls y := fun y => by
    rw [cnt_cons]
    by_cases q : labEq x y = true
    · rw [if_pos q, if_pos q, (labEq_iff _ _).1 q]
    · rw [if_neg q, if_neg q]
      rfl
  have hnew : cntL (x :: ls) x = cntL ls x + 1 := by rw [hgg, if_pos (labEq_self x)]
  have look_run := fun {W : World} {b : Nat} (q : MapL W b (cntL ls)) (hGx : GL x) => look_run q hGx
  obtain ⟨n, hn⟩ : ∃ n, cntL ls x = n := ⟨_, rfl⟩
  have hlk2 := fun W b (q : MapL W b (cntL (x :: ls))) => Go.Proofs.Ytajondkpdgiolaa.look_run q hGx
  rw [hnew] at hlk2
  rw [hn] at look_run hlk2 hbnd hgg ⊢
  have hwr : IntKind.i64.wrap ((n : Int) + 1) = (n : Int) + 1 := by rw [IntKind.wrap_i64]; omega
  clear hn hnew
  obtain ⟨g, rfl, ⟨rfl, hnil, hg⟩ | ⟨b, rfl, hne, hg, hm⟩⟩ := h
  · have hg0 := stab_blk _ _ _ _ hg hB0
    have hmm := @run_makeMap Try.prog
    have heq := eql_nil
    go_enter Try.func16, Try.ntmps16
    go_upto_region 1 with fail
    obtain ⟨Z, hZ⟩ : ∃ Z, w.alloc (.cells (lab4 x).toArray 25) = Z := ⟨_, rfl⟩
    rw [hZ] at hb0 hB0 hg0
    replace hZ : w.alloc (.cells #[.int .i64 x.s, .int .i64 x.c, .int .i64 x.i, .int .i64 x.k] 25) = Z := hZ
    rw [hZ]
    clear hZ
    have hc0 := (hg0.1 0 _ rfl).1
    have hf0 := (hg0.1 0 _ rfl).2
    have hgl := hg0.2
    have hB1 := alloc_below Z (.map #[] 0)
    have hm1 := mapL_made Z
    rw [← cnt_nil, ← hnil] at hm1
    have hg1 := stab_blk _ _ _ _ hg0 hB1
    have hb1 := stab_blk _ _ _ _ hb0 hB1
    have hfz := (hg1.1 0 _ rfl).2
    have hc1 := (hg1.1 0 _ rfl).1
    have hne : g ≠ Z.heap.size := by omega
    have hxb : w.heap.size ≠ Z.heap.size := by have := hb0.2; omega
    obtain ⟨Z1, hZ1⟩ : ∃ Z1, Z.alloc (.map #[] 0) = Z1 := ⟨_, rfl⟩
    rw [hZ1] at hB1 hm1 hg1 hb1 hfz hc1
    obtain ⟨Z2, hZ2⟩ : ∃ Z2, Z1.setCell ⟨g, 0, none⟩ (.map (some Z.heap.size)) = Z2 := ⟨_, rfl⟩
    have hoth : ∀ k, k ≠ g → Z2.heap[k]? = Z1.heap[k]? := fun k hk => by rw [← hZ2]; exact heap_setCell_other Z1 ⟨g, 0, none⟩ k _ hk
    have hsz : Z2.heap.size = Z1.heap.size := by rw [← hZ2]; simp
    have hTZ : Turned [g] w Z2 := by
      refine ⟨?_, ?_, ?_, by rw [hsz]; exact Nat.le_trans hB0.size hB1.size, fun k hk hn => ?_⟩
      · rw [← hZ2]; exact hB1.os.trans hB0.os
      · rw [← hZ2]; exact hB1.tape.trans hB0.tape
      · rw [← hZ2]; exact hB1.output.trans hB0.output
      · rw [hoth k (by simpa using hn), hB1.block k (Nat.lt_of_lt_of_le hk hB0.size), hB0.block k hk]
    have hg2 : BlkL g [.map (some Z.heap.size)] Z2 := by
      rw [← hZ2]
      exact ⟨hg1.1.set 0 _ (by simp), by simpa using hg1.2⟩
    have hgw : w.heap.size ≠ g := fun e => by have := hg.2; omega
    have hb2 : BlkL w.heap.size (lab4 x) Z2 := hb1.keep (hoth _ hgw)
    have hm2 : MapL Z2 Z.heap.size (cntL ls) := hm1.same (hoth _ (Ne.symm hne))
    have hnew : ∀ k ∈ [g, Z.heap.size], k ∈ [g] ∨ w.heap.size ≤ k := fun k hk => by
      simp at hk
      rcases hk with rfl | rfl
      · exact .inl (by simp)
      · exact .inr hB0.size
    have hbw : w.heap.size ≤ Z.heap.size := hB0.size
    clear hg hnil hg0 hB1 hm1 hg1 hb1 hoth hsz hb0 hB0
    go_upto_region 3 with fail
    (try rw [hZ1])
    (try rw [hZ2])
    generalize Z.heap.size = b at *
    clear hZ1 hZ2 hc0 hf0 hgl hfz hc1
    go_cut [] from 14 (fun wc => MapL wc b (cntL (x :: ls)) ∧ (BlkL g [.map (some b)] wc ∧ BlkL w.heap.size (lab4 x) wc) ∧ Turn1 b Z2.drew wc)
    case first =>
      have hBd : Below Z2.heap.size Z2 Z2.drew := (Below.refl _ _).drew
      have hS0 : (fun W => BlkL g [.map (some b)] W ∧ BlkL w.heap.size (lab4 x) W) Z2.drew := ⟨stab_blk _ _ _ _ hg2 hBd, stab_blk _ _ _ _ hb2 hBd⟩
      have hM0 : MapL Z2.drew b (cntL ls) := hm2.same (hBd.block _ hm2.lt)
      have hbx : w.heap.size ≠ b := hxb
      clear hBd hlk2
      refine wp_region_held_drew (S := (fun W => BlkL g [.map (some b)] W ∧ BlkL w.heap.size (lab4 x) W)) (by kernel_rfl) (by exact hS0) ?_
      intro hHeld
      generalize Z2.drew = w0 at *
      refine wpAnyH_take (i := 0) (v := ?_) (by simp only [List.getElem?_toArray, List.getElem?_cons_zero, List.getElem?_cons_succ]; rfl) (by kernel_rfl) (by kernel_rfl) (by kernel_rfl) (by exact fun _ _ _ h => h) (Or.inl ⟨by rfl, ?_⟩) (by assumption) ?_; rotate_left; (focus (intro w hSw; (try dsimp only at hSw); go_simp; try with_reducible rfl)); (try simp only [Act.put, List.setIfInBounds_toArray, List.set_cons_zero, List.set_cons_succ])
      refine wpAnyH_take (i := 1) (v := ?_) (by simp only [List.getElem?_toArray, List.getElem?_cons_zero, List.getElem?_cons_succ]; rfl) (by kernel_rfl) (by kernel_rfl) (by kernel_rfl) (by exact fun _ _ _ h => h) (Or.inl ⟨by rfl, ?_⟩) (by assumption) ?_; rotate_left; (focus (intro w hSw; (try dsimp only at hSw); go_simp; try with_reducible rfl)); (try simp only [Act.put, List.setIfInBounds_toArray, List.set_cons_zero, List.set_cons_succ])
      refine wpAnyH_take (i := 2) (v := ?_) (by simp only [List.getElem?_toArray, List.getElem?_cons_zero, List.getElem?_cons_succ]; rfl) (by kernel_rfl) (by kernel_rfl) (by kernel_rfl) (by exact fun _ _ _ h => h) (Or.inl ⟨by rfl, ?_⟩) (by assumption) ?_; rotate_left; (focus (intro w hSw; (try dsimp only at hSw); go_simp; try with_reducible rfl)); (try simp only [Act.put, List.setIfInBounds_toArray, List.set_cons_zero, List.set_cons_succ])
      refine wpAnyH_take (i := 3) (v := _) (by simp only [List.getElem?_toArray, List.getElem?_cons_zero, List.getElem?_cons_succ]; rfl) (by kernel_rfl) (by kernel_rfl) (by kernel_rfl) (by exact fun _ _ _ h => h) (yields_one (by rfl) _ rfl ⟨g, 0, none⟩ rfl (.map (some b)) (fun _ q => (q.1.1 0 _ rfl).1) map_load) (by assumption) ?_; (try simp only [Act.put, List.setIfInBounds_toArray, List.set_cons_zero, List.set_cons_succ])
      refine wpAnyH_take (i := 4) (v := _) (by simp only [List.getElem?_toArray, List.getElem?_cons_zero, List.getElem?_cons_succ]; rfl) (by kernel_rfl) (by kernel_rfl) (by kernel_rfl) (by exact fun _ _ _ h => h) (yields_row (by rfl) _ rfl w.heap.size rfl (lab4 x) (fun _ q => q.2.range) hundL rfl hsl) (by assumption) ?_; (try simp only [Act.put, List.setIfInBounds_toArray, List.set_cons_zero, List.set_cons_succ])
      refine wpAnyH_ready (rs := [5, 7]) (by kernel_rfl) (by simp) ?_
      refine AllReadyH.cons (by simp only [List.getElem?_toArray, List.getElem?_cons_zero, List.getElem?_cons_succ]; rfl) (fun K hK => ?_) ?_
      · skip
        refine step_look rfl _ _ rfl rfl rfl (look_run hM0 hGx) ?_
        (try simp only [Act.put, List.setIfInBounds_toArray, List.set_cons_zero, List.set_cons_succ])
        refine hK.out _ _ (hS0) ?_
        clear hHeld hK
        intro hHeld
        (try simp only [Act.put, List.setIfInBounds_toArray, List.set_cons_zero, List.set_cons_succ])
        refine wpAnyH_take (i := 6) (v := ?_) (by simp only [List.getElem?_toArray, List.getElem?_cons_zero, List.getElem?_cons_succ]; rfl) (by kernel_rfl) (by kernel_rfl) (by kernel_rfl) (by exact fun _ _ _ h => h) (Or.inl ⟨by rfl, ?_⟩) (by assumption) ?_; rotate_left; (focus (intro w hSw; (try dsimp only at hSw); go_simp; try with_reducible rfl)); (try simp only [Act.put, List.setIfInBounds_toArray, List.set_cons_zero, List.set_cons_succ])
        refine wpAnyH_ready (rs := [7]) (by kernel_rfl) (by simp) ?_
        refine AllReadyH.cons (by simp only [List.getElem?_toArray, List.getElem?_cons_zero, List.getElem?_cons_succ]; rfl) (fun K hK => ?_) AllReadyH.nil
        obtain ⟨v0, st, w1, hrun1, hM1, hSt1, hT01⟩ := entry_run hM0 hGx
        have hS1 : (fun W => BlkL g [.map (some b)] W ∧ BlkL w.heap.size (lab4 x) W) w1 := ⟨hT01.blk hS0.1 hne, hT01.blk hS0.2 hbx⟩
        refine step_entry rfl _ _ rfl rfl rfl hrun1 ?_
        (try simp only [Act.put, List.setIfInBounds_toArray, List.set_cons_zero, List.set_cons_succ])
        refine hK.out _ _ (hS1) ?_
        clear hHeld hK
        intro hHeld
        (try simp only [Act.put, List.setIfInBounds_toArray, List.set_cons_zero, List.set_cons_succ])
        refine wpAnyH_take (i := 8) (v := ?_) (by simp only [List.getElem?_toArray, List.getElem?_cons_zero, List.getElem?_cons_succ]; rfl) (by kernel_rfl) (by kernel_rfl) (by kernel_rfl) (by exact fun _ _ _ h => h) (Or.inl ⟨by rfl, ?_⟩) (by assumption) ?_; rotate_left; (focus (intro w hSw; (try dsimp only at hSw); go_simp; try with_reducible rfl)); (try simp only [Act.put, List.setIfInBounds_toArray, List.set_cons_zero, List.set_cons_succ])
        refine wpAnyH_ready (rs := [9]) (by kernel_rfl) (by simp) ?_
        refine AllReadyH.cons (by simp only [List.getElem?_toArray, List.getElem?_cons_zero, List.getElem?_cons_succ]; rfl) (fun K hK => ?_) AllReadyH.nil
        obtain ⟨w2, hrun2, hM2, hT02⟩ := store_run (n := n + 1) hM1 hSt1 hgg (Nat.succ_pos n)
        have hS2 : (fun W => BlkL g [.map (some b)] W ∧ BlkL w.heap.size (lab4 x) W) w2 := ⟨hT02.blk hS1.1 hne, hT02.blk hS1.2 hbx⟩
        rw [show ((n + 1 : Nat) : Int) = (n : Int) + 1 from by omega] at hrun2
        refine step_estore rfl _ _ _ rfl rfl rfl rfl hrun2 ?_
        (try simp only [Act.put, List.setIfInBounds_toArray, List.set_cons_zero, List.set_cons_succ])
        refine hK.out _ _ (hS2) ?_
        clear hHeld hK
        intro hHeld
        (try simp only [Act.put, List.setIfInBounds_toArray, List.set_cons_zero, List.set_cons_succ])
        refine wpAnyH_done (by kernel_rfl) ?_ _
        go_wp2_with fail
        go_meet
        exact ⟨hM2, hS2, hT01.trans hT02⟩
      refine AllReadyH.cons (by simp only [List.getElem?_toArray, List.getElem?_cons_zero, List.getElem?_cons_succ]; rfl) (fun K hK => ?_) AllReadyH.nil
      obtain ⟨v0, st, w1, hrun1, hM1, hSt1, hT01⟩ := entry_run hM0 hGx
      have hS1 : (fun W => BlkL g [.map (some b)] W ∧ BlkL w.heap.size (lab4 x) W) w1 := ⟨hT01.blk hS0.1 hne, hT01.blk hS0.2 hbx⟩
      refine step_entry rfl _ _ rfl rfl rfl hrun1 ?_
      (try simp only [Act.put, List.setIfInBounds_toArray, List.set_cons_zero, List.set_cons_succ])
      refine hK.out _ _ (hS1) ?_
      clear hHeld hK
      intro hHeld
      (try simp only [Act.put, List.setIfInBounds_toArray, List.set_cons_zero, List.set_cons_succ])
      refine wpAnyH_take (i := 8) (v := ?_) (by simp only [List.getElem?_toArray, List.getElem?_cons_zero, List.getElem?_cons_succ]; rfl) (by kernel_rfl) (by kernel_rfl) (by kernel_rfl) (by exact fun _ _ _ h => h) (Or.inl ⟨by rfl, ?_⟩) (by assumption) ?_; rotate_left; (focus (intro w hSw; (try dsimp only at hSw); go_simp; try with_reducible rfl)); (try simp only [Act.put, List.setIfInBounds_toArray, List.set_cons_zero, List.set_cons_succ])
      refine wpAnyH_ready (rs := [5]) (by kernel_rfl) (by simp) ?_
      refine AllReadyH.cons (by simp only [List.getElem?_toArray, List.getElem?_cons_zero, List.getElem?_cons_succ]; rfl) (fun K hK => ?_) AllReadyH.nil
      refine step_look rfl _ _ rfl rfl rfl (look_run hM1 hGx) ?_
      (try simp only [Act.put, List.setIfInBounds_toArray, List.set_cons_zero, List.set_cons_succ])
      refine hK.out _ _ (hS1) ?_
      clear hHeld hK
      intro hHeld
      (try simp only [Act.put, List.setIfInBounds_toArray, List.set_cons_zero, List.set_cons_succ])
      refine wpAnyH_take (i := 6) (v := ?_) (by simp only [List.getElem?_toArray, List.getElem?_cons_zero, List.getElem?_cons_succ]; rfl) (by kernel_rfl) (by kernel_rfl) (by kernel_rfl) (by exact fun _ _ _ h => h) (Or.inl ⟨by rfl, ?_⟩) (by assumption) ?_; rotate_left; (focus (intro w hSw; (try dsimp only at hSw); go_simp; try with_reducible rfl)); (try simp only [Act.put, List.setIfInBounds_toArray, List.set_cons_zero, List.set_cons_succ])
      refine wpAnyH_ready (rs := [9]) (by kernel_rfl) (by simp) ?_
      refine AllReadyH.cons (by simp only [List.getElem?_toArray, List.getElem?_cons_zero, List.getElem?_cons_succ]; rfl) (fun K hK => ?_) AllReadyH.nil
      obtain ⟨w2, hrun2, hM2, hT02⟩ := store_run (n := n + 1) hM1 hSt1 hgg (Nat.succ_pos n)
      have hS2 : (fun W => BlkL g [.map (some b)] W ∧ BlkL w.heap.size (lab4 x) W) w2 := ⟨hT02.blk hS1.1 hne, hT02.blk hS1.2 hbx⟩
      rw [show ((n + 1 : Nat) : Int) = (n : Int) + 1 from by omega] at hrun2
      refine step_estore rfl _ _ _ rfl rfl rfl rfl hrun2 ?_
      (try simp only [Act.put, List.setIfInBounds_toArray, List.set_cons_zero, List.set_cons_succ])
      refine hK.out _ _ (hS2) ?_
      clear hHeld hK
      intro hHeld
      (try simp only [Act.put, List.setIfInBounds_toArray, List.set_cons_zero, List.set_cons_succ])
      refine wpAnyH_done (by kernel_rfl) ?_ _
      go_wp2_with fail
      go_meet
      exact ⟨hM2, hS2, hT01.trans hT02⟩
    case rest =>
      obtain ⟨hM, hS1, hT⟩ := hcut
      have hTT : Turned [g] w wc.drew := by
        refine ⟨hT.os.trans hTZ.os, hT.tape.trans hTZ.tape, hT.output.trans hTZ.output, ?_, fun k hk hn => ?_⟩
        · show w.heap.size ≤ wc.heap.size
          rw [hT.size]
          exact hTZ.size
        · exact (hT.block k (fun e => by omega)).trans (hTZ.block k hk hn)
      have hS : (fun W => BlkL g [.map (some b)] W ∧ BlkL w.heap.size (lab4 x) W ∧ MapL W b (cntL (x :: ls))) wc.drew := ⟨hS1.1, hS1.2, hM⟩
      clear hM hS1 hT look_run
      go_upto_region 4 with fail
      refine wp_region_held_drew (S := (fun W => BlkL g [.map (some b)] W ∧ BlkL w.heap.size (lab4 x) W ∧ MapL W b (cntL (x :: ls)))) (by kernel_rfl) (by exact hS) ?_
      intro hHeld
      first | (refine wpAnyH_take (i := 0) (v := ?_) (by simp only [List.getElem?_toArray, List.getElem?_cons_zero, List.getElem?_cons_succ]; rfl) (by kernel_rfl) (by kernel_rfl) (by kernel_rfl) (by exact fun _ _ _ h => h) (Or.inl ⟨by rfl, ?_⟩) (by assumption) ?_; rotate_left; (focus (intro w hSw; (try dsimp only at hSw); go_simp; try with_reducible rfl)); simp only [Act.put, List.setIfInBounds_toArray, List.set_cons_zero, List.set_cons_succ]) | (refine wpAnyH_take (i := 0) (v := undef) (by simp only [List.getElem?_toArray, List.getElem?_cons_zero, List.getElem?_cons_succ]; rfl) (by kernel_rfl) (by kernel_rfl) (by kernel_rfl) (by exact fun _ _ _ h => h) (Or.inr ⟨by rfl, rfl⟩) (by assumption) ?_; simp only [Act.put, List.setIfInBounds_toArray, List.set_cons_zero, List.set_cons_succ]) | fail
      first | (refine wpAnyH_take (i := 1) (v := ?_) (by simp only [List.getElem?_toArray, List.getElem?_cons_zero, List.getElem?_cons_succ]; rfl) (by kernel_rfl) (by kernel_rfl) (by kernel_rfl) (by exact fun _ _ _ h => h) (Or.inl ⟨by rfl, ?_⟩) (by assumption) ?_; rotate_left; (focus (intro w hSw; (try dsimp only at hSw); go_simp; try with_reducible rfl)); simp only [Act.put, List.setIfInBounds_toArray, List.set_cons_zero, List.set_cons_succ]) | (refine wpAnyH_take (i := 1) (v := undef) (by simp only [List.getElem?_toArray, List.getElem?_cons_zero, List.getElem?_cons_succ]; rfl) (by kernel_rfl) (by kernel_rfl) (by kernel_rfl) (by exact fun _ _ _ h => h) (Or.inr ⟨by rfl, rfl⟩) (by assumption) ?_; simp only [Act.put, List.setIfInBounds_toArray, List.set_cons_zero, List.set_cons_succ]) | fail
      first | (refine wpAnyH_take (i := 2) (v := ?_) (by simp only [List.getElem?_toArray, List.getElem?_cons_zero, List.getElem?_cons_succ]; rfl) (by kernel_rfl) (by kernel_rfl) (by kernel_rfl) (by exact fun _ _ _ h => h) (Or.inl ⟨by rfl, ?_⟩) (by assumption) ?_; rotate_left; (focus (intro w hSw; (try dsimp only at hSw); go_simp; try with_reducible rfl)); simp only [Act.put, List.setIfInBounds_toArray, List.set_cons_zero, List.set_cons_succ]) | (refine wpAnyH_take (i := 2) (v := undef) (by simp only [List.getElem?_toArray, List.getElem?_cons_zero, List.getElem?_cons_succ]; rfl) (by kernel_rfl) (by kernel_rfl) (by kernel_rfl) (by exact fun _ _ _ h => h) (Or.inr ⟨by rfl, rfl⟩) (by assumption) ?_; simp only [Act.put, List.setIfInBounds_toArray, List.set_cons_zero, List.set_cons_succ]) | fail
      first | (refine wpAnyH_take (i := 3) (v := _) (by simp only [List.getElem?_toArray, List.getElem?_cons_zero, List.getElem?_cons_succ]; rfl) (by kernel_rfl) (by kernel_rfl) (by kernel_rfl) (by exact fun _ _ _ h => h) (yields_one (by rfl) _ rfl ⟨g, 0, none⟩ rfl (.map (some b)) (fun _ q => (q.1.1 0 _ rfl).1) map_load) (by assumption) ?_; simp only [Act.put, List.setIfInBounds_toArray, List.set_cons_zero, List.set_cons_succ]) | (refine wpAnyH_take (i := 3) (v := undef) (by simp only [List.getElem?_toArray, List.getElem?_cons_zero, List.getElem?_cons_succ]; rfl) (by kernel_rfl) (by kernel_rfl) (by kernel_rfl) (by exact fun _ _ _ h => h) (Or.inr ⟨by rfl, rfl⟩) (by assumption) ?_; simp only [Act.put, List.setIfInBounds_toArray, List.set_cons_zero, List.set_cons_succ]) | fail
      first | (refine wpAnyH_take (i := 4) (v := _) (by simp only [List.getElem?_toArray, List.getElem?_cons_zero, List.getElem?_cons_succ]; rfl) (by kernel_rfl) (by kernel_rfl) (by kernel_rfl) (by exact fun _ _ _ h => h) (yields_row (by rfl) _ rfl w.heap.size rfl (lab4 x) (fun _ q => q.2.1.range) hundL rfl hsl) (by assumption) ?_; simp only [Act.put, List.setIfInBounds_toArray, List.set_cons_zero, List.set_cons_succ]) | (refine wpAnyH_take (i := 4) (v := undef) (by simp only [List.getElem?_toArray, List.getElem?_cons_zero, List.getElem?_cons_succ]; rfl) (by kernel_rfl) (by kernel_rfl) (by kernel_rfl) (by exact fun _ _ _ h => h) (Or.inr ⟨by rfl, rfl⟩) (by assumption) ?_; simp only [Act.put, List.setIfInBounds_toArray, List.set_cons_zero, List.set_cons_succ]) | fail
      first | (refine wpAnyH_take (i := 5) (v := _) (by simp only [List.getElem?_toArray, List.getElem?_cons_zero, List.getElem?_cons_succ]; rfl) (by kernel_rfl) (by kernel_rfl) (by kernel_rfl) (by exact fun _ _ _ h => h) (yields_look (u := .map (some b)) (v := x.v) (by rfl) _ _ rfl rfl rfl (fun W q => hlk2 W b q.2.2)) (by assumption) ?_; simp only [Act.put, List.setIfInBounds_toArray, List.set_cons_zero, List.set_cons_succ]) | (refine wpAnyH_take (i := 5) (v := undef) (by simp only [List.getElem?_toArray, List.getElem?_cons_zero, List.getElem?_cons_succ]; rfl) (by kernel_rfl) (by kernel_rfl) (by kernel_rfl) (by exact fun _ _ _ h => h) (Or.inr ⟨by rfl, rfl⟩) (by assumption) ?_; simp only [Act.put, List.setIfInBounds_toArray, List.set_cons_zero, List.set_cons_succ]) | fail
      first | (refine wpAnyH_take (i := 6) (v := ?_) (by simp only [List.getElem?_toArray, List.getElem?_cons_zero, List.getElem?_cons_succ]; rfl) (by kernel_rfl) (by kernel_rfl) (by kernel_rfl) (by exact fun _ _ _ h => h) (Or.inl ⟨by rfl, ?_⟩) (by assumption) ?_; rotate_left; (focus (intro w hSw; (try dsimp only at hSw); go_simp; try with_reducible rfl)); simp only [Act.put, List.setIfInBounds_toArray, List.set_cons_zero, List.set_cons_succ]) | (refine wpAnyH_take (i := 6) (v := undef) (by simp only [List.getElem?_toArray, List.getElem?_cons_zero, List.getElem?_cons_succ]; rfl) (by kernel_rfl) (by kernel_rfl) (by kernel_rfl) (by exact fun _ _ _ h => h) (Or.inr ⟨by rfl, rfl⟩) (by assumption) ?_; simp only [Act.put, List.setIfInBounds_toArray, List.set_cons_zero, List.set_cons_succ]) | fail
      refine wpAnyH_done (by kernel_rfl) ?_ _
      go_wp2_with fail
      go_ret
      exact ⟨rfl, [g, b], ⟨g, rfl, .inr ⟨b, rfl, hne, hS.1, hS.2.2⟩⟩, hTT, fun k hk => by simpa using hnew k hk⟩
  · have heq := eql_map b
    have hg2 := stab_blk _ _ _ _ hg hB0
    have hm2 := hm.same (hB0.block _ hm.lt)
    have hxb : w.heap.size ≠ b := fun q => by have := hm.lt; omega
    have hnew : ∀ k ∈ [g, b], k ∈ [g, b] ∨ w.heap.size ≤ k := fun k hk => .inl hk
    have hTZ : Turned [g, b] w (w.alloc (.cells (lab4 x).toArray 25)) := ⟨hB0.os, hB0.tape, hB0.output, hB0.size, fun k hk _ => hB0.block k hk⟩
    have hb2 := hb0
    clear hb0
    go_enter Try.func16, Try.ntmps16
    go_upto_region 1 with fail
    obtain ⟨Z2, hZ⟩ : ∃ Z2, w.alloc (.cells (lab4 x).toArray 25) = Z2 := ⟨_, rfl⟩
    rw [hZ] at hb2 hB0 hg2 hm2 hTZ
    replace hZ : w.alloc (.cells #[.int .i64 x.s, .int .i64 x.c, .int .i64 x.i, .int .i64 x.k] 25) = Z2 := hZ
    rw [hZ]
    clear hZ
    have hc0 := (hg2.1 0 _ rfl).1
    go_upto_region 3 with fail
    clear hc0 heq
    go_cut [] from 14 (fun wc => MapL wc b (cntL (x :: ls)) ∧ (BlkL g [.map (some b)] wc ∧ BlkL w.heap.size (lab4 x) wc) ∧ Turn1 b Z2.drew wc)
    case first =>
      have hBd : Below Z2.heap.size Z2 Z2.drew := (Below.refl _ _).drew
      have hS0 : (fun W => BlkL g [.map (some b)] W ∧ BlkL w.heap.size (lab4 x) W) Z2.drew := ⟨stab_blk _ _ _ _ hg2 hBd, stab_blk _ _ _ _ hb2 hBd⟩
      have hM0 : MapL Z2.drew b (cntL ls) := hm2.same (hBd.block _ hm2.lt)
      have hbx : w.heap.size ≠ b := hxb
      clear hBd hlk2
      refine wp_region_held_drew (S := (fun W => BlkL g [.map (some b)] W ∧ BlkL w.heap.size (lab4 x) W)) (by kernel_rfl) (by exact hS0) ?_
      intro hHeld
      generalize Z2.drew = w0 at *
      refine wpAnyH_take (i := 0) (v := ?_) (by simp only [List.getElem?_toArray, List.getElem?_cons_zero, List.getElem?_cons_succ]; rfl) (by kernel_rfl) (by kernel_rfl) (by kernel_rfl) (by exact fun _ _ _ h => h) (Or.inl ⟨by rfl, ?_⟩) (by assumption) ?_; rotate_left; (focus (intro w hSw; (try dsimp only at hSw); go_simp; try with_reducible rfl)); (try simp only [Act.put, List.setIfInBounds_toArray, List.set_cons_zero, List.set_cons_succ])
      refine wpAnyH_take (i := 1) (v := ?_) (by simp only [List.getElem?_toArray, List.getElem?_cons_zero, List.getElem?_cons_succ]; rfl) (by kernel_rfl) (by kernel_rfl) (by kernel_rfl) (by exact fun _ _ _ h => h) (Or.inl ⟨by rfl, ?_⟩) (by assumption) ?_; rotate_left; (focus (intro w hSw; (try dsimp only at hSw); go_simp; try with_reducible rfl)); (try simp only [Act.put, List.setIfInBounds_toArray, List.set_cons_zero, List.set_cons_succ])
      refine wpAnyH_take (i := 2) (v := ?_) (by simp only [List.getElem?_toArray, List.getElem?_cons_zero, List.getElem?_cons_succ]; rfl) (by kernel_rfl) (by kernel_rfl) (by kernel_rfl) (by exact fun _ _ _ h => h) (Or.inl ⟨by rfl, ?_⟩) (by assumption) ?_; rotate_left; (focus (intro w hSw; (try dsimp only at hSw); go_simp; try with_reducible rfl)); (try simp only [Act.put, List.setIfInBounds_toArray, List.set_cons_zero, List.set_cons_succ])
      refine wpAnyH_take (i := 3) (v := _) (by simp only [List.getElem?_toArray, List.getElem?_cons_zero, List.getElem?_cons_succ]; rfl) (by kernel_rfl) (by kernel_rfl) (by kernel_rfl) (by exact fun _ _ _ h => h) (yields_one (by rfl) _ rfl ⟨g, 0, none⟩ rfl (.map (some b)) (fun _ q => (q.1.1 0 _ rfl).1) map_load) (by assumption) ?_; (try simp only [Act.put, List.setIfInBounds_toArray, List.set_cons_zero, List.set_cons_succ])
      refine wpAnyH_take (i := 4) (v := _) (by simp only [List.getElem?_toArray, List.getElem?_cons_zero, List.getElem?_cons_succ]; rfl) (by kernel_rfl) (by kernel_rfl) (by kernel_rfl) (by exact fun _ _ _ h => h) (yields_row (by rfl) _ rfl w.heap.size rfl (lab4 x) (fun _ q => q.2.range) hundL rfl hsl) (by assumption) ?_; (try simp only [Act.put, List.setIfInBounds_toArray, List.set_cons_zero, List.set_cons_succ])
      refine wpAnyH_ready (rs := [5, 7]) (by kernel_rfl) (by simp) ?_
      refine AllReadyH.cons (by simp only [List.getElem?_toArray, List.getElem?_cons_zero, List.getElem?_cons_succ]; rfl) (fun K hK => ?_) ?_
      · skip
        refine step_look rfl _ _ rfl rfl rfl (look_run hM0 hGx) ?_
        (try simp only [Act.put, List.setIfInBounds_toArray, List.set_cons_zero, List.set_cons_succ])
        refine hK.out _ _ (hS0) ?_
        clear hHeld hK
        intro hHeld
        (try simp only [Act.put, List.setIfInBounds_toArray, List.set_cons_zero, List.set_cons_succ])
        refine wpAnyH_take (i := 6) (v := ?_) (by simp only [List.getElem?_toArray, List.getElem?_cons_zero, List.getElem?_cons_succ]; rfl) (by kernel_rfl) (by kernel_rfl) (by kernel_rfl) (by exact fun _ _ _ h => h) (Or.inl ⟨by rfl, ?_⟩) (by assumption) ?_; rotate_left; (focus (intro w hSw; (try dsimp only at hSw); go_simp; try with_reducible rfl)); (try simp only [Act.put, List.setIfInBounds_toArray, List.set_cons_zero, List.set_cons_succ])
        refine wpAnyH_ready (rs := [7]) (by kernel_rfl) (by simp) ?_
        refine AllReadyH.cons (by simp only [List.getElem?_toArray, List.getElem?_cons_zero, List.getElem?_cons_succ]; rfl) (fun K hK => ?_) AllReadyH.nil
        obtain ⟨v0, st, w1, hrun1, hM1, hSt1, hT01⟩ := entry_run hM0 hGx
        have hS1 : (fun W => BlkL g [.map (some b)] W ∧ BlkL w.heap.size (lab4 x) W) w1 := ⟨hT01.blk hS0.1 hne, hT01.blk hS0.2 hbx⟩
        refine step_entry rfl _ _ rfl rfl rfl hrun1 ?_
        (try simp only [Act.put, List.setIfInBounds_toArray, List.set_cons_zero, List.set_cons_succ])
        refine hK.out _ _ (hS1) ?_
        clear hHeld hK
        intro hHeld
        (try simp only [Act.put, List.setIfInBounds_toArray, List.set_cons_zero, List.set_cons_succ])
        refine wpAnyH_take (i := 8) (v := ?_) (by simp only [List.getElem?_toArray, List.getElem?_cons_zero, List.getElem?_cons_succ]; rfl) (by kernel_rfl) (by kernel_rfl) (by kernel_rfl) (by exact fun _ _ _ h => h) (Or.inl ⟨by rfl, ?_⟩) (by assumption) ?_; rotate_left; (focus (intro w hSw; (try dsimp only at hSw); go_simp; try with_reducible rfl)); (try simp only [Act.put, List.setIfInBounds_toArray, List.set_cons_zero, List.set_cons_succ])
        refine wpAnyH_ready (rs := [9]) (by kernel_rfl) (by simp) ?_
        refine AllReadyH.cons (by simp only [List.getElem?_toArray, List.getElem?_cons_zero, List.getElem?_cons_succ]; rfl) (fun K hK => ?_) AllReadyH.nil
        obtain ⟨w2, hrun2, hM2, hT02⟩ := store_run (n := n + 1) hM1 hSt1 hgg (Nat.succ_pos n)
        have hS2 : (fun W => BlkL g [.map (some b)] W ∧ BlkL w.heap.size (lab4 x) W) w2 := ⟨hT02.blk hS1.1 hne, hT02.blk hS1.2 hbx⟩
        rw [show ((n + 1 : Nat) : Int) = (n : Int) + 1 from by omega] at hrun2
        refine step_estore rfl _ _ _ rfl rfl rfl rfl hrun2 ?_
        (try simp only [Act.put, List.setIfInBounds_toArray, List.set_cons_zero, List.set_cons_succ])
        refine hK.out _ _ (hS2) ?_
        clear hHeld hK
        intro hHeld
        (try simp only [Act.put, List.setIfInBounds_toArray, List.set_cons_zero, List.set_cons_succ])
        refine wpAnyH_done (by kernel_rfl) ?_ _
        go_wp2_with fail
        go_meet
        exact ⟨hM2, hS2, hT01.trans hT02⟩
      refine AllReadyH.cons (by simp only [List.getElem?_toArray, List.getElem?_cons_zero, List.getElem?_cons_succ]; rfl) (fun K hK => ?_) AllReadyH.nil
      obtain ⟨v0, st, w1, hrun1, hM1, hSt1, hT01⟩ := entry_run hM0 hGx
      have hS1 : (fun W => BlkL g [.map (some b)] W ∧ BlkL w.heap.size (lab4 x) W) w1 := ⟨hT01.blk hS0.1 hne, hT01.blk hS0.2 hbx⟩
      refine step_entry rfl _ _ rfl rfl rfl hrun1 ?_
      (try simp only [Act.put, List.setIfInBounds_toArray, List.set_cons_zero, List.set_cons_succ])
      refine hK.out _ _ (hS1) ?_
      clear hHeld hK
      intro hHeld
      (try simp only [Act.put, List.setIfInBounds_toArray, List.set_cons_zero, List.set_cons_succ])
      refine wpAnyH_take (i := 8) (v := ?_) (by simp only [List.getElem?_toArray, List.getElem?_cons_zero, List.getElem?_cons_succ]; rfl) (by kernel_rfl) (by kernel_rfl) (by kernel_rfl) (by exact fun _ _ _ h => h) (Or.inl ⟨by rfl, ?_⟩) (by assumption) ?_; rotate_left; (focus (intro w hSw; (try dsimp only at hSw); go_simp; try with_reducible rfl)); (try simp only [Act.put, List.setIfInBounds_toArray, List.set_cons_zero, List.set_cons_succ])
      refine wpAnyH_ready (rs := [5]) (by kernel_rfl) (by simp) ?_
      refine AllReadyH.cons (by simp only [List.getElem?_toArray, List.getElem?_cons_zero, List.getElem?_cons_succ]; rfl) (fun K hK => ?_) AllReadyH.nil
      refine step_look rfl _ _ rfl rfl rfl (look_run hM1 hGx) ?_
      (try simp only [Act.put, List.setIfInBounds_toArray, List.set_cons_zero, List.set_cons_succ])
      refine hK.out _ _ (hS1) ?_
      clear hHeld hK
      intro hHeld
      (try simp only [Act.put, List.setIfInBounds_toArray, List.set_cons_zero, List.set_cons_succ])
      refine wpAnyH_take (i := 6) (v := ?_) (by simp only [List.getElem?_toArray, List.getElem?_cons_zero, List.getElem?_cons_succ]; rfl) (by kernel_rfl) (by kernel_rfl) (by kernel_rfl) (by exact fun _ _ _ h => h) (Or.inl ⟨by rfl, ?_⟩) (by assumption) ?_; rotate_left; (focus (intro w hSw; (try dsimp only at hSw); go_simp; try with_reducible rfl)); (try simp only [Act.put, List.setIfInBounds_toArray, List.set_cons_zero, List.set_cons_succ])
      refine wpAnyH_ready (rs := [9]) (by kernel_rfl) (by simp) ?_
      refine AllReadyH.cons (by simp only [List.getElem?_toArray, List.getElem?_cons_zero, List.getElem?_cons_succ]; rfl) (fun K hK => ?_) AllReadyH.nil
      obtain ⟨w2, hrun2, hM2, hT02⟩ := store_run (n := n + 1) hM1 hSt1 hgg (Nat.succ_pos n)
      have hS2 : (fun W => BlkL g [.map (some b)] W ∧ BlkL w.heap.size (lab4 x) W) w2 := ⟨hT02.blk hS1.1 hne, hT02.blk hS1.2 hbx⟩
      rw [show ((n + 1 : Nat) : Int) = (n : Int) + 1 from by omega] at hrun2
      refine step_estore rfl _ _ _ rfl rfl rfl rfl hrun2 ?_
      (try simp only [Act.put, List.setIfInBounds_toArray, List.set_cons_zero, List.set_cons_succ])
      refine hK.out _ _ (hS2) ?_
      clear hHeld hK
      intro hHeld
      (try simp only [Act.put, List.setIfInBounds_toArray, List.set_cons_zero, List.set_cons_succ])
      refine wpAnyH_done (by kernel_rfl) ?_ _
      go_wp2_with fail
      go_meet
      exact ⟨hM2, hS2, hT01.trans hT02⟩
    case rest =>
      obtain ⟨hM, hS1, hT⟩ := hcut
      have hTT : Turned [g, b] w wc.drew := by
        refine ⟨hT.os.trans hTZ.os, hT.tape.trans hTZ.tape, hT.output.trans hTZ.output, ?_, fun k hk hn => ?_⟩
        · show w.heap.size ≤ wc.heap.size
          rw [hT.size]
          exact hTZ.size
        · exact (hT.block k (fun e => hn (by simp [e]))).trans (hTZ.block k hk hn)
      have hS : (fun W => BlkL g [.map (some b)] W ∧ BlkL w.heap.size (lab4 x) W ∧ MapL W b (cntL (x :: ls))) wc.drew := ⟨hS1.1, hS1.2, hM⟩
      clear hM hS1 hT look_run
      go_upto_region 4 with fail
      refine wp_region_held_drew (S := (fun W => BlkL g [.map (some b)] W ∧ BlkL w.heap.size (lab4 x) W ∧ MapL W b (cntL (x :: ls)))) (by kernel_rfl) (by exact hS) ?_
      intro hHeld
      first | (refine wpAnyH_take (i := 0) (v := ?_) (by simp only [List.getElem?_toArray, List.getElem?_cons_zero, List.getElem?_cons_succ]; rfl) (by kernel_rfl) (by kernel_rfl) (by kernel_rfl) (by exact fun _ _ _ h => h) (Or.inl ⟨by rfl, ?_⟩) (by assumption) ?_; rotate_left; (focus (intro w hSw; (try dsimp only at hSw); go_simp; try with_reducible rfl)); simp only [Act.put, List.setIfInBounds_toArray, List.set_cons_zero, List.set_cons_succ]) | (refine wpAnyH_take (i := 0) (v := undef) (by simp only [List.getElem?_toArray, List.getElem?_cons_zero, List.getElem?_cons_succ]; rfl) (by kernel_rfl) (by kernel_rfl) (by kernel_rfl) (by exact fun _ _ _ h => h) (Or.inr ⟨by rfl, rfl⟩) (by assumption) ?_; simp only [Act.put, List.setIfInBounds_toArray, List.set_cons_zero, List.set_cons_succ]) | fail
      first | (refine wpAnyH_take (i := 1) (v := ?_) (by simp only [List.getElem?_toArray, List.getElem?_cons_zero, List.getElem?_cons_succ]; rfl) (by kernel_rfl) (by kernel_rfl) (by kernel_rfl) (by exact fun _ _ _ h => h) (Or.inl ⟨by rfl, ?_⟩) (by assumption) ?_; rotate_left; (focus (intro w hSw; (try dsimp only at hSw); go_simp; try with_reducible rfl)); simp only [Act.put, List.setIfInBounds_toArray, List.set_cons_zero, List.set_cons_succ]) | (refine wpAnyH_take (i := 1) (v := undef) (by simp only [List.getElem?_toArray, List.getElem?_cons_zero, List.getElem?_cons_succ]; rfl) (by kernel_rfl) (by kernel_rfl) (by kernel_rfl) (by exact fun _ _ _ h => h) (Or.inr ⟨by rfl, rfl⟩) (by assumption) ?_; simp only [Act.put, List.setIfInBounds_toArray, List.set_cons_zero, List.set_cons_succ]) | fail
      first | (refine wpAnyH_take (i := 2) (v := ?_) (by simp only [List.getElem?_toArray, List.getElem?_cons_zero, List.getElem?_cons_succ]; rfl) (by kernel_rfl) (by kernel_rfl) (by kernel_rfl) (by exact fun _ _ _ h => h) (Or.inl ⟨by rfl, ?_⟩) (by assumption) ?_; rotate_left; (focus (intro w hSw; (try dsimp only at hSw); go_simp; try with_reducible rfl)); simp only [Act.put, List.setIfInBounds_toArray, List.set_cons_zero, List.set_cons_succ]) | (refine wpAnyH_take (i := 2) (v := undef) (by simp only [List.getElem?_toArray, List.getElem?_cons_zero, List.getElem?_cons_succ]; rfl) (by kernel_rfl) (by kernel_rfl) (by kernel_rfl) (by exact fun _ _ _ h => h) (Or.inr ⟨by rfl, rfl⟩) (by assumption) ?_; simp only [Act.put, List.setIfInBounds_toArray, List.set_cons_zero, List.set_cons_succ]) | fail
      first | (refine wpAnyH_take (i := 3) (v := _) (by simp only [List.getElem?_toArray, List.getElem?_cons_zero, List.getElem?_cons_succ]; rfl) (by kernel_rfl) (by kernel_rfl) (by kernel_rfl) (by exact fun _ _ _ h => h) (yields_one (by rfl) _ rfl ⟨g, 0, none⟩ rfl (.map (some b)) (fun _ q => (q.1.1 0 _ rfl).1) map_load) (by assumption) ?_; simp only [Act.put, List.setIfInBounds_toArray, List.set_cons_zero, List.set_cons_succ]) | (refine wpAnyH_take (i := 3) (v := undef) (by simp only [List.getElem?_toArray, List.getElem?_cons_zero, List.getElem?_cons_succ]; rfl) (by kernel_rfl) (by kernel_rfl) (by kernel_rfl) (by exact fun _ _ _ h => h) (Or.inr ⟨by rfl, rfl⟩) (by assumption) ?_; simp only [Act.put, List.setIfInBounds_toArray, List.set_cons_zero, List.set_cons_succ]) | fail
      first | (refine wpAnyH_take (i := 4) (v := _) (by simp only [List.getElem?_toArray, List.getElem?_cons_zero, List.getElem?_cons_succ]; rfl) (by kernel_rfl) (by kernel_rfl) (by kernel_rfl) (by exact fun _ _ _ h => h) (yields_row (by rfl) _ rfl w.heap.size rfl (lab4 x) (fun _ q => q.2.1.range) hundL rfl hsl) (by assumption) ?_; simp only [Act.put, List.setIfInBounds_toArray, List.set_cons_zero, List.set_cons_succ]) | (refine wpAnyH_take (i := 4) (v := undef) (by simp only [List.getElem?_toArray, List.getElem?_cons_zero, List.getElem?_cons_succ]; rfl) (by kernel_rfl) (by kernel_rfl) (by kernel_rfl) (by exact fun _ _ _ h => h) (Or.inr ⟨by rfl, rfl⟩) (by assumption) ?_; simp only [Act.put, List.setIfInBounds_toArray, List.set_cons_zero, List.set_cons_succ]) | fail
      first | (refine wpAnyH_take (i := 5) (v := _) (by simp only [List.getElem?_toArray, List.getElem?_cons_zero, List.getElem?_cons_succ]; rfl) (by kernel_rfl) (by kernel_rfl) (by kernel_rfl) (by exact fun _ _ _ h => h) (yields_look (u := .map (some b)) (v := x.v) (by rfl) _ _ rfl rfl rfl (fun W q => hlk2 W b q.2.2)) (by assumption) ?_; simp only [Act.put, List.setIfInBounds_toArray, List.set_cons_zero, List.set_cons_succ]) | (refine wpAnyH_take (i := 5) (v := undef) (by simp only [List.getElem?_toArray, List.getElem?_cons_zero, List.getElem?_cons_succ]; rfl) (by kernel_rfl) (by kernel_rfl) (by kernel_rfl) (by exact fun _ _ _ h => h) (Or.inr ⟨by rfl, rfl⟩) (by assumption) ?_; simp only [Act.put, List.setIfInBounds_toArray, List.set_cons_zero, List.set_cons_succ]) | fail
      first | (refine wpAnyH_take (i := 6) (v := ?_) (by simp only [List.getElem?_toArray, List.getElem?_cons_zero, List.getElem?_cons_succ]; rfl) (by kernel_rfl) (by kernel_rfl) (by kernel_rfl) (by exact fun _ _ _ h => h) (Or.inl ⟨by rfl, ?_⟩) (by assumption) ?_; rotate_left; (focus (intro w hSw; (try dsimp only at hSw); go_simp; try with_reducible rfl)); simp only [Act.put, List.setIfInBounds_toArray, List.set_cons_zero, List.set_cons_succ]) | (refine wpAnyH_take (i := 6) (v := undef) (by simp only [List.getElem?_toArray, List.getElem?_cons_zero, List.getElem?_cons_succ]; rfl) (by kernel_rfl) (by kernel_rfl) (by kernel_rfl) (by exact fun _ _ _ h => h) (Or.inr ⟨by rfl, rfl⟩) (by assumption) ?_; simp only [Act.put, List.setIfInBounds_toArray, List.set_cons_zero, List.set_cons_succ]) | fail
      refine wpAnyH_done (by kernel_rfl) ?_ _
      go_wp2_with fail
      go_ret
      exact ⟨rfl, [g, b], ⟨g, rfl, .inr ⟨b, rfl, hne, hS.1, hS.2.2⟩⟩, hTT, fun k hk => by simpa using hnew k hk⟩
theorem cnts3 : Cnts3 CntQ := ⟨fun h k => h.keep k, fun h => h.lt, cnew_any, fun x hx w h hl => cadd_any x hx w h hl, fun x hx w h => cof_any x hx w h⟩
end Go.Proofs.Ytajondkpdgiolaa
