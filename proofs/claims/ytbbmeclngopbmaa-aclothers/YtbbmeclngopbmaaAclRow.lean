/-
  ROWS OF GRANTS: cells, copy, make, append; acl.between.
-/
import Derived.Test.YtbbmeclngopbmaaAclFind
import Derived.Test.YtbbmeclngopbmaaAclName
import Derived.Laws.CopyRow
import Derived.Laws.CopyOwn
import Derived.Laws.MakeOwn
import Derived.Deep.Slices
namespace Go.Proofs.Ytbbmeclngopbmaa
open Go.RowKit
set_option linter.unusedSimpArgs false

/-- The cells of a list. -/
def cellsG : List Gr → List Value
  | [] => []
  | g :: r => .string g.u :: .int .i64 g.m :: cellsG r
theorem cellsG_len : ∀ l : List Gr, (cellsG l).length = l.length * 2
  | [] => rfl
  | g :: r => by simp only [cellsG, List.length_cons, cellsG_len r]; omega
theorem cellsG_append : ∀ (a b : List Gr), cellsG (a ++ b) = cellsG a ++ cellsG b
  | [], b => rfl
  | g :: r, b => by simp only [List.cons_append, cellsG, cellsG_append r b]
theorem cellsG_get : ∀ (l : List Gr) (j : Nat) (g : Gr), l[j]? = some g → (cellsG l)[j * 2]? = some (.string g.u) ∧ (cellsG l)[j * 2 + 1]? = some (.int .i64 g.m)
  | [], j, g, h => by simp at h
  | c :: r, 0, g, h => by simp at h; subst h; exact ⟨rfl, rfl⟩
  | c :: r, j + 1, g, h => by
    have := cellsG_get r j g (by simpa using h)
    rw [show (j + 1) * 2 = j * 2 + 2 by omega]
    simpa [cellsG] using this
theorem cellsG_one (l : List Gr) : ∀ u ∈ cellsG l, u.oneCell' = true := by
  induction l with
  | nil => intro u hu; cases hu
  | cons c r ih =>
    intro u hu
    simp only [cellsG, List.mem_cons] at hu
    rcases hu with rfl | rfl | hu
    · rfl
    · rfl
    · exact ih u hu
theorem add_next (x : Addr) (k : Nat) : x.add (k + 1) = ⟨(x.add k).block, (x.add k).off + 1, none⟩ := by
  unfold Addr.add
  by_cases h : k = 0 <;> simp [h, Nat.add_assoc]
/-- As cells. -/
theorem GAt.cells {w : World} {x : Addr} {l : List Gr} (h : GAt w (some x) l) : ∀ j v, (cellsG l)[j]? = some v → w.cell? (x.add j) = some v := by
  intro j v hv
  have hj : j < l.length * 2 := by rw [← cellsG_len]; exact (List.getElem?_eq_some_iff.1 hv).1
  obtain ⟨g, hg⟩ : ∃ g, l[j / 2]? = some g := ⟨_, List.getElem?_eq_getElem (by omega)⟩
  obtain ⟨x', hx, h1, h2⟩ := h _ _ hg
  obtain rfl : x = x' := by simpa using hx
  obtain ⟨k1, k2⟩ := cellsG_get l _ _ hg
  rcases Nat.mod_two_eq_zero_or_one j with hm | hm
  · rw [show j / 2 * 2 = j by omega] at h1 k1
    rw [hv] at k1
    rw [h1, ← k1]
  · rw [show j / 2 * 2 + 1 = j by omega] at k2
    rw [hv] at k2
    rw [← add_next, show j / 2 * 2 + 1 = j by omega] at h2
    rw [h2, ← k2]
theorem gat_of {w : World} {x : Addr} {l : List Gr} (h : ∀ j v, (cellsG l)[j]? = some v → w.cell? (x.add j) = some v) : GAt w (some x) l := by
  intro j g hg
  obtain ⟨k1, k2⟩ := cellsG_get l _ _ hg
  refine ⟨x, rfl, h _ _ k1, ?_⟩
  rw [← add_next]
  exact h _ _ k2
theorem GAt.left {w : World} {a : Option Addr} {A R : List Gr} (h : GAt w a (A ++ R)) : GAt w a A := by
  intro j g hg
  exact h j g (by rw [List.getElem?_append_left (List.getElem?_eq_some_iff.1 hg).1]; exact hg)
theorem GAt.right {w : World} {x : Addr} {A R : List Gr} (h : GAt w (some x) (A ++ R)) : GAt w (some (x.add (A.length * 2))) R := by
  refine gat_of fun j v hv => ?_
  rw [Go.Deep.add_add]
  refine h.cells _ _ ?_
  rw [cellsG_append, List.getElem?_append_right (by rw [cellsG_len]; omega), cellsG_len]
  rw [show A.length * 2 + j - A.length * 2 = j by omega]
  exact hv
theorem gat_nil (w : World) (a : Option Addr) : GAt w a [] := fun j g h => by simp at h
/-- A row that holds a list. -/
theorem gat_row {w : World} {g : Nat} {cur : Array Value} {t : TypeId} {fr : Nat × Nat} (hb : w.heap[g]? = some (.cells cur t fr)) (l : List Gr) (hc : ∀ j, j < l.length * 2 → cur[j]? = (cellsG l)[j]?) : GAt w (some ⟨g, 0, none⟩) l := by
  refine gat_of fun j v hv => ?_
  have hj : j < l.length * 2 := by rw [← cellsG_len]; exact (List.getElem?_eq_some_iff.1 hv).1
  rw [Addr.add_mid]
  rw [← hv, ← hc j hj]
  simp [World.cell?, hb]

/-- copy. -/
theorem copy_gr (w : World) (g o dLen dCap : Nat) (cur : Array Value) (a : Option Addr) (R : List Gr) (cap : Nat) (hg : w.heap[g]? = some (.cells cur 40 (0, 0))) (hle : R.length ≤ dLen) (hfit : o + R.length * 2 ≤ cur.size) (hG : GAt w a R) :
    (Builtin.copy_ #[22, 22] 3 #[.slice (some ⟨g, o, none⟩) dLen dCap, .slice a R.length cap]).run Try.prog w = .ok (.int .i64 (R.length : Int)) (w.setRow g (cur.toList.take o ++ cellsG R ++ cur.toList.drop (o + R.length * 2)).toArray) := by
  have hst := run_storeCells_at Try.prog g o 40 (cellsG R) 0 cur w hg (by rw [cellsG_len]; simpa using hfit) (cellsG_one R)
  rw [cellsG_len] at hst
  simp only [Nat.add_zero] at hst
  have hmin : Nat.min R.length dLen = R.length := Nat.min_eq_left hle
  obtain ⟨i, hi, hsz⟩ : ∃ i, Try.prog.info? 40 = some i ∧ i.size = 2 := by
    have : (Try.prog.info? 40).map (·.size) = some 2 := by kernel_rfl
    cases h : Try.prog.info? 40 with
    | none => rw [h] at this; cases this
    | some i => rw [h] at this; exact ⟨i, rfl, by simpa using this⟩
  cases a with
  | some x =>
    have hl := run_loadCells_list (P := Try.prog) w x (cellsG R) hG.cells
    rw [cellsG_len] at hl
    simp [Builtin.copy_, run_underlying Try.underlying22, Builtin.lenOf, Builtin.firstCells, sizeOf, typeInfo, hi, hsz, hmin, hl, hst, goInt]
  | none =>
    have hR : R = [] := by
      cases R with
      | nil => rfl
      | cons y r => obtain ⟨x, hx, _⟩ := hG 0 y rfl; cases hx
    subst hR
    simp only [cellsG] at hst
    simp [Builtin.copy_, run_underlying Try.underlying22, Builtin.lenOf, Builtin.firstCells, sizeOf, typeInfo, hi, goInt, cellsG] at hst ⊢
    simp [hst]

theorem info_gr : (Try.prog.info? 40).map (fun i => (i.zero, i.size, i.bytes)) = some (some (.agg #[.string ⟨#[]⟩, .int .i64 0]), 2, 24) := by kernel_rfl
theorem info_grs : ∃ i, Try.prog.info? 40 = some i ∧ i.zero = some (.agg #[.string ⟨#[]⟩, .int .i64 0]) ∧ i.size = 2 ∧ i.bytes = 24 := by
  have := info_gr
  cases h : Try.prog.info? 40 with
  | none => rw [h] at this; cases this
  | some i =>
    rw [h] at this
    have hq : (i.zero, i.size, i.bytes) = (some (.agg #[.string ⟨#[]⟩, .int .i64 0]), 2, 24) := by simpa using this
    exact ⟨i, rfl, congrArg Prod.fst hq, congrArg (fun p => p.2.1) hq, congrArg (fun p => p.2.2) hq⟩
/-- make. -/
theorem make_gr (w : World) (n : Nat) (hn : n ≤ 1000) : ∃ cur : Array Value, cur.size = n * 2 ∧ (Instr.makeSlice 22 (.int .i64 (n : Int)) (.int .i64 (n : Int))).run Try.prog w = .ok (.slice (some ⟨w.heap.size, 0, none⟩) n n) (w.alloc (.cells cur 40)) := by
  obtain ⟨i, hi, hz, hs, hb⟩ := info_grs
  have h := run_make (P := Try.prog) w 22 40 i _ Try.underlying22 hi hz .i64 .i64 n n (by omega) (by omega) (by rw [hb]; omega) (by omega)
  refine ⟨_, ?_, h⟩
  rw [hs]
  simp [madeCells]

theorem copy_step (w : World) (g o dLen dCap : Nat) (X Z : List Value) (a : Option Addr) (R : List Gr) (cap : Nat) (ho : X.length = o) (hg : w.heap[g]? = some (.cells (X ++ Z).toArray 40 (0, 0))) (hle : R.length ≤ dLen) (hfit : R.length * 2 ≤ Z.length) (hG : GAt w a R) :
    ∃ W' Z', (Builtin.copy_ #[22, 22] 3 #[.slice (some ⟨g, o, none⟩) dLen dCap, .slice a R.length cap]).run Try.prog w = .ok (.int .i64 (R.length : Int)) W' ∧ W'.heap[g]? = some (.cells ((X ++ cellsG R) ++ Z').toArray 40 (0, 0)) ∧ Z'.length + R.length * 2 = Z.length ∧ ∀ B, B ≤ g → Below B w W' := by
  refine ⟨_, Z.drop (R.length * 2), copy_gr w g o dLen dCap _ a R cap hg hle (by simp; omega) hG, ?_, by simp; omega, fun B hB => below_setRow (Below.refl _ _) hB _⟩
  rw [setRow_heap w g _ _ _ _ hg]
  congr 3
  subst ho
  simp [List.drop_append]

theorem copy_nothing (w : World) (d : Option Addr) (dLen dCap : Nat) (a : Option Addr) (cap : Nat) :
    (Builtin.copy_ #[22, 22] 3 #[.slice d dLen dCap, .slice a 0 cap]).run Try.prog w = .ok (.int .i64 0) w := by
  obtain ⟨i, hi, hz, hsz, hb⟩ := info_grs
  have hl : ∀ (x : Addr), (loadCells x 0).run Try.prog w = .ok #[] w := fun x => by simpa using run_loadCells_list (P := Try.prog) w x [] (by simp)
  cases d <;> cases a <;> simp [Builtin.copy_, run_underlying Try.underlying22, Builtin.lenOf, Builtin.firstCells, sizeOf, typeInfo, hi, storeCells, hl, goInt]

set_option maxHeartbeats 2000000 in
theorem between3 (w : World) (a1 a2 a3 : Option Addr) (c1 c2 c3 : Nat) (A M B : List Gr) (hA : GAt w a1 A) (hM : GAt w a2 M) (hB : GAt w a3 B) (hl : A.length + M.length + B.length ≤ 1000) (h0 : B ≠ []) :
    Calls Try.prog 20 #[.slice a1 A.length c1, .slice a2 M.length c2, .slice a3 B.length c3] w fun e w' => ∃ g, e = .returned (.slice (some ⟨g, 0, none⟩) (A ++ (M ++ B)).length (A ++ (M ++ B)).length) ∧ w'.heap[g]? = some (.cells (cellsG (A ++ (M ++ B))).toArray 40 (0, 0)) ∧ w.heap.size ≤ g ∧ Below w.heap.size w w' := by
  obtain ⟨n1, h1⟩ : ∃ n, A.length = n := ⟨_, rfl⟩
  obtain ⟨n2, h2⟩ : ∃ n, M.length = n := ⟨_, rfl⟩
  obtain ⟨n3, h3⟩ : ∃ n, B.length = n := ⟨_, rfl⟩
  have hlen : (A ++ (M ++ B)).length = n1 + n2 + n3 := by simp; omega
  simp only [h1, h2, h3] at hl
  have hpos : 0 < n3 := by rw [← h3]; exact List.length_pos_iff.2 h0
  obtain ⟨cur, hcur, hmk⟩ := make_gr w (n1 + n2 + n3) (by omega)
  have hb0 := alloc_below w (.cells cur 40)
  obtain ⟨g, hgw⟩ : ∃ g, w.heap.size = g := ⟨_, rfl⟩
  have hr0 : (w.alloc (.cells cur 40)).heap[g]? = some (.cells ([] ++ cur.toList).toArray 40 (0, 0)) := by
    rw [← hgw, heap_alloc_new w _]; simp
  generalize w.alloc (.cells cur 40) = W0 at hmk hb0 hr0
  obtain ⟨W1, Z1, hc1, hr1, hz1, hb1⟩ := copy_step W0 g 0 (n1 + n2 + n3) (n1 + n2 + n3) [] cur.toList a1 A c1 rfl hr0 (by omega) (by simp; omega) (hA.below hb0)
  have hB1 := hb0.trans (hb1 w.heap.size (by omega))
  obtain ⟨W2, Z2, hc2, hr2, hz2, hb2⟩ := copy_step W1 g (n1 * 2) (n1 + n2 + n3 - n1) (n1 + n2 + n3 - n1) ([] ++ cellsG A) Z1 a2 M c2 (by simp [cellsG_len, h1]) hr1 (by omega) (by simp at hz1; omega) (hM.below hB1)
  have hB2 := hB1.trans (hb2 w.heap.size (by omega))
  obtain ⟨W3, Z3, hc3, hr3, hz3, hb3⟩ := copy_step W2 g ((n1 + n2) * 2) n3 n3 ([] ++ cellsG A ++ cellsG M) Z2 a3 B c3 (by simp [cellsG_len, h1, h2]; omega) hr2 (by omega) (by simp at hz1; omega) (hB.below hB2)
  have hB3 := hB2.trans (hb3 w.heap.size (by omega))
  have hz : Z3 = [] := by
    cases Z3 with
    | nil => rfl
    | cons x r => simp at hz1 hz3; omega
  rw [hz] at hr3
  have hr : W3.heap[g]? = some (.cells (cellsG (A ++ (M ++ B))).toArray 40 (0, 0)) := by
    rw [hr3, cellsG_append, cellsG_append]; simp [cellsG]
  rw [h1] at hc1
  rw [h2] at hc2
  rw [h3] at hc3
  clear hr0 hr1 hz1 hb1 hr2 hz2 hb2 hr3 hz3 hb3 hb0 hz
  rw [hlen, h1, h2, h3]
  rw [hgw] at hmk
  push_cast at hmk
  go_enter Try.func20, Try.ntmps20
  go_wp2_with fail
  go_ret
  exact ⟨g, rfl, hr, by omega, hB3⟩
set_option maxHeartbeats 2000000 in
theorem between2 (w : World) (a1 a2 a3 : Option Addr) (c1 c2 c3 : Nat) (A M B : List Gr) (hA : GAt w a1 A) (hM : GAt w a2 M) (hB : GAt w a3 B) (hl : A.length + M.length + B.length ≤ 1000) (hB0 : B = []) (h0 : M ≠ []) :
    Calls Try.prog 20 #[.slice a1 A.length c1, .slice a2 M.length c2, .slice a3 B.length c3] w fun e w' => ∃ g, e = .returned (.slice (some ⟨g, 0, none⟩) (A ++ (M ++ B)).length (A ++ (M ++ B)).length) ∧ w'.heap[g]? = some (.cells (cellsG (A ++ (M ++ B))).toArray 40 (0, 0)) ∧ w.heap.size ≤ g ∧ Below w.heap.size w w' := by
  obtain ⟨n1, h1⟩ : ∃ n, A.length = n := ⟨_, rfl⟩
  obtain ⟨n2, h2⟩ : ∃ n, M.length = n := ⟨_, rfl⟩
  subst hB0
  have hlen : (A ++ (M ++ [])).length = n1 + n2 := by simp; omega
  simp only [h1, h2, List.length_nil, Nat.add_zero] at hl
  have hpos : 0 < n2 := by rw [← h2]; exact List.length_pos_iff.2 h0
  obtain ⟨cur, hcur, hmk⟩ := make_gr w (n1 + n2) (by omega)
  have hb0 := alloc_below w (.cells cur 40)
  obtain ⟨g, hgw⟩ : ∃ g, w.heap.size = g := ⟨_, rfl⟩
  have hr0 : (w.alloc (.cells cur 40)).heap[g]? = some (.cells ([] ++ cur.toList).toArray 40 (0, 0)) := by
    rw [← hgw, heap_alloc_new w _]; simp
  generalize w.alloc (.cells cur 40) = W0 at hmk hb0 hr0
  obtain ⟨W1, Z1, hc1, hr1, hz1, hb1⟩ := copy_step W0 g 0 (n1 + n2) (n1 + n2) [] cur.toList a1 A c1 rfl hr0 (by omega) (by simp; omega) (hA.below hb0)
  have hB1 := hb0.trans (hb1 w.heap.size (by omega))
  obtain ⟨W2, Z2, hc2, hr2, hz2, hb2⟩ := copy_step W1 g (n1 * 2) (n2) (n2) ([] ++ cellsG A) Z1 a2 M c2 (by simp [cellsG_len, h1]) hr1 (by omega) (by simp at hz1; omega) (hM.below hB1)
  have hB2 := hB1.trans (hb2 w.heap.size (by omega))
  have hz : Z2 = [] := by
    cases Z2 with
    | nil => rfl
    | cons x r => simp at hz1 hz2; omega
  rw [hz] at hr2
  have hr : W2.heap[g]? = some (.cells (cellsG (A ++ (M ++ []))).toArray 40 (0, 0)) := by
    rw [hr2, cellsG_append, cellsG_append]; simp [cellsG]
  rw [h1] at hc1
  rw [h2] at hc2
  clear hr0 hr1 hz1 hb1 hr2 hz2 hb2 hb0 hz
  have hN := copy_nothing
  rw [hlen, h1, h2]
  simp only [List.length_nil]
  rw [hgw] at hmk
  push_cast at hmk
  go_enter Try.func20, Try.ntmps20
  go_wp2_with fail
  go_ret
  exact ⟨g, rfl, hr, by omega, hB2⟩
set_option maxHeartbeats 2000000 in
theorem between1 (w : World) (a1 a2 a3 : Option Addr) (c1 c2 c3 : Nat) (A M B : List Gr) (hA : GAt w a1 A) (hM : GAt w a2 M) (hB : GAt w a3 B) (hl : A.length + M.length + B.length ≤ 1000) (hB0 : B = []) (hM0 : M = []) :
    Calls Try.prog 20 #[.slice a1 A.length c1, .slice a2 M.length c2, .slice a3 B.length c3] w fun e w' => ∃ g, e = .returned (.slice (some ⟨g, 0, none⟩) (A ++ (M ++ B)).length (A ++ (M ++ B)).length) ∧ w'.heap[g]? = some (.cells (cellsG (A ++ (M ++ B))).toArray 40 (0, 0)) ∧ w.heap.size ≤ g ∧ Below w.heap.size w w' := by
  obtain ⟨n1, h1⟩ : ∃ n, A.length = n := ⟨_, rfl⟩
  subst hB0
  subst hM0
  have hlen : (A ++ ([] ++ [])).length = n1 := by simp; exact h1
  simp only [h1, List.length_nil, Nat.add_zero] at hl
  obtain ⟨cur, hcur, hmk⟩ := make_gr w (n1) (by omega)
  have hb0 := alloc_below w (.cells cur 40)
  obtain ⟨g, hgw⟩ : ∃ g, w.heap.size = g := ⟨_, rfl⟩
  have hr0 : (w.alloc (.cells cur 40)).heap[g]? = some (.cells ([] ++ cur.toList).toArray 40 (0, 0)) := by
    rw [← hgw, heap_alloc_new w _]; simp
  generalize w.alloc (.cells cur 40) = W0 at hmk hb0 hr0
  obtain ⟨W1, Z1, hc1, hr1, hz1, hb1⟩ := copy_step W0 g 0 (n1) (n1) [] cur.toList a1 A c1 rfl hr0 (by omega) (by simp; omega) (hA.below hb0)
  have hB1 := hb0.trans (hb1 w.heap.size (by omega))
  have hz : Z1 = [] := by
    cases Z1 with
    | nil => rfl
    | cons x r => simp at hz1 hz1; omega
  rw [hz] at hr1
  have hr : W1.heap[g]? = some (.cells (cellsG (A ++ ([] ++ []))).toArray 40 (0, 0)) := by
    rw [hr1, cellsG_append, cellsG_append]; simp [cellsG]
  rw [h1] at hc1
  clear hr0 hr1 hz1 hb1 hb0 hz
  have hN := copy_nothing
  rw [hlen, h1]
  simp only [List.length_nil]
  rw [hgw] at hmk
  push_cast at hmk
  go_enter Try.func20, Try.ntmps20
  go_wp2_with fail
  go_ret
  exact ⟨g, rfl, hr, by omega, hB1⟩
set_option maxHeartbeats 2000000 in
theorem between_any (w : World) (a1 a2 a3 : Option Addr) (c1 c2 c3 : Nat) (A M B : List Gr) (hA : GAt w a1 A) (hM : GAt w a2 M) (hB : GAt w a3 B) (hl : A.length + M.length + B.length ≤ 1000) :
    Calls Try.prog 20 #[.slice a1 A.length c1, .slice a2 M.length c2, .slice a3 B.length c3] w fun e w' => ∃ g, e = .returned (.slice (some ⟨g, 0, none⟩) (A ++ (M ++ B)).length (A ++ (M ++ B)).length) ∧ w'.heap[g]? = some (.cells (cellsG (A ++ (M ++ B))).toArray 40 (0, 0)) ∧ w.heap.size ≤ g ∧ Below w.heap.size w w' := by
  by_cases hB0 : B = []
  · by_cases hM0 : M = []
    · exact between1 w a1 a2 a3 c1 c2 c3 A M B hA hM hB hl hB0 hM0
    · exact between2 w a1 a2 a3 c1 c2 c3 A M B hA hM hB hl hB0 hM0
  · exact between3 w a1 a2 a3 c1 c2 c3 A M B hA hM hB hl hB0

/-- Where a part of a slice begins. -/
def sub (a : Option Addr) (l m : Nat) : Option Addr := if m = l then a else a.map (·.add (l * 2))
theorem slice_to (w : World) (a : Option Addr) (n cap c : Nat) (hc : c ≤ n) (hn : n ≤ cap) :
    (Instr.slice 22 (.slice a n cap) none (some (.int .i64 (c : Int))) none).run Try.prog w = .ok (.slice a c cap) w := by
  obtain ⟨i, hi, hz, hsz, hby⟩ := info_grs
  have h1 : c ≤ cap := by omega
  have ha : (if cap = 0 then a else Option.map (fun x => x.add 0) a) = a := by
    split
    · rfl
    · cases a <;> simp [Addr.add]
  simp [Instr.slice, run_underlying Try.underlying22, Instr.sliceBounds, Instr.sliceBound, asIntOf, sizeOf, typeInfo, hi, hsz, h1, ha]
theorem slice_from (w : World) (a : Option Addr) (n cap c : Nat) (hc : c ≤ n) :
    (Instr.slice 22 (.slice a n cap) (some (.int .i64 (c : Int))) none none).run Try.prog w = .ok (.slice (sub a c cap) (n - c) (cap - c)) w := by
  obtain ⟨i, hi, hz, hsz, hby⟩ := info_grs
  have h1 : c ≤ n := hc
  simp [Instr.slice, run_underlying Try.underlying22, Instr.sliceBounds, Instr.sliceBound, asIntOf, sizeOf, typeInfo, hi, hsz, h1, sub]
theorem GAt.sub {w : World} {a : Option Addr} {A R : List Gr} {cap : Nat} (h : GAt w a (A ++ R)) (hc : A.length + R.length ≤ cap) : GAt w (sub a A.length cap) R := by
  cases R with
  | nil => exact gat_nil _ _
  | cons y r =>
    have hy : (A ++ y :: r)[A.length]? = some y := by rw [List.getElem?_append_right (Nat.le_refl _)]; simp
    obtain ⟨x, rfl, _⟩ := h _ _ hy
    unfold Go.Proofs.Ytbbmeclngopbmaa.sub
    rw [if_neg (by simp at hc; omega)]
    exact h.right
theorem between_len (w : World) (a1 a2 a3 : Option Addr) (c1 c2 c3 n1 n2 n3 : Nat) (A M B : List Gr) (h1 : A.length = n1) (h2 : M.length = n2) (h3 : B.length = n3) (hA : GAt w a1 A) (hM : GAt w a2 M) (hB : GAt w a3 B) (hl : n1 + n2 + n3 ≤ 1000) :
    Calls Try.prog 20 #[.slice a1 n1 c1, .slice a2 n2 c2, .slice a3 n3 c3] w fun e w' => ∃ g, e = .returned (.slice (some ⟨g, 0, none⟩) (A ++ (M ++ B)).length (A ++ (M ++ B)).length) ∧ w'.heap[g]? = some (.cells (cellsG (A ++ (M ++ B))).toArray 40 (0, 0)) ∧ w.heap.size ≤ g ∧ Below w.heap.size w w' := by
  subst h1 h2 h3
  exact between_any w a1 a2 a3 c1 c2 c3 A M B hA hM hB hl
end Go.Proofs.Ytbbmeclngopbmaa
