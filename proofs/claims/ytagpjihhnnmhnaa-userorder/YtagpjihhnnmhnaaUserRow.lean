/-
  ROWS OF USERS OF THE CALL'S OWN: users appended, and set anew.
-/
import Derived.Test.YtagpjihhnnmhnaaUserOrderPure
import Derived.Laws.IdiomCopy
namespace Go.Proofs.Ytagpjihhnnmhnaa
open Go.RowKit
set_option linter.unusedSimpArgs false
set_option linter.unusedVariables false

theorem usr_cell {W : World} {y : Addr} {q : Nat} {u : Usr} (h : UsrAt W (y.add (q * 8)) u) : ∀ i, i < 8 → W.cell? (y.add (q * 8 + i)) = (ucells u).toList[i]?
  | 0, _ => h.c0
  | 1, _ => by rw [add_off y (q * 8) 1 (by decide)]; exact h.c1
  | 2, _ => by rw [add_off y (q * 8) 2 (by decide)]; exact h.c2
  | 3, _ => by rw [add_off y (q * 8) 3 (by decide)]; exact h.c3
  | 4, _ => by rw [add_off y (q * 8) 4 (by decide)]; exact h.c4
  | 5, _ => by rw [add_off y (q * 8) 5 (by decide)]; exact h.c5
  | 6, _ => by rw [add_off y (q * 8) 6 (by decide)]; exact h.c6
  | 7, _ => by rw [add_off y (q * 8) 7 (by decide)]; exact h.c7
theorem flat_len (r : List Usr) : (r.flatMap fun u => (ucells u).toList).length = r.length * 8 := by
  induction r with
  | nil => rfl
  | cons a r ih =>
    rw [List.flatMap_cons, List.length_append, ih]
    show 8 + r.length * 8 = (r.length + 1) * 8
    omega
theorem append_usrs (W : World) (base : Nat) (v : Value) (l : List Usr) (y : Addr) (n cap : Nat) (r : List Usr) (hr : UsrsAt W (some y) r) (hrl : r.length = n) (hown : OwnU W base v l) (hb : base ≤ W.heap.size) (hl : l.length < 900000) (hn : n < 900000) :
    ∃ v' W', (Builtin.append_ #[23, 23] 23 #[v, .slice (some y) n cap]).run Try.prog W = .ok v' W' ∧ OwnU W' base v' (l ++ r) ∧ Below base W W' := by
  obtain ⟨i, hi, hz, hs, hby⟩ := info_usrs
  have ho : W.ownsRow base 40 8 v l.length (l.flatMap fun u => (ucells u).toList) := hown
  obtain ⟨v', W', h1, h2, h3, _⟩ := run_append_own (P := Try.prog) W base 23 23 40 i _ 8 72 Try.underlying23 hi hz hs hby rfl (by decide) v l.length _ ho y n cap (r.flatMap fun u => (ucells u).toList) (by rw [flat_len, hrl]) (fun j c hj => by
    have hjl := (List.getElem?_eq_some_iff.1 hj).1
    rw [flat_len] at hjl
    obtain ⟨u, hu⟩ : ∃ u, r[j / 8]? = some u := ⟨_, List.getElem?_eq_getElem (by omega)⟩
    obtain ⟨y', hy', hU⟩ := hr (j / 8) u hu
    injection hy' with hy'
    subst hy'
    have e : j = j / 8 * 8 + j % 8 := by omega
    rw [e, usr_cell hU (j % 8) (by omega), ← hj]
    conv => rhs; rw [e]
    rw [flat_get ucells_len r (j / 8) (j % 8) u hu (by omega)]) (by
      intro c hc
      obtain ⟨u, _, hu⟩ := List.mem_flatMap.1 hc
      simp at hu
      rcases hu with rfl | rfl | rfl | rfl | rfl | rfl | rfl | rfl <;> simp [Value.oneCell']) (by simp only [maxLen]; omega) (by omega) hb
  refine ⟨v', W', h1, ?_, ?_⟩
  · unfold OwnU
    rw [List.flatMap_append, List.length_append, hrl]
    exact h2
  · exact (Below.refl base W).grown h3 hb (fun k hk => (ho.lt k hk).1)
theorem ownU_made (w : World) (base : Nat) (hb : base ≤ w.heap.size) : OwnU (w.alloc (.cells #[] 40)) base (.slice (some ⟨w.heap.size, 0, none⟩) 0 0) [] :=
  World.ownsRow_lit w #[] 0 hb (by decide) rfl
/-- A row's block, its cells and that they may be written. -/
theorem OwnU.row {W : World} {base : Nat} {v : Value} {us : List Usr} (h : OwnU W base v us) (hne : us ≠ []) : ∃ g cap, v = .slice (some ⟨g, 0, none⟩) us.length cap ∧ base ≤ g ∧ g < W.heap.size ∧ (∀ j u, us[j]? = some u → ∀ i, i < 8 → W.cell? ⟨g, j * 8 + i, none⟩ = (ucells u).toList[i]?) ∧ ∀ o, W.frozen? ⟨g, o, none⟩ = false := by
  have hrow : W.ownsRow base 40 8 v us.length (us.flatMap fun u => (ucells u).toList) := h
  rcases h.2 with ⟨_, h2⟩ | ⟨g, cap, cur, rfl, hb, _⟩
  · exact absurd (List.eq_nil_of_length_eq_zero h2) hne
  · refine ⟨g, cap, rfl, hb, (hrow.lt g rfl).2, fun j u hu i hi => ?_, fun o => hrow.frozenAt o⟩
    have hj := (List.getElem?_eq_some_iff.1 hu).1
    rw [hrow.cellAt (j * 8 + i) (by omega), flat_get ucells_len us j i u hu hi]
theorem usrs_of_cells {W : World} {g : Nat} {us : List Usr} (h : ∀ j u, us[j]? = some u → ∀ i, i < 8 → W.cell? ⟨g, j * 8 + i, none⟩ = (ucells u).toList[i]?) : UsrsAt W (some ⟨g, 0, none⟩) us := fun j u hu => by
  refine ⟨_, rfl, ?_⟩
  rw [add_at]
  exact ⟨h j u hu 0 (by omega), h j u hu 1 (by omega), h j u hu 2 (by omega), h j u hu 3 (by omega), h j u hu 4 (by omega), h j u hu 5 (by omega), h j u hu 6 (by omega), h j u hu 7 (by omega)⟩
/-- A user is stored into a row. -/
theorem set_in {W : World} {g j : Nat} {u z : Usr} (h : ∀ i, i < 8 → W.cell? ⟨g, j * 8 + i, none⟩ = (ucells z).toList[i]?) : ∀ i, i < 8 → (W.setCells g (j * 8) (ucells u).toList).cell? ⟨g, j * 8 + i, none⟩ = (ucells u).toList[i]? := fun i hi => by
  have := World.cell?_setCells_in g (ucells u).toList (j * 8) W (fun i hi => by
    rw [h i hi, List.getElem?_eq_getElem (by rw [ucells_len z]; exact hi)]
    rfl) i (by rw [ucells_len u]; exact hi)
  rw [this, List.getElem?_eq_getElem (by rw [ucells_len u]; exact hi)]
theorem set_out {W : World} {g j k : Nat} {u : Usr} (hjk : j ≠ k) (i : Nat) (hi : i < 8) : (W.setCells g (k * 8) (ucells u).toList).cell? ⟨g, j * 8 + i, none⟩ = W.cell? ⟨g, j * 8 + i, none⟩ := by
  refine World.cell?_setCells_out g (ucells u).toList (k * 8) W _ fun _ _ => ?_
  show j * 8 + i < k * 8 ∨ k * 8 + 8 ≤ j * 8 + i
  omega
theorem set_free (W : World) (g o : Nat) (u : Usr) (b : Addr) : (W.setCells g o (ucells u).toList).frozen? b = W.frozen? b := World.frozen?_setCells g _ o W b
theorem set_below {B : Nat} {w W : World} (h : Below B w W) (g o : Nat) (hg : B ≤ g) (u : Usr) : Below B w (W.setCells g o (ucells u).toList) := by
  show Below B w ((((((((W.setCell ⟨g, o, none⟩ _).setCell ⟨g, o + 1, none⟩ _).setCell ⟨g, o + 1 + 1, none⟩ _).setCell ⟨g, o + 1 + 1 + 1, none⟩ _).setCell ⟨g, o + 1 + 1 + 1 + 1, none⟩ _).setCell ⟨g, o + 1 + 1 + 1 + 1 + 1, none⟩ _).setCell ⟨g, o + 1 + 1 + 1 + 1 + 1 + 1, none⟩ _).setCell ⟨g, o + 1 + 1 + 1 + 1 + 1 + 1 + 1, none⟩ _)
  exact (((((((h.setCell (p := ⟨g, _, none⟩) hg _).setCell (p := ⟨g, _, none⟩) hg _).setCell (p := ⟨g, _, none⟩) hg _).setCell (p := ⟨g, _, none⟩) hg _).setCell (p := ⟨g, _, none⟩) hg _).setCell (p := ⟨g, _, none⟩) hg _).setCell (p := ⟨g, _, none⟩) hg _).setCell (p := ⟨g, _, none⟩) hg _
theorem one_cells {W : World} {g k : Nat} {us : List Usr} {old v : Usr} (h : ∀ j z, us[j]? = some z → ∀ i, i < 8 → W.cell? ⟨g, j * 8 + i, none⟩ = (ucells z).toList[i]?) (hk : us[k]? = some old) :
    ∀ j z, (us.set k v)[j]? = some z → ∀ i, i < 8 → (W.setCells g (k * 8) (ucells v).toList).cell? ⟨g, j * 8 + i, none⟩ = (ucells z).toList[i]? := fun j z hz i hi => by
  have hl := (List.getElem?_eq_some_iff.1 hk).1
  by_cases h1 : j = k
  · subst h1
    rw [List.getElem?_set_self hl] at hz
    have hz := Option.some.inj hz
    subst hz
    exact set_in (j := j) (h j old hk) i hi
  · rw [List.getElem?_set_ne (by omega)] at hz
    exact (set_out (k := k) h1 i hi).trans (h j z hz i hi)
theorem cells_drew {W : World} {g : Nat} {us : List Usr} (h : ∀ j z, us[j]? = some z → ∀ i, i < 8 → W.cell? ⟨g, j * 8 + i, none⟩ = (ucells z).toList[i]?) : ∀ j z, us[j]? = some z → ∀ i, i < 8 → W.drew.cell? ⟨g, j * 8 + i, none⟩ = (ucells z).toList[i]? := h
theorem name_cells {W : World} {g q : Nat} {us : List Usr} {v : Usr} {nm : ByteArray} (h : ∀ j z, us[j]? = some z → ∀ i, i < 8 → W.cell? ⟨g, j * 8 + i, none⟩ = (ucells z).toList[i]?) (hv : us[q + 1]? = some v) :
    ∀ j z, (us.set (q + 1) { v with name := nm })[j]? = some z → ∀ i, i < 8 → (W.setCell ⟨g, (q + 1) * 8, none⟩ (.string nm)).cell? ⟨g, j * 8 + i, none⟩ = (ucells z).toList[i]? := fun j z hz i hi => by
  have hl := (List.getElem?_eq_some_iff.1 hv).1
  have out : ∀ o, o ≠ (q + 1) * 8 → (W.setCell ⟨g, (q + 1) * 8, none⟩ (.string nm)).cell? ⟨g, o, none⟩ = W.cell? ⟨g, o, none⟩ := fun o ho => by
    have := World.cell?_setCells_out g [.string nm] ((q + 1) * 8) W ⟨g, o, none⟩ (fun _ _ => by show o < (q + 1) * 8 ∨ (q + 1) * 8 + 1 ≤ o; omega)
    exact this
  by_cases h1 : j = q + 1
  · subst h1
    rw [List.getElem?_set_self hl] at hz
    have hz := Option.some.inj hz
    subst hz
    by_cases h0 : i = 0
    · subst h0
      have hc := h (q + 1) v hv 0 (by omega)
      exact World.cell?_setCell_same W ⟨g, (q + 1) * 8, none⟩ _ hc
    · rw [out _ (by omega), h (q + 1) v hv i hi]
      match i, h0, hi with
      | i + 1, _, _ => rfl
  · rw [List.getElem?_set_ne (by omega)] at hz
    rw [out _ (by omega)]
    exact h j z hz i hi
theorem drew_cell (W : World) (a : Addr) : W.drew.cell? a = W.cell? a := rfl
theorem drew_frozen (W : World) (a : Addr) : W.drew.frozen? a = W.frozen? a := rfl
theorem after_one {W : World} {g q : Nat} {us : List Usr} {v : Usr} (h : ∀ j z, us[j]? = some z → ∀ i, i < 8 → W.cell? ⟨g, j * 8 + i, none⟩ = (ucells z).toList[i]?) (hv : us[q + 1]? = some v) (i : Nat) (hi : i < 8) :
    (W.setCells g (q * 8) (ucells v).toList).drew.cell? ⟨g, (q + 1) * 8 + i, none⟩ = (ucells v).toList[i]? := by
  rw [drew_cell]
  exact (set_out (k := q) (j := q + 1) (by omega) i hi).trans (h (q + 1) v hv i hi)
theorem free_one {W : World} {g o : Nat} {v : Usr} (h : ∀ o, W.frozen? ⟨g, o, none⟩ = false) (b : Nat) : (W.setCells g o (ucells v).toList).drew.frozen? ⟨g, b, none⟩ = false := by
  rw [drew_frozen, set_free]
  exact h b
/-- Two users changed places, in memory. -/
theorem swapped {w4 w5 : World} {g q : Nat} {us : List Usr} {u v : Usr} (hB : Below w4.heap.size w4 w5) (hg : w4.heap.size ≤ g) (h : ∀ j z, us[j]? = some z → ∀ i, i < 8 → w5.cell? ⟨g, j * 8 + i, none⟩ = (ucells z).toList[i]?) (hu : us[q]? = some u) (hv : us[q + 1]? = some v) :
    Below w4.heap.size w4 ((w5.setCells g (q * 8) (ucells v).toList).drew.setCells g ((q + 1) * 8) (ucells u).toList) ∧ UsrsAt ((w5.setCells g (q * 8) (ucells v).toList).drew.setCells g ((q + 1) * 8) (ucells u).toList) (some ⟨g, 0, none⟩) ((us.set q v).set (q + 1) u) := by
  have h1 := cells_drew (one_cells (v := v) h hu)
  have hB1 := (set_below hB g (q * 8) hg v).drew
  generalize (w5.setCells g (q * 8) (ucells v).toList).drew = X at *
  have h2 : (us.set q v)[q + 1]? = some v := by rw [List.getElem?_set_ne (by omega)]; exact hv
  exact ⟨set_below hB1 g _ hg u, usrs_of_cells (one_cells (v := u) h1 h2)⟩
set_option maxHeartbeats 400000 in
theorem w9_any (k m : Int) (h0 : 0 < m) (h1 : m < 1000000) (w : World) :
    Calls Try.prog 22 #[.int .i64 k, .int .i64 m] w fun e w' => e = .returned (.int .i64 (k % m)) ∧ w' = w := by
  have b1 := Int.lt_tmod_of_pos k h0
  have b2 := Int.tmod_lt_of_pos k h0
  have hm0 : ¬ m = 0 := by omega
  have hm1 : ¬ m = -1 := by omega
  by_cases hn : k.tmod m < 0
  · have e1 : k % m = k.tmod m + m := by
      rw [Int.tmod_eq_emod] at hn ⊢
      split at hn
      · have := Int.emod_nonneg k (by omega : m ≠ 0); omega
      · rename_i hc; rw [if_neg hc]; rw [Int.natAbs_of_nonneg (by omega)]; omega
    rw [e1]
    clear e1
    go_enter Try.func22, Try.ntmps22
    go_wp2
    go_ret
    exact ⟨rfl, rfl⟩
  · have e1 : k % m = k.tmod m := by
      rw [Int.tmod_eq_emod] at hn ⊢
      split
      · simp
      · rename_i hc
        rw [if_neg hc] at hn
        have := Int.emod_lt_of_pos k h0
        rw [Int.natAbs_of_nonneg (by omega)] at *
        omega
    rw [e1]
    clear e1
    go_enter Try.func22, Try.ntmps22
    go_wp2
    go_ret
    exact ⟨rfl, rfl⟩
end Go.Proofs.Ytagpjihhnnmhnaa
