/-
  PART 3 of what the claims of this seat lean on: Srt7 Srt8 SortShelf Opens LabOpen AudSrt TextShelf AudTextP HashFns NodeRd NodeRdNum NodeRdLab NodeRdText NodePst NodePure NodeRefMsg NodeRefEnt NodeBack NodePar NodeCut NodeNst NodeAdd NodeEncs AudRest AudDoor.
-/
import Derived.Shelf.GgSortFunc.Lays
import Derived.Test.YtohocomemkckeaaDoorRows
import Derived.ProofKit
import Derived.OpenShut
import Derived.ChangeSame
import Derived.ChangeSlices
import Derived.SizedLaws
import Derived.Deep.Slices
import Derived.Deep.Strs
import Derived.Shelf.GgSortFunc.Slice
import Derived.Shelf.GgSortFunc.SmallK
import Derived.Shelf.GgSortFunc.Tiny
import Derived.Shelf.SlSortFuncK.BreakPatternsK
import Derived.Laws.OwnMore
import Derived.Shelf.LaysM
import Derived.Shelf.Strconv.Itoa3
import Derived.Shelf.Strings.OnBuilder
import Derived.Lib.SmallJoins
import Derived.Lib.AppendIntMem
import Derived.Deep.RegionHeld
import Derived.Deep.CutRange
import Derived.DataElems
import Derived.Laws.IdiomStrings
import Derived.Deep.CutBlock
import Derived.Laws.IdiomRangeMap
import Derived.LaidMore
import Derived.Shelf.Vars
import Derived.HandedShaped
import Derived.PinnedBridge
import Derived.Lay
import Derived.Lib.LaidTab
import Derived.Stop.LaidErr
import Derived.Test.YtohocomemkckeaaDoorPt1
import Derived.Test.YtohocomemkckeaaDoorPt2
/-! SORTS by a closure: choosePivot. -/
namespace Go.Proofs.YtohocomemkckeaaDoor
open Go.RowKit
set_option maxRecDepth 8000
set_option linter.unusedSimpArgs false
set_option linter.unusedVariables false

def hintZ (s : Nat) : Int := if s = 0 then 1 else if s = 12 then 2 else 0
def rawP {α : Type} [Inhabited α] (lt : α → α → Bool) (d : Array α) (a q l : Nat) : Nat × Nat :=
  if l ≥ 50 then Sort.median lt d (Sort.medianAdjacent lt d (a + q) 0).1 (Sort.medianAdjacent lt d (a + q * 2) (Sort.medianAdjacent lt d (a + q) 0).2).1 (Sort.medianAdjacent lt d (a + q * 3) (Sort.medianAdjacent lt d (a + q * 2) (Sort.medianAdjacent lt d (a + q) 0).2).2).1 (Sort.medianAdjacent lt d (a + q * 3) (Sort.medianAdjacent lt d (a + q * 2) (Sort.medianAdjacent lt d (a + q) 0).2).2).2
  else Sort.median lt d (a + q) (a + q * 2) (a + q * 3) 0
theorem choose_eq {α : Type} [Inhabited α] (lt : α → α → Bool) (d : Array α) (a b : Nat) (h : 8 ≤ b - a) : Sort.choosePivot lt d a b = ((rawP lt d a ((b - a) / 4) (b - a)).1, if (rawP lt d a ((b - a) / 4) (b - a)).2 = 0 then Sort.Hint.increasing else if (rawP lt d a ((b - a) / 4) (b - a)).2 = 12 then .decreasing else .unknown) := by
  unfold Sort.choosePivot rawP
  simp only [Nat.mul_one, if_pos (show b - a ≥ 8 from h)]
theorem medadj_lt {α : Type} [Inhabited α] (lt : α → α → Bool) (d : Array α) (a s n : Nat) (h : a + 1 < n) : (Sort.medianAdjacent lt d a s).1 < n := median_lt lt d (a - 1) a (a + 1) s (by omega) (by omega) h
theorem medadj_count {α : Type} [Inhabited α] (lt : α → α → Bool) (d : Array α) (a s : Nat) : (Sort.medianAdjacent lt d a s).2 ≤ s + 3 := median_count lt d (a - 1) a (a + 1) s
set_option maxRecDepth 8000 in
set_option maxHeartbeats 4000000 in
theorem schoose_any {α : Type} [Inhabited α] {n g sf blk : Nat} {lb sb : Array Value} {lt : α → α → Bool} {S : World → Array α → Prop} (K : Srt n g sf lb sb lt blk S) (a b : Nat) (d : Array α) (w : World) (hS : S w d) (hab : 12 < b - a) (hb : b ≤ n) :
    Calls Tryd.prog 73 #[.agg #[.func (.func g) #[] lb, .func (.func sf) #[] sb], .int .i64 (a : Int), .int .i64 (b : Int)] w fun e w' => e = .returned (.tuple #[.int .i64 ((rawP lt d a ((b - a) / 4) (b - a)).1 : Int), .int .i64 (hintZ (rawP lt d a ((b - a) / 4) (b - a)).2)]) ∧ S w' d ∧ Below w.heap.size w w' := by
  have hn := K.few
  have hund := Tryd.underlying82
  have hsz : (Tryd.prog.info? 82).map (·.size) = some 2 := by kernel_rfl
  obtain ⟨l, hl⟩ : ∃ l, b - a = l := ⟨_, rfl⟩
  obtain ⟨q, hq⟩ : ∃ q, l / 4 = q := ⟨_, rfl⟩
  rw [hl, hq]
  obtain ⟨⟨X, MS⟩, hrw⟩ : ∃ r, rawP lt d a q l = r := ⟨_, rfl⟩
  rw [hrw]
  obtain ⟨Hz, hHz⟩ : ∃ z, hintZ MS = z := ⟨_, rfl⟩
  show Calls _ _ _ _ fun e w' => e = .returned (.tuple #[.int .i64 (X : Int), .int .i64 (hintZ MS)]) ∧ S w' d ∧ Below w.heap.size w w'
  rw [hHz]
  replace hHz : Aside (hintZ MS = Hz) := hHz
  replace hrw : Aside (rawP lt d a q l = (X, MS)) := hrw
  have eh : (b : Int) - (a : Int) = (l : Int) := by omega
  have e2 : (l : Int) / 4 = (q : Int) := by omega
  have e3 : (l : Int).tdiv 4 = (q : Int) := by rw [Int.tdiv_eq_ediv_of_nonneg (by omega)]; exact e2
  have i8 : (8 : Int) ≤ (l : Int) := by omega
  have hq1 : 1 ≤ q := by omega
  have hqn : a + q * 4 ≤ n := by omega
  have hb0 := blkl_alloc w #[.func (.func g) #[] lb, .func (.func sf) #[] sb] 82
  have hB0 := alloc_below w (.cells #[.func (.func g) #[] lb, .func (.func sf) #[] sb] 82)
  have hS0 := K.keep hS hB0
  obtain ⟨B, hB1, hB2⟩ := K.far
  go_enter Tryd.func73, Tryd.ntmps73
  go_upto_region 2 with fail
  generalize w.alloc (.cells #[.func (.func g) #[] lb, .func (.func sf) #[] sb] 82) = W0 at *
  have hc0 := blkl_alloc W0 #[.int .i64 0] 3
  have hB3 := alloc_below W0 (.cells #[.int .i64 0] 3)
  have hS1 := K.keep hS0 hB3
  have hb1 := stab_blk _ _ _ _ hb0 hB3
  have hcb : w.heap.size ≠ W0.heap.size := by have := hb0.2; omega
  have hcw : w.heap.size ≤ W0.heap.size := hB0.size
  have hT1 : Turned [W0.heap.size] w (W0.alloc (.cells #[.int .i64 0] 3)) := turned_below (Below.then hB0 hB3)
  have hk : ∀ {w w' : World}, S w d → (∀ k, k ≠ W0.heap.size → w'.heap[k]? = w.heap[k]?) → S w' d := fun q1 q2 => hB2 q1 fun k hk => q2 k (by have := hB1 hS0; omega)
  replace hc0 : BlkL W0.heap.size [.int .i64 ((0 : Nat) : Int)] (W0.alloc (.cells #[.int .i64 0] 3)) := hc0
  clear hS0 hb0 hB0 hB3 hB1 hB2
  have hr1 := hb1.range
  replace hrw := hrw.out
  unfold rawP at hrw
  by_cases h50 : l ≥ 50
  · rw [if_pos h50] at hrw
    have i50 : (50 : Int) ≤ (l : Int) := by omega
    have k1 := fun W q1 q2 => smedadj_any (cb := W0.heap.size) K (a + q) 0 d W q1 q2 hk (by omega) (by omega) (by omega)
    have l1 := medadj_lt lt d (a + q) 0 n (by omega)
    have m1 := medadj_count lt d (a + q) 0
    generalize Sort.medianAdjacent lt d (a + q) 0 = r1 at *
    obtain ⟨x1, s1⟩ := r1
    simp only at k1 l1 m1 hrw
    have k2 := fun W q1 q2 => smedadj_any (cb := W0.heap.size) K (a + q * 2) s1 d W q1 q2 hk (by omega) (by omega) (by omega)
    have l2 := medadj_lt lt d (a + q * 2) s1 n (by omega)
    have m2 := medadj_count lt d (a + q * 2) s1
    generalize Sort.medianAdjacent lt d (a + q * 2) s1 = r2 at *
    obtain ⟨x2, s2⟩ := r2
    simp only at k2 l2 m2 hrw
    have k3 := fun W q1 q2 => smedadj_any (cb := W0.heap.size) K (a + q * 3) s2 d W q1 q2 hk (by omega) (by omega) (by omega)
    have l3 := medadj_lt lt d (a + q * 3) s2 n (by omega)
    have m3 := medadj_count lt d (a + q * 3) s2
    generalize Sort.medianAdjacent lt d (a + q * 3) s2 = r3 at *
    obtain ⟨x3, s3⟩ := r3
    simp only at k3 l3 m3 hrw
    have k4 := fun W q1 q2 => smedian_any (cb := W0.heap.size) K x1 x2 x3 s3 d W q1 q2 hk l1 l2 l3 (by omega)
    rw [hrw] at k4
    simp only at k4
    clear hrw
    rw [show ((a + q : Nat) : Int) = (a : Int) + (q : Int) by omega] at k1
    rw [show ((a + q * 2 : Nat) : Int) = (a : Int) + (q : Int) * 2 by omega] at k2
    rw [show ((a + q * 3 : Nat) : Int) = (a : Int) + (q : Int) * 3 by omega] at k3
    go_upto_region 8 with fail
    generalize W0.alloc (.cells #[.int .i64 0] 3) = Z at *
    generalize W0.heap.size = cb at *
    go_wp2_with (first | (refine wpList_load_row rfl _ rfl w.heap.size rfl [.func (.func g) #[] lb, .func (.func sf) #[] sb] hr1 hund rfl hsz ?_) | fail)
    refine (k1 _ hS1 hc0).mono ?_
    rintro e W1 ⟨rfl, hS2, hc2, hT2⟩
    have hb2 := hT2.blk hb1 (by simpa using hcb)
    have hr2 := hb2.range
    have hT12 := hT1.trans hT2
    clear hS1 hc0 hr1 hT1 hT2 hb1
    go_wp2_with (first | (refine wpList_load_row rfl _ rfl w.heap.size rfl [.func (.func g) #[] lb, .func (.func sf) #[] sb] hr2 hund rfl hsz ?_) | fail)
    refine (k2 _ hS2 hc2).mono ?_
    rintro e W2 ⟨rfl, hS3, hc3, hT3⟩
    have hb3 := hT3.blk hb2 (by simpa using hcb)
    have hr3 := hb3.range
    have hT13 := hT12.trans hT3
    clear hS2 hc2 hr2 hT12 hT3 hb2
    go_wp2_with (first | (refine wpList_load_row rfl _ rfl w.heap.size rfl [.func (.func g) #[] lb, .func (.func sf) #[] sb] hr3 hund rfl hsz ?_) | fail)
    refine (k3 _ hS3 hc3).mono ?_
    rintro e W3 ⟨rfl, hS4, hc4, hT4⟩
    have hb4 := hT4.blk hb3 (by simpa using hcb)
    have hr4 := hb4.range
    have hT14 := hT13.trans hT4
    clear hS3 hc3 hr3 hT13 hT4 hb3
    go_wp2_with (first | (refine wpList_load_row rfl _ rfl w.heap.size rfl [.func (.func g) #[] lb, .func (.func sf) #[] sb] hr4 hund rfl hsz ?_) | fail)
    refine (k4 _ hS4 hc4).mono ?_
    rintro e W9 ⟨rfl, hS9, hc9, hT9⟩
    have hT := hT14.trans hT9
    have hBf : Below w.heap.size w W9 := hT.below (fun k hk => by simp at hk; omega) (Nat.le_refl _)
    have c9 := (hc9.1 0 _ rfl).1
    clear hS4 hc4 hr4 hT14 hT9 hT
    replace hHz := hHz.out
    unfold hintZ at hHz
    by_cases hz0 : MS = 0
    · rw [if_pos hz0] at hHz
      subst hz0 hHz
      go_wp2_with fail
      go_ret2
      exact ⟨rfl, hS9, hBf⟩
    rw [if_neg hz0] at hHz
    by_cases hz12 : MS = 12
    · rw [if_pos hz12] at hHz
      subst hz12 hHz
      go_wp2_with fail
      go_ret2
      exact ⟨rfl, hS9, hBf⟩
    · rw [if_neg hz12] at hHz
      subst hHz
      have i8 : ((MS : Int) == 0) = false := by simp; omega
      have i9 : ((MS : Int) == 12) = false := by simp; omega
      go_wp2_with fail
      go_ret2
      exact ⟨rfl, hS9, hBf⟩
  · rw [if_neg h50] at hrw
    have i50 : ¬ (50 : Int) ≤ (l : Int) := by omega
    have k4 := fun W q1 q2 => smedian_any (cb := W0.heap.size) K (a + q) (a + q * 2) (a + q * 3) 0 d W q1 q2 hk (by omega) (by omega) (by omega) (by omega)
    rw [hrw] at k4
    simp only at k4
    clear hrw
    rw [show ((a + q : Nat) : Int) = (a : Int) + (q : Int) by omega, show ((a + q * 2 : Nat) : Int) = (a : Int) + (q : Int) * 2 by omega, show ((a + q * 3 : Nat) : Int) = (a : Int) + (q : Int) * 3 by omega] at k4
    go_upto_region 11 with fail
    generalize W0.alloc (.cells #[.int .i64 0] 3) = Z at *
    generalize W0.heap.size = cb at *
    go_wp2_with (first | (refine wpList_load_row rfl _ rfl w.heap.size rfl [.func (.func g) #[] lb, .func (.func sf) #[] sb] hr1 hund rfl hsz ?_) | fail)
    refine (k4 _ hS1 hc0).mono ?_
    rintro e W9 ⟨rfl, hS9, hc9, hT9⟩
    have hT := hT1.trans hT9
    have hBf : Below w.heap.size w W9 := hT.below (fun k hk => by simp at hk; omega) (Nat.le_refl _)
    have c9 := (hc9.1 0 _ rfl).1
    clear hS1 hc0 hr1 hT1 hT9 hT
    replace hHz := hHz.out
    unfold hintZ at hHz
    by_cases hz0 : MS = 0
    · rw [if_pos hz0] at hHz
      subst hz0 hHz
      go_wp2_with fail
      go_ret2
      exact ⟨rfl, hS9, hBf⟩
    rw [if_neg hz0] at hHz
    by_cases hz12 : MS = 12
    · rw [if_pos hz12] at hHz
      subst hz12 hHz
      go_wp2_with fail
      go_ret2
      exact ⟨rfl, hS9, hBf⟩
    · rw [if_neg hz12] at hHz
      subst hHz
      have i8 : ((MS : Int) == 0) = false := by simp; omega
      have i9 : ((MS : Int) == 12) = false := by simp; omega
      go_wp2_with fail
      go_ret2
      exact ⟨rfl, hS9, hBf⟩
end Go.Proofs.YtohocomemkckeaaDoor

/-! SORTS by a closure: pdqsort. -/
namespace Go.Proofs.YtohocomemkckeaaDoor
open Go.RowKit
set_option maxRecDepth 8000
set_option linter.unusedSimpArgs false
set_option linter.unusedVariables false

section
variable {α : Type} [Inhabited α] {lt : α → α → Bool} {d d1 d2 d3 d4 : Array α} {a b lim l1 X pv mid : Nat} {wb wp A ap : Bool} {H H2 : Sort.Hint}
theorem pdq_round (h12 : ¬ b - a ≤ 12) (h0 : ¬ lim = 0) (hd1 : (if !wb then Sort.breakPatterns d a b else d) = d1) (hl1 : (if !wb then lim - 1 else lim) = l1) (hc : Sort.choosePivot lt d1 a b = (X, H))
    (hd2 : (if H = .decreasing then Sort.reverseRange d1 a b else d1) = d2) (hpv : (if H = .decreasing then (b - 1) - (X - a) else X) = pv) (hH : (if H = .decreasing then Sort.Hint.increasing else H) = H2)
    (hpi : (if wb && wp && H2 = .increasing then Sort.partialInsertionSort lt d2 a b else (d2, false)) = (d3, A)) :
    Sort.pdq lt d a b lim wb wp = if A then d3 else if a > 0 && !lt d3[a - 1]! d3[pv]! then
      (match Sort.partitionEqual lt d3 a b pv with | (mid, d4) => if _h : a < mid ∧ mid ≤ b then Sort.pdq lt d4 mid b l1 wb wp else d4) else
      (match Sort.partition lt d3 a b pv with | (mid, ap, d4) => if _h : a ≤ mid ∧ mid < b then
        (if mid - a < b - mid then (Sort.pdq lt (Sort.pdq lt d4 a mid l1 true true) (mid + 1) b l1 (decide (mid - a ≥ (b - a) / 8)) ap) else (Sort.pdq lt (Sort.pdq lt d4 (mid + 1) b l1 true true) a mid l1 (decide (b - mid ≥ (b - a) / 8)) ap)) else d4) := by
  rw [Sort.pdq]
  simp only [if_neg h12, if_neg h0, hd1, hl1, hc, hd2, hpv, hH, hpi]
theorem pdq_eqs (he : Sort.partitionEqual lt d3 a b pv = (mid, d4)) (h1 : a < mid) (h2 : mid ≤ b) : (match Sort.partitionEqual lt d3 a b pv with | (mid, d4) => if _h : a < mid ∧ mid ≤ b then Sort.pdq lt d4 mid b l1 wb wp else d4) = Sort.pdq lt d4 mid b l1 wb wp := by
  rw [he]
  exact dif_pos ⟨h1, h2⟩
theorem pdq_parts (he : Sort.partition lt d3 a b pv = (mid, ap, d4)) (h1 : a ≤ mid) (h2 : mid < b) : (match Sort.partition lt d3 a b pv with | (mid, ap, d4) => if _h : a ≤ mid ∧ mid < b then
        (if mid - a < b - mid then (Sort.pdq lt (Sort.pdq lt d4 a mid l1 true true) (mid + 1) b l1 (decide (mid - a ≥ (b - a) / 8)) ap) else (Sort.pdq lt (Sort.pdq lt d4 (mid + 1) b l1 true true) a mid l1 (decide (b - mid ≥ (b - a) / 8)) ap)) else d4) = (if mid - a < b - mid then (Sort.pdq lt (Sort.pdq lt d4 a mid l1 true true) (mid + 1) b l1 (decide (mid - a ≥ (b - a) / 8)) ap) else (Sort.pdq lt (Sort.pdq lt d4 (mid + 1) b l1 true true) a mid l1 (decide (b - mid ≥ (b - a) / 8)) ap)) := by
  rw [he]
  exact dif_pos ⟨h1, h2⟩
theorem parteq_range (hap : a ≤ pv) (hpb : pv < b) (hb : b ≤ d.size) : a < (Sort.partitionEqual lt d a b pv).1 ∧ (Sort.partitionEqual lt d a b pv).1 ≤ b := by
  have h := Sort.partEqLoop_spec lt a b _ (a + 1) (b - 1) (Sort.swp d a pv) (Nat.le_refl _) (Nat.lt_succ_self a) (by omega) (by omega) (by rw [Sort.size_swp]; exact hb) (fun t h1 h2 => by omega) (fun t h1 h2 => by omega)
  exact ⟨h.1, h.2.1⟩
/-- Go's number of a hint. -/
def hintN : Sort.Hint → Int
  | .unknown => 0
  | .increasing => 1
  | .decreasing => 2
theorem choose_two (h : 12 < b - a) : ∃ X H, Sort.choosePivot lt d a b = (X, H) ∧ X = (rawP lt d a ((b - a) / 4) (b - a)).1 ∧ hintN H = hintZ (rawP lt d a ((b - a) / 4) (b - a)).2 ∧ a ≤ X ∧ X < b := by
  have hr := Sort.choosePivot_holds lt d a b (by omega)
  rw [choose_eq lt d a b (by omega)] at hr ⊢
  refine ⟨_, _, rfl, rfl, ?_, hr.1, hr.2⟩
  unfold hintZ
  split
  · rfl
  · split <;> rfl
end
set_option maxRecDepth 16000 in
set_option maxHeartbeats 16000000 in
theorem spdq_any {α : Type} [Inhabited α] {n g sf blk : Nat} {lb sb : Array Value} {lt : α → α → Bool} {S : World → Array α → Prop} (K : Srt n g sf lb sb lt blk S) (hSWO : Sort.SWO lt) : ∀ (m a b lim : Nat) (d : Array α) (w : World), b - a ≤ m → S w d → a ≤ b → b ≤ n → lim ≤ 1000 →
    Calls Tryd.prog 47 #[.agg #[.func (.func g) #[] lb, .func (.func sf) #[] sb], .int .i64 (a : Int), .int .i64 (b : Int), .int .i64 (lim : Int)] w fun e w' => e = .returned (.tuple #[]) ∧ S w' (Sort.pdq lt d a b lim true true) ∧ Turned [blk] w w' := by
  intro m
  induction m using Nat.strongRecOn with
  | _ m ih =>
  intro a b lim d w hm hS hab hb hlim
  have eg := K.enter
  have hn := K.few
  have hund := Tryd.underlying82
  have hsz : (Tryd.prog.info? 82).map (·.size) = some 2 := by kernel_rfl
  obtain ⟨R, hR⟩ : ∃ R, Sort.pdq lt d a b lim true true = R := ⟨_, rfl⟩
  rw [hR]
  replace hR : Aside (Sort.pdq lt d a b lim true true = R) := hR
  have h0 := Sr.begin (lv := .func (.func g) #[] lb) (sv := .func (.func sf) #[] sb) K hS 82
  go_enter Tryd.func47, Tryd.ntmps47
  go_wp2_with fail
  generalize w.alloc (.cells #[.func (.func g) #[] lb, .func (.func sf) #[] sb] 82) = W0 at *
  go_loopw [1, 2, 3, 8, 9] (fun t1 t2 t3 t8 t9 wr => ∃ (p q l : Nat) (wb wp : Bool) (dk : Array α), t1 = .int .i64 (p : Int) ∧ t2 = .int .i64 (q : Int) ∧ t3 = .int .i64 (l : Int) ∧ t8 = .bool wb ∧ t9 = .bool wp ∧ p ≤ q ∧ q ≤ n ∧ q - p ≤ m ∧ l ≤ 1000 ∧ Sr S blk w.heap.size (.func (.func g) #[] lb) (.func (.func sf) #[] sb) w wr dk ∧ Aside (Sort.pdq lt dk p q l wb wp = R)) (fun t1 t2 _ _ _ _ => (Go.RowKit.intOf t2 - Go.RowKit.intOf t1).toNat)
  case atStart => exact ⟨a, b, lim, true, true, d, rfl, rfl, rfl, rfl, rfl, hab, hb, hm, hlim, h0, hR⟩
  case round =>
    clear h0 hR hm hab hb hlim hS
    obtain ⟨p, q, l, wb, wp, dk, rfl, rfl, rfl, rfl, rfl, hpq, hqn, hm, hl, h, hO⟩ := hrel
    obtain ⟨z, hz⟩ : ∃ z, q - p = z := ⟨_, rfl⟩
    have ez : (q : Int) - (p : Int) = (z : Int) := by omega
    have hrr := h.box.range
    by_cases h12 : q - p ≤ 12
    · have hR2 := hO.out
      rw [Sort.pdq, if_pos h12] at hR2
      have i1 : (z : Int) ≤ 12 := by omega
      replace hR2 : Aside _ := hR2
      clear hO
      go_wp2_with (first | (refine wpList_load_row rfl _ rfl w.heap.size rfl [.func (.func g) #[] lb, .func (.func sf) #[] sb] hrr hund rfl hsz ?_) | (go_at_call 70; refine (sins_any K p q dk wr h.row hpq hqn).mono ?_; rintro e w1 ⟨rfl, hS1, hT1⟩))
      refine bodyPost_ret (results_none rfl _ _ _) rfl ?_
      exact ⟨rfl, by rw [← hR2.out]; exact hS1, h.turned.trans hT1⟩
    have i1 : ¬ (z : Int) ≤ 12 := by omega
    by_cases hl0 : l = 0
    · have hR2 := hO.out
      rw [Sort.pdq, if_neg h12, if_pos hl0] at hR2
      subst hl0
      replace hR2 : Aside _ := hR2
      clear hO
      go_wp2_with (first | (refine wpList_load_row rfl _ rfl w.heap.size rfl [.func (.func g) #[] lb, .func (.func sf) #[] sb] hrr hund rfl hsz ?_) | (go_at_call 71; refine (sheap_any K p q dk wr h.row (by omega) hqn).mono ?_; rintro e w1 ⟨rfl, hS1, hT1⟩))
      refine bodyPost_ret (results_none rfl _ _ _) rfl ?_
      exact ⟨rfl, by rw [← hR2.out]; exact hS1, h.turned.trans hT1⟩
    have i2 : ((l : Int) == 0) = false := by simp; omega
    obtain ⟨d1, hd1⟩ : ∃ d1, (if !wb then Sort.breakPatterns dk p q else dk) = d1 := ⟨_, rfl⟩
    obtain ⟨l1, hl1⟩ : ∃ l1, (if !wb then l - 1 else l) = l1 := ⟨_, rfl⟩
    have hl1n : l1 ≤ 1000 := by rw [← hl1]; split <;> omega
    obtain ⟨X, H, hc, hX, hHz, hpX, hXq⟩ := choose_two (lt := lt) (d := d1) (a := p) (b := q) (by omega)
    obtain ⟨d2, hd2⟩ : ∃ d2, (if H = .decreasing then Sort.reverseRange d1 p q else d1) = d2 := ⟨_, rfl⟩
    obtain ⟨pv, hpv⟩ : ∃ pv, (if H = .decreasing then (q - 1) - (X - p) else X) = pv := ⟨_, rfl⟩
    obtain ⟨H2, hH2⟩ : ∃ H2, (if H = .decreasing then Sort.Hint.increasing else H) = H2 := ⟨_, rfl⟩
    obtain ⟨⟨d3, A⟩, hpi⟩ : ∃ r, (if wb && wp && H2 = .increasing then Sort.partialInsertionSort lt d2 p q else (d2, false)) = r := ⟨_, rfl⟩
    have hO2 := hO.out
    rw [pdq_round h12 hl0 hd1 hl1 hc hd2 hpv hH2 hpi] at hO2
    replace hO2 : Aside _ := hO2
    have hpvr : p ≤ pv ∧ pv < q := by rw [← hpv]; split <;> omega
    replace hd1 : Aside _ := hd1
    replace hl1 : Aside _ := hl1
    replace hd2 : Aside _ := hd2
    replace hpv : Aside _ := hpv
    replace hH2 : Aside _ := hH2
    replace hpi : Aside _ := hpi
    replace hc : Aside _ := hc
    replace hz : Aside _ := hz
    clear hO
    go_upto_if 35 with fail
    clear i1 i2
    go_cut [3] from 19 to 129 (fun s3 wc => s3 = .int .i64 (l1 : Int) ∧ Sr S blk w.heap.size (.func (.func g) #[] lb) (.func (.func sf) #[] sb) w wc d1)
    case first =>
      cases wb
      · have e1 : Sort.breakPatterns dk p q = d1 := hd1.out
        have e2 : l - 1 = l1 := hl1.out
        subst e1 e2
        have e3 : ((l - 1 : Nat) : Int) = (l : Int) - 1 := by omega
        go_wp2_with (first | (refine wpList_load_row rfl _ rfl w.heap.size rfl [.func (.func g) #[] lb, .func (.func sf) #[] sb] hrr hund rfl hsz ?_) | (go_at_call 72; refine (K.brk wr dk p q h.row hpq hqn).mono ?_; rintro e w1 ⟨rfl, hS1, hT1⟩))
        go_meet
        exact ⟨by rw [e3], h.swapped hS1 hT1⟩
      · have e1 : dk = d1 := hd1.out
        have e2 : l = l1 := hl1.out
        subst e1 e2
        go_wp2_with fail
        go_meet
        exact ⟨rfl, h⟩
    case rest =>
    clear h hrr
    obtain ⟨rfl, h⟩ := hcut
    have hrr := h.box.range
    have kc := schoose_any K p q d1 wc h.row (by omega) hqn
    rw [← hX, ← hHz] at kc
    clear hX hHz hd1 hl1 hl0 hl
    go_wp2_with (first | (refine wpList_load_row rfl _ rfl w.heap.size rfl [.func (.func g) #[] lb, .func (.func sf) #[] sb] hrr hund rfl hsz ?_) | fail)
    refine kc.mono ?_
    rintro e w1 ⟨rfl, hS1, hB1⟩
    replace h := h.below K hB1
    clear hS1 hB1 kc hrr
    have hrr := h.box.range
    go_upto_if 50 with fail
    go_cut [11, 12] from 19 to 129 (fun s11 s12 wc => s11 = .int .i64 (pv : Int) ∧ s12 = .int .i64 (hintN H2) ∧ Sr S blk w.heap.size (.func (.func g) #[] lb) (.func (.func sf) #[] sb) w wc d2)
    case first =>
      cases H
      · have e1 := hd2.out
        have e2 := hpv.out
        have e3 := hH2.out
        rw [if_neg (by decide)] at e1 e2 e3
        subst e1 e2 e3
        unfold hintN
        go_wp2_with fail
        go_meet
        exact ⟨rfl, rfl, h⟩
      · have e1 := hd2.out
        have e2 := hpv.out
        have e3 := hH2.out
        rw [if_neg (by decide)] at e1 e2 e3
        subst e1 e2 e3
        unfold hintN
        go_wp2_with fail
        go_meet
        exact ⟨rfl, rfl, h⟩
      · have e1 := hd2.out
        have e2 := hpv.out
        have e3 := hH2.out
        rw [if_pos rfl] at e1 e2 e3
        subst e1 e2 e3
        have e4 : ((q - 1 - (X - p) : Nat) : Int) = (q : Int) - 1 - ((X : Int) - (p : Int)) := by omega
        unfold hintN
        go_wp2_with (first | (refine wpList_load_row rfl _ rfl w.heap.size rfl [.func (.func g) #[] lb, .func (.func sf) #[] sb] hrr hund rfl hsz ?_) | (go_at_call 74; refine (srev_any K p q d1 _ h.row (by omega) hqn).mono ?_; rintro e w2 ⟨rfl, hS1, hT1⟩))
        go_meet
        exact ⟨by rw [e4], rfl, h.swapped hS1 hT1⟩
    case rest =>
    clear h hrr
    obtain ⟨rfl, rfl, h⟩ := hcut
    have hrr := h.box.range
    clear hd2 hpv hH2 hc hpX hXq
    obtain ⟨c, hcc⟩ : ∃ c : Bool, (wb && wp && decide (H2 = .increasing)) = c := ⟨_, rfl⟩
    replace hcc : Aside _ := hcc
    have hpi2 : Aside ((if c = true then Sort.partialInsertionSort lt d2 p q else (d2, false)) = (d3, A)) := by
      have e1 := hpi.out
      have e2 := hcc.out
      show (if c = true then _ else _) = _
      rw [← e1, ← e2]
    clear hpi
    go_upto_region 16 with fail
    go_cut [68] from 61 to 129 (fun s68 wx => s68 = .bool c ∧ wx = wc)
    case first =>
      cases wb
      · have e1 : false = c := hcc.out
        subst e1
        go_wp2_with fail
        go_meet
        exact ⟨rfl, rfl⟩
      cases wp
      · have e1 : false = c := hcc.out
        subst e1
        go_wp2_with fail
        go_meet
        exact ⟨rfl, rfl⟩
      cases H2
      · have e1 : false = c := hcc.out
        subst e1
        unfold hintN
        go_wp2_with fail
        go_meet
        exact ⟨rfl, rfl⟩
      · have e1 : true = c := hcc.out
        subst e1
        unfold hintN
        go_wp2_with fail
        go_meet
        exact ⟨rfl, rfl⟩
      · have e1 : false = c := hcc.out
        subst e1
        unfold hintN
        go_wp2_with fail
        go_meet
        exact ⟨rfl, rfl⟩
    case rest =>
    obtain ⟨rfl, hwx⟩ := hcut
    rename_i wx
    obtain rfl := hwx.symm
    go_upto_if 68 with fail
    go_cut [] from 61 to 129 (fun wx => A = false ∧ Sr S blk w.heap.size (.func (.func g) #[] lb) (.func (.func sf) #[] sb) w wx d3)
    case first =>
      cases c
      · have e1 : (d2, false) = (d3, A) := hpi2.out
        obtain ⟨e2, e3⟩ := Prod.mk.inj e1
        subst e2 e3
        go_wp2_with fail
        go_meet
        exact ⟨trivial, h⟩
      · have e1 : Sort.partialInsertionSort lt d2 p q = (d3, A) := hpi2.out
        have kp := spartial_any K p q d2 wc h.row (by omega) hqn
        rw [e1] at kp
        cases A
        · go_wp2_with (first | (refine wpList_load_row rfl _ rfl w.heap.size rfl [.func (.func g) #[] lb, .func (.func sf) #[] sb] hrr hund rfl hsz ?_) | (go_at_call 75; refine kp.mono ?_; rintro e w2 ⟨rfl, hS1, hT1⟩))
          go_meet
          exact ⟨trivial, h.swapped hS1 hT1⟩
        · have e4 := hO2.out
          rw [if_pos rfl] at e4
          subst e4
          go_wp2_with (first | (refine wpList_load_row rfl _ rfl w.heap.size rfl [.func (.func g) #[] lb, .func (.func sf) #[] sb] hrr hund rfl hsz ?_) | (go_at_call 75; refine kp.mono ?_; rintro e w2 ⟨rfl, hS1, hT1⟩))
          refine bodyPost_ret (results_none rfl _ _ _) rfl ?_
          exact ⟨rfl, hS1, h.turned.trans hT1⟩
    case rest =>
    clear h hrr hpi2
    obtain ⟨rfl, h⟩ := hcut
    have hrr := h.box.range
    have c0 := h.c0
    have hO3 := hO2.out
    rw [if_neg (by decide)] at hO3
    clear hO2
    obtain ⟨c2, hc2⟩ : ∃ c2 : Bool, (decide (p > 0) && !lt d3[p - 1]! d3[pv]!) = c2 := ⟨_, rfl⟩
    rw [hc2] at hO3
    replace hO3 : Aside _ := hO3
    replace hc2 : Aside _ := hc2
    have hds := K.size h.row
    go_upto_region 18 with fail
    go_cut [83] from 61 to 129 (fun s83 wx => s83 = .bool c2 ∧ Sr S blk w.heap.size (.func (.func g) #[] lb) (.func (.func sf) #[] sb) w wx d3)
    case first =>
      by_cases hp0 : 0 < p
      · have i3 : (0 : Int) < (p : Int) := by omega
        have e1 := hc2.out
        rw [decide_eq_true (show p > 0 from hp0), Bool.true_and] at e1
        cases hl1 : lt d3[p - 1]! d3[pv]!
        · rw [hl1] at e1
          subst e1
          go_wp2_with (go_at_fn g; refine (K.lessAt (p - 1) pv (by omega) rfl (by omega) (by omega) h.row hl1).mono ?_; rintro e w2 ⟨rfl, hb1⟩; have h1 := h.below K hb1)
          go_meet
          exact ⟨rfl, h1⟩
        · rw [hl1] at e1
          subst e1
          go_wp2_with (go_at_fn g; refine (K.lessAt (p - 1) pv (by omega) rfl (by omega) (by omega) h.row hl1).mono ?_; rintro e w2 ⟨rfl, hb1⟩; have h1 := h.below K hb1)
          go_meet
          exact ⟨rfl, h1⟩
      · have i3 : ¬ (0 : Int) < (p : Int) := by omega
        have e1 := hc2.out
        rw [decide_eq_false (show ¬ p > 0 from hp0), Bool.false_and] at e1
        subst e1
        go_wp2_with fail
        go_meet
        exact ⟨rfl, h⟩
    case rest =>
    clear h hrr c0 hc2
    obtain ⟨rfl, h⟩ := hcut
    have hrr := h.box.range
    replace hO3 := hO3.out
    cases c2
    · rw [if_neg (by decide)] at hO3
      obtain ⟨⟨mid, ap, d4⟩, he⟩ : ∃ r, Sort.partition lt d3 p q pv = r := ⟨_, rfl⟩
      have hrg := Sort.partition_holds lt hSWO d3 p q pv hpvr.1 hpvr.2 (by omega)
      have kp := fun W (hW : S W d3) => spart_any K p q pv d3 W hW hpvr.1 hpvr.2 hqn
      rw [he] at hrg kp
      have hr1 : p ≤ mid := hrg.1
      have hr2 : mid < q := hrg.2.1
      replace hO3 := (pdq_parts (l1 := l1) he hr1 hr2).symm.trans hO3
      clear hrg he
      simp only at kp
      by_cases hlr : mid - p < q - mid
      · rw [if_pos hlr] at hO3
        have ed : decide (mid - p ≥ (q - p) / 8) = decide ((z : Int) / 8 ≤ (mid : Int) - (p : Int)) := decide_eq_decide.2 (by have := hz.out; omega)
        rw [ed] at hO3
        replace hO3 : Aside _ := hO3
        have i4 : (mid : Int) - (p : Int) < (q : Int) - (mid : Int) := by omega
        have e8 : (z : Int).tdiv 8 = (z : Int) / 8 := Int.tdiv_eq_ediv_of_nonneg (by omega)
        go_wp2_with (first | (refine wpList_load_row rfl _ rfl w.heap.size rfl [.func (.func g) #[] lb, .func (.func sf) #[] sb] hrr hund rfl hsz ?_) | fail)
        refine (kp _ h.row).mono ?_
        rintro e w2 ⟨rfl, hS2, hT2⟩
        have h2 := h.swapped hS2 hT2
        have hr2' := h2.box.range
        have kr := ih (mid - p) (by omega) p mid l1 d4 w2 (Nat.le_refl _) h2.row hr1 (by omega) hl1n
        clear kp hrr
        go_wp2_with (first | (refine wpList_load_row rfl _ rfl w.heap.size rfl [.func (.func g) #[] lb, .func (.func sf) #[] sb] hr2' hund rfl hsz ?_) | (go_at_call 47; refine kr.mono ?_; rintro e w3 ⟨rfl, hS3, hT3⟩))
        exact ⟨⟨mid + 1, q, l1, _, ap, _, by simp, rfl, rfl, rfl, rfl, by omega, hqn, by omega, hl1n, h2.swapped hS3 hT3, hO3⟩, by simp [Go.RowKit.intOf]; omega⟩
      · rw [if_neg hlr] at hO3
        have ed : decide (q - mid ≥ (q - p) / 8) = decide ((z : Int) / 8 ≤ (q : Int) - (mid : Int)) := decide_eq_decide.2 (by have := hz.out; omega)
        rw [ed] at hO3
        replace hO3 : Aside _ := hO3
        have i4 : ¬ (mid : Int) - (p : Int) < (q : Int) - (mid : Int) := by omega
        have e8 : (z : Int).tdiv 8 = (z : Int) / 8 := Int.tdiv_eq_ediv_of_nonneg (by omega)
        go_wp2_with (first | (refine wpList_load_row rfl _ rfl w.heap.size rfl [.func (.func g) #[] lb, .func (.func sf) #[] sb] hrr hund rfl hsz ?_) | fail)
        refine (kp _ h.row).mono ?_
        rintro e w2 ⟨rfl, hS2, hT2⟩
        have h2 := h.swapped hS2 hT2
        have hr2' := h2.box.range
        have kr := ih (q - (mid + 1)) (by omega) (mid + 1) q l1 d4 w2 (Nat.le_refl _) h2.row (by omega) hqn hl1n
        rw [show ((mid + 1 : Nat) : Int) = (mid : Int) + 1 by omega] at kr
        clear kp hrr
        go_wp2_with (first | (refine wpList_load_row rfl _ rfl w.heap.size rfl [.func (.func g) #[] lb, .func (.func sf) #[] sb] hr2' hund rfl hsz ?_) | (go_at_call 47; refine kr.mono ?_; rintro e w3 ⟨rfl, hS3, hT3⟩))
        exact ⟨⟨p, mid, l1, _, ap, _, rfl, rfl, rfl, rfl, rfl, hr1, by omega, by omega, hl1n, h2.swapped hS3 hT3, hO3⟩, by simp [Go.RowKit.intOf]; omega⟩
    · rw [if_pos rfl] at hO3
      obtain ⟨⟨mid, d4⟩, he⟩ : ∃ r, Sort.partitionEqual lt d3 p q pv = r := ⟨_, rfl⟩
      have hrg := parteq_range (lt := lt) (d := d3) hpvr.1 hpvr.2 (by omega)
      have kp := fun W (hW : S W d3) => sparteq_any K p q pv d3 W hW hpvr.1 hpvr.2 hqn
      rw [he] at hrg kp
      have hr1 : p < mid := hrg.1
      have hr2 : mid ≤ q := hrg.2
      replace hO3 := (pdq_eqs (l1 := l1) (wb := wb) (wp := wp) he hr1 hr2).symm.trans hO3
      replace hO3 : Aside _ := hO3
      clear hrg he
      simp only at kp
      go_wp2_with (first | (refine wpList_load_row rfl _ rfl w.heap.size rfl [.func (.func g) #[] lb, .func (.func sf) #[] sb] hrr hund rfl hsz ?_) | (go_at_call 76; refine (kp _ h.row).mono ?_; rintro e w2 ⟨rfl, hS2, hT2⟩))
      exact ⟨⟨mid, q, l1, wb, wp, d4, rfl, rfl, rfl, rfl, rfl, hr2, hqn, by omega, hl1n, h.swapped hS2 hT2, hO3⟩, by simp [Go.RowKit.intOf]; omega⟩
end Go.Proofs.YtohocomemkckeaaDoor

/-! sort.Slice AT THIS PROGRAM: the library of contracts laid in plain words. -/
namespace Go.Proofs.YtohocomemkckeaaDoor
open Go.RowKit Go.Shelf
def laysSlice_ren : Go.Shelf.Ren := ⟨fun | 6 => 26 | 10 => 43 | 11 => 44 | 12 => 45 | 13 => 46 | 14 => 47 | 24 => 68 | 25 => 69 | 26 => 70 | 27 => 71 | 28 => 72 | 29 => 73 | 30 => 74 | 31 => 75 | 32 => 76 | 33 => 77 | 34 => 81 | 35 => 82 | 36 => 83 | 37 => 84 | 38 => 85 | 39 => 92 | n => n, fun | 20 => 20 | 26 => 48 | 35 => 73 | 0 => 0 | 37 => 75 | 3 => 3 | 41 => 79 | 44 => 82 | 49 => 98 | 51 => 41 | 4 => 4 | 54 => 102 | 53 => 101 | 58 => 106 | 5 => 5 | 9 => 9 | 60 => 110 | 64 => 114 | 66 => 122 | 67 => 123 | 17 => 17 | 32 => 70 | 33 => 71 | 82 => 143 | 12 => 12 | 75 => 137 | 76 => 138 | 77 => 139 | 78 => 108 | 79 => 140 | 80 => 141 | n => n, fun | n => n⟩
theorem laysSlice : Go.Proofs.LaysGg.n6 Tryd.prog laysSlice_ren := {
  mixed := by kernel_rfl
  f6 := Tryd.func26.trans (congrArg some (by kernel_rfl))
  f10 := Tryd.func43.trans (congrArg some (by kernel_rfl))
  f11 := Tryd.func44.trans (congrArg some (by kernel_rfl))
  f12 := Tryd.func45.trans (congrArg some (by kernel_rfl))
  f13 := Tryd.func46.trans (congrArg some (by kernel_rfl))
  f14 := Tryd.func47.trans (congrArg some (by kernel_rfl))
  f24 := Tryd.func68.trans (congrArg some (by kernel_rfl))
  f25 := Tryd.func69.trans (congrArg some (by kernel_rfl))
  f26 := Tryd.func70.trans (congrArg some (by kernel_rfl))
  f27 := Tryd.func71.trans (congrArg some (by kernel_rfl))
  f28 := Tryd.func72.trans (congrArg some (by kernel_rfl))
  f29 := Tryd.func73.trans (congrArg some (by kernel_rfl))
  f30 := Tryd.func74.trans (congrArg some (by kernel_rfl))
  f31 := Tryd.func75.trans (congrArg some (by kernel_rfl))
  f32 := Tryd.func76.trans (congrArg some (by kernel_rfl))
  f33 := Tryd.func77.trans (congrArg some (by kernel_rfl))
  f34 := Tryd.func81.trans (congrArg some (by kernel_rfl))
  f35 := Tryd.func82.trans (congrArg some (by kernel_rfl))
  f36 := Tryd.func83.trans (congrArg some (by kernel_rfl))
  f37 := Tryd.func84.trans (congrArg some (by kernel_rfl))
  f38 := Tryd.func85.trans (congrArg some (by kernel_rfl))
  f39 := Tryd.func92.trans (congrArg some (by kernel_rfl))
  t0 := Tryd.underlying0
  a0 := Tryd.isAgg0
  z0 := Tryd.sizeOf0
  v0 := Tryd.zeroValue0
  i0 := by kernel_rfl
  t3 := Tryd.underlying3
  a3 := Tryd.isAgg3
  z3 := Tryd.sizeOf3
  v3 := Tryd.zeroValue3
  i3 := by kernel_rfl
  t4 := Tryd.underlying4
  a4 := Tryd.isAgg4
  z4 := Tryd.sizeOf4
  v4 := Tryd.zeroValue4
  i4 := by kernel_rfl
  t5 := Tryd.underlying5
  a5 := Tryd.isAgg5
  z5 := Tryd.sizeOf5
  v5 := Tryd.zeroValue5
  i5 := by kernel_rfl
  t9 := Tryd.underlying9
  a9 := Tryd.isAgg9
  z9 := Tryd.sizeOf9
  v9 := Tryd.zeroValue9
  i9 := by kernel_rfl
  t12 := Tryd.underlying12
  a12 := Tryd.isAgg12
  z12 := Tryd.sizeOf12
  v12 := Tryd.zeroValue12
  i12 := by kernel_rfl
  t17 := Tryd.underlying17
  a17 := Tryd.isAgg17
  z17 := Tryd.sizeOf17
  v17 := Tryd.zeroValue17
  i17 := by kernel_rfl
  t20 := Tryd.underlying20
  a20 := Tryd.isAgg20
  z20 := Tryd.sizeOf20
  v20 := Tryd.zeroValue20
  i20 := by kernel_rfl
  t26 := Tryd.underlying48
  a26 := Tryd.isAgg48
  z26 := Tryd.sizeOf48
  v26 := Tryd.zeroValue48
  i26 := by kernel_rfl
  t32 := Tryd.underlying70
  a32 := Tryd.isAgg70
  z32 := Tryd.sizeOf70
  v32 := Tryd.zeroValue70
  i32 := by kernel_rfl
  t33 := Tryd.underlying71
  a33 := Tryd.isAgg71
  z33 := Tryd.sizeOf71
  v33 := Tryd.zeroValue71
  i33 := by kernel_rfl
  t35 := Tryd.underlying73
  a35 := Tryd.isAgg73
  z35 := Tryd.sizeOf73
  v35 := Tryd.zeroValue73
  i35 := by kernel_rfl
  t37 := Tryd.underlying75
  a37 := Tryd.isAgg75
  z37 := Tryd.sizeOf75
  v37 := Tryd.zeroValue75
  i37 := by kernel_rfl
  t41 := Tryd.underlying79
  a41 := Tryd.isAgg79
  z41 := Tryd.sizeOf79
  v41 := Tryd.zeroValue79
  i41 := by kernel_rfl
  t44 := Tryd.underlying82
  a44 := Tryd.isAgg82
  z44 := Tryd.sizeOf82
  v44 := Tryd.zeroValue82
  i44 := by kernel_rfl
  t49 := Tryd.underlying98
  a49 := Tryd.isAgg98
  z49 := Tryd.sizeOf98
  v49 := Tryd.zeroValue98
  i49 := by kernel_rfl
  t51 := Tryd.underlying41
  a51 := Tryd.isAgg41
  z51 := Tryd.sizeOf41
  v51 := Tryd.zeroValue41
  i51 := by kernel_rfl
  t53 := Tryd.underlying101
  a53 := Tryd.isAgg101
  z53 := Tryd.sizeOf101
  v53 := Tryd.zeroValue101
  i53 := by kernel_rfl
  t54 := Tryd.underlying102
  a54 := Tryd.isAgg102
  z54 := Tryd.sizeOf102
  v54 := Tryd.zeroValue102
  i54 := by kernel_rfl
  t58 := Tryd.underlying106
  a58 := Tryd.isAgg106
  z58 := Tryd.sizeOf106
  v58 := Tryd.zeroValue106
  i58 := by kernel_rfl
  t60 := Tryd.underlying110
  a60 := Tryd.isAgg110
  z60 := Tryd.sizeOf110
  v60 := Tryd.zeroValue110
  i60 := by kernel_rfl
  t64 := Tryd.underlying114
  a64 := Tryd.isAgg114
  z64 := Tryd.sizeOf114
  v64 := Tryd.zeroValue114
  i64 := by kernel_rfl
  t66 := Tryd.underlying122
  a66 := Tryd.isAgg122
  z66 := Tryd.sizeOf122
  v66 := Tryd.zeroValue122
  i66 := by kernel_rfl
  t67 := Tryd.underlying123
  a67 := Tryd.isAgg123
  z67 := Tryd.sizeOf123
  v67 := Tryd.zeroValue123
  i67 := by kernel_rfl
  t75 := Tryd.underlying137
  a75 := Tryd.isAgg137
  z75 := Tryd.sizeOf137
  v75 := Tryd.zeroValue137
  i75 := by kernel_rfl
  t76 := Tryd.underlying138
  a76 := Tryd.isAgg138
  z76 := Tryd.sizeOf138
  v76 := Tryd.zeroValue138
  i76 := by kernel_rfl
  t77 := Tryd.underlying139
  a77 := Tryd.isAgg139
  z77 := Tryd.sizeOf139
  v77 := Tryd.zeroValue139
  i77 := by kernel_rfl
  t78 := Tryd.underlying108
  a78 := Tryd.isAgg108
  z78 := Tryd.sizeOf108
  v78 := Tryd.zeroValue108
  i78 := by kernel_rfl
  t79 := Tryd.underlying140
  a79 := Tryd.isAgg140
  z79 := Tryd.sizeOf140
  v79 := Tryd.zeroValue140
  i79 := by kernel_rfl
  t80 := Tryd.underlying141
  a80 := Tryd.isAgg141
  z80 := Tryd.sizeOf141
  v80 := Tryd.zeroValue141
  i80 := by kernel_rfl
  t82 := Tryd.underlying143
  a82 := Tryd.isAgg143
  z82 := Tryd.sizeOf143
  v82 := Tryd.zeroValue143
  i82 := by kernel_rfl }
end Go.Proofs.YtohocomemkckeaaDoor

/-! ARGUMENTS OPENED, FOR WHATEVER TYPES: a struct's fields, a row of elements, each read by a reader of its own. -/
namespace Go.Proofs.YtohocomemkckeaaDoor
open Go.ChangeShapes Go.WideShapes Go.ChangeAt Go.RowKit
set_option maxRecDepth 8000
set_option linter.unusedVariables false
set_option linter.unusedSimpArgs false

theorem own : ownKnob Tryd.prog.godebug = none := by kernel_rfl
theorem laidOut : laidOutB Tryd.prog = true := by kernel_rfl
theorem int_fits {n : Int} (h : (Lit.int .i64 n).wf = true) : -9223372036854775808 ≤ n ∧ n ≤ 9223372036854775807 := by
  simpa [Lit.wf, IntKind.min, IntKind.max, IntKind.bits, IntKind.signed] using h
theorem nat_u64 {n : Int} (h : (Lit.int .u64 n).wf = true) : ∃ k : Nat, n = (k : Int) ∧ k < 18446744073709551616 := by
  have : 0 ≤ n ∧ n ≤ 18446744073709551615 := by simpa [Lit.wf, IntKind.min, IntKind.max, IntKind.bits, IntKind.signed] using h
  exact ⟨n.toNat, by omega, by omega⟩
theorem nat_u8 {n : Int} (h : (Lit.int .u8 n).wf = true) : ∃ k : Nat, n = (k : Int) ∧ k < 256 := by
  have : 0 ≤ n ∧ n ≤ 255 := by simpa [Lit.wf, IntKind.min, IntKind.max, IntKind.bits, IntKind.signed] using h
  exact ⟨n.toNat, by omega, by omega⟩
section
variable {H : Type} {enc : TypeId × Value → H} {W : World} {base : Nat} {sp : Nat → Bool} {held : Bool}
/-- What a reading of a type tells of its cells. -/
def Reads (enc : TypeId × Value → H) (W : World) (base : Nat) (sp : Nat → Bool) (held : Bool) (t : TypeId) (p : List Value → Prop) : Prop := ∀ (n : Nat) (cs : List Value) (x : DataW H × List MemPlace), DataW.trod enc Tryd.prog W base sp held n t cs = some x → p cs
theorem reads_int {t : TypeId} {k : IntKind} (ht : Tryd.prog.underlying t = some (.int k)) : Reads enc W base sp held t fun cs => ∃ n, cs = [.int k n] ∧ (Lit.int k n).wf = true := fun n cs x h => by
  obtain ⟨m, rfl, _, hw⟩ := DataW.trod_int ht h
  exact ⟨m, rfl, hw⟩
theorem reads_bool {t : TypeId} (ht : Tryd.prog.underlying t = some .bool) : Reads enc W base sp held t fun cs => ∃ b, cs = [.bool b] := fun n cs x h => by
  obtain ⟨b, rfl, _⟩ := DataW.trod_bool ht h
  exact ⟨b, rfl⟩
theorem reads_string {t : TypeId} (ht : Tryd.prog.underlying t = some .string) : Reads enc W base sp held t fun cs => ∃ s : ByteArray, cs = [.string s] ∧ s.size ≤ 9223372036854775807 := fun n cs x h => by
  obtain ⟨s, rfl, _, hs⟩ := DataW.trod_string ht h
  exact ⟨s, rfl, by simpa [maxLen] using hs⟩
/-- A field of a struct. -/
theorem read_field {t ty : TypeId} {i off sz : Nat} {p : List Value → Prop} (ht : Tryd.prog.underlying t = some (.struct (Tryd.prog.fieldsOf t))) (hf : ((Tryd.prog.fieldsOf t)[i]?).map (fun f => (f.type, f.offset)) = some (ty, off)) (hc : Tryd.prog.cellsOf ty = sz) (hp : Reads enc W base sp held ty p) {n : Nat} {cs : List Value} {x : DataW H × List MemPlace} (h : DataW.trod enc Tryd.prog W base sp held n t cs = some x) : p ((cs.drop off).take sz) := by
  obtain ⟨xs, m, _, _, _, hlen, hg⟩ := DataW.trod_struct ht h
  cases hfi : (Tryd.prog.fieldsOf t)[i]? with
  | none => rw [hfi] at hf; cases hf
  | some f =>
    rw [hfi] at hf
    have e : (f.type, f.offset) = (ty, off) := by simpa using hf
    have e1 : f.type = ty := congrArg Prod.fst e
    have e2 : f.offset = off := congrArg Prod.snd e
    have hh := hg i f hfi
    have hi : i < xs.length := by
      have := (Array.getElem?_eq_some_iff.1 hfi).1
      omega
    rw [List.getElem?_eq_getElem hi, e1, e2, hc] at hh
    exact hp _ _ _ hh
theorem struct_len {t : TypeId} {sz : Nat} (ht : Tryd.prog.underlying t = some (.struct (Tryd.prog.fieldsOf t))) (hc : Tryd.prog.cellsOf t = sz) {n : Nat} {cs : List Value} {x : DataW H × List MemPlace} (h : DataW.trod enc Tryd.prog W base sp held n t cs = some x) : cs.length = sz := by
  obtain ⟨xs, m, _, _, hl, _⟩ := DataW.trod_struct ht h
  rw [hl, hc]
theorem pick_all {α : Type} {len : Nat} {p : Nat → α → Prop} (h : ∀ i, i < len → ∃ g, p i g) : ∃ l : List α, l.length = len ∧ ∀ j g, l[j]? = some g → p j g := by
  by_cases h0 : len = 0
  · subst h0
    exact ⟨[], rfl, fun j g q => by cases q⟩
  haveI : Inhabited α := ⟨(h 0 (by omega)).choose⟩
  have h' : ∀ i, ∃ g, i < len → p i g := fun i => by
    by_cases hi : i < len
    · obtain ⟨g, hg⟩ := h i hi; exact ⟨g, fun _ => hg⟩
    · exact ⟨default, fun k => absurd k hi⟩
  obtain ⟨f, hf⟩ := Classical.axiomOfChoice h'
  refine ⟨(List.range len).map f, by simp, fun j g hg => ?_⟩
  have hj : j < len := by
    have := (List.getElem?_eq_some_iff.1 hg).1
    simpa using this
  simp [List.getElem?_range hj] at hg
  subst hg
  exact hf j hj
/-- A row of elements. -/
theorem open_rows {α : Type} {t e : TypeId} {sz : Nat} {f : α → List Value} {q : α → Prop} (ht : Tryd.prog.underlying t = some (.slice e)) (hc : Tryd.prog.cellsOf e = sz) (hp : Reads enc W 0 (fun _ => true) true e fun cs => ∃ g, cs = f g ∧ q g) {n : Nat} {a : Option Addr} {len cap : Nat} {x : DataW H × List MemPlace} (h : DataW.trod enc Tryd.prog W 0 (fun _ => true) true n t [.slice a len cap] = some x) :
    ∃ l : List α, l.length = len ∧ (∀ j g, l[j]? = some g → ∃ y, a = some y ∧ (∀ i, i < sz → W.cell? (y.add (j * sz + i)) = (f g)[i]?)) ∧ (∀ g ∈ l, q g) ∧ (a = none → cap = 0) ∧ len ≤ cap ∧ cap ≤ 9223372036854775807 := by
  rcases Go.Deep.open_slice ht h with ⟨hcs, _⟩ | ⟨ad, l, c, m, n', Dd, Pl, hcs, _, hl, hm, hmm, _, hx⟩
  · simp at hcs
    obtain ⟨rfl, rfl, rfl⟩ := hcs
    exact ⟨[], rfl, fun j g hg => by simp at hg, by simp, fun _ => rfl, Nat.le_refl _, by omega⟩
  · simp at hcs
    obtain ⟨rfl, rfl, rfl⟩ := hcs
    simp only [if_true] at hmm
    have each : ∀ i, i < len → ∃ g : α, (∀ k, k < sz → W.cell? (ad.add (i * sz + k)) = (f g)[k]?) ∧ q g := fun i hi => by
      obtain ⟨cs', h2, h3⟩ := hx i (by omega)
      rw [hc] at h2
      obtain ⟨_, hlen, hcell⟩ := World.cells?_some h2
      obtain ⟨g, rfl, hq⟩ := hp _ _ _ h3
      refine ⟨g, fun k hk => ?_, hq⟩
      have e0 := hcell k (by omega)
      rw [Go.Deep.add_add] at e0
      rw [e0]
    obtain ⟨L, hL, hpp⟩ := pick_all each
    refine ⟨L, hL, fun j g hg => ⟨ad, rfl, (hpp j g hg).1⟩, fun g hg => ?_, fun h => (by cases h), hl, by simpa [maxLen] using hm⟩
    obtain ⟨j, hj, rfl⟩ := List.getElem_of_mem hg
    exact (hpp j L[j] (List.getElem?_eq_getElem hj)).2
end
end Go.Proofs.YtohocomemkckeaaDoor

/-! STRUCTS THAT CAME IN, WHATEVER THEIR NUMBER OF CELLS; labels. For every stage from the tenth on. -/
namespace Go.Proofs.YtohocomemkckeaaDoor
open Go.ChangeShapes Go.WideShapes Go.ChangeAt Go.RowKit
set_option maxRecDepth 8000
set_option linter.unusedVariables false
set_option linter.unusedSimpArgs false

def lcells (l : Lab) : List Value := [.int .i64 l.s, .int .i64 l.c, .int .i64 l.i, .int .i64 l.k]
def fitsI (n : Int) : Prop := -9223372036854775808 ≤ n ∧ n ≤ 9223372036854775807
def Lab.fits (l : Lab) : Prop := fitsI l.s ∧ fitsI l.c ∧ fitsI l.i ∧ fitsI l.k
theorem cInt : Tryd.prog.cellsOf 3 = 1 := by kernel_rfl
theorem cStr : Tryd.prog.cellsOf 9 = 1 := by kernel_rfl
theorem cBool : Tryd.prog.cellsOf 4 = 1 := by kernel_rfl
theorem cLab : Tryd.prog.cellsOf 23 = 4 := by kernel_rfl
/-- A struct as a parameter: its cells, and how they read. -/
theorem open_struct {H : Type} {enc : TypeId × Value → H} {W : World} {r : Reach} {b0 base : Nat} {sp : Nat → Bool} {held : Bool} {t : TypeId} {fs : Array Field} {v : Value} {d : DataW H} {p : List MemPlace} {q : List Value → Prop} (hs : Tryd.prog.underlying t = some (.struct fs)) (hq : Reads enc W base sp held t q)
    (hv : Value.okWide Tryd.prog W r b0 t v) (h : DataW.Trod enc Tryd.prog W base sp held t v d p) : ∃ cs : List Value, v = .agg cs.toArray ∧ q cs := by
  obtain ⟨cs, rfl, hsz⟩ := okWide_struct hs hv
  obtain ⟨fuel, hf⟩ := h
  exact ⟨cs.toList, by simp, hq fuel cs.toList (d, p) hf⟩
section
variable {H : Type} {enc : TypeId × Value → H} {W : World} {base : Nat} {sp : Nat → Bool} {held : Bool}
theorem reads_lab : Reads enc W base sp held 23 fun cs => ∃ l, cs = lcells l ∧ l.fits := fun n cs x h => by
  have hl := struct_len und cLab h
  obtain ⟨s, e0, w0⟩ := read_field (i := 0) (ty := 3) (off := 0) und (by kernel_rfl) cInt (reads_int Tryd.underlying3) h
  obtain ⟨c, e1, w1⟩ := read_field (i := 1) (ty := 3) (off := 1) und (by kernel_rfl) cInt (reads_int Tryd.underlying3) h
  obtain ⟨i, e2, w2⟩ := read_field (i := 2) (ty := 3) (off := 2) und (by kernel_rfl) cInt (reads_int Tryd.underlying3) h
  obtain ⟨k, e3, w3⟩ := read_field (i := 3) (ty := 3) (off := 3) und (by kernel_rfl) cInt (reads_int Tryd.underlying3) h
  match cs, hl with
  | [v0, v1, v2, v3], _ =>
    simp at e0 e1 e2 e3
    subst e0 e1 e2 e3
    exact ⟨⟨s, c, i, k⟩, rfl, int_fits w0, int_fits w1, int_fits w2, int_fits w3⟩
end
/-- A row within a struct. -/
theorem reads_rows {α : Type} {H : Type} {enc : TypeId × Value → H} {W : World} {t e : TypeId} {sz : Nat} {f : α → List Value} {q : α → Prop} (ht : Tryd.prog.underlying t = some (.slice e)) (hc : Tryd.prog.cellsOf e = sz) (hp : Reads enc W 0 (fun _ => true) true e fun cs => ∃ g, cs = f g ∧ q g) (hone : Tryd.prog.cellsOf t = 1) :
    Reads enc W 0 (fun _ => true) true t fun cs => ∃ (l : List α) (a : Option Addr) (cap : Nat), cs = [.slice a l.length cap] ∧ (∀ j g, l[j]? = some g → ∃ y, a = some y ∧ (∀ i, i < sz → W.cell? (y.add (j * sz + i)) = (f g)[i]?)) ∧ (∀ g ∈ l, q g) ∧ (a = none → cap = 0) ∧ l.length ≤ cap := fun n cs x h => by
  have h' := h
  rcases Go.Deep.open_slice ht h with ⟨hcs, _⟩ | ⟨ad, l, c', m, n', Dd, Pl, hcs, _⟩
  · subst hcs
    obtain ⟨L, hL, h1, h2, h3, h4, _⟩ := open_rows (f := f) (q := q) ht hc hp h'
    exact ⟨L, _, _, by rw [hL], h1, h2, h3, by omega⟩
  · subst hcs
    obtain ⟨L, hL, h1, h2, h3, h4, _⟩ := open_rows (f := f) (q := q) ht hc hp h'
    exact ⟨L, _, _, by rw [hL], h1, h2, h3, by omega⟩
end Go.Proofs.YtohocomemkckeaaDoor

/-! sort.Slice OF LABELS by package label's Less, in the closure of audit.Seen (SrtLab, turned). -/
namespace Go.Proofs.YtohocomemkckeaaDoor
open Go.RowKit Go.Shelf
set_option maxRecDepth 8000
set_option linter.unusedSimpArgs false
set_option linter.unusedVariables false

section
set_option linter.unusedSectionVars false
variable [Inhabited Lab]
theorem swo_less : Sort.SWO lessL where
  irrefl := less_irr
  trans := fun _ _ _ h k => lessL_trans h k
  ntrans := fun x y z h k => by
    cases hq : lessL x z
    · rfl
    · rcases less_tot y z with q | q | q
      · rw [q] at k; cases k
      · subst q; rw [hq] at h; cases h
      · have := lessL_trans hq q
        rw [this] at h; cases h
/-- In w the row in block g holds d, and the variable's box bs the slice over it. -/
structure RowS (g bs n c : Nat) (w : World) (d : Array Lab) : Prop where
  row : Sort.HoldsK lrow 4 w g 0 d
  size : d.size = n
  box : BlkL bs [.slice (some ⟨g, 0, none⟩) n c] w
  lt : g < w.heap.size
theorem holds_same {w w' : World} {g : Nat} {d : Array Lab} (h : Sort.HoldsK lrow 4 w g 0 d) (hb : w'.heap[g]? = w.heap[g]?) : Sort.HoldsK lrow 4 w' g 0 d := fun j hj => by
  have := h j hj
  refine ⟨?_, ?_⟩
  · rw [← this.1]
    exact World.cell?_of_block hb
  · rw [← this.2]
    exact World.frozen?_of_block hb
theorem RowS.same {g bs n c : Nat} {w w' : World} {d : Array Lab} (h : RowS g bs n c w d) (hb : ∀ k, k = g ∨ k = bs → w'.heap[k]? = w.heap[k]?) : RowS g bs n c w' d :=
  have lt1 : ∀ k, k < w.heap.size → w'.heap[k]? = w.heap[k]? → k < w'.heap.size := fun k hk e => by
    rw [Array.getElem?_eq_getElem hk] at e
    exact (Array.getElem?_eq_some_iff.1 e).1
  ⟨holds_same h.row (hb g (.inl rfl)), h.size, ⟨h.box.1.same (hb bs (.inr rfl)), lt1 bs h.box.2 (hb bs (.inr rfl))⟩, lt1 g h.lt (hb g (.inl rfl))⟩
theorem RowS.cells {g bs n c : Nat} {w : World} {d : Array Lab} (h : RowS g bs n c w d) {i : Nat} (hi : i < n) : CellsAt w ((⟨g, 0, none⟩ : Addr).add (i * 4)) (lab4 d[i]!) := fun j v hv => by
  have hj : j < 4 := (List.getElem?_eq_some_iff.1 hv).1
  have hc := (h.row.cell (i := i) (c := j) (by rw [h.size]; exact hi) hj).1
  have e1 : ((⟨g, 0, none⟩ : Addr).add (i * 4)).add j = ⟨g, 0 + i * 4 + j, none⟩ := by
    unfold Addr.add
    split <;> split <;> simp_all
  rw [e1, hc]
  have : (lrow d[i]!)[j]? = some v := hv
  simp [this]
theorem turned_put {w : World} {g m : Nat} {d : Array Lab} {os : Array Obj} : Turned [g] w (sortWorldK lrow 4 w g 0 m d os) := by
  refine ⟨rfl, rfl, rfl, ?_, fun k hk hn => ?_⟩
  · unfold sortWorldK
    simp [Sort.putRowK, Sort.putRow, Sort.mapBlock, Sort.ahead]
  · unfold sortWorldK
    have hne : ¬ g = k := fun e => hn (by simp [e])
    show (Array.modify w.heap g _ ++ os)[k]? = _
    rw [Array.getElem?_append_left (by simpa using hk), Array.getElem?_modify, if_neg hne]
theorem rows_put {g bs n c m : Nat} {w : World} {d d' : Array Lab} {os : Array Obj} (h : RowS g bs n c w d) (hne : bs ≠ g) (hs : d'.size = d.size) : RowS g bs n c (sortWorldK lrow 4 w g 0 m d' os) d' := by
  have ht : Turned [g] w (sortWorldK lrow 4 w g 0 m d' os) := turned_put
  exact ⟨holdsK_sortWorldK lrow 4 w g 0 m d d' os h.lt h.row hs, hs.trans h.size, ht.blk h.box (by simpa using hne), Nat.lt_of_lt_of_le h.lt ht.size⟩
theorem rows_swap {g bs n c : Nat} {w : World} {d : Array Lab} (h : RowS g bs n c w d) (hne : bs ≠ g) {i j : Nat} (hi : i < n) (hj : j < n) :
    RowS g bs n c ((w.setCells g (0 + i * 4) (lrow d[j]!)).setCells g (0 + j * 4) (lrow d[i]!)) (Sort.swp d i j) ∧ Turned [g] w ((w.setCells g (0 + i * 4) (lrow d[j]!)).setCells g (0 + j * 4) (lrow d[i]!)) := by
  have e1 := Sort.putRowK_swp lrow 4 (fun _ => rfl) w g 0 d i j (by rw [h.size]; exact hi) (by rw [h.size]; exact hj)
  rw [Sort.putRowK_self lrow 4 w g 0 d h.row] at e1
  have e2 : Sort.putRowK lrow 4 w g 0 (Sort.swp d i j) = sortWorldK lrow 4 w g 0 0 (Sort.swp d i j) #[] := by
    unfold sortWorldK
    rw [Sort.grow_empty]
    rfl
  rw [e1, e2]
  exact ⟨rows_put h hne (Sort.size_swp _ _ _), turned_put⟩
theorem lslice_load (w : World) (y : Addr) (v : Value) (h : w.cell? y = some v) : (Instr.loadAt 57 (.pointer (some y))).run Tryd.prog w = .ok v w := by
  have h1 := Tryd.underlying57
  go_simp
set_option maxRecDepth 8000 in
set_option maxHeartbeats 2000000 in
theorem allless_any {g bs n c : Nat} {w : World} {d : Array Lab} (h : RowS g bs n c w d) (hn : n < 1000000) {i j : Nat} (hi : i < n) (hj : j < n) :
    Calls Tryd.prog 27 #[.int .i64 (i : Int), .int .i64 (j : Int), .pointer (some ⟨bs, 0, none⟩)] w fun e w' => e = .returned (.bool (lessL d[i]! d[j]!)) ∧ Below w.heap.size w w' := by
  have hundL := Tryd.underlying23
  have hsl : (Tryd.prog.info? 23).map (·.size) = some 4 := by kernel_rfl
  have hci := h.cells hi
  have hcj := h.cells hj
  have kl := lless_any d[i]! d[j]!
  obtain ⟨R, hR⟩ : ∃ R, lessL d[i]! d[j]! = R := ⟨_, rfl⟩
  obtain ⟨x, hx⟩ : ∃ x, d[i]! = x := ⟨_, rfl⟩
  obtain ⟨y, hy⟩ : ∃ y, d[j]! = y := ⟨_, rfl⟩
  rw [hR] at kl ⊢
  rw [hx] at hci kl
  rw [hy] at hcj kl
  clear hR hx hy
  have i1 : (i : Int) < (n : Int) := by omega
  have j1 : (j : Int) < (n : Int) := by omega
  have hbx := h.box
  clear h
  generalize (⟨g, 0, none⟩ : Addr) = a0 at *
  have hS : (fun W => BlkL bs [.slice (some a0) n c] W ∧ CellsAt W (a0.add (i * 4)) (lab4 x) ∧ CellsAt W (a0.add (j * 4)) (lab4 y)) w.drew := ⟨hbx, hci, hcj⟩
  go_enter Tryd.func27, Tryd.ntmps27
  go_upto_region 1 with fail
  refine wp_region_held_drew (S := (fun W => BlkL bs [.slice (some a0) n c] W ∧ CellsAt W (a0.add (i * 4)) (lab4 x) ∧ CellsAt W (a0.add (j * 4)) (lab4 y))) (by kernel_rfl) (by first | exact hS1 | exact hS) ?_
  intro hHeld
  (first | (refine wpAnyH_take (i := 0) (v := _) (by simp only [gA, gB, gC]; rfl) (by kernel_rfl) (by kernel_rfl) (by kernel_rfl) (by exact fun _ _ _ h => h) (yields_oneG (by rfl) _ rfl ⟨bs, 0, none⟩ rfl (.slice (some a0) n c) (fun _ q => (q.1.1 0 _ rfl).1) lslice_load) (by assumption) ?_) | (refine wpAnyH_take (i := 0) (v := undef) (by simp only [gA, gB, gC]; rfl) (by kernel_rfl) (by kernel_rfl) (by kernel_rfl) (by exact fun _ _ _ h => h) (Or.inr ⟨by rfl, rfl⟩) (by assumption) ?_) | fail); simp only [Act.put, sA, sB, sC]
  (first | (refine wpAnyH_take (i := 1) (v := ?_) (by simp only [gA, gB, gC]; rfl) (by kernel_rfl) (by kernel_rfl) (by kernel_rfl) (by exact fun _ _ _ h => h) (Or.inl ⟨by rfl, ?_⟩) (by assumption) ?_; rotate_left; (focus (intro w hSw; (try dsimp only at hSw); go_simp; try with_reducible rfl))) | (refine wpAnyH_take (i := 1) (v := undef) (by simp only [gA, gB, gC]; rfl) (by kernel_rfl) (by kernel_rfl) (by kernel_rfl) (by exact fun _ _ _ h => h) (Or.inr ⟨by rfl, rfl⟩) (by assumption) ?_) | fail); simp only [Act.put, sA, sB, sC]
  (first | (refine wpAnyH_take (i := 2) (v := ?_) (by simp only [gA, gB, gC]; rfl) (by kernel_rfl) (by kernel_rfl) (by kernel_rfl) (by exact fun _ _ _ h => h) (Or.inl ⟨by rfl, ?_⟩) (by assumption) ?_; rotate_left; (focus (intro w hSw; (try dsimp only at hSw); go_simp; try with_reducible rfl))) | (refine wpAnyH_take (i := 2) (v := undef) (by simp only [gA, gB, gC]; rfl) (by kernel_rfl) (by kernel_rfl) (by kernel_rfl) (by exact fun _ _ _ h => h) (Or.inr ⟨by rfl, rfl⟩) (by assumption) ?_) | fail); simp only [Act.put, sA, sB, sC]
  (first | (refine wpAnyH_take (i := 3) (v := _) (by simp only [gA, gB, gC]; rfl) (by kernel_rfl) (by kernel_rfl) (by kernel_rfl) (by exact fun _ _ _ h => h) (yields_at (by rfl) _ rfl _ rfl (lab4 x) (fun _ q => q.2.1) hundL rfl hsl) (by assumption) ?_) | (refine wpAnyH_take (i := 3) (v := undef) (by simp only [gA, gB, gC]; rfl) (by kernel_rfl) (by kernel_rfl) (by kernel_rfl) (by exact fun _ _ _ h => h) (Or.inr ⟨by rfl, rfl⟩) (by assumption) ?_) | fail); simp only [Act.put, sA, sB, sC]
  (first | (refine wpAnyH_take (i := 4) (v := _) (by simp only [gA, gB, gC]; rfl) (by kernel_rfl) (by kernel_rfl) (by kernel_rfl) (by exact fun _ _ _ h => h) (yields_oneG (by rfl) _ rfl ⟨bs, 0, none⟩ rfl (.slice (some a0) n c) (fun _ q => (q.1.1 0 _ rfl).1) lslice_load) (by assumption) ?_) | (refine wpAnyH_take (i := 4) (v := undef) (by simp only [gA, gB, gC]; rfl) (by kernel_rfl) (by kernel_rfl) (by kernel_rfl) (by exact fun _ _ _ h => h) (Or.inr ⟨by rfl, rfl⟩) (by assumption) ?_) | fail); simp only [Act.put, sA, sB, sC]
  (first | (refine wpAnyH_take (i := 5) (v := ?_) (by simp only [gA, gB, gC]; rfl) (by kernel_rfl) (by kernel_rfl) (by kernel_rfl) (by exact fun _ _ _ h => h) (Or.inl ⟨by rfl, ?_⟩) (by assumption) ?_; rotate_left; (focus (intro w hSw; (try dsimp only at hSw); go_simp; try with_reducible rfl))) | (refine wpAnyH_take (i := 5) (v := undef) (by simp only [gA, gB, gC]; rfl) (by kernel_rfl) (by kernel_rfl) (by kernel_rfl) (by exact fun _ _ _ h => h) (Or.inr ⟨by rfl, rfl⟩) (by assumption) ?_) | fail); simp only [Act.put, sA, sB, sC]
  (first | (refine wpAnyH_take (i := 6) (v := ?_) (by simp only [gA, gB, gC]; rfl) (by kernel_rfl) (by kernel_rfl) (by kernel_rfl) (by exact fun _ _ _ h => h) (Or.inl ⟨by rfl, ?_⟩) (by assumption) ?_; rotate_left; (focus (intro w hSw; (try dsimp only at hSw); go_simp; try with_reducible rfl))) | (refine wpAnyH_take (i := 6) (v := undef) (by simp only [gA, gB, gC]; rfl) (by kernel_rfl) (by kernel_rfl) (by kernel_rfl) (by exact fun _ _ _ h => h) (Or.inr ⟨by rfl, rfl⟩) (by assumption) ?_) | fail); simp only [Act.put, sA, sB, sC]
  (first | (refine wpAnyH_take (i := 7) (v := _) (by simp only [gA, gB, gC]; rfl) (by kernel_rfl) (by kernel_rfl) (by kernel_rfl) (by exact fun _ _ _ h => h) (yields_at (by rfl) _ rfl _ rfl (lab4 y) (fun _ q => q.2.2) hundL rfl hsl) (by assumption) ?_) | (refine wpAnyH_take (i := 7) (v := undef) (by simp only [gA, gB, gC]; rfl) (by kernel_rfl) (by kernel_rfl) (by kernel_rfl) (by exact fun _ _ _ h => h) (Or.inr ⟨by rfl, rfl⟩) (by assumption) ?_) | fail); simp only [Act.put, sA, sB, sC]
  first | (refine wpAnyH_take (i := 8) (v := undef) (by simp only [gA, gB, gC]; rfl) (by kernel_rfl) (by kernel_rfl) (by kernel_rfl) (by exact fun _ _ _ h => h) (Or.inr ⟨by rfl, rfl⟩) (by assumption) ?_; simp only [Act.put, sA, sB, sC]) | (refine wpAnyH_ready (rs := [8]) (by kernel_rfl) (by simp) ?_; refine AllReadyH.cons (by simp only [gA, gB, gC]; rfl) (fun K hK => ?_) AllReadyH.nil; go_simp; (first | (go_at_call 28; refine (kl _).mono ?_; rintro e w1 ⟨rfl, hb1⟩; have hS1 : (fun W => BlkL bs [.slice (some a0) n c] W ∧ CellsAt W (a0.add (i * 4)) (lab4 x) ∧ CellsAt W (a0.add (j * 4)) (lab4 y)) w1 := ⟨stab_blk _ _ _ _ hS.1 hb1, hS.2.1.below hb1, hS.2.2.below hb1⟩)); refine hK.out _ _ (by first | exact hS1 | exact hS) ?_; clear hHeld hK; intro hHeld; (try simp only [Act.put, sA, sB, sC])) | fail
  (first | (refine wpAnyH_take (i := 9) (v := ?_) (by simp only [gA, gB, gC]; rfl) (by kernel_rfl) (by kernel_rfl) (by kernel_rfl) (by exact fun _ _ _ h => h) (Or.inl ⟨by rfl, ?_⟩) (by assumption) ?_; rotate_left; (focus (intro w hSw; (try dsimp only at hSw); go_simp; try with_reducible rfl))) | (refine wpAnyH_take (i := 9) (v := undef) (by simp only [gA, gB, gC]; rfl) (by kernel_rfl) (by kernel_rfl) (by kernel_rfl) (by exact fun _ _ _ h => h) (Or.inr ⟨by rfl, rfl⟩) (by assumption) ?_) | fail); simp only [Act.put, sA, sB, sC]
  refine wpAnyH_done (by kernel_rfl) ?_ _
  go_wp2_with fail
  go_ret
  exact ⟨rfl, Below.then (Below.refl w.heap.size w).drew hb1⟩
theorem lab_info : ∃ ie, Tryd.prog.info? 23 = some ie ∧ ie.hasPointers = false ∧ ie.bytes = 32 ∧ ie.size = 4 := by
  have h : (Tryd.prog.info? 23).map (fun i => (i.hasPointers, i.bytes, i.size)) = some (false, 32, 4) := by kernel_rfl
  cases he : Tryd.prog.info? 23 with
  | none => rw [he] at h; cases h
  | some i =>
    rw [he] at h
    simp at h
    exact ⟨i, rfl, h.1, h.2.1, h.2.2⟩
theorem labs_info : ∃ i, Tryd.prog.info? 57 = some i ∧ i.desc = .slice 23 := by
  have h : ((Tryd.prog.info? 57).map (fun i => match i.desc with | .slice e => some e | _ => none)) = some (some 23) := by kernel_rfl
  cases he : Tryd.prog.info? 57 with
  | none => rw [he] at h; cases h
  | some i =>
    rw [he] at h
    refine ⟨i, rfl, ?_⟩
    cases hd : i.desc <;> simp [hd] at h ⊢
    exact h
theorem lab_swapper {ie : TypeInfo} (h1 : ie.hasPointers = false) (h2 : ie.bytes = 32) (n : Nat) (hn : 2 ≤ n) (ke : Nat) : Lib.swapperK n ie ke = 9 := by
  have c : (n == 0) = false := by simp; omega
  have d : (n == 1) = false := by simp; omega
  simp [Lib.swapperK, h1, h2, c, d]
theorem lab_one (x : Lab) : ∀ v ∈ lrow x, v.oneCell' = true := fun v hv => by simp [lrow] at hv; rcases hv with rfl | rfl | rfl | rfl <;> rfl
theorem lays28 : LaysGg.n28 Tryd.prog laysSlice_ren := { laysSlice with }
theorem lbrk_any {g bs n c : Nat} {w : World} {d : Array Lab} (hne : bs ≠ g) (hn : n < 1000000) (h : RowS g bs n c w d) (a b : Nat) (hab : a ≤ b) (hb : b ≤ n) (lv : Array Value) (gf sf : Nat) (sb : Array Value) (hsw : SwapSwapsK Tryd.prog sf sb lrow 4 g 0 n) :
    Calls Tryd.prog 72 #[.agg #[.func (.func gf) #[] lv, .func (.func sf) #[] sb], .int .i64 (a : Int), .int .i64 (b : Int)] w fun e w' => e = .returned (.tuple #[]) ∧ RowS g bs n c w' (Sort.breakPatterns d a b) ∧ Turned [g] w w' := by
  have hb' : b ≤ d.size := by rw [h.size]; exact hb
  have hsw' : SwapSwapsK Tryd.prog sf sb lrow 4 g 0 d.size := by rw [h.size]; exact hsw
  have k := Any.breakPatterns_func_cells_w lays28 lrow 4 (fun _ => rfl) (.func gf) #[] lv sf sb g 0 a b d w hsw' h.row h.lt hab hb' (by rw [h.size]; omega)
  replace k : Calls Tryd.prog 72 _ _ _ := k
  refine k.mono ?_
  rintro e w' ⟨rfl, m, os, rfl⟩
  exact ⟨rfl, rows_put h hne (Sort.breakPatterns_holds d a b hab hb').1, turned_put⟩
theorem srt_lab {g bs n c B : Nat} (hne : bs ≠ g) (hgB : g < B) (hbB : bs < B) (hn : n < 1000000) : Srt n 27 67 #[.pointer (some ⟨bs, 0, none⟩)] #[.slice (some ⟨g, 0, none⟩) n c, typeHandle Tryd.prog 23] lessL g (fun w d => RowS g bs n c w d ∧ B ≤ w.heap.size) := by
  obtain ⟨ie, hie, hp, hb, hs⟩ := lab_info
  have hsw := swapSwapsK_of_literal (P := Tryd.prog) false 67 (fun args W => run_callFunc_extern Tryd.func67 (by kernel_rfl) (by kernel_rfl) (by kernel_rfl) (e := Extern.ReflectliteSwapper.swap false) (by kernel_rfl) args W) 23 ie hie lrow 4 (fun _ => rfl) hs (fun _ => by kernel_rfl) lab_one g 0 n c
  refine ⟨enters_of Tryd.func27 (by kernel_rfl) rfl, fun w d i j h hi hj => allless_any h.1 hn hi hj, fun w d i j h hi hj => ?_, fun {w w' d} h hb => ⟨h.1.same fun k hk => hb.block k ?_, Nat.le_trans h.2 hb.size⟩, fun h => h.1.lt, fun h => h.1.size, hn, fun w d a b h hab hb => ?_, ⟨B, fun h => h.2, fun {w w' d} h hk => ⟨h.1.same fun k hq => hk k ?_, ?_⟩⟩⟩
  · have h1 := rows_swap h.1 hne hi hj
    exact ⟨_, hsw w d h.1.row h.1.size i j hi hj, ⟨h1.1, Nat.le_trans h.2 h1.2.size⟩, h1.2⟩
  · have h1 := h.1.lt
    have h2 := h.1.box.2
    omega
  · refine (lbrk_any hne hn h.1 a b hab hb _ _ _ _ hsw).mono ?_
    rintro e w' ⟨rfl, h1, ht⟩
    exact ⟨rfl, ⟨h1, Nat.le_trans h.2 ht.size⟩, ht⟩
  · omega
  · have h1 : B - 1 < w.heap.size := by have := h.2; omega
    have h2 := hk (B - 1) (by omega)
    rw [Array.getElem?_eq_getElem h1] at h2
    have := (Array.getElem?_eq_some_iff.1 h2).1
    omega
end
set_option maxRecDepth 8000 in
set_option maxHeartbeats 2000000 in
theorem lsort_any (v : Value) (xs : List Lab) (bs base : Nat) (w : World) (ho : OwnR 23 4 lrow w base v xs) (hb : BlkL bs [v] w) (hbs : some bs ≠ v.ownBlock) (hl : xs.length ≤ 1000) :
    Calls Tryd.prog 26 #[.iface 57 v, .func (.func 27) #[] #[.pointer (some ⟨bs, 0, none⟩)]] w fun e w' => e = .returned (.tuple #[]) ∧ ∃ ys a c, ys.Perm xs ∧ SortL ys ∧ v = .slice a ys.length c ∧ RowAt 4 lrow w' a ys ∧ Turned v.ownBlock.toList w w' := by
  haveI : Inhabited Lab := ⟨⟨0, 0, 0, 0⟩⟩
  obtain ⟨ie, hie, hp, hby, hsz⟩ := lab_info
  obtain ⟨it, hit, hid⟩ := labs_info
  by_cases h1 : xs.length ≤ 1
  · obtain ⟨a, c, hv, -, -, hr⟩ := OwnR.slice lab_ok.len ho
    have hs : SortL xs := by
      match xs, h1 with
      | [], _ => exact List.Pairwise.nil
      | [x], _ => exact List.pairwise_singleton _ _
    obtain ⟨f, hf⟩ : ∃ f, Tryd.prog.funcs.findIdx? (·.name == "internal/reflectlite" ++ ".Swapper$" ++ toString (Lib.swapperK xs.length ie 25)) = some f := by
      rcases (show xs.length = 0 ∨ xs.length = 1 by omega) with q | q
      · exact ⟨59, by rw [q]; simp only [Lib.swapperK]; kernel_rfl⟩
      · exact ⟨60, by rw [q]; simp only [Lib.swapperK]; kernel_rfl⟩
    have k := Any.sort_Slice_tiny laysSlice 57 23 it ie hit hid (by kernel_rfl) hie 25 (fun _ => by kernel_rfl) a xs.length c h1 f hf (.func 27) #[] #[.pointer (some ⟨bs, 0, none⟩)] w
    replace k : Calls Tryd.prog 26 _ _ _ := k
    rw [← hv] at k
    refine k.mono ?_
    rintro e w' ⟨rfl, os, rfl⟩
    have hB : Below w.heap.size w (Sort.grow w os) := ⟨rfl, rfl, rfl, by simp [Sort.grow], fun k hk => by simp [Sort.grow, Array.getElem?_append_left hk]⟩
    exact ⟨rfl, xs, a, c, List.Perm.refl _, hs, hv, hr.below lab_ok.len hB, turned_below hB⟩
  · obtain ⟨g, c, rfl, hgl, hrow⟩ : ∃ g c, v = .slice (some ⟨g, 0, none⟩) xs.length c ∧ g < w.heap.size ∧ Sort.HoldsK lrow 4 w g 0 xs.toArray := by
      rcases ho.2 with ⟨-, h2⟩ | ⟨g, cap, cur, hv, -, hh, -⟩
      · omega
      · refine ⟨g, cap, hv, (Array.getElem?_eq_some_iff.1 hh).1, fun j hj => ?_⟩
        have ho' := ho
        rw [hv] at ho'
        have hj' : j < xs.length * 4 := by simpa using hj
        obtain ⟨a1, c1, hv1, -, -, hr1⟩ := OwnR.slice lab_ok.len ho'
        obtain ⟨rfl, rfl⟩ : some ⟨g, 0, none⟩ = a1 ∧ cap = c1 := by
          injection hv1 with q1 q2 q3
          exact ⟨q1, q3⟩
        obtain ⟨x, hx⟩ : ∃ x, xs[j / 4]? = some x := ⟨_, List.getElem?_eq_getElem (by omega)⟩
        obtain ⟨y, hy, hcy⟩ := hr1 (j / 4) x hx
        obtain rfl := Option.some.inj hy
        have hc := hcy (j % 4) (Nat.mod_lt _ (by decide))
        rw [show j / 4 * 4 + j % 4 = j by omega] at hc
        have ea : (⟨g, 0, none⟩ : Addr).add j = ⟨g, 0 + j, none⟩ := by
          unfold Addr.add
          split <;> simp_all
        have e4 : (lrow x)[j % 4]? = some (lrow x)[j % 4]! := by
          have h4 : j % 4 < (lrow x).length := Nat.mod_lt _ (by decide)
          rw [List.getElem?_eq_getElem h4, getElem!_pos (lrow x) (j % 4) h4]
        have ex : xs.toArray[j / 4]! = x := by
          rw [Array.getElem!_eq_getD, Array.getD_eq_getD_getElem?]
          simp [hx]
        have c2 := World.ownsRow.frozenAt (show w.ownsRow base 23 4 (.slice (some ⟨g, 0, none⟩) xs.length cap) xs.length (xs.flatMap lrow) from ho') j
        rw [Nat.zero_add] at ea ⊢
        refine ⟨?_, c2⟩
        rw [← ea, hc, e4, Sort.get_flatK lrow 4 xs.toArray j (by simpa using hj'), ex]
        rfl
    have hbs' : bs ≠ g := fun e => hbs (by rw [e]; rfl)
    obtain ⟨n, hn⟩ : ∃ n, xs.length = n := ⟨_, rfl⟩
    rw [hn] at hb h1 hl ⊢
    have h2 : 2 ≤ n := by omega
    have hn9 := lab_swapper hp hby n h2 25
    have hB : sliceBound Tryd.prog 23 ie 25 (some ⟨g, 0, none⟩) n c = #[.slice (some ⟨g, 0, none⟩) n c, typeHandle Tryd.prog 23] := by
      unfold sliceBound
      rw [if_neg (swapperK_gt _ _ _ h2)]
    have hrs : RowS g bs n c w xs.toArray := ⟨hrow, by simpa using hn, hb, hgl⟩
    have hBw : Below w.heap.size w (sliceWorld Tryd.prog laysSlice_ren 57 (some ⟨g, 0, none⟩) n c w) := by
      unfold sliceWorld
      exact below2 w _ _
    have hrs1 := hrs.same (w' := sliceWorld Tryd.prog laysSlice_ren 57 (some ⟨g, 0, none⟩) n c w) fun k hk => hBw.block k (by
      have h3 := hrs.lt
      have h4 := hrs.box.2
      omega)
    have K := srt_lab (g := g) (bs := bs) (n := n) (c := c) (B := w.heap.size) hbs' hgl hb.2 (by omega)
    have hlim : Lib.bitLen n ≤ 1000 := Nat.le_trans (Lib.bitLen_le n 62 (by omega) (by omega)) (by decide)
    have kp := spdq_any K swo_less n 0 n (Lib.bitLen n) xs.toArray _ (by omega) ⟨hrs1, hBw.size⟩ (by omega) (Nat.le_refl _) hlim
    have k := Any.sort_Slice_of_pdq laysSlice 57 23 it ie hit hid (by kernel_rfl) hie 25 (fun _ => by kernel_rfl) (some ⟨g, 0, none⟩) n c (by omega) 67 (by rw [hn9]; kernel_rfl) (.func 27) #[] #[.pointer (some ⟨bs, 0, none⟩)] w
      (fun w' => RowS g bs n c w' (Sort.pdq lessL xs.toArray 0 n (Lib.bitLen n) true true) ∧ Turned [g] w w') (by
        rw [hB]
        refine Calls.mono (show Calls Tryd.prog 47 _ _ _ from kp) ?_
        rintro e w' ⟨he, hS, hT⟩
        exact ⟨he, hS.1, (turned_below hBw).trans hT⟩)
    replace k : Calls Tryd.prog 26 _ _ _ := k
    refine k.mono ?_
    rintro e w' ⟨rfl, hR, hT⟩
    have hps := Sort.pdq_sorts lessL swo_less xs.toArray 0 n (Lib.bitLen n) true true (Nat.zero_le _) (by simp; omega) (Or.inl rfl)
    generalize Sort.pdq lessL xs.toArray 0 n (Lib.bitLen n) true true = d at hR hps
    obtain ⟨⟨hz, -, hpm⟩, hso⟩ := hps
    have hdn : d.size = n := hR.size
    have hyl : d.toList.length = n := by simpa using hdn
    refine ⟨rfl, d.toList, some ⟨g, 0, none⟩, c, ?_, ?_, by rw [hyl], ?_, hT⟩
    · have e1 : (d.extract 0 n).toList = d.toList := by rw [← hdn]; simp
      have e2 : (xs.toArray.extract 0 n).toList = xs := by rw [← hn]; simp
      rw [e1, e2] at hpm
      exact hpm
    · refine List.pairwise_iff_getElem.2 fun i j hi hj hij => ?_
      have := hso i j (Nat.zero_le _) hij (by omega)
      rw [getElem!_pos d i (by simpa using hi), getElem!_pos d j (by simpa using hj)] at this
      simpa using this
    · intro j x hx
      refine ⟨_, rfl, fun i hi => ?_⟩
      have hj : j < n := by have := (List.getElem?_eq_some_iff.1 hx).1; omega
      have hxx : d[j]! = x := by
        rw [getElem!_pos d j (by omega)]
        have := (List.getElem?_eq_some_iff.1 hx).2
        simpa using this
      have hc := (hR.row.cell (i := j) (c := i) (by omega) hi).1
      rw [hxx] at hc
      have ea : (⟨g, 0, none⟩ : Addr).add (j * 4 + i) = ⟨g, 0 + j * 4 + i, none⟩ := by
        unfold Addr.add
        split <;> simp_all
      have e4 : (lrow x)[i]? = some (lrow x)[i]! := by
        have h4 : i < (lrow x).length := hi
        rw [List.getElem?_eq_getElem h4, getElem!_pos (lrow x) i h4]
      rw [ea, hc, e4]
end Go.Proofs.YtohocomemkckeaaDoor

/-! strconv.Itoa AND strings.Join AT THIS PROGRAM: the library of contracts laid in plain words, and the calls. -/
namespace Go.Proofs.YtohocomemkckeaaDoor
open Go.RowKit Go.Shelf
def laysItoa_ren : Go.Shelf.Ren := ⟨fun | 171 => 36 | 243 => 54 | 246 => 80 | 283 => 88 | 284 => 89 | 285 => 90 | 286 => 91 | 129 => 69 | 317 => 93 | 318 => 94 | 319 => 95 | 320 => 96 | 337 => 97 | 338 => 98 | n => n, fun | 3 => 3 | 9 => 9 | 2 => 2 | 4 => 4 | 171 => 118 | 0 => 0 | 53 => 41 | 37 => 44 | 5 => 5 | 173 => 120 | 212 => 127 | 51 => 98 | 20 => 20 | 213 => 128 | 46 => 79 | 232 => 130 | 233 => 131 | n => n, fun | 17 => 2 | 18 => 3 | 19 => 4 | n => n⟩
theorem laysItoa : Go.Proofs.LaysM.n171 Tryd.prog laysItoa_ren := {
  mixed := by kernel_rfl
  f129 := Tryd.func69.trans (congrArg some (by kernel_rfl))
  f171 := Tryd.func36.trans (congrArg some (by kernel_rfl))
  f243 := Tryd.func54.trans (congrArg some (by kernel_rfl))
  f246 := Tryd.func80.trans (congrArg some (by kernel_rfl))
  f283 := Tryd.func88.trans (congrArg some (by kernel_rfl))
  f284 := Tryd.func89.trans (congrArg some (by kernel_rfl))
  f285 := Tryd.func90.trans (congrArg some (by kernel_rfl))
  f286 := Tryd.func91.trans (congrArg some (by kernel_rfl))
  f317 := Tryd.func93.trans (congrArg some (by kernel_rfl))
  f318 := Tryd.func94.trans (congrArg some (by kernel_rfl))
  f319 := Tryd.func95.trans (congrArg some (by kernel_rfl))
  f320 := Tryd.func96.trans (congrArg some (by kernel_rfl))
  f337 := Tryd.func97.trans (congrArg some (by kernel_rfl))
  f338 := Tryd.func98.trans (congrArg some (by kernel_rfl))
  t0 := Tryd.underlying0
  a0 := Tryd.isAgg0
  z0 := Tryd.sizeOf0
  v0 := Tryd.zeroValue0
  t2 := Tryd.underlying2
  a2 := Tryd.isAgg2
  z2 := Tryd.sizeOf2
  v2 := Tryd.zeroValue2
  t3 := Tryd.underlying3
  a3 := Tryd.isAgg3
  z3 := Tryd.sizeOf3
  v3 := Tryd.zeroValue3
  t4 := Tryd.underlying4
  a4 := Tryd.isAgg4
  z4 := Tryd.sizeOf4
  v4 := Tryd.zeroValue4
  t5 := Tryd.underlying5
  a5 := Tryd.isAgg5
  z5 := Tryd.sizeOf5
  v5 := Tryd.zeroValue5
  t9 := Tryd.underlying9
  a9 := Tryd.isAgg9
  z9 := Tryd.sizeOf9
  v9 := Tryd.zeroValue9
  t20 := Tryd.underlying20
  a20 := Tryd.isAgg20
  z20 := Tryd.sizeOf20
  v20 := Tryd.zeroValue20
  t37 := Tryd.underlying44
  a37 := Tryd.isAgg44
  z37 := Tryd.sizeOf44
  v37 := Tryd.zeroValue44
  t46 := Tryd.underlying79
  a46 := Tryd.isAgg79
  z46 := Tryd.sizeOf79
  v46 := Tryd.zeroValue79
  t51 := Tryd.underlying98
  a51 := Tryd.isAgg98
  z51 := Tryd.sizeOf98
  v51 := Tryd.zeroValue98
  t53 := Tryd.underlying41
  a53 := Tryd.isAgg41
  z53 := Tryd.sizeOf41
  v53 := Tryd.zeroValue41
  t171 := Tryd.underlying118
  a171 := Tryd.isAgg118
  z171 := Tryd.sizeOf118
  v171 := Tryd.zeroValue118
  t173 := Tryd.underlying120
  a173 := Tryd.isAgg120
  z173 := Tryd.sizeOf120
  v173 := Tryd.zeroValue120
  t212 := Tryd.underlying127
  a212 := Tryd.isAgg127
  z212 := Tryd.sizeOf127
  v212 := Tryd.zeroValue127
  t213 := Tryd.underlying128
  a213 := Tryd.isAgg128
  z213 := Tryd.sizeOf128
  t232 := Tryd.underlying130
  a232 := Tryd.isAgg130
  z232 := Tryd.sizeOf130
  v232 := Tryd.zeroValue130
  t233 := Tryd.underlying131
  a233 := Tryd.isAgg131
  z233 := Tryd.sizeOf131
  v233 := Tryd.zeroValue131
  g17 := by kernel_rfl
  g18 := by kernel_rfl
  g19 := by kernel_rfl
  i0 := by kernel_rfl
  i2 := by kernel_rfl
  i3 := by kernel_rfl
  i4 := by kernel_rfl
  i5 := by kernel_rfl
  i9 := by kernel_rfl
  i20 := by kernel_rfl
  i37 := by kernel_rfl
  i46 := by kernel_rfl
  i51 := by kernel_rfl
  i53 := by kernel_rfl
  i171 := by kernel_rfl
  i173 := by kernel_rfl
  i212 := by kernel_rfl
  i232 := by kernel_rfl
  i233 := by kernel_rfl
  m17 := by kernel_rfl
  m18 := by kernel_rfl
  m19 := by kernel_rfl }
def laysJoin_ren : Go.Shelf.Ren := ⟨fun | 156 => 35 | 165 => 51 | 166 => 52 | 169 => 53 | 240 => 78 | 241 => 79 | 276 => 86 | 277 => 87 | n => n, fun | 31 => 67 | 9 => 9 | 3 => 3 | 4 => 4 | 0 => 0 | 20 => 20 | 72 => 86 | 76 => 90 | 70 => 84 | 37 => 44 | 75 => 89 | 127 => 108 | 164 => 70 | 5 => 5 | 80 => 66 | n => n, fun | n => n⟩
theorem laysJoin : Go.Proofs.Lays.n156 Tryd.prog laysJoin_ren := {
  mixed := by kernel_rfl
  f156 := Tryd.func35.trans (congrArg some (by kernel_rfl))
  f165 := Tryd.func51.trans (congrArg some (by kernel_rfl))
  f166 := Tryd.func52.trans (congrArg some (by kernel_rfl))
  f169 := Tryd.func53.trans (congrArg some (by kernel_rfl))
  f240 := Tryd.func78.trans (congrArg some (by kernel_rfl))
  f241 := Tryd.func79.trans (congrArg some (by kernel_rfl))
  f276 := Tryd.func86.trans (congrArg some (by kernel_rfl))
  f277 := Tryd.func87.trans (congrArg some (by kernel_rfl))
  t0 := Tryd.underlying0
  a0 := Tryd.isAgg0
  z0 := Tryd.sizeOf0
  v0 := Tryd.zeroValue0
  t3 := Tryd.underlying3
  a3 := Tryd.isAgg3
  z3 := Tryd.sizeOf3
  v3 := Tryd.zeroValue3
  t4 := Tryd.underlying4
  a4 := Tryd.isAgg4
  z4 := Tryd.sizeOf4
  v4 := Tryd.zeroValue4
  t9 := Tryd.underlying9
  a9 := Tryd.isAgg9
  z9 := Tryd.sizeOf9
  v9 := Tryd.zeroValue9
  t20 := Tryd.underlying20
  a20 := Tryd.isAgg20
  z20 := Tryd.sizeOf20
  v20 := Tryd.zeroValue20
  t31 := Tryd.underlying67
  a31 := Tryd.isAgg67
  z31 := Tryd.sizeOf67
  v31 := Tryd.zeroValue67
  t37 := Tryd.underlying44
  a37 := Tryd.isAgg44
  z37 := Tryd.sizeOf44
  v37 := Tryd.zeroValue44
  t70 := Tryd.underlying84
  a70 := Tryd.isAgg84
  z70 := Tryd.sizeOf84
  v70 := Tryd.zeroValue84
  t72 := Tryd.underlying86
  a72 := Tryd.isAgg86
  z72 := Tryd.sizeOf86
  v72 := Tryd.zeroValue86
  t75 := Tryd.underlying89
  a75 := Tryd.isAgg89
  z75 := Tryd.sizeOf89
  v75 := Tryd.zeroValue89
  t76 := Tryd.underlying90
  a76 := Tryd.isAgg90
  z76 := Tryd.sizeOf90
  v76 := Tryd.zeroValue90
  t127 := Tryd.underlying108
  a127 := Tryd.isAgg108
  z127 := Tryd.sizeOf108
  v127 := Tryd.zeroValue108
  t164 := Tryd.underlying70
  a164 := Tryd.isAgg70
  z164 := Tryd.sizeOf70
  v164 := Tryd.zeroValue70 }

theorem itoa_any (n : Int) (h0 : -9223372036854775808 ≤ n) (h1 : n ≤ 9223372036854775807) (w : World) (htab : Lib.TabIs Tryd.prog w "internal/strconv.uint64pow10" .u64 Lib.pow10Tab) :
    Calls Tryd.prog 36 #[.int .i64 n] w fun e w' => e = .returned (.string ⟨(Lib.itoa n).toArray⟩) ∧ Below w.heap.size w w' :=
  (Any.strconv_Itoa laysItoa n h0 h1 w htab).mono fun _ _ ⟨he, _, _, hw⟩ => ⟨he, hw ▸ Lib.below_grow _ _ (Nat.le_refl _) _ _⟩
theorem joinX : Builder.Extra Tryd.prog laysJoin_ren where
  sizeBuilder := by kernel_rfl
  liesBuilder := by kernel_rfl
  t5 := Tryd.underlying5
  a5 := Tryd.isAgg5
  z5 := Tryd.sizeOf5
  v5 := Tryd.zeroValue5
  infoByte := by kernel_rfl
  cellsByte := by kernel_rfl
  sizeByte := by kernel_rfl
  neB5 := by decide
theorem join_any (bk o c : Nat) (xs : List ByteArray) (sep : ByteArray) (w : World) (hcells : ∀ (j : Nat) x, xs[j]? = some x → w.cell? ⟨bk, o + j, none⟩ = some (.string x)) (hbk : bk < w.heap.size) (hN : xs.length ≤ 140737488355328) (hcap : xs.length ≤ c) (hlen : (Lib.join (xs.map (·.data.toList)) sep.data.toList).length ≤ 140737488355328) :
    Calls Tryd.prog 35 #[.slice (some ⟨bk, o, none⟩) xs.length c, .string sep] w fun e w' => e = .returned (.string ⟨(Lib.join (xs.map (·.data.toList)) sep.data.toList).toArray⟩) ∧ Below w.heap.size w w' :=
  Any.strings_Join laysJoin joinX bk o c xs sep w hcells hbk hN hcap hlen
end Go.Proofs.YtohocomemkckeaaDoor

/-! PACKAGE audit's Text AS IT LANDED: numbers by strconv.Itoa, words of verbs out of a table, joined by strings.Join. Written by mk_audtextp.py. -/
namespace Go.Proofs.YtohocomemkckeaaDoor
open Go.RowKit
set_option maxRecDepth 8000
set_option linter.unusedSimpArgs false
set_option linter.unusedVariables false

/-- The table that strconv.Itoa reads is as its initialiser lays it. -/
abbrev Tab (w : World) : Prop := Lib.TabIs Tryd.prog w "internal/strconv.uint64pow10" .u64 Lib.pow10Tab
theorem tabG : (Tryd.prog.globalNamed "internal/strconv.uint64pow10").isSome = true := by kernel_rfl
theorem Tab.keep {w w' : World} (h : Tab w) (hb : Below w.heap.size w w') : Tab w' :=
  let ⟨_, hg⟩ := Option.isSome_iff_exists.1 tabG
  Joins.tab_stays hg h hb (Nat.le_refl _)
theorem keepT {W W' : World} {g : Nat} {l : Lab} (hb : Below W.heap.size W W') (h : Boxed W g l ∧ Tab W) : Boxed W' g l ∧ Tab W' := ⟨h.1.keep hb, h.2.keep hb⟩
set_option maxHeartbeats 1000000 in
/-- label.Text, of a label that may be. -/
theorem ltextP_any {l : Lab} (hf : GL l) (w : World) (ht : Tab w) :
    Calls Tryd.prog 37 #[l.v] w fun e w' => e = .returned (.string (ltextB l)) ∧ Below w.heap.size w w' := by
  obtain ⟨a0, a1, b0, b1, c0, c1, d0, d1⟩ := hf
  have la := itoaB_size l.s (by omega) (by omega)
  have lb := itoaB_size l.c (by omega) (by omega)
  have lc := itoaB_size l.i (by omega) (by omega)
  have ld := itoaB_size l.k (by omega) (by omega)
  have i1 := itoa_any l.s (by omega) (by omega)
  have i2 := itoa_any l.c (by omega) (by omega)
  have i3 := itoa_any l.i (by omega) (by omega)
  have i4 := itoa_any l.k (by omega) (by omega)
  have hi : ∀ n : Int, (⟨(Lib.itoa n).toArray⟩ : ByteArray) = itoaB n := fun _ => rfl
  rw [hi] at i1 i2 i3 i4
  unfold ltextB
  clear a0 a1 b0 b1 c0 c1 d0 d1 hi
  generalize itoaB l.s = t1 at *
  generalize itoaB l.c = u1 at *
  generalize itoaB l.i = u2 at *
  generalize itoaB l.k = u3 at *
  have s1 : ¬ 9223372036854775807 < t1.size + 1 := by omega
  have s2 : ¬ 9223372036854775807 < t1.size + 1 + u1.size := by omega
  have s3 : ¬ 9223372036854775807 < t1.size + 1 + u1.size + 1 := by omega
  have s4 : ¬ 9223372036854775807 < t1.size + 1 + u1.size + 1 + u2.size := by omega
  have s5 : ¬ 9223372036854775807 < t1.size + 1 + u1.size + 1 + u2.size + 1 := by omega
  have s6 : ¬ 9223372036854775807 < t1.size + 1 + u1.size + 1 + u2.size + 1 + u3.size := by omega
  clear la lb lc ld
  have hS : Boxed (w.alloc (.cells #[.int .i64 l.s, .int .i64 l.c, .int .i64 l.i, .int .i64 l.k] 23)).drew w.heap.size l ∧ Tab (w.alloc (.cells #[.int .i64 l.s, .int .i64 l.c, .int .i64 l.i, .int .i64 l.k] 23)).drew :=
    ⟨(boxed_alloc w l).keep (Below.refl _ _).drew, ht.keep ((Below.refl _ _).alloc (Nat.le_refl _) _).drew⟩
  have hB := (Below.refl w.heap.size w).alloc (Nat.le_refl _) (.cells #[.int .i64 l.s, .int .i64 l.c, .int .i64 l.i, .int .i64 l.k] 23)
  go_enter Tryd.func37, Tryd.ntmps37
  go_wp2_with fail
  generalize (w.alloc (.cells #[.int .i64 l.s, .int .i64 l.c, .int .i64 l.i, .int .i64 l.k] 23)) = W0 at hS hB ⊢
  go_region_held (fun W => Boxed W w.heap.size l ∧ Tab W) (first | exact hS | exact keepT (by assumption) (by assumption))
    (first
    | (go_at_call 36; refine (i1 _ hS.2).mono ?_; rintro e w1 ⟨rfl, hb1⟩; have hT1 := hS.2.keep hb1)
    | (go_at_call 36; refine (i2 _ hT1).mono ?_; rintro e w2 ⟨rfl, hb2⟩; have hT2 := hT1.keep hb2)
    | (go_at_call 36; refine (i3 _ hT2).mono ?_; rintro e w3 ⟨rfl, hb3⟩; have hT3 := hT2.keep hb3)
    | (go_at_call 36; refine (i4 _ hT3).mono ?_; rintro e w4 ⟨rfl, hb4⟩)
    | fail)
  go_wp2
  go_ret
  exact ⟨rfl, Below.then (Below.then (Below.then (Below.then hB.drew hb1) hb2) hb3) hb4⟩
/-- The table of the verbs' words is as its initialiser lays it. -/
def Vb (w : World) : Prop := ∀ v : Nat, 1 ≤ v → v ≤ 14 → w.cell? ⟨0, v, none⟩ = some (.string (verbW (v : Int)))
theorem Vb.keep {w w' : World} (h : Vb w) (hb : Below w.heap.size w w') : Vb w' := fun v h1 h2 => (hb.cell (World.block_lt_of_cell? _ _ (h v h1 h2))).trans (h v h1 h2)
theorem verbWord_any (v : Nat) (h1 : 1 ≤ v) (h14 : v ≤ 14) (w : World) (hV : Vb w) : Calls Tryd.prog 39 #[.int .i64 (v : Int)] w fun e w' => e = .returned (.string (verbW (v : Int))) ∧ w' = w := by
  have hc := hV v h1 h14
  have i1 : ¬ (v : Int) < 0 := by omega
  have i2 : ¬ (15 : Int) ≤ (v : Int) := by omega
  have i3 : (v : Int) < 15 := by omega
  generalize verbW (v : Int) = x at *
  go_enter Tryd.func39, Tryd.ntmps39
  go_wp2_with fail
  go_ret
  exact ⟨rfl, rfl⟩
theorem shown_any (s : ByteArray) (w : World) : Calls Tryd.prog 38 #[.string s] w fun e w' => e = .returned (.string (orS s)) ∧ Below w.heap.size w w' := by
  unfold orS
  by_cases h : s.toList.isEmpty = true
  · rw [if_pos h]
    go_enter Tryd.func38, Tryd.ntmps38
    go_wp2_with fail
    go_ret
    exact ⟨rfl, Below.refl _ _⟩
  · rw [if_neg h]
    have h2 : s.toList.isEmpty = false := by simpa using h
    clear h
    go_enter Tryd.func38, Tryd.ntmps38
    go_wp2_with fail
    go_ret
    exact ⟨rfl, Below.refl _ _⟩
theorem orS_verb (v : Nat) (h1 : 1 ≤ v) (h14 : v ≤ 14) : orS (verbW (v : Int)) = verbW (v : Int) := by
  have : ∀ k : Fin 15, 1 ≤ k.val → orS (verbW (k.val : Int)) = verbW (k.val : Int) := by decide +kernel
  exact this ⟨v, by omega⟩ h1
theorem cat6 (x1 x2 x3 x4 x5 x6 : ByteArray) : (⟨(Lib.join ([x1, x2, x3, x4, x5, x6].map (·.data.toList)) (⟨#[32]⟩ : ByteArray).data.toList).toArray⟩ : ByteArray) = x1 ++ ⟨#[32]⟩ ++ x2 ++ ⟨#[32]⟩ ++ x3 ++ ⟨#[32]⟩ ++ x4 ++ ⟨#[32]⟩ ++ x5 ++ ⟨#[32]⟩ ++ x6 := by
  apply ByteArray.ext
  apply Array.ext'
  simp [Lib.join, List.intercalate, List.intersperse, ByteArray.data_append]
theorem joins6 (x1 x2 x3 x4 x5 x6 : ByteArray) (hs : x1.size + x2.size + x3.size + x4.size + x5.size + x6.size ≤ 1000) (w : World) :
    Calls Tryd.prog 35 #[.slice (some ⟨w.heap.size, 0, none⟩) 6 6, .string ⟨#[32]⟩] (w.alloc (.cells #[.string x1, .string x2, .string x3, .string x4, .string x5, .string x6] 9)) fun e w' => e = .returned (.string (x1 ++ ⟨#[32]⟩ ++ x2 ++ ⟨#[32]⟩ ++ x3 ++ ⟨#[32]⟩ ++ x4 ++ ⟨#[32]⟩ ++ x5 ++ ⟨#[32]⟩ ++ x6)) ∧ Below (w.alloc (.cells #[.string x1, .string x2, .string x3, .string x4, .string x5, .string x6] 9)).heap.size (w.alloc (.cells #[.string x1, .string x2, .string x3, .string x4, .string x5, .string x6] 9)) w' := by
  have k := join_any w.heap.size 0 6 [x1, x2, x3, x4, x5, x6] ⟨#[32]⟩ (w.alloc (.cells #[.string x1, .string x2, .string x3, .string x4, .string x5, .string x6] 9)) (fun j x hx => by
    have hc := (blk_alloc w #[.string x1, .string x2, .string x3, .string x4, .string x5, .string x6] 9) j (.string x) (by
      match j, hx with
      | 0, hx => simpa using hx
      | 1, hx => simpa using hx
      | 2, hx => simpa using hx
      | 3, hx => simpa using hx
      | 4, hx => simpa using hx
      | 5, hx => simpa using hx)
    rw [Nat.zero_add]
    exact hc.1) (by simp) (by simp) (by simp) (by
      have e := congrArg (fun b : ByteArray => b.size) (cat6 x1 x2 x3 x4 x5 x6)
      simp only [ByteArray.size_append] at e
      have e2 : (⟨(Lib.join ([x1, x2, x3, x4, x5, x6].map (·.data.toList)) (⟨#[32]⟩ : ByteArray).data.toList).toArray⟩ : ByteArray).size = (Lib.join ([x1, x2, x3, x4, x5, x6].map (·.data.toList)) (⟨#[32]⟩ : ByteArray).data.toList).length := by
        show (Lib.join ([x1, x2, x3, x4, x5, x6].map (·.data.toList)) (⟨#[32]⟩ : ByteArray).data.toList).toArray.size = _
        simp
      rw [e2] at e
      have e3 : (⟨#[32]⟩ : ByteArray).size = 1 := rfl
      rw [e, e3]
      omega)
  rw [cat6] at k
  exact k
theorem intP_load (w : World) (y : Addr) (v : Value) (h : w.cell? y = some v) : (Instr.loadAt 3 (.pointer (some y))).run Tryd.prog w = .ok v w := by
  have h1 := Tryd.underlying3
  go_simp
theorem strP_load (w : World) (y : Addr) (v : Value) (h : w.cell? y = some v) : (Instr.loadAt 9 (.pointer (some y))).run Tryd.prog w = .ok v w := by
  have h1 := Tryd.underlying9
  go_simp
theorem errP_load (w : World) (y : Addr) (v : Value) (h : w.cell? y = some v) : (Instr.loadAt 24 (.pointer (some y))).run Tryd.prog w = .ok v w := by
  have h1 := Tryd.underlying24
  go_simp
set_option maxRecDepth 8000 in
set_option maxHeartbeats 4000000 in
theorem atext_any (e : Ent) (hm : audMay e = 0) (hq : -9223372036854775808 ≤ e.seq ∧ e.seq ≤ 9223372036854775807) (w : World) (hTw : Tab w) (hVw : Vb w) :
    Calls Tryd.prog 22 #[.agg (ecs e).toArray] w fun r w' => r = .returned (.string (audText e)) ∧ Below w.heap.size w w' := by
  have hundL := Tryd.underlying23
  have hsl : (Tryd.prog.info? 23).map (·.size) = some 4 := by kernel_rfl
  obtain ⟨m0, m1, m2, m3, m4, m5, m6⟩ := may_zero.1 hm
  have hG := chkL_zero.1 m0
  have hb0 := blkl_alloc w (ecs e).toArray 26
  have hB0 := alloc_below w (.cells (ecs e).toArray 26)
  replace hb0 : BlkL w.heap.size (ecs e) (w.alloc (.cells (ecs e).toArray 26)) := hb0
  have hT := fun {W : World} (q : Below (w.alloc (.cells (ecs e).toArray 26)).heap.size (w.alloc (.cells (ecs e).toArray 26)) W) => (hTw.keep hB0).keep q
  have hV := fun {W : World} (q : Below (w.alloc (.cells (ecs e).toArray 26)).heap.size (w.alloc (.cells (ecs e).toArray 26)) W) => (hVw.keep hB0).keep q
  have k1 := itoa_any e.seq hq.1 hq.2
  have hi : (⟨(Lib.itoa e.seq).toArray⟩ : ByteArray) = itoaB e.seq := rfl
  rw [hi] at k1
  clear hi
  have k2 := fun W (q : Tab W) => ltextP_any hG W q
  have k3 := shown_any e.user
  obtain ⟨vb, hvb⟩ := Int.eq_ofNat_of_zero_le (show 0 ≤ e.verb by omega)
  have k4 : ∀ W, Vb W → Calls Tryd.prog 39 #[.int .i64 e.verb] W fun r w' => r = .returned (.string (verbW e.verb)) ∧ Below W.heap.size W w' := fun W q => by
    rw [hvb]
    exact (verbWord_any vb (by omega) (by omega) W q).mono fun _ _ ⟨h1, h2⟩ => ⟨h1, h2 ▸ Below.refl _ _⟩
  have k4b := shown_any (verbW e.verb)
  have hov : orS (verbW e.verb) = verbW e.verb := by rw [hvb]; exact orS_verb vb (by omega) (by omega)
  rw [hov] at k4b
  clear hov hvb
  have k5 := shown_any e.object
  have k6 : ∀ W, Calls Tryd.prog 40 #[.int .i64 e.verdict] W fun r w' => r = .returned (.string (errW e.verdict)) ∧ Below W.heap.size W w' := fun W => (errW_any e.verdict W).mono fun _ _ ⟨h1, h2⟩ => ⟨h1, h2 ▸ Below.refl _ _⟩
  have z1 := itoaB_size e.seq hq.1 hq.2
  have z2 := ltext_size hG
  have z3 := orS_size e.user
  have z4 := verbW_size e.verb
  have z5 := orS_size e.object
  have z6 := errW_size e.verdict
  unfold audText
  have hcs : ecs e = [.int .i64 e.seq, .int .i64 e.label.s, .int .i64 e.label.c, .int .i64 e.label.i, .int .i64 e.label.k, .string e.user, .int .i64 e.verb, .string e.object, .int .i64 e.verdict] := rfl
  generalize itoaB e.seq = x1 at *
  generalize ltextB e.label = x2 at *
  generalize orS e.user = x3 at *
  generalize verbW e.verb = x4 at *
  generalize orS e.object = x5 at *
  generalize errW e.verdict = x6 at *
  have k7 := fun W => joins6 x1 x2 x3 x4 x5 x6 (by omega) W
  clear z1 z2 z3 z4 z5 z6 hm m0 m1 m2 m3 m4 m5 m6 hG hq hTw hVw
  rw [hcs] at hb0 hB0 hT hV ⊢
  go_enter Tryd.func22, Tryd.ntmps22
  go_upto_region 1 with fail
  generalize w.alloc (.cells ([.int .i64 e.seq, .int .i64 e.label.s, .int .i64 e.label.c, .int .i64 e.label.i, .int .i64 e.label.k, .string e.user, .int .i64 e.verb, .string e.object, .int .i64 e.verdict]).toArray 26) = Z at *
  rw [← hcs] at hb0
  clear hcs
  have hS0 : Below Z.heap.size Z Z.drew := (Below.refl _ _).drew
  refine wp_region_held_drew (S := (fun W => Below Z.heap.size Z W)) (by kernel_rfl) (by exact hS0) ?_
  intro hHeld
  generalize Z.drew = w0 at *
  refine wpAnyH_take (i := 0) (v := ?_) (by simp only [gA, gB, gC]; rfl) (by kernel_rfl) (by kernel_rfl) (by kernel_rfl) (by exact fun _ _ _ h => h) (Or.inl ⟨by rfl, ?_⟩) (by assumption) ?_; rotate_left; (focus (intro w hSw; (try dsimp only at hSw); go_simp; try with_reducible rfl)); (try simp only [Act.put, sA, sB, sC])
  refine wpAnyH_take (i := 1) (v := _) (by simp only [gA, gB, gC]; rfl) (by kernel_rfl) (by kernel_rfl) (by kernel_rfl) (by exact fun _ _ _ h => h) (yields_cell (by rfl) _ rfl ⟨w.heap.size, 0, none⟩ rfl (.int .i64 e.seq) (fun _ q => ((stab_blk _ _ _ _ hb0 q).1 0 _ rfl).1) intP_load) (by assumption) ?_; (try simp only [Act.put, sA, sB, sC])
  refine wpAnyH_take (i := 3) (v := ?_) (by simp only [gA, gB, gC]; rfl) (by kernel_rfl) (by kernel_rfl) (by kernel_rfl) (by exact fun _ _ _ h => h) (Or.inl ⟨by rfl, ?_⟩) (by assumption) ?_; rotate_left; (focus (intro w hSw; (try dsimp only at hSw); go_simp; try with_reducible rfl)); (try simp only [Act.put, sA, sB, sC])
  refine wpAnyH_take (i := 4) (v := _) (by simp only [gA, gB, gC]; rfl) (by kernel_rfl) (by kernel_rfl) (by kernel_rfl) (by exact fun _ _ _ h => h) (yields_at (by rfl) _ rfl ⟨w.heap.size, 1, none⟩ rfl (lab4 e.label) (fun _ q => ebox_lab (stab_blk _ _ _ _ hb0 q)) hundL rfl hsl) (by assumption) ?_; (try simp only [Act.put, sA, sB, sC])
  refine wpAnyH_take (i := 6) (v := ?_) (by simp only [gA, gB, gC]; rfl) (by kernel_rfl) (by kernel_rfl) (by kernel_rfl) (by exact fun _ _ _ h => h) (Or.inl ⟨by rfl, ?_⟩) (by assumption) ?_; rotate_left; (focus (intro w hSw; (try dsimp only at hSw); go_simp; try with_reducible rfl)); (try simp only [Act.put, sA, sB, sC])
  refine wpAnyH_take (i := 7) (v := _) (by simp only [gA, gB, gC]; rfl) (by kernel_rfl) (by kernel_rfl) (by kernel_rfl) (by exact fun _ _ _ h => h) (yields_cell (by rfl) _ rfl ⟨w.heap.size, 5, none⟩ rfl (.string e.user) (fun _ q => ((stab_blk _ _ _ _ hb0 q).1 5 _ rfl).1) strP_load) (by assumption) ?_; (try simp only [Act.put, sA, sB, sC])
  refine wpAnyH_take (i := 9) (v := ?_) (by simp only [gA, gB, gC]; rfl) (by kernel_rfl) (by kernel_rfl) (by kernel_rfl) (by exact fun _ _ _ h => h) (Or.inl ⟨by rfl, ?_⟩) (by assumption) ?_; rotate_left; (focus (intro w hSw; (try dsimp only at hSw); go_simp; try with_reducible rfl)); (try simp only [Act.put, sA, sB, sC])
  refine wpAnyH_take (i := 10) (v := _) (by simp only [gA, gB, gC]; rfl) (by kernel_rfl) (by kernel_rfl) (by kernel_rfl) (by exact fun _ _ _ h => h) (yields_cell (by rfl) _ rfl ⟨w.heap.size, 6, none⟩ rfl (.int .i64 e.verb) (fun _ q => ((stab_blk _ _ _ _ hb0 q).1 6 _ rfl).1) intP_load) (by assumption) ?_; (try simp only [Act.put, sA, sB, sC])
  refine wpAnyH_take (i := 13) (v := ?_) (by simp only [gA, gB, gC]; rfl) (by kernel_rfl) (by kernel_rfl) (by kernel_rfl) (by exact fun _ _ _ h => h) (Or.inl ⟨by rfl, ?_⟩) (by assumption) ?_; rotate_left; (focus (intro w hSw; (try dsimp only at hSw); go_simp; try with_reducible rfl)); (try simp only [Act.put, sA, sB, sC])
  refine wpAnyH_take (i := 14) (v := _) (by simp only [gA, gB, gC]; rfl) (by kernel_rfl) (by kernel_rfl) (by kernel_rfl) (by exact fun _ _ _ h => h) (yields_cell (by rfl) _ rfl ⟨w.heap.size, 7, none⟩ rfl (.string e.object) (fun _ q => ((stab_blk _ _ _ _ hb0 q).1 7 _ rfl).1) strP_load) (by assumption) ?_; (try simp only [Act.put, sA, sB, sC])
  refine wpAnyH_take (i := 16) (v := ?_) (by simp only [gA, gB, gC]; rfl) (by kernel_rfl) (by kernel_rfl) (by kernel_rfl) (by exact fun _ _ _ h => h) (Or.inl ⟨by rfl, ?_⟩) (by assumption) ?_; rotate_left; (focus (intro w hSw; (try dsimp only at hSw); go_simp; try with_reducible rfl)); (try simp only [Act.put, sA, sB, sC])
  refine wpAnyH_take (i := 17) (v := _) (by simp only [gA, gB, gC]; rfl) (by kernel_rfl) (by kernel_rfl) (by kernel_rfl) (by exact fun _ _ _ h => h) (yields_cell (by rfl) _ rfl ⟨w.heap.size, 8, none⟩ rfl (.int .i64 e.verdict) (fun _ q => ((stab_blk _ _ _ _ hb0 q).1 8 _ rfl).1) errP_load) (by assumption) ?_; (try simp only [Act.put, sA, sB, sC])
  refine wpAnyH_ready (rs := [2]) (by kernel_rfl) (by simp) ?_
  refine AllReadyH.cons (by simp only [gA, gB, gC]; rfl) (fun K hK => ?_) AllReadyH.nil
  go_simp
  go_at_call 36
  refine (k1 w0 (hT hS0)).mono ?_
  rintro e w1 ⟨rfl, hb⟩
  have hS1 := Below.then hS0 hb
  clear hb
  refine hK.out _ _ (by exact hS1) ?_
  clear hHeld hK
  intro hHeld
  (try simp only [Act.put, sA, sB, sC])
  refine wpAnyH_ready (rs := [5]) (by kernel_rfl) (by simp) ?_
  refine AllReadyH.cons (by simp only [gA, gB, gC]; rfl) (fun K hK => ?_) AllReadyH.nil
  go_simp
  go_at_call 37
  refine (k2 w1 (hT hS1)).mono ?_
  rintro e w2 ⟨rfl, hb⟩
  have hS2 := Below.then hS1 hb
  clear hb
  refine hK.out _ _ (by exact hS2) ?_
  clear hHeld hK
  intro hHeld
  (try simp only [Act.put, sA, sB, sC])
  refine wpAnyH_ready (rs := [8]) (by kernel_rfl) (by simp) ?_
  refine AllReadyH.cons (by simp only [gA, gB, gC]; rfl) (fun K hK => ?_) AllReadyH.nil
  go_simp
  go_at_call 38
  refine (k3 w2).mono ?_
  rintro e w3 ⟨rfl, hb⟩
  have hS3 := Below.then hS2 hb
  clear hb
  refine hK.out _ _ (by exact hS3) ?_
  clear hHeld hK
  intro hHeld
  (try simp only [Act.put, sA, sB, sC])
  refine wpAnyH_ready (rs := [11]) (by kernel_rfl) (by simp) ?_
  refine AllReadyH.cons (by simp only [gA, gB, gC]; rfl) (fun K hK => ?_) AllReadyH.nil
  go_simp
  go_at_call 39
  refine (k4 w3 (hV hS3)).mono ?_
  rintro e w4 ⟨rfl, hb⟩
  have hS4 := Below.then hS3 hb
  clear hb
  refine hK.out _ _ (by exact hS4) ?_
  clear hHeld hK
  intro hHeld
  (try simp only [Act.put, sA, sB, sC])
  refine wpAnyH_ready (rs := [12]) (by kernel_rfl) (by simp) ?_
  refine AllReadyH.cons (by simp only [gA, gB, gC]; rfl) (fun K hK => ?_) AllReadyH.nil
  go_simp
  go_at_call 38
  refine (k4b w4).mono ?_
  rintro e w5 ⟨rfl, hb⟩
  have hS5 := Below.then hS4 hb
  clear hb
  refine hK.out _ _ (by exact hS5) ?_
  clear hHeld hK
  intro hHeld
  (try simp only [Act.put, sA, sB, sC])
  refine wpAnyH_ready (rs := [15]) (by kernel_rfl) (by simp) ?_
  refine AllReadyH.cons (by simp only [gA, gB, gC]; rfl) (fun K hK => ?_) AllReadyH.nil
  go_simp
  go_at_call 38
  refine (k5 w5).mono ?_
  rintro e w6 ⟨rfl, hb⟩
  have hS6 := Below.then hS5 hb
  clear hb
  refine hK.out _ _ (by exact hS6) ?_
  clear hHeld hK
  intro hHeld
  (try simp only [Act.put, sA, sB, sC])
  refine wpAnyH_ready (rs := [18]) (by kernel_rfl) (by simp) ?_
  refine AllReadyH.cons (by simp only [gA, gB, gC]; rfl) (fun K hK => ?_) AllReadyH.nil
  go_simp
  go_at_call 40
  refine (k6 w6).mono ?_
  rintro e w7 ⟨rfl, hb⟩
  have hS7 := Below.then hS6 hb
  clear hb
  refine hK.out _ _ (by exact hS7) ?_
  clear hHeld hK
  intro hHeld
  (try simp only [Act.put, sA, sB, sC])
  refine wpAnyH_ready (rs := [19]) (by kernel_rfl) (by simp) ?_
  refine AllReadyH.cons (by simp only [gA, gB, gC]; rfl) (fun K hK => ?_) AllReadyH.nil
  have hb := alloc_below w7 (.cells #[.string x1, .string x2, .string x3, .string x4, .string x5, .string x6] 9)
  have kj := k7 w7
  have hS8 := Below.then hS7 hb
  go_simp
  generalize w7.alloc (.cells #[.string x1, .string x2, .string x3, .string x4, .string x5, .string x6] 9) = w8 at *
  clear hb
  refine hK.out _ _ (by exact hS8) ?_
  clear hHeld hK
  intro hHeld
  (try simp only [Act.put, sA, sB, sC])
  refine wpAnyH_ready (rs := [20]) (by kernel_rfl) (by simp) ?_
  refine AllReadyH.cons (by simp only [gA, gB, gC]; rfl) (fun K hK => ?_) AllReadyH.nil
  go_simp
  go_at_call 35
  refine (kj).mono ?_
  rintro e w9 ⟨rfl, hb⟩
  have hS9 := Below.then hS8 hb
  clear hb
  refine hK.out _ _ (by exact hS9) ?_
  clear hHeld hK
  intro hHeld
  (try simp only [Act.put, sA, sB, sC])
  refine wpAnyH_take (i := 21) (v := ?_) (by simp only [gA, gB, gC]; rfl) (by kernel_rfl) (by kernel_rfl) (by kernel_rfl) (by exact fun _ _ _ h => h) (Or.inl ⟨by rfl, ?_⟩) (by assumption) ?_; rotate_left; (focus (intro w hSw; (try dsimp only at hSw); go_simp; try with_reducible rfl)); (try simp only [Act.put, sA, sB, sC])
  refine wpAnyH_done (by kernel_rfl) ?_ _
  have hfin := Below.then hB0 hS9
  go_wp2_with fail
  go_ret
  exact ⟨rfl, hfin⟩
end Go.Proofs.YtohocomemkckeaaDoor

/-! PACKAGE hash: Chain and Of; the chapter's example. -/
namespace Go.Proofs.YtohocomemkckeaaDoor
open Go.RowKit
set_option maxRecDepth 8000
set_option linter.unusedSimpArgs false
set_option linter.unusedVariables false

set_option maxHeartbeats 1000000 in
theorem chain_any (a : Option Addr) (l : List UInt8) (n cap h : Nat) (hn : n ≤ 1000000) (hh : h < 18446744073709551616) (w : World) (hb : BytesAt w a n l) :
    Calls Tryd.prog 33 #[.int .u64 (h : Int), .slice a n cap] w fun e w' => e = .returned (.int .u64 (chain h l : Nat)) ∧ Below w.heap.size w w' := by
  go_enter Tryd.func33, Tryd.ntmps33
  go_wp2
  go_loopw [0, 9] (fun t0 t9 wr => ∃ i : Nat, i ≤ n ∧ t9 = .int .i64 (i : Int) ∧ t0 = .int .u64 (chain h (l.take i) : Nat) ∧ wr = w) (fun _ t9 _ => n - (Go.RowKit.intOf t9).toNat)
  case atStart => exact ⟨0, by omega, rfl, by rw [List.take_zero, chain_nil], rfl⟩
  case round =>
    obtain ⟨i, hi, rfl, rfl, rfl⟩ := hrel
    by_cases hlt : i < n
    · obtain ⟨y, rfl, hc⟩ := hb.2 i hlt
      have hnx := chain_take h l (i := i) (by rw [hb.1]; exact hlt)
      have hg := chain_lt hh (l.take i)
      obtain ⟨g, hge⟩ : ∃ g, chain h (l.take i) = g := ⟨_, rfl⟩
      rw [hge] at hnx hg ⊢
      have hcl := (l.getD i 0).toNat_lt
      obtain ⟨c, hce⟩ : ∃ c, (l.getD i 0).toNat = c := ⟨_, rfl⟩
      rw [hce] at hc hnx hcl
      have hst := st_run hg (c := c) (by omega)
      have hwc : IntKind.u64.wrap (c : Int) = (c : Int) := by rw [IntKind.wrap_u64]; omega
      go_wp2
      exact ⟨⟨i + 1, by omega, by simp, by rw [hnx], trivial⟩, by simp [Go.RowKit.intOf]; omega⟩
    · obtain rfl : i = n := by omega
      rw [← hb.1, List.take_length]
      go_wp2
      go_ret
      exact ⟨rfl, Below.refl _ _⟩

/-- The first i of eight cells hold the salt's bytes. -/
def Eight (W : World) (b s i : Nat) : Prop := ∃ vs : List Value, vs.length = 8 ∧ Blk W b vs ∧ ∀ j, j < i → vs[j]? = some (.int .u8 ((UInt8.ofNat (s / 2 ^ (8 * (7 - j)))).toNat : Int))
theorem Eight.at {W : World} {b s i : Nat} (h : Eight W b s i) {k : Nat} (hk : k < 8) : ∃ v, W.cell? ⟨b, k, none⟩ = some v ∧ W.frozen? ⟨b, k, none⟩ = false := by
  obtain ⟨vs, hl, hb, _⟩ := h
  exact ⟨_, hb k vs[k] (List.getElem?_eq_getElem (by omega))⟩
theorem Eight.next {W : World} {b s i : Nat} (h : Eight W b s i) (hi : i < 8) : Eight (W.setCell ⟨b, i, none⟩ (.int .u8 ((UInt8.ofNat (s / 2 ^ (8 * (7 - i)))).toNat : Int))) b s (i + 1) := by
  obtain ⟨vs, hl, hb, hv⟩ := h
  refine ⟨vs.set i _, by simp [hl], hb.set i _ (by omega), fun j hj => ?_⟩
  by_cases e : i = j
  · subst e
    rw [List.getElem?_set_self (by omega)]
  · rw [List.getElem?_set_ne e]
    exact hv j (by omega)
theorem Eight.bytes {W : World} {b s : Nat} (h : Eight W b s 8) : BytesAt W (some ⟨b, 0, none⟩) 8 (saltTo s 8) := by
  obtain ⟨vs, hl, hb, hv⟩ := h
  refine ⟨saltTo_len s 8, fun j hj => ⟨_, rfl, ?_⟩⟩
  rw [add_at, (hb j _ (hv j hj)).1]
  unfold saltTo
  rw [List.getD_eq_getElem?_getD, List.getElem?_map, List.getElem?_range hj]
  rfl
set_option maxHeartbeats 2000000 in
theorem of_any (x : Int) (hx : -9223372036854775808 ≤ x ∧ x ≤ 9223372036854775807) (u : ByteArray) (hu : u.size ≤ 1000000) (w : World) :
    Calls Tryd.prog 32 #[.int .i64 x, .string u] w fun e w' => e = .returned (.int .u64 (ofN x u.data.toList : Nat)) ∧ Below w.heap.size w w' := by
  unfold ofN
  have hs := saltN_lt x
  have hsx : IntKind.u64.wrap x = (saltN x : Int) := by rw [IntKind.wrap_u64]; unfold saltN; omega
  obtain ⟨s, hse⟩ : ∃ s, saltN x = s := ⟨_, rfl⟩
  rw [hse] at hs hsx ⊢
  clear hse
  obtain ⟨g, hg⟩ : ∃ g, chain 14695981039346656037 (saltTo s 8) = g := ⟨_, rfl⟩
  rw [hg]
  have hg : Aside (chain 14695981039346656037 (saltTo s 8) = g) := hg
  go_enter Tryd.func32, Tryd.ntmps32
  go_wp2_with fail
  go_loopw [7] (fun t7 wr => ∃ i : Nat, i ≤ 8 ∧ t7 = .int .i64 (i : Int) ∧ Eight wr w.heap.size s i ∧ Below w.heap.size w wr) (fun t7 _ => 8 - (Go.RowKit.intOf t7).toNat)
  case atStart => exact ⟨0, by omega, rfl, ⟨_, rfl, blk_alloc _ _ _, fun j hj => absurd hj (by omega)⟩, (Below.refl _ _).alloc (Nat.le_refl _) _⟩
  case round =>
    obtain ⟨i, hi, rfl, h8, hB⟩ := hrel
    by_cases hlt : i < 8
    · obtain ⟨v0, hv0, hf0⟩ := h8.at hlt
      have hnx := h8.next hlt
      have hce : ((UInt8.ofNat (s / 2 ^ (8 * (7 - i)))).toNat : Int) = (s : Int) / 2 ^ (56 - 8 * i) % 256 := by
        rw [show 56 - 8 * i = 8 * (7 - i) by omega]
        simp [UInt8.toNat_ofNat']
      rw [hce] at hnx
      have hBn : Below w.heap.size w (wr.setCell ⟨w.heap.size, i, none⟩ (.int .u8 ((s : Int) / 2 ^ (56 - 8 * i) % 256))) := hB.setCell (Nat.le_refl _) _
      clear hce
      go_wp2_with fail
      exact ⟨⟨i + 1, by omega, by simp, hnx, hBn⟩, by simp [Go.RowKit.intOf]; omega⟩
    · obtain rfl : i = 8 := by omega
      have hgl := chain_lt start_lt (saltTo s 8)
      rw [hg.out] at hgl
      have c1 := chain_any _ (saltTo s 8) 8 8 14695981039346656037 (by omega) start_lt wr h8.bytes
      rw [hg.out] at c1
      go_wp2_with fail
      refine c1.mono ?_
      rintro e w1 ⟨rfl, hB1⟩
      obtain ⟨cap2, W2, hcv, hb2, hB2⟩ := conv_str w1 u
      have c2 := chain_any _ u.data.toList u.size cap2 g (by omega) hgl W2 hb2
      go_wp2_with fail
      refine c2.mono ?_
      rintro e w' ⟨rfl, hB3⟩
      go_wp2_with fail
      go_ret
      exact ⟨rfl, Below.then (Below.then (Below.then hB hB1) hB2) hB3⟩

theorem cell_mark (w : World) (C : Array Value) (t : TypeId) (fr : Nat × Nat) (j : Nat) : (w.alloc (.cells C t fr)).cell? ⟨w.heap.size, j, none⟩ = C[j]? := World.cell?_alloc_mark w C t fr j
theorem example_st : chain 14695981039346656037 [97] = 12638187200555641996 := by
  rw [chain_one]
  decide +kernel
end Go.Proofs.YtohocomemkckeaaDoor

/-! A PLACE IN BYTES, AND THE FIRST THING THAT WAS WRONG (donjonref10's reader), in plain words and as it runs. -/
namespace Go.Proofs.YtohocomemkckeaaDoor
open Go.RowKit
set_option maxRecDepth 8000
set_option linter.unusedSimpArgs false
set_option linter.unusedVariables false

structure Rd where
  p : Nat
  err : Int
def u8V (l : List UInt8) (r : Rd) : Nat := if r.err = 0 ∧ r.p < l.length then (l.getD r.p 0).toNat else 0
def u8R (l : List UInt8) (r : Rd) : Rd := if r.err = 0 then (if r.p < l.length then ⟨r.p + 1, 0⟩ else ⟨r.p, 8⟩) else r
def endV (l : List UInt8) (r : Rd) : Int := if r.err = 0 ∧ r.p < l.length then 9 else r.err
/-- A reader in a block of its own, over bytes that lie elsewhere. -/
structure RdAt (W : World) (g : Nat) (a : Option Addr) (n cap : Nat) (l : List UInt8) (r : Rd) : Prop where
  c0 : W.cell? ⟨g, 0, none⟩ = some (.slice a n cap)
  c1 : W.cell? ⟨g, 1, none⟩ = some (.int .i64 (r.p : Int))
  c2 : W.cell? ⟨g, 2, none⟩ = some (.int .i64 r.err)
  f1 : W.frozen? ⟨g, 1, none⟩ = false
  f2 : W.frozen? ⟨g, 2, none⟩ = false
  bs : BytesAt W a n l
  ap : ∀ y, a = some y → 0 < n → y.block ≠ g
  le : r.p ≤ n
  sm : n < 1000000
  nc : n ≤ cap
/-- Nothing but the reader's block, and new ones. -/
abbrev Rest (g : Nat) (W W' : World) : Prop := W.grownBy W' (some g)
theorem Rest.refl (g : Nat) (W : World) : Rest g W W := ⟨rfl, rfl, rfl, Nat.le_refl _, fun _ _ _ => rfl⟩
theorem Rest.trans {g : Nat} {W W1 W2 : World} (h : Rest g W W1) (k : Rest g W1 W2) : Rest g W W2 := ⟨k.os.trans h.os, k.tape.trans h.tape, k.output.trans h.output, Nat.le_trans h.size k.size, fun j hj hne => (k.block j (Nat.lt_of_lt_of_le hj h.size) hne).trans (h.block j hj hne)⟩
theorem Rest.set (g j : Nat) (W : World) (v : Value) : Rest g W (W.setCell ⟨g, j, none⟩ v) := ⟨rfl, rfl, rfl, by simp, fun k hk hne => heap_setCell_other _ ⟨g, j, none⟩ k _ (fun e => hne (by rw [e]))⟩
theorem Rest.drew {g : Nat} {W W' : World} (h : Rest g W W') : Rest g W W'.drew := ⟨h.os, h.tape, h.output, h.size, h.block⟩
theorem add_block (y : Addr) (j : Nat) : (y.add j).block = y.block := by unfold Addr.add; split <;> rfl
theorem BytesAt.far {W : World} {a : Option Addr} {n g j : Nat} {l : List UInt8} {v : Value} (h : BytesAt W a n l) (hap : ∀ y, a = some y → 0 < n → y.block ≠ g) : BytesAt (W.setCell ⟨g, j, none⟩ v) a n l := by
  refine ⟨h.1, fun k hk => ?_⟩
  obtain ⟨y, hy, hc⟩ := h.2 k hk
  refine ⟨y, hy, ?_⟩
  rw [World.cell?_of_block (heap_setCell_other _ ⟨g, j, none⟩ (y.add k).block _ (by rw [add_block]; exact hap y hy (by omega)))]
  exact hc
theorem RdAt.setP {W : World} {g : Nat} {a : Option Addr} {n cap : Nat} {l : List UInt8} {r : Rd} (h : RdAt W g a n cap l r) {p' : Nat} (hp : p' ≤ n) : RdAt (W.setCell ⟨g, 1, none⟩ (.int .i64 (p' : Int))) g a n cap l ⟨p', r.err⟩ := by
  obtain ⟨c0, c1, c2, f1, f2, bs, ap, le, sm, nc⟩ := h
  refine ⟨?_, ?_, ?_, ?_, ?_, bs.far ap, ap, hp, sm, nc⟩ <;> simp [World.cell?_setCell_other, World.cell?_setCell_same', World.frozen?_setCell, *]
theorem RdAt.setE {W : World} {g : Nat} {a : Option Addr} {n cap : Nat} {l : List UInt8} {r : Rd} (h : RdAt W g a n cap l r) (e : Int) : RdAt (W.setCell ⟨g, 2, none⟩ (.int .i64 e)) g a n cap l ⟨r.p, e⟩ := by
  obtain ⟨c0, c1, c2, f1, f2, bs, ap, le, sm, nc⟩ := h
  refine ⟨?_, ?_, ?_, ?_, ?_, bs.far ap, ap, le, sm, nc⟩ <;> simp [World.cell?_setCell_other, World.cell?_setCell_same', World.frozen?_setCell, *]
theorem RdAt.drew {W : World} {g : Nat} {a : Option Addr} {n cap : Nat} {l : List UInt8} {r : Rd} (h : RdAt W g a n cap l r) : RdAt W.drew g a n cap l r := ⟨h.c0, h.c1, h.c2, h.f1, h.f2, h.bs, h.ap, h.le, h.sm, h.nc⟩
/-- The reader's cells, as a region is told of them. -/
abbrev RdC (W : World) (g : Nat) (a : Option Addr) (n cap : Nat) (r : Rd) : Prop := W.cell? ⟨g, 0, none⟩ = some (.slice a n cap) ∧ W.cell? ⟨g, 1, none⟩ = some (.int .i64 (r.p : Int)) ∧ W.cell? ⟨g, 2, none⟩ = some (.int .i64 r.err)

end Go.Proofs.YtohocomemkckeaaDoor

/-! A NUMBER OF EIGHT BYTES, A LABEL OF FOUR, READ (donjonref10's reader). -/
namespace Go.Proofs.YtohocomemkckeaaDoor
open Go.RowKit
set_option maxRecDepth 8000
set_option linter.unusedSimpArgs false
set_option linter.unusedVariables false

theorem u8V_lt (l : List UInt8) (r : Rd) : u8V l r < 256 := by
  unfold u8V
  split
  · exact (l.getD r.p 0).toNat_lt
  · omega
def numR (l : List UInt8) (r : Rd) : Nat → Rd
  | 0 => r
  | k + 1 => u8R l (numR l r k)
def numTo (l : List UInt8) (r : Rd) : Nat → Nat
  | 0 => 0
  | k + 1 => numTo l r k * 256 + u8V l (numR l r k)
theorem numTo_lt (l : List UInt8) (r : Rd) (k : Nat) : numTo l r k < 256 ^ k := by
  induction k with
  | zero => simp [numTo]
  | succ k ih =>
    have := u8V_lt l (numR l r k)
    rw [numTo, Nat.pow_succ]
    omega
/-- A word that is read. -/
def wordV (x : Nat) : Int := if x < 9223372036854775808 then (x : Int) else (x : Int) - 18446744073709551616
theorem bits_or_low (a b : Nat) (ha : a * 256 < 18446744073709551616) (hb : b < 256) : bits .or .u64 ((a : Int) * 256) (b : Int) = ((a * 256 + b : Nat) : Int) := by
  have hq : a * 256 ||| b = a * 256 + b := by
    have := Nat.shiftLeft_add_eq_or_of_lt (a := a) (i := 8) (b := b) hb
    rw [Nat.shiftLeft_eq] at this
    exact this.symm
  have h1 : (BitVec.ofInt 64 ((a : Int) * 256)).toNat = a * 256 := by
    rw [show ((a : Int) * 256) = ((a * 256 : Nat) : Int) by omega, BitVec.ofInt_natCast, BitVec.toNat_ofNat]; exact Nat.mod_eq_of_lt (by omega)
  have h2 : (BitVec.ofInt 64 (b : Int)).toNat = b := by
    rw [BitVec.ofInt_natCast, BitVec.toNat_ofNat]; exact Nat.mod_eq_of_lt (by omega)
  show IntKind.u64.wrap ((BitVec.ofInt 64 ((a : Int) * 256) ||| BitVec.ofInt 64 (b : Int)).toNat : Int) = _
  rw [BitVec.toNat_or, h1, h2, hq, IntKind.wrap_u64]
  omega

/-- A label that is read. -/
def labV (l : List UInt8) (r : Rd) : Lab := ⟨(u8V l r : Nat), (u8V l (u8R l r) : Nat), (u8V l (u8R l (u8R l r)) : Nat), (u8V l (u8R l (u8R l (u8R l r))) : Nat)⟩
def labR (l : List UInt8) (r : Rd) : Rd := u8R l (u8R l (u8R l (u8R l r)))
theorem BytesAt.same {W W' : World} {a : Option Addr} {n : Nat} {l : List UInt8} (h : BytesAt W a n l) (k : ∀ y, a = some y → 0 < n → W'.heap[y.block]? = W.heap[y.block]?) : BytesAt W' a n l := by
  refine ⟨h.1, fun j hj => ?_⟩
  obtain ⟨y, hy, hc⟩ := h.2 j hj
  exact ⟨y, hy, (World.cell?_of_block (by rw [add_block]; exact k y hy (by omega))).trans hc⟩
theorem RdAt.same {W W' : World} {g : Nat} {a : Option Addr} {n cap : Nat} {l : List UInt8} {r : Rd} (h : RdAt W g a n cap l r) (hg : W'.heap[g]? = W.heap[g]?) (ha : ∀ y, a = some y → 0 < n → W'.heap[y.block]? = W.heap[y.block]?) : RdAt W' g a n cap l r :=
  ⟨(World.cell?_of_block (a := ⟨g, 0, none⟩) hg).trans h.c0, (World.cell?_of_block (a := ⟨g, 1, none⟩) hg).trans h.c1, (World.cell?_of_block (a := ⟨g, 2, none⟩) hg).trans h.c2, (World.frozen?_of_block (a := ⟨g, 1, none⟩) hg).trans h.f1, (World.frozen?_of_block (a := ⟨g, 2, none⟩) hg).trans h.f2, h.bs.same ha, h.ap, h.le, h.sm, h.nc⟩
theorem RdAt.lt {W : World} {g : Nat} {a : Option Addr} {n cap : Nat} {l : List UInt8} {r : Rd} (h : RdAt W g a n cap l r) : g < W.heap.size := World.block_lt_of_cell? _ _ h.c0
theorem RdAt.alt {W : World} {g : Nat} {a : Option Addr} {n cap : Nat} {l : List UInt8} {r : Rd} (h : RdAt W g a n cap l r) : ∀ y, a = some y → 0 < n → y.block < W.heap.size := fun y hy hn => by
  obtain ⟨y', hy', hc⟩ := h.bs.2 0 hn
  rw [hy] at hy'
  obtain rfl := Option.some.inj hy'
  have := World.block_lt_of_cell? _ _ hc
  rwa [add_block] at this
/-- What lies behind a mark may change. -/
theorem RdAt.past {W W' : World} {B g : Nat} {a : Option Addr} {n cap : Nat} {l : List UInt8} {r : Rd} (h : RdAt W g a n cap l r) (hg : g < B) (ha : ∀ y, a = some y → 0 < n → y.block < B) (b : Below B W W') : RdAt W' g a n cap l r := h.same (b.block g hg) fun y hy hn => b.block _ (ha y hy hn)
theorem Rest.past {B g : Nat} {w W W' : World} (h : Rest g w W) (hB : w.heap.size ≤ B) (b : Below B W W') : Rest g w W' := ⟨b.os.trans h.os, b.tape.trans h.tape, b.output.trans h.output, Nat.le_trans h.size b.size, fun k hk hne => (b.block k (Nat.lt_of_lt_of_le hk hB)).trans (h.block k hk hne)⟩
/-- A label in a block of the call's own. -/
abbrev LBox (W : World) (b : Nat) (x : Lab) : Prop := (W.cell? ⟨b, 0, none⟩ = some (.int .i64 x.s) ∧ W.cell? ⟨b, 1, none⟩ = some (.int .i64 x.c) ∧ W.cell? ⟨b, 2, none⟩ = some (.int .i64 x.i) ∧ W.cell? ⟨b, 3, none⟩ = some (.int .i64 x.k)) ∧ W.frozen? ⟨b, 0, none⟩ = false ∧ W.frozen? ⟨b, 1, none⟩ = false ∧ W.frozen? ⟨b, 2, none⟩ = false ∧ W.frozen? ⟨b, 3, none⟩ = false
theorem LBox.same {W W' : World} {b : Nat} {x : Lab} (h : LBox W b x) (hb : W'.heap[b]? = W.heap[b]?) : LBox W' b x :=
  ⟨⟨(World.cell?_of_block (a := ⟨b, 0, none⟩) hb).trans h.1.1, (World.cell?_of_block (a := ⟨b, 1, none⟩) hb).trans h.1.2.1, (World.cell?_of_block (a := ⟨b, 2, none⟩) hb).trans h.1.2.2.1, (World.cell?_of_block (a := ⟨b, 3, none⟩) hb).trans h.1.2.2.2⟩, (World.frozen?_of_block (a := ⟨b, 0, none⟩) hb).trans h.2.1, (World.frozen?_of_block (a := ⟨b, 1, none⟩) hb).trans h.2.2.1, (World.frozen?_of_block (a := ⟨b, 2, none⟩) hb).trans h.2.2.2.1, (World.frozen?_of_block (a := ⟨b, 3, none⟩) hb).trans h.2.2.2.2⟩
theorem lbox_alloc (w : World) (x : Lab) (T : TypeId) : LBox (w.alloc (.cells #[.int .i64 x.s, .int .i64 x.c, .int .i64 x.i, .int .i64 x.k] T)) w.heap.size x := by
  refine ⟨⟨?_, ?_, ?_, ?_⟩, World.frozen?_alloc_new w _ T 0, World.frozen?_alloc_new w _ T 1, World.frozen?_alloc_new w _ T 2, World.frozen?_alloc_new w _ T 3⟩ <;> (rw [World.cell?_alloc_at _ _ _ _ rfl]; rfl)
theorem LBox.set0 {W : World} {b : Nat} {x : Lab} (h : LBox W b x) (v : Int) : LBox (W.setCell ⟨b, 0, none⟩ (.int .i64 v)) b ⟨v, x.c, x.i, x.k⟩ := by
  obtain ⟨⟨h0, h1, h2, h3⟩, f0, f1, f2, f3⟩ := h
  refine ⟨⟨?_, ?_, ?_, ?_⟩, ?_, ?_, ?_, ?_⟩ <;> simp [World.cell?_setCell_other, World.cell?_setCell_same', World.frozen?_setCell, *]
theorem LBox.set1 {W : World} {b : Nat} {x : Lab} (h : LBox W b x) (v : Int) : LBox (W.setCell ⟨b, 1, none⟩ (.int .i64 v)) b ⟨x.s, v, x.i, x.k⟩ := by
  obtain ⟨⟨h0, h1, h2, h3⟩, f0, f1, f2, f3⟩ := h
  refine ⟨⟨?_, ?_, ?_, ?_⟩, ?_, ?_, ?_, ?_⟩ <;> simp [World.cell?_setCell_other, World.cell?_setCell_same', World.frozen?_setCell, *]
theorem LBox.set2 {W : World} {b : Nat} {x : Lab} (h : LBox W b x) (v : Int) : LBox (W.setCell ⟨b, 2, none⟩ (.int .i64 v)) b ⟨x.s, x.c, v, x.k⟩ := by
  obtain ⟨⟨h0, h1, h2, h3⟩, f0, f1, f2, f3⟩ := h
  refine ⟨⟨?_, ?_, ?_, ?_⟩, ?_, ?_, ?_, ?_⟩ <;> simp [World.cell?_setCell_other, World.cell?_setCell_same', World.frozen?_setCell, *]
theorem LBox.set3 {W : World} {b : Nat} {x : Lab} (h : LBox W b x) (v : Int) : LBox (W.setCell ⟨b, 3, none⟩ (.int .i64 v)) b ⟨x.s, x.c, x.i, v⟩ := by
  obtain ⟨⟨h0, h1, h2, h3⟩, f0, f1, f2, f3⟩ := h
  refine ⟨⟨?_, ?_, ?_, ?_⟩, ?_, ?_, ?_, ?_⟩ <;> simp [World.cell?_setCell_other, World.cell?_setCell_same', World.frozen?_setCell, *]
end Go.Proofs.YtohocomemkckeaaDoor

/-! A LABEL OF FOUR BYTES, READ (donjonref10's reader). -/
namespace Go.Proofs.YtohocomemkckeaaDoor
open Go.RowKit
set_option maxRecDepth 8000
set_option linter.unusedSimpArgs false
set_option linter.unusedVariables false

structure LSt (w W : World) (g : Nat) (a : Option Addr) (n cap : Nat) (l : List UInt8) (r : Rd) (x : Lab) : Prop where
  rd : RdAt W g a n cap l r
  l2 : LBox W w.heap.size ⟨0, 0, 0, 0⟩
  l3 : LBox W (w.heap.size + 1) x
  rs : Rest g w W
  hg : g < w.heap.size
  ha : ∀ y, a = some y → 0 < n → y.block < w.heap.size
section
variable {w W W' : World} {g : Nat} {a : Option Addr} {n cap : Nat} {l : List UInt8} {r r' : Rd} {x x' : Lab}
theorem LSt.call (h : LSt w W g a n cap l r x) (hr : RdAt W' g a n cap l r') (ht : Rest g W W') : LSt w W' g a n cap l r' x := by
  have b2 : w.heap.size < W.heap.size := World.block_lt_of_cell? _ ⟨w.heap.size, 0, none⟩ h.l2.1.1
  have b3 : w.heap.size + 1 < W.heap.size := World.block_lt_of_cell? _ ⟨w.heap.size + 1, 0, none⟩ h.l3.1.1
  have hg := h.hg
  exact ⟨hr, h.l2.same (ht.block _ b2 (fun e => by injection e; omega)), h.l3.same (ht.block _ b3 (fun e => by injection e; omega)), h.rs.trans ht, h.hg, h.ha⟩
theorem LSt.set (h : LSt w W g a n cap l r x) (k : Nat) (v : Value) (hl : LBox (W.setCell ⟨w.heap.size + 1, k, none⟩ v) (w.heap.size + 1) x') : LSt w (W.setCell ⟨w.heap.size + 1, k, none⟩ v) g a n cap l r x' := by
  have b : Below (w.heap.size + 1) W (W.setCell ⟨w.heap.size + 1, k, none⟩ v) := (Below.refl _ _).setCell (p := ⟨w.heap.size + 1, k, none⟩) (Nat.le_refl _) _
  exact ⟨h.rd.past (Nat.lt_succ_of_lt h.hg) (fun y hy hn => Nat.lt_succ_of_lt (h.ha y hy hn)) b, h.l2.same (b.block _ (Nat.lt_succ_self _)), hl, h.rs.past (Nat.le_succ _) b, h.hg, h.ha⟩
theorem lst_alloc (h : RdAt w g a n cap l r) : LSt w ((w.alloc (.cells #[.int .i64 0, .int .i64 0, .int .i64 0, .int .i64 0] 23)).alloc (.cells #[.int .i64 0, .int .i64 0, .int .i64 0, .int .i64 0] 23)) g a n cap l r ⟨0, 0, 0, 0⟩ := by
  have b1 := alloc_below w (.cells #[.int .i64 0, .int .i64 0, .int .i64 0, .int .i64 0] 23)
  have hx : LBox (w.alloc (.cells #[.int .i64 0, .int .i64 0, .int .i64 0, .int .i64 0] 23)) w.heap.size ⟨0, 0, 0, 0⟩ := lbox_alloc w ⟨0, 0, 0, 0⟩ _
  have hs := World.size_alloc w (.cells #[.int .i64 0, .int .i64 0, .int .i64 0, .int .i64 0] 23)
  generalize w.alloc (.cells #[.int .i64 0, .int .i64 0, .int .i64 0, .int .i64 0] 23) = W1 at *
  have b2 := alloc_below W1 (.cells #[.int .i64 0, .int .i64 0, .int .i64 0, .int .i64 0] 23)
  have hy : LBox (W1.alloc (.cells #[.int .i64 0, .int .i64 0, .int .i64 0, .int .i64 0] 23)) W1.heap.size ⟨0, 0, 0, 0⟩ := lbox_alloc W1 ⟨0, 0, 0, 0⟩ _
  rw [hs] at hy
  have hB := Below.then b1 b2
  exact ⟨h.past h.lt h.alt hB, hx.same (b2.block _ (by omega)), hy, (Rest.refl _ _).past (Nat.le_refl _) hB, h.lt, h.alt⟩
end

end Go.Proofs.YtohocomemkckeaaDoor

/-! A TEXT BEHIND ITS LENGTH, READ (donjonref10's reader). -/
namespace Go.Proofs.YtohocomemkckeaaDoor
open Go.RowKit
set_option maxRecDepth 8000
set_option linter.unusedSimpArgs false
set_option linter.unusedVariables false

def textV (l : List UInt8) (r : Rd) : ByteArray := if (u8R l r).err = 0 ∧ (u8R l r).p + u8V l r ≤ l.length then ⟨((l.drop (u8R l r).p).take (u8V l r)).toArray⟩ else ⟨#[]⟩
def textR (l : List UInt8) (r : Rd) : Rd := if (u8R l r).err = 0 then (if (u8R l r).p + u8V l r ≤ l.length then ⟨(u8R l r).p + u8V l r, 0⟩ else ⟨(u8R l r).p, 8⟩) else u8R l r
/-- A part of a row of bytes, and that as a text. -/
theorem sub_slice (y : Addr) (n cap p q : Nat) (hpq : p ≤ q) (hq : q ≤ n) (hnc : n ≤ cap) :
    ∃ A : Addr, (∀ W, (Instr.slice 44 (.slice (some y) n cap) (some (.int .i64 (p : Int))) (some (.int .i64 (q : Int))) none).run Tryd.prog W = .ok (.slice (some A) (q - p) (cap - p)) W) ∧ (p < cap → A = y.add p) := by
  obtain ⟨i, hi, hz, hs, hb⟩ := info_u8s
  refine ⟨if cap = p then y else y.add p, fun W => ?_, fun h => if_neg (by omega)⟩
  have h1 : (p : Int) ≤ (q : Int) := by omega
  have h2 : (q : Int) ≤ (cap : Int) := by omega
  rw [run_slice_lh (P := Tryd.prog) W 44 (some y) n cap Tryd.underlying44 .i64 .i64 (p : Int) (q : Int) (by omega) h1 h2]
  rw [show (Tryd.prog.elem 44) = 5 by kernel_rfl]
  simp [sizeOf, typeInfo, hi, hs, sliced]
  split <;> rfl
theorem sub_text (y : Addr) (n cap p q : Nat) (A : Addr) (hA : p < cap → A = y.add p) (hpq : p ≤ q) (hq : q ≤ n) (hnc : n ≤ cap) (l : List UInt8) (W : World) (hb : BytesAt W (some y) n l) :
    (convert 44 9 (.slice (some A) (q - p) (cap - p))).run Tryd.prog W = .ok (.string ⟨((l.drop p).take (q - p)).toArray⟩) W := by
  have hl : ((l.drop p).take (q - p)).length = q - p := by
    have := hb.1
    simp
    omega
  have := run_convert_bytes_back (P := Tryd.prog) W 44 9 5 A (cap - p) ((l.drop p).take (q - p)) Tryd.underlying44 Tryd.underlying5 Tryd.underlying9 fun j hj => by
    rw [hl] at hj
    rw [hA (by omega), Addr.add_add]
    obtain ⟨y', hy', hc⟩ := hb.2 (p + j) (by omega)
    obtain rfl := Option.some.inj hy'
    rw [hc]
    have hpj : p + j < l.length := by have := hb.1; omega
    simp [List.getD_eq_getElem?_getD, List.getElem?_eq_getElem hpj]
  rwa [hl] at this

end Go.Proofs.YtohocomemkckeaaDoor

/-! WHERE A PARSE STANDS: the reader in the second block of the call, the answer in its first, all else as it was. -/
namespace Go.Proofs.YtohocomemkckeaaDoor
open Go.RowKit
set_option maxRecDepth 8000
set_option linter.unusedSimpArgs false
set_option linter.unusedVariables false

structure PSt (w W : World) (a : Option Addr) (n cap : Nat) (l : List UInt8) (r : Rd) (zs : List Value) : Prop where
  rd : RdAt W (w.heap.size + 1) a n cap l r
  m2 : Blk W w.heap.size zs
  bl : Below w.heap.size w W
  ha : ∀ y, a = some y → 0 < n → y.block < w.heap.size
section
variable {w W W' : World} {a : Option Addr} {n cap : Nat} {l : List UInt8} {r r' : Rd} {zs : List Value}
theorem PSt.two (h : PSt w W a n cap l r zs) : w.heap.size + 2 ≤ W.heap.size := h.rd.lt
theorem PSt.call (h : PSt w W a n cap l r zs) (hr : RdAt W' (w.heap.size + 1) a n cap l r') (ht : Rest (w.heap.size + 1) W W') : PSt w W' a n cap l r' zs := by
  have h2 := h.two
  exact ⟨hr, h.m2.same (ht.block _ (by omega) (fun e => by injection e; omega)), h.bl.grown ht h.bl.size (fun k hk => by injection hk; omega), h.ha⟩
theorem PSt.past (h : PSt w W a n cap l r zs) {p : Nat} (hp : w.heap.size + 2 ≤ p) (b : Below p W W') : PSt w W' a n cap l r zs := by
  have h2 := h.two
  exact ⟨h.rd.past (by omega) (fun y hy hn => by have := h.ha y hy hn; omega) b, h.m2.same (b.block _ (by omega)), h.bl.trans (b.mono (by omega)), h.ha⟩
theorem blk_rest {p : Nat} {vs : List Value} {v : Value} (f : Blk W p vs) (hp : w.heap.size + 2 ≤ p) (h0 : vs[0]? = some v) (ht : Rest (w.heap.size + 1) W W') : Blk W' p vs := f.same (ht.block _ (f.lt h0) (fun e => by injection e; omega))
theorem pst_start (hn : n < 1000000) (hnc : n ≤ cap) (hb : BytesAt w a n l) (cs : Array Value) (T U : TypeId) : PSt w ((w.alloc (.cells cs T)).alloc (.cells #[.slice a n cap, .int .i64 0, .int .i64 0] U)) a n cap l ⟨0, 0⟩ cs.toList := by
  have b1 := alloc_below w (.cells cs T)
  have m2 := blk_alloc w cs T
  have s1 := World.size_alloc w (.cells cs T)
  generalize w.alloc (.cells cs T) = W1 at *
  have b2 := alloc_below W1 (.cells #[.slice a n cap, .int .i64 0, .int .i64 0] U)
  have m3 := blk_alloc W1 #[.slice a n cap, .int .i64 0, .int .i64 0] U
  rw [s1] at m3
  have ha : ∀ y, a = some y → 0 < n → y.block < w.heap.size := fun y hy hn => by
    obtain ⟨y', hy', hc⟩ := hb.2 0 hn
    rw [hy] at hy'
    obtain rfl := Option.some.inj hy'
    have := World.block_lt_of_cell? _ _ hc
    rwa [add_block] at this
  have hB := Below.then b1 b2
  exact ⟨⟨(m3 0 _ rfl).1, (m3 1 _ rfl).1, (m3 2 _ rfl).1, (m3 1 _ rfl).2, (m3 2 _ rfl).2, hb.below hB, fun y hy hn => by have := ha y hy hn; omega, Nat.zero_le _, hn, hnc⟩, m2.same (b2.block _ (by omega)), hB, ha⟩
end
/-- A number as its own. -/
def numV (l : List UInt8) (r : Rd) : Int := wordV (numTo l r 8)
def numR8 (l : List UInt8) (r : Rd) : Rd := numR l r 8
end Go.Proofs.YtohocomemkckeaaDoor

/-! WHAT IS WRITTEN IS READ AGAIN: texts, labels, numbers, behind whatever bytes and ahead of whatever bytes. -/
namespace Go.Proofs.YtohocomemkckeaaDoor
open Go.RowKit
set_option maxRecDepth 8000
set_option linter.unusedSimpArgs false
set_option linter.unusedVariables false

theorem u8_at (pre rest : List UInt8) (c : UInt8) : u8V (pre ++ c :: rest) ⟨pre.length, 0⟩ = c.toNat ∧ u8R (pre ++ c :: rest) ⟨pre.length, 0⟩ = ⟨pre.length + 1, 0⟩ := by
  have h : pre.length < (pre ++ c :: rest).length := by simp
  constructor
  · unfold u8V
    rw [if_pos ⟨rfl, h⟩]
    simp [List.getD_eq_getElem?_getD]
  · unfold u8R
    rw [if_pos rfl, if_pos h]
theorem lowB_small {x : Int} (h0 : 0 ≤ x) (h1 : x < 256) : ((lowB x).toNat : Int) = x := by rw [lowB_nat]; omega
theorem text_back (pre rest : List UInt8) (s : ByteArray) (hs : s.size < 256) : textV (pre ++ encT s ++ rest) ⟨pre.length, 0⟩ = s ∧ textR (pre ++ encT s ++ rest) ⟨pre.length, 0⟩ = ⟨(pre ++ encT s).length, 0⟩ := by
  have hl : pre ++ encT s ++ rest = pre ++ lowB s.size :: (s.data.toList ++ rest) := by simp [encT]
  have hd : (pre ++ encT s ++ rest).drop (pre.length + 1) = s.data.toList ++ rest := by
    rw [hl, List.drop_append]
    simp
  have hn : (pre ++ encT s ++ rest).length = pre.length + 1 + s.size + rest.length := by
    rw [hl]
    simp
    omega
  obtain ⟨h1, h2⟩ := u8_at pre (s.data.toList ++ rest) (lowB s.size)
  rw [← hl] at h1 h2
  have hb : (lowB s.size).toNat = s.size := by
    have := lowB_small (x := (s.size : Int)) (by omega) (by omega)
    omega
  rw [hb] at h1
  constructor
  · unfold textV
    rw [h2, h1, if_pos ⟨rfl, by rw [hn]; dsimp only; omega⟩]
    dsimp only
    rw [hd, List.take_append_of_le_length (by rw [Array.length_toList]; exact Nat.le_refl _), List.take_of_length_le (by rw [Array.length_toList]; exact Nat.le_refl _)]
  · unfold textR
    rw [h2, h1, if_pos rfl, if_pos (by rw [hn]; dsimp only; omega), List.length_append, encT_len]
    congr 1
    dsimp only
    omega
/-- A label that four bytes can say. -/
structure Lab.Byte (x : Lab) : Prop where
  s : 0 ≤ x.s ∧ x.s < 256
  c : 0 ≤ x.c ∧ x.c < 256
  i : 0 ≤ x.i ∧ x.i < 256
  k : 0 ≤ x.k ∧ x.k < 256
theorem lab_back (pre rest : List UInt8) (x : Lab) (hx : x.Byte) : labV (pre ++ encL x ++ rest) ⟨pre.length, 0⟩ = x ∧ labR (pre ++ encL x ++ rest) ⟨pre.length, 0⟩ = ⟨(pre ++ encL x).length, 0⟩ := by
  have e0 : pre ++ encL x ++ rest = pre ++ lowB x.s :: (lowB x.c :: lowB x.i :: lowB x.k :: rest) := by simp [encL]
  have e1 : pre ++ encL x ++ rest = (pre ++ [lowB x.s]) ++ lowB x.c :: (lowB x.i :: lowB x.k :: rest) := by simp [encL]
  have e2 : pre ++ encL x ++ rest = (pre ++ [lowB x.s, lowB x.c]) ++ lowB x.i :: (lowB x.k :: rest) := by simp [encL]
  have e3 : pre ++ encL x ++ rest = (pre ++ [lowB x.s, lowB x.c, lowB x.i]) ++ lowB x.k :: rest := by simp [encL]
  obtain ⟨a0, b0⟩ := u8_at pre (lowB x.c :: lowB x.i :: lowB x.k :: rest) (lowB x.s)
  obtain ⟨a1, b1⟩ := u8_at (pre ++ [lowB x.s]) (lowB x.i :: lowB x.k :: rest) (lowB x.c)
  obtain ⟨a2, b2⟩ := u8_at (pre ++ [lowB x.s, lowB x.c]) (lowB x.k :: rest) (lowB x.i)
  obtain ⟨a3, b3⟩ := u8_at (pre ++ [lowB x.s, lowB x.c, lowB x.i]) rest (lowB x.k)
  rw [← e0] at a0 b0
  rw [← e1] at a1 b1
  rw [← e2] at a2 b2
  rw [← e3] at a3 b3
  generalize pre ++ encL x ++ rest = l at *
  have n1 : (pre ++ [lowB x.s]).length = pre.length + 1 := by simp
  have n2 : (pre ++ [lowB x.s, lowB x.c]).length = pre.length + 2 := by simp
  have n3 : (pre ++ [lowB x.s, lowB x.c, lowB x.i]).length = pre.length + 3 := by simp
  rw [n1] at a1 b1
  rw [n2] at a2 b2
  rw [n3] at a3 b3
  unfold labV labR
  rw [b0, b1, b2, b3, a0, a1, a2, a3, lowB_small hx.s.1 hx.s.2, lowB_small hx.c.1 hx.c.2, lowB_small hx.i.1 hx.i.2, lowB_small hx.k.1 hx.k.2, List.length_append, encL_len]
  exact ⟨rfl, rfl⟩
theorem num_to (pre rest : List UInt8) (s : Nat) (hs : s < 18446744073709551616) (k : Nat) (hk : k ≤ 8) : numTo (pre ++ saltTo s 8 ++ rest) ⟨pre.length, 0⟩ k = s / 2 ^ (8 * (8 - k)) ∧ numR (pre ++ saltTo s 8 ++ rest) ⟨pre.length, 0⟩ k = ⟨pre.length + k, 0⟩ := by
  induction k with
  | zero =>
    refine ⟨?_, rfl⟩
    rw [numTo, Nat.div_eq_of_lt]
    exact hs
  | succ k ih =>
    obtain ⟨h1, h2⟩ := ih (by omega)
    have hsp : pre ++ saltTo s 8 ++ rest = (pre ++ saltTo s k) ++ UInt8.ofNat (s / 2 ^ (8 * (7 - k))) :: (((saltTo s 8).drop (k + 1)) ++ rest) := by
      have hd : saltTo s 8 = saltTo s k ++ UInt8.ofNat (s / 2 ^ (8 * (7 - k))) :: (saltTo s 8).drop (k + 1) := by
        have ht : (saltTo s 8).take (k + 1) = saltTo s (k + 1) := by
          unfold saltTo
          rw [← List.map_take, List.take_range, Nat.min_eq_left (by omega)]
        have := List.take_append_drop (k + 1) (saltTo s 8)
        rw [ht, saltTo_succ] at this
        rw [List.append_assoc] at this
        exact this.symm
      obtain ⟨D, hD⟩ : ∃ D, (saltTo s 8).drop (k + 1) = D := ⟨_, rfl⟩
      rw [hD] at hd ⊢
      rw [hd]
      simp
    have hu := u8_at (pre ++ saltTo s k) (((saltTo s 8).drop (k + 1)) ++ rest) (UInt8.ofNat (s / 2 ^ (8 * (7 - k))))
    rw [← hsp, List.length_append, saltTo_len] at hu
    rw [numTo, numR, h2, h1, hu.1, hu.2]
    refine ⟨?_, rfl⟩
    have hp : 8 * (8 - k) = 8 * (7 - k) + 8 := by omega
    have hq : 8 * (8 - (k + 1)) = 8 * (7 - k) := by omega
    rw [hp, hq, Nat.pow_add, ← Nat.div_div_eq_div_mul]
    simp [UInt8.toNat_ofNat']
    omega
theorem num_back (pre rest : List UInt8) (x : Int) (hx : -9223372036854775808 ≤ x ∧ x ≤ 9223372036854775807) : numV (pre ++ encW x ++ rest) ⟨pre.length, 0⟩ = x ∧ numR8 (pre ++ encW x ++ rest) ⟨pre.length, 0⟩ = ⟨(pre ++ encW x).length, 0⟩ := by
  obtain ⟨h1, h2⟩ := num_to pre rest (saltN x) (saltN_lt x) 8 (Nat.le_refl _)
  unfold numV numR8 encW
  rw [h1, h2, List.length_append, saltTo_len]
  refine ⟨?_, rfl⟩
  simp
  unfold wordV saltN
  split <;> omega
end Go.Proofs.YtohocomemkckeaaDoor

/-! ParseMessage: the document's own (donjonref10). Written by mk_nparse.py. -/
namespace Go.Proofs.YtohocomemkckeaaDoor
open Go.RowKit
set_option maxRecDepth 8000
set_option linter.unusedSimpArgs false
set_option linter.unusedVariables false

def msgR0 (l : List UInt8) : Rd := ⟨0, 0⟩
def msgR1 (l : List UInt8) : Rd := textR l (msgR0 l)
def msgR2 (l : List UInt8) : Rd := labR l (msgR1 l)
def msgR3 (l : List UInt8) : Rd := textR l (msgR2 l)
def msgR4 (l : List UInt8) : Rd := labR l (msgR3 l)
def msgR5 (l : List UInt8) : Rd := textR l (msgR4 l)
def msgV (l : List UInt8) : Msg := ⟨textV l (msgR0 l), labV l (msgR1 l), textV l (msgR2 l), labV l (msgR3 l), textV l (msgR4 l)⟩
def msgZ : Msg := ⟨⟨#[]⟩, ⟨0, 0, 0, 0⟩, ⟨#[]⟩, ⟨0, 0, 0, 0⟩, ⟨#[]⟩⟩
def msgE (l : List UInt8) : Int := endV l (msgR5 l)
def msgP (l : List UInt8) : Msg := if msgE l = 0 then msgV l else msgZ

end Go.Proofs.YtohocomemkckeaaDoor

/-! ParseEntry: the document's own (donjonref10). Written by mk_nparse.py. -/
namespace Go.Proofs.YtohocomemkckeaaDoor
open Go.RowKit
set_option maxRecDepth 8000
set_option linter.unusedSimpArgs false
set_option linter.unusedVariables false

def entR0 (l : List UInt8) : Rd := ⟨0, 0⟩
def entR1 (l : List UInt8) : Rd := numR8 l (entR0 l)
def entR2 (l : List UInt8) : Rd := labR l (entR1 l)
def entR3 (l : List UInt8) : Rd := textR l (entR2 l)
def entR4 (l : List UInt8) : Rd := u8R l (entR3 l)
def entR5 (l : List UInt8) : Rd := textR l (entR4 l)
def entR6 (l : List UInt8) : Rd := u8R l (entR5 l)
def entV (l : List UInt8) : Ent := ⟨numV l (entR0 l), labV l (entR1 l), textV l (entR2 l), ((u8V l (entR3 l) : Nat) : Int), textV l (entR4 l), ((u8V l (entR5 l) : Nat) : Int)⟩
def entZ : Ent := ⟨0, ⟨0, 0, 0, 0⟩, ⟨#[]⟩, 0, ⟨#[]⟩, 0⟩
def entE (l : List UInt8) : Int := endV l (entR6 l)
def entP (l : List UInt8) : Ent := if entE l = 0 then entV l else entZ

end Go.Proofs.YtohocomemkckeaaDoor

/-! MESSAGES AND ENTRIES, WRITTEN AND READ AGAIN. -/
namespace Go.Proofs.YtohocomemkckeaaDoor
open Go.RowKit
set_option maxRecDepth 8000
set_option linter.unusedSimpArgs false
set_option linter.unusedVariables false

theorem end_all (l : List UInt8) : endV l ⟨l.length, 0⟩ = 0 := by
  unfold endV
  rw [if_neg (fun h => Nat.lt_irrefl _ h.2)]
structure Msg.Plain (m : Msg) : Prop where
  f : m.from_.size < 256
  l : m.label.Byte
  t : m.to_.size < 256
  b : m.box.Byte
  x : m.text.size < 256
theorem msg_back (m : Msg) (h : m.Plain) : msgP (encM m) = m ∧ msgE (encM m) = 0 := by
  have t0 := text_back [] (encL m.label ++ encT m.to_ ++ encL m.box ++ encT m.text) m.from_ h.f
  have t1 := lab_back (encT m.from_) (encT m.to_ ++ encL m.box ++ encT m.text) m.label h.l
  have t2 := text_back (encT m.from_ ++ encL m.label) (encL m.box ++ encT m.text) m.to_ h.t
  have t3 := lab_back (encT m.from_ ++ encL m.label ++ encT m.to_) (encT m.text) m.box h.b
  have t4 := text_back (encT m.from_ ++ encL m.label ++ encT m.to_ ++ encL m.box) [] m.text h.x
  rw [show [] ++ encT m.from_ ++ (encL m.label ++ encT m.to_ ++ encL m.box ++ encT m.text) = encM m by simp [encM]] at t0
  rw [show encT m.from_ ++ encL m.label ++ (encT m.to_ ++ encL m.box ++ encT m.text) = encM m by simp [encM]] at t1
  rw [show encT m.from_ ++ encL m.label ++ encT m.to_ ++ (encL m.box ++ encT m.text) = encM m by simp [encM]] at t2
  rw [show encT m.from_ ++ encL m.label ++ encT m.to_ ++ encL m.box ++ encT m.text = encM m by simp [encM]] at t3
  rw [show encT m.from_ ++ encL m.label ++ encT m.to_ ++ encL m.box ++ encT m.text ++ [] = encM m by simp [encM], show encT m.from_ ++ encL m.label ++ encT m.to_ ++ encL m.box ++ encT m.text = encM m by simp [encM]] at t4
  rw [List.nil_append] at t0
  have r1 : msgR1 (encM m) = ⟨(encT m.from_).length, 0⟩ := t0.2
  have r2 : msgR2 (encM m) = ⟨(encT m.from_ ++ encL m.label).length, 0⟩ := by unfold msgR2; rw [r1]; exact t1.2
  have r3 : msgR3 (encM m) = ⟨(encT m.from_ ++ encL m.label ++ encT m.to_).length, 0⟩ := by unfold msgR3; rw [r2]; exact t2.2
  have r4 : msgR4 (encM m) = ⟨(encT m.from_ ++ encL m.label ++ encT m.to_ ++ encL m.box).length, 0⟩ := by unfold msgR4; rw [r3]; exact t3.2
  have r5 : msgR5 (encM m) = ⟨(encM m).length, 0⟩ := by unfold msgR5; rw [r4]; exact t4.2
  have hE : msgE (encM m) = 0 := by unfold msgE; rw [r5]; exact end_all _
  refine ⟨?_, hE⟩
  unfold msgP
  rw [if_pos hE]
  unfold msgV
  rw [r1, r2, r3, r4, t1.1, t2.1, t3.1, t4.1]
  rw [show textV (encM m) (msgR0 (encM m)) = m.from_ from t0.1]
theorem u8_back (pre rest : List UInt8) (x : Int) (h : 0 ≤ x ∧ x < 256) : ((u8V (pre ++ [lowB x] ++ rest) ⟨pre.length, 0⟩ : Nat) : Int) = x ∧ u8R (pre ++ [lowB x] ++ rest) ⟨pre.length, 0⟩ = ⟨(pre ++ [lowB x]).length, 0⟩ := by
  have := u8_at pre rest (lowB x)
  rw [show pre ++ [lowB x] ++ rest = pre ++ lowB x :: rest by simp, this.1, this.2, lowB_small h.1 h.2, List.length_append]
  exact ⟨rfl, rfl⟩
structure Ent.Plain (e : Ent) : Prop where
  q : -9223372036854775808 ≤ e.seq ∧ e.seq ≤ 9223372036854775807
  l : e.label.Byte
  u : e.user.size < 256
  v : 0 ≤ e.verb ∧ e.verb < 256
  o : e.object.size < 256
  d : 0 ≤ e.verdict ∧ e.verdict < 256
theorem ent_back (e : Ent) (h : e.Plain) : entP (encE e) = e ∧ entE (encE e) = 0 := by
  have t0 := num_back [] (encL e.label ++ encT e.user ++ [lowB e.verb] ++ encT e.object ++ [lowB e.verdict]) e.seq h.q
  have t1 := lab_back (encW e.seq) (encT e.user ++ [lowB e.verb] ++ encT e.object ++ [lowB e.verdict]) e.label h.l
  have t2 := text_back (encW e.seq ++ encL e.label) ([lowB e.verb] ++ encT e.object ++ [lowB e.verdict]) e.user h.u
  have t3 := u8_back (encW e.seq ++ encL e.label ++ encT e.user) (encT e.object ++ [lowB e.verdict]) e.verb h.v
  have t4 := text_back (encW e.seq ++ encL e.label ++ encT e.user ++ [lowB e.verb]) [lowB e.verdict] e.object h.o
  have t5 := u8_back (encW e.seq ++ encL e.label ++ encT e.user ++ [lowB e.verb] ++ encT e.object) [] e.verdict h.d
  rw [show [] ++ encW e.seq ++ (encL e.label ++ encT e.user ++ [lowB e.verb] ++ encT e.object ++ [lowB e.verdict]) = encE e by simp [encE], List.nil_append] at t0
  rw [show encW e.seq ++ encL e.label ++ (encT e.user ++ [lowB e.verb] ++ encT e.object ++ [lowB e.verdict]) = encE e by simp [encE]] at t1
  rw [show encW e.seq ++ encL e.label ++ encT e.user ++ ([lowB e.verb] ++ encT e.object ++ [lowB e.verdict]) = encE e by simp [encE]] at t2
  rw [show encW e.seq ++ encL e.label ++ encT e.user ++ [lowB e.verb] ++ (encT e.object ++ [lowB e.verdict]) = encE e by simp [encE]] at t3
  rw [show encW e.seq ++ encL e.label ++ encT e.user ++ [lowB e.verb] ++ encT e.object ++ [lowB e.verdict] = encE e by simp [encE]] at t4
  rw [List.append_nil, show encW e.seq ++ encL e.label ++ encT e.user ++ [lowB e.verb] ++ encT e.object ++ [lowB e.verdict] = encE e by simp [encE]] at t5
  have r1 : entR1 (encE e) = ⟨(encW e.seq).length, 0⟩ := t0.2
  have r2 : entR2 (encE e) = ⟨(encW e.seq ++ encL e.label).length, 0⟩ := by unfold entR2; rw [r1]; exact t1.2
  have r3 : entR3 (encE e) = ⟨(encW e.seq ++ encL e.label ++ encT e.user).length, 0⟩ := by unfold entR3; rw [r2]; exact t2.2
  have r4 : entR4 (encE e) = ⟨(encW e.seq ++ encL e.label ++ encT e.user ++ [lowB e.verb]).length, 0⟩ := by unfold entR4; rw [r3]; exact t3.2
  have r5 : entR5 (encE e) = ⟨(encW e.seq ++ encL e.label ++ encT e.user ++ [lowB e.verb] ++ encT e.object).length, 0⟩ := by unfold entR5; rw [r4]; exact t4.2
  have r6 : entR6 (encE e) = ⟨(encE e).length, 0⟩ := by unfold entR6; rw [r5]; exact t5.2
  have hE : entE (encE e) = 0 := by unfold entE; rw [r6]; exact end_all _
  refine ⟨?_, hE⟩
  unfold entP
  rw [if_pos hE]
  unfold entV
  rw [r1, r2, r3, r4, r5, t1.1, t2.1, t3.1, t4.1, t5.1]
  rw [show numV (encE e) (entR0 (encE e)) = e.seq from t0.1]
end Go.Proofs.YtohocomemkckeaaDoor

/-! NODES, READ, in plain words: what is written is read again; what can be read is written as it stood; what is cut off is told to be. -/
namespace Go.Proofs.YtohocomemkckeaaDoor
open Go.RowKit
set_option maxRecDepth 8000
set_option linter.unusedSimpArgs false
set_option linter.unusedVariables false

def dirR (l : List UInt8) (r : Rd) : Rd := if (u8R l r).err = 0 ∧ 1 < u8V l r then ⟨(u8R l r).p, 11⟩ else u8R l r
def grT (l : List UInt8) (r : Rd) : Nat → List Gr × Rd
  | 0 => ([], r)
  | k + 1 => if (grT l r k).2.err = 0 then ((grT l r k).1 ++ [⟨textV l (grT l r k).2, ((u8V l (textR l (grT l r k).2) : Nat) : Int)⟩], u8R l (textR l (grT l r k).2)) else grT l r k
def wdT (l : List UInt8) (r : Rd) : Nat → List Int × Rd
  | 0 => ([], r)
  | k + 1 => if (wdT l r k).2.err = 0 then ((wdT l r k).1 ++ [numV l (wdT l r k).2], numR8 l (wdT l r k).2) else wdT l r k
def nodR0 (l : List UInt8) : Rd := ⟨0, 0⟩
def nodR1 (l : List UInt8) : Rd := textR l (nodR0 l)
def nodR2 (l : List UInt8) : Rd := dirR l (nodR1 l)
def nodR3 (l : List UInt8) : Rd := labR l (nodR2 l)
def nodR4 (l : List UInt8) : Rd := labR l (nodR3 l)
def nodR5 (l : List UInt8) : Rd := u8R l (nodR4 l)
def nodGs (l : List UInt8) : List Gr × Rd := grT l (nodR5 l) (u8V l (nodR4 l))
def nodR6 (l : List UInt8) : Rd := (nodGs l).2
def nodR7 (l : List UInt8) : Rd := u8R l (nodR6 l)
def nodR8 (l : List UInt8) : Rd := u8R l (nodR7 l)
def nodR9 (l : List UInt8) : Rd := u8R l (nodR8 l)
def nodR10 (l : List UInt8) : Rd := u8R l (nodR9 l)
def nodR11 (l : List UInt8) : Rd := u8R l (nodR10 l)
def nodWs (l : List UInt8) : List Int × Rd := wdT l (nodR11 l) (u8V l (nodR10 l))
def nodR12 (l : List UInt8) : Rd := (nodWs l).2
def nodV (l : List UInt8) : Nod := ⟨textV l (nodR0 l), u8V l (nodR1 l) == 1, labV l (nodR2 l), (nodGs l).1, (u8V l (nodR6 l) : Nat), (u8V l (nodR7 l) : Nat), (u8V l (nodR8 l) : Nat), (u8V l (nodR9 l) : Nat), (nodWs l).1, labV l (nodR3 l)⟩
def nodZ : Nod := ⟨⟨#[]⟩, false, ⟨0, 0, 0, 0⟩, [], 0, 0, 0, 0, [], ⟨0, 0, 0, 0⟩⟩
def nodE (l : List UInt8) : Int := endV l (nodR12 l)
def nodP (l : List UInt8) : Nod := if nodE l = 0 then nodV l else nodZ

/-! What is wrong stays. -/
theorem u8R_bad {l : List UInt8} {r : Rd} (h : r.err ≠ 0) : u8R l r = r := if_neg h
theorem textR_bad {l : List UInt8} {r : Rd} (h : r.err ≠ 0) : textR l r = r := by
  unfold textR
  rw [u8R_bad h, if_neg h]
theorem dirR_bad {l : List UInt8} {r : Rd} (h : r.err ≠ 0) : dirR l r = r := by
  unfold dirR
  rw [u8R_bad h, if_neg (fun k => h k.1)]
theorem labR_bad {l : List UInt8} {r : Rd} (h : r.err ≠ 0) : labR l r = r := by
  unfold labR
  rw [u8R_bad h, u8R_bad h, u8R_bad h, u8R_bad h]
theorem numR_bad {l : List UInt8} {r : Rd} (h : r.err ≠ 0) (k : Nat) : numR l r k = r := by
  induction k with
  | zero => rfl
  | succ k ih => rw [numR, ih, u8R_bad h]
theorem grT_bad {l : List UInt8} {r : Rd} (h : r.err ≠ 0) (k : Nat) : grT l r k = ([], r) := by
  induction k with
  | zero => rfl
  | succ k ih => rw [grT, ih, if_neg h]
theorem wdT_bad {l : List UInt8} {r : Rd} (h : r.err ≠ 0) (k : Nat) : wdT l r k = ([], r) := by
  induction k with
  | zero => rfl
  | succ k ih => rw [wdT, ih, if_neg h]
theorem grT_stop {l : List UInt8} {r : Rd} {i : Nat} (h : (grT l r i).2.err ≠ 0) (k : Nat) : grT l r (i + k) = grT l r i := by
  induction k with
  | zero => rfl
  | succ k ih => rw [← Nat.add_assoc, grT, ih, if_neg h]
theorem wdT_stop {l : List UInt8} {r : Rd} {i : Nat} (h : (wdT l r i).2.err ≠ 0) (k : Nat) : wdT l r (i + k) = wdT l r i := by
  induction k with
  | zero => rfl
  | succ k ih => rw [← Nat.add_assoc, wdT, ih, if_neg h]
theorem grT_good {l : List UInt8} {r : Rd} {k : Nat} (h : (grT l r k).2.err = 0) {i : Nat} (hi : i ≤ k) : (grT l r i).2.err = 0 := by
  by_cases h0 : (grT l r i).2.err = 0
  · exact h0
  · have := grT_stop h0 (k - i)
    rw [show i + (k - i) = k by omega] at this
    rw [← this]
    exact h
theorem wdT_good {l : List UInt8} {r : Rd} {k : Nat} (h : (wdT l r k).2.err = 0) {i : Nat} (hi : i ≤ k) : (wdT l r i).2.err = 0 := by
  by_cases h0 : (wdT l r i).2.err = 0
  · exact h0
  · have := wdT_stop h0 (k - i)
    rw [show i + (k - i) = k by omega] at this
    rw [← this]
    exact h
theorem err_of_bad {f : Rd → Rd} {r : Rd} (hf : r.err ≠ 0 → f r = r) (h : (f r).err = 0) : r.err = 0 := by
  by_cases h0 : r.err = 0
  · exact h0
  · rw [hf h0] at h
    exact h

/-! What was read stood there. -/
structure Ate (l : List UInt8) (r r' : Rd) (bs : List UInt8) : Prop where
  e : r.err = 0
  e' : r'.err = 0
  d : l.drop r.p = bs ++ l.drop r'.p
  p : r'.p = r.p + bs.length
theorem Ate.trans {l : List UInt8} {r r1 r2 : Rd} {a b : List UInt8} (h : Ate l r r1 a) (k : Ate l r1 r2 b) : Ate l r r2 (a ++ b) :=
  ⟨h.e, k.e', by rw [h.d, k.d, List.append_assoc], by rw [k.p, h.p, List.length_append]; omega⟩
theorem ate_u8 {l : List UInt8} {r : Rd} (h : (u8R l r).err = 0) : Ate l r (u8R l r) [lowB (u8V l r : Nat)] := by
  have h0 := err_of_bad (f := u8R l) u8R_bad h
  unfold u8R at h
  rw [if_pos h0] at h
  split at h
  · rename_i hp
    have e1 : u8R l r = ⟨r.p + 1, 0⟩ := by unfold u8R; rw [if_pos h0, if_pos hp]
    have e2 : u8V l r = (l.getD r.p 0).toNat := if_pos ⟨h0, hp⟩
    rw [e1, e2]
    refine ⟨h0, rfl, ?_, rfl⟩
    rw [List.drop_eq_getElem_cons hp]
    have hb : lowB ((l.getD r.p 0).toNat : Int) = l[r.p] := by
      rw [List.getD_eq_getElem?_getD, List.getElem?_eq_getElem hp]
      unfold lowB
      have := (l[r.p]).toNat_lt
      rw [show (((some l[r.p]).getD 0).toNat : Int) % 256 = ((l[r.p]).toNat : Int) by simp only [Option.getD_some]; omega]
      simp
    rw [hb]
    rfl
  · cases h
theorem ate_text {l : List UInt8} {r : Rd} (h : (textR l r).err = 0) : Ate l r (textR l r) (encT (textV l r)) ∧ (textV l r).size < 256 := by
  have h0 : (u8R l r).err = 0 := by
    by_cases h1 : (u8R l r).err = 0
    · exact h1
    · unfold textR at h; rw [if_neg h1] at h; exact h
  have hu := ate_u8 h0
  have hv := u8V_lt l r
  unfold textR at h
  rw [if_pos h0] at h
  split at h
  · rename_i hp
    have e1 : textR l r = ⟨(u8R l r).p + u8V l r, 0⟩ := by unfold textR; rw [if_pos h0, if_pos hp]
    have e2 : textV l r = ⟨((l.drop (u8R l r).p).take (u8V l r)).toArray⟩ := by unfold textV; rw [if_pos ⟨h0, hp⟩]
    have hs : (textV l r).size = u8V l r := by
      rw [e2]
      show ((l.drop (u8R l r).p).take (u8V l r)).toArray.size = _
      simp
      omega
    refine ⟨?_, by rw [hs]; exact hv⟩
    have hd : (textV l r).data.toList = (l.drop (u8R l r).p).take (u8V l r) := by rw [e2]
    unfold encT
    rw [hs, hd, e1]
    refine ⟨hu.e, rfl, ?_, ?_⟩
    · rw [hu.d]
      simp only [List.cons_append, List.nil_append]
      rw [← List.drop_drop, List.take_append_drop]
    · have := hu.p
      simp at this ⊢
      omega
  · cases h
theorem u8_byte (l : List UInt8) (r : Rd) : (0 : Int) ≤ (u8V l r : Nat) ∧ ((u8V l r : Nat) : Int) < 256 := by
  have := u8V_lt l r
  omega
theorem ate_lab {l : List UInt8} {r : Rd} (h : (labR l r).err = 0) : Ate l r (labR l r) (encL (labV l r)) ∧ (labV l r).Byte := by
  refine ⟨?_, ⟨u8_byte _ _, u8_byte _ _, u8_byte _ _, u8_byte _ _⟩⟩
  unfold labR at h ⊢
  have h3 := err_of_bad (f := u8R l) u8R_bad h
  have h2 := err_of_bad (f := u8R l) u8R_bad h3
  have h1 := err_of_bad (f := u8R l) u8R_bad h2
  exact (((ate_u8 h1).trans (ate_u8 h2)).trans (ate_u8 h3)).trans (ate_u8 h)
theorem numR_good {l : List UInt8} {r : Rd} {k : Nat} (h : (numR l r k).err = 0) {i : Nat} (hi : i ≤ k) : (numR l r i).err = 0 := by
  obtain ⟨d, rfl⟩ : ∃ d, k = i + d := ⟨k - i, by omega⟩
  clear hi
  induction d with
  | zero => exact h
  | succ d ih => exact ih (err_of_bad (f := u8R l) u8R_bad h)
theorem num_front {l : List UInt8} {r : Rd} (s : Nat) (hs : s = numTo l r 8) : ∀ d, d ≤ 8 → s / 256 ^ d = numTo l r (8 - d) := fun d => by
  induction d with
  | zero => intro _; simp [hs]
  | succ d ih =>
    intro hd
    have := ih (by omega)
    rw [Nat.pow_succ, ← Nat.div_div_eq_div_mul, this, show 8 - d = (8 - (d + 1)) + 1 by omega, numTo]
    have := u8V_lt l (numR l r (8 - (d + 1)))
    omega
theorem ate_num {l : List UInt8} {r : Rd} (h : (numR8 l r).err = 0) : Ate l r (numR8 l r) (encW (numV l r)) := by
  have hlt := numTo_lt l r 8
  have hsalt : saltN (numV l r) = numTo l r 8 := by
    unfold numV wordV saltN
    split <;> omega
  unfold encW
  rw [hsalt]
  unfold numR8 at h ⊢
  have key : ∀ k, k ≤ 8 → 1 ≤ k → Ate l r (numR l r k) (saltTo (numTo l r 8) k) := fun k => by
    induction k with
    | zero => intro _ h1; omega
    | succ k ih =>
      intro hk _
      have hg : (u8R l (numR l r k)).err = 0 := numR_good (k := 8) h (i := k + 1) hk
      have hu := ate_u8 hg
      rw [saltTo_succ]
      have hb : UInt8.ofNat (numTo l r 8 / 2 ^ (8 * (7 - k))) = lowB (u8V l (numR l r k) : Nat) := by
        have hf := num_front (l := l) (r := r) _ rfl (7 - k) (by omega)
        rw [show 2 ^ (8 * (7 - k)) = 256 ^ (7 - k) by rw [Nat.pow_mul], hf, show 8 - (7 - k) = k + 1 by omega, numTo]
        have hv := u8V_lt l (numR l r k)
        unfold lowB
        rw [show (((u8V l (numR l r k) : Nat) : Int) % 256).toNat = u8V l (numR l r k) by omega]
        apply UInt8.toNat_inj.1
        simp [UInt8.toNat_ofNat']
      rw [hb]
      by_cases h0 : k = 0
      · subst h0
        exact hu
      · exact (ih (by omega) (by omega)).trans hu
  exact key 8 (Nat.le_refl _) (by omega)
theorem num_fits (l : List UInt8) (r : Rd) : -9223372036854775808 ≤ numV l r ∧ numV l r ≤ 9223372036854775807 := by
  have hlt := numTo_lt l r 8
  unfold numV wordV
  split <;> omega
def Gr.Plain (g : Gr) : Prop := g.u.size < 256 ∧ 0 ≤ g.m ∧ g.m < 256
theorem ate_grs {l : List UInt8} {r : Rd} (hr : r.err = 0) (k : Nat) (h : (grT l r k).2.err = 0) : Ate l r (grT l r k).2 ((grT l r k).1.flatMap encG) ∧ (grT l r k).1.length = k ∧ ∀ g ∈ (grT l r k).1, g.Plain := by
  induction k with
  | zero => exact ⟨⟨hr, hr, rfl, rfl⟩, rfl, fun g hg => by simp [grT] at hg⟩
  | succ k ih =>
    have hk := grT_good h (i := k) (by omega)
    obtain ⟨i1, i2, i3⟩ := ih hk
    have e : grT l r (k + 1) = ((grT l r k).1 ++ [⟨textV l (grT l r k).2, ((u8V l (textR l (grT l r k).2) : Nat) : Int)⟩], u8R l (textR l (grT l r k).2)) := by rw [grT, if_pos hk]
    rw [e] at h ⊢
    have ht := err_of_bad (f := u8R l) u8R_bad h
    obtain ⟨t1, t2⟩ := ate_text ht
    refine ⟨?_, by simp [i2], fun g hg => ?_⟩
    · have := i1.trans (t1.trans (ate_u8 h))
      simpa [encG] using this
    · rcases List.mem_append.1 hg with hg | hg
      · exact i3 g hg
      · simp at hg
        subst hg
        exact ⟨t2, u8_byte _ _⟩
theorem ate_wds {l : List UInt8} {r : Rd} (hr : r.err = 0) (k : Nat) (h : (wdT l r k).2.err = 0) : Ate l r (wdT l r k).2 ((wdT l r k).1.flatMap encW) ∧ (wdT l r k).1.length = k ∧ ∀ x ∈ (wdT l r k).1, -9223372036854775808 ≤ x ∧ x ≤ 9223372036854775807 := by
  induction k with
  | zero => exact ⟨⟨hr, hr, rfl, rfl⟩, rfl, fun g hg => by simp [wdT] at hg⟩
  | succ k ih =>
    have hk := wdT_good h (i := k) (by omega)
    obtain ⟨i1, i2, i3⟩ := ih hk
    have e : wdT l r (k + 1) = ((wdT l r k).1 ++ [numV l (wdT l r k).2], numR8 l (wdT l r k).2) := by rw [wdT, if_pos hk]
    rw [e] at h ⊢
    refine ⟨?_, by simp [i2], fun g hg => ?_⟩
    · have := i1.trans (ate_num h)
      simpa using this
    · rcases List.mem_append.1 hg with hg | hg
      · exact i3 g hg
      · simp at hg
        subst hg
        exact num_fits _ _
theorem end_zero {l : List UInt8} {r : Rd} (h : endV l r = 0) : r.err = 0 ∧ l.length ≤ r.p := by
  unfold endV at h
  split at h
  · cases h
  · rename_i hn
    refine ⟨h, ?_⟩
    by_cases hp : r.p < l.length
    · exact absurd ⟨h, hp⟩ hn
    · omega
theorem ate_all {l bs : List UInt8} {r : Rd} (h : Ate l ⟨0, 0⟩ r bs) (he : l.length ≤ r.p) : l = bs := by
  have := h.d
  rw [List.drop_eq_nil_of_le he] at this
  simpa using this
/-- A node that its bytes can say. -/
structure Nod.Plain (n : Nod) : Prop where
  p : n.path.size < 256
  l : n.label.Byte
  b : n.by_.Byte
  a : n.acl.length < 256
  g : ∀ g ∈ n.acl, g.Plain
  r1 : 0 ≤ n.r1 ∧ n.r1 < 256
  r2 : 0 ≤ n.r2 ∧ n.r2 < 256
  r3 : 0 ≤ n.r3 ∧ n.r3 < 256
  gt : 0 ≤ n.gates ∧ n.gates < 256
  w : n.words.length < 256
  x : ∀ x ∈ n.words, -9223372036854775808 ≤ x ∧ x ≤ 9223372036854775807
theorem dir_good {l : List UInt8} {r : Rd} (h : (dirR l r).err = 0) : (u8R l r).err = 0 ∧ u8V l r ≤ 1 ∧ dirR l r = u8R l r := by
  unfold dirR at h ⊢
  split at h
  · cases h
  · rename_i hn
    rw [if_neg hn]
    exact ⟨h, by by_cases h1 : 1 < u8V l r; exact absurd ⟨h, h1⟩ hn; omega, rfl⟩
theorem ate_dir {l : List UInt8} {r : Rd} (h : (dirR l r).err = 0) : Ate l r (dirR l r) [dirB (u8V l r == 1)] := by
  obtain ⟨h1, h2, h3⟩ := dir_good h
  rw [h3]
  have hu := ate_u8 h1
  rcases Nat.le_one_iff_eq_zero_or_eq_one.1 h2 with e | e <;> rw [e] at hu ⊢ <;> exact hu
/-- What can be read is written as it stood. -/
theorem nod_written {l : List UInt8} (h : nodE l = 0) : encN (nodP l) = l ∧ (nodP l).Plain := by
  obtain ⟨h12, hlen⟩ := end_zero h
  have h11 : (nodR11 l).err = 0 := wdT_good (i := 0) h12 (Nat.zero_le _)
  have h10 : (nodR10 l).err = 0 := err_of_bad (f := u8R l) u8R_bad h11
  have h9 : (nodR9 l).err = 0 := err_of_bad (f := u8R l) u8R_bad h10
  have h8 : (nodR8 l).err = 0 := err_of_bad (f := u8R l) u8R_bad h9
  have h7 : (nodR7 l).err = 0 := err_of_bad (f := u8R l) u8R_bad h8
  have h6 : (nodR6 l).err = 0 := err_of_bad (f := u8R l) u8R_bad h7
  have h5 : (nodR5 l).err = 0 := grT_good (i := 0) h6 (Nat.zero_le _)
  have h4 : (nodR4 l).err = 0 := err_of_bad (f := u8R l) u8R_bad h5
  have h3 : (nodR3 l).err = 0 := err_of_bad (f := labR l) labR_bad h4
  have h2 : (nodR2 l).err = 0 := err_of_bad (f := labR l) labR_bad h3
  have h1 : (nodR1 l).err = 0 := err_of_bad (f := dirR l) dirR_bad h2
  obtain ⟨a1, p1⟩ := ate_text (r := nodR0 l) h1
  have a2 := ate_dir (r := nodR1 l) h2
  obtain ⟨a3, p3⟩ := ate_lab (r := nodR2 l) h3
  obtain ⟨a4, p4⟩ := ate_lab (r := nodR3 l) h4
  have a5 := ate_u8 (r := nodR4 l) h5
  obtain ⟨a6, n6, p6⟩ := ate_grs (r := nodR5 l) h5 _ h6
  have a7 := ate_u8 (r := nodR6 l) h7
  have a8 := ate_u8 (r := nodR7 l) h8
  have a9 := ate_u8 (r := nodR8 l) h9
  have a10 := ate_u8 (r := nodR9 l) h10
  have a11 := ate_u8 (r := nodR10 l) h11
  obtain ⟨a12, n12, p12⟩ := ate_wds (r := nodR11 l) h11 _ h12
  have hP : nodP l = nodV l := if_pos h
  rw [hP]
  have hall := ate_all ((((((((((((a1.trans a2).trans a3).trans a4).trans a5).trans a6).trans a7).trans a8).trans a9).trans a10).trans a11).trans a12)) hlen
  refine ⟨?_, ⟨p1, p3, p4, ?_, p6, u8_byte _ _, u8_byte _ _, u8_byte _ _, u8_byte _ _, ?_, p12⟩⟩
  · refine Eq.trans ?_ hall.symm
    unfold encN nodV
    dsimp only
    rw [show (nodGs l).1.length = u8V l (nodR4 l) from n6, show (nodWs l).1.length = u8V l (nodR10 l) from n12]
    simp [nodGs, nodWs]
  · show (nodGs l).1.length < 256
    rw [show (nodGs l).1.length = u8V l (nodR4 l) from n6]
    exact u8V_lt _ _
  · show (nodWs l).1.length < 256
    rw [show (nodWs l).1.length = u8V l (nodR10 l) from n12]
    exact u8V_lt _ _
theorem msg_written {l : List UInt8} (h : msgE l = 0) : encM (msgP l) = l ∧ (msgP l).Plain := by
  obtain ⟨h5, hlen⟩ := end_zero h
  have h4 : (msgR4 l).err = 0 := err_of_bad (f := textR l) textR_bad h5
  have h3 : (msgR3 l).err = 0 := err_of_bad (f := labR l) labR_bad h4
  have h2 : (msgR2 l).err = 0 := err_of_bad (f := textR l) textR_bad h3
  have h1 : (msgR1 l).err = 0 := err_of_bad (f := labR l) labR_bad h2
  obtain ⟨a1, p1⟩ := ate_text (r := msgR0 l) h1
  obtain ⟨a2, p2⟩ := ate_lab (r := msgR1 l) h2
  obtain ⟨a3, p3⟩ := ate_text (r := msgR2 l) h3
  obtain ⟨a4, p4⟩ := ate_lab (r := msgR3 l) h4
  obtain ⟨a5, p5⟩ := ate_text (r := msgR4 l) h5
  have hP : msgP l = msgV l := if_pos h
  rw [hP]
  exact ⟨(ate_all ((((a1.trans a2).trans a3).trans a4).trans a5) hlen).symm, ⟨p1, p2, p3, p4, p5⟩⟩
theorem ent_written {l : List UInt8} (h : entE l = 0) : encE (entP l) = l ∧ (entP l).Plain := by
  obtain ⟨h6, hlen⟩ := end_zero h
  have h5 : (entR5 l).err = 0 := err_of_bad (f := u8R l) u8R_bad h6
  have h4 : (entR4 l).err = 0 := err_of_bad (f := textR l) textR_bad h5
  have h3 : (entR3 l).err = 0 := err_of_bad (f := u8R l) u8R_bad h4
  have h2 : (entR2 l).err = 0 := err_of_bad (f := textR l) textR_bad h3
  have h1 : (entR1 l).err = 0 := err_of_bad (f := labR l) labR_bad h2
  have a1 := ate_num (r := entR0 l) h1
  obtain ⟨a2, p2⟩ := ate_lab (r := entR1 l) h2
  obtain ⟨a3, p3⟩ := ate_text (r := entR2 l) h3
  have a4 := ate_u8 (r := entR3 l) h4
  obtain ⟨a5, p5⟩ := ate_text (r := entR4 l) h5
  have a6 := ate_u8 (r := entR5 l) h6
  have hP : entP l = entV l := if_pos h
  rw [hP]
  exact ⟨(ate_all (((((a1.trans a2).trans a3).trans a4).trans a5).trans a6) hlen).symm, ⟨num_fits _ _, p2, p3, u8_byte _ _, p5, u8_byte _ _⟩⟩
end Go.Proofs.YtohocomemkckeaaDoor

/-! NODES, WRITTEN AND READ AGAIN, with whatever behind; cut off anywhere they are told to be. -/
namespace Go.Proofs.YtohocomemkckeaaDoor
open Go.RowKit
set_option maxRecDepth 8000
set_option linter.unusedSimpArgs false
set_option linter.unusedVariables false

/-- Where a reading stands: what is ahead of it. -/
structure Sta (l : List UInt8) (r : Rd) (t : List UInt8) : Prop where
  e : r.err = 0
  p : r.p ≤ l.length
  d : l.drop r.p = t
theorem Sta.split {l : List UInt8} {r : Rd} {a t : List UInt8} (h : Sta l r (a ++ t)) : l = l.take r.p ++ a ++ t ∧ (l.take r.p).length = r.p ∧ r = ⟨(l.take r.p).length, 0⟩ := by
  have h1 : (l.take r.p).length = r.p := by rw [List.length_take]; have := h.p; omega
  refine ⟨?_, h1, ?_⟩
  · rw [List.append_assoc, ← h.d, List.take_append_drop]
  · rw [h1, ← h.e]
theorem Sta.next {pre a t : List UInt8} : Sta (pre ++ a ++ t) ⟨(pre ++ a).length, 0⟩ t :=
  ⟨rfl, by simp, by simp⟩
theorem sta_text {l : List UInt8} {r : Rd} {s : ByteArray} {t : List UInt8} (h : Sta l r (encT s ++ t)) (hs : s.size < 256) : textV l r = s ∧ Sta l (textR l r) t := by
  obtain ⟨h1, h2, h3⟩ := h.split
  generalize l.take r.p = pre at *
  have := text_back pre t s hs
  rw [h3, h1, this.1, this.2]
  exact ⟨rfl, Sta.next⟩
theorem sta_lab {l : List UInt8} {r : Rd} {x : Lab} {t : List UInt8} (h : Sta l r (encL x ++ t)) (hs : x.Byte) : labV l r = x ∧ Sta l (labR l r) t := by
  obtain ⟨h1, h2, h3⟩ := h.split
  generalize l.take r.p = pre at *
  have := lab_back pre t x hs
  rw [h3, h1, this.1, this.2]
  exact ⟨rfl, Sta.next⟩
theorem sta_num {l : List UInt8} {r : Rd} {x : Int} {t : List UInt8} (h : Sta l r (encW x ++ t)) (hs : -9223372036854775808 ≤ x ∧ x ≤ 9223372036854775807) : numV l r = x ∧ Sta l (numR8 l r) t := by
  obtain ⟨h1, h2, h3⟩ := h.split
  generalize l.take r.p = pre at *
  have := num_back pre t x hs
  rw [h3, h1, this.1, this.2]
  exact ⟨rfl, Sta.next⟩
theorem sta_u8 {l : List UInt8} {r : Rd} {x : Int} {t : List UInt8} (h : Sta l r ([lowB x] ++ t)) (hs : 0 ≤ x ∧ x < 256) : ((u8V l r : Nat) : Int) = x ∧ Sta l (u8R l r) t := by
  obtain ⟨h1, h2, h3⟩ := h.split
  generalize l.take r.p = pre at *
  have := u8_back pre t x hs
  rw [h3, h1, this.1, this.2]
  exact ⟨rfl, Sta.next⟩
theorem sta_dir {l : List UInt8} {r : Rd} {d : Bool} {t : List UInt8} (h : Sta l r ([dirB d] ++ t)) : (u8V l r == 1) = d ∧ Sta l (dirR l r) t := by
  have h' : Sta l r ([lowB (if d then 1 else 0)] ++ t) := by
    cases d <;> exact h
  obtain ⟨k1, k2⟩ := sta_u8 h' (by cases d <;> decide)
  have hv : u8V l r = if d then 1 else 0 := by cases d <;> simp at k1 ⊢ <;> omega
  refine ⟨by rw [hv]; cases d <;> rfl, ?_⟩
  unfold dirR
  rw [if_neg (fun q => by have := q.2; rw [hv] at this; cases d <;> simp at this)]
  exact k2
theorem sta_grs {l : List UInt8} {r : Rd} {gs : List Gr} {t : List UInt8} (h : Sta l r (gs.flatMap encG ++ t)) (hs : ∀ g ∈ gs, g.Plain) : ∀ k, k ≤ gs.length → (grT l r k).1 = gs.take k ∧ Sta l (grT l r k).2 ((gs.drop k).flatMap encG ++ t) := fun k => by
  induction k with
  | zero => intro _; exact ⟨rfl, h⟩
  | succ k ih =>
    intro hk
    obtain ⟨i1, i2⟩ := ih (by omega)
    have hlt : k < gs.length := by omega
    rw [List.drop_eq_getElem_cons hlt, List.flatMap_cons, encG, List.append_assoc, List.append_assoc] at i2
    have hp := hs gs[k] (List.getElem_mem hlt)
    obtain ⟨t1, t2⟩ := sta_text i2 hp.1
    obtain ⟨u1, u2⟩ := sta_u8 t2 hp.2
    rw [grT, if_pos i2.e]
    refine ⟨?_, u2⟩
    dsimp only
    rw [i1, t1, u1, List.take_add_one, List.getElem?_eq_getElem hlt]
    rfl
theorem sta_wds {l : List UInt8} {r : Rd} {ws : List Int} {t : List UInt8} (h : Sta l r (ws.flatMap encW ++ t)) (hs : ∀ x ∈ ws, -9223372036854775808 ≤ x ∧ x ≤ 9223372036854775807) : ∀ k, k ≤ ws.length → (wdT l r k).1 = ws.take k ∧ Sta l (wdT l r k).2 ((ws.drop k).flatMap encW ++ t) := fun k => by
  induction k with
  | zero => intro _; exact ⟨rfl, h⟩
  | succ k ih =>
    intro hk
    obtain ⟨i1, i2⟩ := ih (by omega)
    have hlt : k < ws.length := by omega
    rw [List.drop_eq_getElem_cons hlt, List.flatMap_cons, List.append_assoc] at i2
    have hp := hs ws[k] (List.getElem_mem hlt)
    obtain ⟨t1, t2⟩ := sta_num i2 hp
    rw [wdT, if_pos i2.e]
    refine ⟨?_, t2⟩
    dsimp only
    rw [i1, t1, List.take_add_one, List.getElem?_eq_getElem hlt]
    rfl
/-- A node's bytes, whatever behind, are read as the node. -/
theorem nod_read (n : Nod) (h : n.Plain) (t : List UInt8) : nodV (encN n ++ t) = n ∧ Sta (encN n ++ t) (nodR12 (encN n ++ t)) t := by
  have hl : encN n ++ t = encT n.path ++ ([dirB n.dir] ++ (encL n.label ++ (encL n.by_ ++ ([lowB (n.acl.length : Int)] ++ (n.acl.flatMap encG ++ ([lowB n.r1] ++ ([lowB n.r2] ++ ([lowB n.r3] ++ ([lowB n.gates] ++ ([lowB (n.words.length : Int)] ++ (n.words.flatMap encW ++ t))))))))))) := by
    unfold encN
    simp
  have h0 : Sta (encN n ++ t) (nodR0 (encN n ++ t)) (encN n ++ t) := ⟨rfl, Nat.zero_le _, rfl⟩
  generalize encN n ++ t = l at *
  subst hl
  obtain ⟨v1, s1⟩ := sta_text h0 h.p
  obtain ⟨v2, s2⟩ := sta_dir s1
  obtain ⟨v3, s3⟩ := sta_lab s2 h.l
  obtain ⟨v4, s4⟩ := sta_lab s3 h.b
  obtain ⟨v5, s5⟩ := sta_u8 s4 ⟨by omega, by have := h.a; omega⟩
  obtain ⟨v6, s6⟩ := sta_grs s5 h.g n.acl.length (Nat.le_refl _)
  rw [List.drop_length, List.flatMap_nil, List.nil_append] at s6
  obtain ⟨v7, s7⟩ := sta_u8 s6 h.r1
  obtain ⟨v8, s8⟩ := sta_u8 s7 h.r2
  obtain ⟨v9, s9⟩ := sta_u8 s8 h.r3
  obtain ⟨v10, s10⟩ := sta_u8 s9 h.gt
  obtain ⟨v11, s11⟩ := sta_u8 s10 ⟨by omega, by have := h.w; omega⟩
  obtain ⟨v12, s12⟩ := sta_wds s11 h.x n.words.length (Nat.le_refl _)
  rw [List.drop_length, List.flatMap_nil, List.nil_append] at s12
  rw [List.take_length] at v6 v12
  generalize encT n.path ++ ([dirB n.dir] ++ (encL n.label ++ (encL n.by_ ++ ([lowB (n.acl.length : Int)] ++ (n.acl.flatMap encG ++ ([lowB n.r1] ++ ([lowB n.r2] ++ ([lowB n.r3] ++ ([lowB n.gates] ++ ([lowB (n.words.length : Int)] ++ (n.words.flatMap encW ++ t))))))))))) = l at *
  have e5 : u8V l (nodR4 l) = n.acl.length := Int.ofNat.inj v5
  have e6 : nodR6 l = (grT l (nodR5 l) n.acl.length).2 := by
    show (grT l (nodR5 l) (u8V l (nodR4 l))).2 = _
    rw [e5]
  have e6' : (nodGs l).1 = n.acl := by
    show (grT l (nodR5 l) (u8V l (nodR4 l))).1 = _
    rw [e5]
    exact v6
  have f7 : nodR7 l = u8R l (grT l (nodR5 l) n.acl.length).2 := by unfold nodR7; rw [e6]
  have f8 : nodR8 l = u8R l (u8R l (grT l (nodR5 l) n.acl.length).2) := by unfold nodR8; rw [f7]
  have f9 : nodR9 l = u8R l (u8R l (u8R l (grT l (nodR5 l) n.acl.length).2)) := by unfold nodR9; rw [f8]
  have f10 : nodR10 l = u8R l (u8R l (u8R l (u8R l (grT l (nodR5 l) n.acl.length).2))) := by unfold nodR10; rw [f9]
  have f11 : nodR11 l = u8R l (u8R l (u8R l (u8R l (u8R l (grT l (nodR5 l) n.acl.length).2)))) := by unfold nodR11; rw [f10]
  have e11 : u8V l (nodR10 l) = n.words.length := by rw [f10]; exact Int.ofNat.inj v11
  have e12 : nodWs l = wdT l (u8R l (u8R l (u8R l (u8R l (u8R l (grT l (nodR5 l) n.acl.length).2))))) n.words.length := by
    unfold nodWs
    rw [e11, f11]
  refine ⟨?_, ?_⟩
  · unfold nodV
    rw [e6', e12, show (wdT l (u8R l (u8R l (u8R l (u8R l (u8R l (grT l (nodR5 l) n.acl.length).2))))) n.words.length).1 = n.words from v12, f9, f8, f7, e6]
    rw [show textV l (nodR0 l) = n.path from v1, show (u8V l (nodR1 l) == 1) = n.dir from v2, show labV l (nodR2 l) = n.label from v3, show labV l (nodR3 l) = n.by_ from v4]
    rw [show ((u8V l (grT l (nodR5 l) n.acl.length).2 : Nat) : Int) = n.r1 from v7, show ((u8V l (u8R l (grT l (nodR5 l) n.acl.length).2) : Nat) : Int) = n.r2 from v8, show ((u8V l (u8R l (u8R l (grT l (nodR5 l) n.acl.length).2)) : Nat) : Int) = n.r3 from v9, show ((u8V l (u8R l (u8R l (u8R l (grT l (nodR5 l) n.acl.length).2))) : Nat) : Int) = n.gates from v10]
  · unfold nodR12
    rw [e12]
    exact s12
theorem nod_back (n : Nod) (h : n.Plain) : nodP (encN n) = n ∧ nodE (encN n) = 0 := by
  have := nod_read n h []
  rw [List.append_nil] at this
  obtain ⟨h1, h2⟩ := this
  have hE : nodE (encN n) = 0 := by
    unfold nodE endV
    have hp : (encN n).length ≤ (nodR12 (encN n)).p := by
      have := h2.d
      simpa using this
    rw [if_neg (fun q => by omega)]
    exact h2.e
  refine ⟨?_, hE⟩
  unfold nodP
  rw [if_pos hE]
  exact h1
theorem nod_more (n : Nod) (h : n.Plain) (c : UInt8) : nodE (encN n ++ [c]) = 9 := by
  obtain ⟨h1, h2⟩ := nod_read n h [c]
  unfold nodE endV
  rw [if_pos]
  refine ⟨h2.e, ?_⟩
  have hd := h2.d
  by_cases hp : (nodR12 (encN n ++ [c])).p < (encN n ++ [c]).length
  · exact hp
  · rw [List.drop_eq_nil_of_le (by omega)] at hd
    cases hd
/-! What is cut off. -/
def Cut (l : List UInt8) (k : Nat) (rc r : Rd) : Prop := (rc = r ∧ r.p ≤ k) ∨ rc.err = 8
theorem cut_u8 {l : List UInt8} {k : Nat} (hk : k ≤ l.length) {rc r : Rd} (h : Cut l k rc r) (hg : (u8R l r).err = 0) : Cut l k (u8R (l.take k) rc) (u8R l r) ∧ ((u8R (l.take k) rc).err = 0 → u8V (l.take k) rc = u8V l r) := by
  rcases h with ⟨rfl, hp⟩ | h
  · have h0 := err_of_bad (f := u8R l) u8R_bad hg
    have hlt : rc.p < l.length := by
      by_cases q : rc.p < l.length
      · exact q
      · unfold u8R at hg; rw [if_pos h0, if_neg q] at hg; cases hg
    have e1 : u8R l rc = ⟨rc.p + 1, 0⟩ := by unfold u8R; rw [if_pos h0, if_pos hlt]
    have hl : (l.take k).length = k := by rw [List.length_take]; omega
    by_cases hq : rc.p < k
    · have e2 : u8R (l.take k) rc = ⟨rc.p + 1, 0⟩ := by unfold u8R; rw [if_pos h0, if_pos (by omega)]
      refine ⟨.inl ⟨by rw [e1, e2], by rw [e1]; exact hq⟩, fun _ => ?_⟩
      unfold u8V
      rw [if_pos ⟨h0, by omega⟩, if_pos ⟨h0, hlt⟩, List.getD_eq_getElem?_getD, List.getD_eq_getElem?_getD, List.getElem?_take_of_lt hq]
    · have e2 : u8R (l.take k) rc = ⟨rc.p, 8⟩ := by unfold u8R; rw [if_pos h0, if_neg (by omega)]
      refine ⟨.inr (by rw [e2]), fun q => ?_⟩
      rw [e2] at q
      cases q
  · have hb : rc.err ≠ 0 := by rw [h]; decide
    rw [u8R_bad hb]
    exact ⟨.inr h, fun q => absurd q hb⟩
theorem cut_text {l : List UInt8} {k : Nat} (hk : k ≤ l.length) {rc r : Rd} (h : Cut l k rc r) (hg : (textR l r).err = 0) : Cut l k (textR (l.take k) rc) (textR l r) := by
  have h0 : (u8R l r).err = 0 := by
    by_cases h1 : (u8R l r).err = 0
    · exact h1
    · unfold textR at hg; rw [if_neg h1] at hg; exact hg
  obtain ⟨hc, hv⟩ := cut_u8 hk h h0
  have hp : (u8R l r).p + u8V l r ≤ l.length := by
    by_cases q : (u8R l r).p + u8V l r ≤ l.length
    · exact q
    · unfold textR at hg; rw [if_pos h0, if_neg q] at hg; cases hg
  have hl : (l.take k).length = k := by rw [List.length_take]; omega
  have e1 : textR l r = ⟨(u8R l r).p + u8V l r, 0⟩ := by unfold textR; rw [if_pos h0, if_pos hp]
  rcases hc with ⟨hc1, hc2⟩ | hc
  · have hv' := hv (by rw [hc1]; exact h0)
    by_cases hq : (u8R l r).p + u8V l r ≤ k
    · refine .inl ⟨?_, by rw [e1]; exact hq⟩
      rw [e1]
      unfold textR
      rw [hc1, hv', if_pos h0, if_pos (by omega)]
    · refine .inr ?_
      unfold textR
      rw [hc1, hv', if_pos h0, if_neg (by omega)]
  · refine .inr ?_
    unfold textR
    rw [if_neg (by rw [hc]; decide)]
    exact hc
theorem cut_dir {l : List UInt8} {k : Nat} (hk : k ≤ l.length) {rc r : Rd} (h : Cut l k rc r) (hg : (dirR l r).err = 0) : Cut l k (dirR (l.take k) rc) (dirR l r) := by
  obtain ⟨h1, h2, h3⟩ := dir_good hg
  obtain ⟨hc, hv⟩ := cut_u8 hk h h1
  rw [h3]
  rcases hc with ⟨hc1, hc2⟩ | hc
  · have hv' := hv (by rw [hc1]; exact h1)
    refine .inl ⟨?_, hc2⟩
    unfold dirR
    rw [hc1, hv', if_neg (fun q => by omega)]
  · refine .inr ?_
    unfold dirR
    rw [if_neg (fun q => by rw [hc] at q; cases q.1)]
    exact hc
theorem cut_lab {l : List UInt8} {k : Nat} (hk : k ≤ l.length) {rc r : Rd} (h : Cut l k rc r) (hg : (labR l r).err = 0) : Cut l k (labR (l.take k) rc) (labR l r) := by
  unfold labR at hg ⊢
  have h3 := err_of_bad (f := u8R l) u8R_bad hg
  have h2 := err_of_bad (f := u8R l) u8R_bad h3
  have h1 := err_of_bad (f := u8R l) u8R_bad h2
  exact (cut_u8 hk (cut_u8 hk (cut_u8 hk (cut_u8 hk h h1).1 h2).1 h3).1 hg).1
theorem cut_num {l : List UInt8} {k : Nat} (hk : k ≤ l.length) {rc r : Rd} (h : Cut l k rc r) (hg : (numR8 l r).err = 0) : Cut l k (numR8 (l.take k) rc) (numR8 l r) := by
  unfold numR8 at *
  have key : ∀ j, j ≤ 8 → Cut l k (numR (l.take k) rc j) (numR l r j) := fun j => by
    induction j with
    | zero => intro _; exact h
    | succ j ih =>
      intro hj
      exact (cut_u8 hk (ih (by omega)) (numR_good (k := 8) hg (i := j + 1) hj)).1
  exact key 8 (Nat.le_refl _)
theorem cut_grs {l : List UInt8} {k : Nat} (hk : k ≤ l.length) {rc r : Rd} (h : Cut l k rc r) (n : Nat) (hg : (grT l r n).2.err = 0) : Cut l k (grT (l.take k) rc n).2 (grT l r n).2 := by
  induction n with
  | zero => exact h
  | succ n ih =>
    have hn := grT_good hg (i := n) (by omega)
    have hc := ih hn
    have e : grT l r (n + 1) = ((grT l r n).1 ++ [⟨textV l (grT l r n).2, ((u8V l (textR l (grT l r n).2) : Nat) : Int)⟩], u8R l (textR l (grT l r n).2)) := by rw [grT, if_pos hn]
    rw [e] at hg ⊢
    have ht := err_of_bad (f := u8R l) u8R_bad hg
    by_cases h0 : (grT (l.take k) rc n).2.err = 0
    · rw [grT, if_pos h0]
      exact (cut_u8 hk (cut_text hk hc ht) hg).1
    · rw [grT, if_neg h0]
      rcases hc with ⟨hc1, _⟩ | hc
      · rw [hc1] at h0; exact absurd hn h0
      · exact .inr hc
theorem cut_wds {l : List UInt8} {k : Nat} (hk : k ≤ l.length) {rc r : Rd} (h : Cut l k rc r) (n : Nat) (hg : (wdT l r n).2.err = 0) : Cut l k (wdT (l.take k) rc n).2 (wdT l r n).2 := by
  induction n with
  | zero => exact h
  | succ n ih =>
    have hn := wdT_good hg (i := n) (by omega)
    have hc := ih hn
    have e : wdT l r (n + 1) = ((wdT l r n).1 ++ [numV l (wdT l r n).2], numR8 l (wdT l r n).2) := by rw [wdT, if_pos hn]
    rw [e] at hg ⊢
    by_cases h0 : (wdT (l.take k) rc n).2.err = 0
    · rw [wdT, if_pos h0]
      exact cut_num hk hc hg
    · rw [wdT, if_neg h0]
      rcases hc with ⟨hc1, _⟩ | hc
      · rw [hc1] at h0; exact absurd hn h0
      · exact .inr hc
theorem nod_cut {l : List UInt8} (h : nodE l = 0) {k : Nat} (hk : k < l.length) : nodE (l.take k) = 8 := by
  obtain ⟨h12, hlen⟩ := end_zero h
  have h11 : (nodR11 l).err = 0 := wdT_good (i := 0) h12 (Nat.zero_le _)
  have h10 : (nodR10 l).err = 0 := err_of_bad (f := u8R l) u8R_bad h11
  have h9 : (nodR9 l).err = 0 := err_of_bad (f := u8R l) u8R_bad h10
  have h8 : (nodR8 l).err = 0 := err_of_bad (f := u8R l) u8R_bad h9
  have h7 : (nodR7 l).err = 0 := err_of_bad (f := u8R l) u8R_bad h8
  have h6 : (nodR6 l).err = 0 := err_of_bad (f := u8R l) u8R_bad h7
  have h5 : (nodR5 l).err = 0 := grT_good (i := 0) h6 (Nat.zero_le _)
  have h4 : (nodR4 l).err = 0 := err_of_bad (f := u8R l) u8R_bad h5
  have h3 : (nodR3 l).err = 0 := err_of_bad (f := labR l) labR_bad h4
  have h2 : (nodR2 l).err = 0 := err_of_bad (f := labR l) labR_bad h3
  have h1 : (nodR1 l).err = 0 := err_of_bad (f := dirR l) dirR_bad h2
  have hk' : k ≤ l.length := by omega
  have c0 : Cut l k (nodR0 (l.take k)) (nodR0 l) := .inl ⟨rfl, Nat.zero_le _⟩
  have c1 : Cut l k (nodR1 (l.take k)) (nodR1 l) := cut_text hk' c0 h1
  have c2 : Cut l k (nodR2 (l.take k)) (nodR2 l) := cut_dir hk' c1 h2
  have c3 : Cut l k (nodR3 (l.take k)) (nodR3 l) := cut_lab hk' c2 h3
  have c4 : Cut l k (nodR4 (l.take k)) (nodR4 l) := cut_lab hk' c3 h4
  obtain ⟨c5, v5⟩ : Cut l k (nodR5 (l.take k)) (nodR5 l) ∧ ((nodR5 (l.take k)).err = 0 → u8V (l.take k) (nodR4 (l.take k)) = u8V l (nodR4 l)) := cut_u8 hk' c4 h5
  have c6 : Cut l k (nodR6 (l.take k)) (nodR6 l) := by
    by_cases h0 : (nodR5 (l.take k)).err = 0
    · have := cut_grs hk' c5 (u8V l (nodR4 l)) h6
      unfold nodR6 nodGs
      rw [v5 h0]
      exact this
    · rcases c5 with ⟨q, _⟩ | q
      · rw [q] at h0; exact absurd h5 h0
      · refine .inr ?_
        unfold nodR6 nodGs
        rw [grT_bad h0]
        exact q
  have c7 : Cut l k (nodR7 (l.take k)) (nodR7 l) := (cut_u8 hk' c6 h7).1
  have c8 : Cut l k (nodR8 (l.take k)) (nodR8 l) := (cut_u8 hk' c7 h8).1
  have c9 : Cut l k (nodR9 (l.take k)) (nodR9 l) := (cut_u8 hk' c8 h9).1
  have c10 : Cut l k (nodR10 (l.take k)) (nodR10 l) := (cut_u8 hk' c9 h10).1
  obtain ⟨c11, v11⟩ : Cut l k (nodR11 (l.take k)) (nodR11 l) ∧ ((nodR11 (l.take k)).err = 0 → u8V (l.take k) (nodR10 (l.take k)) = u8V l (nodR10 l)) := cut_u8 hk' c10 h11
  have c12 : Cut l k (nodR12 (l.take k)) (nodR12 l) := by
    by_cases h0 : (nodR11 (l.take k)).err = 0
    · have := cut_wds hk' c11 (u8V l (nodR10 l)) h12
      unfold nodR12 nodWs
      rw [v11 h0]
      exact this
    · rcases c11 with ⟨q, _⟩ | q
      · rw [q] at h0; exact absurd h11 h0
      · refine .inr ?_
        unfold nodR12 nodWs
        rw [wdT_bad h0]
        exact q
  rcases c12 with ⟨_, q⟩ | q
  · omega
  · unfold nodE endV
    rw [if_neg (fun z => by rw [q] at z; cases z.1)]
    exact q
/-- A node has as many bytes as its parts tell. -/
theorem encN_len (n : Nod) : (encN n).length = 1 + n.path.size + 1 + 8 + 1 + 4 + 1 + 8 * n.words.length + (n.acl.map fun g => 2 + g.u.size).sum := by
  unfold encN
  have h1 : (n.acl.flatMap encG).length = (n.acl.map fun g => 2 + g.u.size).sum := by
    rw [List.length_flatMap]
    congr 1
    refine List.map_congr_left fun g _ => ?_
    simp [encG, encT_len]
    omega
  have h2 : (n.words.flatMap encW).length = 8 * n.words.length := by
    induction n.words with
    | nil => rfl
    | cons x r ih => rw [List.flatMap_cons, List.length_append, encW_len, ih, List.length_cons]; omega
  simp [encT_len, encL_len, h1, h2]
  omega
end Go.Proofs.YtohocomemkckeaaDoor

/-! WHERE THE PARSE OF A NODE STANDS: the reader, the answer's block, the node's own block and its two rows. -/
namespace Go.Proofs.YtohocomemkckeaaDoor
open Go.RowKit
set_option maxRecDepth 8000
set_option linter.unusedSimpArgs false
set_option linter.unusedVariables false

def gcells (g : Gr) : List Value := [.string g.u, .int .i64 g.m]
def wcell (x : Int) : List Value := [.int .i64 x]
abbrev OwnW (w : World) (base : Nat) (v : Value) (l : List Int) : Prop := OwnR 2 1 wcell w base v l
theorem RowAt.grs {W : World} {a : Option Addr} {l : List Gr} (h : RowAt 2 gcells W a l) : GrsAt W a l := fun j q hq => by
  obtain ⟨y, hy, hc⟩ := h j q hq
  refine ⟨y, hy, hc 0 (by omega), ?_⟩
  have := hc 1 (by omega)
  rw [add_off _ _ _ (by omega)] at this
  exact this
theorem RowAt.wrds {W : World} {a : Option Addr} {l : List Int} (h : RowAt 1 wcell W a l) : WrdsAt W a l := fun j q hq => by
  obtain ⟨y, hy, hc⟩ := h j q hq
  have := hc 0 (by omega)
  rw [Nat.mul_one, Nat.add_zero] at this
  exact ⟨y, hy, this⟩
theorem GrsAt.row {W : World} {a : Option Addr} {l : List Gr} (h : GrsAt W a l) : RowAt 2 gcells W a l := fun j q hq => by
  obtain ⟨y, hy, h1, h2⟩ := h j q hq
  refine ⟨y, hy, fun i hi => ?_⟩
  rcases Nat.lt_succ_iff_lt_or_eq.1 hi with h0 | rfl
  · obtain rfl : i = 0 := by omega
    exact h1
  · rw [add_off _ _ _ (by omega)]
    exact h2
theorem WrdsAt.row {W : World} {a : Option Addr} {l : List Int} (h : WrdsAt W a l) : RowAt 1 wcell W a l := fun j q hq => by
  obtain ⟨y, hy, h1⟩ := h j q hq
  refine ⟨y, hy, fun i hi => ?_⟩
  obtain rfl : i = 0 := by omega
  rw [Nat.mul_one, Nat.add_zero]
  exact h1
theorem OwnR.rest {α : Type} {e : TypeId} {sz : Nat} {f : α → List Value} {w w' : World} {base g : Nat} {v : Value} {l : List α} (h : OwnR e sz f w base v l) (ht : Rest g w w') (hg : g < base) : OwnR e sz f w' base v l :=
  h.keep fun k hk => ht.block k (h.lt hk).2 (fun q => by have := (h.lt hk).1; injection q; omega)
theorem OwnR.set {α : Type} {e : TypeId} {sz : Nat} {f : α → List Value} {w : World} {base g j : Nat} {v u : Value} {l : List α} (h : OwnR e sz f w base v l) (hg : v.ownBlock ≠ some g) : OwnR e sz f (w.setCell ⟨g, j, none⟩ u) base v l :=
  h.keep fun k hk => heap_setCell_other _ ⟨g, j, none⟩ k _ (fun q => hg (by rw [hk, q]))
/-- A node's value, its two rows as values. -/
abbrev Nod.vv (n : Nod) (va vw : Value) : Value := .agg #[.string n.path, .bool n.dir, .int .i64 n.label.s, .int .i64 n.label.c, .int .i64 n.label.i, .int .i64 n.label.k, va, .int .i64 n.r1, .int .i64 n.r2, .int .i64 n.r3, .int .i64 n.gates, vw, .int .i64 n.by_.s, .int .i64 n.by_.c, .int .i64 n.by_.i, .int .i64 n.by_.k]
abbrev nzero : List Value := [.string ⟨#[]⟩, .bool false, .int .i64 0, .int .i64 0, .int .i64 0, .int .i64 0, .slice none 0 0, .int .i64 0, .int .i64 0, .int .i64 0, .int .i64 0, .slice none 0 0, .int .i64 0, .int .i64 0, .int .i64 0, .int .i64 0]
structure NSt (w W : World) (a : Option Addr) (n cap : Nat) (l : List UInt8) (r : Rd) (p : Nat) (cs : List Value) : Prop where
  ps : PSt w W a n cap l r nzero
  bk : Blk W p cs
  hp : w.heap.size + 2 ≤ p
  lt : p < W.heap.size
section
variable {w W W' : World} {a : Option Addr} {n cap p : Nat} {l : List UInt8} {r r' : Rd} {cs : List Value}
theorem NSt.call (h : NSt w W a n cap l r p cs) (hr : RdAt W' (w.heap.size + 1) a n cap l r') (ht : Rest (w.heap.size + 1) W W') : NSt w W' a n cap l r' p cs := by
  have hp := h.hp
  exact ⟨h.ps.call hr ht, h.bk.same (ht.block _ h.lt (fun q => by injection q; omega)), h.hp, Nat.lt_of_lt_of_le h.lt ht.size⟩
theorem NSt.past (h : NSt w W a n cap l r p cs) {q : Nat} (hq : p < q) (b : Below q W W') : NSt w W' a n cap l r p cs := by
  have hp := h.hp
  exact ⟨h.ps.past (by omega) b, h.bk.same (b.block _ hq), h.hp, Nat.lt_of_lt_of_le h.lt b.size⟩
theorem NSt.set (h : NSt w W a n cap l r p cs) (k : Nat) (v : Value) (hk : k < cs.length) : NSt w (W.setCell ⟨p, k, none⟩ v) a n cap l r p (cs.set k v) := by
  have hp := h.hp
  have b : Below p W (W.setCell ⟨p, k, none⟩ v) := (Below.refl _ _).setCell (p := ⟨p, k, none⟩) (Nat.le_refl _) _
  exact ⟨h.ps.past hp b, h.bk.set k v hk, h.hp, Nat.lt_of_lt_of_le h.lt b.size⟩
theorem NSt.err (h : NSt w W a n cap l r p cs) (e : Int) : NSt w (W.setCell ⟨w.heap.size + 1, 2, none⟩ (.int .i64 e)) a n cap l ⟨r.p, e⟩ p cs :=
  h.call (h.ps.rd.setE e) (Rest.set _ _ _ _)
theorem NSt.drew (h : NSt w W a n cap l r p cs) : NSt w W.drew a n cap l r p cs := h.call h.ps.rd.drew (Rest.refl _ _).drew
theorem nst_start {W : World} (h : PSt w W a n cap l r nzero) (x : ByteArray) (T : TypeId) (cs : Array Value) : NSt w (W.alloc (.cells cs T)) a n cap l r W.heap.size cs.toList := by
  have h2 := h.two
  exact ⟨h.past h2 (alloc_below _ _), blk_alloc W cs T, h2, by simp⟩
end
end Go.Proofs.YtohocomemkckeaaDoor

/-! PACKAGE node AS IT LANDED: what it writes behind bytes (addText, addDir, addLabel, addEight, addGrants, addWords). -/
namespace Go.Proofs.YtohocomemkckeaaDoor
open Go.RowKit
set_option maxRecDepth 8000
set_option linter.unusedSimpArgs false
set_option linter.unusedVariables false

set_option maxHeartbeats 1000000 in
theorem addText_any (base : Nat) (v : Value) (l : List UInt8) (s : ByteArray) (hs : s.size < 100000) (hl : l.length < 800000) (w : World) (hown : OwnB w base v l) (hb : base ≤ w.heap.size) :
    Calls Tryd.prog 50 #[v, .string s] w fun e w' => ∃ v', e = .returned v' ∧ OwnB w' base v' (l ++ encT s) ∧ Grew w v w' v' := by
  have hwr := wrap_u8 (s.size : Int)
  obtain ⟨v1, W1, ha1, ho1, hB1⟩ := append_made w base v l [lowB s.size] #[.int .u8 ((lowB s.size).toNat : Int)] rfl hown hb (by omega) (by simp)
  obtain ⟨v2, W2, ha2, ho2, hB2⟩ := append_text W1 base v1 (l ++ [lowB s.size]) s ho1 (Nat.le_trans hb hB1.by_.size) (by simp; omega) (by omega)
  rw [List.append_assoc] at ho2
  have hBn := hB1.trans hB2
  have hlen : ([lowB s.size] : List UInt8).length = 1 := rfl
  rw [hlen] at ha1
  have ho2 : OwnB W2 base v2 (l ++ encT s) := ho2
  go_enter Tryd.func50, Tryd.ntmps50
  go_wp2_with (first | (refine wpList_append_u8 rfl _ _ rfl rfl rfl rfl ha1 ?_) | (refine wpList_append_txt rfl _ _ rfl rfl rfl rfl ha2 ?_) | fail)
  go_ret
  exact ⟨_, rfl, ho2, hBn⟩
set_option maxHeartbeats 1000000 in
theorem addLabel_any (base : Nat) (v : Value) (l : List UInt8) (x : Lab) (hl : l.length < 800000) (w : World) (hown : OwnB w base v l) (hb : base ≤ w.heap.size) :
    Calls Tryd.prog 49 #[v, x.v] w fun e w' => ∃ v', e = .returned v' ∧ OwnB w' base v' (l ++ encL x) ∧ Grew w v w' v' := by
  obtain ⟨s, c, i, k⟩ := x
  have h1 := wrap_u8 s
  have h2 := wrap_u8 c
  have h3 := wrap_u8 i
  have h4 := wrap_u8 k
  have hB0 := alloc_below w (.cells #[.int .i64 s, .int .i64 c, .int .i64 i, .int .i64 k] 23)
  obtain ⟨v1, W1, ha1, ho1, hB1⟩ := append_made (w.alloc (.cells #[.int .i64 s, .int .i64 c, .int .i64 i, .int .i64 k] 23)) base v l (encL ⟨s, c, i, k⟩) #[.int .u8 ((lowB s).toNat : Int), .int .u8 ((lowB c).toNat : Int), .int .u8 ((lowB i).toNat : Int), .int .u8 ((lowB k).toNat : Int)] rfl (hown.below hB0) (by simp; omega) (by omega) (by simp [encL])
  have hBn := (Grew.alloc w v _).trans hB1
  rw [encL_len] at ha1
  rw [World.size_alloc] at ha1
  clear hB0
  go_enter Tryd.func49, Tryd.ntmps49
  go_wp2_with (first | (refine wpList_append_u8 rfl _ _ rfl rfl rfl rfl ha1 ?_) | fail)
  go_ret
  exact ⟨_, rfl, ho1, hBn⟩
theorem shr_byte (x : Int) (d : Nat) (hd : d ≤ 56) : IntKind.u8.wrap (x / 2 ^ d) = ((saltN x : Nat) : Int) / 2 ^ d % 256 := by
  rw [IntKind.wrap_u8]
  have hs : ((saltN x : Nat) : Int) = x % 18446744073709551616 := by unfold saltN; omega
  rw [hs]
  have hx := Int.mul_ediv_add_emod x 18446744073709551616
  have hp : (18446744073709551616 : Int) = 2 ^ d * (256 * 2 ^ (56 - d)) := by
    have : (2 : Int) ^ d * 2 ^ (56 - d) = 2 ^ 56 := by rw [← Int.pow_add]; congr 1; omega
    rw [show (2 : Int) ^ d * (256 * 2 ^ (56 - d)) = 256 * (2 ^ d * 2 ^ (56 - d)) by ac_rfl, this]
    rfl
  have hpos : (2 : Int) ^ d ≠ 0 := by
    have := Int.pow_pos (n := 2) (m := d) (by omega)
    omega
  have h1 : x / 2 ^ d = (256 * 2 ^ (56 - d)) * (x / 18446744073709551616) + (x % 18446744073709551616) / 2 ^ d := by
    have e : x = (x % 18446744073709551616) + 2 ^ d * ((256 * 2 ^ (56 - d)) * (x / 18446744073709551616)) := by
      rw [← Int.mul_assoc, ← hp]
      omega
    have := Int.add_mul_ediv_left (x % 18446744073709551616) ((256 * 2 ^ (56 - d)) * (x / 18446744073709551616)) hpos
    rw [← e] at this
    rw [this, Int.add_comm]
  rw [h1, Int.mul_assoc, Int.add_comm, Int.add_mul_emod_self_left]
set_option maxHeartbeats 2000000 in
theorem addEight_any (base : Nat) (v : Value) (l : List UInt8) (x : Int) (hl : l.length < 800000) (w : World) (hown : OwnB w base v l) (hb : base ≤ w.heap.size) :
    Calls Tryd.prog 48 #[v, .int .i64 x] w fun e w' => ∃ v', e = .returned v' ∧ OwnB w' base v' (l ++ encW x) ∧ Grew w v w' v' := by
  unfold encW
  have hs := saltN_lt x
  have hsx := shr_byte x
  obtain ⟨s, hse⟩ : ∃ s, saltN x = s := ⟨_, rfl⟩
  rw [hse] at hs hsx ⊢
  clear hse
  go_enter Tryd.func48, Tryd.ntmps48
  go_wp2_with fail
  go_loopw [0, 5] (fun t0 t5 wr => ∃ i : Nat, i ≤ 8 ∧ t5 = .int .i64 (56 - 8 * (i : Int)) ∧ OwnB wr base t0 (l ++ saltTo s i) ∧ Grew w v wr t0) (fun _ t5 _ => ((Go.RowKit.intOf t5) + 8).toNat)
  case atStart => exact ⟨0, by omega, rfl, by simpa [saltTo] using hown, Grew.refl _ _⟩
  case round =>
    obtain ⟨i, hi, rfl, ho, hB⟩ := hrel
    by_cases hlt : i < 8
    · have hlen := saltTo_len s i
      have hel : ((UInt8.ofNat (s / 2 ^ (8 * (7 - i)))).toNat : Int) = (s : Int) / 2 ^ (8 * (7 - i)) % 256 := by
        simp [UInt8.toNat_ofNat']
      obtain ⟨v2, W2, hap, ho2, hB2⟩ := append_made wr base u0 (l ++ saltTo s i) [UInt8.ofNat (s / 2 ^ (8 * (7 - i)))] #[.int .u8 ((s : Int) / 2 ^ (8 * (7 - i)) % 256)] (by rw [← hel]; rfl) ho (Nat.le_trans hb hB.by_.size) (by rw [List.length_append, hlen]; omega) (by simp)
      rw [List.append_assoc, ← saltTo_succ] at ho2
      have hBn : Grew w v W2 v2 := hB.trans hB2
      have h1 : ([UInt8.ofNat (s / 2 ^ (8 * (7 - i)))] : List UInt8).length = 1 := rfl
      rw [h1] at hap
      have hk := hsx (8 * (7 - i)) (by omega)
      clear hel hlen h1
      have hdd : (56 - 8 * (i : Int)) = ((8 * (7 - i) : Nat) : Int) := by omega
      go_wp2_with (first | (refine wpList_append_u8 rfl _ _ rfl rfl rfl rfl hap ?_) | fail)
      exact ⟨⟨i + 1, by omega, by simp; omega, ho2, hBn⟩, by simp [Go.RowKit.intOf]; omega⟩
    · obtain rfl : i = 8 := by omega
      go_wp2_with fail
      go_ret
      exact ⟨_, rfl, ho, hB⟩
end Go.Proofs.YtohocomemkckeaaDoor

/-! PACKAGE node AS IT LANDED: Encode, EncodeMessage, EncodeEntry. -/
namespace Go.Proofs.YtohocomemkckeaaDoor
open Go.RowKit
set_option maxRecDepth 8000
set_option linter.unusedSimpArgs false
set_option linter.unusedVariables false

set_option maxHeartbeats 4000000 in
theorem nencE_few (x : Ent) (hu : x.user.size < 256) (hj : x.object.size < 256) (w : World) :
    Calls Tryd.prog 34 #[x.v] w fun e w' => ∃ v', e = .returned v' ∧ OwnB w' w.heap.size v' (encE x) ∧ Below w.heap.size w w' := by
  have hS : EBox (w.alloc (.cells (ecells x) 26)) w.heap.size x := ebox_alloc w x _
  have hB : Below w.heap.size w (w.alloc (.cells (ecells x) 26)) := alloc_below _ _
  have hz : (w.alloc (.cells (ecells x) 26)).heap.size = w.heap.size + 1 := World.size_alloc _ _
  have wv := wrap_u8 x.verb
  have wd := wrap_u8 x.verdict
  unfold ecells at hS hB hz
  go_enter Tryd.func34, Tryd.ntmps34
  go_wp2_with fail
  generalize w.alloc (.cells #[.int .i64 x.seq, .int .i64 x.label.s, .int .i64 x.label.c, .int .i64 x.label.i, .int .i64 x.label.k, .string x.user, .int .i64 x.verb, .string x.object, .int .i64 x.verdict] 26) = W at *
  have hz0 : w.heap.size + 1 ≤ W.heap.size := by omega
  have ho0 : OwnB W (w.heap.size + 1) (.slice none 0 0) [] := ownB_nil _ _
  refine (addEight_any (w.heap.size + 1) _ [] x.seq (by simp) _ ho0 hz0).mono ?_
  rintro e W1 ⟨v1, rfl, ho1, hg1⟩
  have hb1 := hg1.ownB ho0 hz0
  have hS1 := hS.keep hb1
  have hz1 := Nat.le_trans hz0 hb1.size
  clear hS
  go_wp2_with fail
  refine (addLabel_any (w.heap.size + 1) _ ([] ++ encW x.seq) x.label (by simp [encW_len]) _ ho1 hz1).mono ?_
  rintro e W2 ⟨v2, rfl, ho2, hg2⟩
  have hb2 := hg2.ownB ho1 hz1
  have hS2 := hS1.keep hb2
  have hz2 := Nat.le_trans hz1 hb2.size
  clear hS1
  go_wp2_with fail
  refine (addText_any (w.heap.size + 1) _ (([] ++ encW x.seq) ++ encL x.label) x.user (by omega) (by simp [encW_len, encL_len]) _ ho2 hz2).mono ?_
  rintro e W3 ⟨v3, rfl, ho3, hg3⟩
  have hb3 := hg3.ownB ho2 hz2
  have hS3 := hS2.keep hb3
  have hz3 := Nat.le_trans hz2 hb3.size
  clear hS2
  obtain ⟨v4, W4, ha4, ho4, hg4⟩ := append_made W3 (w.heap.size + 1) v3 ((([] ++ encW x.seq) ++ encL x.label) ++ encT x.user) [lowB x.verb] #[.int .u8 ((lowB x.verb).toNat : Int)] rfl ho3 hz3 (by simp [encT_len, encW_len, encL_len]; omega) (by simp)
  have hb4 := hg4.ownB ho3 hz3
  have hS4 := hS3.keep hb4
  have hz4 := Nat.le_trans hz3 hb4.size
  rw [show ([lowB x.verb] : List UInt8).length = 1 from rfl] at ha4
  go_wp2_with (first | (refine wpList_append_u8 rfl _ _ rfl rfl rfl rfl ha4 ?_) | fail)
  clear hS3 ha4
  refine (addText_any (w.heap.size + 1) _ (((([] ++ encW x.seq) ++ encL x.label) ++ encT x.user) ++ [lowB x.verb]) x.object (by omega) (by simp [encT_len, encW_len, encL_len]; omega) _ ho4 hz4).mono ?_
  rintro e W5 ⟨v5, rfl, ho5, hg5⟩
  have hb5 := hg5.ownB ho4 hz4
  have hS5 := hS4.keep hb5
  have hz5 := Nat.le_trans hz4 hb5.size
  clear hS4
  obtain ⟨v6, W6, ha6, ho6, hg6⟩ := append_made W5 (w.heap.size + 1) v5 ((((([] ++ encW x.seq) ++ encL x.label) ++ encT x.user) ++ [lowB x.verb]) ++ encT x.object) [lowB x.verdict] #[.int .u8 ((lowB x.verdict).toNat : Int)] rfl ho5 hz5 (by simp [encT_len, encW_len, encL_len]; omega) (by simp)
  have hb6 := hg6.ownB ho5 hz5
  rw [show ([lowB x.verdict] : List UInt8).length = 1 from rfl] at ha6
  go_wp2_with (first | (refine wpList_append_u8 rfl _ _ rfl rfl rfl rfl ha6 ?_) | fail)
  go_ret
  refine ⟨_, rfl, ?_, ?_⟩
  · have := ho6.lower (Nat.le_succ w.heap.size)
    simpa [encE] using this
  · exact hB.trans (((((hb1.trans hb2).trans hb3).trans hb4).trans hb5).trans hb6 |>.mono (Nat.le_succ _))
theorem nencE_any (x : Ent) (hm : x.Plain) (w : World) :
    Calls Tryd.prog 34 #[x.v] w fun e w' => ∃ v', e = .returned v' ∧ OwnB w' w.heap.size v' (encE x) ∧ Below w.heap.size w w' := nencE_few x hm.u hm.o w
end Go.Proofs.YtohocomemkckeaaDoor

/-! PACKAGE audit AS IT LANDED (Chain, Seen), and all that the laws ask of it. -/
namespace Go.Proofs.YtohocomemkckeaaDoor
open Go.RowKit Go.ChangeMaps
set_option maxRecDepth 8000
set_option linter.unusedSimpArgs false
set_option linter.unusedVariables false

set_option maxRecDepth 8000 in
set_option maxHeartbeats 4000000 in
theorem achain_any {S : List Nat} {p : Addr} {st : List Ent} (t : Lab) (hGt : GL t) (w : World) (h : LogQ w S p st) (hst : AudSt st) : Calls Tryd.prog 21 #[.pointer (some p), t.v] w fun r w' => r = .returned (.int .u64 ((audChain st t : Nat) : Int)) ∧ Below w.heap.size w w' := by
  have hundL := Tryd.underlying23
  have hundE := Tryd.underlying26
  have hsl : (Tryd.prog.info? 23).map (·.size) = some 4 := by kernel_rfl
  have hse : (Tryd.prog.info? 26).map (·.size) = some 9 := by kernel_rfl
  have hb0 := blkl_alloc w (lab4 t).toArray 23
  have hB0 := alloc_below w (.cells (lab4 t).toArray 23)
  replace hb0 : BlkL w.heap.size (lab4 t) (w.alloc (.cells (lab4 t).toArray 23)) := hb0
  have ka := fun W (q : Below w.heap.size w W) => aall_any t hGt W (h.keep fun k hk => q.block k (h.lt k hk)) hst
  have kof := fun W => of_any 0 (by decide) ⟨#[]⟩ (by decide) W
  obtain ⟨C, hC⟩ : ∃ C, audChain st t = C := ⟨_, rfl⟩
  rw [hC]
  unfold audChain at hC
  have hs2 : ∀ e ∈ audAll st t, audMay e = 0 := fun e he => hst.ok e (List.mem_filter.1 he).1
  have hlA := hst.cnt t
  obtain ⟨R, hR⟩ : ∃ R, audAll st t = R := ⟨_, rfl⟩
  rw [hR] at ka hC hs2 hlA
  clear hR h
  have hlt := foldA_lt R
  obtain ⟨f, hf⟩ : ∃ f : Nat → Nat, f = fun i => (R.take i).foldl (fun h e => chain h (encE e)) (ofN 0 []) := ⟨_, rfl⟩
  have hf0 : f 0 = ofN 0 [] := by rw [hf]; rfl
  have hf1 : ∀ i x, R[i]? = some x → f (i + 1) = chain (f i) (encE x) := fun i x hx => by rw [hf]; exact fold_take hx
  have hfn : f R.length = C := by rw [hf]; show (R.take R.length).foldl _ _ = C; rw [List.take_length]; exact hC
  have hflt : ∀ i, f i < 18446744073709551616 := fun i => by rw [hf]; exact hlt i
  clear hf hlt hC
  replace kof : ∀ W, Calls Tryd.prog 32 #[.int .i64 0, .string ⟨#[]⟩] W fun e w' => e = .returned (.int .u64 ((f 0 : Nat) : Int)) ∧ Below W.heap.size W w' := fun W => by rw [hf0]; exact kof W
  obtain ⟨k, hk⟩ : ∃ k, R.length = k := ⟨_, rfl⟩
  rw [hk] at hfn hlA
  clear hf0
  replace hk : Aside (R.length = k) := hk
  replace hfn : Aside (f k = C) := hfn
  have hrs := hb0.range
  go_enter Tryd.func21, Tryd.ntmps21
  go_upto_region 1 with fail
  generalize w.alloc (.cells #[.int .i64 t.s, .int .i64 t.c, .int .i64 t.i, .int .i64 t.k] 23) = W0 at *
  go_wp2_with fail
  refine (kof W0).mono ?_
  rintro e W1 ⟨rfl, hB1⟩
  have hr1 := (stab_blk _ _ _ _ hb0 hB1).range
  have hB01 := Below.then hB0 hB1
  go_wp2_with (first | (refine wpList_load_row rfl _ rfl w.heap.size rfl (lab4 t) hr1 hundL rfl hsl ?_) | fail)
  refine (ka W1 hB01).mono ?_
  rintro e W2 ⟨v, rfl, ho, hB2⟩
  obtain ⟨ra, rc, rfl, -, -, hrow⟩ := ho.sl
  rw [hk.out]
  have hB02 := Below.then hB01 hB2
  clear ka kof hr1 hrs ho hB1 hB01 hB2 hb0
  go_wp2_with fail
  go_loopw [5, 13] (fun t5 t13 wr => ∃ i : Nat, i ≤ k ∧ t13 = .int .i64 (i : Int) ∧ t5 = .int .u64 ((f i : Nat) : Int) ∧ Below W2.heap.size W2 wr) (fun _ t13 _ => k - (Go.RowKit.intOf t13).toNat)
  case atStart => exact ⟨0, by omega, rfl, rfl, Below.refl _ _⟩
  case round =>
    obtain ⟨i, hi, rfl, rfl, hB⟩ := hrel
    by_cases hlt : i < k
    · obtain ⟨x, hx⟩ : ∃ x, R[i]? = some x := ⟨_, List.getElem?_eq_getElem (by rw [hk.out]; exact hlt)⟩
      obtain ⟨y, rfl, -⟩ := hrow i x hx
      have hrd := (hrow.below ent_ok.len hB).at ent_ok.len hx
      have hmx := hs2 x (List.mem_of_getElem? hx)
      obtain ⟨-, -, -, hu78, ho78, -, -⟩ := may_zero.1 hmx
      have hsm := may_small hmx
      have ke := fun W => nencE_few x (by omega) (by omega) W
      replace ke : ∀ W, Calls Tryd.prog 34 #[.agg (ecs x).toArray] W _ := ke
      have hfx := hf1 i x hx
      have hel := enc_len hsm
      have hfi := hflt i
      obtain ⟨B, hBe⟩ : ∃ B, encE x = B := ⟨_, rfl⟩
      rw [hBe] at hfx hel
      simp only [hBe] at ke
      obtain ⟨g, hg⟩ : ∃ g, f i = g := ⟨_, rfl⟩
      rw [hg] at hfx hfi ⊢
      have i1 : (i : Int) < (k : Int) := by omega
      clear hx hBe hg hmx hu78 ho78
      replace hfx : Aside _ := hfx
      obtain ⟨W3, hW3, hth3, hb3, hB3⟩ := put_new wr zE 26 (ecs x) rfl (by rw [ecs_len]; decide)
      have hr3 := hb3.range
      have hone := ent_one x
      go_wp2_with (first | (refine wpList_load_at rfl _ rfl (y.add (i * 9)) rfl (ecs x) hrd hundE rfl hse ?_) | (refine wpList_store_row rfl _ _ rfl wr.heap.size rfl (ecs x) rfl hth3 hse hone hW3 ?_) | (refine wpList_load_row rfl _ rfl wr.heap.size rfl (ecs x) hr3 hundE rfl hse ?_) | fail)
      refine (ke W3).mono ?_
      rintro e W4 ⟨v4, rfl, ho4, hB4⟩
      obtain ⟨ea, ec, rfl, hby⟩ := OwnB.slice ho4
      have kc := chain_any ea B B.length ec g hel hfi W4 hby
      obtain ⟨bl, hbl⟩ : ∃ bl, B.length = bl := ⟨_, rfl⟩
      rw [hbl] at kc ⊢
      clear ke ho4 hby hbl hth3 hr3 hW3 hb3
      have hB5 := Below.then (Below.then hB hB3) hB4
      go_wp2_with fail
      refine kc.mono ?_
      rintro e w6 ⟨rfl, hw6⟩
      have hB6 := Below.then hB5 hw6
      rw [← hfx.out]
      go_wp2_with fail
      exact ⟨⟨i + 1, by omega, by simp, rfl, hB6⟩, by simp [Go.RowKit.intOf]; omega⟩
    · obtain rfl : i = k := by omega
      have hfin := Below.then hB02 hB
      rw [hfn.out]
      go_wp2_with fail
      go_ret
      exact ⟨rfl, hfin⟩
theorem RngL.sameB {W W' : World} {b r clock c0 : Nat} {es : Array MapEntry} {seen : Array Nat} {dn : List MapEntry} {ss : List Lab} (h : RngL W b r es clock seen c0 dn ss) (h1 : W'.heap[b]? = W.heap[b]?) (h2 : W'.heap[r]? = W.heap[r]?) : RngL W' b r es clock seen c0 dn ss := ⟨h1.trans h.map, h2.trans h.it, h.c0, h.seen, h.sub, h.nod, h.keys⟩
theorem rangeS {W : World} {m : Option Nat} {st : List Ent} (h : MapS W m st) : ∃ o : Obj, (Instr.range 50 (.map m)).run Tryd.prog W = .ok (.pointer (some ⟨W.heap.size, 0, none⟩)) (W.alloc o) ∧ ((m = none ∧ st = [] ∧ o = .mapIter none 0 #[] 0) ∨ ∃ b es clock, m = some b ∧ W.heap[b]? = some (.map es clock) ∧ GEs es clock (shv st) (liv st) ∧ es.size ≤ st.length ∧ o = .mapIter (some b) clock #[] clock) := by
  obtain ⟨rfl, rfl⟩ | ⟨b, rfl, es, clock, h1, h2, h3⟩ := h
  · exact ⟨_, run_range_nilMap W _ _ _ und_s, .inl ⟨rfl, rfl, rfl⟩⟩
  · exact ⟨_, run_range_map W _ _ _ b es clock und_s h1, .inr ⟨b, es, clock, rfl, h1, h2, h3, rfl⟩⟩
theorem flat_le {st : List Ent} (h : ∀ t, (audAll st t).length ≤ 40) : ∀ (l : List Lab), (l.flatMap (audAll st)).length ≤ l.length * 40
  | [] => by simp
  | a :: l => by
    rw [List.flatMap_cons, List.length_append, List.length_cons]
    have := flat_le h l
    have := h a
    omega
theorem ov_rov {a b : Lab} (ha : GL a) (hb : GL b) : labEq (joinL a b) a = rov a b := by
  obtain ⟨A, rfl, okA⟩ := ha.nl
  obtain ⟨B, rfl, okB⟩ := hb.nl
  exact (rov_ov okA okB).symm
set_option maxRecDepth 8000 in
set_option maxHeartbeats 8000000 in
theorem aseen_any {S : List Nat} {p : Addr} {st : List Ent} (t : Lab) (hGt : GL t) (w : World) (h : LogQ w S p st) (hst : AudSt st) (hl : st.length ≤ 200) : Calls Tryd.prog 15 #[.pointer (some p), t.v] w fun r w' => ∃ v, r = .returned v ∧ TellE w' w.heap.size v (audSeen st t) ∧ Below w.heap.size w w' := by
  have hundL := Tryd.underlying23
  have hundE := Tryd.underlying26
  have hsl : (Tryd.prog.info? 23).map (·.size) = some 4 := by kernel_rfl
  have hse : (Tryd.prog.info? 26).map (·.size) = some 9 := by kernel_rfl
  have hb0 := blkl_alloc w (lab4 t).toArray 23
  have hB0 := alloc_below w (.cells (lab4 t).toArray 23)
  replace hb0 : BlkL w.heap.size (lab4 t) (w.alloc (.cells (lab4 t).toArray 23)) := hb0
  have ka := fun (y : Lab) (hy : GL y) W (q : Below w.heap.size w W) => aall_any y hy W (h.keep fun k hk => q.block k (h.lt k hk)) hst
  obtain ⟨g, m, rfl, hg, hm⟩ := h.get
  have hg0 := stab_blk _ _ _ _ hg hB0
  have hm0 := hm.below hB0
  have hml : ∀ b, m = some b → b < w.heap.size := fun b hb => by
    obtain ⟨q, -⟩ | ⟨b', q, hq⟩ := hm
    · rw [q] at hb; cases hb
    · rw [q] at hb; cases hb; exact hq.lt
  clear h hg hm
  go_enter Tryd.func15, Tryd.ntmps15
  go_upto_region 1 with fail
  generalize w.alloc (.cells #[.int .i64 t.s, .int .i64 t.c, .int .i64 t.i, .int .i64 t.k] 23) = W0 at *
  have hb5 := blkl_alloc W0 #[.slice none 0 0] 57
  have hB1 := alloc_below W0 (.cells #[.slice none 0 0] 57)
  go_upto_region 2 with fail
  have hz1 : (W0.alloc (.cells #[.slice none 0 0] 57)).heap.size = W0.heap.size + 1 := World.size_alloc _ _
  generalize W0.alloc (.cells #[.slice none 0 0] 57) = W1 at *
  replace hz1 : Aside (W1.heap.size = W0.heap.size + 1) := hz1
  have hg1 := stab_blk _ _ _ _ hg0 hB1
  have hm1 := hm0.below hB1
  have hc0 := (hg1.1 0 _ rfl).1
  obtain ⟨o, hrng, hcase⟩ := rangeS hm1
  have hBo := alloc_below W1 o
  have hro := (MapKept.heap_alloc W1 o).1
  have hnil := fun ty => run_next_nilMap (P := Tryd.prog) W1 ty 0 0 #[]
  clear hg0 hm0 hm1 hg1
  go_upto_block 0 with fail
  have hw0 : w.heap.size < W0.heap.size := hb0.2
  obtain ⟨W2, hW2⟩ : ∃ W2, W1.alloc o = W2 := ⟨_, rfl⟩
  rw [hW2] at hBo hro ⊢
  clear hc0 hrng
  obtain ⟨r, hr1⟩ : ∃ r, W1.heap.size = r := ⟨_, rfl⟩
  have hB2 : Below W0.heap.size W0 W2 := Below.then hB1 hBo
  have hb52 := stab_blk _ _ _ _ hb5 hBo
  have hz2 : W2.heap.size = r + 1 := by rw [← hW2, ← hr1]; exact World.size_alloc _ _
  go_cut [] from 6 (fun wc => ∃ (v : Value) (xs : List Lab), BlkL W0.heap.size [v] wc ∧ OwnR 23 4 lrow wc (W0.heap.size + 1) v xs ∧ xs.Nodup ∧ (∀ x, x ∈ xs ↔ (audAll st x ≠ [] ∧ rov t x = true)) ∧ (∀ x ∈ xs, GL x) ∧ xs.length ≤ 200 ∧ Below W0.heap.size W0 wc)
  case first =>
    rcases hcase with ⟨rfl, rfl, rfl⟩ | ⟨b, es, clock, rfl, hbm, hC, hes, rfl⟩
    · rw [hW2] at hnil
      rw [hr1] at hnil ⊢
      go_wp2_with fail
      go_loopw [6] (fun _ wr => wr = W2) (fun _ _ => 0)
      case atStart => exact rfl
      case round =>
        subst hrel
        go_wp2_with fail
        go_meet
        exact ⟨_, [], hb52, OwnR.nil _ _ _ _ _, List.nodup_nil, fun x => ⟨(fun q => by cases q), fun q => absurd rfl q.1⟩, (fun x q => by cases q), Nat.zero_le _, hB2⟩
    · have hbw := hml b rfl
      have hbl : b < r := by rw [← hr1]; exact (Array.getElem?_eq_some_iff.1 hbm).1
      rw [hr1] at hro ⊢
      have hbm2 : W2.heap[b]? = some (.map es clock) := (hBo.block b (by rw [hr1]; exact hbl)).trans hbm
      clear hnil hW2 hbm
      have hst0 : RngL W2 b r es clock #[] clock [] [] := ⟨hbm2, hro, Nat.le_refl _, rfl, (fun e he => by cases he), List.nodup_nil, rfl⟩
      clear hbm2 hro
      go_wp2_with fail
      go_loopw [6] (fun _ wr => ∃ (seen : Array Nat) (c0 : Nat) (dn : List MapEntry) (ss : List Lab) (v : Value), RngL wr b r es clock seen c0 dn ss ∧ BlkL W0.heap.size [v] wr ∧ OwnR 23 4 lrow wr (r + 1) v (ss.filter fun x => rov t x) ∧ Below W0.heap.size W0 wr) (fun _ wr => st.length - seenN wr r)
      case atStart => exact ⟨_, _, _, _, _, hst0, hb52, OwnR.nil _ _ _ _ _, hB2⟩
      case round =>
        obtain ⟨seen, c0, dn, ss, v, hr, hv5, ho, hB⟩ := hrel
        have hrb : r ≠ b := by omega
        have hW0r : W0.heap.size < r := by rw [← hr1, hz1.out]; exact Nat.lt_succ_self _
        have hrl : r < wr.heap.size := (Array.getElem?_eq_some_iff.1 hr.it).1
        have hwr5 := hv5.2
        rcases run_next_at (P := Tryd.prog) wr 0 r b clock c0 seen es clock hr.it hr.map (fun x hx => hC.born x hx) hr.c0 with ⟨hz, hnx⟩ | ⟨e, he, w1, hw1, hnx⟩
        · have hfin := hr.doneG hC hes hz
          have hmem : ∀ x, x ∈ ss.filter (fun x => rov t x) ↔ (audAll st x ≠ [] ∧ rov t x = true) := fun x => by
            rw [List.mem_filter, hfin.mem, liv_iff]
          have hgood : ∀ x ∈ ss.filter (fun x => rov t x), GL x := fun x hx => hfin.good x (List.mem_filter.1 hx).1
          have hlen : (ss.filter (fun x => rov t x)).length ≤ 200 := Nat.le_trans (List.length_filter_le _ _) (Nat.le_trans hfin.len hl)
          have hnod := hfin.nod.filter (fun x => rov t x)
          have ho2 := ho.lower (b := W0.heap.size + 1) (by omega)
          clear hfin hr hC hz
          go_wp2_with fail
          go_meet
          exact ⟨v, _, hv5, ho2, hnod, hmem, hgood, hlen, hB⟩
        · have hee : e ∈ es.toList := by
            unfold leftOf at he
            simp at he
            simpa using he.1
          obtain ⟨x, hGx, hk, hv, hlv⟩ := hC.ent e hee
          have hw1h : w1.heap = wr.heap := by rcases hw1 with rfl | rfl <;> rfl
          have hw1B : Below wr.heap.size wr w1 := by rcases hw1 with rfl | rfl
                                                     · exact Below.refl _ _
                                                     · exact (Below.refl _ _).drew
          obtain ⟨W3, hW3⟩ : ∃ W3, setBlock w1 r (.mapIter (some b) clock (seen.push e.born) clock) = W3 := ⟨_, rfl⟩
          rw [hW3, hk] at hnx
          have hk3 : ∀ k, k ≠ r → W3.heap[k]? = wr.heap[k]? := fun k hkr => by rw [← hW3, ← hw1h]; simp [setBlock, Array.getElem?_setIfInBounds, Ne.symm hkr]
          have h3r : W3.heap[r]? = some (.mapIter (some b) clock (seen.push e.born) clock) := by rw [← hW3]; simp [setBlock, Array.getElem?_setIfInBounds, hw1h, hrl]
          have hs3 : W3.heap.size = wr.heap.size := by rw [← hW3]; simp [setBlock, hw1h]
          have hB3 : Below W0.heap.size W0 W3 := by
            refine ⟨?_, ?_, ?_, by rw [hs3]; exact hB.size, fun k hk0 => (hk3 k (by omega)).trans (hB.block k hk0)⟩
            · rw [← hW3]; exact hw1B.os.trans hB.os
            · rw [← hW3]; exact hw1B.tape.trans hB.tape
            · rw [← hW3]; exact hw1B.output.trans hB.output
          have hr3 := hr.next he hk hrb (hk3 b (Ne.symm hrb)) h3r
          have hv3 : BlkL W0.heap.size [v] W3 := hv5.keep (hk3 _ (by omega))
          have ho3 : OwnR 23 4 lrow W3 (r + 1) v (ss.filter fun x => rov t x) := ho.keep fun k hk0 => hk3 k (by have := (ho.lt hk0).1; omega)
          have hen := run_entry_at (P := Tryd.prog) W3 r b clock seen es clock e h3r ((hk3 b (Ne.symm hrb)).trans hr.map) hee hC.nod
          rw [hk] at hen
          have hlen := hr3.few
          simp only [List.length_append, List.length_cons, List.length_nil] at hlen
          have hsn := hr.seenN
          have hov := ov_rov hGt hGx
          have kv := lover_any t x
          rw [hov] at kv
          have hb4 := blkl_alloc W3 (lab4 x).toArray 23
          have hB4 := alloc_below W3 (.cells (lab4 x).toArray 23)
          replace hb4 : BlkL W3.heap.size (lab4 x) (W3.alloc (.cells (lab4 x).toArray 23)) := hb4
          have hfs := List.filter_append (p := fun x => rov t x) (l₁ := ss) (l₂ := [x])
          clear hr he hee hw1 hw1h hW3 h3r hv5 ho hB hv hk hlv hw1B hov
          have hr3l : r < W3.heap.size := by rw [hs3]; exact hrl
          replace hs3 : Aside (W3.heap.size = wr.heap.size) := hs3
          go_upto_region 5 with fail
          generalize W3.alloc (.cells #[.int .i64 x.s, .int .i64 x.c, .int .i64 x.i, .int .i64 x.k] 23) = W4 at *
          have hB04 := Below.then hB3 hB4
          have hrt := (stab_blk _ _ _ _ hb0 hB04).range
          have hrx := hb4.range
          clear hnx hen
          go_wp2_with (first | (refine wpList_load_row rfl _ rfl w.heap.size rfl (lab4 t) hrt hundL rfl hsl ?_) | (refine wpList_load_row rfl _ rfl W3.heap.size rfl (lab4 x) hrx hundL rfl hsl ?_) | fail)
          refine (kv W4).mono ?_
          rintro e5 W5 ⟨rfl, hB5⟩
          have hB05 := Below.then hB04 hB5
          have hB35 := Below.then hB4 hB5
          have hr5 := hr3.sameB (hB35.block b (by omega)) (hB35.block r hr3l)
          have hv5 := stab_blk _ _ _ _ hv3 hB35
          have ho5 := ho3.below hB35
          have hbx5 := stab_blk _ _ _ _ hb4 hB5
          have hr5l : r + 1 ≤ W5.heap.size := Nat.le_trans hr3l hB35.size
          have hflen : (ss.filter fun x => rov t x).length ≤ ss.length := List.length_filter_le _ _
          clear hrt hrx kv hB04 hB4 hB5 hb4 hr3 hv3 ho3 hB3
          cases hq : rov t x
          · have hf2 : (ss ++ [x]).filter (fun x => rov t x) = ss.filter (fun x => rov t x) := by rw [hfs]; simp [hq]
            rw [← hf2] at ho5
            clear hf2 hfs
            go_wp2_with fail
            exact ⟨⟨_, _, _, _, v, hr5, hv5, ho5, hB05⟩, by rw [hr5.seenN, hsn]; simp; omega⟩
          · have hf2 : (ss ++ [x]).filter (fun x => rov t x) = ss.filter (fun x => rov t x) ++ [x] := by rw [hfs]; simp [hq]
            obtain ⟨v2, W6, hap, ho6, hg6⟩ := OwnR.push lab_ok ho5 hr5l x (lab4 x).toArray rfl 23 (by omega)
            have hB6 := ho5.grew_below hr5l hg6
            rw [← hf2] at ho6
            obtain ⟨a2, c2, hv2, -, -, -⟩ := OwnR.slice lab_ok.len ho6
            generalize ((ss ++ [x]).filter fun x => rov t x).length = n2 at hv2
            subst hv2
            have hv6 : BlkL W0.heap.size [v] W6 := hv5.keep (hB6.block _ (by omega))
            have hr6 := hr5.sameB (hB6.block b (by omega)) (hB6.block r (Nat.lt_succ_self _))
            have hB06 : Below W0.heap.size W0 W6 := hB05.trans (hB6.mono (by omega))
            have hc5 := (hv5.1 0 _ rfl).1
            have hc6 := (hv6.1 0 _ rfl).1
            have hf6 := (hv6.1 0 _ rfl).2
            have hrx := hbx5.range
            obtain ⟨W7, hW7⟩ : ∃ W7, W6.setCell ⟨W0.heap.size, 0, none⟩ (.slice a2 n2 c2) = W7 := ⟨_, rfl⟩
            have hk7 : ∀ k, k ≠ W0.heap.size → W7.heap[k]? = W6.heap[k]? := fun k hk0 => by rw [← hW7]; exact heap_setCell_other W6 ⟨W0.heap.size, 0, none⟩ k _ hk0
            have hv7 : BlkL W0.heap.size [.slice a2 n2 c2] W7 := by rw [← hW7]; exact ⟨hv6.1.set 0 _ (by simp), by simpa using hv6.2⟩
            have hr7 := hr6.sameB (hk7 b (by omega)) (hk7 r (by omega))
            have ho7 : OwnR 23 4 lrow W7 (r + 1) (.slice a2 n2 c2) ((ss ++ [x]).filter fun x => rov t x) := ho6.keep fun k hk0 => hk7 k (by have := (ho6.lt hk0).1; omega)
            have hB07 : Below W0.heap.size W0 W7 := by rw [← hW7]; exact hB06.setCell (p := ⟨W0.heap.size, 0, none⟩) (Nat.le_refl _) _
            clear hr5 hv5 ho5 hB05 hr6 hv6 ho6 hB06 hk7 hf2 hfs hg6 hB6 hbx5
            go_wp2_with (first | (refine wpList_load_row rfl _ rfl W3.heap.size rfl (lab4 x) hrx hundL rfl hsl ?_) | (refine wpList_build1 lab_ok (by decide) rfl _ rfl (lab4 x) rfl rfl ?_) | (refine wpList_append rfl _ _ rfl rfl rfl rfl hap ?_) | fail)
            (try rw [hW7])
            exact ⟨⟨_, _, _, _, .slice a2 n2 c2, hr7, hv7, ho7, hB07⟩, by rw [hr7.seenN, hsn]; simp; omega⟩
  case rest =>
    clear hcase hnil hBo hro hW2 hB2 hb52 hz2 hb5 hB1 hz1 hr1 hml
    obtain ⟨v, xs, hv5, ho, hnod, hmem, hgood, hlen, hB⟩ := hcut
    have hbs : some W0.heap.size ≠ v.ownBlock := fun q => by have := (ho.lt q.symm).1; omega
    have ks := lsort_any v xs W0.heap.size _ wc ho hv5 hbs (by omega)
    have hvt : ∀ k ∈ v.ownBlock.toList, W0.heap.size < k := fun k hk => by
      simp at hk
      exact (ho.lt hk).1
    have hcv := (hv5.1 0 _ rfl).1
    go_wp2_with fail
    refine ks.mono ?_
    rintro e W8 ⟨rfl, ys, a, c, hperm, hsort, rfl, hrow, hT⟩
    have hv8 := hT.blk hv5 (fun q => by have := hvt _ q; omega)
    have hB8 : Below W0.heap.size W0 W8 := hB.trans (hT.below (fun k hk => Nat.le_of_lt (hvt k hk)) hB.size)
    have hys : ys.flatMap (audAll st) = audSeen st t := seen_flat hst.sort (hperm.nodup_iff.2 hnod) hsort (fun x => hperm.mem_iff.trans (hmem x))
    have hgy : ∀ y ∈ ys, GL y := fun y hy => hgood y (hperm.mem_iff.1 hy)
    have hyl : ys.length ≤ 200 := by rw [hperm.length_eq]; exact hlen
    have hcnt := hst.cnt
    have hB08 := Below.then hB0 hB8
    clear ks hvt hcv hT hperm hsort hnod hmem hgood hlen hB hbs ho hv5 hst hB8
    replace hys : Aside (ys.flatMap (audAll st) = audSeen st t) := hys
    have hc8 := (hv8.1 0 _ rfl).1
    obtain ⟨n, hn⟩ : ∃ n, ys.length = n := ⟨_, rfl⟩
    rw [hn] at hc8 hyl
    replace hn : Aside (ys.length = n) := hn
    clear hv8
    go_wp2_with fail
    clear hc8
    go_loopw [7, 32] (fun t7 t32 wr => ∃ (i : Nat) (u : Value), i ≤ n ∧ t32 = .int .i64 (i : Int) ∧ u = t7 ∧ OwnE wr W8.heap.size u ((ys.take i).flatMap (audAll st)) ∧ Below W8.heap.size W8 wr) (fun _ t32 _ => n - (Go.RowKit.intOf t32).toNat)
    case atStart => exact ⟨0, _, by omega, rfl, rfl, OwnR.nil _ _ _ _ _, Below.refl _ _⟩
    case round =>
      obtain ⟨i, u, hi, rfl, rfl, ho, hB⟩ := hrel
      by_cases hlt : i < n
      · obtain ⟨y, hy⟩ : ∃ y, ys[i]? = some y := ⟨_, List.getElem?_eq_getElem (by rw [hn.out]; exact hlt)⟩
        obtain ⟨ya, rfl, -⟩ := hrow i y hy
        have hrd := (hrow.below lab_ok.len hB).at lab_ok.len hy
        replace hrd : CellsAt wr (ya.add (i * 4)) (lab4 y) := hrd
        have hGy := hgy y (List.mem_of_getElem? hy)
        have hstep : (ys.take (i + 1)).flatMap (audAll st) = (ys.take i).flatMap (audAll st) ++ audAll st y := by rw [List.take_add_one, hy]; simp
        have hflat : ((ys.take i).flatMap (audAll st)).length ≤ 8000 := by
          have := flat_le hcnt (ys.take i)
          have h2 : (ys.take i).length ≤ 200 := by rw [List.length_take]; omega
          omega
        have hc40 := hcnt y
        have i1 : (i : Int) < (n : Int) := by omega
        have hb4 := blkl_alloc wr (lab4 y).toArray 23
        have hB4 := alloc_below wr (.cells (lab4 y).toArray 23)
        replace hb4 : BlkL wr.heap.size (lab4 y) (wr.alloc (.cells (lab4 y).toArray 23)) := hb4
        have hr4 := hb4.range
        have ky := ka y hGy (wr.alloc (.cells (lab4 y).toArray 23)) (Below.then (Below.then hB08 hB) hB4)
        clear hy hb4
        replace hstep : Aside _ := hstep
        go_upto_region 12 with (first | (refine wpList_load_at rfl _ rfl (ya.add (i * 4)) rfl (lab4 y) hrd hundL rfl hsl ?_) | fail)
        generalize wr.alloc (.cells #[.int .i64 y.s, .int .i64 y.c, .int .i64 y.i, .int .i64 y.k] 23) = W4 at *
        go_wp2_with (first | (refine wpList_load_row rfl _ rfl wr.heap.size rfl (lab4 y) hr4 hundL rfl hsl ?_) | fail)
        refine ky.mono ?_
        rintro e W5 ⟨vv, rfl, htell, hB5⟩
        obtain ⟨ta, tc, rfl, ht1, ht2, ht3⟩ := htell.sl
        have hBr5 := Below.then hB4 hB5
        have ho5 := ho.below hBr5
        have hBW := Below.then hB hBr5
        obtain ⟨v2, W6, hap, ho6, hg6⟩ := OwnR.append_any ent_ok ho5 hBW.size ta (audAll st y).length tc (audAll st y) rfl ht3 (fun q => by have := ht2 q; exact ⟨this, by omega⟩) (by omega) (by omega)
        have hb6 := ho5.grew_below hBW.size hg6
        have hBf := hBW.trans hb6
        rw [← hstep.out] at ho6
        clear ho ho5 hg6 hb6 hBW hBr5 hB5 hB4 htell ht1 ht2 ht3 hrd hr4 ky
        go_wp2_with (first | (refine wpList_append rfl _ _ rfl rfl rfl rfl hap ?_) | fail)
        exact ⟨⟨i + 1, v2, by omega, by simp, rfl, ho6, hBf⟩, by simp [Go.RowKit.intOf]; omega⟩
      · obtain rfl : i = n := by omega
        have htk : ys.take i = ys := List.take_of_length_le (by rw [hn.out]; exact Nat.le_refl _)
        rw [htk, hys.out] at ho
        have hw8 := hB08.size
        have ho3 := tell_own (ho.lower (b := w.heap.size) hw8)
        have hfin := Below.then hB08 hB
        clear ho
        go_wp2_with fail
        go_ret
        exact ⟨_, rfl, ho3, hfin⟩
/-- All that the laws ask of package audit. -/
theorem logOk : LogOk (fun w => Tab w ∧ Vb w) LogQ where
  keep := fun h k => h.keep k
  lt := fun h => h.lt
  new := fun w _ => anew_any w
  add := fun e _ w _ h hst _ => aadd_any e w h hst
  full := fun t hG w _ h hst _ => afull_any t hG w h hst
  all := fun t hG w _ h hst _ => aall_any t hG w h hst
  seen := fun t hG w _ h hst hl => aseen_any t hG w h hst hl
  chain := fun t hG w _ h hst _ => achain_any t hG w h hst
  text := fun e hm hq w hI => atext_any e hm hq w hI.1 hI.2
end Go.Proofs.YtohocomemkckeaaDoor

/-! ENTRIES AND LABELS THAT CAME IN; THE TABLES THAT audit.Text READS, AS THE LISTED VARIABLES GIVE THEM; a row's frame that keeps the shape and the sizes. -/
namespace Go.Proofs.YtohocomemkckeaaDoor
open Go.ChangeShapes Go.WideShapes Go.ChangeAt Go.RowKit
set_option maxRecDepth 8000
set_option linter.unusedVariables false
set_option linter.unusedSimpArgs false

/-- What an entry that came in has. -/
structure Ent.Fits (e : Ent) : Prop where
  q : -9223372036854775808 ≤ e.seq ∧ e.seq ≤ 9223372036854775807
  u : e.user.size ≤ 9223372036854775807
  o : e.object.size ≤ 9223372036854775807
section
variable {H : Type} {enc : TypeId × Value → H} {W : World}
theorem undEnA : Tryd.prog.underlying 26 = some (.struct (Tryd.prog.fieldsOf 26)) := by kernel_rfl
theorem cEnA : Tryd.prog.cellsOf 26 = 9 := by kernel_rfl
theorem cErA : Tryd.prog.cellsOf 24 = 1 := by kernel_rfl
theorem reads_ent {base : Nat} {sp : Nat → Bool} {held : Bool} : Reads enc W base sp held 26 fun cs => ∃ e : Ent, cs = ecs e ∧ e.Fits := fun fu cs x h => by
  have hl := struct_len undEnA cEnA h
  obtain ⟨q, e0, w0⟩ := read_field (i := 0) (ty := 3) (off := 0) undEnA (by kernel_rfl) cInt (reads_int Tryd.underlying3) h
  obtain ⟨la, e1, _⟩ := read_field (i := 1) (ty := 23) (off := 1) undEnA (by kernel_rfl) cLab reads_lab h
  obtain ⟨u, e2, w2⟩ := read_field (i := 2) (ty := 9) (off := 5) undEnA (by kernel_rfl) cStr (reads_string Tryd.underlying9) h
  obtain ⟨vb, e3, w3⟩ := read_field (i := 3) (ty := 3) (off := 6) undEnA (by kernel_rfl) cInt (reads_int Tryd.underlying3) h
  obtain ⟨o, e4, w4⟩ := read_field (i := 4) (ty := 9) (off := 7) undEnA (by kernel_rfl) cStr (reads_string Tryd.underlying9) h
  obtain ⟨vd, e5, w5⟩ := read_field (i := 5) (ty := 24) (off := 8) undEnA (by kernel_rfl) cErA (reads_int Tryd.underlying24) h
  match cs, hl with
  | [v0, v1, v2, v3, v4, v5, v6, v7, v8], _ =>
    simp [lcells] at e0 e1 e2 e3 e4 e5
    obtain ⟨rfl, rfl, rfl, rfl⟩ := e1
    subst e0 e2 e3 e4 e5
    exact ⟨⟨q, la, u, vb, o, vd⟩, rfl, int_fits w0, w2, w4⟩
theorem open_ent {r : Reach} {b0 base : Nat} {sp : Nat → Bool} {held : Bool} {v : Value} {d : DataW H} {p : List MemPlace} (hv : Value.okWide Tryd.prog W r b0 26 v) (h : DataW.Trod enc Tryd.prog W base sp held 26 v d p) : ∃ e : Ent, v = .agg (ecs e).toArray ∧ e.Fits := by
  obtain ⟨cs, rfl, m, rfl, hs⟩ := open_struct undEnA reads_ent hv h
  exact ⟨m, rfl, hs⟩
theorem open_ents {n : Nat} {a : Option Addr} {len cap : Nat} {x : DataW H × List MemPlace} (h : DataW.trod enc Tryd.prog W 0 (fun _ => true) true n 34 [.slice a len cap] = some x) : ∃ l : List Ent, l.length = len ∧ RowE W a l ∧ ∀ e ∈ l, e.Fits := by
  obtain ⟨l, hl, hc, hf, _⟩ := open_rows (f := ecs) (q := Ent.Fits) Tryd.underlying34 cEnA reads_ent h
  exact ⟨l, hl, hc, hf⟩
theorem open_labs {n : Nat} {a : Option Addr} {len cap : Nat} {x : DataW H × List MemPlace} (h : DataW.trod enc Tryd.prog W 0 (fun _ => true) true n 57 [.slice a len cap] = some x) : ∃ l : List Lab, l.length = len ∧ RowAt 4 lcells W a l := by
  obtain ⟨l, hl, hc, hf, _⟩ := open_rows (f := lcells) (q := Lab.fits) Tryd.underlying57 cLab reads_lab h
  exact ⟨l, hl, hc⟩
theorem undLbA : Tryd.prog.underlying 23 = some (.struct (Tryd.prog.fieldsOf 23)) := by kernel_rfl
theorem open_labA {r : Reach} {b0 : Nat} {v : Value} {d : DataW H} {p : List MemPlace} (hv : Value.okWide Tryd.prog W r b0 23 v) (h : DataW.Trod enc Tryd.prog W 0 (fun _ => true) true 23 v d p) : ∃ l : Lab, v = l.v := by
  obtain ⟨cs, rfl, l, rfl, _⟩ := open_struct undLbA reads_lab hv h
  exact ⟨l, rfl⟩
end
/-! The listed variables. -/
theorem tab_datum : (Rows.laid_internal_strconv_uint64pow10 : DataW Unit) = Lib.tabData .u64 Lib.pow10Tab := by kernel_rfl
theorem tabN : Tryd.prog.globalNamed "internal/strconv.uint64pow10" = some 2 := by kernel_rfl
theorem tabT : (Tryd.prog.globals[2]?).map (·.type) = some 127 := by kernel_rfl
theorem tabU : Tryd.prog.underlying 127 = some (.array 20 41) := by kernel_rfl
theorem tabE : Tryd.prog.underlying 41 = some (.int .u64) := by kernel_rfl
theorem tabC : Tryd.prog.cellsOf 41 = 1 := by kernel_rfl
theorem tabS : Tryd.prog.cellsOf 127 = 20 := by kernel_rfl
theorem tab_head {rest : List (String × DataW Unit)} {W : World} (h : laidMet Tryd.prog (("internal/strconv.uint64pow10", Rows.laid_internal_strconv_uint64pow10) :: rest) W) : Tab W := by
  rw [tab_datum] at h
  exact Lib.tabIs_of_head tabN tabT tabU tabE tabC tabS h
/-- A table of texts, as a row lists it. -/
def strData {H : Type} (zs : List (List UInt8)) : DataW H := .agg (zs.map fun z => .lit (.string z))
theorem cells_of_strs {H : Type} {enc : TypeId × Value → H} {P : Program} {w : World} {base : Nat} {sp : Nat → Bool} {held : Bool} {fuel : Nat} {t e : TypeId} {n : Nat} {cs : List Value} {zs : List (List UInt8)} {p : List MemPlace}
    (ht : P.underlying t = some (.array n e)) (he : P.underlying e = some .string) (hce : P.cellsOf e = 1) (hct : P.cellsOf t = n)
    (h : DataW.trod enc P w base sp held fuel t cs = some (strData zs, p)) : cs = zs.map fun z => Value.string ⟨z.toArray⟩ := by
  cases fuel with
  | zero => simp [DataW.trod] at h
  | succ fuel =>
    simp only [DataW.trod, ht, hce, hct, Nat.mul_one] at h
    split at h
    · rename_i hl
      obtain ⟨xs, hm, hx⟩ := Option.map_eq_some_iff.1 h
      have hxs : xs.map (·.1) = zs.map fun z => (DataW.lit (.string z) : DataW H) := by
        have := congrArg Prod.fst hx
        simpa [strData] using this
      have hxl : xs.length = n := by simpa using Lib.mapM_length hm
      have hzl : zs.length = n := by
        have := congrArg List.length hxs
        simp at this
        omega
      apply List.ext_getElem?
      intro i
      by_cases hi : i < n
      · obtain ⟨b, hb, hf⟩ := Lib.mapM_at hm i i (by simp [hi])
        obtain ⟨z, hc, rfl, _⟩ := DataW.trod_string he hf
        have h1 : cs[i]? = some (.string z) := by
          have := congrArg (·[0]?) hc
          simpa [List.getElem?_take, List.getElem?_drop] using this
        have h2 : (xs.map (·.1))[i]? = some (DataW.lit (.string z.data.toList) : DataW H) := by simp [hb]
        rw [hxs] at h2
        simp only [List.getElem?_map, Option.map_eq_some_iff, DataW.lit.injEq, Lit.string.injEq] at h2
        obtain ⟨z', hz', e⟩ := h2
        rw [h1, List.getElem?_map, hz', e]
        simp
      · rw [List.getElem?_eq_none (by omega), List.getElem?_eq_none (by simp; omega)]
    · cases h
def verbZ : List (List UInt8) := [[], [108, 111, 103, 105, 110], [115, 101, 103], [100, 105, 114], [100, 101, 108], [97, 99, 108], [114, 105, 110, 103, 115], [112, 117, 116], [103, 101, 116], [108, 105, 115, 116], [114, 117, 110], [115, 101, 110, 100], [116, 97, 107, 101], [114, 101, 108, 101, 97, 115, 101], [100, 101, 110, 121]]
theorem verb_datum : (Rows.laid_donjon_audit_verbs : DataW Unit) = strData verbZ := by kernel_rfl
theorem verbN : Tryd.prog.globalNamed "donjon/audit.verbs" = some 0 := by kernel_rfl
theorem verbT : (Tryd.prog.globals[0]?).map (·.type) = some 92 := by kernel_rfl
theorem verbU : Tryd.prog.underlying 92 = some (.array 15 9) := by kernel_rfl
theorem verbS : Tryd.prog.cellsOf 92 = 15 := by kernel_rfl
theorem verb_at (v : Nat) (h1 : 1 ≤ v) (h2 : v ≤ 14) : (verbZ.map fun z => Value.string ⟨z.toArray⟩)[v]? = some (.string (verbW (v : Int))) := by
  have hs : verbW (v : Int) = ⟨(verbZ.getD v []).toArray⟩ := by
    have : ∀ k : Fin 15, 1 ≤ k.val → verbW (k.val : Int) = ⟨(verbZ.getD k.val []).toArray⟩ := by decide +kernel
    exact this ⟨v, by omega⟩ h1
  rw [hs, List.getElem?_map]
  have hl : v < verbZ.length := by show v < 15; omega
  rw [List.getElem?_eq_getElem hl, List.getD_eq_getElem?_getD, List.getElem?_eq_getElem hl]
  rfl
theorem vb_head {rest : List (String × DataW Unit)} {W : World} (h : laidMet Tryd.prog (("donjon/audit.verbs", Rows.laid_donjon_audit_verbs) :: rest) W) : Vb W := by
  rw [verb_datum] at h
  obtain ⟨ps, ⟨g', t', cs, fuel, p, q, hg', ht', hvar, hd, _, _⟩, _⟩ := h
  obtain rfl := Option.some.inj (verbN.symm.trans hg')
  obtain rfl := Option.some.inj (verbT.symm.trans ht')
  have hcs := cells_of_strs verbU Tryd.underlying9 cStr verbS hd
  intro v h1 h2
  have h3 := World.var?_cell verbN hvar v
  rw [h3, ← Array.getElem?_toList, hcs]
  exact verb_at v h1 h2
abbrev laid4 : List (String × DataW Unit) := [("math/bits.deBruijn32tab", Rows.laid_math_bits_deBruijn32tab), ("math/bits.deBruijn64tab", Rows.laid_math_bits_deBruijn64tab), ("internal/strconv.uint64pow10", Rows.laid_internal_strconv_uint64pow10), ("donjon/audit.verbs", Rows.laid_donjon_audit_verbs)]
theorem laid_I {W : World} (h : laidMetH Tryd.prog laid4 W) : Tab W ∧ Vb W := by
  rw [MakeChecks.laidMetH_plain _ _ _ (by kernel_rfl)] at h
  exact ⟨tab_head h.tail.tail, vb_head h.tail.tail.tail⟩
theorem keepI {W W' : World} (h : Tab W ∧ Vb W) (b : Below W.heap.size W W') : Tab W' ∧ Vb W' := ⟨h.1.keep b, h.2.keep b⟩
variable {H : Type} {enc : TypeId × Value → H}
/-- The row's frame with listed variables, the world's shape and the sizes kept. -/
theorem returns_all {a : Assume} {C : Checked} {os : Os} {f : FuncId} {fn : Func} {s : ChangeSpec} {conds : List PathCond} {apart fresh handsOn again : Bool} {X : World → Array Value → Prop}
    (hX : ∀ (w w' : World) (args : Array Value), w.heap = w'.heap → X w args → X w' args)
    (own : ownKnob C.prog.godebug = none) (started : os.Started) (noInit : C.prog.inits.idxOf? f = none) (hfn : C.prog.funcs[f]? = some fn)
    (witness : ∃ (w : World) (tape : Tape) (i : Input), w.os = os ∧ (w.forCall tape i).Shaped C.prog ∧ i.vars = [] ∧ Input.okWide C.prog (w.forCall tape i) .any w.heap.size f i ∧
      ((s.pre enc C.prog fn conds apart (w.forCall tape i).memory i.args ∧ X (w.forCall tape i).memory i.args) ∧ sizedMet enc C.prog fn (OpenSpec.ofChange s) apart (w.forCall tape i).memory i.args) ∧ a.holds C.prog (lone (Frame.enter C.prog f i.args .normal) [] (w.forCall tape i)))
    (contract : ∀ (W : World) (base : Nat) (args : Array Value) (ds gs : List (DataW H)) (before : List MemPlace),
      (∀ (j : Nat) t v, fn.params[j]? = some t → args[j]? = some v → Value.okWide C.prog W .any base t v) →
      DataW.Whole enc C.prog fn.params.toList s.vars apart W args.toList ds gs before → X W args → W.ShapedOpen C.prog →
      (DataW.weightsEach C.prog (fn.params.toList ++ s.plain.varTypes C.prog) (ds ++ gs)).all (· ≤ reachBytes) = true →
      Calls C.prog f args W fun e W' => ∃ v, e = .returned v ∧ s.post enc C.prog fn apart fresh handsOn again W args v W') :
    ReturnsInHanded a C os f .any (fun w args => (s.pre enc C.prog fn conds apart w args ∧ X w args) ∧ sizedMet enc C.prog fn (OpenSpec.ofChange s) apart w args) (s.post enc C.prog fn apart fresh handsOn again) := by
  refine returnsInHanded_of_calls own started noInit witness ?_
  intro w tape i _ hsh _ hok hpre hholds
  obtain ⟨_, _, _, fn', hfn', _, _, _, _, hval⟩ := hok
  have e : fn' = fn := Option.some.inj (hfn'.symm.trans hfn)
  subst e
  obtain ⟨⟨⟨ds, gs, before, hw, hc⟩, hx⟩, hz⟩ := hpre
  have hw' := DataW.Whole.of_heap (w' := w.forCall tape i) (by rfl) hw
  refine (contract (w.forCall tape i) w.heap.size i.args ds gs before hval hw' (hX _ _ _ (by rfl) hx) hsh (hz.weights hw)).mono fun e W' ⟨v, he, hp⟩ => ?_
  subst he
  exact ChangeSpec.post_blind hp
end Go.Proofs.YtohocomemkckeaaDoor
