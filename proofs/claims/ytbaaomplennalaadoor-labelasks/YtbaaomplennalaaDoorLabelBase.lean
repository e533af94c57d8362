/-
  PACKAGE label, THE LAWS' SMALL FUNCTIONS: what each call returns, as a plain function of the labels' four numbers; a call makes blocks of its own and turns nothing else.
-/
import Derived.Test.YtbaaomplennalaaDoorProg
import Derived.WalkKit
import Derived.WalkLawsBesides
import Derived.KernelRfl
import Derived.ProofKit
import Derived.Below
import Derived.Deep.RegionHeld
namespace Go.Proofs.YtbaaomplennalaaDoor
open Go.RowKit

/-- A label's four numbers; its value. -/
structure Lab where
  s : Int
  c : Int
  i : Int
  k : Int
abbrev Lab.v (l : Lab) : Value := .agg #[.int .i64 l.s, .int .i64 l.c, .int .i64 l.i, .int .i64 l.k]
def gmax (a b : Int) : Int := if b > a then b else a
def gmin (a b : Int) : Int := if b < a then b else a
def joinL (a b : Lab) : Lab := ⟨gmax a.s b.s, bits .or .i64 a.c b.c, gmin a.i b.i, bits .and .i64 a.k b.k⟩
def meetL (a b : Lab) : Lab := ⟨gmin a.s b.s, bits .and .i64 a.c b.c, gmax a.i b.i, bits .or .i64 a.k b.k⟩
def goodL (l : Lab) : Lab := ⟨l.s % 4, l.c % 256, l.i % 4, l.k % 256⟩
def bottomL : Lab := ⟨0, 0, 3, 255⟩

theorem und : Tryd.prog.underlying 23 = some (.struct (Tryd.prog.fieldsOf 23)) := by kernel_rfl

set_option maxHeartbeats 400000 in
theorem within_any (k m : Int) (h0 : 0 < m) (h1 : m < 1000000) (w : World) :
    Calls Tryd.prog 26 #[.int .i64 k, .int .i64 m] w fun e w' => e = .returned (.int .i64 (k % m)) ∧ w' = w := by
  have b1 := Int.lt_tmod_of_pos k h0
  have b2 := Int.tmod_lt_of_pos k h0
  have hm0 : ¬ m = 0 := by omega
  have hm1 : ¬ m = -1 := by omega
  by_cases hn : k.tmod m < 0
  · have e1 : k % m = k.tmod m + m := by
      rw [Int.tmod_eq_emod] at hn ⊢
      split at hn
      · have := Int.emod_nonneg k (by omega : m ≠ 0); omega
      · rename_i hc; rw [if_neg hc]; rw [Int.natAbs_of_nonneg (by omega)]; omega
    rw [e1]
    clear e1
    go_enter Tryd.func26, Tryd.ntmps26
    go_wp2
    go_ret
    exact ⟨rfl, rfl⟩
  · have e1 : k % m = k.tmod m := by
      rw [Int.tmod_eq_emod] at hn ⊢
      split
      · simp
      · rename_i hc
        rw [if_neg hc] at hn
        have := Int.emod_lt_of_pos k h0
        rw [Int.natAbs_of_nonneg (by omega)] at *
        omega
    rw [e1]
    clear e1
    go_enter Tryd.func26, Tryd.ntmps26
    go_wp2
    go_ret
    exact ⟨rfl, rfl⟩

theorem below3 (w : World) (a b c : Obj) : Below w.heap.size w (((w.alloc a).alloc b).alloc c) :=
  (((Below.refl _ _).alloc (Nat.le_refl _) _).alloc (by simp) _).alloc (by simp; omega) _

set_option maxHeartbeats 400000 in
theorem join_any (a b : Lab) (w : World) :
    Calls Tryd.prog 17 #[a.v, b.v] w fun e w' => e = .returned (joinL a b).v ∧ Below w.heap.size w w' := by
  go_enter Tryd.func17, Tryd.ntmps17
  go_wp2
  all_goals (refine bodyPost_ret (v := (joinL a b).v) (by simp [results, Tryd.results17, go_sem, joinL, gmax, gmin, *] <;> omega) rfl ⟨rfl, below3 _ _ _ _⟩)

set_option maxHeartbeats 400000 in
theorem meet_any (a b : Lab) (w : World) :
    Calls Tryd.prog 19 #[a.v, b.v] w fun e w' => e = .returned (meetL a b).v ∧ Below w.heap.size w w' := by
  go_enter Tryd.func19, Tryd.ntmps19
  go_wp2
  all_goals (refine bodyPost_ret (v := (meetL a b).v) (by simp [results, Tryd.results19, go_sem, meetL, gmax, gmin, *] <;> omega) rfl ⟨rfl, below3 _ _ _ _⟩)

set_option maxHeartbeats 400000 in
theorem bottom_any (w : World) :
    Calls Tryd.prog 25 #[] w fun e w' => e = .returned bottomL.v ∧ Below w.heap.size w w' := by
  go_enter Tryd.func25, Tryd.ntmps25
  go_wp2
  refine bodyPost_ret (v := bottomL.v) (by simp [results, Tryd.results25, go_sem, bottomL]) rfl ⟨rfl, (Below.refl _ _).alloc (Nat.le_refl _) _⟩

def lessL (a b : Lab) : Bool := if (a.s != b.s) = true then decide (a.s < b.s) else if (a.c != b.c) = true then decide (a.c < b.c) else if (a.i != b.i) = true then decide (a.i < b.i) else decide (a.k < b.k)
theorem below2 (w : World) (a b : Obj) : Below w.heap.size w ((w.alloc a).alloc b) := ((Below.refl _ _).alloc (Nat.le_refl _) _).alloc (by simp) _
set_option maxHeartbeats 400000 in
theorem less_any (a b : Lab) (w : World) :
    Calls Tryd.prog 23 #[a.v, b.v] w fun e w' => e = .returned (.bool (lessL a b)) ∧ Below w.heap.size w w' := by
  go_enter Tryd.func23, Tryd.ntmps23
  go_wp2
  all_goals (refine bodyPost_ret (v := .bool (lessL a b)) (by simp only [lessL]; simp [results, Tryd.results23, go_sem, *]) rfl ⟨rfl, below2 _ _ _⟩)

set_option maxHeartbeats 400000 in
theorem good_any (l : Lab) (w : World) :
    Calls Tryd.prog 14 #[l.v] w fun e w' => e = .returned (goodL l).v ∧ Below w.heap.size w w' := by
  go_enter Tryd.func14, Tryd.ntmps14
  go_wp2_with fail
  go_region_held (fun W => W.cell? ⟨w.heap.size, 0, none⟩ = some (.int .i64 l.s) ∧ W.cell? ⟨w.heap.size, 1, none⟩ = some (.int .i64 l.c) ∧ W.cell? ⟨w.heap.size, 2, none⟩ = some (.int .i64 l.i) ∧ W.cell? ⟨w.heap.size, 3, none⟩ = some (.int .i64 l.k)) (go_keep)
    (first | (go_at_call 26; refine (within_any _ _ (by decide) (by decide) _).mono ?_; rintro e w' ⟨rfl, rfl⟩) | fail)
  go_wp2
  exact bodyPost_ret (v := (goodL l).v) (by simp [results, Tryd.results14, go_sem, goodL]) rfl ⟨rfl, (below2 _ _ _).drew⟩

/-- Labels as structs are compared field by field. -/
def labEq (x y : Lab) : Bool := x.s == y.s && (x.c == y.c && (x.i == y.i && x.k == y.k))
theorem labEq_iff (x y : Lab) : labEq x y = true ↔ x = y := by
  cases x; cases y; simp [labEq]
theorem run_eql_lab (x y : Lab) (w : World) : (binOp .eql 23 x.v y.v).run Tryd.prog w = .ok (.bool (labEq x y)) w := by
  have e : labEq x y = (x.s == y.s && (x.c == y.c && (x.i == y.i && x.k == y.k))) := rfl
  rw [e]
  go_simp
  repeat' split
  all_goals simp_all
theorem run_neq_lab (x y : Lab) (w : World) : (binOp .neq 23 x.v y.v).run Tryd.prog w = .ok (.bool (!labEq x y)) w := by
  have e : labEq x y = (x.s == y.s && (x.c == y.c && (x.i == y.i && x.k == y.k))) := rfl
  rw [e]
  go_simp
  repeat' split
  all_goals simp_all

/-- A label in a block of its own. -/
abbrev Boxed (W : World) (g : Nat) (l : Lab) : Prop := W.cell? ⟨g, 0, none⟩ = some (.int .i64 l.s) ∧ W.cell? ⟨g, 1, none⟩ = some (.int .i64 l.c) ∧ W.cell? ⟨g, 2, none⟩ = some (.int .i64 l.i) ∧ W.cell? ⟨g, 3, none⟩ = some (.int .i64 l.k)
theorem Boxed.keep {W W' : World} {g : Nat} {l : Lab} (h : Boxed W g l) (hb : Below W.heap.size W W') : Boxed W' g l := by
  obtain ⟨a, b, c, d⟩ := h
  have hg := World.block_lt_of_cell? _ _ a
  exact ⟨(hb.cell (p := ⟨g, 0, none⟩) hg).trans a, (hb.cell (p := ⟨g, 1, none⟩) hg).trans b, (hb.cell (p := ⟨g, 2, none⟩) hg).trans c, (hb.cell (p := ⟨g, 3, none⟩) hg).trans d⟩
theorem keep2 {W W' : World} {g g' : Nat} {l l' : Lab} (hb : Below W.heap.size W W') (h : Boxed W g l ∧ Boxed W g' l') : Boxed W' g l ∧ Boxed W' g' l' := ⟨h.1.keep hb, h.2.keep hb⟩
theorem boxed_alloc (w : World) (l : Lab) : Boxed (w.alloc (.cells #[.int .i64 l.s, .int .i64 l.c, .int .i64 l.i, .int .i64 l.k] 23)) w.heap.size l := by
  refine ⟨?_, ?_, ?_, ?_⟩ <;> simp [World.cell?_alloc_at]

def inB (n m : Int) : Bool := decide (0 ≤ n) && decide (n ≤ m)
set_option maxHeartbeats 400000 in
theorem lwithin_any (n m : Int) (w : World) :
    Calls Tryd.prog 29 #[.int .i64 n, .int .i64 m] w fun e w' => e = .returned (.bool (inB n m)) ∧ w' = w := by
  unfold inB
  by_cases h : 0 ≤ n
  · go_enter Tryd.func29, Tryd.ntmps29
    go_wp2
    go_ret
    exact ⟨by simp [h], rfl⟩
  · have h' : decide (0 ≤ n) = false := by simpa using h
    go_enter Tryd.func29, Tryd.ntmps29
    go_wp2
    go_ret
    exact ⟨by simp, rfl⟩

theorem Below.then {w W W' : World} (h : Below w.heap.size w W) (k : Below W.heap.size W W') : Below w.heap.size w W' := h.trans (k.mono h.size)

set_option maxHeartbeats 400000 in
theorem over_any (a b : Lab) (w : World) :
    Calls Tryd.prog 15 #[a.v, b.v] w fun e w' => e = .returned (.bool (labEq (joinL a b) a)) ∧ Below w.heap.size w w' := by
  have heq := run_eql_lab
  have hS := keep2 (Below.refl _ _).drew ⟨(boxed_alloc w a).keep ((Below.refl _ _).alloc (Nat.le_refl _) (.cells #[.int .i64 b.s, .int .i64 b.c, .int .i64 b.i, .int .i64 b.k] 23)), boxed_alloc (w.alloc (.cells #[.int .i64 a.s, .int .i64 a.c, .int .i64 a.i, .int .i64 a.k] 23)) b⟩
  have hz : (w.alloc (.cells #[.int .i64 a.s, .int .i64 a.c, .int .i64 a.i, .int .i64 a.k] 23)).heap.size = w.heap.size + 1 := by simp
  rw [hz] at hS
  have hB := below2 w (.cells #[.int .i64 a.s, .int .i64 a.c, .int .i64 a.i, .int .i64 a.k] 23) (.cells #[.int .i64 b.s, .int .i64 b.c, .int .i64 b.i, .int .i64 b.k] 23)
  go_enter Tryd.func15, Tryd.ntmps15
  go_wp2_with fail
  generalize ((w.alloc (.cells #[.int .i64 a.s, .int .i64 a.c, .int .i64 a.i, .int .i64 a.k] 23)).alloc (.cells #[.int .i64 b.s, .int .i64 b.c, .int .i64 b.i, .int .i64 b.k] 23)) = W0 at hS hB ⊢
  go_region_held (fun W => Boxed W w.heap.size a ∧ Boxed W (w.heap.size + 1) b) (first | exact hS | exact keep2 (by assumption) (by assumption))
    (first | (go_at_call 17; refine (join_any a b _).mono ?_; rintro e w1 ⟨rfl, hb⟩) | fail)
  go_wp2
  go_ret
  exact ⟨rfl, Below.then hB.drew hb⟩

def okL (l : Lab) : Bool := inB l.s 3 && inB l.c 255 && inB l.i 3 && inB l.k 255
def chkL (l : Lab) : Int := if okL l = true then 0 else 1
set_option maxHeartbeats 1000000 in
theorem check_any (l : Lab) (w : World) :
    Calls Tryd.prog 12 #[l.v] w fun e w' => e = .returned (.int .i64 (chkL l)) ∧ Below w.heap.size w w' := by
  have hc := lwithin_any
  cases h0 : inB l.s 3
  · have e : chkL l = 1 := by simp [chkL, okL, h0]
    rw [e]
    go_enter Tryd.func12, Tryd.ntmps12
    go_wp2_with (go_at_call 29; refine (hc _ _ _).mono ?_; rintro e w' ⟨rfl, rfl⟩)
    go_ret
    exact ⟨rfl, (Below.refl _ _).alloc (Nat.le_refl _) _⟩
  cases h1 : inB l.c 255
  · have e : chkL l = 1 := by simp [chkL, okL, h1]
    rw [e]
    go_enter Tryd.func12, Tryd.ntmps12
    go_wp2_with (go_at_call 29; refine (hc _ _ _).mono ?_; rintro e w' ⟨rfl, rfl⟩)
    go_ret
    exact ⟨rfl, (Below.refl _ _).alloc (Nat.le_refl _) _⟩
  cases h2 : inB l.i 3
  · have e : chkL l = 1 := by simp [chkL, okL, h2]
    rw [e]
    go_enter Tryd.func12, Tryd.ntmps12
    go_wp2_with (go_at_call 29; refine (hc _ _ _).mono ?_; rintro e w' ⟨rfl, rfl⟩)
    go_ret
    exact ⟨rfl, (Below.refl _ _).alloc (Nat.le_refl _) _⟩
  cases h3 : inB l.k 255
  · have e : chkL l = 1 := by simp [chkL, okL, h3]
    rw [e]
    go_enter Tryd.func12, Tryd.ntmps12
    go_wp2_with (go_at_call 29; refine (hc _ _ _).mono ?_; rintro e w' ⟨rfl, rfl⟩)
    go_ret
    exact ⟨rfl, (Below.refl _ _).alloc (Nat.le_refl _) _⟩
  have e : chkL l = 0 := by simp [chkL, okL, h0, h1, h2, h3]
  rw [e]
  go_enter Tryd.func12, Tryd.ntmps12
  go_wp2_with (go_at_call 29; refine (hc _ _ _).mono ?_; rintro e w' ⟨rfl, rfl⟩)
  go_ret
  exact ⟨rfl, (Below.refl _ _).alloc (Nat.le_refl _) _⟩
end Go.Proofs.YtbaaomplennalaaDoor
