/-
  PACKAGE ring, ITS FUNCTIONS AND THE LAWS' SMALL ONES: what each call returns, as a plain function of a bracket's four numbers; a call makes blocks of its own and turns nothing else.
-/
import Derived.Test.YthabdffmfadmnaaProg
import Derived.WalkKit
import Derived.WalkLawsBesides
import Derived.KernelRfl
import Derived.ProofKit
import Derived.Below
import Derived.Deep.RegionHeld
namespace Go.Proofs.Ythabdffmfadmnaa
open Go.RowKit
set_option linter.unusedSimpArgs false

/-- A bracket's four numbers; its value. -/
structure Rg where
  a : Int
  b : Int
  c : Int
  g : Int
abbrev Rg.v (x : Rg) : Value := .agg #[.int .i64 x.a, .int .i64 x.b, .int .i64 x.c, .int .i64 x.g]
def mayR (x : Rg) (r : Int) : Bool := decide (0 ≤ r ∧ r ≤ 7 ∧ r ≤ x.b)
def mayW (x : Rg) (r : Int) : Bool := decide (0 ≤ r ∧ r ≤ 7 ∧ r ≤ x.a)
def mayX (x : Rg) (r : Int) : Bool := decide (0 ≤ r ∧ r ≤ 7 ∧ x.a ≤ r ∧ r ≤ x.b)
def isR (r : Int) : Bool := decide (0 ≤ r ∧ r ≤ 7)
abbrev OkR (x : Rg) : Prop := 0 ≤ x.a ∧ x.a ≤ x.b ∧ x.b ≤ x.c ∧ x.c ≤ 7 ∧ 0 ≤ x.g ∧ x.g ≤ 16
def chkR (x : Rg) : Int := if OkR x then 0 else 1
def goodR (x : Rg) : Rg := ⟨x.a % 8, x.a % 8 + x.b % (8 - x.a % 8), x.a % 8 + x.b % (8 - x.a % 8) + x.c % (8 - (x.a % 8 + x.b % (8 - x.a % 8))), x.g % 17⟩

theorem goodR_ok (x : Rg) : OkR (goodR x) := by
  have h1 := Int.emod_nonneg x.a (by decide : (8 : Int) ≠ 0)
  have h2 := Int.emod_lt_of_pos x.a (by decide : (0 : Int) < 8)
  have h3 := Int.emod_nonneg x.b (by omega : (8 - x.a % 8 : Int) ≠ 0)
  have h4 := Int.emod_lt_of_pos x.b (by omega : (0 : Int) < 8 - x.a % 8)
  have h5 := Int.emod_nonneg x.c (by omega : (8 - (x.a % 8 + x.b % (8 - x.a % 8)) : Int) ≠ 0)
  have h6 := Int.emod_lt_of_pos x.c (by omega : (0 : Int) < 8 - (x.a % 8 + x.b % (8 - x.a % 8)))
  refine ⟨?_, ?_, ?_, ?_, ?_, ?_⟩ <;> simp only [goodR] <;> omega

theorem und : Try.prog.underlying 23 = some (.struct (Try.prog.fieldsOf 23)) := by kernel_rfl

set_option maxHeartbeats 400000 in
theorem within_any (k m : Int) (h0 : 0 < m) (h1 : m < 1000000) (w : World) :
    Calls Try.prog 20 #[.int .i64 k, .int .i64 m] w fun e w' => e = .returned (.int .i64 (k % m)) ∧ w' = w := by
  have b1 := Int.lt_tmod_of_pos k h0
  have b2 := Int.tmod_lt_of_pos k h0
  have hm0 : ¬ m = 0 := by omega
  have hm1 : ¬ m = -1 := by omega
  by_cases hn : k.tmod m < 0
  · have e1 : k % m = k.tmod m + m := by
      rw [Int.tmod_eq_emod] at hn ⊢
      split at hn
      · have := Int.emod_nonneg k (by omega : m ≠ 0); omega
      · rename_i hc; rw [if_neg hc]; rw [Int.natAbs_of_nonneg (by omega)]; omega
    rw [e1]
    clear e1
    go_enter Try.func20, Try.ntmps20
    go_wp2
    go_ret
    exact ⟨rfl, rfl⟩
  · have e1 : k % m = k.tmod m := by
      rw [Int.tmod_eq_emod] at hn ⊢
      split
      · simp
      · rename_i hc
        rw [if_neg hc] at hn
        have := Int.emod_lt_of_pos k h0
        rw [Int.natAbs_of_nonneg (by omega)] at *
        omega
    rw [e1]
    clear e1
    go_enter Try.func20, Try.ntmps20
    go_wp2
    go_ret
    exact ⟨rfl, rfl⟩

theorem below1 (w : World) (a : Obj) : Below w.heap.size w (w.alloc a) := (Below.refl _ _).alloc (Nat.le_refl _) _
theorem below2 (w : World) (a b : Obj) : Below w.heap.size w ((w.alloc a).alloc b) := ((Below.refl _ _).alloc (Nat.le_refl _) _).alloc (by simp) _
theorem below3 (w : World) (a b c : Obj) : Below w.heap.size w (((w.alloc a).alloc b).alloc c) :=
  (((Below.refl _ _).alloc (Nat.le_refl _) _).alloc (by simp) _).alloc (by simp; omega) _
theorem Below.then {w W W' : World} (h : Below w.heap.size w W) (k : Below W.heap.size W W') : Below w.heap.size w W' := h.trans (k.mono h.size)

/-- A bracket in a block of its own. -/
abbrev Boxed (W : World) (g : Nat) (l : Rg) : Prop := W.cell? ⟨g, 0, none⟩ = some (.int .i64 l.a) ∧ W.cell? ⟨g, 1, none⟩ = some (.int .i64 l.b) ∧ W.cell? ⟨g, 2, none⟩ = some (.int .i64 l.c) ∧ W.cell? ⟨g, 3, none⟩ = some (.int .i64 l.g)
theorem Boxed.keep {W W' : World} {g : Nat} {l : Rg} (h : Boxed W g l) (hb : Below W.heap.size W W') : Boxed W' g l := by
  obtain ⟨a, b, c, d⟩ := h
  have hg := World.block_lt_of_cell? _ _ a
  exact ⟨(hb.cell (p := ⟨g, 0, none⟩) hg).trans a, (hb.cell (p := ⟨g, 1, none⟩) hg).trans b, (hb.cell (p := ⟨g, 2, none⟩) hg).trans c, (hb.cell (p := ⟨g, 3, none⟩) hg).trans d⟩
theorem boxed_alloc (w : World) (l : Rg) : Boxed (w.alloc (.cells #[.int .i64 l.a, .int .i64 l.b, .int .i64 l.c, .int .i64 l.g] 23)) w.heap.size l := by
  refine ⟨?_, ?_, ?_, ?_⟩ <;> simp [World.cell?_alloc_at]

set_option maxHeartbeats 400000 in
theorem isRing_any (r : Int) (w : World) :
    Calls Try.prog 23 #[.int .i64 r] w fun e w' => e = .returned (.bool (isR r)) ∧ w' = w := by
  by_cases h : 0 ≤ r
  · have e1 : isR r = decide (r ≤ 7) := by simp [isR, h]
    rw [e1]
    go_enter Try.func23, Try.ntmps23
    go_wp2
    go_ret
    exact ⟨rfl, rfl⟩
  · have e1 : isR r = false := by simp [isR, h]
    have h' : decide (0 ≤ r) = false := by simpa using h
    rw [e1]
    go_enter Try.func23, Try.ntmps23
    go_wp2
    go_ret
    exact ⟨rfl, rfl⟩

set_option maxHeartbeats 400000 in
theorem mayRead_any (x : Rg) (r : Int) (w : World) :
    Calls Try.prog 14 #[x.v, .int .i64 r] w fun e w' => e = .returned (.bool (mayR x r)) ∧ Below w.heap.size w w' := by
  have hc := isRing_any r
  cases h : isR r
  · have e1 : mayR x r = false := by simp [isR] at h; simp [mayR]; omega
    rw [e1]; rw [h] at hc
    go_enter Try.func14, Try.ntmps14
    go_wp2_with (go_at_call 23; refine (hc _).mono ?_; rintro e w' ⟨rfl, rfl⟩)
    go_ret
    exact ⟨rfl, below1 _ _⟩
  · have e1 : mayR x r = decide (r ≤ x.b) := by simp [isR] at h; simp [mayR, h]
    rw [e1]; rw [h] at hc
    go_enter Try.func14, Try.ntmps14
    go_wp2_with (go_at_call 23; refine (hc _).mono ?_; rintro e w' ⟨rfl, rfl⟩)
    go_ret
    exact ⟨rfl, below1 _ _⟩

set_option maxHeartbeats 400000 in
theorem mayWrite_any (x : Rg) (r : Int) (w : World) :
    Calls Try.prog 16 #[x.v, .int .i64 r] w fun e w' => e = .returned (.bool (mayW x r)) ∧ Below w.heap.size w w' := by
  have hc := isRing_any r
  cases h : isR r
  · have e1 : mayW x r = false := by simp [isR] at h; simp [mayW]; omega
    rw [e1]; rw [h] at hc
    go_enter Try.func16, Try.ntmps16
    go_wp2_with (go_at_call 23; refine (hc _).mono ?_; rintro e w' ⟨rfl, rfl⟩)
    go_ret
    exact ⟨rfl, below1 _ _⟩
  · have e1 : mayW x r = decide (r ≤ x.a) := by simp [isR] at h; simp [mayW, h]
    rw [e1]; rw [h] at hc
    go_enter Try.func16, Try.ntmps16
    go_wp2_with (go_at_call 23; refine (hc _).mono ?_; rintro e w' ⟨rfl, rfl⟩)
    go_ret
    exact ⟨rfl, below1 _ _⟩

set_option maxHeartbeats 400000 in
theorem mayExec_any (x : Rg) (r : Int) (w : World) :
    Calls Try.prog 18 #[x.v, .int .i64 r] w fun e w' => e = .returned (.bool (mayX x r)) ∧ Below w.heap.size w w' := by
  have hc := isRing_any r
  cases h : isR r
  · have e1 : mayX x r = false := by simp [isR] at h; simp [mayX]; omega
    rw [e1]; rw [h] at hc
    go_enter Try.func18, Try.ntmps18
    go_wp2_with (go_at_call 23; refine (hc _).mono ?_; rintro e w' ⟨rfl, rfl⟩)
    go_ret
    exact ⟨rfl, below1 _ _⟩
  · by_cases h1 : x.a ≤ r
    · have e1 : mayX x r = decide (r ≤ x.b) := by simp [isR] at h; simp [mayX, h, h1]
      rw [e1]; rw [h] at hc
      go_enter Try.func18, Try.ntmps18
      go_wp2_with (go_at_call 23; refine (hc _).mono ?_; rintro e w' ⟨rfl, rfl⟩)
      go_ret
      exact ⟨rfl, below1 _ _⟩
    · have e1 : mayX x r = false := by simp [mayX, h1]
      have h' : decide (x.a ≤ r) = false := by simpa using h1
      rw [e1]; rw [h] at hc
      go_enter Try.func18, Try.ntmps18
      go_wp2_with (go_at_call 23; refine (hc _).mono ?_; rintro e w' ⟨rfl, rfl⟩)
      go_ret
      exact ⟨rfl, below1 _ _⟩
end Go.Proofs.Ythabdffmfadmnaa
