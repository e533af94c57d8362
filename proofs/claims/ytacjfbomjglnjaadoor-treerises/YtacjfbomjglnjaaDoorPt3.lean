/-
  PART 3 of what the claims of this seat lean on: Rgs HashBase HashOf Grew NodeEnc NodeMsg NodeEntry NodeRefEnc LPathBase LPathParts LPathPure NodeChkP NodeRing LPathOf LPathMore LPathName LPathSplit LPathShelf LPathFns Rws Blk Whole NodeChk Opens Door TreePure LoadAny Build1 Held TreeRows.
-/
import Derived.Laws.Bits64
import Derived.Lib.ConvBytes
import Derived.Laws.AppendOwnNone
import Derived.Lib.AppendStr
import Derived.Deep.Cut
import Derived.WalkKit
import Derived.WalkLawsBesides
import Derived.Lib.Strings
import Derived.Lib.Bytealg
import Derived.KernelRfl
import Derived.ProofKit
import Derived.Below
import Derived.Laws.AppendOwn
import Derived.Laws.OwnMore
import Derived.Deep.CutRange
import Derived.Laws.RangeAny
import Derived.Lib.SplitLaws
import Derived.Lib.LastIndexByte
import Derived.Shelf.Lays
import Derived.Shelf.Strings.Prefix
import Derived.Shelf.Strings.LastIndex
import Derived.Shelf.Strings.Split
import Derived.Deep.MidRow
import Derived.Test.YtacjfbomjglnjaaDoorRows
import Derived.OpenShut
import Derived.ChangeSame
import Derived.ChangeSlices
import Derived.SizedLaws
import Derived.Deep.Slices
import Derived.Deep.Strs
import Derived.LaidMore
import Derived.Shelf.Vars
import Derived.HandedShaped
import Derived.PinnedBridge
import Derived.Lay
import Derived.Great.BuildSlice
import Derived.Test.YtacjfbomjglnjaaDoorPt1
import Derived.Test.YtacjfbomjglnjaaDoorPt2
/-! RINGS, FOR THE STAGES BEHIND THE SIXTH: their numbers, the laws' Good; the laws' own numbers within bounds. -/
namespace Go.Proofs.YtacjfbomjglnjaaDoor
open Go.RowKit
set_option maxRecDepth 8000
set_option linter.unusedSimpArgs false
set_option linter.unusedVariables false

/-- A bracket's four numbers; its value. -/
structure Rg where
  a : Int
  b : Int
  c : Int
  g : Int
abbrev Rg.v (x : Rg) : Value := .agg #[.int .i64 x.a, .int .i64 x.b, .int .i64 x.c, .int .i64 x.g]
def mayR (x : Rg) (r : Int) : Bool := decide (0 ≤ r ∧ r ≤ 7 ∧ r ≤ x.b)
def mayW (x : Rg) (r : Int) : Bool := decide (0 ≤ r ∧ r ≤ 7 ∧ r ≤ x.a)
def mayX (x : Rg) (r : Int) : Bool := decide (0 ≤ r ∧ r ≤ 7 ∧ x.a ≤ r ∧ r ≤ x.b)
def isR (r : Int) : Bool := decide (0 ≤ r ∧ r ≤ 7)
abbrev OkR (x : Rg) : Prop := 0 ≤ x.a ∧ x.a ≤ x.b ∧ x.b ≤ x.c ∧ x.c ≤ 7 ∧ 0 ≤ x.g ∧ x.g ≤ 16
def chkR (x : Rg) : Int := if OkR x then 0 else 1
def goodR (x : Rg) : Rg := ⟨x.a % 8, x.a % 8 + x.b % (8 - x.a % 8), x.a % 8 + x.b % (8 - x.a % 8) + x.c % (8 - (x.a % 8 + x.b % (8 - x.a % 8))), x.g % 17⟩

theorem goodR_ok (x : Rg) : OkR (goodR x) := by
  have h1 := Int.emod_nonneg x.a (by decide : (8 : Int) ≠ 0)
  have h2 := Int.emod_lt_of_pos x.a (by decide : (0 : Int) < 8)
  have h3 := Int.emod_nonneg x.b (by omega : (8 - x.a % 8 : Int) ≠ 0)
  have h4 := Int.emod_lt_of_pos x.b (by omega : (0 : Int) < 8 - x.a % 8)
  have h5 := Int.emod_nonneg x.c (by omega : (8 - (x.a % 8 + x.b % (8 - x.a % 8)) : Int) ≠ 0)
  have h6 := Int.emod_lt_of_pos x.c (by omega : (0 : Int) < 8 - (x.a % 8 + x.b % (8 - x.a % 8)))
  refine ⟨?_, ?_, ?_, ?_, ?_, ?_⟩ <;> simp only [goodR] <;> omega

abbrev RBox (W : World) (g : Nat) (l : Rg) : Prop := W.cell? ⟨g, 0, none⟩ = some (.int .i64 l.a) ∧ W.cell? ⟨g, 1, none⟩ = some (.int .i64 l.b) ∧ W.cell? ⟨g, 2, none⟩ = some (.int .i64 l.c) ∧ W.cell? ⟨g, 3, none⟩ = some (.int .i64 l.g)
set_option maxHeartbeats 400000 in
theorem rgw_any (k m : Int) (h0 : 0 < m) (h1 : m < 1000000) (w : World) :
    Calls Tryd.prog 64 #[.int .i64 k, .int .i64 m] w fun e w' => e = .returned (.int .i64 (k % m)) ∧ w' = w := by
  have b1 := Int.lt_tmod_of_pos k h0
  have b2 := Int.tmod_lt_of_pos k h0
  have hm0 : ¬ m = 0 := by omega
  have hm1 : ¬ m = -1 := by omega
  by_cases hn : k.tmod m < 0
  · have e1 : k % m = k.tmod m + m := by
      rw [Int.tmod_eq_emod] at hn ⊢
      split at hn
      · have := Int.emod_nonneg k (by omega : m ≠ 0); omega
      · rename_i hc; rw [if_neg hc]; rw [Int.natAbs_of_nonneg (by omega)]; omega
    rw [e1]
    clear e1
    go_enter Tryd.func64, Tryd.ntmps64
    go_wp2
    go_ret
    exact ⟨rfl, rfl⟩
  · have e1 : k % m = k.tmod m := by
      rw [Int.tmod_eq_emod] at hn ⊢
      split
      · simp
      · rename_i hc
        rw [if_neg hc] at hn
        have := Int.emod_lt_of_pos k h0
        rw [Int.natAbs_of_nonneg (by omega)] at *
        omega
    rw [e1]
    clear e1
    go_enter Tryd.func64, Tryd.ntmps64
    go_wp2
    go_ret
    exact ⟨rfl, rfl⟩
set_option maxHeartbeats 1000000 in
theorem rggood_any (x : Rg) (w : World) :
    Calls Tryd.prog 41 #[x.v] w fun e w' => e = .returned (goodR x).v ∧ Below w.heap.size w w' := by
  have h1 := Int.emod_nonneg x.a (by decide : (8 : Int) ≠ 0)
  have h2 := Int.emod_lt_of_pos x.a (by decide : (0 : Int) < 8)
  obtain ⟨A, hA⟩ : ∃ A, x.a % 8 = A := ⟨_, rfl⟩
  rw [hA] at h1 h2
  have h3 := Int.emod_nonneg x.b (by omega : (8 - A : Int) ≠ 0)
  have h4 := Int.emod_lt_of_pos x.b (by omega : (0 : Int) < 8 - A)
  obtain ⟨B, hB⟩ : ∃ B, x.b % (8 - A) = B := ⟨_, rfl⟩
  rw [hB] at h3 h4
  have h5 := Int.emod_nonneg x.c (by omega : (8 - (A + B) : Int) ≠ 0)
  have h6 := Int.emod_lt_of_pos x.c (by omega : (0 : Int) < 8 - (A + B))
  obtain ⟨C, hC⟩ : ∃ C, x.c % (8 - (A + B)) = C := ⟨_, rfl⟩
  rw [hC] at h5 h6
  obtain ⟨G, hG⟩ : ∃ G, x.g % 17 = G := ⟨_, rfl⟩
  have e1 : goodR x = ⟨A, A + B, A + B + C, G⟩ := by simp only [goodR, hA, hB, hC, hG]
  rw [e1]
  have c1 := fun W => rgw_any x.a 8 (by decide) (by decide) W
  have c2 := fun W => rgw_any x.b (8 - A) (by omega) (by omega) W
  have c3 := fun W => rgw_any x.c (8 - (A + B)) (by omega) (by omega) W
  have c4 := fun W => rgw_any x.g 17 (by decide) (by decide) W
  rw [hA] at c1
  rw [hB] at c2
  rw [hC] at c3
  rw [hG] at c4
  clear e1 hA hB hC hG
  go_enter Tryd.func41, Tryd.ntmps41
  go_wp2_with fail
  refine (c1 _).mono ?_
  rintro e w' ⟨rfl, rfl⟩
  go_wp2_with fail
  have hS0 : RBox ((w.alloc (.cells #[.int .i64 A, .int .i64 x.b, .int .i64 x.c, .int .i64 x.g] 29)).alloc (.cells #[.int .i64 0, .int .i64 0, .int .i64 0, .int .i64 0] 29)) w.heap.size ⟨A, x.b, x.c, x.g⟩ := by refine ⟨?_, ?_, ?_, ?_⟩ <;> simp [World.cell?_alloc_at]
  have q0 := hS0.1
  have hw1 : IntKind.i64.wrap (8 - A) = 8 - A := Go.IntWalk.i64_in _ (by omega)
  have hw2 : IntKind.i64.wrap (A + B) = A + B := Go.IntWalk.i64_in _ (by omega)
  refine wp_region_held_drew (S := (fun W => W.cell? ⟨w.heap.size, 0, none⟩ = some (.int .i64 A))) (by kernel_rfl) (by first | exact q0 | go_keep) ?_
  intro hHeld
  (first | (refine wpAnyH_take (i := 0) (v := ?_) (by simp only [gA, gB, gC]; rfl) (by kernel_rfl) (by kernel_rfl) (by kernel_rfl) (by exact fun _ _ _ h => h) (Or.inl ⟨by rfl, ?_⟩) (by assumption) ?_; rotate_left; (focus (intro w hSw; (try dsimp only at hSw); go_simp; try with_reducible rfl))) | (refine wpAnyH_take (i := 0) (v := undef) (by simp only [gA, gB, gC]; rfl) (by kernel_rfl) (by kernel_rfl) (by kernel_rfl) (by exact fun _ _ _ h => h) (Or.inr ⟨by rfl, rfl⟩) (by assumption) ?_) | fail); simp only [Act.put, sA, sB, sC, hw1, hw2]
  (first | (refine wpAnyH_take (i := 1) (v := ?_) (by simp only [gA, gB, gC]; rfl) (by kernel_rfl) (by kernel_rfl) (by kernel_rfl) (by exact fun _ _ _ h => h) (Or.inl ⟨by rfl, ?_⟩) (by assumption) ?_; rotate_left; (focus (intro w hSw; (try dsimp only at hSw); go_simp; try with_reducible rfl))) | (refine wpAnyH_take (i := 1) (v := undef) (by simp only [gA, gB, gC]; rfl) (by kernel_rfl) (by kernel_rfl) (by kernel_rfl) (by exact fun _ _ _ h => h) (Or.inr ⟨by rfl, rfl⟩) (by assumption) ?_) | fail); simp only [Act.put, sA, sB, sC, hw1, hw2]
  (first | (refine wpAnyH_take (i := 2) (v := ?_) (by simp only [gA, gB, gC]; rfl) (by kernel_rfl) (by kernel_rfl) (by kernel_rfl) (by exact fun _ _ _ h => h) (Or.inl ⟨by rfl, ?_⟩) (by assumption) ?_; rotate_left; (focus (intro w hSw; (try dsimp only at hSw); go_simp; try with_reducible rfl))) | (refine wpAnyH_take (i := 2) (v := undef) (by simp only [gA, gB, gC]; rfl) (by kernel_rfl) (by kernel_rfl) (by kernel_rfl) (by exact fun _ _ _ h => h) (Or.inr ⟨by rfl, rfl⟩) (by assumption) ?_) | fail); simp only [Act.put, sA, sB, sC, hw1, hw2]
  (first | (refine wpAnyH_take (i := 4) (v := ?_) (by simp only [gA, gB, gC]; rfl) (by kernel_rfl) (by kernel_rfl) (by kernel_rfl) (by exact fun _ _ _ h => h) (Or.inl ⟨by rfl, ?_⟩) (by assumption) ?_; rotate_left; (focus (intro w hSw; (try dsimp only at hSw); go_simp; try with_reducible rfl))) | (refine wpAnyH_take (i := 4) (v := undef) (by simp only [gA, gB, gC]; rfl) (by kernel_rfl) (by kernel_rfl) (by kernel_rfl) (by exact fun _ _ _ h => h) (Or.inr ⟨by rfl, rfl⟩) (by assumption) ?_) | fail); simp only [Act.put, sA, sB, sC, hw1, hw2]
  (first | (refine wpAnyH_take (i := 5) (v := ?_) (by simp only [gA, gB, gC]; rfl) (by kernel_rfl) (by kernel_rfl) (by kernel_rfl) (by exact fun _ _ _ h => h) (Or.inl ⟨by rfl, ?_⟩) (by assumption) ?_; rotate_left; (focus (intro w hSw; (try dsimp only at hSw); go_simp; try with_reducible rfl))) | (refine wpAnyH_take (i := 5) (v := undef) (by simp only [gA, gB, gC]; rfl) (by kernel_rfl) (by kernel_rfl) (by kernel_rfl) (by exact fun _ _ _ h => h) (Or.inr ⟨by rfl, rfl⟩) (by assumption) ?_) | fail); simp only [Act.put, sA, sB, sC, hw1, hw2]
  (first | (refine wpAnyH_take (i := 6) (v := ?_) (by simp only [gA, gB, gC]; rfl) (by kernel_rfl) (by kernel_rfl) (by kernel_rfl) (by exact fun _ _ _ h => h) (Or.inl ⟨by rfl, ?_⟩) (by assumption) ?_; rotate_left; (focus (intro w hSw; (try dsimp only at hSw); go_simp; try with_reducible rfl))) | (refine wpAnyH_take (i := 6) (v := undef) (by simp only [gA, gB, gC]; rfl) (by kernel_rfl) (by kernel_rfl) (by kernel_rfl) (by exact fun _ _ _ h => h) (Or.inr ⟨by rfl, rfl⟩) (by assumption) ?_) | fail); simp only [Act.put, sA, sB, sC, hw1, hw2]
  refine wpAnyH_ready (rs := [3]) (by kernel_rfl) (by simp) ?_; refine AllReadyH.cons (by simp only [gA, gB, gC]; rfl) (fun K hK => ?_) AllReadyH.nil; go_simp; refine hK.out _ _ (by first | exact q0 | go_keep) ?_; clear hHeld hK; intro hHeld; (try simp only [Act.put, sA, sB, sC, hw1, hw2])
  first | (refine wpAnyH_take (i := 7) (v := undef) (by simp only [gA, gB, gC]; rfl) (by kernel_rfl) (by kernel_rfl) (by kernel_rfl) (by exact fun _ _ _ h => h) (Or.inr ⟨by rfl, rfl⟩) (by assumption) ?_; simp only [Act.put, sA, sB, sC, hw1, hw2]) | (refine wpAnyH_ready (rs := [7]) (by kernel_rfl) (by simp) ?_; refine AllReadyH.cons (by simp only [gA, gB, gC]; rfl) (fun K hK => ?_) AllReadyH.nil; go_simp; (first | (go_at_call 64; refine (c2 _).mono ?_; rintro e w' ⟨rfl, rfl⟩)); refine hK.out _ _ (by first | exact q0 | go_keep) ?_; clear hHeld hK; intro hHeld; (try simp only [Act.put, sA, sB, sC, hw1, hw2])) | fail
  (first | (refine wpAnyH_take (i := 8) (v := ?_) (by simp only [gA, gB, gC]; rfl) (by kernel_rfl) (by kernel_rfl) (by kernel_rfl) (by exact fun _ _ _ h => h) (Or.inl ⟨by rfl, ?_⟩) (by assumption) ?_; rotate_left; (focus (intro w hSw; (try dsimp only at hSw); go_simp; try with_reducible rfl))) | (refine wpAnyH_take (i := 8) (v := undef) (by simp only [gA, gB, gC]; rfl) (by kernel_rfl) (by kernel_rfl) (by kernel_rfl) (by exact fun _ _ _ h => h) (Or.inr ⟨by rfl, rfl⟩) (by assumption) ?_) | fail); simp only [Act.put, sA, sB, sC, hw1, hw2]
  (first | (refine wpAnyH_take (i := 9) (v := ?_) (by simp only [gA, gB, gC]; rfl) (by kernel_rfl) (by kernel_rfl) (by kernel_rfl) (by exact fun _ _ _ h => h) (Or.inl ⟨by rfl, ?_⟩) (by assumption) ?_; rotate_left; (focus (intro w hSw; (try dsimp only at hSw); go_simp; try with_reducible rfl))) | (refine wpAnyH_take (i := 9) (v := undef) (by simp only [gA, gB, gC]; rfl) (by kernel_rfl) (by kernel_rfl) (by kernel_rfl) (by exact fun _ _ _ h => h) (Or.inr ⟨by rfl, rfl⟩) (by assumption) ?_) | fail); simp only [Act.put, sA, sB, sC, hw1, hw2]
  refine wpAnyH_ready (rs := [10]) (by kernel_rfl) (by simp) ?_; refine AllReadyH.cons (by simp only [gA, gB, gC]; rfl) (fun K hK => ?_) AllReadyH.nil; go_simp; refine hK.out _ _ (by first | exact q0 | go_keep) ?_; clear hHeld hK; intro hHeld; (try simp only [Act.put, sA, sB, sC, hw1, hw2])
  refine wpAnyH_done (by kernel_rfl) ?_ _
  go_wp2_with fail
  have q1 : (((w.alloc (.cells #[.int .i64 A, .int .i64 (A + B), .int .i64 x.c, .int .i64 x.g] 29)).alloc (.cells #[.int .i64 0, .int .i64 0, .int .i64 0, .int .i64 0] 29)).drew).cell? ⟨w.heap.size, 1, none⟩ = some (.int .i64 (A + B)) := by simp [World.cell?_alloc_at]
  have hw3 : IntKind.i64.wrap (8 - (A + B)) = 8 - (A + B) := Go.IntWalk.i64_in _ (by omega)
  have hw4 : IntKind.i64.wrap (A + B + C) = A + B + C := Go.IntWalk.i64_in _ (by omega)
  refine wp_region_held_drew (S := (fun W => W.cell? ⟨w.heap.size, 1, none⟩ = some (.int .i64 (A + B)))) (by kernel_rfl) (by first | exact q1 | go_keep) ?_
  intro hHeld
  (first | (refine wpAnyH_take (i := 0) (v := ?_) (by simp only [gA, gB, gC]; rfl) (by kernel_rfl) (by kernel_rfl) (by kernel_rfl) (by exact fun _ _ _ h => h) (Or.inl ⟨by rfl, ?_⟩) (by assumption) ?_; rotate_left; (focus (intro w hSw; (try dsimp only at hSw); go_simp; try with_reducible rfl))) | (refine wpAnyH_take (i := 0) (v := undef) (by simp only [gA, gB, gC]; rfl) (by kernel_rfl) (by kernel_rfl) (by kernel_rfl) (by exact fun _ _ _ h => h) (Or.inr ⟨by rfl, rfl⟩) (by assumption) ?_) | fail); simp only [Act.put, sA, sB, sC, hw3, hw4]
  (first | (refine wpAnyH_take (i := 1) (v := ?_) (by simp only [gA, gB, gC]; rfl) (by kernel_rfl) (by kernel_rfl) (by kernel_rfl) (by exact fun _ _ _ h => h) (Or.inl ⟨by rfl, ?_⟩) (by assumption) ?_; rotate_left; (focus (intro w hSw; (try dsimp only at hSw); go_simp; try with_reducible rfl))) | (refine wpAnyH_take (i := 1) (v := undef) (by simp only [gA, gB, gC]; rfl) (by kernel_rfl) (by kernel_rfl) (by kernel_rfl) (by exact fun _ _ _ h => h) (Or.inr ⟨by rfl, rfl⟩) (by assumption) ?_) | fail); simp only [Act.put, sA, sB, sC, hw3, hw4]
  (first | (refine wpAnyH_take (i := 2) (v := ?_) (by simp only [gA, gB, gC]; rfl) (by kernel_rfl) (by kernel_rfl) (by kernel_rfl) (by exact fun _ _ _ h => h) (Or.inl ⟨by rfl, ?_⟩) (by assumption) ?_; rotate_left; (focus (intro w hSw; (try dsimp only at hSw); go_simp; try with_reducible rfl))) | (refine wpAnyH_take (i := 2) (v := undef) (by simp only [gA, gB, gC]; rfl) (by kernel_rfl) (by kernel_rfl) (by kernel_rfl) (by exact fun _ _ _ h => h) (Or.inr ⟨by rfl, rfl⟩) (by assumption) ?_) | fail); simp only [Act.put, sA, sB, sC, hw3, hw4]
  (first | (refine wpAnyH_take (i := 4) (v := ?_) (by simp only [gA, gB, gC]; rfl) (by kernel_rfl) (by kernel_rfl) (by kernel_rfl) (by exact fun _ _ _ h => h) (Or.inl ⟨by rfl, ?_⟩) (by assumption) ?_; rotate_left; (focus (intro w hSw; (try dsimp only at hSw); go_simp; try with_reducible rfl))) | (refine wpAnyH_take (i := 4) (v := undef) (by simp only [gA, gB, gC]; rfl) (by kernel_rfl) (by kernel_rfl) (by kernel_rfl) (by exact fun _ _ _ h => h) (Or.inr ⟨by rfl, rfl⟩) (by assumption) ?_) | fail); simp only [Act.put, sA, sB, sC, hw3, hw4]
  (first | (refine wpAnyH_take (i := 5) (v := ?_) (by simp only [gA, gB, gC]; rfl) (by kernel_rfl) (by kernel_rfl) (by kernel_rfl) (by exact fun _ _ _ h => h) (Or.inl ⟨by rfl, ?_⟩) (by assumption) ?_; rotate_left; (focus (intro w hSw; (try dsimp only at hSw); go_simp; try with_reducible rfl))) | (refine wpAnyH_take (i := 5) (v := undef) (by simp only [gA, gB, gC]; rfl) (by kernel_rfl) (by kernel_rfl) (by kernel_rfl) (by exact fun _ _ _ h => h) (Or.inr ⟨by rfl, rfl⟩) (by assumption) ?_) | fail); simp only [Act.put, sA, sB, sC, hw3, hw4]
  (first | (refine wpAnyH_take (i := 6) (v := ?_) (by simp only [gA, gB, gC]; rfl) (by kernel_rfl) (by kernel_rfl) (by kernel_rfl) (by exact fun _ _ _ h => h) (Or.inl ⟨by rfl, ?_⟩) (by assumption) ?_; rotate_left; (focus (intro w hSw; (try dsimp only at hSw); go_simp; try with_reducible rfl))) | (refine wpAnyH_take (i := 6) (v := undef) (by simp only [gA, gB, gC]; rfl) (by kernel_rfl) (by kernel_rfl) (by kernel_rfl) (by exact fun _ _ _ h => h) (Or.inr ⟨by rfl, rfl⟩) (by assumption) ?_) | fail); simp only [Act.put, sA, sB, sC, hw3, hw4]
  refine wpAnyH_ready (rs := [3]) (by kernel_rfl) (by simp) ?_; refine AllReadyH.cons (by simp only [gA, gB, gC]; rfl) (fun K hK => ?_) AllReadyH.nil; go_simp; refine hK.out _ _ (by first | exact q1 | go_keep) ?_; clear hHeld hK; intro hHeld; (try simp only [Act.put, sA, sB, sC, hw3, hw4])
  first | (refine wpAnyH_take (i := 7) (v := undef) (by simp only [gA, gB, gC]; rfl) (by kernel_rfl) (by kernel_rfl) (by kernel_rfl) (by exact fun _ _ _ h => h) (Or.inr ⟨by rfl, rfl⟩) (by assumption) ?_; simp only [Act.put, sA, sB, sC, hw3, hw4]) | (refine wpAnyH_ready (rs := [7]) (by kernel_rfl) (by simp) ?_; refine AllReadyH.cons (by simp only [gA, gB, gC]; rfl) (fun K hK => ?_) AllReadyH.nil; go_simp; (first | (go_at_call 64; refine (c3 _).mono ?_; rintro e w' ⟨rfl, rfl⟩)); refine hK.out _ _ (by first | exact q1 | go_keep) ?_; clear hHeld hK; intro hHeld; (try simp only [Act.put, sA, sB, sC, hw3, hw4])) | fail
  (first | (refine wpAnyH_take (i := 8) (v := ?_) (by simp only [gA, gB, gC]; rfl) (by kernel_rfl) (by kernel_rfl) (by kernel_rfl) (by exact fun _ _ _ h => h) (Or.inl ⟨by rfl, ?_⟩) (by assumption) ?_; rotate_left; (focus (intro w hSw; (try dsimp only at hSw); go_simp; try with_reducible rfl))) | (refine wpAnyH_take (i := 8) (v := undef) (by simp only [gA, gB, gC]; rfl) (by kernel_rfl) (by kernel_rfl) (by kernel_rfl) (by exact fun _ _ _ h => h) (Or.inr ⟨by rfl, rfl⟩) (by assumption) ?_) | fail); simp only [Act.put, sA, sB, sC, hw3, hw4]
  (first | (refine wpAnyH_take (i := 9) (v := ?_) (by simp only [gA, gB, gC]; rfl) (by kernel_rfl) (by kernel_rfl) (by kernel_rfl) (by exact fun _ _ _ h => h) (Or.inl ⟨by rfl, ?_⟩) (by assumption) ?_; rotate_left; (focus (intro w hSw; (try dsimp only at hSw); go_simp; try with_reducible rfl))) | (refine wpAnyH_take (i := 9) (v := undef) (by simp only [gA, gB, gC]; rfl) (by kernel_rfl) (by kernel_rfl) (by kernel_rfl) (by exact fun _ _ _ h => h) (Or.inr ⟨by rfl, rfl⟩) (by assumption) ?_) | fail); simp only [Act.put, sA, sB, sC, hw3, hw4]
  refine wpAnyH_ready (rs := [10]) (by kernel_rfl) (by simp) ?_; refine AllReadyH.cons (by simp only [gA, gB, gC]; rfl) (fun K hK => ?_) AllReadyH.nil; go_simp; refine hK.out _ _ (by first | exact q1 | go_keep) ?_; clear hHeld hK; intro hHeld; (try simp only [Act.put, sA, sB, sC, hw3, hw4])
  refine wpAnyH_done (by kernel_rfl) ?_ _
  go_wp2_with fail
  refine (c4 _).mono ?_
  rintro e w' ⟨rfl, rfl⟩
  go_wp2_with fail
  exact bodyPost_ret (v := (⟨A, A + B, A + B + C, G⟩ : Rg).v) (by simp [results, Tryd.results41, go_sem]) rfl ⟨rfl, (below2 _ _ _).drew.drew⟩
end Go.Proofs.YtacjfbomjglnjaaDoor

/-! THE CHAIN OF BYTES, IN PLAIN WORDS, AND THE DOCUMENT'S OWN FUNCTIONS (donjonref8). -/
namespace Go.Proofs.YtacjfbomjglnjaaDoor
open Go.RowKit
set_option maxRecDepth 8000
set_option linter.unusedSimpArgs false
set_option linter.unusedVariables false

/-- One byte more. -/
def st (h c : Nat) : Nat := (1099511628211 * (h ^^^ c)) % 18446744073709551616
def chain (h : Nat) (l : List UInt8) : Nat := l.foldl (fun h c => st h c.toNat) h
theorem st_lt (h c : Nat) : st h c < 18446744073709551616 := Nat.mod_lt _ (by decide)
theorem chain_nil (h : Nat) : chain h [] = h := by
  unfold chain
  rw [List.foldl_nil]
theorem chain_append (h : Nat) (a b : List UInt8) : chain h (a ++ b) = chain (chain h a) b := by
  unfold chain
  rw [List.foldl_append]
theorem chain_one (h : Nat) (c : UInt8) : chain h [c] = st h c.toNat := by
  unfold chain
  rw [List.foldl_cons, List.foldl_nil]
theorem chain_lt {h : Nat} (hh : h < 18446744073709551616) (l : List UInt8) : chain h l < 18446744073709551616 := by
  rcases List.eq_nil_or_concat l with rfl | ⟨r, c, rfl⟩
  · rw [chain_nil]; exact hh
  · rw [List.concat_eq_append, chain_append, chain_one]
    exact st_lt _ _
theorem mul_back {x : Nat} (hx : x < 18446744073709551616) : (x * 1099511628211 % 18446744073709551616) * 14886173955864302971 % 18446744073709551616 = x := by
  rw [Nat.mod_mul_mod, Nat.mul_assoc, Nat.mul_mod, show (1099511628211 * 14886173955864302971) % 18446744073709551616 = 1 by decide, Nat.mul_one, Nat.mod_mod]
  exact Nat.mod_eq_of_lt hx
theorem st_inj {h a b : Nat} (hh : h < 18446744073709551616) (ha : a < 18446744073709551616) (hb : b < 18446744073709551616) (e : st h a = st h b) : a = b := by
  have x1 : h ^^^ a < 18446744073709551616 := Nat.xor_lt_two_pow (n := 64) hh ha
  have x2 : h ^^^ b < 18446744073709551616 := Nat.xor_lt_two_pow (n := 64) hh hb
  have e2 : h ^^^ a = h ^^^ b := by
    unfold st at e
    rw [Nat.mul_comm, Nat.mul_comm 1099511628211] at e
    rw [← mul_back x1, e, mul_back x2]
  have e3 : h ^^^ (h ^^^ a) = h ^^^ (h ^^^ b) := by rw [e2]
  rwa [← Nat.xor_assoc, ← Nat.xor_assoc, Nat.xor_self, Nat.zero_xor, Nat.zero_xor] at e3
theorem st_run {h c : Nat} (hh : h < 18446744073709551616) (hc : c < 256) : IntKind.u64.wrap (bits .xor .u64 (h : Int) (c : Int) * 1099511628211) = (st h c : Int) := by
  rw [bits_xor_u64_nat h c hh (by omega), IntKind.wrap_u64]
  unfold st
  rw [Nat.mul_comm, Int.natCast_emod, Int.natCast_mul]
  rfl

/-- Bytes in memory. -/
def BytesAt (w : World) (a : Option Addr) (n : Nat) (l : List UInt8) : Prop :=
  l.length = n ∧ ∀ j, j < n → ∃ y, a = some y ∧ w.cell? (y.add j) = some (.int .u8 ((l.getD j 0).toNat : Int))
theorem BytesAt.below {w w' : World} {a : Option Addr} {n : Nat} {l : List UInt8} (h : BytesAt w a n l) (b : Below w.heap.size w w') : BytesAt w' a n l := by
  refine ⟨h.1, fun j hj => ?_⟩
  obtain ⟨y, hy, hc⟩ := h.2 j hj
  exact ⟨y, hy, (b.cell (World.block_lt_of_cell? _ _ hc)).trans hc⟩
theorem chain_take (h : Nat) (l : List UInt8) {i : Nat} (hi : i < l.length) : chain h (l.take (i + 1)) = st (chain h (l.take i)) (l.getD i 0).toNat := by
  rw [List.take_add_one, List.getElem?_eq_getElem hi, List.getD_eq_getElem?_getD, List.getElem?_eq_getElem hi]
  rw [show (some l[i]).toList = [l[i]] from rfl, chain_append, chain_one, Option.getD_some]

end Go.Proofs.YtacjfbomjglnjaaDoor

/-! A SALT'S EIGHT BYTES, AND THE DOCUMENT'S OWN Of; rows of bytes of one's own. -/
namespace Go.Proofs.YtacjfbomjglnjaaDoor
open Go.RowKit
set_option maxRecDepth 8000
set_option linter.unusedSimpArgs false
set_option linter.unusedVariables false

/-- The first k of a salt's eight bytes, the highest first. -/
def saltTo (s k : Nat) : List UInt8 := (List.range k).map fun j => UInt8.ofNat (s / 2 ^ (8 * (7 - j)))
theorem saltTo_succ (s k : Nat) : saltTo s (k + 1) = saltTo s k ++ [UInt8.ofNat (s / 2 ^ (8 * (7 - k)))] := by simp [saltTo, List.range_succ]
theorem saltTo_len (s k : Nat) : (saltTo s k).length = k := by simp [saltTo]
/-- What a salt and a word come to. -/
def saltN (x : Int) : Nat := (x % 18446744073709551616).toNat
def ofN (x : Int) (l : List UInt8) : Nat := chain (chain 14695981039346656037 (saltTo (saltN x) 8)) l
theorem saltN_lt (x : Int) : saltN x < 18446744073709551616 := by unfold saltN; omega
theorem start_lt : (14695981039346656037 : Nat) < 18446744073709551616 := by decide
theorem ofN_lt (x : Int) (l : List UInt8) : ofN x l < 18446744073709551616 := chain_lt (chain_lt start_lt _) _

/-- A row of bytes of the call's own. -/
def valsB (l : List UInt8) : List Value := l.map fun c => .int .u8 (c.toNat : Int)
theorem valsB_len (l : List UInt8) : (valsB l).length = l.length := by simp [valsB]
def OwnB (w : World) (base : Nat) (v : Value) (l : List UInt8) : Prop := w.ownsRow base 5 1 v l.length (valsB l)
theorem ownB_nil (w : World) (base : Nat) : OwnB w base (.slice none 0 0) [] := World.ownsRow_nil _ _ _ _
theorem OwnB.slice {w : World} {base : Nat} {v : Value} {l : List UInt8} (h : OwnB w base v l) : ∃ a cap, v = .slice a l.length cap ∧ BytesAt w a l.length l := by
  have hrow : w.ownsRow base 5 1 v l.length (valsB l) := h
  rcases h.2 with ⟨rfl, h2⟩ | ⟨g, cap, cur, rfl, _⟩
  · exact ⟨none, 0, by rw [h2], rfl, fun j hj => by omega⟩
  · refine ⟨_, cap, rfl, rfl, fun j hj => ⟨_, rfl, ?_⟩⟩
    rw [add_at g j, hrow.cellAt j (by omega)]
    simp [valsB, List.getElem?_eq_getElem hj, List.getD_eq_getElem?_getD]
theorem OwnB.below {w w' : World} {base : Nat} {v : Value} {l : List UInt8} (h : OwnB w base v l) (b : Below w.heap.size w w') : OwnB w' base v l := by
  refine ⟨h.1, ?_⟩
  rcases h.2 with h1 | ⟨g, cap, cur, hv, hb, hg, rest⟩
  · exact .inl h1
  · exact .inr ⟨g, cap, cur, hv, hb, (b.block g (Array.getElem?_eq_some_iff.1 hg).1).trans hg, rest⟩
theorem info_u8 : (Tryd.prog.info? 5).map (fun i => (i.zero, i.size, i.bytes)) = some (some (.int .u8 0), 1, 1) := by kernel_rfl
theorem info_u8s : ∃ i, Tryd.prog.info? 5 = some i ∧ i.zero = some (.int .u8 0) ∧ i.size = 1 ∧ i.bytes = 1 := by
  have := info_u8
  cases h : Tryd.prog.info? 5 with
  | none => rw [h] at this; cases this
  | some i =>
    rw [h] at this
    have hq : (i.zero, i.size, i.bytes) = (some (.int .u8 0), 1, 1) := by simpa using this
    exact ⟨i, rfl, congrArg Prod.fst hq, congrArg (fun p => p.2.1) hq, congrArg (fun p => p.2.2) hq⟩
/-- append of bytes that lie anywhere. -/
theorem append_bytes (W : World) (base : Nat) (v : Value) (l : List UInt8) (y : Addr) (n cap : Nat) (r : List UInt8) (hr : BytesAt W (some y) n r) (hc : n ≤ cap) (hown : OwnB W base v l) (hb : base ≤ W.heap.size) (hl : l.length < 900000) (hn : n < 900000) :
    ∃ v' W', (Builtin.append_ #[74, 74] 74 #[v, .slice (some y) n cap]).run Tryd.prog W = .ok v' W' ∧ OwnB W' base v' (l ++ r) ∧ Below base W W' := by
  obtain ⟨i, hi, hz, hs, hby⟩ := info_u8s
  have ho : W.ownsRow base 5 1 v l.length (valsB l) := hown
  obtain ⟨v', W', h1, h2, h3, _⟩ := run_append_own (P := Tryd.prog) W base 74 74 5 i _ 1 1 Tryd.underlying74 hi hz hs hby rfl (by decide) v l.length (valsB l) ho y n cap (valsB r) (by rw [valsB_len, hr.1]; omega) (fun j u hu => by
    have hj : j < r.length := by have := (List.getElem?_eq_some_iff.1 hu).1; rwa [valsB_len] at this
    obtain ⟨y', hy', hcell⟩ := hr.2 j (by rw [← hr.1]; exact hj)
    injection hy' with hy'
    subst hy'
    rw [hcell, ← hu]
    simp [valsB, List.getElem?_eq_getElem hj, List.getD_eq_getElem?_getD]) (by
      intro u hu
      obtain ⟨c, _, rfl⟩ := List.mem_map.1 hu
      simp [Value.oneCell']) (by simp only [maxLen]; omega) (by omega) (by omega)
  refine ⟨v', W', h1, ?_, ?_⟩
  · unfold OwnB valsB
    rw [List.map_append, List.length_append, hr.1]
    exact h2
  · exact (Below.refl base W).grown h3 hb (fun k hk => (ho.lt k hk).1)
theorem append_bytes_any (W : World) (base : Nat) (v : Value) (l : List UInt8) (a : Option Addr) (n cap : Nat) (r : List UInt8) (hr : BytesAt W a n r) (hz : a = none → cap = 0) (hc : n ≤ cap) (hown : OwnB W base v l) (hb : base ≤ W.heap.size) (hl : l.length < 900000) (hn : n < 900000) :
    ∃ v' W', (Builtin.append_ #[74, 74] 74 #[v, .slice a n cap]).run Tryd.prog W = .ok v' W' ∧ OwnB W' base v' (l ++ r) ∧ Below base W W' := by
  cases a with
  | some y => exact append_bytes W base v l y n cap r hr hc hown hb hl hn
  | none =>
    obtain rfl := hz rfl
    obtain rfl : n = 0 := by omega
    obtain rfl : r = [] := List.eq_nil_of_length_eq_zero hr.1
    obtain ⟨i, hi, _, hs, _⟩ := info_u8s
    have ho : W.ownsRow base 5 1 v l.length (valsB l) := hown
    refine ⟨v, W, run_append_owned_none (P := Tryd.prog) (w := W) base 74 74 5 i 1 Tryd.underlying74 hi v l.length (valsB l) ho, by rw [List.append_nil]; exact hown, Below.refl _ _⟩
section
variable {ops : Array Oper} {rest : List Oper} {o : Oper} {a : Act} {w : World} {Q : Exit → Act → World → Prop}
/-- append, by its run. -/
theorem wpList_append_u8 (hg : o.guard = none) (x y : Operand) (ho : o.op = .call { callee := .builtin .append, args := #[x, y], argTypes := #[74, 74] }) (hty : o.type = 74) {u v r : Value} {w' : World} (hx : a.eval x = u) (hy : a.eval y = v)
    (hc : (Builtin.append_ #[74, 74] 74 #[u, v]).run Tryd.prog w = .ok r w')
    (h : wpList Tryd.prog ops Q rest (a.put o.dst r) w') : wpList Tryd.prog ops Q (o :: rest) a w := by
  refine wpList_value hg ?_ h
  unfold execOp
  simp only [ho, hty, resolve, invoke, builtin, Sem.run_bind, Sem.run_pure, Result.andThen_ok]
  simp [hx, hy, hc, Result.andThen]
end
/-- A text as bytes, in a row of its own. -/
theorem conv_str (w : World) (u : ByteArray) : ∃ cap W, (convert 9 74 (.string u)).run Tryd.prog w = .ok (.slice (some ⟨w.heap.size, 0, none⟩) u.size cap) W ∧ BytesAt W (some ⟨w.heap.size, 0, none⟩) u.size u.data.toList ∧ Below w.heap.size w W := by
  have hr := Go.Lib.run_convert_string_bytes (P := Tryd.prog) w 9 74 5 u Tryd.underlying9 Tryd.underlying74 Tryd.underlying5
  refine ⟨_, _, hr, ⟨Array.length_toList, fun j hj => ⟨_, rfl, ?_⟩⟩, ⟨rfl, rfl, rfl, by rw [Go.Lib.bytesWorld_size]; omega, fun k hk => Go.Lib.bytesWorld_at_old w _ _ k hk⟩⟩
  rw [add_at w.heap.size j, Go.Lib.bytesWorld_cell w _ _ j hj]

end Go.Proofs.YtacjfbomjglnjaaDoor

/-! WHAT A ROW OF ONE'S OWN MAY TOUCH WHEN IT GROWS: its own block, and new ones; where it lies then. -/
namespace Go.Proofs.YtacjfbomjglnjaaDoor
open Go.RowKit
set_option maxRecDepth 8000
set_option linter.unusedSimpArgs false
set_option linter.unusedVariables false

/-- The row lies where it lay, or in a new block. -/
def Moved (w : World) (v v' : Value) : Prop := v'.ownBlock = v.ownBlock ∨ ∀ k, v'.ownBlock = some k → w.heap.size ≤ k
structure Grew (w : World) (v : Value) (w' : World) (v' : Value) : Prop where
  by_ : w.grownBy w' v.ownBlock
  at_ : Moved w v v'
theorem Grew.refl (w : World) (v : Value) : Grew w v w v := ⟨⟨rfl, rfl, rfl, Nat.le_refl _, fun _ _ _ => rfl⟩, .inl rfl⟩
theorem Grew.trans {w w1 w2 : World} {v v1 v2 : Value} (h : Grew w v w1 v1) (k : Grew w1 v1 w2 v2) : Grew w v w2 v2 := by
  refine ⟨⟨k.by_.os.trans h.by_.os, k.by_.tape.trans h.by_.tape, k.by_.output.trans h.by_.output, Nat.le_trans h.by_.size k.by_.size, fun j hj hne => ?_⟩, ?_⟩
  · refine (k.by_.block j (Nat.lt_of_lt_of_le hj h.by_.size) ?_).trans (h.by_.block j hj hne)
    rcases h.at_ with e | e
    · rw [e]; exact hne
    · intro hq
      have := e j hq.symm
      omega
  · rcases k.at_ with e | e
    · rcases h.at_ with e' | e'
      · exact .inl (e.trans e')
      · exact .inr fun j hj => e' j (e ▸ hj)
    · exact .inr fun j hj => Nat.le_trans h.by_.size (e j hj)
theorem Grew.alloc (w : World) (v : Value) (o : Obj) : Grew w v (w.alloc o) v := ⟨World.grownBy_alloc w o _, .inl rfl⟩
theorem Grew.drew {w w' : World} {v v' : Value} (h : Grew w v w' v') : Grew w v w'.drew v' := ⟨⟨h.by_.os, h.by_.tape, h.by_.output, h.by_.size, h.by_.block⟩, h.at_⟩
theorem Grew.cell {w w' : World} {v v' : Value} (h : Grew w v w' v') {a : Addr} (ha : a.block < w.heap.size) (hne : some a.block ≠ v.ownBlock) : w'.cell? a = w.cell? a := World.cell?_of_block (h.by_.block _ ha hne)
theorem Grew.apart {w w' : World} {v v' : Value} (h : Grew w v w' v') {g : Nat} (hg : g < w.heap.size) (hne : some g ≠ v.ownBlock) : some g ≠ v'.ownBlock := by
  rcases h.at_ with e | e
  · rw [e]; exact hne
  · intro hq
    have := e g hq.symm
    omega
theorem Grew.below {w w' : World} {v v' : Value} (h : Grew w v w' v') {base : Nat} (hb : base ≤ w.heap.size) (hv : ∀ k, v.ownBlock = some k → base ≤ k) : Below base w w' := (Below.refl base w).grown h.by_ hb hv

section
variable {P : Program} (w : World)
/-- append onto a row of one's own, wherever it lies then. -/
theorem run_append_grew (base : Nat) (t ty e : TypeId) (i : TypeInfo) (z : Value) (size bytes : Nat) (ht : P.underlying t = some (.slice e)) (hi : P.info? e = some i) (hz : i.zero = some z)
    (hsize : i.size = size) (hby : i.bytes = bytes) (hzs : z.cells.size = size) (hsz : 0 < size)
    (v : Value) (n : Nat) (xs : List Value) (hown : w.ownsRow base e size v n xs)
    (a : Addr) (m c : Nat) (news : List Value) (hl : news.length = m * size) (hnews : ∀ j u, news[j]? = some u → w.cell? (a.add j) = some u) (h1 : ∀ u ∈ news, u.oneCell' = true)
    (h63 : n + m ≤ maxLen) (hbytes : (n + m) * bytes ≤ 140737488355328) (hbase : base ≤ w.heap.size) :
    ∃ v' w', (Builtin.append_ #[t, t] ty #[v, .slice (some a) m c]).run P w = .ok v' w' ∧ w'.ownsRow base e size v' (n + m) (xs ++ news) ∧ Grew w v w' v' := by
  obtain ⟨v', w', hr, ho, hg, hq⟩ := run_append_own w base t ty e i z size bytes ht hi hz hsize hby hzs hsz v n xs hown a m c news hl hnews h1 h63 hbytes hbase
  refine ⟨v', w', hr, ho, hg, ?_⟩
  have hown' := hown
  rcases hown.2 with ⟨rfl, rfl⟩ | ⟨g, cap, cur, rfl, hbg, hgg, hnc, hcm, hcs, htake⟩
  · have hx : xs = [] := List.eq_nil_of_length_eq_zero (by simpa using hown.1)
    subst hx
    obtain ⟨v2, w2, hr2, ho2, _⟩ := run_append_own w w.heap.size t ty e i z size bytes ht hi hz hsize hby hzs hsz (.slice none 0 0) 0 [] (World.ownsRow_nil _ _ _ _) a m c news hl hnews h1 h63 hbytes (Nat.le_refl _)
    rw [hr] at hr2
    injection hr2 with e1 e2
    subst e1
    exact .inr fun k hk => (ho2.lt k hk).1
  · subst hsize
    by_cases hroom : n + m ≤ cap
    · have hfit : n * i.size + news.length ≤ cur.size := by rw [hl, hcs, ← Nat.add_mul]; exact Nat.mul_le_mul_right _ hroom
      have hr2 := run_append_room (P := P) w t ty e i ht hi g n cap cur hgg a m c news hl hnews h1 hroom hfit
      rw [hr] at hr2
      injection hr2 with e1 e2
      subst e1
      exact .inl rfl
    · have holds : ∀ j u, xs[j]? = some u → w.cell? ((⟨g, 0, none⟩ : Addr).add j) = some u := hown'.cells (g := g) rfl
      subst hby
      have hr2 := run_append_grow (P := P) w t ty e i z ht hi hz ⟨g, 0, none⟩ n cap xs hown'.1 holds a m c news hl hnews (by omega) (by simp only [maxLen] at h63; omega) (growslice_fits (by omega) hbytes)
      rw [hr] at hr2
      injection hr2 with e1 e2
      subst e1
      refine .inr fun k hk => ?_
      simp [Value.ownBlock] at hk
      omega
theorem run_append_str_grew (base : Nat) (t u ty e : TypeId) (i : TypeInfo) (ht : P.underlying t = some (.slice e)) (hu : P.underlying u = some .string) (hi : P.info? e = some i) (hz : i.zero = some (.int .u8 0))
    (hsize : i.size = 1) (hby : i.bytes = 1)
    (v : Value) (n : Nat) (xs : List Value) (hown : w.ownsRow base e 1 v n xs) (s : ByteArray)
    (h63 : n + s.size ≤ maxLen) (hbytes : n + s.size ≤ 140737488355328) (hbase : base ≤ w.heap.size) :
    ∃ v' w', (Builtin.append_ #[t, u] ty #[v, .string s]).run P w = .ok v' w' ∧ w'.ownsRow base e 1 v' (n + s.size) (xs ++ Go.Lib.strCells s) ∧ Grew w v w' v' := by
  obtain ⟨v', w', hr, ho, hg, hq⟩ := Go.Lib.run_append_own_string w base t u ty e i ht hu hi hz hsize hby v n xs hown s h63 hbytes hbase
  refine ⟨v', w', hr, ho, hg, ?_⟩
  have hown' := hown
  rcases hown.2 with ⟨rfl, rfl⟩ | ⟨g, cap, cur, rfl, hbg, hgg, hnc, hcm, hcs, htake⟩
  · have hx : xs = [] := List.eq_nil_of_length_eq_zero (by simpa using hown.1)
    subst hx
    obtain ⟨v2, w2, hr2, ho2, _⟩ := Go.Lib.run_append_own_string w w.heap.size t u ty e i ht hu hi hz hsize hby (.slice none 0 0) 0 [] (World.ownsRow_nil _ _ _ _) s h63 hbytes (Nat.le_refl _)
    rw [hr] at hr2
    injection hr2 with e1 e2
    subst e1
    exact .inr fun k hk => (ho2.lt k hk).1
  · by_cases hroom : n + s.size ≤ cap
    · have hcs' : cur.size = cap := by simpa using hcs
      have hr2 := Go.Lib.run_append_room_string (P := P) w t u ty e i ht hu hi hsize g n cap cur hgg s hroom (by omega)
      rw [hr] at hr2
      injection hr2 with e1 e2
      subst e1
      exact .inl rfl
    · have holds : ∀ j u, xs[j]? = some u → w.cell? ((⟨g, 0, none⟩ : Addr).add j) = some u := hown'.cells (g := g) rfl
      have hr2 := Go.Lib.run_append_grow_string (P := P) w t u ty e i (.int .u8 0) ht hu hi hz ⟨g, 0, none⟩ n cap xs (by rw [hsize]; exact hown'.1) holds s (by omega) (by simp only [maxLen] at h63; omega) (by rw [hby]; exact growslice_fits (by omega) (by omega))
      rw [hr] at hr2
      injection hr2 with e1 e2
      subst e1
      refine .inr fun k hk => ?_
      simp [Value.ownBlock] at hk
      omega
end
end Go.Proofs.YtacjfbomjglnjaaDoor

/-! WHAT IS WRITTEN BEHIND BYTES: a text, a label, a number (donjonref10). -/
namespace Go.Proofs.YtacjfbomjglnjaaDoor
open Go.RowKit
set_option maxRecDepth 8000
set_option linter.unusedSimpArgs false
set_option linter.unusedVariables false

/-- A number's lowest eight bits. -/
def lowB (x : Int) : UInt8 := UInt8.ofNat (x % 256).toNat
theorem lowB_nat (x : Int) : ((lowB x).toNat : Int) = x % 256 := by
  unfold lowB
  simp [UInt8.toNat_ofNat']
  omega
def encT (s : ByteArray) : List UInt8 := lowB s.size :: s.data.toList
def encL (l : Lab) : List UInt8 := [lowB l.s, lowB l.c, lowB l.i, lowB l.k]
def encW (n : Int) : List UInt8 := saltTo (saltN n) 8
theorem encT_len (s : ByteArray) : (encT s).length = s.size + 1 := by simp [encT]
theorem encL_len (l : Lab) : (encL l).length = 4 := rfl
theorem encW_len (n : Int) : (encW n).length = 8 := saltTo_len _ _
theorem wrap_u8 (x : Int) : IntKind.u8.wrap x = ((lowB x).toNat : Int) := by rw [lowB_nat, IntKind.wrap_u8]

/-- append of bytes that lie anywhere. -/
theorem append_at (W : World) (base : Nat) (v : Value) (l : List UInt8) (y : Addr) (n cap : Nat) (r : List UInt8) (hr : BytesAt W (some y) n r) (hown : OwnB W base v l) (hb : base ≤ W.heap.size) (hl : l.length < 900000) (hn : n < 900000) :
    ∃ v' W', (Builtin.append_ #[74, 74] 74 #[v, .slice (some y) n cap]).run Tryd.prog W = .ok v' W' ∧ OwnB W' base v' (l ++ r) ∧ Grew W v W' v' := by
  obtain ⟨i, hi, hz, hs, hby⟩ := info_u8s
  have ho : W.ownsRow base 5 1 v l.length (valsB l) := hown
  obtain ⟨v', W', h1, h2, h3⟩ := run_append_grew (P := Tryd.prog) W base 74 74 5 i _ 1 1 Tryd.underlying74 hi hz hs hby rfl (by decide) v l.length (valsB l) ho y n cap (valsB r) (by rw [valsB_len, hr.1]; omega) (fun j u hu => by
    have hj : j < r.length := by have := (List.getElem?_eq_some_iff.1 hu).1; rwa [valsB_len] at this
    obtain ⟨y', hy', hcell⟩ := hr.2 j (by rw [← hr.1]; exact hj)
    injection hy' with hy'
    subst hy'
    rw [hcell, ← hu]
    simp [valsB, List.getElem?_eq_getElem hj, List.getD_eq_getElem?_getD]) (by
      intro u hu
      obtain ⟨c, _, rfl⟩ := List.mem_map.1 hu
      simp [Value.oneCell']) (by simp only [maxLen]; omega) (by omega) hb
  refine ⟨v', W', h1, ?_, h3⟩
  unfold OwnB valsB
  rw [List.map_append, List.length_append, hr.1]
  exact h2
theorem bytes_made (W : World) (r : List UInt8) (cs : Array Value) (hcs : cs = (valsB r).toArray) : BytesAt (W.alloc (.cells cs 5)) (some ⟨W.heap.size, 0, none⟩) r.length r := by
  refine ⟨rfl, fun j hj => ⟨_, rfl, ?_⟩⟩
  rw [add_at, World.cell?_alloc_at _ _ _ _ rfl, hcs]
  simp [valsB, List.getElem?_eq_getElem hj, List.getD_eq_getElem?_getD]
theorem BytesAt.grew {W W' : World} {v v' : Value} {g n : Nat} {l : List UInt8} (h : BytesAt W (some ⟨g, 0, none⟩) n l) (k : Grew W v W' v') (hg : g < W.heap.size) (hne : some g ≠ v.ownBlock) : BytesAt W' (some ⟨g, 0, none⟩) n l := by
  refine ⟨h.1, fun j hj => ?_⟩
  obtain ⟨y, hy, hc⟩ := h.2 j hj
  refine ⟨y, hy, ?_⟩
  obtain rfl := Option.some.inj hy
  rw [add_at] at hc ⊢
  rw [k.cell (a := ⟨g, j, none⟩) hg hne]
  exact hc
theorem Grew.ownB {W W' : World} {v v' : Value} (k : Grew W v W' v') {base : Nat} {l : List UInt8} (h : OwnB W base v l) (hb : base ≤ W.heap.size) : Below base W W' := k.below hb fun j hj => (World.ownsRow.lt (show W.ownsRow base 5 1 v l.length (valsB l) from h) j hj).1
theorem OwnB.apart {W : World} {base : Nat} {v : Value} {l : List UInt8} (h : OwnB W base v l) : some W.heap.size ≠ v.ownBlock := fun e => by
  have := (World.ownsRow.lt (show W.ownsRow base 5 1 v l.length (valsB l) from h) _ e.symm).2
  omega
/-- append of a row that was just made. -/
theorem append_made (W : World) (base : Nat) (v : Value) (l : List UInt8) (r : List UInt8) (cs : Array Value) (hcs : cs = (valsB r).toArray) (hown : OwnB W base v l) (hb : base ≤ W.heap.size) (hl : l.length < 900000) (hn : r.length < 900000) :
    ∃ v' W', (Builtin.append_ #[74, 74] 74 #[v, .slice (some ⟨W.heap.size, 0, none⟩) r.length r.length]).run Tryd.prog (W.alloc (.cells cs 5)) = .ok v' W' ∧ OwnB W' base v' (l ++ r) ∧ Grew W v W' v' := by
  obtain ⟨v', W', h1, h2, h3⟩ := append_at _ base v l ⟨W.heap.size, 0, none⟩ r.length r.length r (bytes_made W r cs hcs) (hown.below (alloc_below _ _)) (by simp; omega) hl hn
  exact ⟨v', W', h1, h2, (Grew.alloc W v _).trans h3⟩
/-- append of a text's bytes. -/
theorem append_text (W : World) (base : Nat) (v : Value) (l : List UInt8) (s : ByteArray) (hown : OwnB W base v l) (hb : base ≤ W.heap.size) (hl : l.length < 900000) (hn : s.size < 900000) :
    ∃ v' W', (Builtin.append_ #[74, 9] 74 #[v, .string s]).run Tryd.prog W = .ok v' W' ∧ OwnB W' base v' (l ++ s.data.toList) ∧ Grew W v W' v' := by
  obtain ⟨i, hi, hz, hs, hby⟩ := info_u8s
  have ho : W.ownsRow base 5 1 v l.length (valsB l) := hown
  obtain ⟨v', W', h1, h2, h3⟩ := run_append_str_grew (P := Tryd.prog) W base 74 9 74 5 i Tryd.underlying74 Tryd.underlying9 hi hz hs hby v l.length (valsB l) ho s (by simp only [maxLen]; omega) (by omega) hb
  refine ⟨v', W', h1, ?_, h3⟩
  unfold OwnB valsB
  rw [List.map_append, List.length_append, Array.length_toList]
  exact h2
section
variable {ops : Array Oper} {rest : List Oper} {o : Oper} {a : Act} {w : World} {Q : Exit → Act → World → Prop}
theorem step_append_u8 {K : Act → World → Prop} {E : Prop} (hg : o.guard = none) (s x : Operand) (hop : o.op = Op.call { callee := Callee.builtin Builtin.append, args := #[s, x], argTypes := #[74, 74] }) (hty : o.type = 74) {u v r : Value} {w' : World} (hs : a.eval s = u) (hx : a.eval x = v)
    (hrun : (Builtin.append_ #[74, 74] 74 #[u, v]).run Tryd.prog w = .ok r w') (hK : K (a.put o.dst r) w') :
    if Region.wanted o (yielded ops a.tmps) = true then Oper.wp Tryd.prog o a w K Q else E := by
  have hw : Region.wanted o (yielded ops a.tmps) = true := by simp [Region.wanted, hg]
  rw [if_pos hw]
  unfold Oper.wp
  simp [execOp, hop, hty, resolve, invoke, builtin, hs, hx, hrun, Result.andThen]
  exact hK
/-- append of a text, by its run. -/
theorem wpList_append_txt (hg : o.guard = none) (x y : Operand) (ho : o.op = .call { callee := .builtin .append, args := #[x, y], argTypes := #[74, 9] }) (hty : o.type = 74) {u v r : Value} {w' : World} (hx : a.eval x = u) (hy : a.eval y = v)
    (hc : (Builtin.append_ #[74, 9] 74 #[u, v]).run Tryd.prog w = .ok r w')
    (h : wpList Tryd.prog ops Q rest (a.put o.dst r) w') : wpList Tryd.prog ops Q (o :: rest) a w := by
  refine wpList_value hg ?_ h
  unfold execOp
  simp only [ho, hty, resolve, invoke, builtin, Sem.run_bind, Sem.run_pure, Result.andThen_ok]
  simp [hx, hy, hc, Result.andThen]
end



end Go.Proofs.YtacjfbomjglnjaaDoor

/-! MESSAGES, WRITTEN: the document's own EncodeMessage (donjonref10). -/
namespace Go.Proofs.YtacjfbomjglnjaaDoor
open Go.RowKit
set_option maxRecDepth 8000
set_option linter.unusedSimpArgs false
set_option linter.unusedVariables false

theorem OwnB.lower {w : World} {base b : Nat} {v : Value} {l : List UInt8} (h : OwnB w base v l) (hb : b ≤ base) : OwnB w b v l := by
  refine ⟨h.1, ?_⟩
  rcases h.2 with h1 | ⟨g, cap, cur, hv, hg, rest⟩
  · exact .inl h1
  · exact .inr ⟨g, cap, cur, hv, Nat.le_trans hb hg, rest⟩
/-- A message. -/
structure Msg where
  from_ : ByteArray
  label : Lab
  to_ : ByteArray
  box : Lab
  text : ByteArray
abbrev Msg.v (m : Msg) : Value := .agg #[.string m.from_, .int .i64 m.label.s, .int .i64 m.label.c, .int .i64 m.label.i, .int .i64 m.label.k, .string m.to_, .int .i64 m.box.s, .int .i64 m.box.c, .int .i64 m.box.i, .int .i64 m.box.k, .string m.text]
structure Msg.Small (m : Msg) : Prop where
  f : m.from_.size < 100000
  t : m.to_.size < 100000
  x : m.text.size < 100000
def encM (m : Msg) : List UInt8 := encT m.from_ ++ encL m.label ++ encT m.to_ ++ encL m.box ++ encT m.text
abbrev MBox (W : World) (g : Nat) (m : Msg) : Prop := W.cell? ⟨g, 0, none⟩ = some (.string m.from_) ∧ W.cell? ⟨g, 1, none⟩ = some (.int .i64 m.label.s) ∧ W.cell? ⟨g, 2, none⟩ = some (.int .i64 m.label.c) ∧ W.cell? ⟨g, 3, none⟩ = some (.int .i64 m.label.i) ∧ W.cell? ⟨g, 4, none⟩ = some (.int .i64 m.label.k) ∧ W.cell? ⟨g, 5, none⟩ = some (.string m.to_) ∧ W.cell? ⟨g, 6, none⟩ = some (.int .i64 m.box.s) ∧ W.cell? ⟨g, 7, none⟩ = some (.int .i64 m.box.c) ∧ W.cell? ⟨g, 8, none⟩ = some (.int .i64 m.box.i) ∧ W.cell? ⟨g, 9, none⟩ = some (.int .i64 m.box.k) ∧ W.cell? ⟨g, 10, none⟩ = some (.string m.text)
theorem MBox.keep {W W' : World} {g : Nat} {m : Msg} (h : MBox W g m) (b : Below (g + 1) W W') : MBox W' g m := by
  obtain ⟨h0, h1, h2, h3, h4, h5, h6, h7, h8, h9, h10⟩ := h
  have c : ∀ k, W'.cell? ⟨g, k, none⟩ = W.cell? ⟨g, k, none⟩ := fun k => b.cell (p := ⟨g, k, none⟩) (Nat.lt_succ_self g)
  exact ⟨(c _).trans h0, (c _).trans h1, (c _).trans h2, (c _).trans h3, (c _).trans h4, (c _).trans h5, (c _).trans h6, (c _).trans h7, (c _).trans h8, (c _).trans h9, (c _).trans h10⟩
def mcells (m : Msg) : Array Value := #[.string m.from_, .int .i64 m.label.s, .int .i64 m.label.c, .int .i64 m.label.i, .int .i64 m.label.k, .string m.to_, .int .i64 m.box.s, .int .i64 m.box.c, .int .i64 m.box.i, .int .i64 m.box.k, .string m.text]
theorem mbox_alloc (w : World) (m : Msg) (T : TypeId) : MBox (w.alloc (.cells (mcells m) T)) w.heap.size m := by
  refine ⟨?_, ?_, ?_, ?_, ?_, ?_, ?_, ?_, ?_, ?_, ?_⟩ <;> (rw [World.cell?_alloc_at _ _ _ _ rfl]; rfl)

end Go.Proofs.YtacjfbomjglnjaaDoor

/-! ENTRIES, WRITTEN: the document's own EncodeEntry (donjonref10). Written by mk_nenc.py. -/
namespace Go.Proofs.YtacjfbomjglnjaaDoor
open Go.RowKit
set_option maxRecDepth 8000
set_option linter.unusedSimpArgs false
set_option linter.unusedVariables false

/-- An entry of a log. -/
structure Ent where
  seq : Int
  label : Lab
  user : ByteArray
  verb : Int
  object : ByteArray
  verdict : Int
abbrev Ent.v (e : Ent) : Value := .agg #[.int .i64 e.seq, .int .i64 e.label.s, .int .i64 e.label.c, .int .i64 e.label.i, .int .i64 e.label.k, .string e.user, .int .i64 e.verb, .string e.object, .int .i64 e.verdict]
structure Ent.Small (e : Ent) : Prop where
  u : e.user.size < 100000
  o : e.object.size < 100000
def encE (e : Ent) : List UInt8 := encW e.seq ++ encL e.label ++ encT e.user ++ [lowB e.verb] ++ encT e.object ++ [lowB e.verdict]
abbrev EBox (W : World) (g : Nat) (e : Ent) : Prop := W.cell? ⟨g, 0, none⟩ = some (.int .i64 e.seq) ∧ W.cell? ⟨g, 1, none⟩ = some (.int .i64 e.label.s) ∧ W.cell? ⟨g, 2, none⟩ = some (.int .i64 e.label.c) ∧ W.cell? ⟨g, 3, none⟩ = some (.int .i64 e.label.i) ∧ W.cell? ⟨g, 4, none⟩ = some (.int .i64 e.label.k) ∧ W.cell? ⟨g, 5, none⟩ = some (.string e.user) ∧ W.cell? ⟨g, 6, none⟩ = some (.int .i64 e.verb) ∧ W.cell? ⟨g, 7, none⟩ = some (.string e.object) ∧ W.cell? ⟨g, 8, none⟩ = some (.int .i64 e.verdict)
theorem EBox.keep {W W' : World} {g : Nat} {e : Ent} (h : EBox W g e) (b : Below (g + 1) W W') : EBox W' g e := by
  obtain ⟨h0, h1, h2, h3, h4, h5, h6, h7, h8⟩ := h
  have c : ∀ k, W'.cell? ⟨g, k, none⟩ = W.cell? ⟨g, k, none⟩ := fun k => b.cell (p := ⟨g, k, none⟩) (Nat.lt_succ_self g)
  exact ⟨(c _).trans h0, (c _).trans h1, (c _).trans h2, (c _).trans h3, (c _).trans h4, (c _).trans h5, (c _).trans h6, (c _).trans h7, (c _).trans h8⟩
def ecells (e : Ent) : Array Value := #[.int .i64 e.seq, .int .i64 e.label.s, .int .i64 e.label.c, .int .i64 e.label.i, .int .i64 e.label.k, .string e.user, .int .i64 e.verb, .string e.object, .int .i64 e.verdict]
theorem ebox_alloc (w : World) (e : Ent) (T : TypeId) : EBox (w.alloc (.cells (ecells e) T)) w.heap.size e := by
  refine ⟨?_, ?_, ?_, ?_, ?_, ?_, ?_, ?_, ?_⟩ <;> (rw [World.cell?_alloc_at _ _ _ _ rfl]; rfl)

end Go.Proofs.YtacjfbomjglnjaaDoor

/-! NODES, WRITTEN: the document's own Encode (donjonref10). Written by mk_nenc.py. -/
namespace Go.Proofs.YtacjfbomjglnjaaDoor
open Go.RowKit
set_option maxRecDepth 8000
set_option linter.unusedSimpArgs false
set_option linter.unusedVariables false

/-- A node. -/
structure Nod where
  path : ByteArray
  dir : Bool
  label : Lab
  acl : List Gr
  r1 : Int
  r2 : Int
  r3 : Int
  gates : Int
  words : List Int
  by_ : Lab
abbrev Nod.v (n : Nod) (aa : Option Addr) (ca : Nat) (wa : Option Addr) (cw : Nat) : Value := .agg #[.string n.path, .bool n.dir, .int .i64 n.label.s, .int .i64 n.label.c, .int .i64 n.label.i, .int .i64 n.label.k, .slice aa n.acl.length ca, .int .i64 n.r1, .int .i64 n.r2, .int .i64 n.r3, .int .i64 n.gates, .slice wa n.words.length cw, .int .i64 n.by_.s, .int .i64 n.by_.c, .int .i64 n.by_.i, .int .i64 n.by_.k]
def encG (q : Gr) : List UInt8 := encT q.u ++ [lowB q.m]
def dirB (d : Bool) : UInt8 := if d then 1 else 0
def encN (n : Nod) : List UInt8 := encT n.path ++ [dirB n.dir] ++ encL n.label ++ encL n.by_ ++ [lowB (n.acl.length : Int)] ++ n.acl.flatMap encG ++ [lowB n.r1, lowB n.r2, lowB n.r3, lowB n.gates, lowB (n.words.length : Int)] ++ n.words.flatMap encW
/-- Where a node's rows lie. -/
def WrdsAt (W : World) (a : Option Addr) (l : List Int) : Prop := ∀ j x, l[j]? = some x → ∃ y, a = some y ∧ W.cell? (y.add j) = some (.int .i64 x)
theorem WrdsAt.below {W W' : World} {a : Option Addr} {l : List Int} (h : WrdsAt W a l) (b : Below W.heap.size W W') : WrdsAt W' a l := fun j q hq => by
  obtain ⟨y, hy, h1⟩ := h j q hq
  exact ⟨y, hy, (b.cell (World.block_lt_of_cell? _ _ h1)).trans h1⟩
structure Nod.Small (n : Nod) : Prop where
  p : n.path.size < 100000
  a : n.acl.length < 300
  u : ∀ q ∈ n.acl, q.u.size < 1000
  w : n.words.length < 1000
abbrev NBox (W : World) (g : Nat) (n : Nod) (aa : Option Addr) (ca : Nat) (wa : Option Addr) (cw : Nat) : Prop := W.cell? ⟨g, 0, none⟩ = some (.string n.path) ∧ W.cell? ⟨g, 1, none⟩ = some (.bool n.dir) ∧ W.cell? ⟨g, 2, none⟩ = some (.int .i64 n.label.s) ∧ W.cell? ⟨g, 3, none⟩ = some (.int .i64 n.label.c) ∧ W.cell? ⟨g, 4, none⟩ = some (.int .i64 n.label.i) ∧ W.cell? ⟨g, 5, none⟩ = some (.int .i64 n.label.k) ∧ W.cell? ⟨g, 6, none⟩ = some (.slice aa n.acl.length ca) ∧ W.cell? ⟨g, 7, none⟩ = some (.int .i64 n.r1) ∧ W.cell? ⟨g, 8, none⟩ = some (.int .i64 n.r2) ∧ W.cell? ⟨g, 9, none⟩ = some (.int .i64 n.r3) ∧ W.cell? ⟨g, 10, none⟩ = some (.int .i64 n.gates) ∧ W.cell? ⟨g, 11, none⟩ = some (.slice wa n.words.length cw) ∧ W.cell? ⟨g, 12, none⟩ = some (.int .i64 n.by_.s) ∧ W.cell? ⟨g, 13, none⟩ = some (.int .i64 n.by_.c) ∧ W.cell? ⟨g, 14, none⟩ = some (.int .i64 n.by_.i) ∧ W.cell? ⟨g, 15, none⟩ = some (.int .i64 n.by_.k)
theorem NBox.keep {W W' : World} {g : Nat} {n : Nod} {aa : Option Addr} {ca : Nat} {wa : Option Addr} {cw : Nat} (h : NBox W g n aa ca wa cw) (b : Below (g + 1) W W') : NBox W' g n aa ca wa cw := by
  obtain ⟨h0, h1, h2, h3, h4, h5, h6, h7, h8, h9, h10, h11, h12, h13, h14, h15⟩ := h
  have c : ∀ k, W'.cell? ⟨g, k, none⟩ = W.cell? ⟨g, k, none⟩ := fun k => b.cell (p := ⟨g, k, none⟩) (Nat.lt_succ_self g)
  exact ⟨(c _).trans h0, (c _).trans h1, (c _).trans h2, (c _).trans h3, (c _).trans h4, (c _).trans h5, (c _).trans h6, (c _).trans h7, (c _).trans h8, (c _).trans h9, (c _).trans h10, (c _).trans h11, (c _).trans h12, (c _).trans h13, (c _).trans h14, (c _).trans h15⟩
theorem keepG {W W' : World} {g : Nat} {n : Nod} {aa : Option Addr} {ca : Nat} {wa : Option Addr} {cw : Nat} {y : Addr} {q : Gr} (hy : y.block < g + 1) (h : NBox W g n aa ca wa cw ∧ W.cell? y = some (.string q.u) ∧ W.cell? ⟨y.block, y.off + 1, none⟩ = some (.int .i64 q.m)) (b : Below (g + 1) W W') : NBox W' g n aa ca wa cw ∧ W'.cell? y = some (.string q.u) ∧ W'.cell? ⟨y.block, y.off + 1, none⟩ = some (.int .i64 q.m) :=
  ⟨h.1.keep b, (b.cell hy).trans h.2.1, (b.cell (p := ⟨y.block, _, none⟩) hy).trans h.2.2⟩
def ncells (n : Nod) (aa : Option Addr) (ca : Nat) (wa : Option Addr) (cw : Nat) : Array Value := #[.string n.path, .bool n.dir, .int .i64 n.label.s, .int .i64 n.label.c, .int .i64 n.label.i, .int .i64 n.label.k, .slice aa n.acl.length ca, .int .i64 n.r1, .int .i64 n.r2, .int .i64 n.r3, .int .i64 n.gates, .slice wa n.words.length cw, .int .i64 n.by_.s, .int .i64 n.by_.c, .int .i64 n.by_.i, .int .i64 n.by_.k]
theorem nbox_alloc (w : World) (n : Nod) (aa : Option Addr) (ca : Nat) (wa : Option Addr) (cw : Nat) (T : TypeId) : NBox (w.alloc (.cells (ncells n aa ca wa cw) T)) w.heap.size n aa ca wa cw := by
  refine ⟨?_, ?_, ?_, ?_, ?_, ?_, ?_, ?_, ?_, ?_, ?_, ?_, ?_, ?_, ?_, ?_⟩ <;> (rw [World.cell?_alloc_at _ _ _ _ rfl]; rfl)
theorem flat_take {α β : Type} (f : α → List β) (l : List α) {i : Nat} {q : α} (h : l[i]? = some q) : (l.take (i + 1)).flatMap f = (l.take i).flatMap f ++ f q := by
  rw [List.take_add_one, h]
  simp
theorem flat_len {α β : Type} (f : α → List β) (m : Nat) (l : List α) (h : ∀ q ∈ l, (f q).length ≤ m) : (l.flatMap f).length ≤ l.length * m := by
  induction l with
  | nil => simp
  | cons q r ih =>
    rw [List.flatMap_cons, List.length_append, List.length_cons, Nat.add_mul, Nat.one_mul]
    have h1 := h q List.mem_cons_self
    have h2 := ih fun z hz => h z (List.mem_cons_of_mem _ hz)
    omega

end Go.Proofs.YtacjfbomjglnjaaDoor

/-! NAMES AND PATHS AS BYTES, AND THE DOCUMENT'S OWN SMALL FUNCTIONS (donjonref7). -/
namespace Go.Proofs.YtacjfbomjglnjaaDoor
open Go.RowKit
set_option maxRecDepth 8000
set_option linter.unusedSimpArgs false
/-- Where the last slash among the first i bytes stands; nought, if none does. -/
def slashTo (u : ByteArray) : Nat → Nat
  | 0 => 0
  | i + 1 => if u.data.toList.getD i 0 = 47 then i else slashTo u i
theorem slashTo_le (u : ByteArray) : ∀ i, slashTo u i ≤ i
  | 0 => Nat.le_refl _
  | i + 1 => by
    unfold slashTo
    split
    · omega
    · have := slashTo_le u i; omega
theorem byte_at {u : ByteArray} {i : Nat} (h : i < u.size) : u.data.toList.getD i 0 = u[i]'h := by
  have hi : i < u.data.toList.length := by rw [Array.length_toList]; exact h
  rw [List.getD_eq_getElem?_getD, List.getElem?_eq_getElem hi]
  rfl
set_option maxHeartbeats 1000000 in
theorem slash_any (u : ByteArray) (hu : u.size ≤ 9223372036854775806) (w : World) :
    Calls Tryd.prog 53 #[.string u] w fun e w' => e = .returned (.int .i64 (slashTo u u.size : Nat)) ∧ w' = w := by
  go_enter Tryd.func53, Tryd.ntmps53
  go_wp2
  go_loopw [3, 4] (fun t3 t4 wr => ∃ i : Nat, i ≤ u.size ∧ t4 = .int .i64 (i : Int) ∧ t3 = .int .i64 (slashTo u i : Nat) ∧ wr = w) (fun _ t4 _ => u.size - (Go.RowKit.intOf t4).toNat)
  case atStart => exact ⟨0, by omega, rfl, rfl, rfl⟩
  case round =>
    obtain ⟨i, hi, rfl, rfl, rfl⟩ := hrel
    by_cases hlt : i < u.size
    · have hb := byte_at hlt
      obtain ⟨k, hk⟩ : ∃ k : Nat, (u[i]'hlt).toNat = k := ⟨_, rfl⟩
      have hs : slashTo u (i + 1) = if k = 47 then i else slashTo u i := by
        show (if u.data.toList.getD i 0 = 47 then i else slashTo u i) = _
        rw [hb]
        by_cases h : k = 47
        · rw [if_pos h, if_pos (by apply UInt8.toNat_inj.1; rw [hk, h]; rfl)]
        · rw [if_neg h, if_neg (fun e => h (by rw [← hk, e]; rfl))]
      clear hb
      by_cases h47 : k = 47
      · rw [if_pos h47] at hs
        subst h47
        go_wp2
        exact ⟨⟨i + 1, by omega, by simp, by rw [hs], by simp⟩, by simp [Go.RowKit.intOf]; omega⟩
      · rw [if_neg h47] at hs
        have h2 : ((k : Int) == 47) = false := by simp; omega
        go_wp2
        exact ⟨⟨i + 1, by omega, by simp, by rw [hs], by simp⟩, by simp [Go.RowKit.intOf]; omega⟩
    · obtain rfl : i = u.size := by omega
      go_wp2
      go_ret
      exact ⟨rfl, rfl⟩
def parentOf (u : ByteArray) : ByteArray := if u.size < 2 then ⟨#[]⟩ else if slashTo u u.size = 0 then ⟨#[47]⟩ else u.extract 0 (slashTo u u.size)
def lastOf (u : ByteArray) : ByteArray := if u.size < 2 then ⟨#[]⟩ else u.extract (slashTo u u.size + 1) u.size
set_option maxHeartbeats 1000000 in
theorem rparent_any (u : ByteArray) (hu : u.size ≤ 1000000) (w : World) :
    Calls Tryd.prog 28 #[.string u] w fun e w' => e = .returned (.string (parentOf u)) ∧ w' = w := by
  have hs := slashTo_le u u.size
  have cs := slash_any u (by omega) w
  unfold parentOf
  obtain ⟨k, hk⟩ : ∃ k, slashTo u u.size = k := ⟨_, rfl⟩
  rw [hk] at hs cs ⊢
  by_cases h2 : u.size < 2
  · rw [if_pos h2]
    go_enter Tryd.func28, Tryd.ntmps28
    go_wp2
    go_ret
    exact ⟨rfl, rfl⟩
  · rw [if_neg h2]
    by_cases h0 : k = 0
    · rw [if_pos h0]
      subst h0
      go_enter Tryd.func28, Tryd.ntmps28
      go_wp2_with (go_at_call 53; refine cs.mono ?_; rintro e w' ⟨rfl, rfl⟩)
      go_ret
      exact ⟨rfl, rfl⟩
    · rw [if_neg h0]
      have h1 : ((k : Int) == 0) = false := by simp; omega
      go_enter Tryd.func28, Tryd.ntmps28
      go_wp2_with (go_at_call 53; refine cs.mono ?_; rintro e w' ⟨rfl, rfl⟩)
      go_ret
      exact ⟨rfl, rfl⟩
set_option maxHeartbeats 1000000 in
theorem rlast_any (u : ByteArray) (hu : u.size ≤ 1000000) (w : World) :
    Calls Tryd.prog 48 #[.string u] w fun e w' => e = .returned (.string (lastOf u)) ∧ w' = w := by
  have hs := slashTo_le u u.size
  have cs := slash_any u (by omega) w
  unfold lastOf
  obtain ⟨k, hk⟩ : ∃ k, slashTo u u.size = k := ⟨_, rfl⟩
  have hk2 : ¬ u.size < 2 → k < u.size := fun h => by
    obtain ⟨m, hm⟩ : ∃ m, u.size = m + 1 := ⟨u.size - 1, by omega⟩
    rw [← hk, hm]
    unfold slashTo
    split
    · omega
    · have := slashTo_le u m; omega
  rw [hk] at hs cs ⊢
  by_cases h2 : u.size < 2
  · rw [if_pos h2]
    go_enter Tryd.func48, Tryd.ntmps48
    go_wp2
    go_ret
    exact ⟨rfl, rfl⟩
  · rw [if_neg h2]
    have h3 := hk2 h2
    clear hk2
    go_enter Tryd.func48, Tryd.ntmps48
    go_wp2_with (go_at_call 53; refine cs.mono ?_; rintro e w' ⟨rfl, rfl⟩)
    go_ret
    exact ⟨rfl, rfl⟩
def slashS : ByteArray := ⟨#[47]⟩
def joinOf (p n : ByteArray) : ByteArray := if eqs p slashS = true then p ++ n else p ++ slashS ++ n
theorem eqs_lit {u : ByteArray} (b : Bool) (h : eqs u slashS = b) : (u.toList == [47]) = b := by
  have : slashS.toList = [47] := by rw [toL]; rfl
  unfold eqs at h
  rw [this] at h
  exact h
set_option maxHeartbeats 1000000 in
theorem rjoin_any (p n : ByteArray) (hp : p.size ≤ 1000000) (hn : n.size ≤ 1000000) (w : World) :
    Calls Tryd.prog 30 #[.string p, .string n] w fun e w' => e = .returned (.string (joinOf p n)) ∧ w' = w := by
  have b1 : ¬ 9223372036854775807 < p.size + n.size := by omega
  have b2 : ¬ 9223372036854775807 < p.size + 1 := by omega
  have b3 : ¬ 9223372036854775807 < p.size + 1 + n.size := by omega
  unfold joinOf
  cases h : eqs p slashS
  · have hl := eqs_lit false h
    have hl2 : ¬ p.toList = [47] := by simpa using hl
    rw [if_neg (by simp)]
    go_enter Tryd.func30, Tryd.ntmps30
    go_wp2
    go_ret
    exact ⟨rfl, rfl⟩
  · have hl := eqs_lit true h
    have hl2 : p.toList = [47] := by simpa using hl
    rw [if_pos rfl]
    go_enter Tryd.func30, Tryd.ntmps30
    go_wp2
    go_ret
    exact ⟨rfl, rfl⟩
def inOf (u v : ByteArray) : Bool := if eqs v slashS = true then decide (1 < u.size) else decide (v.size < u.size) && (eqs (u.extract 0 v.size) v && decide (u.data.toList.getD v.size 0 = 47))
end Go.Proofs.YtacjfbomjglnjaaDoor

/-! THE PARTS OF A PATH, AND WHETHER A TEXT IS ONE: the document's own (donjonref7). -/
namespace Go.Proofs.YtacjfbomjglnjaaDoor
open Go.RowKit
set_option linter.unusedSimpArgs false
set_option maxRecDepth 8000
set_option linter.unusedVariables false
/-- A list of texts of the call's own. -/
def OwnS (w : World) (base : Nat) (v : Value) (l : List ByteArray) : Prop := w.ownsRow base 9 1 v l.length (l.map Value.string)
theorem ownS_nil (w : World) (base : Nat) : OwnS w base (.slice none 0 0) [] := World.ownsRow_nil _ _ _ _
theorem OwnS.slice {w : World} {base : Nat} {v : Value} {l : List ByteArray} (h : OwnS w base v l) {n : Nat} (hn : l.length = n) : ∃ a cap, v = .slice a n cap := by
  rcases h.2 with ⟨rfl, h2⟩ | ⟨g, cap, cur, rfl, _⟩
  · exact ⟨none, 0, by rw [← hn, h2]⟩
  · exact ⟨_, cap, by rw [hn]⟩
theorem OwnS.at {w : World} {base : Nat} {v : Value} {l : List ByteArray} (h : OwnS w base v l) {n : Nat} (hn : l.length = n) {i : Nat} {x : ByteArray} (hx : l[i]? = some x) : ∃ g cap, v = .slice (some ⟨g, 0, none⟩) n cap ∧ w.cell? ⟨g, i, none⟩ = some (.string x) ∧ base ≤ g ∧ g < w.heap.size := by
  have hi := (List.getElem?_eq_some_iff.1 hx).1
  have hrow : w.ownsRow base 9 1 v l.length (l.map Value.string) := h
  rcases h.2 with ⟨_, h2⟩ | ⟨g, cap, cur, rfl, hb, _⟩
  · omega
  · refine ⟨g, cap, by rw [hn], ?_, hb, (hrow.lt g rfl).2⟩
    rw [hrow.cellAt i (by omega), List.getElem?_map, hx]
    rfl
theorem OwnS.below {w w' : World} {base : Nat} {v : Value} {l : List ByteArray} (h : OwnS w base v l) (b : Below w.heap.size w w') : OwnS w' base v l := by
  refine ⟨h.1, ?_⟩
  rcases h.2 with h1 | ⟨g, cap, cur, hv, hb, hg, rest⟩
  · exact .inl h1
  · exact .inr ⟨g, cap, cur, hv, hb, (b.block g (Array.getElem?_eq_some_iff.1 hg).1).trans hg, rest⟩
theorem info_str : (Tryd.prog.info? 9).map (fun i => (i.zero, i.size, i.bytes)) = some (some (.string ⟨#[]⟩), 1, 16) := by kernel_rfl
theorem info_strs : ∃ i, Tryd.prog.info? 9 = some i ∧ i.zero = some (.string ⟨#[]⟩) ∧ i.size = 1 ∧ i.bytes = 16 := by
  have := info_str
  cases h : Tryd.prog.info? 9 with
  | none => rw [h] at this; cases this
  | some i =>
    rw [h] at this
    have hq : (i.zero, i.size, i.bytes) = (some (.string ⟨#[]⟩), 1, 16) := by simpa using this
    exact ⟨i, rfl, congrArg Prod.fst hq, congrArg (fun p => p.2.1) hq, congrArg (fun p => p.2.2) hq⟩
/-- append of one text that was typed. -/
theorem append_str (W : World) (base : Nat) (v : Value) (l : List ByteArray) (x : ByteArray) (hown : OwnS W base v l) (hb : base ≤ W.heap.size) (hl : l.length < 900000) :
    ∃ v' W', (Builtin.append_ #[51, 51] 51 #[v, .slice (some ⟨W.heap.size, 0, none⟩) 1 1]).run Tryd.prog (W.alloc (.cells #[.string x] 9)) = .ok v' W' ∧ OwnS W' base v' (l ++ [x]) ∧ Below base W W' := by
  obtain ⟨i, hi, hz, hs, hby⟩ := info_strs
  have ho : (W.alloc (.cells #[.string x] 9)).ownsRow base 9 1 v l.length (l.map Value.string) := World.ownsRow.alloc hown _
  obtain ⟨v', W', h1, h2, h3, _⟩ := run_append_own (P := Tryd.prog) (W.alloc (.cells #[.string x] 9)) base 51 51 9 i _ 1 16 Tryd.underlying51 hi hz hs hby rfl (by decide) v l.length (l.map Value.string) ho ⟨W.heap.size, 0, none⟩ 1 1 [.string x] rfl (fun j u hu => by
    have hj : j = 0 := by have := (List.getElem?_eq_some_iff.1 hu).1; simp at this; exact this
    subst hj
    simp at hu
    subst hu
    rw [show (⟨W.heap.size, 0, none⟩ : Addr).add 0 = ⟨W.heap.size, 0, none⟩ by simp [Addr.add], World.cell?_alloc_at _ _ _ _ rfl]
    rfl) (by simp [Value.oneCell']) (by simp only [maxLen]; omega) (by omega) (by simp; omega)
  refine ⟨v', W', h1, ?_, ?_⟩
  · unfold OwnS
    rw [List.map_append, List.length_append]
    exact h2
  · exact ((Below.refl base W).alloc hb _).grown h3 (by simp; omega) (fun k hk => (ho.lt k hk).1)
section
variable {ops : Array Oper} {rest : List Oper} {o : Oper} {a : Act} {w : World} {Q : Exit → Act → World → Prop}
/-- append, by its run. -/
theorem wpList_append_str (hg : o.guard = none) (x y : Operand) (ho : o.op = .call { callee := .builtin .append, args := #[x, y], argTypes := #[51, 51] }) (hty : o.type = 51) {u v r : Value} {w' : World} (hx : a.eval x = u) (hy : a.eval y = v)
    (hc : (Builtin.append_ #[51, 51] 51 #[u, v]).run Tryd.prog w = .ok r w')
    (h : wpList Tryd.prog ops Q rest (a.put o.dst r) w') : wpList Tryd.prog ops Q (o :: rest) a w := by
  refine wpList_value hg ?_ h
  unfold execOp
  simp only [ho, hty, resolve, invoke, builtin, Sem.run_bind, Sem.run_pure, Result.andThen_ok]
  simp [hx, hy, hc, Result.andThen]
end

/-- The parts that end among the first i places, and where the next one begins. -/
def partsTo (u : ByteArray) : Nat → Nat × List ByteArray
  | 0 => (1, [])
  | i + 1 => if i + 1 = u.size ∨ u.data.toList.getD (i + 1) 0 = 47 then (i + 2, (partsTo u i).2 ++ [u.extract (partsTo u i).1 (i + 1)]) else partsTo u i
def partsOf (u : ByteArray) : List ByteArray := if u.size ≤ 1 then [] else (partsTo u u.size).2
theorem partsTo_lo (u : ByteArray) : ∀ i, 1 ≤ (partsTo u i).1 ∧ (partsTo u i).1 ≤ i + 1 ∧ (partsTo u i).2.length ≤ i
  | 0 => ⟨Nat.le_refl _, Nat.le_refl _, Nat.le_refl _⟩
  | i + 1 => by
    obtain ⟨h1, h2, h3⟩ := partsTo_lo u i
    unfold partsTo
    split
    · refine ⟨by simp, by simp, by simp; omega⟩
    · exact ⟨h1, by omega, by omega⟩

set_option maxHeartbeats 4000000 in
theorem rparts_any (u : ByteArray) (hu : u.size ≤ 100000) (w : World) :
    Calls Tryd.prog 54 #[.string u] w fun e w' => ∃ v, e = .returned v ∧ OwnS w' w.heap.size v (partsOf u) ∧ Below w.heap.size w w' := by
  by_cases h1 : u.size ≤ 1
  · have e : partsOf u = [] := by rw [partsOf, if_pos h1]
    rw [e]
    go_enter Tryd.func54, Tryd.ntmps54
    go_wp2
    go_loopw [3, 5] (fun t3 t5 wr => t3 = .slice none 0 0 ∧ t5 = .int .i64 1 ∧ wr = w) (fun _ _ _ => 0)
    case atStart => exact ⟨rfl, rfl, rfl⟩
    case round =>
      obtain ⟨rfl, rfl, rfl⟩ := hrel
      by_cases h0 : u.size = 1
      · have h2 : ¬ (1 : Int) < (u.size : Int) := by omega
        have h3 : (1 : Int) ≤ (u.size : Int) := by omega
        go_wp2
        go_ret
        exact ⟨.slice none 0 0, rfl, ownS_nil _ _, Below.refl _ _⟩
      · have h3 : ¬ (1 : Int) ≤ (u.size : Int) := by omega
        go_wp2
        go_ret
        exact ⟨.slice none 0 0, rfl, ownS_nil _ _, Below.refl _ _⟩
  · have e : partsOf u = (partsTo u u.size).2 := by rw [partsOf, if_neg h1]
    rw [e]
    clear e
    have h1' : (1 : Int) < (u.size : Int) := by omega
    go_enter Tryd.func54, Tryd.ntmps54
    go_wp2
    go_loopw [3, 4, 5] (fun t3 t4 t5 wr => ∃ i : Nat, i ≤ u.size ∧ t5 = .int .i64 ((i : Int) + 1) ∧ t4 = .int .i64 ((partsTo u i).1 : Nat) ∧ OwnS wr w.heap.size t3 (partsTo u i).2 ∧ Below w.heap.size w wr) (fun _ _ t5 _ => u.size + 1 - (Go.RowKit.intOf t5).toNat)
    case atStart => exact ⟨0, by omega, rfl, rfl, ownS_nil _ _, Below.refl _ _⟩
    case round =>
      obtain ⟨i, hi, rfl, rfl, ho, hB⟩ := hrel
      obtain ⟨p1, p2, p3⟩ := partsTo_lo u i
      obtain ⟨fr, hfr⟩ : ∃ fr, (partsTo u i).1 = fr := ⟨_, rfl⟩
      obtain ⟨ps, hps⟩ : ∃ ps, (partsTo u i).2 = ps := ⟨_, rfl⟩
      rw [hps] at ho p3
      rw [hfr] at p1 p2 ⊢
      by_cases hlt : i < u.size
      · obtain ⟨v2, W2, hap, ho2, hB2⟩ := append_str wr w.heap.size u3 ps (u.extract fr (i + 1)) ho hB.size (by omega)
        have hBn : Below w.heap.size w W2 := hB.trans hB2
        have hstep : ∀ b : Bool, decide (i + 1 = u.size ∨ u.data.toList.getD (i + 1) 0 = 47) = b → partsTo u (i + 1) = if b = true then (i + 2, ps ++ [u.extract fr (i + 1)]) else (fr, ps) := fun b hb => by
          show (if i + 1 = u.size ∨ u.data.toList.getD (i + 1) 0 = 47 then (i + 2, (partsTo u i).2 ++ [u.extract (partsTo u i).1 (i + 1)]) else partsTo u i) = _
          cases b
          · rw [if_neg (of_decide_eq_false hb), if_neg (by simp), ← hfr, ← hps]
          · rw [if_pos (of_decide_eq_true hb), if_pos rfl, hfr, hps]
        have c1 : (i : Int) + 1 ≤ (u.size : Int) := by omega
        have c2 : (fr : Int) ≤ (i : Int) + 1 := by omega
        have c3 : fr ≤ i + 1 := by omega
        obtain ⟨b, hb⟩ : ∃ b, decide (i + 1 = u.size ∨ u.data.toList.getD (i + 1) 0 = 47) = b := ⟨_, rfl⟩
        have hs := hstep b hb
        clear hstep
        go_upto_region 6 with fail
        go_cut [26] from 17 to 25 (fun c wx => c = .bool b ∧ wx = wr)
        case first =>
          clear hap hs
          by_cases hend : i + 1 = u.size
          · obtain rfl : b = true := by rw [← hb]; simp [hend]
            have e1 : ((i : Int) + 1 == (u.size : Int)) = true := by simp; omega
            have e2 : (i : Int) + 1 = (u.size : Int) := by omega
            as_aux_lemma =>
              go_wp2_with fail
              go_meet
              exact ⟨rfl, rfl⟩
          · have hlt2 : i + 1 < u.size := by omega
            have hby := byte_at hlt2
            obtain ⟨k, hk⟩ : ∃ k : Nat, (u[i + 1]'hlt2).toNat = k := ⟨_, rfl⟩
            have e1 : ((i : Int) + 1 == (u.size : Int)) = false := by simp; omega
            have e2 : ¬ (i : Int) + 1 = (u.size : Int) := by omega
            have hbk : b = ((k : Int) == 47) := by
              rw [← hb, hby]
              have : (u[i + 1]'hlt2 = 47) ↔ k = 47 := ⟨fun e => by rw [← hk, e]; rfl, fun e => by apply UInt8.toNat_inj.1; rw [hk, e]; rfl⟩
              by_cases h9 : k = 47
              · simp [this, h9]
              · simp [this, h9, hend]; omega
            clear hby hb
            as_aux_lemma =>
              go_wp2_with fail
              go_meet
              exact ⟨by rw [hbk], rfl⟩
        case rest =>
          obtain ⟨rfl, hwc⟩ := hcut
          have hwc := hwc.symm
          subst hwc
          clear hb
          cases b
          · rw [if_neg (by simp)] at hs
            as_aux_lemma =>
              go_wp2_with fail
              exact ⟨⟨i + 1, by omega, by simp, by rw [hs], by rw [hs]; exact ho, hB⟩, by simp [Go.RowKit.intOf]; omega⟩
          · rw [if_pos rfl] at hs
            as_aux_lemma =>
              go_wp2_with (first | (refine wpList_append_str rfl _ _ rfl rfl rfl rfl hap ?_) | fail)
              exact ⟨⟨i + 1, by omega, by simp, by rw [hs]; simp; omega, by rw [hs]; exact ho2, hBn⟩, by simp [Go.RowKit.intOf]; omega⟩
      · obtain rfl : i = u.size := by omega
        have h3 : ¬ ((u.size : Int) + 1) ≤ (u.size : Int) := by omega
        go_wp2
        go_ret
        exact ⟨u3, rfl, by first | exact ho | (rw [hps]; exact ho), hB⟩
/-- What the document's own Check answers. -/
def checkOf (u : ByteArray) : Int :=
  if 78 < u.size then 5 else if eqs u slashS = true then 0 else if u.size < 2 ∨ u.data.toList.getD 0 0 ≠ 47 then 1
  else if 6 < (partsOf u).length then 1 else if (partsOf u).all name = true then 0 else 1
theorem parts_small (u : ByteArray) : ∀ x ∈ partsOf u, x.size ≤ u.size := by
  have key : ∀ i, ∀ x ∈ (partsTo u i).2, x.size ≤ u.size := by
    intro i
    induction i with
    | zero => intro x hx; simp [partsTo] at hx
    | succ i ih =>
      intro x hx
      unfold partsTo at hx
      split at hx
      · rcases List.mem_append.1 hx with hx | hx
        · exact ih x hx
        · simp at hx
          subst hx
          simp
          omega
      · exact ih x hx
  intro x hx
  unfold partsOf at hx
  split at hx
  · cases hx
  · exact key _ x hx
set_option maxHeartbeats 4000000 in
theorem rpcheck_any (u : ByteArray) (hu : u.size ≤ 100000) (w : World) :
    Calls Tryd.prog 31 #[.string u] w fun e w' => e = .returned (.int .i64 (checkOf u)) ∧ Below w.heap.size w w' := by
  unfold checkOf
  by_cases h78 : 78 < u.size
  · rw [if_pos h78]
    have h1 : (78 : Int) < (u.size : Int) := by omega
    go_enter Tryd.func31, Tryd.ntmps31
    go_wp2
    go_ret
    exact ⟨rfl, Below.refl _ _⟩
  rw [if_neg h78]
  cases hsl : eqs u slashS
  case true =>
    have hl := eqs_lit true hsl
    have hl2 : u.toList = [47] := by simpa using hl
    rw [if_pos rfl]
    go_enter Tryd.func31, Tryd.ntmps31
    go_wp2
    go_ret
    exact ⟨rfl, Below.refl _ _⟩
  have hl := eqs_lit false hsl
  have hl2 : ¬ u.toList = [47] := by simpa using hl
  rw [if_neg (by simp)]
  by_cases h2 : u.size < 2
  · rw [if_pos (.inl h2)]
    go_enter Tryd.func31, Tryd.ntmps31
    go_wp2
    go_ret
    exact ⟨rfl, Below.refl _ _⟩
  have h0 : 0 < u.size := by omega
  have hby := byte_at h0
  obtain ⟨k, hk⟩ : ∃ k : Nat, (u[0]'h0).toNat = k := ⟨_, rfl⟩
  have hk47 : u.data.toList.getD 0 0 = 47 ↔ k = 47 := by
    rw [hby]
    exact ⟨fun e => by rw [← hk, e]; rfl, fun e => by apply UInt8.toNat_inj.1; rw [hk, e]; rfl⟩
  by_cases h47 : k = 47
  · rw [if_neg (by rw [not_or]; exact ⟨h2, fun h => h (hk47.2 h47)⟩)]
    have hkb : ((k : Int) != 47) = false := by simp; omega
    have cP := rparts_any u (by omega) w
    have hsm := parts_small u
    obtain ⟨ps, hps⟩ : ∃ ps, partsOf u = ps := ⟨_, rfl⟩
    rw [hps] at cP hsm ⊢
    obtain ⟨ln, hln⟩ : ∃ ln, ps.length = ln := ⟨_, rfl⟩
    obtain ⟨r, hr⟩ : ∃ r : Int, (if 6 < ps.length then (1 : Int) else if ps.all name = true then 0 else 1) = r := ⟨_, rfl⟩
    rw [hr]
    rw [hln] at hr
    clear hk47 hby
    go_enter Tryd.func31, Tryd.ntmps31
    go_wp2_with fail
    refine cP.mono ?_
    rintro e w1 ⟨v, rfl, ho, hB⟩
    obtain ⟨a, cap, rfl⟩ := ho.slice hln
    by_cases h6 : 6 < ln
    · rw [if_pos h6] at hr
      subst hr
      go_wp2_with fail
      go_ret
      exact ⟨rfl, hB⟩
    · rw [if_neg h6] at hr
      go_wp2_with fail
      go_loopw [4] (fun t4 wr => ∃ i : Nat, i ≤ ln ∧ t4 = .int .i64 (i : Int) ∧ wr = w1 ∧ Aside (r = if (ps.drop i).all name = true then 0 else 1)) (fun t4 _ => ln - (Go.RowKit.intOf t4).toNat)
      case atStart => exact ⟨0, by omega, rfl, rfl, by rw [Aside, List.drop_zero, hr]⟩
      case round =>
        obtain ⟨i, hi, rfl, rfl, hall⟩ := hrel
        clear hr
        by_cases hlt : i < ln
        · obtain ⟨x, hx⟩ : ∃ x, ps[i]? = some x := ⟨_, List.getElem?_eq_getElem (by omega)⟩
          obtain ⟨g, cap', hv, hc, _, _⟩ := ho.at hln hx
          injection hv with q1 q2 q3
          subst q1 q3
          have hxs := hsm x (List.mem_of_getElem? hx)
          have hd : (ps.drop i).all name = (name x && (ps.drop (i + 1)).all name) := by
            have hil := (List.getElem?_eq_some_iff.1 hx).1
            rw [List.drop_eq_getElem_cons hil, List.all_cons, (List.getElem?_eq_some_iff.1 hx).2]
          rw [hd] at hall
          have cN := rname_any x (by omega)
          cases hnx : name x
          · rw [hnx] at hall cN
            obtain rfl : r = 1 := by rw [hall.out]; simp
            as_aux_lemma =>
              go_wp2_with (go_at_call 55; refine (cN _).mono ?_; rintro e w' ⟨rfl, rfl⟩)
              go_ret
              exact ⟨rfl, hB⟩
          · rw [hnx, Bool.true_and] at hall
            rw [hnx] at cN
            as_aux_lemma =>
              go_wp2_with (go_at_call 55; refine (cN _).mono ?_; rintro e w' ⟨rfl, rfl⟩)
              exact ⟨⟨i + 1, by omega, by simp, by simp, hall⟩, by simp [Go.RowKit.intOf]; omega⟩
        · obtain rfl : r = 0 := by
            rw [hall.out, List.drop_eq_nil_of_le (by omega)]
            rfl
          as_aux_lemma =>
            go_wp2_with fail
            go_ret
            exact ⟨rfl, hB⟩
  · rw [if_pos (.inr (fun h => h47 (hk47.1 h)))]
    have hkb : ((k : Int) != 47) = true := by simp; omega
    have hkc : ¬ (k : Int) = 47 := by omega
    clear hk47 hby
    go_enter Tryd.func31, Tryd.ntmps31
    go_wp2
    go_ret
    exact ⟨rfl, Below.refl _ _⟩
end Go.Proofs.YtacjfbomjglnjaaDoor

/-! PATHS AS LISTS OF NAMES, IN PLAIN WORDS: what the document's functions tell of them. -/
namespace Go.Proofs.YtacjfbomjglnjaaDoor
set_option linter.unusedSimpArgs false
set_option linter.unusedVariables false

abbrev bytes (u : ByteArray) : List UInt8 := u.data.toList
theorem bytes_len (u : ByteArray) : (bytes u).length = u.size := Array.length_toList
theorem bytes_inj {u v : ByteArray} (h : bytes u = bytes v) : u = v := ByteArray.ext (Array.ext' h)
theorem bytes_extract (u : ByteArray) (i j : Nat) : bytes (u.extract i j) = ((bytes u).take j).drop i := by
  simp [bytes, ByteArray.data_extract, List.drop_take]
theorem bytes_append (a b : ByteArray) : bytes (a ++ b) = bytes a ++ bytes b := ByteArray.toList_data_append
theorem bytes_slash : bytes slashS = [47] := rfl

/-- Names, a slash ahead of each. -/
def body : List ByteArray → List UInt8
  | [] => []
  | n :: r => 47 :: (bytes n ++ body r)
theorem body_append : ∀ a b : List ByteArray, body (a ++ b) = body a ++ body b
  | [], b => rfl
  | n :: r, b => by simp [body, body_append r b]
theorem body_one (n : ByteArray) : body [n] = 47 :: bytes n := by simp [body]
/-- The path of names. -/
def pathB (ns : List ByteArray) : ByteArray := if ns = [] then slashS else ⟨(body ns).toArray⟩
theorem pathB_bytes {ns : List ByteArray} (h : ns ≠ []) : bytes (pathB ns) = body ns := by simp [pathB, h, bytes]
theorem pathB_nil : pathB [] = slashS := by simp [pathB]
/-- No slash within. -/
def Flat (n : ByteArray) : Prop := ∀ c ∈ bytes n, c ≠ 47
theorem name_flat {n : ByteArray} (h : name n = true) : Flat n := by
  intro c hc e
  simp only [name, Bool.and_eq_true, decide_eq_true_eq, List.all_eq_true] at h
  have := h.2.2 c hc
  rw [e] at this
  revert this
  decide
theorem name_size {n : ByteArray} (h : name n = true) : 1 ≤ n.size ∧ n.size ≤ 12 := by
  simp only [name, Bool.and_eq_true, decide_eq_true_eq] at h
  exact ⟨h.1, h.2.1⟩
theorem eqs_bytes {a b : ByteArray} : eqs a b = true ↔ bytes a = bytes b := by
  unfold eqs
  rw [toL, toL]
  simp

/-! ### Parts, of any text that begins with a slash -/
theorem take_split (l : List UInt8) (f j : Nat) (hj : j ≤ l.length) (hf : f < j) (h : l.getD f 0 = 47) : l.take j = l.take f ++ 47 :: (l.take j).drop (f + 1) := by
  have hl : (l.take j).length = j := by rw [List.length_take]; omega
  have e1 : l.take f = (l.take j).take f := by rw [List.take_take, Nat.min_eq_left (by omega)]
  have e2 : (l.take j)[f]'(by omega) = 47 := by
    rw [List.getElem_take]
    have : l.getD f 0 = l[f]'(by omega) := by simp [show f < l.length by omega]
    rw [← this, h]
  conv => lhs; rw [← List.take_append_drop f (l.take j)]
  rw [← e1, List.drop_eq_getElem_cons (by omega), e2]
theorem parts_inv {u : ByteArray} (h0 : (bytes u).getD 0 0 = 47) : ∀ i, i < u.size → 1 ≤ (partsTo u i).1 ∧ (partsTo u i).1 ≤ i + 1 ∧ (bytes u).take ((partsTo u i).1 - 1) = body (partsTo u i).2 ∧ (bytes u).getD ((partsTo u i).1 - 1) 0 = 47
  | 0, _ => ⟨Nat.le_refl _, Nat.le_refl _, rfl, h0⟩
  | i + 1, hi => by
    obtain ⟨h1, h2, h3, h4⟩ := parts_inv h0 i (by omega)
    unfold partsTo
    split
    · rename_i hc
      have hb : (bytes u).getD (i + 1) 0 = 47 := by
        rcases hc with hc | hc
        · omega
        · exact hc
      refine ⟨by simp, by simp, ?_, by simpa using hb⟩
      show (bytes u).take (i + 2 - 1) = body ((partsTo u i).2 ++ [u.extract (partsTo u i).1 (i + 1)])
      rw [body_append, body_one, bytes_extract, ← h3]
      obtain ⟨f, hf⟩ : ∃ f, (partsTo u i).1 = f + 1 := ⟨(partsTo u i).1 - 1, by omega⟩
      rw [hf] at h4 ⊢
      simp only [Nat.add_sub_cancel] at h4 ⊢
      exact take_split (bytes u) f (i + 1) (by rw [bytes_len]; omega) (by omega) h4
    · exact ⟨h1, by omega, h3, h4⟩
theorem parts_whole {u : ByteArray} (h0 : (bytes u).getD 0 0 = 47) (h2 : 2 ≤ u.size) : body (partsOf u) = bytes u ∧ partsOf u ≠ [] := by
  obtain ⟨m, hm⟩ : ∃ m, u.size = m + 1 := ⟨u.size - 1, by omega⟩
  obtain ⟨h1, hle, h3, h4⟩ := parts_inv h0 m (by omega)
  have hp : partsTo u u.size = (m + 2, (partsTo u m).2 ++ [u.extract (partsTo u m).1 (m + 1)]) := by
    rw [hm]
    show (if m + 1 = u.size ∨ _ then _ else _) = _
    rw [if_pos (.inl hm.symm)]
  rw [partsOf, if_neg (by omega), hp]
  refine ⟨?_, by simp⟩
  rw [body_append, body_one, bytes_extract, ← h3]
  obtain ⟨f, hf⟩ : ∃ f, (partsTo u m).1 = f + 1 := ⟨(partsTo u m).1 - 1, by omega⟩
  rw [hf] at h4 ⊢
  simp only [Nat.add_sub_cancel] at h4 ⊢
  rw [← take_split (bytes u) f (m + 1) (by rw [bytes_len]; omega) (by omega) h4]
  exact List.take_of_length_le (by rw [bytes_len]; omega)

/-- What Check allows: the path of 0 to 6 names. -/
def Names (ns : List ByteArray) : Prop := ns.length ≤ 6 ∧ ∀ n ∈ ns, name n = true
theorem check_path {u : ByteArray} (h : checkOf u = 0) : ∃ ns, Names ns ∧ u = pathB ns ∧ u.size ≤ 78 := by
  unfold checkOf at h
  split at h
  · cases h
  · rename_i h78
    split at h
    · rename_i hs
      exact ⟨[], ⟨by simp, by simp⟩, by rw [pathB_nil]; exact eqs_iff.1 hs, by omega⟩
    · split at h
      · cases h
      · rename_i hc
        rw [not_or] at hc
        split at h
        · cases h
        · split at h
          · rename_i h6 hall
            have h0 : (bytes u).getD 0 0 = 47 := by simpa using hc.2
            obtain ⟨hb, hne⟩ := parts_whole h0 (by omega)
            refine ⟨partsOf u, ⟨by omega, List.all_eq_true.1 hall⟩, bytes_inj ?_, by omega⟩
            rw [pathB_bytes hne, hb]
          · cases h

/-! ### The last slash -/
theorem slash_last (u : ByteArray) (A : List UInt8) (n : ByteArray) (hf : Flat n) (hu : bytes u = A ++ 47 :: bytes n) : ∀ j, j ≤ n.size → slashTo u (A.length + 1 + j) = A.length
  | 0, _ => by
    show (if (bytes u).getD A.length 0 = 47 then A.length else _) = _
    rw [if_pos]
    rw [hu, List.getD_eq_getElem?_getD, List.getElem?_append_right (Nat.le_refl _)]
    simp
  | j + 1, hj => by
    have hjl : j < (bytes n).length := by rw [bytes_len]; omega
    show (if (bytes u).getD (A.length + 1 + j) 0 = 47 then _ else slashTo u (A.length + 1 + j)) = _
    rw [if_neg]
    · exact slash_last u A n hf hu j (by omega)
    · rw [hu, List.getD_eq_getElem?_getD, List.getElem?_append_right (by omega), show A.length + 1 + j - A.length = j + 1 by omega, List.getElem?_cons_succ, List.getElem?_eq_getElem hjl]
      exact hf _ (List.getElem_mem hjl)
theorem slash_path {ns : List ByteArray} {n : ByteArray} (hf : Flat n) : slashTo (pathB (ns ++ [n])) (pathB (ns ++ [n])).size = (body ns).length := by
  have hb : bytes (pathB (ns ++ [n])) = body ns ++ 47 :: bytes n := by rw [pathB_bytes (by simp), body_append, body_one]
  have hs : (pathB (ns ++ [n])).size = (body ns).length + 1 + n.size := by
    rw [← bytes_len, hb, List.length_append, List.length_cons, bytes_len]
    omega
  rw [hs]
  exact slash_last _ _ _ hf hb _ (Nat.le_refl _)
theorem path_size (ns : List ByteArray) (n : ByteArray) : (pathB (ns ++ [n])).size = (body ns).length + 1 + n.size := by
  rw [← bytes_len, pathB_bytes (by simp), body_append, body_one, List.length_append, List.length_cons, bytes_len]
  omega
theorem body_pos {ns : List ByteArray} (h : ns ≠ []) : (body ns).length ≠ 0 := by
  cases ns with
  | nil => exact absurd rfl h
  | cons a r => simp [body]
theorem parent_path {ns : List ByteArray} {n : ByteArray} (hf : Flat n) (hn : 1 ≤ n.size) : parentOf (pathB (ns ++ [n])) = pathB ns := by
  have hsz := path_size ns n
  unfold parentOf
  rw [if_neg (by omega), slash_path hf]
  by_cases h : ns = []
  · subst h
    rw [if_pos (show (body []).length = 0 from rfl), pathB_nil]
    rfl
  · rw [if_neg (body_pos h)]
    apply bytes_inj
    rw [bytes_extract, pathB_bytes (by simp), pathB_bytes h, body_append]
    simp
theorem last_path {ns : List ByteArray} {n : ByteArray} (hf : Flat n) (hn : 1 ≤ n.size) : lastOf (pathB (ns ++ [n])) = n := by
  have hsz := path_size ns n
  unfold lastOf
  rw [if_neg (by omega), slash_path hf]
  apply bytes_inj
  rw [bytes_extract, List.take_of_length_le (by rw [bytes_len]; exact Nat.le_refl _), pathB_bytes (by simp), body_append, body_one]
  rw [show (body ns).length + 1 = (body ns ++ [47]).length by simp, show body ns ++ 47 :: bytes n = (body ns ++ [47]) ++ bytes n by simp, List.drop_left]
theorem parent_root : parentOf (pathB []) = ⟨#[]⟩ := by rw [pathB_nil]; rfl
theorem last_root : lastOf (pathB []) = ⟨#[]⟩ := by rw [pathB_nil]; rfl
theorem path_root {ns : List ByteArray} (hf : ∀ n ∈ ns, 1 ≤ n.size) : eqs (pathB ns) slashS = true ↔ ns = [] := by
  rw [eqs_bytes]
  constructor
  · intro h
    cases ns with
    | nil => rfl
    | cons a r =>
      rw [pathB_bytes (by simp), bytes_slash] at h
      have h1 := congrArg List.length h
      have h2 := hf a (by simp)
      rw [← bytes_len] at h2
      simp [body] at h1
      rw [bytes_len] at h2
      have : (bytes a).length = 0 := by rw [h1.1]; rfl
      rw [bytes_len] at this
      omega
  · rintro rfl
    rw [pathB_nil]
theorem join_path {ns : List ByteArray} (n : ByteArray) (hf : ∀ n ∈ ns, 1 ≤ n.size) : joinOf (pathB ns) n = pathB (ns ++ [n]) := by
  unfold joinOf
  by_cases h : ns = []
  · subst h
    rw [if_pos ((path_root (by simp)).2 rfl)]
    apply bytes_inj
    rw [bytes_append, pathB_nil, bytes_slash, pathB_bytes (by simp)]
    simp [body]
  · rw [if_neg (fun e => h ((path_root hf).1 e))]
    apply bytes_inj
    rw [bytes_append, bytes_append, pathB_bytes h, bytes_slash, pathB_bytes (by simp), body_append, body_one]
    simp

/-! ### Which lies below which -/
theorem split_flat : ∀ (n m X Y : List UInt8), (∀ c ∈ n, c ≠ 47) → (∀ c ∈ m, c ≠ 47) → (X = [] ∨ ∃ r, X = 47 :: r) → (Y = [] ∨ ∃ r, Y = 47 :: r) → n ++ X = m ++ Y → n = m ∧ X = Y
  | [], [], X, Y, _, _, _, _, h => ⟨rfl, h⟩
  | [], c :: m, X, Y, _, hm, hX, _, h => by
    rcases hX with rfl | ⟨r, rfl⟩
    · simp at h
    · simp at h
      exact absurd h.1.symm (hm c (by simp))
  | c :: n, [], X, Y, hn, _, _, hY, h => by
    rcases hY with rfl | ⟨r, rfl⟩
    · simp at h
    · simp at h
      exact absurd h.1 (hn c (by simp))
  | c :: n, d :: m, X, Y, hn, hm, hX, hY, h => by
    simp only [List.cons_append, List.cons.injEq] at h
    obtain ⟨h1, h2⟩ := split_flat n m X Y (fun x hx => hn x (by simp [hx])) (fun x hx => hm x (by simp [hx])) hX hY h.2
    exact ⟨by rw [h.1, h1], h2⟩
theorem body_head (ns : List ByteArray) : body ns = [] ∨ ∃ r, body ns = 47 :: r := by
  cases ns with
  | nil => exact .inl rfl
  | cons a r => exact .inr ⟨_, rfl⟩
theorem body_prefix : ∀ (b a : List ByteArray) (r : List UInt8), (∀ n ∈ b, Flat n) → (∀ n ∈ a, Flat n) → body a = body b ++ 47 :: r → ∃ c, a = b ++ c ∧ c ≠ []
  | [], a, r, _, _, h => ⟨a, rfl, fun e => by rw [e] at h; simp [body] at h⟩
  | n :: b, [], r, _, _, h => by simp [body] at h
  | n :: b, m :: a, r, hb, ha, h => by
    simp only [body, List.cons_append, List.cons.injEq, true_and, List.append_assoc] at h
    obtain ⟨h1, h2⟩ := split_flat (bytes m) (bytes n) (body a) (body b ++ 47 :: r) (ha m (by simp)) (hb n (by simp)) (body_head a) (by
      rcases body_head b with e | ⟨x, e⟩
      · rw [e]; exact .inr ⟨r, rfl⟩
      · rw [e]; exact .inr ⟨_, rfl⟩) h
    obtain ⟨c, hc, hne⟩ := body_prefix b a r (fun x hx => hb x (by simp [hx])) (fun x hx => ha x (by simp [hx])) h2
    exact ⟨c, by rw [hc, bytes_inj h1]; rfl, hne⟩
theorem in_path {a b : List ByteArray} (ha : ∀ n ∈ a, Flat n ∧ 1 ≤ n.size) (hb : ∀ n ∈ b, Flat n ∧ 1 ≤ n.size) : inOf (pathB a) (pathB b) = true ↔ ∃ c, a = b ++ c ∧ c ≠ [] := by
  unfold inOf
  by_cases h : b = []
  · subst h
    rw [if_pos ((path_root (by simp)).2 rfl)]
    simp only [decide_eq_true_eq, List.nil_append]
    constructor
    · intro h1
      refine ⟨a, rfl, fun e => ?_⟩
      subst e
      rw [pathB_nil] at h1
      exact absurd h1 (by decide)
    · rintro ⟨c, rfl, hne⟩
      cases a with
      | nil => exact absurd rfl hne
      | cons n r =>
        have h2 := (ha n (by simp)).2
        rw [← bytes_len, pathB_bytes (by simp)]
        simp only [body, List.length_cons, List.length_append]
        rw [bytes_len]
        omega
  · rw [if_neg (fun e => h ((path_root (fun n hn => (hb n hn).2)).1 e))]
    simp only [Bool.and_eq_true, decide_eq_true_eq]
    constructor
    · rintro ⟨h1, h2, h3⟩
      have hane : a ≠ [] := by
        rintro rfl
        rw [pathB_nil] at h1
        have : (pathB b).size = 0 := by have : slashS.size = 1 := rfl; omega
        rw [← bytes_len, pathB_bytes h] at this
        exact body_pos h this
      rw [eqs_bytes, bytes_extract] at h2
      rw [← bytes_len, ← bytes_len, pathB_bytes h, pathB_bytes hane] at h1
      rw [← bytes_len, pathB_bytes h, pathB_bytes hane] at h2
      rw [← bytes_len, pathB_bytes h] at h3
      have h3' : (body a).getD (body b).length 0 = 47 := by rw [← pathB_bytes hane]; exact h3
      simp only [List.drop_zero] at h2
      have hsplit : body a = body b ++ 47 :: (body a).drop ((body b).length + 1) := by
        conv => lhs; rw [← List.take_append_drop (body b).length (body a)]
        rw [h2, List.drop_eq_getElem_cons h1]
        congr 2
        rw [List.getD_eq_getElem?_getD, List.getElem?_eq_getElem h1] at h3'
        exact h3'
      exact body_prefix b a _ (fun n hn => (hb n hn).1) (fun n hn => (ha n hn).1) hsplit
    · rintro ⟨c, rfl, hne⟩
      have hane : b ++ c ≠ [] := by simp [h]
      obtain ⟨r, hr⟩ : ∃ r, body c = 47 :: r := by
        rcases body_head c with e | e
        · exact absurd (by rw [e]; rfl) (body_pos hne)
        · exact e
      have e1 : body (b ++ c) = body b ++ 47 :: r := by rw [body_append, hr]
      refine ⟨?_, ?_, ?_⟩
      · rw [← bytes_len, ← bytes_len, pathB_bytes h, pathB_bytes hane, e1]
        simp
      · rw [eqs_bytes, bytes_extract, ← bytes_len, pathB_bytes h, pathB_bytes hane, e1]
        simp
      · show (bytes (pathB (b ++ c))).getD (pathB b).size 0 = 47
        rw [← bytes_len, pathB_bytes h, pathB_bytes hane, e1, List.getD_eq_getElem?_getD, List.getElem?_append_right (Nat.le_refl _)]
        simp

/-! ### The parts of a path are its names -/
theorem flat_extract (u : ByteArray) (f i : Nat) (h : ∀ q, f ≤ q → q ≤ i → (bytes u).getD q 0 ≠ 47) : Flat (u.extract f (i + 1)) := by
  intro c hc
  rw [bytes_extract] at hc
  obtain ⟨j, hj, rfl⟩ := List.mem_iff_getElem.1 hc
  rw [List.length_drop, List.length_take] at hj
  rw [List.getElem_drop, List.getElem_take]
  have := h (f + j) (by omega) (by omega)
  rwa [List.getD_eq_getElem?_getD, List.getElem?_eq_getElem (by omega)] at this
theorem parts_flat_inv (u : ByteArray) : ∀ i, i < u.size → (∀ x ∈ (partsTo u i).2, Flat x) ∧ ∀ q, (partsTo u i).1 ≤ q → q ≤ i → (bytes u).getD q 0 ≠ 47
  | 0, _ => ⟨by simp [partsTo], fun q h1 h2 => by have : (partsTo u 0).1 = 1 := rfl; omega⟩
  | i + 1, hi => by
    obtain ⟨h1, h2⟩ := parts_flat_inv u i (by omega)
    unfold partsTo
    split
    · refine ⟨fun x hx => ?_, fun q hq hq2 => by have h9 : i + 2 ≤ q := hq; omega⟩
      rcases List.mem_append.1 hx with hx | hx
      · exact h1 x hx
      · simp at hx
        subst hx
        exact flat_extract u _ _ h2
    · rename_i hc
      rw [not_or] at hc
      refine ⟨h1, fun q hq hq2 => ?_⟩
      by_cases e : q = i + 1
      · subst e; exact hc.2
      · exact h2 q hq (by omega)
theorem parts_flat (u : ByteArray) : ∀ x ∈ partsOf u, Flat x := by
  unfold partsOf
  split
  · simp
  · obtain ⟨m, hm⟩ : ∃ m, u.size = m + 1 := ⟨u.size - 1, by omega⟩
    obtain ⟨h1, h2⟩ := parts_flat_inv u m (by omega)
    have hp : partsTo u u.size = (m + 2, (partsTo u m).2 ++ [u.extract (partsTo u m).1 (m + 1)]) := by
      rw [hm]
      show (if m + 1 = u.size ∨ _ then _ else _) = _
      rw [if_pos (.inl hm.symm)]
    rw [hp]
    intro x hx
    rcases List.mem_append.1 hx with hx | hx
    · exact h1 x hx
    · simp at hx
      subst hx
      exact flat_extract u _ _ h2
theorem body_inj : ∀ (a b : List ByteArray), (∀ n ∈ a, Flat n) → (∀ n ∈ b, Flat n) → body a = body b → a = b
  | [], [], _, _, _ => rfl
  | [], n :: b, _, _, h => by simp [body] at h
  | n :: a, [], _, _, h => by simp [body] at h
  | n :: a, m :: b, ha, hb, h => by
    simp only [body, List.cons.injEq, true_and] at h
    obtain ⟨h1, h2⟩ := split_flat (bytes n) (bytes m) (body a) (body b) (ha n (by simp)) (hb m (by simp)) (body_head a) (body_head b) h
    rw [bytes_inj h1, body_inj a b (fun x hx => ha x (by simp [hx])) (fun x hx => hb x (by simp [hx])) h2]
theorem parts_path {ns : List ByteArray} (hf : ∀ n ∈ ns, Flat n ∧ 1 ≤ n.size) : partsOf (pathB ns) = ns := by
  cases ns with
  | nil => rw [pathB_nil]; rfl
  | cons n r =>
    have hb : bytes (pathB (n :: r)) = body (n :: r) := pathB_bytes (by simp)
    have hs : 2 ≤ (pathB (n :: r)).size := by
      have := (hf n (by simp)).2
      rw [← bytes_len, hb]
      simp only [body, List.length_cons, List.length_append]
      rw [bytes_len]
      omega
    obtain ⟨h1, _⟩ := parts_whole (u := pathB (n :: r)) (by rw [hb]; rfl) hs
    exact body_inj _ _ (parts_flat _) (fun x hx => (hf x hx).1) (h1.trans hb)
theorem Names.flat {ns : List ByteArray} (h : Names ns) : ∀ n ∈ ns, Flat n ∧ 1 ≤ n.size := fun n hn => ⟨name_flat (h.2 n hn), (name_size (h.2 n hn)).1⟩
theorem body_len : ∀ (ns : List ByteArray), (∀ n ∈ ns, name n = true) → (body ns).length ≤ 13 * ns.length
  | [], _ => Nat.le_refl _
  | n :: r, h => by
    have h1 := (name_size (h n (by simp))).2
    have h2 := body_len r (fun x hx => h x (by simp [hx]))
    simp only [body, List.length_cons, List.length_append]
    rw [bytes_len]
    omega
theorem names_size {ns : List ByteArray} (h : Names ns) : (pathB ns).size ≤ 78 := by
  cases ns with
  | nil => rw [pathB_nil]; decide
  | cons n r =>
    have := body_len _ h.2
    have h1 := h.1
    rw [← bytes_len, pathB_bytes (by simp)]
    omega
theorem check_names {ns : List ByteArray} (h : Names ns) : checkOf (pathB ns) = 0 := by
  have hs := names_size h
  unfold checkOf
  rw [if_neg (by omega)]
  by_cases h0 : ns = []
  · subst h0
    rw [if_pos ((path_root (by simp)).2 rfl)]
  · rw [if_neg (fun e => h0 ((path_root (fun n hn => (h.flat n hn).2)).1 e)), parts_path h.flat]
    have hb : bytes (pathB ns) = body ns := pathB_bytes h0
    have h2 : ¬ ((pathB ns).size < 2 ∨ (pathB ns).data.toList.getD 0 0 ≠ 47) := by
      cases ns with
      | nil => exact absurd rfl h0
      | cons n r =>
        have := (h.flat n (by simp)).2
        rw [not_or]
        constructor
        · rw [← bytes_len, hb]
          simp only [body, List.length_cons, List.length_append]
          rw [bytes_len]
          omega
        · show ¬ (bytes (pathB (n :: r))).getD 0 0 ≠ 47
          rw [hb]
          simp [body]
    rw [if_neg h2, if_neg (by have := h.1; omega), if_pos (List.all_eq_true.2 h.2)]
end Go.Proofs.YtacjfbomjglnjaaDoor

/-! A NODE, CHECKED, in plain words. Written by mk_nchk.py. -/
namespace Go.Proofs.YtacjfbomjglnjaaDoor
open Go.RowKit
set_option maxRecDepth 8000
set_option linter.unusedSimpArgs false
set_option linter.unusedVariables false

abbrev Nod.rg (n : Nod) : Rg := ⟨n.r1, n.r2, n.r3, n.gates⟩
def rz (n : Nod) : Bool := n.r1 == 0 && (n.r2 == 0 && (n.r3 == 0 && n.gates == 0))
/-- What is wrong with a directory, with a segment, with a node. -/
def dirC (n : Nod) : Int := if rz n = true ∧ n.words.length = 0 then 0 else 11
def segC (n : Nod) : Int := if eqs n.path slashS = true then 3 else if chkR n.rg ≠ 0 then chkR n.rg else if 16 < n.words.length then 4 else 0
def nodC (n : Nod) : Int := if checkOf n.path ≠ 0 then checkOf n.path else if chkL n.label ≠ 0 then chkL n.label else if chkL n.by_ ≠ 0 then chkL n.by_ else if chkA n.acl ≠ 0 then chkA n.acl else if n.dir = true then dirC n else segC n
end Go.Proofs.YtacjfbomjglnjaaDoor

/-! RINGS, checked; a node that is not too much. Written by mk_nchk.py. -/
namespace Go.Proofs.YtacjfbomjglnjaaDoor
open Go.RowKit
set_option maxRecDepth 8000
set_option linter.unusedSimpArgs false
set_option linter.unusedVariables false

set_option maxHeartbeats 1000000 in
theorem rgcheck_any (x : Rg) (w : World) :
    Calls Tryd.prog 85 #[x.v] w fun e w' => e = .returned (.int .i64 (chkR x)) ∧ Below w.heap.size w w' := by
  by_cases h0 : x.a < 0
  · have e1 : chkR x = 1 := by rw [chkR, if_neg (by unfold OkR; omega)]
    rw [e1]
    go_enter Tryd.func85, Tryd.ntmps85
    go_wp2
    go_ret
    exact ⟨rfl, alloc_below _ _⟩
  by_cases h1 : x.b < x.a
  · have e1 : chkR x = 1 := by rw [chkR, if_neg (by unfold OkR; omega)]
    rw [e1]
    go_enter Tryd.func85, Tryd.ntmps85
    go_wp2
    go_ret
    exact ⟨rfl, alloc_below _ _⟩
  by_cases h2 : x.c < x.b
  · have e1 : chkR x = 1 := by rw [chkR, if_neg (by unfold OkR; omega)]
    rw [e1]
    go_enter Tryd.func85, Tryd.ntmps85
    go_wp2
    go_ret
    exact ⟨rfl, alloc_below _ _⟩
  by_cases h3 : 7 < x.c
  · have e1 : chkR x = 1 := by rw [chkR, if_neg (by unfold OkR; omega)]
    rw [e1]
    go_enter Tryd.func85, Tryd.ntmps85
    go_wp2
    go_ret
    exact ⟨rfl, alloc_below _ _⟩
  by_cases h4 : x.g < 0
  · have e1 : chkR x = 1 := by rw [chkR, if_neg (by unfold OkR; omega)]
    rw [e1]
    go_enter Tryd.func85, Tryd.ntmps85
    go_wp2
    go_ret
    exact ⟨rfl, alloc_below _ _⟩
  by_cases h5 : 16 < x.g
  · have e1 : chkR x = 1 := by rw [chkR, if_neg (by unfold OkR; omega)]
    rw [e1]
    go_enter Tryd.func85, Tryd.ntmps85
    go_wp2
    go_ret
    exact ⟨rfl, alloc_below _ _⟩
  have e1 : chkR x = 0 := by rw [chkR, if_pos (by unfold OkR; omega)]
  rw [e1]
  go_enter Tryd.func85, Tryd.ntmps85
  go_wp2
  go_ret
  exact ⟨rfl, alloc_below _ _⟩
set_option maxHeartbeats 1000000 in
theorem rrgcheck_any (x : Rg) (w : World) :
    Calls Tryd.prog 63 #[x.v] w fun e w' => e = .returned (.int .i64 (chkR x)) ∧ Below w.heap.size w w' := by
  by_cases h0 : x.a < 0
  · have e1 : chkR x = 1 := by rw [chkR, if_neg (by unfold OkR; omega)]
    rw [e1]
    go_enter Tryd.func63, Tryd.ntmps63
    go_wp2
    go_ret
    exact ⟨rfl, alloc_below _ _⟩
  by_cases h1 : x.b < x.a
  · have e1 : chkR x = 1 := by rw [chkR, if_neg (by unfold OkR; omega)]
    rw [e1]
    go_enter Tryd.func63, Tryd.ntmps63
    go_wp2
    go_ret
    exact ⟨rfl, alloc_below _ _⟩
  by_cases h2 : x.c < x.b
  · have e1 : chkR x = 1 := by rw [chkR, if_neg (by unfold OkR; omega)]
    rw [e1]
    go_enter Tryd.func63, Tryd.ntmps63
    go_wp2
    go_ret
    exact ⟨rfl, alloc_below _ _⟩
  by_cases h3 : 7 < x.c
  · have e1 : chkR x = 1 := by rw [chkR, if_neg (by unfold OkR; omega)]
    rw [e1]
    go_enter Tryd.func63, Tryd.ntmps63
    go_wp2
    go_ret
    exact ⟨rfl, alloc_below _ _⟩
  by_cases h4 : x.g < 0
  · have e1 : chkR x = 1 := by rw [chkR, if_neg (by unfold OkR; omega)]
    rw [e1]
    go_enter Tryd.func63, Tryd.ntmps63
    go_wp2
    go_ret
    exact ⟨rfl, alloc_below _ _⟩
  by_cases h5 : 16 < x.g
  · have e1 : chkR x = 1 := by rw [chkR, if_neg (by unfold OkR; omega)]
    rw [e1]
    go_enter Tryd.func63, Tryd.ntmps63
    go_wp2
    go_ret
    exact ⟨rfl, alloc_below _ _⟩
  have e1 : chkR x = 0 := by rw [chkR, if_pos (by unfold OkR; omega)]
  rw [e1]
  go_enter Tryd.func63, Tryd.ntmps63
  go_wp2
  go_ret
  exact ⟨rfl, alloc_below _ _⟩
def fewN (n : Nod) : Bool := decide (n.path.size < 1000) && (decide (n.acl.length < 40) && decide (n.words.length < 100))
end Go.Proofs.YtacjfbomjglnjaaDoor

/-! THE LAWS' OWN PATHS: Of, within. -/
namespace Go.Proofs.YtacjfbomjglnjaaDoor
open Go.RowKit
set_option maxRecDepth 8000
set_option linter.unusedSimpArgs false
set_option linter.unusedVariables false

set_option maxHeartbeats 400000 in
theorem within_any (k m : Int) (h0 : 0 < m) (h1 : m < 1000000) (w : World) :
    Calls Tryd.prog 42 #[.int .i64 k, .int .i64 m] w fun e w' => e = .returned (.int .i64 (k % m)) ∧ w' = w := by
  have b1 := Int.lt_tmod_of_pos k h0
  have b2 := Int.tmod_lt_of_pos k h0
  have hm0 : ¬ m = 0 := by omega
  have hm1 : ¬ m = -1 := by omega
  by_cases hn : k.tmod m < 0
  · have e1 : k % m = k.tmod m + m := by
      rw [Int.tmod_eq_emod] at hn ⊢
      split at hn
      · have := Int.emod_nonneg k (by omega : m ≠ 0); omega
      · rename_i hc; rw [if_neg hc]; rw [Int.natAbs_of_nonneg (by omega)]; omega
    rw [e1]
    clear e1
    go_enter Tryd.func42, Tryd.ntmps42
    go_wp2
    go_ret
    exact ⟨rfl, rfl⟩
  · have e1 : k % m = k.tmod m := by
      rw [Int.tmod_eq_emod] at hn ⊢
      split
      · simp
      · rename_i hc
        rw [if_neg hc] at hn
        have := Int.emod_lt_of_pos k h0
        rw [Int.natAbs_of_nonneg (by omega)] at *
        omega
    rw [e1]
    clear e1
    go_enter Tryd.func42, Tryd.ntmps42
    go_wp2
    go_ret
    exact ⟨rfl, rfl⟩
/-- A text of one byte. -/
def chr (k : Nat) : ByteArray := ⟨#[UInt8.ofNat k]⟩
theorem conv_chr (w : World) (k : Nat) (hk : k < 256) : (convert 74 9 (.slice (some ⟨w.heap.size, 0, none⟩) 1 1)).run Tryd.prog (w.alloc (.cells #[.int .u8 (k : Int)] 5)) = .ok (.string (chr k)) (w.alloc (.cells #[.int .u8 (k : Int)] 5)) := by
  refine run_convert_bytes_back _ _ _ 5 ⟨w.heap.size, 0, none⟩ 1 [UInt8.ofNat k] Tryd.underlying74 Tryd.underlying5 Tryd.underlying9 fun j hj => ?_
  obtain rfl : j = 0 := by simp at hj; omega
  rw [show (⟨w.heap.size, 0, none⟩ : Addr).add 0 = ⟨w.heap.size, 0, none⟩ by simp [Addr.add], World.cell?_alloc_at _ _ _ _ rfl]
  simp
  omega

/-- The name of a number. -/
def letterOf (x : Int) : Nat := 97 + (x.tdiv 3 % 5).toNat
def nameOf (x : Int) : ByteArray := ⟨(List.replicate ((x % 3).toNat + 1) (UInt8.ofNat (letterOf x))).toArray⟩
def namesOf (l : List Int) : List ByteArray := (l.take 6).map nameOf
theorem letter_lo (x : Int) : 97 ≤ letterOf x ∧ letterOf x ≤ 101 := by unfold letterOf; omega
theorem nameOf_name (x : Int) : name (nameOf x) = true := by
  obtain ⟨h1, h2⟩ := letter_lo x
  have hs : (nameOf x).size = (x % 3).toNat + 1 := by simp [nameOf, ByteArray.size]
  have ha : (nameOf x).data.toList.all okB = true := by
    simp only [nameOf, List.all_eq_true]
    intro c hc
    have := List.eq_of_mem_replicate hc
    subst this
    have e : (UInt8.ofNat (letterOf x)).toNat = letterOf x := by simp; omega
    simp [okB, e]
    omega
  rw [name, hs, ha]
  simp
  omega
theorem namesOf_names (l : List Int) : Names (namesOf l) := by
  refine ⟨by simp [namesOf]; omega, fun n hn => ?_⟩
  obtain ⟨x, _, rfl⟩ := List.mem_map.1 hn
  exact nameOf_name x

set_option maxHeartbeats 4000000 in
theorem of_any (a : Option Addr) (l : List Int) (n cap : Nat) (w : World) (hn : l.length = n) (hmem : ∀ j, j < n → ∃ y, a = some y ∧ w.cell? (y.add j) = some (.int .i64 (l.getD j 0))) (hrng : ∀ j, -9223372036854775808 ≤ l.getD j 0 ∧ l.getD j 0 ≤ 9223372036854775807) :
    Calls Tryd.prog 14 #[.slice a n cap] w fun e w' => e = .returned (.string (pathB (namesOf l))) ∧ Below w.heap.size w w' := by
  go_enter Tryd.func14, Tryd.ntmps14
  go_wp2_with fail
  go_loopw [3, 4] (fun t3 t4 wr => ∃ (i : Nat) (S : ByteArray), i ≤ 6 ∧ i ≤ n ∧ t4 = .int .i64 (i : Int) ∧ t3 = .string S ∧ bytes S = body ((l.take i).map nameOf) ∧ Below w.heap.size w wr) (fun _ t4 _ => 6 - (Go.RowKit.intOf t4).toNat)
  case atStart => exact ⟨0, ⟨#[]⟩, by omega, by omega, rfl, rfl, rfl, Below.refl _ _⟩
  case round =>
    obtain ⟨i, S, hi, hin, rfl, rfl, hS, hB⟩ := hrel
    by_cases hlt : i < n
    · by_cases h6 : i < 6
      · obtain ⟨y, rfl, hc⟩ := hmem i hlt
        obtain ⟨x, hx⟩ : ∃ x, l.getD i 0 = x := ⟨_, rfl⟩
        rw [hx] at hc
        have hxr := hrng i
        rw [hx] at hxr
        have hwt : wrap64 (x.tdiv 3) = x.tdiv 3 := (Go.IntWalk.i64_left _).symm.trans (Go.IntWalk.i64_quo' x 3 (by omega))
        have hxl : l[i]? = some x := by
          rw [List.getD_eq_getElem?_getD, List.getElem?_eq_getElem (by omega)] at hx
          rw [List.getElem?_eq_getElem (by omega)]
          simpa using hx
        have hlen : (bytes S).length ≤ 13 * i := by
          rw [hS]
          refine Nat.le_trans (body_len _ (fun m hm => ?_)) (by simp; omega)
          obtain ⟨z, _, rfl⟩ := List.mem_map.1 hm
          exact nameOf_name z
        rw [bytes_len] at hlen
        have hnext : body ((l.take (i + 1)).map nameOf) = bytes S ++ 47 :: List.replicate ((x % 3).toNat + 1) (UInt8.ofNat (letterOf x)) := by
          rw [List.take_add_one, hxl, List.map_append, body_append, hS]
          simp [body, nameOf, bytes]
        obtain ⟨m, hm⟩ : ∃ m : Nat, x % 3 = (m : Int) := ⟨(x % 3).toNat, by omega⟩
        have hm3 : m ≤ 2 := by omega
        obtain ⟨kc, hkc⟩ : ∃ kc : Nat, x.tdiv 3 % 5 = (kc : Int) := ⟨(x.tdiv 3 % 5).toNat, by omega⟩
        have hk5 : kc < 5 := by omega
        have hlt97 : letterOf x = 97 + kc := by unfold letterOf; rw [hkc]; rfl
        rw [hlt97, hm] at hnext
        simp only [Int.toNat_natCast] at hnext
        have cW1 := fun W => within_any x 3 (by decide) (by decide) W
        have cW2 := fun W => within_any (x.tdiv 3) 5 (by decide) (by decide) W
        rw [hm] at cW1
        rw [hkc] at cW2
        have hcw : ∀ W, Below w.heap.size w W → W.cell? (y.add i) = some (.int .i64 x) := fun W hW => (hW.cell (World.block_lt_of_cell? _ _ hc)).trans hc
        have b1 : ¬ 9223372036854775807 < S.size + 1 := by omega
        clear hm hkc hlt97 hx hxl
        have hc0 := hcw wr hB
        have hd6 : decide ((i : Int) < 6) = true := by simp; omega
        go_wp2_with fail
        go_loopw [3, 5] (fun t3 t5 wq => ∃ (k : Nat) (S2 : ByteArray), k ≤ m + 1 ∧ t5 = .int .i64 (k : Int) ∧ t3 = .string S2 ∧ bytes S2 = bytes S ++ 47 :: List.replicate k (UInt8.ofNat (97 + kc)) ∧ Below w.heap.size w wq) (fun _ t5 _ => m + 1 - (Go.RowKit.intOf t5).toNat)
        case atStart => exact ⟨0, _, by omega, rfl, rfl, by rw [bytes_append]; rfl, hB⟩
        case round =>
          obtain ⟨k, S2, hk, rfl, rfl, hS2, hB2⟩ := hrel
          have hc2 := hcw wr hB2
          by_cases hkm : k ≤ m
          · have hcv := conv_chr wr (97 + kc) (by omega)
            have b2 : ¬ 9223372036854775807 < S2.size + 1 := by
              have := congrArg List.length hS2
              rw [bytes_len, List.length_append, bytes_len] at this
              simp at this
              omega
            have hwr : IntKind.u8.wrap (97 + (kc : Int)) = 97 + (kc : Int) := Go.IntWalk.u8_in _ (by omega)
            rw [show ((97 + kc : Nat) : Int) = 97 + (kc : Int) by omega] at hcv
            have hsz1 : (chr (97 + kc)).size = 1 := rfl
            go_wp2_with fail
            refine (cW1 _).mono ?_
            rintro e w' ⟨rfl, hw'⟩
            have hw' := hw'.symm
            subst hw'
            go_wp2_with fail
            refine (cW2 _).mono ?_
            rintro e w' ⟨rfl, hw'⟩
            have hw' := hw'.symm
            subst hw'
            have hBn : Below w.heap.size w (wr.alloc (.cells #[.int .u8 (97 + (kc : Int))] 5)) := hB2.alloc hB2.size _
            go_wp2_with fail
            go_roundw
            case rel => exact ⟨k + 1, S2 ++ chr (97 + kc), by omega, by simp, rfl, by rw [bytes_append, hS2, List.replicate_succ']; simp [chr, bytes], hBn⟩
            case measure => simp [Go.RowKit.intOf]; omega
          · obtain rfl : k = m + 1 := by omega
            have hfin : bytes S2 = body ((l.take (i + 1)).map nameOf) := by rw [hS2, hnext]
            go_wp2_with fail
            refine (cW1 _).mono ?_
            rintro e w' ⟨rfl, hw'⟩
            have hw' := hw'.symm
            subst hw'
            go_wp2_with fail
            go_roundw
            case rel => exact ⟨i + 1, S2, by omega, by omega, by simp, rfl, hfin, hB2⟩
            case measure => simp [Go.RowKit.intOf]; omega
      · obtain rfl : i = 6 := by omega
        have hS' : bytes S = body (namesOf l) := hS
        as_aux_lemma =>
          by_cases h0 : namesOf l = []
          · have e0 : S = ⟨#[]⟩ := bytes_inj (by rw [hS', h0]; rfl)
            subst e0
            go_wp2_with fail
            go_ret
            exact ⟨by rw [h0, pathB_nil]; rfl, hB⟩
          · have e0 : Aside (S = pathB (namesOf l)) := bytes_inj (by rw [hS', pathB_bytes h0])
            have e1 : ¬ S.toList = [] := by
              rw [toL]
              show ¬ bytes S = []
              rw [hS']
              intro e
              exact body_pos h0 (by rw [e]; rfl)
            have e2 : S.toList.isEmpty = false := by simpa using e1
            go_wp2_with fail
            go_ret
            exact ⟨by rw [← e0.out]; rfl, hB⟩
    · have hS' : bytes S = body (namesOf l) := by
        rw [hS, namesOf, List.take_of_length_le (by omega), List.take_of_length_le (by omega)]
      as_aux_lemma =>
        by_cases h0 : namesOf l = []
        · have e0 : S = ⟨#[]⟩ := bytes_inj (by rw [hS', h0]; rfl)
          subst e0
          go_wp2_with fail
          go_ret
          exact ⟨by rw [h0, pathB_nil]; rfl, hB⟩
        · have e0 : Aside (S = pathB (namesOf l)) := bytes_inj (by rw [hS', pathB_bytes h0])
          have e1 : ¬ S.toList = [] := by
            rw [toL]
            show ¬ bytes S = []
            rw [hS']
            intro e
            exact body_pos h0 (by rw [e]; rfl)
          have e2 : S.toList.isEmpty = false := by simpa using e1
          go_wp2_with fail
          go_ret
          exact ⟨by rw [← e0.out]; rfl, hB⟩
end Go.Proofs.YtacjfbomjglnjaaDoor

/-! WHAT CHECK ANSWERS OF TEXTS THAT WERE TURNED, AND OF PATHS THAT ARE TOO DEEP, OR TOO LONG. -/
namespace Go.Proofs.YtacjfbomjglnjaaDoor
set_option linter.unusedSimpArgs false
set_option linter.unusedVariables false

theorem check_three (u : ByteArray) : checkOf u = 0 ∨ checkOf u = 1 ∨ checkOf u = 5 ∧ 78 < u.size := by
  unfold checkOf
  split
  · rename_i h; exact .inr (.inr ⟨rfl, h⟩)
  · split
    · exact .inl rfl
    · split
      · exact .inr (.inl rfl)
      · split
        · exact .inr (.inl rfl)
        · split
          · exact .inl rfl
          · exact .inr (.inl rfl)
/-- Every byte of a path is a slash, or one that a name may have. -/
theorem body_mem : ∀ (ns : List ByteArray), (∀ n ∈ ns, name n = true) → ∀ c ∈ body ns, c = 47 ∨ okB c = true
  | [], _, c, hc => by cases hc
  | n :: r, h, c, hc => by
    rcases List.mem_cons.1 hc with rfl | hc
    · exact .inl rfl
    · rcases List.mem_append.1 hc with hc | hc
      · have := h n (by simp)
        simp only [name, Bool.and_eq_true, decide_eq_true_eq, List.all_eq_true] at this
        exact .inr (this.2.2 c hc)
      · exact body_mem r (fun x hx => h x (by simp [hx])) c hc
/-- A byte that no name has: no path. -/
theorem check_bad {u : ByteArray} {c : UInt8} (hc : c ∈ bytes u) (h47 : c ≠ 47) (hok : okB c = false) (hs : u.size ≤ 78) : checkOf u = 1 := by
  rcases check_three u with h | h | ⟨_, h⟩
  · obtain ⟨ns, hn, rfl, _⟩ := check_path h
    exfalso
    by_cases h0 : ns = []
    · subst h0
      rw [pathB_nil, bytes_slash] at hc
      simp at hc
      exact h47 hc
    · rw [pathB_bytes h0] at hc
      rcases body_mem ns hn.2 c hc with h | h
      · exact h47 h
      · rw [hok] at h; cases h
  · exact h
  · omega
theorem skip_flat {X B : List UInt8} : ∀ (m : List UInt8), (∀ c ∈ m, c ≠ 47) → (∀ A, X ≠ A ++ 47 :: 47 :: B) → ∀ A, m ++ X = A ++ 47 :: 47 :: B → False
  | [], _, hX, A, e => hX A e
  | c :: t, hf, hX, [], e => by
    simp only [List.nil_append, List.cons_append, List.cons.injEq] at e
    exact hf c (by simp) e.1
  | c :: t, hf, hX, a :: A, e => by
    simp only [List.cons_append, List.cons.injEq] at e
    exact skip_flat t (fun x hx => hf x (by simp [hx])) hX A e.2
/-- No two slashes side by side. -/
theorem body_single : ∀ (ns : List ByteArray), (∀ n ∈ ns, Flat n ∧ 1 ≤ n.size) → ∀ A B : List UInt8, body ns ≠ A ++ 47 :: 47 :: B
  | [], _, A, B => by simp [body]
  | n :: r, h, A, B => by
    obtain ⟨hf, h1⟩ := h n (by simp)
    intro e
    simp only [body] at e
    cases A with
    | nil =>
      simp only [List.nil_append, List.cons.injEq, true_and] at e
      cases hb : bytes n with
      | nil => rw [← bytes_len, hb] at h1; simp at h1
      | cons c t =>
        rw [hb] at e
        simp only [List.cons_append, List.cons.injEq] at e
        exact hf c (by rw [hb]; simp) e.1
    | cons a A =>
      simp only [List.cons_append, List.cons.injEq] at e
      exact skip_flat (bytes n) hf (fun A => body_single r (fun x hx => h x (by simp [hx])) A B) A e.2
theorem check_twice {u : ByteArray} {A B : List UInt8} (h : bytes u = A ++ 47 :: 47 :: B) : checkOf u ≠ 0 := by
  intro h0
  obtain ⟨ns, hn, rfl, _⟩ := check_path h0
  by_cases hne : ns = []
  · subst hne
    rw [pathB_nil, bytes_slash] at h
    have := congrArg List.length h
    simp at this
    omega
  · rw [pathB_bytes hne] at h
    exact body_single ns hn.flat A B h
/-- What Check answers of names one behind the other, whatever they are. -/
theorem check_any_names {ns : List ByteArray} (hf : ∀ n ∈ ns, Flat n ∧ 1 ≤ n.size) (hne : ns ≠ []) : checkOf (pathB ns) = if 78 < (pathB ns).size then 5 else if 6 < ns.length then 1 else if ns.all name = true then 0 else 1 := by
  unfold checkOf
  split
  · rfl
  · rw [if_neg (fun e => hne ((path_root (fun n hn => (hf n hn).2)).1 e)), parts_path hf]
    have hb : bytes (pathB ns) = body ns := pathB_bytes hne
    have h2 : ¬ ((pathB ns).size < 2 ∨ (pathB ns).data.toList.getD 0 0 ≠ 47) := by
      cases ns with
      | nil => exact absurd rfl hne
      | cons n r =>
        have := (hf n (by simp)).2
        rw [not_or]
        constructor
        · rw [← bytes_len, hb]
          simp only [body, List.length_cons, List.length_append]
          rw [bytes_len]
          omega
        · show ¬ (bytes (pathB (n :: r))).getD 0 0 ≠ 47
          rw [hb]
          simp [body]
    rw [if_neg h2]
/-- A byte of a text turned into another text. -/
def turnAt (u : ByteArray) (k : Nat) (t : ByteArray) : ByteArray := u.extract 0 k ++ t ++ u.extract (k + 1) u.size
theorem turn_bytes (u : ByteArray) (k : Nat) (t : ByteArray) : bytes (turnAt u k t) = (bytes u).take k ++ (bytes t ++ (bytes u).drop (k + 1)) := by
  unfold turnAt
  rw [bytes_append, bytes_append, bytes_extract, bytes_extract, List.drop_zero, List.take_of_length_le (Nat.le_of_eq (bytes_len u)), List.append_assoc]
theorem turn_bad {u : ByteArray} {k : Nat} (hk : k < u.size) (hs : u.size ≤ 78) {c : UInt8} (h47 : c ≠ 47) (hok : okB c = false) : checkOf (turnAt u k ⟨#[c]⟩) = 1 := by
  refine check_bad (c := c) ?_ h47 hok ?_
  · rw [turn_bytes]
    simp [bytes]
  · rw [← bytes_len, turn_bytes]
    have := bytes_len u
    simp [bytes] at this ⊢
    omega
theorem turn_twice (u : ByteArray) (k : Nat) : checkOf (turnAt u k ⟨#[47, 47]⟩) ≠ 0 :=
  check_twice (A := (bytes u).take k) (B := (bytes u).drop (k + 1)) (by rw [turn_bytes]; rfl)
end Go.Proofs.YtacjfbomjglnjaaDoor

/-! PACKAGE path: Name (a range over the text's runes), Join, and the last slash's functions, against the plain functions. -/
namespace Go.Proofs.YtacjfbomjglnjaaDoor
open Go.RowKit
set_option maxRecDepth 8000
set_option linter.unusedSimpArgs false
set_option linter.unusedVariables false
set_option maxHeartbeats 1000000 in
theorem join_any (p n : ByteArray) (hp : p.size ≤ 1000000) (hn : n.size ≤ 1000000) (w : World) :
    Calls Tryd.prog 52 #[.string p, .string n] w fun e w' => e = .returned (.string (joinOf p n)) ∧ w' = w := by
  have b1 : ¬ 9223372036854775807 < 1 + n.size := by omega
  have b2 : ¬ 9223372036854775807 < p.size + 1 := by omega
  have b3 : ¬ 9223372036854775807 < p.size + 1 + n.size := by omega
  unfold joinOf
  cases h : eqs p slashS
  · have hl := eqs_lit false h
    have hl2 : ¬ p.toList = [47] := by simpa using hl
    rw [if_neg (by simp)]
    go_enter Tryd.func52, Tryd.ntmps52
    go_wp2
    go_ret
    exact ⟨rfl, rfl⟩
  · have hl := eqs_lit true h
    have hl2 : p.toList = [47] := by simpa using hl
    have hp2 : Aside (p = slashS) := eqs_iff.1 h
    rw [if_pos rfl]
    go_enter Tryd.func52, Tryd.ntmps52
    go_wp2
    go_ret
    exact ⟨by rw [hp2.out]; rfl, rfl⟩
end Go.Proofs.YtacjfbomjglnjaaDoor

/-! WHAT THE LIBRARY'S Split, TrimPrefix, HasPrefix AND LastIndex TELL OF PATHS, IN PLAIN WORDS. -/
namespace Go.Proofs.YtacjfbomjglnjaaDoor
set_option linter.unusedSimpArgs false
set_option linter.unusedVariables false

theorem occ_slash (l : List UInt8) (j : Nat) : Lib.occAt l [47] j = true ↔ l[j]? = some 47 := by
  have e : l[j]? = (l.drop j)[0]? := by rw [List.getElem?_drop]; rfl
  unfold Lib.occAt
  rw [e]
  cases l.drop j with
  | nil => simp
  | cons a t =>
    simp [List.isPrefixOf]
    exact eq_comm
/-- The pieces of a text that is cut at each slash. -/
theorem split_slash : ∀ (k : Nat) (t : ByteArray), Lib.countB t slashS = k → (∀ x ∈ Lib.splitB slashS 0 k t, Flat x) ∧ body (Lib.splitB slashS 0 k t) = 47 :: bytes t := by
  intro k
  induction k with
  | zero =>
    intro t hk
    rcases Lib.index_spec (bytes t) [47] with ⟨hm, hno⟩ | ⟨i, hi, hle, ho, hno⟩
    · rw [Lib.splitB_zero]
      refine ⟨?_, by rw [body_one]⟩
      intro x hx
      simp at hx
      subst hx
      intro c hc e
      subst e
      obtain ⟨j, hj, he⟩ := List.mem_iff_getElem.1 hc
      have := hno j (by omega)
      rw [(occ_slash _ _).2 (by rw [List.getElem?_eq_getElem hj, he])] at this
      cases this
    · have hx : Lib.indexB t slashS = i := hi
      rw [Lib.countB_hit t slashS i (by decide) hx] at hk
      omega
  | succ k ih =>
    intro t hk
    rcases Lib.index_spec (bytes t) [47] with ⟨hm, hno⟩ | ⟨i, hi, hle, ho, hno⟩
    · have hx : Lib.indexB t slashS = -1 := hm
      rw [Lib.countB_miss t slashS hx] at hk
      omega
    · have hx : Lib.indexB t slashS = i := hi
      have hc := Lib.countB_hit t slashS i (by decide) hx
      rw [Lib.splitB_hit slashS 0 k t i hx]
      obtain ⟨h1, h2⟩ := ih (t.extract (i + slashS.size) t.size) (by omega)
      refine ⟨?_, ?_⟩
      · intro x hx
        rcases List.mem_cons.1 hx with rfl | hx
        · intro c hc e
          subst e
          rw [bytes_extract, List.drop_zero] at hc
          obtain ⟨j, hj, he⟩ := List.mem_iff_getElem.1 hc
          rw [List.length_take] at hj
          rw [List.getElem_take] at he
          have := hno j (by omega)
          rw [(occ_slash _ _).2 (by rw [List.getElem?_eq_getElem (by omega), he])] at this
          cases this
        · exact h1 x hx
      · show 47 :: (bytes (t.extract 0 (i + 0)) ++ body (Lib.splitB slashS 0 k (t.extract (i + slashS.size) t.size))) = _
        rw [h2, bytes_extract, bytes_extract, List.drop_zero, List.take_of_length_le (Nat.le_of_eq (bytes_len t))]
        have hg := (occ_slash _ _).1 ho
        obtain ⟨hlt, hv⟩ := List.getElem?_eq_some_iff.1 hg
        congr 1
        conv => rhs; rw [← List.take_append_drop i (bytes t), List.drop_eq_getElem_cons hlt, hv]
        rfl
theorem head_pos {u : ByteArray} (h0 : (bytes u).getD 0 0 = 47) : ∃ t, bytes u = 47 :: t := by
  cases h : bytes u with
  | nil => rw [h] at h0; cases h0
  | cons a t =>
    rw [h] at h0
    simp at h0
    exact ⟨t, by rw [h0]⟩
theorem prefix_slash (u : ByteArray) : Lib.hasPrefix (bytes u) [47] = decide ((bytes u).getD 0 0 = 47) := by
  unfold Lib.hasPrefix
  cases bytes u with
  | nil => rfl
  | cons a t =>
    simp [List.isPrefixOf]
    by_cases h : a = 47
    · simp [h]
    · simp [h]; exact fun e => h e.symm
def trimS (u : ByteArray) : ByteArray := ⟨(Lib.trimPrefix (bytes u) [47]).toArray⟩
def ppartsOf (u : ByteArray) : List ByteArray := if eqs u slashS = true then [] else Lib.splitB slashS 0 (Lib.countB (trimS u) slashS) (trimS u)
theorem slash_size : slashS.size = 1 := rfl
theorem pparts_eq {u : ByteArray} (h0 : (bytes u).getD 0 0 = 47) : ppartsOf u = partsOf u := by
  obtain ⟨t, ht⟩ := head_pos h0
  unfold ppartsOf
  by_cases e : eqs u slashS = true
  · rw [if_pos e, eqs_iff.1 e]
    rfl
  · rw [if_neg e]
    have hs2 : 2 ≤ u.size := by
      rcases Nat.lt_or_ge u.size 2 with h | h
      · exfalso
        apply e
        rw [eqs_bytes, bytes_slash, ht]
        rw [← bytes_len, ht] at h
        cases t with
        | nil => rfl
        | cons a b => simp at h; omega
      · exact h
    obtain ⟨h1, h2⟩ := split_slash _ (trimS u) rfl
    obtain ⟨h3, _⟩ := parts_whole h0 hs2
    refine body_inj _ _ h1 (parts_flat u) ?_
    rw [h2, h3]
    have : bytes (trimS u) = t := by
      show Lib.trimPrefix (bytes u) [47] = t
      unfold Lib.trimPrefix
      rw [prefix_slash, h0, ht]
      rfl
    rw [this, ht]
theorem trim_size (u : ByteArray) : (trimS u).size ≤ u.size := by
  rw [← bytes_len, ← bytes_len]
  show (Lib.trimPrefix (bytes u) [47]).length ≤ _
  unfold Lib.trimPrefix
  split
  · simp
  · exact Nat.le_refl _
theorem body_mem_size : ∀ (l : List ByteArray) (x : ByteArray), x ∈ l → x.size ≤ (body l).length
  | [], x, h => by cases h
  | n :: r, x, h => by
    simp only [body, List.length_cons, List.length_append]
    rw [bytes_len]
    rcases List.mem_cons.1 h with rfl | h
    · omega
    · have := body_mem_size r x h
      omega
theorem pparts_small (u : ByteArray) : ∀ x ∈ ppartsOf u, x.size ≤ u.size + 1 := by
  intro x hx
  unfold ppartsOf at hx
  split at hx
  · cases hx
  · obtain ⟨_, h2⟩ := split_slash _ (trimS u) rfl
    have := body_mem_size _ x hx
    rw [h2, List.length_cons, bytes_len] at this
    have := trim_size u
    omega
theorem body_count : ∀ (l : List ByteArray), l.length ≤ (body l).length
  | [] => Nat.le_refl _
  | n :: r => by
    have := body_count r
    simp only [body, List.length_cons, List.length_append]
    omega
theorem pparts_count (u : ByteArray) : (ppartsOf u).length ≤ u.size + 1 := by
  unfold ppartsOf
  split
  · simp
  · obtain ⟨_, h2⟩ := split_slash _ (trimS u) rfl
    have := body_count (Lib.splitB slashS 0 (Lib.countB (trimS u) slashS) (trimS u))
    rw [h2, List.length_cons, bytes_len] at this
    have := trim_size u
    omega
/-- What the program's Check answers is the document's. -/
theorem pcheck_eq (u : ByteArray) : (if 78 < u.size then (5 : Int) else if Lib.hasPrefix (bytes u) [47] = false then 1 else if 6 < (ppartsOf u).length then 1 else if (ppartsOf u).all name = true then 0 else 1) = checkOf u := by
  unfold checkOf
  rw [prefix_slash]
  by_cases h78 : 78 < u.size
  · rw [if_pos h78, if_pos h78]
  rw [if_neg h78, if_neg h78]
  by_cases h0 : (bytes u).getD 0 0 = 47
  · rw [if_neg (by rw [h0]; decide), pparts_eq h0]
    by_cases e : eqs u slashS = true
    · rw [if_pos e]
      have hp : partsOf u = [] := by rw [eqs_iff.1 e]; rfl
      rw [hp]
      rfl
    · rw [if_neg e, if_neg (c := u.size < 2 ∨ _)]
      rw [not_or]
      refine ⟨fun h => e ?_, fun h => h h0⟩
      obtain ⟨t, ht⟩ := head_pos h0
      rw [eqs_bytes, bytes_slash, ht]
      rw [← bytes_len, ht] at h
      cases t with
      | nil => rfl
      | cons a b => simp at h; omega
  · rw [if_pos (by simpa using h0), if_neg (c := eqs u slashS = true), if_pos (.inr h0)]
    intro e
    rw [eqs_iff.1 e] at h0
    exact h0 rfl

theorem byte_bang (u : ByteArray) (k : Nat) (h : k < u.size) : u.data[k]! = (bytes u).getD k 0 := by
  have hk : k < u.data.size := h
  rw [List.getD_eq_getElem?_getD, Array.getElem?_toList, getElem!_pos u.data k hk, Array.getElem?_eq_getElem hk]
  rfl
theorem byte_is (c : UInt8) : ((c.toNat : Int) = 47) ↔ c = 47 :=
  ⟨fun h => by apply UInt8.toNat_inj.1; have : c.toNat = 47 := by omega
               rw [this]; rfl, fun h => by rw [h]; rfl⟩
theorem last_slash {u : ByteArray} (h0 : (bytes u).getD 0 0 = 47) : ∀ k, 1 ≤ k → k ≤ u.size → Lib.lastIdx u 47 k = (slashTo u k : Nat)
  | 0, h, _ => by omega
  | 1, _, h => by
    unfold Lib.lastIdx slashTo
    rw [byte_bang u 0 (by omega), if_pos ((byte_is _).2 h0), if_pos h0]
  | k + 2, _, h => by
    unfold Lib.lastIdx slashTo
    rw [byte_bang u (k + 1) (by omega)]
    by_cases hc : (bytes u).getD (k + 1) 0 = 47
    · rw [if_pos ((byte_is _).2 hc), if_pos hc]
    · rw [if_neg (fun e => hc ((byte_is _).1 e)), if_neg hc]
      exact last_slash h0 (k + 1) (by omega) (by omega)
theorem last_index {u : ByteArray} (h0 : (bytes u).getD 0 0 = 47) : Lib.lastIndexByte u 47 = (slashTo u u.size : Nat) := by
  obtain ⟨t, ht⟩ := head_pos h0
  have h1 : 1 ≤ u.size := by rw [← bytes_len, ht]; simp
  exact last_slash h0 _ h1 (Nat.le_refl _)

/-- What the program's In answers. -/
def pinOf (u v : ByteArray) : Bool := decide ((joinOf v ⟨#[]⟩).size < u.size) && Lib.hasPrefix (bytes u) (bytes (joinOf v ⟨#[]⟩))
theorem pin_path {a b : List ByteArray} (ha : ∀ n ∈ a, Flat n ∧ 1 ≤ n.size) (hb : ∀ n ∈ b, Flat n ∧ 1 ≤ n.size) : pinOf (pathB a) (pathB b) = true ↔ ∃ c, a = b ++ c ∧ c ≠ [] := by
  have hj : joinOf (pathB b) ⟨#[]⟩ = pathB (b ++ [⟨#[]⟩]) := join_path _ (fun n hn => (hb n hn).2)
  have hjb : bytes (pathB (b ++ [⟨#[]⟩])) = body b ++ [47] := by
    rw [pathB_bytes (by simp), body_append, body_one]
  unfold pinOf
  rw [hj, hjb, ← bytes_len, ← bytes_len, hjb]
  simp only [Bool.and_eq_true, decide_eq_true_eq, Lib.hasPrefix, List.isPrefixOf_iff_prefix, List.length_append, List.length_cons, List.length_nil]
  constructor
  · rintro ⟨h1, r, h2⟩
    have hane : a ≠ [] := by
      rintro rfl
      rw [pathB_nil, bytes_slash] at h1
      simp at h1
    rw [pathB_bytes hane] at h2
    refine body_prefix b a r (fun n hn => (hb n hn).1) (fun n hn => (ha n hn).1) ?_
    rw [← h2]
    simp
  · rintro ⟨c, rfl, hne⟩
    cases c with
    | nil => exact absurd rfl hne
    | cons n r =>
      have h1 := (ha n (by simp)).2
      rw [pathB_bytes (by simp), body_append]
      refine ⟨?_, bytes n ++ body r, by simp [body]⟩
      rw [List.length_append]
      simp only [body, List.length_cons, List.length_append]
      rw [bytes_len]
      omega
theorem pin_eq {a b : List ByteArray} (ha : ∀ n ∈ a, Flat n ∧ 1 ≤ n.size) (hb : ∀ n ∈ b, Flat n ∧ 1 ≤ n.size) : pinOf (pathB a) (pathB b) = inOf (pathB a) (pathB b) := by
  have h1 := pin_path ha hb
  have h2 := in_path ha hb
  cases h : inOf (pathB a) (pathB b)
  · cases h' : pinOf (pathB a) (pathB b)
    · rfl
    · rw [h2.2 (h1.1 h')] at h; cases h
  · exact h1.2 (h2.1 h)
theorem path_head {ns : List ByteArray} : (bytes (pathB ns)).getD 0 0 = 47 := by
  cases ns with
  | nil => rw [pathB_nil]; rfl
  | cons n r => rw [pathB_bytes (by simp)]; rfl
end Go.Proofs.YtacjfbomjglnjaaDoor

/-! strings.HasPrefix, TrimPrefix, Split AND LastIndex AT THIS PROGRAM: the library of contracts laid in plain words, and the calls. -/
namespace Go.Proofs.YtacjfbomjglnjaaDoor
open Go.RowKit Go.Shelf
def laysHas_ren : Go.Shelf.Ren := ⟨fun | 99 => 81 | 206 => 95 | n => n, fun | 9 => 9 | 4 => 4 | 3 => 3 | n => n, fun | n => n⟩
theorem laysHas : Go.Proofs.Lays.n99 Tryd.prog laysHas_ren := {
  mixed := by kernel_rfl
  f99 := Tryd.func81.trans (congrArg some (by kernel_rfl))
  f206 := Tryd.func95.trans (congrArg some (by kernel_rfl))
  t3 := Tryd.underlying3
  a3 := Tryd.isAgg3
  z3 := Tryd.sizeOf3
  v3 := Tryd.zeroValue3
  t4 := Tryd.underlying4
  a4 := Tryd.isAgg4
  z4 := Tryd.sizeOf4
  v4 := Tryd.zeroValue4
  t9 := Tryd.underlying9
  a9 := Tryd.isAgg9
  z9 := Tryd.sizeOf9
  v9 := Tryd.zeroValue9 }
def laysTrim_ren : Go.Shelf.Ren := ⟨fun | 101 => 94 | 208 => 103 | 206 => 95 | n => n, fun | 9 => 9 | 4 => 4 | 3 => 3 | n => n, fun | n => n⟩
theorem laysTrim : Go.Proofs.Lays.n101 Tryd.prog laysTrim_ren := {
  mixed := by kernel_rfl
  f101 := Tryd.func94.trans (congrArg some (by kernel_rfl))
  f206 := Tryd.func95.trans (congrArg some (by kernel_rfl))
  f208 := Tryd.func103.trans (congrArg some (by kernel_rfl))
  t3 := Tryd.underlying3
  a3 := Tryd.isAgg3
  z3 := Tryd.sizeOf3
  v3 := Tryd.zeroValue3
  t4 := Tryd.underlying4
  a4 := Tryd.isAgg4
  z4 := Tryd.sizeOf4
  v4 := Tryd.zeroValue4
  t9 := Tryd.underlying9
  a9 := Tryd.isAgg9
  z9 := Tryd.sizeOf9
  v9 := Tryd.zeroValue9 }
def laysSplit_ren : Go.Shelf.Ren := ⟨fun | 146 => 93 | 221 => 102 | 268 => 106 | 138 => 107 | 143 => 108 | 195 => 109 | 197 => 110 | 218 => 111 | 219 => 112 | 260 => 113 | 217 => 114 | 225 => 115 | 224 => 116 | 267 => 117 | 266 => 118 | 314 => 119 | n => n, fun | 9 => 9 | 31 => 51 | 3 => 3 | 4 => 4 | 0 => 0 | 105 => 124 | 21 => 21 | 5 => 5 | 46 => 97 | 119 => 126 | 139 => 129 | 138 => 128 | 146 => 104 | 51 => 103 | n => n, fun | 1 => 0 | 3 => 4 | 4 => 5 | n => n⟩
theorem laysSplit : Go.Proofs.Lays.n146 Tryd.prog laysSplit_ren := {
  mixed := by kernel_rfl
  f138 := Tryd.func107.trans (congrArg some (by kernel_rfl))
  f143 := Tryd.func108.trans (congrArg some (by kernel_rfl))
  f146 := Tryd.func93.trans (congrArg some (by kernel_rfl))
  f195 := Tryd.func109.trans (congrArg some (by kernel_rfl))
  f197 := Tryd.func110.trans (congrArg some (by kernel_rfl))
  f217 := Tryd.func114.trans (congrArg some (by kernel_rfl))
  f218 := Tryd.func111.trans (congrArg some (by kernel_rfl))
  f219 := Tryd.func112.trans (congrArg some (by kernel_rfl))
  f221 := Tryd.func102.trans (congrArg some (by kernel_rfl))
  f224 := Tryd.func116.trans (congrArg some (by kernel_rfl))
  f225 := Tryd.func115.trans (congrArg some (by kernel_rfl))
  f260 := Tryd.func113.trans (congrArg some (by kernel_rfl))
  f266 := Tryd.func118.trans (congrArg some (by kernel_rfl))
  f267 := Tryd.func117.trans (congrArg some (by kernel_rfl))
  f268 := Tryd.func106.trans (congrArg some (by kernel_rfl))
  f314 := Tryd.func119.trans (congrArg some (by kernel_rfl))
  t0 := Tryd.underlying0
  a0 := Tryd.isAgg0
  z0 := Tryd.sizeOf0
  v0 := Tryd.zeroValue0
  t3 := Tryd.underlying3
  a3 := Tryd.isAgg3
  z3 := Tryd.sizeOf3
  v3 := Tryd.zeroValue3
  t4 := Tryd.underlying4
  a4 := Tryd.isAgg4
  z4 := Tryd.sizeOf4
  v4 := Tryd.zeroValue4
  t5 := Tryd.underlying5
  a5 := Tryd.isAgg5
  z5 := Tryd.sizeOf5
  v5 := Tryd.zeroValue5
  t9 := Tryd.underlying9
  a9 := Tryd.isAgg9
  z9 := Tryd.sizeOf9
  v9 := Tryd.zeroValue9
  t21 := Tryd.underlying21
  a21 := Tryd.isAgg21
  z21 := Tryd.sizeOf21
  v21 := Tryd.zeroValue21
  t31 := Tryd.underlying51
  a31 := Tryd.isAgg51
  z31 := Tryd.sizeOf51
  v31 := Tryd.zeroValue51
  t46 := Tryd.underlying97
  a46 := Tryd.isAgg97
  z46 := Tryd.sizeOf97
  v46 := Tryd.zeroValue97
  t51 := Tryd.underlying103
  a51 := Tryd.isAgg103
  z51 := Tryd.sizeOf103
  v51 := Tryd.zeroValue103
  t105 := Tryd.underlying124
  a105 := Tryd.isAgg124
  z105 := Tryd.sizeOf124
  v105 := Tryd.zeroValue124
  t119 := Tryd.underlying126
  a119 := Tryd.isAgg126
  z119 := Tryd.sizeOf126
  t138 := Tryd.underlying128
  a138 := Tryd.isAgg128
  z138 := Tryd.sizeOf128
  v138 := Tryd.zeroValue128
  t139 := Tryd.underlying129
  a139 := Tryd.isAgg129
  z139 := Tryd.sizeOf129
  v139 := Tryd.zeroValue129
  t146 := Tryd.underlying104
  a146 := Tryd.isAgg104
  z146 := Tryd.sizeOf104
  v146 := Tryd.zeroValue104
  g1 := by kernel_rfl
  g3 := by kernel_rfl
  g4 := by kernel_rfl }
def laysLast_ren : Go.Shelf.Ren := ⟨fun | 148 => 67 | 222 => 77 | 223 => 78 | 269 => 88 | n => n, fun | 9 => 9 | 3 => 3 | 4 => 4 | 5 => 5 | 146 => 104 | 51 => 103 | 46 => 97 | n => n, fun | n => n⟩
theorem laysLast : Go.Proofs.Lays.n148 Tryd.prog laysLast_ren := {
  mixed := by kernel_rfl
  f148 := Tryd.func67.trans (congrArg some (by kernel_rfl))
  f222 := Tryd.func77.trans (congrArg some (by kernel_rfl))
  f223 := Tryd.func78.trans (congrArg some (by kernel_rfl))
  f269 := Tryd.func88.trans (congrArg some (by kernel_rfl))
  t3 := Tryd.underlying3
  a3 := Tryd.isAgg3
  z3 := Tryd.sizeOf3
  v3 := Tryd.zeroValue3
  t4 := Tryd.underlying4
  a4 := Tryd.isAgg4
  z4 := Tryd.sizeOf4
  v4 := Tryd.zeroValue4
  t5 := Tryd.underlying5
  a5 := Tryd.isAgg5
  z5 := Tryd.sizeOf5
  v5 := Tryd.zeroValue5
  t9 := Tryd.underlying9
  a9 := Tryd.isAgg9
  z9 := Tryd.sizeOf9
  v9 := Tryd.zeroValue9
  t46 := Tryd.underlying97
  a46 := Tryd.isAgg97
  z46 := Tryd.sizeOf97
  v46 := Tryd.zeroValue97
  t51 := Tryd.underlying103
  a51 := Tryd.isAgg103
  z51 := Tryd.sizeOf103
  v51 := Tryd.zeroValue103
  t146 := Tryd.underlying104
  a146 := Tryd.isAgg104
  z146 := Tryd.sizeOf104
  v146 := Tryd.zeroValue104 }

theorem has_any (s p : ByteArray) (w : World) : Calls Tryd.prog 81 #[.string s, .string p] w fun e w' => e = .returned (.bool (Lib.hasPrefix (bytes s) (bytes p))) ∧ w' = w :=
  Any.strings_HasPrefix laysHas s p w
theorem trim_any (s : ByteArray) (w : World) : Calls Tryd.prog 94 #[.string s, .string ⟨#[47]⟩] w fun e w' => e = .returned (.string (trimS s)) ∧ w' = w :=
  Any.strings_TrimPrefix laysTrim s ⟨#[47]⟩ w
theorem lastIndex_any (s : ByteArray) (hs : s.size ≤ 1000000) (w : World) : Calls Tryd.prog 67 #[.string s, .string ⟨#[47]⟩] w fun e w' => e = .returned (.int .i64 (Lib.lastIndexByte s 47)) ∧ w' = w :=
  Any.strings_LastIndex_one laysLast s ⟨#[47]⟩ rfl (by omega) w
theorem split_any (s : ByteArray) (m : Int) (w : World) (hs : s.size ≤ 1000000) (hm : w.cell? ⟨0, 0, none⟩ = some (.int .i64 m)) :
    Calls Tryd.prog 93 #[.string s, .string ⟨#[47]⟩] w fun e w' =>
      e = .returned (.slice (some ⟨w.heap.size, 0, none⟩) (Lib.countB s slashS + 1) (Lib.countB s slashS + 1)) ∧ w' = w.alloc (.cells ((Lib.splitB slashS 0 (Lib.countB s slashS) s).map Value.string).toArray 9) :=
  Any.strings_Split laysSplit (by kernel_rfl) s slashS m w (by omega) hm (by decide)
end Go.Proofs.YtacjfbomjglnjaaDoor

/-! PACKAGE path: Parts, Check, Parent, Last, In, against the plain functions; the chapter's examples. -/
namespace Go.Proofs.YtacjfbomjglnjaaDoor
open Go.RowKit
set_option maxRecDepth 8000
set_option linter.unusedSimpArgs false
set_option linter.unusedVariables false

/-- The library's variable that its searches read holds an int. -/
def MaxV (w : World) : Prop := ∃ m, w.cell? ⟨0, 0, none⟩ = some (.int .i64 m)
theorem MaxV.below {w w' : World} (h : MaxV w) (b : Below w.heap.size w w') : MaxV w' := by
  obtain ⟨m, hm⟩ := h
  exact ⟨m, (b.cell (World.block_lt_of_cell? _ _ hm)).trans hm⟩
set_option maxHeartbeats 1000000 in
theorem parts_any (u : ByteArray) (hu : u.size ≤ 100000) (w : World) (hV : MaxV w) :
    Calls Tryd.prog 80 #[.string u] w fun e w' => ∃ v, e = .returned v ∧ OwnS w' w.heap.size v (ppartsOf u) ∧ Below w.heap.size w w' := by
  unfold ppartsOf
  cases h : eqs u slashS
  · have hl := eqs_lit false h
    have hl2 : ¬ u.toList = [47] := by simpa using hl
    rw [if_neg (by simp)]
    obtain ⟨m, hm⟩ := hV
    have cT := trim_any u
    have hts := trim_size u
    obtain ⟨t, ht⟩ : ∃ t, trimS u = t := ⟨_, rfl⟩
    rw [ht] at cT hts ⊢
    have hlen := Lib.splitB_all slashS (by decide) 0 _ t rfl
    have hcl := Lib.countB_le slashS (by decide) t.size t (Nat.le_refl _)
    have cS := split_any t m w (by omega) hm
    obtain ⟨k, hk⟩ : ∃ k, Lib.countB t slashS = k := ⟨_, rfl⟩
    rw [hk] at cS hlen hcl ⊢
    obtain ⟨l, hl⟩ : ∃ l, Lib.splitB slashS 0 k t = l := ⟨_, rfl⟩
    rw [hl] at cS hlen ⊢
    have hown : OwnS (w.alloc (.cells (l.map Value.string).toArray 9)) w.heap.size (.slice (some ⟨w.heap.size, 0, none⟩) (k + 1) (k + 1)) l := by
      have := World.ownsRow_lit (base := w.heap.size) (e := 9) (size := 1) w (l.map Value.string).toArray (k + 1) (Nat.le_refl _) (by simp only [maxLen]; omega) (by simp; omega)
      unfold OwnS
      rw [hlen]
      simpa using this
    go_enter Tryd.func80, Tryd.ntmps80
    go_wp2_with fail
    refine (cT _).mono ?_
    rintro e w' ⟨rfl, hw'⟩
    have hw' := hw'.symm
    subst hw'
    go_wp2_with fail
    refine cS.mono ?_
    rintro e w' ⟨rfl, rfl⟩
    go_wp2_with fail
    go_ret
    exact ⟨_, rfl, hown, (Below.refl _ _).alloc (Nat.le_refl _) _⟩
  · have hl := eqs_lit true h
    have hl2 : u.toList = [47] := by simpa using hl
    rw [if_pos rfl]
    go_enter Tryd.func80, Tryd.ntmps80
    go_wp2
    go_ret
    exact ⟨_, rfl, ownS_nil _ _, Below.refl _ _⟩
set_option maxHeartbeats 4000000 in
theorem pcheck_any (u : ByteArray) (hu : u.size ≤ 100000) (w : World) (hV : MaxV w) :
    Calls Tryd.prog 69 #[.string u] w fun e w' => e = .returned (.int .i64 (checkOf u)) ∧ Below w.heap.size w w' := by
  rw [← pcheck_eq]
  by_cases h78 : 78 < u.size
  · rw [if_pos h78]
    have h1 : (78 : Int) < (u.size : Int) := by omega
    go_enter Tryd.func69, Tryd.ntmps69
    go_wp2
    go_ret
    exact ⟨rfl, Below.refl _ _⟩
  rw [if_neg h78]
  have cP := parts_any u (by omega) w hV
  have cH := fun W => has_any u ⟨#[47]⟩ W
  have hsm := pparts_small u
  obtain ⟨ps, hps⟩ : ∃ ps, ppartsOf u = ps := ⟨_, rfl⟩
  rw [hps] at cP hsm ⊢
  obtain ⟨ln, hln⟩ : ∃ ln, ps.length = ln := ⟨_, rfl⟩
  have hpe : bytes ⟨#[47]⟩ = [47] := rfl
  rw [hpe] at cH
  cases hpre : Lib.hasPrefix (bytes u) [47]
  · rw [if_pos rfl]
    rw [hpre] at cH
    go_enter Tryd.func69, Tryd.ntmps69
    go_wp2_with fail
    refine cP.mono ?_
    rintro e w1 ⟨v, rfl, ho, hB⟩
    obtain ⟨a, cap, rfl⟩ := ho.slice hln
    go_wp2_with fail
    refine (cH _).mono ?_
    rintro e w' ⟨rfl, hw'⟩
    have hw' := hw'.symm
    subst hw'
    go_wp2_with fail
    go_ret
    exact ⟨rfl, hB⟩
  · rw [if_neg (by simp)]
    rw [hpre] at cH
    obtain ⟨r, hr⟩ : ∃ r : Int, (if 6 < ps.length then (1 : Int) else if ps.all name = true then 0 else 1) = r := ⟨_, rfl⟩
    rw [hr]
    rw [hln] at hr
    go_enter Tryd.func69, Tryd.ntmps69
    go_wp2_with fail
    refine cP.mono ?_
    rintro e w1 ⟨v, rfl, ho, hB⟩
    obtain ⟨a, cap, rfl⟩ := ho.slice hln
    by_cases h6 : 6 < ln
    · rw [if_pos h6] at hr
      subst hr
      go_wp2_with fail
      refine (cH _).mono ?_
      rintro e w' ⟨rfl, hw'⟩
      have hw' := hw'.symm
      subst hw'
      go_wp2_with fail
      go_ret
      exact ⟨rfl, hB⟩
    · rw [if_neg h6] at hr
      go_wp2_with fail
      refine (cH _).mono ?_
      rintro e w' ⟨rfl, hw'⟩
      have hw' := hw'.symm
      subst hw'
      clear cH cP
      go_wp2_with fail
      go_loopw [21] (fun t21 wr => ∃ i : Nat, i ≤ ln ∧ t21 = .int .i64 (i : Int) ∧ Below w1.heap.size w1 wr ∧ Aside (r = if (ps.drop i).all name = true then 0 else 1)) (fun t21 _ => ln - (Go.RowKit.intOf t21).toNat)
      case atStart => exact ⟨0, by omega, rfl, Below.refl _ _, by rw [Aside, List.drop_zero, hr]⟩
      case round =>
        obtain ⟨i, hi, rfl, hBr, hall⟩ := hrel
        clear hr
        by_cases hlt : i < ln
        · obtain ⟨x, hx⟩ : ∃ x, ps[i]? = some x := ⟨_, List.getElem?_eq_getElem (by omega)⟩
          obtain ⟨g, cap', hv, hc, _, _⟩ := (ho.below hBr).at hln hx
          injection hv with q1 q2 q3
          subst q1 q3
          have hxs := hsm x (List.mem_of_getElem? hx)
          have hd : (ps.drop i).all name = (name x && (ps.drop (i + 1)).all name) := by
            have hil := (List.getElem?_eq_some_iff.1 hx).1
            rw [List.drop_eq_getElem_cons hil, List.all_cons, (List.getElem?_eq_some_iff.1 hx).2]
          rw [hd] at hall
          have cN := name_any x (by omega)
          cases hnx : name x
          · rw [hnx] at hall cN
            obtain rfl : r = 1 := by rw [hall.out]; simp
            as_aux_lemma =>
              go_wp2_with fail
              refine (cN _).mono ?_
              rintro e w' ⟨rfl, hB2⟩
              go_wp2_with fail
              go_ret
              exact ⟨rfl, Below.then (Below.then hB hBr) hB2⟩
          · rw [hnx, Bool.true_and] at hall
            rw [hnx] at cN
            as_aux_lemma =>
              go_wp2_with fail
              refine (cN _).mono ?_
              rintro e w' ⟨rfl, hB2⟩
              go_wp2_with fail
              exact ⟨⟨i + 1, by omega, by simp, Below.then hBr hB2, hall⟩, by simp [Go.RowKit.intOf]; omega⟩
        · obtain rfl : r = 0 := by
            rw [hall.out, List.drop_eq_nil_of_le (by omega)]
            rfl
          as_aux_lemma =>
            go_wp2_with fail
            go_ret
            exact ⟨rfl, Below.then hB hBr⟩
set_option maxHeartbeats 1000000 in
theorem parent_any (u : ByteArray) (hu : u.size ≤ 1000000) (h0 : (bytes u).getD 0 0 = 47) (w : World) :
    Calls Tryd.prog 46 #[.string u] w fun e w' => e = .returned (.string (parentOf u)) ∧ w' = w := by
  have cL := lastIndex_any u hu
  rw [last_index h0] at cL
  have hs := slashTo_le u u.size
  cases h : eqs u slashS
  · have hl := eqs_lit false h
    have hl2 : ¬ u.toList = [47] := by simpa using hl
    have h2 : ¬ u.size < 2 := fun h2 => by
      obtain ⟨t, ht⟩ := head_pos h0
      have : eqs u slashS = true := by
        rw [eqs_bytes, bytes_slash, ht]
        rw [← bytes_len, ht] at h2
        cases t with
        | nil => rfl
        | cons a b => simp at h2; omega
      rw [this] at h
      cases h
    unfold parentOf
    rw [if_neg h2]
    obtain ⟨k, hk⟩ : ∃ k, slashTo u u.size = k := ⟨_, rfl⟩
    rw [hk] at cL hs ⊢
    clear h0 h
    by_cases hk0 : k = 0
    · subst hk0
      rw [if_pos rfl]
      go_enter Tryd.func46, Tryd.ntmps46
      go_wp2_with fail
      refine (cL _).mono ?_
      rintro e w' ⟨rfl, rfl⟩
      go_wp2_with fail
      go_ret
      exact ⟨rfl, rfl⟩
    · rw [if_neg hk0]
      have h1 : ((k : Int) == 0) = false := by simp; omega
      go_enter Tryd.func46, Tryd.ntmps46
      go_wp2_with fail
      refine (cL _).mono ?_
      rintro e w' ⟨rfl, rfl⟩
      go_wp2_with fail
      go_ret
      exact ⟨rfl, rfl⟩
  · have hl := eqs_lit true h
    have hl2 : u.toList = [47] := by simpa using hl
    have e1 : parentOf u = ⟨#[]⟩ := by rw [eqs_iff.1 h]; rfl
    rw [e1]
    obtain ⟨k, hk⟩ : ∃ k, slashTo u u.size = k := ⟨_, rfl⟩
    rw [hk] at cL
    clear h0 h hs hk
    go_enter Tryd.func46, Tryd.ntmps46
    go_wp2_with fail
    refine (cL _).mono ?_
    rintro e w' ⟨rfl, rfl⟩
    go_wp2_with fail
    go_ret
    exact ⟨rfl, rfl⟩
set_option maxHeartbeats 1000000 in
theorem last_any (u : ByteArray) (hu : u.size ≤ 1000000) (h0 : (bytes u).getD 0 0 = 47) (w : World) :
    Calls Tryd.prog 47 #[.string u] w fun e w' => e = .returned (.string (lastOf u)) ∧ w' = w := by
  have cL := lastIndex_any u hu
  rw [last_index h0] at cL
  obtain ⟨t, ht⟩ := head_pos h0
  have h1 : 1 ≤ u.size := by rw [← bytes_len, ht]; simp
  have hk2 : slashTo u u.size < u.size := by
    obtain ⟨m, hm⟩ : ∃ m, u.size = m + 1 := ⟨u.size - 1, by omega⟩
    rw [hm]
    unfold slashTo
    split
    · omega
    · have := slashTo_le u m; omega
  have e1 : lastOf u = u.extract (slashTo u u.size + 1) u.size := by
    unfold lastOf
    split
    · rename_i h2
      have e0 : u = slashS := by
        apply bytes_inj
        rw [bytes_slash, ht]
        rw [← bytes_len, ht] at h2
        cases t with
        | nil => rfl
        | cons a b => simp at h2; omega
      rw [e0]
      rfl
    · rfl
  rw [e1]
  obtain ⟨k, hk⟩ : ∃ k, slashTo u u.size = k := ⟨_, rfl⟩
  rw [hk] at cL hk2 ⊢
  clear h0 e1 ht hk
  go_enter Tryd.func47, Tryd.ntmps47
  go_wp2_with fail
  refine (cL _).mono ?_
  rintro e w' ⟨rfl, rfl⟩
  go_wp2_with fail
  go_ret
  exact ⟨rfl, rfl⟩
theorem join_empty_size (v : ByteArray) : (joinOf v ⟨#[]⟩).size ≤ v.size + 1 := by
  unfold joinOf
  split
  · simp [ByteArray.size_append]
    have : (⟨#[]⟩ : ByteArray).size = 0 := rfl
    omega
  · have : (⟨#[]⟩ : ByteArray).size = 0 := rfl
    simp [ByteArray.size_append, slash_size, this]
end Go.Proofs.YtacjfbomjglnjaaDoor

/-! ROWS OF THE CALL'S OWN, OF WHATEVER ELEMENTS: what they hold, and append onto them. For every stage from the tenth on. -/
namespace Go.Proofs.YtacjfbomjglnjaaDoor
open Go.RowKit
set_option maxRecDepth 8000
set_option linter.unusedSimpArgs false
set_option linter.unusedVariables false

/-- An element's type e, its slices' type t, its cells. -/
structure ElemOk {α : Type} (e t : TypeId) (sz : Nat) (f : α → List Value) : Prop where
  und : Tryd.prog.underlying t = some (.slice e)
  info : ∃ i z b, Tryd.prog.info? e = some i ∧ i.zero = some z ∧ i.size = sz ∧ i.bytes = b ∧ z.cells.size = sz ∧ b ≤ 10000
  pos : 0 < sz
  len : ∀ x, (f x).length = sz
  one : ∀ x, ∀ u ∈ f x, u.oneCell' = true
theorem info_of {e : TypeId} {z : Value} {sz b : Nat} (h : (Tryd.prog.info? e).map (fun i => (i.zero, i.size, i.bytes)) = some (some z, sz, b)) : ∃ i, Tryd.prog.info? e = some i ∧ i.zero = some z ∧ i.size = sz ∧ i.bytes = b := by
  cases hi : Tryd.prog.info? e with
  | none => rw [hi] at h; cases h
  | some i =>
    rw [hi] at h
    have hq : (i.zero, i.size, i.bytes) = (some z, sz, b) := Option.some.inj h
    exact ⟨i, rfl, congrArg Prod.fst hq, congrArg (fun p => p.2.1) hq, congrArg (fun p => p.2.2) hq⟩
theorem flat_at {α β : Type} {f : α → List β} {n : Nat} (hf : ∀ a, (f a).length = n) : ∀ (l : List α) (j k : Nat) (a : α), l[j]? = some a → k < n → (l.flatMap f)[j * n + k]? = (f a)[k]?
  | [], _, _, _, h, _ => by simp at h
  | b :: r, 0, k, a, h, hk => by
    simp at h
    subst h
    rw [List.flatMap_cons, Nat.zero_mul, Nat.zero_add, List.getElem?_append_left (by rw [hf]; exact hk)]
  | b :: r, j + 1, k, a, h, hk => by
    simp at h
    rw [List.flatMap_cons, List.getElem?_append_right (by rw [hf, Nat.succ_mul]; omega), hf, show (j + 1) * n + k - n = j * n + k by rw [Nat.succ_mul]; omega]
    exact flat_at hf r j k a h hk
theorem flat_length {α β : Type} {f : α → List β} {n : Nat} (hf : ∀ a, (f a).length = n) : ∀ l : List α, (l.flatMap f).length = l.length * n
  | [] => by simp
  | a :: r => by rw [List.flatMap_cons, List.length_append, hf, flat_length hf r, List.length_cons, Nat.succ_mul, Nat.add_comm]
/-- Elements, one behind the other, wherever they lie. -/
def RowAt {α : Type} (sz : Nat) (f : α → List Value) (W : World) (a : Option Addr) (l : List α) : Prop := ∀ j x, l[j]? = some x → ∃ y, a = some y ∧ ∀ i, i < sz → W.cell? (y.add (j * sz + i)) = (f x)[i]?
section
variable {α : Type} {e t : TypeId} {sz : Nat} {f : α → List Value} {w w' W : World} {base b : Nat} {v v' : Value} {l : List α}
theorem RowAt.below {a : Option Addr} (hf : ∀ x, (f x).length = sz) (h : RowAt sz f w a l) (k : Below w.heap.size w w') : RowAt sz f w' a l := fun j x hx => by
  obtain ⟨y, hy, hc⟩ := h j x hx
  refine ⟨y, hy, fun i hi => ?_⟩
  have h1 := hc i hi
  obtain ⟨u, hu⟩ : ∃ u, (f x)[i]? = some u := ⟨_, List.getElem?_eq_getElem (by rw [hf]; exact hi)⟩
  rw [hu] at h1 ⊢
  exact (k.cell (World.block_lt_of_cell? _ _ h1)).trans h1
theorem RowAt.flat {a : Addr} (hf : ∀ x, (f x).length = sz) (hp : 0 < sz) (h : RowAt sz f w (some a) l) : ∀ j u, (l.flatMap f)[j]? = some u → w.cell? (a.add j) = some u := fun j u hu => by
  have hj := (List.getElem?_eq_some_iff.1 hu).1
  rw [flat_length hf] at hj
  have hq : j / sz < l.length := Nat.div_lt_of_lt_mul (by rw [Nat.mul_comm]; exact hj)
  have hm : j % sz < sz := Nat.mod_lt _ hp
  have hjm : j / sz * sz + j % sz = j := by rw [Nat.mul_comm]; exact Nat.div_add_mod j sz
  have hx : l[j / sz]? = some l[j / sz] := List.getElem?_eq_getElem hq
  have h1 := flat_at hf l (j / sz) (j % sz) _ hx hm
  rw [hjm, hu] at h1
  obtain ⟨y, hy, hc⟩ := h (j / sz) _ hx
  obtain rfl := Option.some.inj hy
  have h2 := hc (j % sz) hm
  rw [hjm] at h2
  rw [h2, ← h1]
def OwnR (e : TypeId) (sz : Nat) (f : α → List Value) (w : World) (base : Nat) (v : Value) (l : List α) : Prop := w.ownsRow base e sz v l.length (l.flatMap f)
theorem OwnR.nil (e : TypeId) (sz : Nat) (f : α → List Value) (w : World) (base : Nat) : OwnR e sz f w base (.slice none 0 0) [] := World.ownsRow_nil _ _ _ _
theorem OwnR.lt (h : OwnR e sz f w base v l) {k : Nat} (hk : v.ownBlock = some k) : base ≤ k ∧ k < w.heap.size := World.ownsRow.lt (show w.ownsRow base e sz v l.length (l.flatMap f) from h) k hk
theorem OwnR.keep (h : OwnR e sz f w base v l) (hb : ∀ k, v.ownBlock = some k → w'.heap[k]? = w.heap[k]?) : OwnR e sz f w' base v l := by
  refine ⟨h.1, ?_⟩
  rcases h.2 with h1 | ⟨g, cap, cur, hv, hg, hh, rest⟩
  · exact .inl h1
  · refine .inr ⟨g, cap, cur, hv, hg, ?_, rest⟩
    rw [hb g (by rw [hv]; rfl)]
    exact hh
theorem OwnR.below (h : OwnR e sz f w base v l) (k : Below w.heap.size w w') : OwnR e sz f w' base v l := h.keep fun j hj => k.block j (h.lt hj).2
theorem OwnR.lower (h : OwnR e sz f w base v l) (hb : b ≤ base) : OwnR e sz f w b v l := by
  refine ⟨h.1, ?_⟩
  rcases h.2 with h1 | ⟨g, cap, cur, hv, hg, rest⟩
  · exact .inl h1
  · exact .inr ⟨g, cap, cur, hv, Nat.le_trans hb hg, rest⟩
theorem OwnR.slice (hf : ∀ x, (f x).length = sz) (h : OwnR e sz f w base v l) : ∃ a cap, v = .slice a l.length cap ∧ l.length ≤ cap ∧ (a = none → cap = 0) ∧ RowAt sz f w a l := by
  have hrow : w.ownsRow base e sz v l.length (l.flatMap f) := h
  rcases h.2 with ⟨rfl, h2⟩ | ⟨g, cap, cur, rfl, _, _, hc, _⟩
  · refine ⟨none, 0, by rw [h2], by omega, fun _ => rfl, fun j u hu => ?_⟩
    have := (List.getElem?_eq_some_iff.1 hu).1
    omega
  · refine ⟨_, cap, rfl, hc, fun q => (by cases q), fun j u hu => ⟨_, rfl, fun k hk => ?_⟩⟩
    have hj := (List.getElem?_eq_some_iff.1 hu).1
    rw [add_at, hrow.cellAt (j * sz + k) (by
      have : (j + 1) * sz ≤ l.length * sz := Nat.mul_le_mul_right _ hj
      rw [Nat.succ_mul] at this
      omega), flat_at hf l j k u hu hk]
/-- append of elements that lie anywhere. -/
theorem OwnR.append (hE : ElemOk e t sz f) (h : OwnR e sz f w base v l) (hb : base ≤ w.heap.size) (y : Addr) (m c : Nat) (l2 : List α) (hm : l2.length = m) (h2 : RowAt sz f w (some y) l2) (hl : l.length < 900000) (hl2 : m < 900000) :
    ∃ v' w', (Builtin.append_ #[t, t] t #[v, .slice (some y) m c]).run Tryd.prog w = .ok v' w' ∧ OwnR e sz f w' base v' (l ++ l2) ∧ Grew w v w' v' := by
  obtain ⟨i, z, by_, hi, hz, hs, hby, hzs, hbb⟩ := hE.info
  obtain ⟨v', W', h1, h2', h3⟩ := run_append_grew (P := Tryd.prog) w base t t e i z sz by_ hE.und hi hz hs hby hzs hE.pos v l.length _ h y m c (l2.flatMap f) (by rw [flat_length hE.len, hm]) (h2.flat hE.len hE.pos) (fun u hu => by
    obtain ⟨x, _, hx⟩ := List.mem_flatMap.1 hu
    exact hE.one x u hx) (by simp only [maxLen]; omega) (by
      have : (l.length + m) * by_ ≤ 1800000 * 10000 := Nat.mul_le_mul (by omega) hbb
      omega) hb
  refine ⟨v', W', h1, ?_, h3⟩
  unfold OwnR
  rw [List.flatMap_append, List.length_append, hm]
  exact h2'
theorem row_made (hf : ∀ x, (f x).length = sz) (w : World) (x : α) (cs : Array Value) (hcs : cs = (f x).toArray) (T : TypeId) : RowAt sz f (w.alloc (.cells cs T)) (some ⟨w.heap.size, 0, none⟩) [x] := fun j u hu => by
  have hj : j = 0 := by
    have := (List.getElem?_eq_some_iff.1 hu).1
    simpa using this
  subst hj
  obtain rfl : x = u := by simpa using hu
  refine ⟨_, rfl, fun i hi => ?_⟩
  rw [add_at, World.cell?_alloc_at _ _ _ _ rfl, hcs]
  simp
/-- append of one element that was just made. -/
theorem OwnR.push (hE : ElemOk e t sz f) (h : OwnR e sz f w base v l) (hb : base ≤ w.heap.size) (x : α) (cs : Array Value) (hcs : cs = (f x).toArray) (T : TypeId) (hl : l.length < 900000) :
    ∃ v' w', (Builtin.append_ #[t, t] t #[v, .slice (some ⟨w.heap.size, 0, none⟩) 1 1]).run Tryd.prog (w.alloc (.cells cs T)) = .ok v' w' ∧ OwnR e sz f w' base v' (l ++ [x]) ∧ Grew w v w' v' := by
  obtain ⟨v', w', h1, h2, h3⟩ := (h.below (alloc_below w (.cells cs T))).append hE (by simp; omega) ⟨w.heap.size, 0, none⟩ 1 1 [x] rfl (row_made hE.len w x cs hcs T) hl (by omega)
  exact ⟨v', w', h1, h2, (Grew.alloc w v _).trans h3⟩
theorem OwnR.grew_below (h : OwnR e sz f w base v l) (hb : base ≤ w.heap.size) (k : Grew w v w' v') : Below base w w' := k.below hb fun j hj => (h.lt hj).1
end
section
variable {ops : Array Oper} {o : Oper} {a : Act} {w : World} {Q : Exit → Act → World → Prop}
theorem step_append {t : TypeId} {K : Act → World → Prop} {E : Prop} (hg : o.guard = none) (s x : Operand) (hop : o.op = Op.call { callee := Callee.builtin Builtin.append, args := #[s, x], argTypes := #[t, t] }) (hty : o.type = t) {u v r : Value} {w' : World} (hs : a.eval s = u) (hx : a.eval x = v)
    (hrun : (Builtin.append_ #[t, t] t #[u, v]).run Tryd.prog w = .ok r w') (hK : K (a.put o.dst r) w') :
    if Region.wanted o (yielded ops a.tmps) = true then Oper.wp Tryd.prog o a w K Q else E := by
  have hw : Region.wanted o (yielded ops a.tmps) = true := by simp [Region.wanted, hg]
  rw [if_pos hw]
  unfold Oper.wp
  simp [execOp, hop, hty, resolve, invoke, builtin, hs, hx, hrun, Result.andThen]
  exact hK
theorem wpList_append {t : TypeId} {rest : List Oper} (hg : o.guard = none) (x y : Operand) (ho : o.op = .call { callee := .builtin .append, args := #[x, y], argTypes := #[t, t] }) (hty : o.type = t) {u v r : Value} {w' : World} (hx : a.eval x = u) (hy : a.eval y = v)
    (hc : (Builtin.append_ #[t, t] t #[u, v]).run Tryd.prog w = .ok r w')
    (h : wpList Tryd.prog ops Q rest (a.put o.dst r) w') : wpList Tryd.prog ops Q (o :: rest) a w := by
  refine wpList_value hg ?_ h
  unfold execOp
  simp only [ho, hty, resolve, invoke, builtin, Sem.run_bind, Sem.run_pure, Result.andThen_ok]
  simp [hx, hy, hc, Result.andThen]
end
end Go.Proofs.YtacjfbomjglnjaaDoor

/-! A BLOCK OF THE CALL'S OWN, CELL BY CELL: what it holds, and that it may be stored to. -/
namespace Go.Proofs.YtacjfbomjglnjaaDoor
open Go.RowKit
set_option maxRecDepth 8000
set_option linter.unusedSimpArgs false
set_option linter.unusedVariables false

def Blk (W : World) (b : Nat) (vs : List Value) : Prop := ∀ k v, vs[k]? = some v → W.cell? ⟨b, k, none⟩ = some v ∧ W.frozen? ⟨b, k, none⟩ = false
theorem Blk.same {W W' : World} {b : Nat} {vs : List Value} (h : Blk W b vs) (hb : W'.heap[b]? = W.heap[b]?) : Blk W' b vs := fun k v hv =>
  ⟨(World.cell?_of_block (a := ⟨b, k, none⟩) hb).trans (h k v hv).1, (World.frozen?_of_block (a := ⟨b, k, none⟩) hb).trans (h k v hv).2⟩
theorem blk_alloc (w : World) (cs : Array Value) (T : TypeId) : Blk (w.alloc (.cells cs T)) w.heap.size cs.toList := fun k v hv =>
  ⟨by rw [World.cell?_alloc_at _ _ _ _ rfl]; simpa using hv, World.frozen?_alloc_new w cs T k⟩
theorem Blk.lt {W : World} {b : Nat} {vs : List Value} (h : Blk W b vs) {v : Value} (h0 : vs[0]? = some v) : b < W.heap.size := World.block_lt_of_cell? _ ⟨b, 0, none⟩ (h 0 v h0).1
theorem Blk.set {W : World} {b : Nat} {vs : List Value} (h : Blk W b vs) (k : Nat) (v : Value) (hk : k < vs.length) : Blk (W.setCell ⟨b, k, none⟩ v) b (vs.set k v) := fun j u hu => by
  by_cases hj : k = j
  · subst hj
    rw [List.getElem?_set_self hk] at hu
    obtain rfl := Option.some.inj hu
    obtain ⟨h1, h2⟩ := h k vs[k] (List.getElem?_eq_getElem hk)
    exact ⟨by simp [World.cell?_setCell_same', h1], by simp [World.frozen?_setCell, h2]⟩
  · rw [List.getElem?_set_ne hj] at hu
    obtain ⟨h1, h2⟩ := h j u hu
    exact ⟨by rw [World.cell?_setCell_other]; exact h1; simp [hj], by simp [World.frozen?_setCell, h2]⟩
end Go.Proofs.YtacjfbomjglnjaaDoor

/-! WHOLE STRUCTS AT ONCE: loaded, stored, handed back, whatever their number of cells. For every stage from the tenth on. -/
namespace Go.Proofs.YtacjfbomjglnjaaDoor
open Go.RowKit
set_option maxRecDepth 8000
set_option linter.unusedSimpArgs false
set_option linter.unusedVariables false

theorem Blk.range {W : World} {b : Nat} {vs : List Value} (h : Blk W b vs) : W.rangeAt b 0 vs := fun j v hv => by
  rw [Nat.zero_add]
  exact (h j v hv).1
theorem Blk.there {W : World} {b : Nat} {vs : List Value} (h : Blk W b vs) : W.there b 0 vs.length := fun j hj => by
  rw [Nat.zero_add]
  have := h j vs[j] (List.getElem?_eq_getElem hj)
  exact ⟨by rw [this.1]; rfl, this.2⟩
theorem blk_of {W : World} {b : Nat} {vs : List Value} (h1 : W.rangeAt b 0 vs) (h2 : W.there b 0 vs.length) : Blk W b vs := fun k v hv => by
  have hk := (List.getElem?_eq_some_iff.1 hv).1
  have e1 := h1 k v hv
  have e2 := (h2 k hk).2
  rw [Nat.zero_add] at e1 e2
  exact ⟨e1, e2⟩
theorem Blk.setAll {W : World} {b : Nat} {vs cs : List Value} (h : Blk W b vs) (hl : vs.length = cs.length) : Blk (W.setCells b 0 cs) b cs := by
  have ht : W.there b 0 cs.length := by rw [← hl]; exact h.there
  exact blk_of (World.rangeAt_setCells_same W b 0 cs ht) (World.there_setCells ht b 0 cs)
theorem Below.cells {B : Nat} {a : World} {b : Nat} (hp : B ≤ b) : ∀ (vs : List Value) (o : Nat) {w : World} (_ : Below B a w), Below B a (w.setCells b o vs)
  | [], _, _, h => h
  | v :: r, o, _, h => Below.cells hp r (o + 1) (h.setCell (p := ⟨b, o, none⟩) hp v)
theorem heap_setCells_other {b k : Nat} (hk : k ≠ b) : ∀ (vs : List Value) (o : Nat) (w : World), (w.setCells b o vs).heap[k]? = w.heap[k]?
  | [], _, _ => rfl
  | v :: r, o, w => (heap_setCells_other hk r (o + 1) _).trans (heap_setCell_other _ ⟨b, o, none⟩ k _ hk)
theorem OwnR.setAll {α : Type} {e : TypeId} {sz : Nat} {f : α → List Value} {w : World} {base g : Nat} {v : Value} {l : List α} (h : OwnR e sz f w base v l) (hg : v.ownBlock ≠ some g) (vs : List Value) : OwnR e sz f (w.setCells g 0 vs) base v l :=
  h.keep fun k hk => heap_setCells_other (fun q => hg (by rw [hk, q])) vs 0 w
section
variable {ops : Array Oper} {rest : List Oper} {o : Oper} {a : Act} {w W : World} {Q : Exit → Act → World → Prop} {T : TypeId} {d : TypeDesc}
theorem wpList_load_row (hg : o.guard = none) (x : Operand) (ho : o.op = .load T x) (b : Nat) (hx : a.eval x = .pointer (some ⟨b, 0, none⟩)) (cs : List Value) (hc : w.rangeAt b 0 cs)
    (hu : Tryd.prog.underlying T = some d) (hd : d.isRow = true) (hi : (Tryd.prog.info? T).map (·.size) = some cs.length)
    (h : wpList Tryd.prog ops Q rest (a.put o.dst (.agg cs.toArray)) w) : wpList Tryd.prog ops Q (o :: rest) a w := wpList_load_mid hg T x ho b 0 hx cs d hc hu hd hi h
theorem wpList_store_row (hg : o.guard = none) (x y : Operand) (ho : o.op = .store T x y) (b : Nat) (hx : a.eval x = .pointer (some ⟨b, 0, none⟩)) (cs : List Value) (hy : a.eval y = .agg cs.toArray)
    (ht : w.there b 0 cs.length) (hi : (Tryd.prog.info? T).map (·.size) = some cs.length) (h1 : ∀ v ∈ cs, v.oneCell' = true) (hW : w.setCells b 0 cs = W)
    (h : wpList Tryd.prog ops Q rest (a.put o.dst undef) W) : wpList Tryd.prog ops Q (o :: rest) a w :=
  wpList_store_mid hg T x y ho b 0 cs.toArray hx hy ht hi (all_oneCell_toArray h1) (hW ▸ h)
end
section
variable {ops : Array Oper} {rest : List Oper} {o : Oper} {a : Act} {w : World} {Q : Exit → Act → World → Prop} {T : TypeId} {d : TypeDesc} {S : World → Prop}
/-- In a region that draws its order. -/
theorem yields_row (hw : Region.wanted o (yielded ops a.tmps) = true) (x : Operand) (ho : o.op = .load T x) (b : Nat) (hx : a.eval x = .pointer (some ⟨b, 0, none⟩)) (cs : List Value) (hS : ∀ w, S w → w.rangeAt b 0 cs)
    (hu : Tryd.prog.underlying T = some d) (hd : d.isRow = true) (hi : (Tryd.prog.info? T).map (·.size) = some cs.length) : YieldsIf Tryd.prog ops S o (.agg cs.toArray) a := yieldsIf_load_mid hw T x ho b 0 hx cs d hS hu hd hi
theorem yields_conv {t u : TypeId} {v r : Value} (hw : Region.wanted o (yielded ops a.tmps) = true) (x : Operand) (ho : o.op = .convert t u x) (hx : a.eval x = v) (hS : ∀ w, S w → (convert t u v).run Tryd.prog w = .ok r w) : YieldsIf Tryd.prog ops S o r a :=
  .inl ⟨hw, fun w hw' => by
    unfold execOp
    simp only [ho, hx, Sem.run_bind, hS w hw', Result.andThen_ok]
    rfl⟩
/-- A load under a guard that lets it be. -/
theorem wpList_load_rowg (hw : Region.wanted o (yielded ops a.tmps) = true) (x : Operand) (ho : o.op = .load T x) (b : Nat) (hx : a.eval x = .pointer (some ⟨b, 0, none⟩)) (cs : List Value) (hc : w.rangeAt b 0 cs)
    (hu : Tryd.prog.underlying T = some d) (hd : d.isRow = true) (hi : (Tryd.prog.info? T).map (·.size) = some cs.length)
    (h : wpList Tryd.prog ops Q rest (a.put o.dst (.agg cs.toArray)) w) : wpList Tryd.prog ops Q (o :: rest) a w := wpList_step fun K hK => by
  rw [if_pos hw]
  exact wp_load_mid T x ho b 0 hx cs d hc hu hd hi (hK _ _ h)
end
/-- What a function hands back whose results are a struct of the call's own, and a value beside it. -/
theorem results_row2 {fn : Func} {p q : Tmp} {T : TypeId} {d : TypeDesc} (h : fn.results = #[.cell p T, .tmp q]) (tmps : Array Value) (w : World) (g : Nat) (hp : tmps.getD p undef = .pointer (some ⟨g, 0, none⟩)) (v : Value) (hv : tmps.getD q undef = v) (cs : List Value) (hr : w.rangeAt g 0 cs)
    (hu : Tryd.prog.underlying T = some d) (hd : d.isRow = true) (hi : (Tryd.prog.info? T).map (·.size) = some cs.length) :
    (results fn tmps).run Tryd.prog w = .ok (.tuple #[.agg cs.toArray, v]) w := by
  have hp' : tmps[p]?.getD undef = .pointer (some ⟨g, 0, none⟩) := by simpa using hp
  have hv' : tmps[q]?.getD undef = v := by simpa using hv
  have e := run_loadVar_mid (P := Tryd.prog) w g 0 T cs d hr hu hd hi
  simp [results, h, hp', hv', asAddr, e]
theorem results_row1 {fn : Func} {p : Tmp} {T : TypeId} {d : TypeDesc} (h : fn.results = #[.cell p T]) (tmps : Array Value) (w : World) (g : Nat) (hp : tmps.getD p undef = .pointer (some ⟨g, 0, none⟩)) (cs : List Value) (hr : w.rangeAt g 0 cs)
    (hu : Tryd.prog.underlying T = some d) (hd : d.isRow = true) (hi : (Tryd.prog.info? T).map (·.size) = some cs.length) :
    (results fn tmps).run Tryd.prog w = .ok (.agg cs.toArray) w := by
  have hp' : tmps[p]?.getD undef = .pointer (some ⟨g, 0, none⟩) := by simpa using hp
  have e := run_loadVar_mid (P := Tryd.prog) w g 0 T cs d hr hu hd hi
  simp [results, h, hp', asAddr, e]
  try rfl
end Go.Proofs.YtacjfbomjglnjaaDoor

/-! A NODE, CHECKED: package node as it landed, and the document's own. Written by mk_nchk.py. -/
namespace Go.Proofs.YtacjfbomjglnjaaDoor
open Go.RowKit
set_option maxRecDepth 8000
set_option linter.unusedSimpArgs false
set_option linter.unusedVariables false

theorem eqs_slash (u : ByteArray) : eqs u slashS = (u.toList == [47]) := by
  unfold eqs
  rw [show slashS.toList = [47] from by simp [slashS]]
theorem run_neq_zero (n : Nod) (w : World) : (binOp .neq 29 (.agg #[.int .i64 n.r1, .int .i64 n.r2, .int .i64 n.r3, .int .i64 n.gates]) (.agg #[.int .i64 0, .int .i64 0, .int .i64 0, .int .i64 0])).run Tryd.prog w = .ok (.bool (!rz n)) w := by
  have e : rz n = (n.r1 == 0 && (n.r2 == 0 && (n.r3 == 0 && n.gates == 0))) := rfl
  rw [e]
  go_simp
  repeat' split
  all_goals simp_all
/-- A node boxed, its rows, what paths lean on. -/
structure NH (w W : World) (n : Nod) (aa : Option Addr) (ca : Nat) (wa : Option Addr) (cw : Nat) : Prop where
  box : NBox W w.heap.size n aa ca wa cw
  gr : GAt W aa n.acl
  mv : MaxV W
  bl : Below w.heap.size w W
  sz : w.heap.size + 1 ≤ W.heap.size
section
variable {w W W' : World} {n : Nod} {aa : Option Addr} {ca : Nat} {wa : Option Addr} {cw : Nat}
theorem NH.then (h : NH w W n aa ca wa cw) (b : Below W.heap.size W W') : NH w W' n aa ca wa cw := ⟨h.box.keep (b.mono h.sz), h.gr.below b, h.mv.below b, Below.then h.bl b, Nat.le_trans h.sz b.size⟩
theorem nh_start (hg : GAt w aa n.acl) (hm : MaxV w) : NH w (w.alloc (.cells (ncells n aa ca wa cw) 32)) n aa ca wa cw := ⟨nbox_alloc _ _ _ _ _ _ _, hg.below (alloc_below _ _), hm.below (alloc_below _ _), alloc_below _ _, by rw [World.size_alloc]; exact Nat.le_refl _⟩
end
theorem NBox.row {W : World} {g : Nat} {n : Nod} {aa : Option Addr} {ca : Nat} {wa : Option Addr} {cw : Nat} (h : NBox W g n aa ca wa cw) : W.rangeAt g 0 [.string n.path, .bool n.dir, .int .i64 n.label.s, .int .i64 n.label.c, .int .i64 n.label.i, .int .i64 n.label.k, .slice aa n.acl.length ca, .int .i64 n.r1, .int .i64 n.r2, .int .i64 n.r3, .int .i64 n.gates, .slice wa n.words.length cw, .int .i64 n.by_.s, .int .i64 n.by_.c, .int .i64 n.by_.i, .int .i64 n.by_.k] := fun j v hv => by
  obtain ⟨h0, h1, h2, h3, h4, h5, h6, h7, h8, h9, h10, h11, h12, h13, h14, h15⟩ := h
  rw [Nat.zero_add]
  have hj := (List.getElem?_eq_some_iff.1 hv).1
  simp only [List.length_cons, List.length_nil] at hj
  match j, hj with
  | 0, _ => exact h0.trans hv
  | 1, _ => exact h1.trans hv
  | 2, _ => exact h2.trans hv
  | 3, _ => exact h3.trans hv
  | 4, _ => exact h4.trans hv
  | 5, _ => exact h5.trans hv
  | 6, _ => exact h6.trans hv
  | 7, _ => exact h7.trans hv
  | 8, _ => exact h8.trans hv
  | 9, _ => exact h9.trans hv
  | 10, _ => exact h10.trans hv
  | 11, _ => exact h11.trans hv
  | 12, _ => exact h12.trans hv
  | 13, _ => exact h13.trans hv
  | 14, _ => exact h14.trans hv
  | 15, _ => exact h15.trans hv
set_option maxHeartbeats 1000000 in
theorem checkDir_any (n : Nod) (aa : Option Addr) (ca : Nat) (wa : Option Addr) (cw : Nat) (hn : n.words.length ≤ 1000000) (w : World) :
    Calls Tryd.prog 72 #[n.v aa ca wa cw] w fun e w' => e = .returned (.int .i64 (dirC n)) ∧ Below w.heap.size w w' := by
  have hB := alloc_below w (.cells (ncells n aa ca wa cw) 32)
  unfold ncells at hB
  have kz := run_neq_zero n
  cases hz : rz n
  · have e : dirC n = 11 := by unfold dirC; rw [if_neg (fun q => by rw [hz] at q; exact absurd q.1 (by decide))]
    rw [e, ]
    rw [hz] at kz
    clear e
    go_enter Tryd.func72, Tryd.ntmps72
    go_wp2_with fail
    go_ret
    exact ⟨rfl, hB⟩
  · rw [hz] at kz
    by_cases hw : n.words.length = 0
    · have e : dirC n = 0 := by unfold dirC; rw [if_pos ⟨hz, hw⟩]
      rw [e]
      have i1 : ¬ (0 : Int) < (n.words.length : Int) := by omega
      clear e hw
      go_enter Tryd.func72, Tryd.ntmps72
      go_wp2_with fail
      go_ret
      exact ⟨rfl, hB⟩
    · have e : dirC n = 11 := by unfold dirC; rw [if_neg (fun q => hw q.2)]
      rw [e]
      have i1 : (0 : Int) < (n.words.length : Int) := by omega
      clear e
      go_enter Tryd.func72, Tryd.ntmps72
      go_wp2_with fail
      go_ret
      exact ⟨rfl, hB⟩
set_option maxHeartbeats 1000000 in
theorem checkSegment_any (n : Nod) (aa : Option Addr) (ca : Nat) (wa : Option Addr) (cw : Nat) (hn : n.words.length ≤ 1000000) (w : World) (hg : GAt w aa n.acl) (hm : MaxV w) :
    Calls Tryd.prog 73 #[n.v aa ca wa cw] w fun e w' => e = .returned (.int .i64 (segC n)) ∧ Below w.heap.size w w' := by
  have h := nh_start (ca := ca) (wa := wa) (cw := cw) hg hm
  unfold ncells at h
  have kr := rgcheck_any n.rg
  obtain ⟨sc, hsc⟩ : ∃ sc, segC n = sc := ⟨_, rfl⟩
  rw [hsc]
  replace hsc : Aside (segC n = sc) := hsc
  have s0 : eqs n.path slashS = true → sc = 3 := fun q => by rw [← hsc.out, segC, if_pos q]
  have s1 : ¬ eqs n.path slashS = true → chkR n.rg ≠ 0 → sc = chkR n.rg := fun q q2 => by rw [← hsc.out, segC, if_neg q, if_pos q2]
  have s2 : ¬ eqs n.path slashS = true → ¬ chkR n.rg ≠ 0 → 16 < n.words.length → sc = 4 := fun q q2 q3 => by rw [← hsc.out, segC, if_neg q, if_neg q2, if_pos q3]
  have s3 : ¬ eqs n.path slashS = true → ¬ chkR n.rg ≠ 0 → ¬ 16 < n.words.length → sc = 0 := fun q q2 q3 => by rw [← hsc.out, segC, if_neg q, if_neg q2, if_neg q3]
  clear hsc
  generalize chkR n.rg = cr at *
  by_cases h0 : eqs n.path slashS = true
  · obtain rfl := s0 h0
    have f0 : (n.path.toList == [47]) = true := (eqs_slash n.path).symm.trans h0
    have hb := h.bl
    clear s0 s1 s2 s3 kr h
    go_enter Tryd.func73, Tryd.ntmps73
    go_wp2_with fail
    go_ret
    exact ⟨rfl, hb⟩
  · have f0 : (n.path.toList == [47]) = false := by rw [← eqs_slash]; exact Bool.eq_false_iff.2 h0
    replace s1 := s1 h0
    replace s2 := s2 h0
    replace s3 := s3 h0
    clear s0 h0
    go_enter Tryd.func73, Tryd.ntmps73
    go_wp2_with fail
    generalize w.alloc (.cells #[.string n.path, .bool n.dir, .int .i64 n.label.s, .int .i64 n.label.c, .int .i64 n.label.i, .int .i64 n.label.k, .slice aa n.acl.length ca, .int .i64 n.r1, .int .i64 n.r2, .int .i64 n.r3, .int .i64 n.gates, .slice wa n.words.length cw, .int .i64 n.by_.s, .int .i64 n.by_.c, .int .i64 n.by_.i, .int .i64 n.by_.k] 32) = W at *
    refine (kr W).mono ?_
    rintro e W1 ⟨rfl, hB1⟩
    have h1 := h.then hB1
    have hS := h1.box
    have hb := h1.bl
    clear h h1 hB1 kr
    by_cases h2 : cr = 0
    · replace s2 := s2 (by omega)
      replace s3 := s3 (by omega)
      subst h2
      by_cases h3 : 16 < n.words.length
      · obtain rfl := s2 h3
        have i1 : (16 : Int) < (n.words.length : Int) := by omega
        clear s1 s2 s3 h3
        go_wp2_with fail
        go_ret
        exact ⟨rfl, hb⟩
      · obtain rfl := s3 h3
        have i1 : ¬ (16 : Int) < (n.words.length : Int) := by omega
        clear s1 s2 s3 h3
        go_wp2_with fail
        go_ret
        exact ⟨rfl, hb⟩
    · obtain rfl := s1 h2
      have i1 : (sc != 0) = true := by simp [h2]
      clear s1 s2 s3
      go_wp2_with fail
      go_ret
      exact ⟨rfl, hb⟩
set_option maxRecDepth 8000 in
set_option maxHeartbeats 4000000 in
theorem ncheck_any (n : Nod) (aa : Option Addr) (ca : Nat) (wa : Option Addr) (cw : Nat) (hp : n.path.size ≤ 100000) (hn : n.words.length ≤ 1000000) (w : World) (hg : GAt w aa n.acl) (hm : MaxV w) :
    Calls Tryd.prog 56 #[n.v aa ca wa cw] w fun e w' => e = .returned (.int .i64 (nodC n)) ∧ Below w.heap.size w w' := by
  have h := nh_start (ca := ca) (wa := wa) (cw := cw) hg hm
  unfold ncells at h
  have kp := fun W (q : MaxV W) => pcheck_any n.path hp W q
  have kl := lcheck_any n.label
  have kb := lcheck_any n.by_
  have ka := fun W (q : GAt W aa n.acl) => acheck_any W aa ca n.acl q
  have kd := fun W => checkDir_any n aa ca wa cw hn W
  have ks := fun W (q : GAt W aa n.acl) (q2 : MaxV W) => checkSegment_any n aa ca wa cw hn W q q2
  have hi : (Tryd.prog.info? 32).map (·.size) = some 16 := by kernel_rfl
  obtain ⟨r, hr⟩ : ∃ r, nodC n = r := ⟨_, rfl⟩
  rw [hr]
  replace hr : Aside (nodC n = r) := hr
  unfold nodC at hr
  generalize checkOf n.path = cp at *
  generalize chkL n.label = cl at *
  generalize chkL n.by_ = cb at *
  generalize chkA n.acl = cA at *
  generalize dirC n = cd at *
  generalize segC n = cs at *
  go_enter Tryd.func56, Tryd.ntmps56
  go_wp2_with fail
  generalize w.alloc (.cells #[.string n.path, .bool n.dir, .int .i64 n.label.s, .int .i64 n.label.c, .int .i64 n.label.i, .int .i64 n.label.k, .slice aa n.acl.length ca, .int .i64 n.r1, .int .i64 n.r2, .int .i64 n.r3, .int .i64 n.gates, .slice wa n.words.length cw, .int .i64 n.by_.s, .int .i64 n.by_.c, .int .i64 n.by_.i, .int .i64 n.by_.k] 32) = W at *
  refine (kp W h.mv).mono ?_
  rintro e W1 ⟨rfl, hB1⟩
  replace h := h.then hB1
  have hS := h.box
  clear hB1 kp
  by_cases h0 : cp = 0
  rotate_left
  · obtain rfl : cp = r := by rw [← hr.out, if_pos h0]
    have i1 : (cp != 0) = true := by simp [h0]
    clear hr
    go_wp2_with fail
    go_ret
    exact ⟨rfl, h.bl⟩
  subst h0
  go_wp2_with fail
  refine (kl W1).mono ?_
  rintro e W2 ⟨rfl, hB1⟩
  replace h := h.then hB1
  replace hS := h.box
  clear hB1 kl
  by_cases h0 : cl = 0
  rotate_left
  · obtain rfl : cl = r := by rw [← hr.out, if_neg (by decide), if_pos h0]
    have i1 : (cl != 0) = true := by simp [h0]
    clear hr
    go_wp2_with fail
    go_ret
    exact ⟨rfl, h.bl⟩
  subst h0
  go_wp2_with fail
  refine (kb W2).mono ?_
  rintro e W3 ⟨rfl, hB1⟩
  replace h := h.then hB1
  replace hS := h.box
  clear hB1 kb
  by_cases h0 : cb = 0
  rotate_left
  · obtain rfl : cb = r := by rw [← hr.out, if_neg (by decide), if_neg (by decide), if_pos h0]
    have i1 : (cb != 0) = true := by simp [h0]
    clear hr
    go_wp2_with fail
    go_ret
    exact ⟨rfl, h.bl⟩
  subst h0
  go_wp2_with fail
  refine (ka W3 h.gr).mono ?_
  rintro e W4 ⟨rfl, hB1⟩
  replace h := h.then hB1
  replace hS := h.box
  clear hB1 ka
  by_cases h0 : cA = 0
  rotate_left
  · obtain rfl : cA = r := by rw [← hr.out, if_neg (by decide), if_neg (by decide), if_neg (by decide), if_pos h0]
    have i1 : (cA != 0) = true := by simp [h0]
    clear hr
    go_wp2_with fail
    go_ret
    exact ⟨rfl, h.bl⟩
  subst h0
  have hrow := NBox.row hS
  cases hd : n.dir
  · obtain rfl : cs = r := by rw [← hr.out, hd]; simp
    rw [hd] at hrow
    clear hr
    have kv : ∀ W, GAt W aa n.acl → MaxV W → Calls Tryd.prog 73 #[.agg [.string n.path, .bool false, .int .i64 n.label.s, .int .i64 n.label.c, .int .i64 n.label.i, .int .i64 n.label.k, .slice aa n.acl.length ca, .int .i64 n.r1, .int .i64 n.r2, .int .i64 n.r3, .int .i64 n.gates, .slice wa n.words.length cw, .int .i64 n.by_.s, .int .i64 n.by_.c, .int .i64 n.by_.i, .int .i64 n.by_.k].toArray] W (fun e w' => e = .returned (.int .i64 cs) ∧ Below W.heap.size W w') := fun W q q2 => by
      have := ks W q q2
      simp only [Nod.v, hd] at this
      exact this
    clear kd ks
    go_wp2_with (first | (refine wpList_load_row rfl _ rfl w.heap.size rfl [.string n.path, .bool false, .int .i64 n.label.s, .int .i64 n.label.c, .int .i64 n.label.i, .int .i64 n.label.k, .slice aa n.acl.length ca, .int .i64 n.r1, .int .i64 n.r2, .int .i64 n.r3, .int .i64 n.gates, .slice wa n.words.length cw, .int .i64 n.by_.s, .int .i64 n.by_.c, .int .i64 n.by_.i, .int .i64 n.by_.k] hrow Tryd.underlying32 rfl hi ?_) | fail)
    refine (kv W4 h.gr h.mv).mono ?_
    rintro e W5 ⟨rfl, hB1⟩
    have hb := Below.then h.bl hB1
    go_wp2_with fail
    go_ret
    exact ⟨rfl, hb⟩
  · obtain rfl : cd = r := by rw [← hr.out, hd]; simp
    rw [hd] at hrow
    clear hr
    have kv : ∀ W, Calls Tryd.prog 72 #[.agg [.string n.path, .bool true, .int .i64 n.label.s, .int .i64 n.label.c, .int .i64 n.label.i, .int .i64 n.label.k, .slice aa n.acl.length ca, .int .i64 n.r1, .int .i64 n.r2, .int .i64 n.r3, .int .i64 n.gates, .slice wa n.words.length cw, .int .i64 n.by_.s, .int .i64 n.by_.c, .int .i64 n.by_.i, .int .i64 n.by_.k].toArray] W (fun e w' => e = .returned (.int .i64 cd) ∧ Below W.heap.size W w') := fun W => by
      have := kd W
      simp only [Nod.v, hd] at this
      exact this
    clear kd ks
    go_wp2_with (first | (refine wpList_load_row rfl _ rfl w.heap.size rfl [.string n.path, .bool true, .int .i64 n.label.s, .int .i64 n.label.c, .int .i64 n.label.i, .int .i64 n.label.k, .slice aa n.acl.length ca, .int .i64 n.r1, .int .i64 n.r2, .int .i64 n.r3, .int .i64 n.gates, .slice wa n.words.length cw, .int .i64 n.by_.s, .int .i64 n.by_.c, .int .i64 n.by_.i, .int .i64 n.by_.k] hrow Tryd.underlying32 rfl hi ?_) | fail)
    refine (kv W4).mono ?_
    rintro e W5 ⟨rfl, hB1⟩
    have hb := Below.then h.bl hB1
    go_wp2_with fail
    go_ret
    exact ⟨rfl, hb⟩
set_option maxRecDepth 8000 in
set_option maxHeartbeats 4000000 in
theorem rncheck_any (n : Nod) (aa : Option Addr) (ca : Nat) (wa : Option Addr) (cw : Nat) (hp : n.path.size ≤ 100000) (hn : n.words.length ≤ 1000000) (hu : ∀ g ∈ n.acl, g.u.size ≤ 9223372036854775807) (w : World) (hg : GAt w aa n.acl) (hm : MaxV w) :
    Calls Tryd.prog 37 #[n.v aa ca wa cw] w fun e w' => e = .returned (.int .i64 (nodC n)) ∧ Below w.heap.size w w' := by
  have h := nh_start (ca := ca) (wa := wa) (cw := cw) hg hm
  unfold ncells at h
  have kp := rpcheck_any n.path hp
  have kl := rlcheck_any n.label
  have kb := rlcheck_any n.by_
  have ka := fun W (q : GAt W aa n.acl) => racheck_any W aa ca n.acl q hu
  have kr := rrgcheck_any n.rg
  have kz := run_neq_zero n
  obtain ⟨r, hr⟩ : ∃ r, nodC n = r := ⟨_, rfl⟩
  rw [hr]
  replace hr : Aside (nodC n = r) := hr
  unfold nodC dirC segC at hr
  generalize checkOf n.path = cp at *
  generalize chkL n.label = cl at *
  generalize chkL n.by_ = cb at *
  generalize chkA n.acl = cA at *
  generalize chkR n.rg = cr at *
  go_enter Tryd.func37, Tryd.ntmps37
  go_wp2_with fail
  generalize w.alloc (.cells #[.string n.path, .bool n.dir, .int .i64 n.label.s, .int .i64 n.label.c, .int .i64 n.label.i, .int .i64 n.label.k, .slice aa n.acl.length ca, .int .i64 n.r1, .int .i64 n.r2, .int .i64 n.r3, .int .i64 n.gates, .slice wa n.words.length cw, .int .i64 n.by_.s, .int .i64 n.by_.c, .int .i64 n.by_.i, .int .i64 n.by_.k] 32) = W at *
  refine (kp W).mono ?_
  rintro e W1 ⟨rfl, hB1⟩
  replace h := h.then hB1
  have hS := h.box
  clear hB1 kp
  by_cases h0 : cp = 0
  rotate_left
  · obtain rfl : cp = r := by rw [← hr.out, if_pos h0]
    have i1 : (cp != 0) = true := by simp [h0]
    clear hr
    have i2 : (cp == 0) = false := by simp [h0]
    go_wp2_with fail
    go_ret
    exact ⟨rfl, h.bl⟩
  subst h0
  go_wp2_with fail
  refine (kl W1).mono ?_
  rintro e W2 ⟨rfl, hB1⟩
  replace h := h.then hB1
  replace hS := h.box
  clear hB1 kl
  by_cases h0 : cl = 0
  rotate_left
  · obtain rfl : cl = r := by rw [← hr.out, if_neg (by decide), if_pos h0]
    have i1 : (cl != 0) = true := by simp [h0]
    clear hr
    have i2 : (cl == 0) = false := by simp [h0]
    go_wp2_with fail
    go_ret
    exact ⟨rfl, h.bl⟩
  subst h0
  go_wp2_with fail
  refine (kb W2).mono ?_
  rintro e W3 ⟨rfl, hB1⟩
  replace h := h.then hB1
  replace hS := h.box
  clear hB1 kb
  by_cases h0 : cb = 0
  rotate_left
  · obtain rfl : cb = r := by rw [← hr.out, if_neg (by decide), if_neg (by decide), if_pos h0]
    have i1 : (cb != 0) = true := by simp [h0]
    clear hr
    have i2 : (cb == 0) = false := by simp [h0]
    go_wp2_with fail
    go_ret
    exact ⟨rfl, h.bl⟩
  subst h0
  go_wp2_with fail
  refine (ka W3 h.gr).mono ?_
  rintro e W4 ⟨rfl, hB1⟩
  replace h := h.then hB1
  replace hS := h.box
  clear hB1 ka
  by_cases h0 : cA = 0
  rotate_left
  · obtain rfl : cA = r := by rw [← hr.out, if_neg (by decide), if_neg (by decide), if_neg (by decide), if_pos h0]
    have i1 : (cA != 0) = true := by simp [h0]
    clear hr
    have i2 : (cA == 0) = false := by simp [h0]
    go_wp2_with fail
    go_ret
    exact ⟨rfl, h.bl⟩
  subst h0
  cases hd : n.dir
  · skip
    clear kz
    by_cases h0 : eqs n.path slashS = true
    · obtain rfl : r = 3 := by rw [← hr.out, hd]; simp [h0]
      clear hr
      have f0 : (n.path.toList == [47]) = true := (eqs_slash n.path).symm.trans h0
      go_wp2_with fail
      go_ret
      exact ⟨rfl, h.bl⟩
    · have f0 : (n.path.toList == [47]) = false := by rw [← eqs_slash]; exact Bool.eq_false_iff.2 h0
      go_wp2_with fail
      refine (kr W4).mono ?_
      rintro e W5 ⟨rfl, hB1⟩
      replace h := h.then hB1
      replace hS := h.box
      clear hB1
      by_cases h2 : cr = 0
      · subst h2
        clear kr
        by_cases h3 : 16 < n.words.length
        · obtain rfl : r = 4 := by rw [← hr.out, hd]; simp [h0, h3]
          clear hr
          have i1 : (16 : Int) < (n.words.length : Int) := by omega
          go_wp2_with fail
          go_ret
          exact ⟨rfl, h.bl⟩
        · obtain rfl : r = 0 := by rw [← hr.out, hd]; simp [h0, h3]
          clear hr
          have i1 : ¬ (16 : Int) < (n.words.length : Int) := by omega
          go_wp2_with fail
          go_ret
          exact ⟨rfl, h.bl⟩
      · obtain rfl : cr = r := by rw [← hr.out, hd]; simp [h0, h2]
        clear hr
        have i1 : (cr != 0) = true := by simp [h2]
        go_wp2_with fail
        refine (kr W5).mono ?_
        rintro e W6 ⟨rfl, hB1⟩
        replace h := h.then hB1
        clear hS hB1
        go_wp2_with fail
        go_ret
        exact ⟨rfl, h.bl⟩
  · skip
    clear kr
    have hpath : (n.path.toList == [47]) = true ∨ (n.path.toList == [47]) = false := by cases (n.path.toList == [47]) <;> simp
    cases hz : rz n
    · obtain rfl : r = 11 := by rw [← hr.out, hd]; simp [hz]
      rw [hz] at kz
      clear hr
      rcases hpath with f0 | f0
      all_goals (
        go_wp2_with fail
        go_ret
        exact ⟨rfl, h.bl⟩)
    · rw [hz] at kz
      by_cases hw : n.words.length = 0
      · obtain rfl : r = 0 := by rw [← hr.out, hd]; simp [hz, hw]
        clear hr
        have i1 : ¬ (0 : Int) < (n.words.length : Int) := by omega
        rcases hpath with f0 | f0
        all_goals (
          go_wp2_with fail
          go_ret
          exact ⟨rfl, h.bl⟩)
      · obtain rfl : r = 11 := by rw [← hr.out, hd]; simp [hz, hw]
        clear hr
        have i1 : (0 : Int) < (n.words.length : Int) := by omega
        rcases hpath with f0 | f0
        all_goals (
          go_wp2_with fail
          go_ret
          exact ⟨rfl, h.bl⟩)
end Go.Proofs.YtacjfbomjglnjaaDoor

/-! ARGUMENTS OPENED, FOR WHATEVER TYPES: a struct's fields, a row of elements, each read by a reader of its own. -/
namespace Go.Proofs.YtacjfbomjglnjaaDoor
open Go.ChangeShapes Go.WideShapes Go.ChangeAt Go.RowKit
set_option maxRecDepth 8000
set_option linter.unusedVariables false
set_option linter.unusedSimpArgs false

theorem own : ownKnob Tryd.prog.godebug = none := by kernel_rfl
theorem laidOut : laidOutB Tryd.prog = true := by kernel_rfl
theorem int_fits {n : Int} (h : (Lit.int .i64 n).wf = true) : -9223372036854775808 ≤ n ∧ n ≤ 9223372036854775807 := by
  simpa [Lit.wf, IntKind.min, IntKind.max, IntKind.bits, IntKind.signed] using h
theorem nat_u64 {n : Int} (h : (Lit.int .u64 n).wf = true) : ∃ k : Nat, n = (k : Int) ∧ k < 18446744073709551616 := by
  have : 0 ≤ n ∧ n ≤ 18446744073709551615 := by simpa [Lit.wf, IntKind.min, IntKind.max, IntKind.bits, IntKind.signed] using h
  exact ⟨n.toNat, by omega, by omega⟩
theorem nat_u8 {n : Int} (h : (Lit.int .u8 n).wf = true) : ∃ k : Nat, n = (k : Int) ∧ k < 256 := by
  have : 0 ≤ n ∧ n ≤ 255 := by simpa [Lit.wf, IntKind.min, IntKind.max, IntKind.bits, IntKind.signed] using h
  exact ⟨n.toNat, by omega, by omega⟩
section
variable {H : Type} {enc : TypeId × Value → H} {W : World} {base : Nat} {sp : Nat → Bool} {held : Bool}
/-- What a reading of a type tells of its cells. -/
def Reads (enc : TypeId × Value → H) (W : World) (base : Nat) (sp : Nat → Bool) (held : Bool) (t : TypeId) (p : List Value → Prop) : Prop := ∀ (n : Nat) (cs : List Value) (x : DataW H × List MemPlace), DataW.trod enc Tryd.prog W base sp held n t cs = some x → p cs
theorem reads_int {t : TypeId} {k : IntKind} (ht : Tryd.prog.underlying t = some (.int k)) : Reads enc W base sp held t fun cs => ∃ n, cs = [.int k n] ∧ (Lit.int k n).wf = true := fun n cs x h => by
  obtain ⟨m, rfl, _, hw⟩ := DataW.trod_int ht h
  exact ⟨m, rfl, hw⟩
theorem reads_bool {t : TypeId} (ht : Tryd.prog.underlying t = some .bool) : Reads enc W base sp held t fun cs => ∃ b, cs = [.bool b] := fun n cs x h => by
  obtain ⟨b, rfl, _⟩ := DataW.trod_bool ht h
  exact ⟨b, rfl⟩
theorem reads_string {t : TypeId} (ht : Tryd.prog.underlying t = some .string) : Reads enc W base sp held t fun cs => ∃ s : ByteArray, cs = [.string s] ∧ s.size ≤ 9223372036854775807 := fun n cs x h => by
  obtain ⟨s, rfl, _, hs⟩ := DataW.trod_string ht h
  exact ⟨s, rfl, by simpa [maxLen] using hs⟩
/-- A field of a struct. -/
theorem read_field {t ty : TypeId} {i off sz : Nat} {p : List Value → Prop} (ht : Tryd.prog.underlying t = some (.struct (Tryd.prog.fieldsOf t))) (hf : ((Tryd.prog.fieldsOf t)[i]?).map (fun f => (f.type, f.offset)) = some (ty, off)) (hc : Tryd.prog.cellsOf ty = sz) (hp : Reads enc W base sp held ty p) {n : Nat} {cs : List Value} {x : DataW H × List MemPlace} (h : DataW.trod enc Tryd.prog W base sp held n t cs = some x) : p ((cs.drop off).take sz) := by
  obtain ⟨xs, m, _, _, _, hlen, hg⟩ := DataW.trod_struct ht h
  cases hfi : (Tryd.prog.fieldsOf t)[i]? with
  | none => rw [hfi] at hf; cases hf
  | some f =>
    rw [hfi] at hf
    have e : (f.type, f.offset) = (ty, off) := by simpa using hf
    have e1 : f.type = ty := congrArg Prod.fst e
    have e2 : f.offset = off := congrArg Prod.snd e
    have hh := hg i f hfi
    have hi : i < xs.length := by
      have := (Array.getElem?_eq_some_iff.1 hfi).1
      omega
    rw [List.getElem?_eq_getElem hi, e1, e2, hc] at hh
    exact hp _ _ _ hh
theorem struct_len {t : TypeId} {sz : Nat} (ht : Tryd.prog.underlying t = some (.struct (Tryd.prog.fieldsOf t))) (hc : Tryd.prog.cellsOf t = sz) {n : Nat} {cs : List Value} {x : DataW H × List MemPlace} (h : DataW.trod enc Tryd.prog W base sp held n t cs = some x) : cs.length = sz := by
  obtain ⟨xs, m, _, _, hl, _⟩ := DataW.trod_struct ht h
  rw [hl, hc]
theorem pick_all {α : Type} {len : Nat} {p : Nat → α → Prop} (h : ∀ i, i < len → ∃ g, p i g) : ∃ l : List α, l.length = len ∧ ∀ j g, l[j]? = some g → p j g := by
  by_cases h0 : len = 0
  · subst h0
    exact ⟨[], rfl, fun j g q => by cases q⟩
  haveI : Inhabited α := ⟨(h 0 (by omega)).choose⟩
  have h' : ∀ i, ∃ g, i < len → p i g := fun i => by
    by_cases hi : i < len
    · obtain ⟨g, hg⟩ := h i hi; exact ⟨g, fun _ => hg⟩
    · exact ⟨default, fun k => absurd k hi⟩
  obtain ⟨f, hf⟩ := Classical.axiomOfChoice h'
  refine ⟨(List.range len).map f, by simp, fun j g hg => ?_⟩
  have hj : j < len := by
    have := (List.getElem?_eq_some_iff.1 hg).1
    simpa using this
  simp [List.getElem?_range hj] at hg
  subst hg
  exact hf j hj
/-- A row of elements. -/
theorem open_rows {α : Type} {t e : TypeId} {sz : Nat} {f : α → List Value} {q : α → Prop} (ht : Tryd.prog.underlying t = some (.slice e)) (hc : Tryd.prog.cellsOf e = sz) (hp : Reads enc W 0 (fun _ => true) true e fun cs => ∃ g, cs = f g ∧ q g) {n : Nat} {a : Option Addr} {len cap : Nat} {x : DataW H × List MemPlace} (h : DataW.trod enc Tryd.prog W 0 (fun _ => true) true n t [.slice a len cap] = some x) :
    ∃ l : List α, l.length = len ∧ (∀ j g, l[j]? = some g → ∃ y, a = some y ∧ (∀ i, i < sz → W.cell? (y.add (j * sz + i)) = (f g)[i]?)) ∧ (∀ g ∈ l, q g) ∧ (a = none → cap = 0) ∧ len ≤ cap ∧ cap ≤ 9223372036854775807 := by
  rcases Go.Deep.open_slice ht h with ⟨hcs, _⟩ | ⟨ad, l, c, m, n', Dd, Pl, hcs, _, hl, hm, hmm, _, hx⟩
  · simp at hcs
    obtain ⟨rfl, rfl, rfl⟩ := hcs
    exact ⟨[], rfl, fun j g hg => by simp at hg, by simp, fun _ => rfl, Nat.le_refl _, by omega⟩
  · simp at hcs
    obtain ⟨rfl, rfl, rfl⟩ := hcs
    simp only [if_true] at hmm
    have each : ∀ i, i < len → ∃ g : α, (∀ k, k < sz → W.cell? (ad.add (i * sz + k)) = (f g)[k]?) ∧ q g := fun i hi => by
      obtain ⟨cs', h2, h3⟩ := hx i (by omega)
      rw [hc] at h2
      obtain ⟨_, hlen, hcell⟩ := World.cells?_some h2
      obtain ⟨g, rfl, hq⟩ := hp _ _ _ h3
      refine ⟨g, fun k hk => ?_, hq⟩
      have e0 := hcell k (by omega)
      rw [Go.Deep.add_add] at e0
      rw [e0]
    obtain ⟨L, hL, hpp⟩ := pick_all each
    refine ⟨L, hL, fun j g hg => ⟨ad, rfl, (hpp j g hg).1⟩, fun g hg => ?_, fun h => (by cases h), hl, by simpa [maxLen] using hm⟩
    obtain ⟨j, hj, rfl⟩ := List.getElem_of_mem hg
    exact (hpp j L[j] (List.getElem?_eq_getElem hj)).2
end
end Go.Proofs.YtacjfbomjglnjaaDoor

/-! THE LIBRARY's VARIABLE THAT THE SEARCHES READ, AS THE WORLD's SHAPE GIVES IT; a row's frame that keeps the shape and the sizes (door seats behind the seventh stage). Written by mk_ndoor.py. -/
namespace Go.Proofs.YtacjfbomjglnjaaDoor
open Go.ChangeShapes Go.WideShapes Go.ChangeAt Go.RowKit
set_option maxRecDepth 8000
set_option linter.unusedVariables false
set_option linter.unusedSimpArgs false

theorem int_und : Tryd.prog.underlying 3 = some (.int .i64) := by kernel_rfl
theorem glob_size : Tryd.prog.globals.size = 6 := by kernel_rfl
theorem maxV_shaped {W : World} (hsh : W.ShapedOpen Tryd.prog) : MaxV W :=
  cell_of_shapedOpen_int hsh (t := 3) (zero := #[.int .i64 0]) (by rw [glob_size]; decide) (by kernel_rfl) (by kernel_rfl) (by kernel_rfl) (by kernel_rfl) int_und

variable {H : Type} {enc : TypeId × Value → H}
/-- The row's frame with listed variables, the world's shape and the sizes kept. -/
theorem returns_all {a : Assume} {C : Checked} {os : Os} {f : FuncId} {fn : Func} {s : ChangeSpec} {conds : List PathCond} {apart fresh handsOn again : Bool} {X : World → Array Value → Prop}
    (hX : ∀ (w w' : World) (args : Array Value), w.heap = w'.heap → X w args → X w' args)
    (own : ownKnob C.prog.godebug = none) (started : os.Started) (noInit : C.prog.inits.idxOf? f = none) (hfn : C.prog.funcs[f]? = some fn)
    (witness : ∃ (w : World) (tape : Tape) (i : Input), w.os = os ∧ (w.forCall tape i).Shaped C.prog ∧ i.vars = [] ∧ Input.okWide C.prog (w.forCall tape i) .any w.heap.size f i ∧
      ((s.pre enc C.prog fn conds apart (w.forCall tape i).memory i.args ∧ X (w.forCall tape i).memory i.args) ∧ sizedMet enc C.prog fn (OpenSpec.ofChange s) apart (w.forCall tape i).memory i.args) ∧ a.holds C.prog (lone (Frame.enter C.prog f i.args .normal) [] (w.forCall tape i)))
    (contract : ∀ (W : World) (base : Nat) (args : Array Value) (ds gs : List (DataW H)) (before : List MemPlace),
      (∀ (j : Nat) t v, fn.params[j]? = some t → args[j]? = some v → Value.okWide C.prog W .any base t v) →
      DataW.Whole enc C.prog fn.params.toList s.vars apart W args.toList ds gs before → X W args → W.ShapedOpen C.prog →
      (DataW.weightsEach C.prog (fn.params.toList ++ s.plain.varTypes C.prog) (ds ++ gs)).all (· ≤ reachBytes) = true →
      Calls C.prog f args W fun e W' => ∃ v, e = .returned v ∧ s.post enc C.prog fn apart fresh handsOn again W args v W') :
    ReturnsInHanded a C os f .any (fun w args => (s.pre enc C.prog fn conds apart w args ∧ X w args) ∧ sizedMet enc C.prog fn (OpenSpec.ofChange s) apart w args) (s.post enc C.prog fn apart fresh handsOn again) := by
  refine returnsInHanded_of_calls own started noInit witness ?_
  intro w tape i _ hsh _ hok hpre hholds
  obtain ⟨_, _, _, fn', hfn', _, _, _, _, hval⟩ := hok
  have e : fn' = fn := Option.some.inj (hfn'.symm.trans hfn)
  subst e
  obtain ⟨⟨⟨ds, gs, before, hw, hc⟩, hx⟩, hz⟩ := hpre
  have hw' := DataW.Whole.of_heap (w' := w.forCall tape i) (by rfl) hw
  refine (contract (w.forCall tape i) w.heap.size i.args ds gs before hval hw' (hX _ _ _ (by rfl) hx) hsh (hz.weights hw)).mono fun e W' ⟨v, he, hp⟩ => ?_
  subst he
  exact ChangeSpec.post_blind hp
end Go.Proofs.YtacjfbomjglnjaaDoor

/-! TREES, in plain words: nodes by their paths, found, put, dropped, told by directories, checked; what a tree is. -/
namespace Go.Proofs.YtacjfbomjglnjaaDoor
open Go.RowKit
set_option maxRecDepth 8000
set_option linter.unusedSimpArgs false
set_option linter.unusedVariables false

def findN (l : List Nod) (p : ByteArray) : Option Nod := l.find? fun x => eqs x.path p
def dropN (l : List Nod) (p : ByteArray) : List Nod := l.filter fun x => !eqs x.path p
def putN (l : List Nod) (n : Nod) : List Nod := (dropN l n.path).takeWhile (fun x => lt x.path n.path) ++ n :: (dropN l n.path).dropWhile (fun x => lt x.path n.path)
def isUnder (p : ByteArray) (x : Nod) : Bool := !eqs x.path slashS && eqs (parentOf x.path) p
def underN (l : List Nod) (p : ByteArray) : List ByteArray := (l.filter (isUnder p)).map fun x => lastOf x.path
/-- Of each: what is wrong with it, and that it is behind the one ahead. -/
def behind : Option ByteArray → ByteArray → Bool
  | none, _ => true
  | some q, u => lt q u
def seqC (q : Option ByteArray) : List Nod → Int
  | [] => 0
  | x :: r => if nodC x ≠ 0 then nodC x else if behind q x.path = false then 1 else seqC (some x.path) r
/-- Of each but the root: its parent. -/
def upC (l : List Nod) : List Nod → Int
  | [] => 0
  | x :: r => if eqs x.path slashS = true then upC l r else match findN l (parentOf x.path) with
    | none => 2
    | some p => if p.dir = false then 3 else if (!rov x.label p.label || (!x.dir && !labEq x.label p.label)) = true then 15 else upC l r
def treeC (l : List Nod) : Int := if seqC none l ≠ 0 then seqC none l else match findN l slashS with
  | none => 2
  | some r => if upC l l ≠ 0 then upC l l else if labEq r.label bottomL = true then 0 else 15

/-! Lists that stand by their paths. -/
def Ordered (l : List Nod) : Prop := l.Pairwise fun a b => lt a.path b.path = true
theorem Ordered.uniq {l : List Nod} (h : Ordered l) {x y : Nod} (hx : x ∈ l) (hy : y ∈ l) (e : x.path = y.path) : x = y := by
  induction l with
  | nil => cases hx
  | cons a r ih =>
    obtain ⟨h1, h2⟩ := List.pairwise_cons.1 h
    rcases List.mem_cons.1 hx with hx1 | hx1
    · rcases List.mem_cons.1 hy with hy1 | hy1
      · rw [hx1, hy1]
      · have := lt_ne (h1 y hy1)
        exact absurd (by rw [← hx1]; exact e) this
    · rcases List.mem_cons.1 hy with hy1 | hy1
      · have := lt_ne (h1 x hx1)
        exact absurd (by rw [← hy1]; exact e.symm) this
      · exact ih h2 hx1 hy1
theorem find_some {l : List Nod} {p : ByteArray} {x : Nod} (h : findN l p = some x) : x ∈ l ∧ x.path = p := by
  unfold findN at h
  exact ⟨List.mem_of_find?_eq_some h, eqs_iff.1 (by simpa using List.find?_some h)⟩
theorem find_none {l : List Nod} {p : ByteArray} (h : findN l p = none) : ∀ x ∈ l, x.path ≠ p := fun x hx e => by
  unfold findN at h
  have := List.find?_eq_none.1 h x hx
  rw [e, eqs_self] at this
  exact this rfl
theorem find_mem {l : List Nod} (h : Ordered l) {x : Nod} (hx : x ∈ l) : findN l x.path = some x := by
  cases hf : findN l x.path with
  | none => exact absurd rfl (find_none hf x hx)
  | some y =>
    obtain ⟨hy, e⟩ := find_some hf
    rw [h.uniq hy hx e]
theorem drop_mem {l : List Nod} {p : ByteArray} {x : Nod} : x ∈ dropN l p ↔ x ∈ l ∧ x.path ≠ p := by
  unfold dropN
  rw [List.mem_filter]
  constructor
  · rintro ⟨h1, h2⟩
    refine ⟨h1, fun e => ?_⟩
    rw [e, eqs_self] at h2
    cases h2
  · rintro ⟨h1, h2⟩
    exact ⟨h1, by rw [eqs_ne h2]; rfl⟩
theorem drop_ordered {l : List Nod} (h : Ordered l) (p : ByteArray) : Ordered (dropN l p) := List.Pairwise.filter _ h
theorem take_while {α : Type} {f : α → Bool} : ∀ (l : List α), ∀ x ∈ l.takeWhile f, f x = true
  | [], x, h => by simp at h
  | a :: r, x, h => by
    rw [List.takeWhile_cons] at h
    split at h
    · rcases List.mem_cons.1 h with rfl | h
      · assumption
      · exact take_while r x h
    · cases h
theorem drop_while_mem {α : Type} {f : α → Bool} : ∀ (l : List α), ∀ x ∈ l.dropWhile f, x ∈ l
  | [], x, h => by simp at h
  | a :: r, x, h => by
    rw [List.dropWhile_cons] at h
    split at h
    · exact List.mem_cons_of_mem _ (drop_while_mem r x h)
    · exact h
theorem drop_while_gt {n : Nod} : ∀ (l : List Nod), Ordered l → (∀ x ∈ l, x.path ≠ n.path) → ∀ x ∈ l.dropWhile (fun x => lt x.path n.path), lt n.path x.path = true
  | [], _, _, x, h => by simp at h
  | a :: r, ho, hn, x, h => by
    obtain ⟨h1, h2⟩ := List.pairwise_cons.1 ho
    rw [List.dropWhile_cons] at h
    split at h
    · exact drop_while_gt r h2 (fun y hy => hn y (List.mem_cons_of_mem _ hy)) x h
    · rename_i hlt
      have ha : lt n.path a.path = true := by
        rcases lt_total a.path n.path with h | h | h
        · exact absurd h hlt
        · exact absurd h (hn a List.mem_cons_self)
        · exact h
      rcases List.mem_cons.1 h with rfl | h
      · exact ha
      · exact lt_trans ha (h1 x h)
theorem put_mem {l : List Nod} {n x : Nod} : x ∈ putN l n ↔ x = n ∨ (x ∈ l ∧ x.path ≠ n.path) := by
  unfold putN
  rw [← drop_mem]
  generalize dropN l n.path = m
  rw [List.mem_append, List.mem_cons]
  have e : ∀ y, y ∈ m ↔ y ∈ m.takeWhile (fun x => lt x.path n.path) ∨ y ∈ m.dropWhile (fun x => lt x.path n.path) := fun y => by
    rw [← List.mem_append, List.takeWhile_append_dropWhile]
  rw [e x]
  constructor
  · rintro (h | rfl | h)
    · exact .inr (.inl h)
    · exact .inl rfl
    · exact .inr (.inr h)
  · rintro (rfl | h | h)
    · exact .inr (.inl rfl)
    · exact .inl h
    · exact .inr (.inr h)
theorem put_ordered {l : List Nod} (h : Ordered l) (n : Nod) : Ordered (putN l n) := by
  unfold putN
  have hm : ∀ x ∈ dropN l n.path, x.path ≠ n.path := fun x hx => (drop_mem.1 hx).2
  have ho := drop_ordered h n.path
  generalize dropN l n.path = m at *
  have h1 := take_while (f := fun x : Nod => lt x.path n.path) m
  have h2 := drop_while_gt m ho hm
  refine List.pairwise_append.2 ⟨?_, List.pairwise_cons.2 ⟨h2, ?_⟩, ?_⟩
  · exact List.Pairwise.sublist (List.takeWhile_sublist _) ho
  · exact List.Pairwise.sublist (List.dropWhile_sublist _) ho
  · intro a ha b hb
    have ha' := h1 a ha
    rcases List.mem_cons.1 hb with rfl | hb
    · exact ha'
    · exact lt_trans ha' (h2 b hb)

/-! A tree. -/
structure Tree (l : List Nod) : Prop where
  ok : ∀ x ∈ l, nodC x = 0
  ord : Ordered l
  root : ∃ r ∈ l, r.path = slashS ∧ r.label = bottomL
  up : ∀ x ∈ l, x.path ≠ slashS → ∃ p ∈ l, p.path = parentOf x.path ∧ p.dir = true ∧ rov x.label p.label = true ∧ (x.dir = false → x.label = p.label)
theorem seq_ok : ∀ (l : List Nod) (q : Option ByteArray), (∀ x ∈ l, nodC x = 0) → Ordered l → (∀ q' x, q = some q' → x ∈ l → lt q' x.path = true) → seqC q l = 0
  | [], _, _, _, _ => rfl
  | x :: r, q, h1, h2, h3 => by
    obtain ⟨h4, h5⟩ := List.pairwise_cons.1 h2
    have h0 := h1 x List.mem_cons_self
    rw [seqC, if_neg (by rw [h0]; simp), if_neg, seq_ok r (some x.path) (fun y hy => h1 y (List.mem_cons_of_mem _ hy)) h5 (fun q' y e hy => by obtain rfl := Option.some.inj e; exact h4 y hy)]
    cases q with
    | none => simp [behind]
    | some q => rw [behind, h3 q x rfl List.mem_cons_self]; simp
theorem up_ok {l : List Nod} (h : Tree l) : ∀ (m : List Nod), (∀ x ∈ m, x ∈ l) → upC l m = 0
  | [], _ => rfl
  | x :: r, hm => by
    have ih := up_ok h r fun y hy => hm y (List.mem_cons_of_mem _ hy)
    rw [upC]
    by_cases hx : eqs x.path slashS = true
    · rw [if_pos hx]
      exact ih
    · rw [if_neg hx]
      obtain ⟨p, hp, e, hd, hov, hseg⟩ := h.up x (hm x List.mem_cons_self) (fun q => hx (eqs_iff.2 q))
      rw [← e, find_mem h.ord hp]
      simp only [hd, hov]
      rw [if_neg (by simp), if_neg, ih]
      cases hxd : x.dir
      · rw [(labEq_iff _ _).2 (hseg hxd)]
        simp
      · simp
theorem Tree.check {l : List Nod} (h : Tree l) : treeC l = 0 := by
  have h1 := seq_ok l none h.ok h.ord (fun q' x e => by cases e)
  obtain ⟨r, hr, e, hl⟩ := h.root
  have h2 := find_mem h.ord hr
  rw [e] at h2
  unfold treeC
  rw [if_neg (by rw [h1]; simp), h2]
  simp only
  rw [up_ok h l (fun _ hx => hx), if_neg (by simp), hl, if_pos ((labEq_iff _ _).2 rfl)]
theorem Tree.put {l : List Nod} (h : Tree l) {n d : Nod} (hn : nodC n = 0) (hs : n.path ≠ slashS) (hnew : ∀ x ∈ l, x.path ≠ n.path) (hd : d ∈ l) (hp : d.path = parentOf n.path) (hdd : d.dir = true) (hov : rov n.label d.label = true) (hseg : n.dir = false → n.label = d.label) : Tree (putN l n) := by
  refine ⟨fun x hx => ?_, put_ordered h.ord n, ?_, fun x hx hxs => ?_⟩
  · rcases put_mem.1 hx with rfl | ⟨hx, _⟩
    · exact hn
    · exact h.ok x hx
  · obtain ⟨r, hr, e, hl⟩ := h.root
    exact ⟨r, put_mem.2 (.inr ⟨hr, fun q => hs (by rw [← q, e])⟩), e, hl⟩
  · rcases put_mem.1 hx with rfl | ⟨hx, _⟩
    · exact ⟨d, put_mem.2 (.inr ⟨hd, hnew d hd⟩), hp, hdd, hov, hseg⟩
    · obtain ⟨p, hp', e, a, b, c⟩ := h.up x hx hxs
      exact ⟨p, put_mem.2 (.inr ⟨hp', hnew p hp'⟩), e, a, b, c⟩
end Go.Proofs.YtacjfbomjglnjaaDoor

/-! WHOLE STRUCTS LOADED AT ANY ADDRESS (an element of a row). For every stage from the eleventh on. -/
namespace Go.Proofs.YtacjfbomjglnjaaDoor
open Go.RowKit
set_option maxRecDepth 8000
set_option linter.unusedSimpArgs false
set_option linter.unusedVariables false

def CellsAt (w : World) (x : Addr) (cs : List Value) : Prop := ∀ j v, cs[j]? = some v → w.cell? (x.add j) = some v
theorem run_loadVar_at {P : Program} (w : World) (x : Addr) (ty : TypeId) (cs : List Value) (d : TypeDesc) (hc : CellsAt w x cs)
    (hu : P.underlying ty = some d) (hd : d.isRow = true) (hi : (P.info? ty).map (·.size) = some cs.length) :
    (loadVar ty x).run P w = .ok (.agg cs.toArray) w := by
  have hl : (loadCells x cs.length).run P w = .ok cs.toArray w := run_loadCells_list (P := P) w x cs hc
  cases hq : P.info? ty with
  | none => simp [hq] at hi
  | some i =>
    have hs : i.size = cs.length := by simpa [hq] using hi
    have hagg : (isAgg ty).run P w = .ok true w := by
      unfold isAgg
      rw [Sem.run_bind, run_underlying hu w]
      cases d <;> simp_all
    simp [loadVar, Sem.run_bind, hagg, sizeOf, typeInfo, hq, hs, hl]
section
variable {ops : Array Oper} {rest : List Oper} {o : Oper} {a : Act} {w : World} {Q : Exit → Act → World → Prop} {T : TypeId} {d : TypeDesc} {S : World → Prop}
theorem wp_load_at {K : Act → World → Prop} (x : Operand) (ho : o.op = .load T x) (y : Addr) (hx : a.eval x = .pointer (some y)) (cs : List Value) (hc : CellsAt w y cs)
    (hu : Tryd.prog.underlying T = some d) (hd : d.isRow = true) (hi : (Tryd.prog.info? T).map (·.size) = some cs.length) (h : K (a.put o.dst (.agg cs.toArray)) w) : o.wp Tryd.prog a w K Q := by
  unfold Oper.wp execOp
  simp only [ho, hx, Instr.loadAt, Instr.sureAddr, Sem.run_bind, Sem.run_pure, Result.andThen_ok, run_loadVar_at w y T cs d hc hu hd hi]
  exact h
theorem wpList_load_at (hg : o.guard = none) (x : Operand) (ho : o.op = .load T x) (y : Addr) (hx : a.eval x = .pointer (some y)) (cs : List Value) (hc : CellsAt w y cs)
    (hu : Tryd.prog.underlying T = some d) (hd : d.isRow = true) (hi : (Tryd.prog.info? T).map (·.size) = some cs.length)
    (h : wpList Tryd.prog ops Q rest (a.put o.dst (.agg cs.toArray)) w) : wpList Tryd.prog ops Q (o :: rest) a w :=
  wpList_plain hg fun _ hK => wp_load_at x ho y hx cs hc hu hd hi (hK _ _ h)
theorem wpList_load_atg (hw : Region.wanted o (yielded ops a.tmps) = true) (x : Operand) (ho : o.op = .load T x) (y : Addr) (hx : a.eval x = .pointer (some y)) (cs : List Value) (hc : CellsAt w y cs)
    (hu : Tryd.prog.underlying T = some d) (hd : d.isRow = true) (hi : (Tryd.prog.info? T).map (·.size) = some cs.length)
    (h : wpList Tryd.prog ops Q rest (a.put o.dst (.agg cs.toArray)) w) : wpList Tryd.prog ops Q (o :: rest) a w := wpList_step fun K hK => by
  rw [if_pos hw]
  exact wp_load_at x ho y hx cs hc hu hd hi (hK _ _ h)
theorem yields_at (hw : Region.wanted o (yielded ops a.tmps) = true) (x : Operand) (ho : o.op = .load T x) (y : Addr) (hx : a.eval x = .pointer (some y)) (cs : List Value) (hS : ∀ w, S w → CellsAt w y cs)
    (hu : Tryd.prog.underlying T = some d) (hd : d.isRow = true) (hi : (Tryd.prog.info? T).map (·.size) = some cs.length) : YieldsIf Tryd.prog ops S o (.agg cs.toArray) a :=
  .inl ⟨hw, fun w hw' => by
    unfold execOp
    simp only [ho, hx, Instr.loadAt, Instr.sureAddr, Sem.run_bind, Sem.run_pure, Result.andThen_ok, run_loadVar_at w y T cs d (hS w hw') hu hd hi]⟩
end
theorem CellsAt.below {w w' : World} {x : Addr} {cs : List Value} (h : CellsAt w x cs) (b : Below w.heap.size w w') : CellsAt w' x cs := fun j v hv => (b.cell (World.block_lt_of_cell? _ _ (h j v hv))).trans (h j v hv)
/-- An element of a row. -/
theorem RowAt.at {α : Type} {sz : Nat} {f : α → List Value} {W : World} {y : Addr} {l : List α} (hf : ∀ x, (f x).length = sz) (h : RowAt sz f W (some y) l) {j : Nat} {x : α} (hx : l[j]? = some x) : CellsAt W (y.add (j * sz)) (f x) := fun i v hv => by
  obtain ⟨y', hy', hc⟩ := h j x hx
  obtain rfl := Option.some.inj hy'
  have hi := (List.getElem?_eq_some_iff.1 hv).1
  rw [hf] at hi
  rw [Addr.add_add, hc i hi, hv]
end Go.Proofs.YtacjfbomjglnjaaDoor

/-! A ROW OF ONE STRUCT, BUILT (append of a struct). For every stage from the eleventh on. -/
namespace Go.Proofs.YtacjfbomjglnjaaDoor
open Go.RowKit
set_option maxRecDepth 8000
set_option linter.unusedSimpArgs false
set_option linter.unusedVariables false

theorem fill_one {s : Nat} (hs : 0 < s) (zs : Array Value) (cs : List Value) (hz : zs.size = s) (hc : cs.length = s) : Instr.fill (fun i => some (i * s, s)) zs [(0, .agg cs.toArray)] = some cs.toArray := by
  obtain ⟨r, h1, h2, h3⟩ := Great.fill_dense hs [.agg cs.toArray] 0 zs (fun v hv => by rw [List.mem_singleton] at hv; subst hv; simp [Value.cells, hc]) (by simp [hz])
  rw [show ([Value.agg cs.toArray].zipIdx 0).map (fun x => (x.2, x.1)) = [(0, .agg cs.toArray)] from rfl] at h1
  rw [h1]
  congr 1
  apply Array.ext_getElem?
  intro k
  rw [h3 k]
  by_cases hk : k < s
  · rw [if_pos (by simp; omega)]
    simp [Nat.div_eq_of_lt hk, Nat.mod_eq_of_lt hk, Value.cells]
  · rw [if_neg (by simp; omega)]
    simp [Array.getElem?_eq_none (show zs.size ≤ k by omega), List.getElem?_eq_none (show cs.length ≤ k by omega)]
section
variable {ops : Array Oper} {rest : List Oper} {o : Oper} {a : Act} {w : World} {Q : Exit → Act → World → Prop}
theorem run_build1 {α : Type} {e t : TypeId} {sz : Nat} {f : α → List Value} (hE : ElemOk e t sz f) (hsz : sz ≤ 1000) (w : World) (cs : List Value) (hc : cs.length = sz) : (Instr.buildSlice t 1 #[(0, .agg cs.toArray)]).run Tryd.prog w = .ok (.slice (some ⟨w.heap.size, 0, none⟩) 1 1) (w.alloc (.cells cs.toArray e)) := by
  obtain ⟨i, z, b, hi, hz, hs, hb, hzs, hbb⟩ := hE.info
  have hp := hE.pos
  refine run_buildSlice (P := Tryd.prog) w t e 1 #[(0, .agg cs.toArray)] cs.toArray i z hE.und hi hz (by rw [hs]; omega) (by rw [hs]; omega) ?_
  rw [hs, Nat.one_mul]
  exact fill_one hp _ cs (by simp) hc
theorem wpList_build1 {α : Type} {e t : TypeId} {sz : Nat} {f : α → List Value} (hE : ElemOk e t sz f) (hsz : sz ≤ 1000) (hg : o.guard = none) (x : Operand) (ho : o.op = .buildSlice t 1 #[(0, x)]) (cs : List Value) (hx : a.eval x = .agg cs.toArray) (hc : cs.length = sz)
    (h : wpList Tryd.prog ops Q rest (a.put o.dst (.slice (some ⟨w.heap.size, 0, none⟩) 1 1)) (w.alloc (.cells cs.toArray e))) : wpList Tryd.prog ops Q (o :: rest) a w := by
  refine wpList_value hg ?_ h
  unfold execOp
  have hr := run_build1 hE hsz w cs hc
  simp [ho, hx, hr, Result.andThen]
  try rfl
theorem step_build1 {α : Type} {e t : TypeId} {sz : Nat} {f : α → List Value} {K : Act → World → Prop} {E : Prop} (hE : ElemOk e t sz f) (hsz : sz ≤ 1000) (hg : o.guard = none) (x : Operand) (ho : o.op = .buildSlice t 1 #[(0, x)]) (cs : List Value) (hx : a.eval x = .agg cs.toArray) (hc : cs.length = sz)
    (hK : K (a.put o.dst (.slice (some ⟨w.heap.size, 0, none⟩) 1 1)) (w.alloc (.cells cs.toArray e))) :
    if Region.wanted o (yielded ops a.tmps) = true then Oper.wp Tryd.prog o a w K Q else E := by
  have hw : Region.wanted o (yielded ops a.tmps) = true := by simp [Region.wanted, hg]
  rw [if_pos hw]
  unfold Oper.wp execOp
  have hr := run_build1 hE hsz w cs hc
  simp [ho, hx, hr, Result.andThen]
  exact hK
end
end Go.Proofs.YtacjfbomjglnjaaDoor

/-! WHAT A LAW HOLDS WHILE CALLS MAKE MEMORY OF THEIR OWN: a list of facts, each kept by whatever turns nothing that is there. For every stage from the tenth on. -/
namespace Go.Proofs.YtacjfbomjglnjaaDoor
open Go.RowKit
set_option maxRecDepth 8000
set_option linter.unusedSimpArgs false
set_option linter.unusedVariables false

def Stab (k : World → Prop) : Prop := ∀ W W', k W → Below W.heap.size W W' → k W'
structure Held (w W : World) (ks : List (World → Prop)) : Prop where
  k : ∀ k ∈ ks, k W ∧ Stab k
  bl : Below w.heap.size w W
section
variable {w W W' : World} {ks : List (World → Prop)} {k : World → Prop}
theorem Held.then (h : Held w W ks) (b : Below W.heap.size W W') : Held w W' ks := ⟨fun k hk => ⟨(h.k k hk).2 _ _ (h.k k hk).1 b, (h.k k hk).2⟩, Below.then h.bl b⟩
theorem Held.drew (h : Held w W ks) : Held w W.drew ks := h.then (Below.refl _ _).drew
theorem held_nil (w : World) : Held w w [] := ⟨fun _ h => by simp at h, Below.refl _ _⟩
theorem Held.add (h : Held w W ks) (hk : k W) (hs : Stab k) : Held w W (k :: ks) := ⟨fun j hj => by
  rcases List.mem_cons.1 hj with rfl | hj
  · exact ⟨hk, hs⟩
  · exact h.k j hj, h.bl⟩
theorem Held.get (h : Held w W ks) {i : Nat} (hi : ks[i]? = some k) : k W := (h.k k (List.mem_of_getElem? hi)).1
end
/-- A struct in a block of the law's own. -/
def BlkL (g : Nat) (cs : List Value) (W : World) : Prop := Blk W g cs ∧ g < W.heap.size
theorem stab_blk (g : Nat) (cs : List Value) : Stab (BlkL g cs) := fun W W' h b => ⟨h.1.same (b.block _ h.2), Nat.lt_of_lt_of_le h.2 b.size⟩
theorem BlkL.range {g : Nat} {cs : List Value} {W : World} (h : BlkL g cs W) : W.rangeAt g 0 cs := h.1.range
theorem blkl_alloc (w : World) (cs : Array Value) (T : TypeId) : BlkL w.heap.size cs.toList (w.alloc (.cells cs T)) := ⟨blk_alloc w cs T, by simp⟩
/-- A struct put into a block that was just made. -/
theorem put_new (W : World) (zs : Array Value) (T : TypeId) (cs : List Value) (hl : cs.length = zs.size) (hp : 0 < cs.length) : ∃ W', (W.alloc (.cells zs T)).setCells W.heap.size 0 cs = W' ∧ (W.alloc (.cells zs T)).there W.heap.size 0 cs.length ∧ BlkL W.heap.size cs W' ∧ Below W.heap.size W W' := by
  have hb := blk_alloc W zs T
  have hl' : zs.toList.length = cs.length := by simp [hl]
  have hs := hb.setAll hl'
  refine ⟨_, rfl, ?_, ⟨hs, ?_⟩, Below.cells (Nat.le_refl _) cs 0 (alloc_below _ _)⟩
  · rw [← hl']
    exact hb.there
  · obtain ⟨v, hv⟩ : ∃ v, cs[0]? = some v := ⟨_, List.getElem?_eq_getElem hp⟩
    exact hs.lt hv
end Go.Proofs.YtacjfbomjglnjaaDoor

/-! ROWS OF NODES, AND WHERE THEY LIE; the document's own Find and Drop (donjonref11). -/
namespace Go.Proofs.YtacjfbomjglnjaaDoor
open Go.RowKit
set_option maxRecDepth 8000
set_option linter.unusedSimpArgs false
set_option linter.unusedVariables false

/-- A node's cells, as a list. -/
def nclT (n : Nod) (aa : Option Addr) (ca : Nat) (wa : Option Addr) (cw : Nat) : List Value := [.string n.path, .bool n.dir, .int .i64 n.label.s, .int .i64 n.label.c, .int .i64 n.label.i, .int .i64 n.label.k, .slice aa n.acl.length ca, .int .i64 n.r1, .int .i64 n.r2, .int .i64 n.r3, .int .i64 n.gates, .slice wa n.words.length cw, .int .i64 n.by_.s, .int .i64 n.by_.c, .int .i64 n.by_.i, .int .i64 n.by_.k]
/-- A node, and where its rows lie. -/
structure PN where
  n : Nod
  aa : Option Addr
  ca : Nat
  wa : Option Addr
  cw : Nat
def PN.cs (x : PN) : List Value := nclT x.n x.aa x.ca x.wa x.cw
theorem pn_len (x : PN) : x.cs.length = 16 := rfl
theorem pn_one (x : PN) : ∀ v ∈ x.cs, v.oneCell' = true := by
  intro v hv
  unfold PN.cs nclT at hv
  simp only [List.mem_cons, List.not_mem_nil, or_false] at hv
  rcases hv with rfl | rfl | rfl | rfl | rfl | rfl | rfl | rfl | rfl | rfl | rfl | rfl | rfl | rfl | rfl | rfl <;> rfl
theorem pn_ok : ElemOk 32 22 16 PN.cs :=
  ⟨Tryd.underlying22, by
    obtain ⟨i, h1, h2, h3, h4⟩ := info_of (e := 32) (z := .agg #[.string ⟨#[]⟩, .bool false, .int .i64 0, .int .i64 0, .int .i64 0, .int .i64 0, .slice none 0 0, .int .i64 0, .int .i64 0, .int .i64 0, .int .i64 0, .slice none 0 0, .int .i64 0, .int .i64 0, .int .i64 0, .int .i64 0]) (sz := 16) (b := 168) (by kernel_rfl)
    exact ⟨i, _, _, h1, h2, h3, h4, rfl, by omega⟩, by omega, pn_len, pn_one⟩
structure PN.At (W : World) (x : PN) : Prop where
  g : GrsAt W x.aa x.n.acl
  w : WrdsAt W x.wa x.n.words
theorem PN.At.below {W W' : World} {x : PN} (h : x.At W) (b : Below W.heap.size W W') : x.At W' := ⟨h.g.below b, h.w.below b⟩
/-- Nodes one behind the other, each with its rows. -/
structure RowN (W : World) (a : Option Addr) (l : List PN) : Prop where
  r : RowAt 16 PN.cs W a l
  p : ∀ x ∈ l, x.At W
theorem RowN.below {W W' : World} {a : Option Addr} {l : List PN} (h : RowN W a l) (b : Below W.heap.size W W') : RowN W' a l := ⟨h.r.below pn_len b, fun x hx => (h.p x hx).below b⟩
abbrev OwnN (W : World) (base : Nat) (v : Value) (l : List PN) : Prop := OwnR 32 16 PN.cs W base v l
def namesP (l : List PN) : List Nod := l.map (·.n)
def findP (l : List PN) (p : ByteArray) : Option PN := l.find? fun x => eqs x.n.path p
def dropP (l : List PN) (p : ByteArray) : List PN := l.filter fun x => !eqs x.n.path p
def putP (l : List PN) (x : PN) : List PN := (dropP l x.n.path).takeWhile (fun y => lt y.n.path x.n.path) ++ x :: (dropP l x.n.path).dropWhile (fun y => lt y.n.path x.n.path)
def underP (l : List PN) (p : ByteArray) : List ByteArray := (l.filter fun x => isUnder p x.n).map fun x => lastOf x.n.path
theorem find_names (l : List PN) (p : ByteArray) : findN (namesP l) p = (findP l p).map (·.n) := by
  unfold findN findP namesP
  rw [List.find?_map]
  rfl
theorem drop_names (l : List PN) (p : ByteArray) : namesP (dropP l p) = dropN (namesP l) p := by
  unfold dropN dropP namesP
  rw [List.filter_map]
  rfl
theorem under_names (l : List PN) (p : ByteArray) : underP l p = underN (namesP l) p := by
  unfold underP underN namesP
  rw [List.filter_map, List.map_map]
  rfl
theorem put_names (l : List PN) (x : PN) : namesP (putP l x) = putN (namesP l) x.n := by
  unfold putN putP
  rw [← drop_names]
  unfold namesP
  rw [List.map_append, List.map_cons, List.takeWhile_map, List.dropWhile_map]
  rfl
theorem put_sub {l : List PN} {x y : PN} (h : y ∈ putP l x) : y = x ∨ y ∈ l := by
  unfold putP at h
  rw [List.mem_append, List.mem_cons] at h
  rcases h with h | h | h
  · exact .inr (List.mem_filter.1 (List.Sublist.subset (List.takeWhile_sublist _) h)).1
  · exact .inl h
  · exact .inr (List.mem_filter.1 (List.Sublist.subset (List.dropWhile_sublist _) h)).1
/-- The node that is none. -/
def zeroP : PN := ⟨⟨⟨#[]⟩, false, ⟨0, 0, 0, 0⟩, [], 0, 0, 0, 0, [], ⟨0, 0, 0, 0⟩⟩, none, 0, none, 0⟩
def foundCs (o : Option PN) : List Value := (o.getD zeroP).cs
theorem RowN.path {W : World} {y : Addr} {l : List PN} (h : RowN W (some y) l) {i : Nat} {x : PN} (hx : l[i]? = some x) : W.cell? (y.add (i * 16)) = some (.string x.n.path) := by
  have := h.r.at pn_len hx 0 _ rfl
  exact this
theorem RowN.some_ {W : World} {a : Option Addr} {l : List PN} (h : RowN W a l) {i : Nat} {x : PN} (hx : l[i]? = some x) : ∃ y, a = some y := by
  obtain ⟨y, hy, -⟩ := h.r i x hx
  exact ⟨y, hy⟩
theorem find_drop {l : List PN} {p : ByteArray} {i : Nat} {x : PN} (hx : l[i]? = some x) : (l.drop i).find? (fun x => eqs x.n.path p) = if eqs x.n.path p = true then some x else (l.drop (i + 1)).find? (fun x => eqs x.n.path p) := by
  have h1 := List.getElem?_eq_some_iff.1 hx
  rw [List.drop_eq_getElem_cons h1.1, h1.2, List.find?_cons]
  cases eqs x.n.path p <;> rfl

set_option maxHeartbeats 2000000 in
theorem rfindT_any (a : Option Addr) (cap : Nat) (l : List PN) (p : ByteArray) (hl : l.length ≤ 1000000) (w : World) (h : RowN w a l) :
    Calls Tryd.prog 38 #[.slice a l.length cap, .string p] w fun e w' => e = .returned (.tuple #[.agg (foundCs (findP l p)).toArray, .bool (findP l p).isSome]) ∧ Below w.heap.size w w' := by
  obtain ⟨fr, hfr⟩ : ∃ fr, findP l p = fr := ⟨_, rfl⟩
  rw [hfr]
  replace hfr : Aside (findP l p = fr) := hfr
  have hund := Tryd.underlying32
  have hsz : (Tryd.prog.info? 32).map (·.size) = some 16 := by kernel_rfl
  obtain ⟨n, hn⟩ : ∃ n, l.length = n := ⟨_, rfl⟩
  rw [hn] at hl ⊢
  replace hn : Aside (l.length = n) := hn
  have hb0 := blk_alloc w zeroP.cs.toArray 32
  have hB0 := alloc_below w (.cells zeroP.cs.toArray 32)
  have hz0 : zeroP.cs = [.string ⟨#[]⟩, .bool false, .int .i64 0, .int .i64 0, .int .i64 0, .int .i64 0, .slice none 0 0, .int .i64 0, .int .i64 0, .int .i64 0, .int .i64 0, .slice none 0 0, .int .i64 0, .int .i64 0, .int .i64 0, .int .i64 0] := rfl
  rw [hz0] at hb0 hB0
  go_enter Tryd.func38, Tryd.ntmps38
  go_wp2_with fail
  have hrow := h.below hB0
  generalize w.alloc (.cells #[.string ⟨#[]⟩, .bool false, .int .i64 0, .int .i64 0, .int .i64 0, .int .i64 0, .slice none 0 0, .int .i64 0, .int .i64 0, .int .i64 0, .int .i64 0, .slice none 0 0, .int .i64 0, .int .i64 0, .int .i64 0, .int .i64 0] 32) = W at *
  go_loopw [6] (fun t6 wr => ∃ i : Nat, i ≤ n ∧ t6 = .int .i64 (i : Int) ∧ Aside ((l.drop i).find? (fun x => eqs x.n.path p) = fr) ∧ wr = W) (fun t6 _ => n - (Go.RowKit.intOf t6).toNat)
  case atStart => exact ⟨0, by omega, rfl, hfr.out, rfl⟩
  case round =>
    obtain ⟨i, hi, rfl, hf, rfl⟩ := hrel
    by_cases hlt : i < n
    · obtain ⟨x, hx⟩ : ∃ x, l[i]? = some x := ⟨_, List.getElem?_eq_getElem (by rw [hn.out]; exact hlt)⟩
      obtain ⟨y, rfl⟩ := hrow.some_ hx
      have hc := hrow.path hx
      have hw := hrow.r.at pn_len hx
      rw [find_drop hx] at hf
      cases he : eqs x.n.path p
      · rw [if_neg (by rw [he]; decide)] at hf
        have f0 : (x.n.path.toList == p.toList) = false := by exact he
        clear hw hx
        go_wp2_with fail
        exact ⟨⟨i + 1, by omega, by simp, hf, trivial⟩, by simp [Go.RowKit.intOf]; omega⟩
      · rw [if_pos he] at hf
        have f0 : (x.n.path.toList == p.toList) = true := by exact he
        obtain rfl := hf.out
        obtain ⟨cs, hcs⟩ : ∃ cs, x.cs = cs := ⟨_, rfl⟩
        have hlen : cs.length = 16 := by rw [← hcs]; rfl
        have hone : ∀ v ∈ cs, v.oneCell' = true := by rw [← hcs]; exact pn_one x
        rw [hcs] at hw
        replace hcs : Aside (x.cs = cs) := hcs
        have ht : wr.there w.heap.size 0 cs.length := by rw [hlen]; exact hb0.there
        have hk := hb0.setAll (cs := cs) (by rw [hlen]; rfl)
        have hBz : Below w.heap.size w (wr.setCells w.heap.size 0 cs) := Below.cells (Nat.le_refl _) cs 0 hB0
        obtain ⟨W2, hW2⟩ : ∃ W', wr.setCells w.heap.size 0 cs = W' := ⟨_, rfl⟩
        rw [hW2] at hk hBz
        rw [← hlen] at hsz
        clear hx hlen hb0
        go_wp2_with (first | (refine wpList_load_at rfl _ rfl (y.add (i * 16)) rfl cs hw hund rfl hsz ?_) | (refine wpList_store_row rfl _ _ rfl w.heap.size rfl cs rfl ht hsz hone hW2 ?_) | fail)
        refine bodyPost_ret (v := .tuple #[.agg cs.toArray, .bool true]) (results_row2 rfl _ _ w.heap.size rfl (.bool true) rfl cs hk.range hund rfl hsz) rfl ?_
        refine ⟨?_, hBz⟩
        unfold foundCs
        rw [← hcs.out]
        rfl
    · obtain rfl : i = n := by omega
      have hf' : fr = none := by
        have := hf.out
        rw [List.drop_eq_nil_of_le (by rw [hn.out]; exact Nat.le_refl _)] at this
        exact this.symm
      subst hf'
      have hk := hb0.setAll (cs := zeroP.cs) rfl
      have hBz : Below w.heap.size w (wr.setCells w.heap.size 0 zeroP.cs) := Below.cells (Nat.le_refl _) zeroP.cs 0 hB0
      have ht : wr.there w.heap.size 0 zeroP.cs.length := hb0.there
      obtain ⟨W2, hW2⟩ : ∃ W', wr.setCells w.heap.size 0 zeroP.cs = W' := ⟨_, rfl⟩
      rw [hW2] at hk hBz
      clear hb0
      go_wp2_with (first | (refine wpList_store_row rfl _ _ rfl w.heap.size rfl zeroP.cs rfl ht hsz (pn_one zeroP) hW2 ?_) | fail)
      refine bodyPost_ret (v := .tuple #[.agg zeroP.cs.toArray, .bool false]) (results_row2 rfl _ _ w.heap.size rfl (.bool false) rfl zeroP.cs hk.range hund rfl hsz) rfl ?_
      exact ⟨rfl, hBz⟩
theorem filter_take {α : Type} (f : α → Bool) (l : List α) {i : Nat} {x : α} (h : l[i]? = some x) : (l.take (i + 1)).filter f = (l.take i).filter f ++ (if f x = true then [x] else []) := by
  rw [List.take_add_one, h, List.filter_append]
  congr 1
  simp only [Option.toList]
  rw [List.filter_cons]
  rfl
set_option maxHeartbeats 2000000 in
theorem rdropT_any (a : Option Addr) (cap : Nat) (l : List PN) (p : ByteArray) (hl : l.length ≤ 100000) (w : World) (h : RowN w a l) :
    Calls Tryd.prog 21 #[.slice a l.length cap, .string p] w fun e w' => ∃ v, e = .returned v ∧ OwnN w' w.heap.size v (dropP l p) ∧ Below w.heap.size w w' := by
  have hund := Tryd.underlying32
  have hsz : (Tryd.prog.info? 32).map (·.size) = some 16 := by kernel_rfl
  obtain ⟨n, hn⟩ : ∃ n, l.length = n := ⟨_, rfl⟩
  rw [hn] at hl ⊢
  replace hn : Aside (l.length = n) := hn
  have hfl : ∀ i, ((l.take i).filter fun x => !eqs x.n.path p).length ≤ n := fun i => Nat.le_trans (List.length_filter_le _ _) (by rw [List.length_take, hn.out]; omega)
  go_enter Tryd.func21, Tryd.ntmps21
  go_wp2_with fail
  go_loopw [5, 6] (fun t5 t6 wr => ∃ i : Nat, i ≤ n ∧ t6 = .int .i64 (i : Int) ∧ OwnN wr w.heap.size t5 ((l.take i).filter fun x => !eqs x.n.path p) ∧ Below w.heap.size w wr) (fun _ t6 _ => n - (Go.RowKit.intOf t6).toNat)
  case atStart => exact ⟨0, by omega, rfl, by simpa using OwnR.nil _ _ _ _ _, Below.refl _ _⟩
  case round =>
    obtain ⟨i, hi, rfl, ho, hB⟩ := hrel
    by_cases hlt : i < n
    · obtain ⟨x, hx⟩ : ∃ x, l[i]? = some x := ⟨_, List.getElem?_eq_getElem (by rw [hn.out]; exact hlt)⟩
      have hrow := h.below hB
      obtain ⟨y, rfl⟩ := h.some_ hx
      have hc := hrow.path hx
      have hw := hrow.r.at pn_len hx
      have hft := filter_take (fun x : PN => !eqs x.n.path p) l hx
      cases he : eqs x.n.path p
      · rw [if_pos (by rw [he]; rfl)] at hft
        have f0 : (x.n.path.toList == p.toList) = false := by exact he
        obtain ⟨v2, W2, hap, ho2, hg2⟩ := OwnR.push pn_ok ho hB.size x x.cs.toArray rfl 32 (by have := hfl i; omega)
        have hb2 := ho.grew_below hB.size hg2
        rw [← hft] at ho2
        obtain ⟨cs, hcs⟩ : ∃ cs, x.cs = cs := ⟨_, rfl⟩
        have hlen : cs.length = 16 := by rw [← hcs]; rfl
        rw [hcs] at hw hap
        rw [← hlen] at hsz
        clear hcs hft hx
        go_wp2_with (first | (refine wpList_load_at rfl _ rfl (y.add (i * 16)) rfl cs hw hund rfl hsz ?_) | (refine wpList_build1 pn_ok (by decide) rfl _ rfl cs rfl hlen ?_) | (refine wpList_append rfl _ _ rfl rfl rfl rfl hap ?_) | fail)
        exact ⟨⟨i + 1, by omega, by simp, ho2, hB.trans hb2⟩, by simp [Go.RowKit.intOf]; omega⟩
      · rw [if_neg (by rw [he]; decide), List.append_nil] at hft
        have f0 : (x.n.path.toList == p.toList) = true := by exact he
        rw [← hft] at ho
        clear hw hx
        go_wp2_with fail
        exact ⟨⟨i + 1, by omega, by simp, ho, hB⟩, by simp [Go.RowKit.intOf]; omega⟩
    · obtain rfl : i = n := by omega
      rw [List.take_of_length_le (by rw [hn.out]; exact Nat.le_refl _)] at ho
      go_wp2_with fail
      go_ret
      exact ⟨_, rfl, ho, hB⟩
end Go.Proofs.YtacjfbomjglnjaaDoor
