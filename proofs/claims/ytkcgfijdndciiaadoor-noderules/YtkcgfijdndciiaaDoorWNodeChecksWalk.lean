/-
  NodeChecks: the walk.
-/
import Derived.Test.YtkcgfijdndciiaaDoorWHeld
import Derived.Deep.RegionHeld
import Derived.Test.YtkcgfijdndciiaaDoorPt3
namespace Go.Proofs.YtkcgfijdndciiaaDoor
open Go.RowKit
set_option maxRecDepth 8000
set_option linter.unusedSimpArgs false
set_option linter.unusedVariables false

/-- A node's cells, as a list. -/
def ncl (n : Nod) (aa : Option Addr) (ca : Nat) (wa : Option Addr) (cw : Nat) : List Value := [.string n.path, .bool n.dir, .int .i64 n.label.s, .int .i64 n.label.c, .int .i64 n.label.i, .int .i64 n.label.k, .slice aa n.acl.length ca, .int .i64 n.r1, .int .i64 n.r2, .int .i64 n.r3, .int .i64 n.gates, .slice wa n.words.length cw, .int .i64 n.by_.s, .int .i64 n.by_.c, .int .i64 n.by_.i, .int .i64 n.by_.k]
theorem ncl_v (n : Nod) (aa : Option Addr) (ca : Nat) (wa : Option Addr) (cw : Nat) : n.v aa ca wa cw = .agg (ncl n aa ca wa cw).toArray := rfl
set_option maxRecDepth 8000 in
set_option maxHeartbeats 4000000 in
theorem nodeChecks_walk (n : Nod) (aa : Option Addr) (ca : Nat) (wa : Option Addr) (cw : Nat) (hu : ∀ g ∈ n.acl, g.u.size ≤ 9223372036854775807) (w : World) (hg : GAt w aa n.acl) (hm : MaxV w) :
    Calls Tryd.prog 3 #[n.v aa ca wa cw] w fun e w' => e = .returned (.bool true) ∧ Below w.heap.size w w' := by
  have h := nh_start (ca := ca) (wa := wa) (cw := cw) hg hm
  unfold ncells at h
  have hund := Tryd.underlying29
  have hsz : (Tryd.prog.info? 29).map (·.size) = some (ncl n aa ca wa cw).length := by rw [show (ncl n aa ca wa cw).length = 16 from rfl]; kernel_rfl
  have kk := nknown_any
  have kf := fun W => few_any n aa ca wa cw W
  have hrow : ∀ W, NH w W n aa ca wa cw → W.rangeAt w.heap.size 0 (ncl n aa ca wa cw) := fun W q => NBox.row q.box
  have kc : fewN n = true → ∀ W, NH w W n aa ca wa cw → Calls Tryd.prog 7 #[n.v aa ca wa cw] W fun e w' => e = .returned (.int .i64 (nodC n)) ∧ Below W.heap.size W w' := fun q W q2 => by
    have hf : n.path.size < 1000 ∧ n.acl.length < 40 ∧ n.words.length < 100 := by simpa [fewN] using q
    exact ncheck_any n aa ca wa cw (by omega) (by omega) W q2.gr q2.mv
  have kr : fewN n = true → ∀ W, NH w W n aa ca wa cw → Calls Tryd.prog 8 #[n.v aa ca wa cw] W fun e w' => e = .returned (.int .i64 (nodC n)) ∧ Below W.heap.size W w' := fun q W q2 => by
    have hf : n.path.size < 1000 ∧ n.acl.length < 40 ∧ n.words.length < 100 := by simpa [fewN] using q
    exact rncheck_any n aa ca wa cw (by omega) (by omega) hu W q2.gr q2.mv
  rw [ncl_v] at kf kc kr
  go_enter Tryd.func3, Tryd.ntmps3
  go_wp2_with fail
  generalize w.alloc (.cells #[.string n.path, .bool n.dir, .int .i64 n.label.s, .int .i64 n.label.c, .int .i64 n.label.i, .int .i64 n.label.k, .slice aa n.acl.length ca, .int .i64 n.r1, .int .i64 n.r2, .int .i64 n.r3, .int .i64 n.gates, .slice wa n.words.length cw, .int .i64 n.by_.s, .int .i64 n.by_.c, .int .i64 n.by_.i, .int .i64 n.by_.k] 29) = W at *
  refine (kk W).mono ?_
  rintro e W1 ⟨rfl, hB1⟩
  have h1 := h.then hB1
  clear kk h hB1
  obtain ⟨cs, hcs⟩ : ∃ cs, ncl n aa ca wa cw = cs := ⟨_, rfl⟩
  rw [hcs] at kf kc kr hrow hsz
  clear hcs
  generalize nodC n = r at *
  cases hb : fewN n
  · rw [hb] at kf
    clear kc kr
    go_wp2_with fail
    have hS0 : NH w W1.drew n aa ca wa cw := h1.then (Below.refl _ _).drew
    refine wp_region_held_drew (S := (fun W => NH w W n aa ca wa cw)) (by kernel_rfl) (by first | exact hS1 | exact hS0) ?_
    intro hHeld
    (first | (refine wpAnyH_take (i := 0) (v := _) (by simp only [gA, gB, gC]; rfl) (by kernel_rfl) (by kernel_rfl) (by kernel_rfl) (by exact fun _ _ _ h => h) (yields_row (by rfl) _ rfl _ rfl cs hrow hund rfl hsz) (by assumption) ?_) | (refine wpAnyH_take (i := 0) (v := undef) (by simp only [gA, gB, gC]; rfl) (by kernel_rfl) (by kernel_rfl) (by kernel_rfl) (by exact fun _ _ _ h => h) (Or.inr ⟨by rfl, rfl⟩) (by assumption) ?_) | fail); simp only [Act.put, sA, sB, sC, Bool.not_true, Bool.not_false]
    first | (refine wpAnyH_take (i := 1) (v := undef) (by simp only [gA, gB, gC]; rfl) (by kernel_rfl) (by kernel_rfl) (by kernel_rfl) (by exact fun _ _ _ h => h) (Or.inr ⟨by rfl, rfl⟩) (by assumption) ?_; simp only [Act.put, sA, sB, sC, Bool.not_true, Bool.not_false]) | (refine wpAnyH_ready (rs := [1]) (by kernel_rfl) (by simp) ?_; refine AllReadyH.cons (by simp only [gA, gB, gC]; rfl) (fun K hK => ?_) AllReadyH.nil; go_simp; (first | (go_at_call 6; refine (kf _).mono ?_; rintro e w1 ⟨rfl, hb1⟩; have hS1 := hS0.then hb1)); refine hK.out _ _ (by first | exact hS1 | exact hS0) ?_; clear hHeld hK; intro hHeld; (try simp only [Act.put, sA, sB, sC, Bool.not_true, Bool.not_false])) | fail
    (first | (refine wpAnyH_take (i := 2) (v := ?_) (by simp only [gA, gB, gC]; rfl) (by kernel_rfl) (by kernel_rfl) (by kernel_rfl) (by exact fun _ _ _ h => h) (Or.inl ⟨by rfl, ?_⟩) (by assumption) ?_; rotate_left; (focus (intro w hSw; (try dsimp only at hSw); go_simp; try with_reducible rfl))) | (refine wpAnyH_take (i := 2) (v := undef) (by simp only [gA, gB, gC]; rfl) (by kernel_rfl) (by kernel_rfl) (by kernel_rfl) (by exact fun _ _ _ h => h) (Or.inr ⟨by rfl, rfl⟩) (by assumption) ?_) | fail); simp only [Act.put, sA, sB, sC, Bool.not_true, Bool.not_false]
    (first | (refine wpAnyH_take (i := 3) (v := ?_) (by simp only [gA, gB, gC]; rfl) (by kernel_rfl) (by kernel_rfl) (by kernel_rfl) (by exact fun _ _ _ h => h) (Or.inl ⟨by rfl, ?_⟩) (by assumption) ?_; rotate_left; (focus (intro w hSw; (try dsimp only at hSw); go_simp; try with_reducible rfl))) | (refine wpAnyH_take (i := 3) (v := undef) (by simp only [gA, gB, gC]; rfl) (by kernel_rfl) (by kernel_rfl) (by kernel_rfl) (by exact fun _ _ _ h => h) (Or.inr ⟨by rfl, rfl⟩) (by assumption) ?_) | fail); simp only [Act.put, sA, sB, sC, Bool.not_true, Bool.not_false]
    (first | (refine wpAnyH_take (i := 4) (v := _) (by simp only [gA, gB, gC]; rfl) (by kernel_rfl) (by kernel_rfl) (by kernel_rfl) (by exact fun _ _ _ h => h) (yields_row (by rfl) _ rfl _ rfl cs hrow hund rfl hsz) (by assumption) ?_) | (refine wpAnyH_take (i := 4) (v := undef) (by simp only [gA, gB, gC]; rfl) (by kernel_rfl) (by kernel_rfl) (by kernel_rfl) (by exact fun _ _ _ h => h) (Or.inr ⟨by rfl, rfl⟩) (by assumption) ?_) | fail); simp only [Act.put, sA, sB, sC, Bool.not_true, Bool.not_false]
    (first | (refine wpAnyH_take (i := 6) (v := _) (by simp only [gA, gB, gC]; rfl) (by kernel_rfl) (by kernel_rfl) (by kernel_rfl) (by exact fun _ _ _ h => h) (yields_row (by rfl) _ rfl _ rfl cs hrow hund rfl hsz) (by assumption) ?_) | (refine wpAnyH_take (i := 6) (v := undef) (by simp only [gA, gB, gC]; rfl) (by kernel_rfl) (by kernel_rfl) (by kernel_rfl) (by exact fun _ _ _ h => h) (Or.inr ⟨by rfl, rfl⟩) (by assumption) ?_) | fail); simp only [Act.put, sA, sB, sC, Bool.not_true, Bool.not_false]
    first | (refine wpAnyH_take (i := 5) (v := undef) (by simp only [gA, gB, gC]; rfl) (by kernel_rfl) (by kernel_rfl) (by kernel_rfl) (by exact fun _ _ _ h => h) (Or.inr ⟨by rfl, rfl⟩) (by assumption) ?_; simp only [Act.put, sA, sB, sC, Bool.not_true, Bool.not_false]) | (refine wpAnyH_ready (rs := [5]) (by kernel_rfl) (by simp) ?_; refine AllReadyH.cons (by simp only [gA, gB, gC]; rfl) (fun K hK => ?_) AllReadyH.nil; go_simp; (first | (go_at_call 6; refine (kf _).mono ?_; rintro e w1 ⟨rfl, hb1⟩; have hS1 := hS0.then hb1)); refine hK.out _ _ (by first | exact hS1 | exact hS0) ?_; clear hHeld hK; intro hHeld; (try simp only [Act.put, sA, sB, sC, Bool.not_true, Bool.not_false])) | fail
    first | (refine wpAnyH_take (i := 7) (v := undef) (by simp only [gA, gB, gC]; rfl) (by kernel_rfl) (by kernel_rfl) (by kernel_rfl) (by exact fun _ _ _ h => h) (Or.inr ⟨by rfl, rfl⟩) (by assumption) ?_; simp only [Act.put, sA, sB, sC, Bool.not_true, Bool.not_false]) | (refine wpAnyH_ready (rs := [7]) (by kernel_rfl) (by simp) ?_; refine AllReadyH.cons (by simp only [gA, gB, gC]; rfl) (fun K hK => ?_) AllReadyH.nil; go_simp; (first | (go_at_call 6; refine (kf _).mono ?_; rintro e w1 ⟨rfl, hb1⟩; have hS1 := hS0.then hb1)); refine hK.out _ _ (by first | exact hS1 | exact hS0) ?_; clear hHeld hK; intro hHeld; (try simp only [Act.put, sA, sB, sC, Bool.not_true, Bool.not_false])) | fail
    (first | (refine wpAnyH_take (i := 8) (v := ?_) (by simp only [gA, gB, gC]; rfl) (by kernel_rfl) (by kernel_rfl) (by kernel_rfl) (by exact fun _ _ _ h => h) (Or.inl ⟨by rfl, ?_⟩) (by assumption) ?_; rotate_left; (focus (intro w hSw; (try dsimp only at hSw); go_simp; try with_reducible rfl))) | (refine wpAnyH_take (i := 8) (v := undef) (by simp only [gA, gB, gC]; rfl) (by kernel_rfl) (by kernel_rfl) (by kernel_rfl) (by exact fun _ _ _ h => h) (Or.inr ⟨by rfl, rfl⟩) (by assumption) ?_) | fail); simp only [Act.put, sA, sB, sC, Bool.not_true, Bool.not_false]
    (first | (refine wpAnyH_take (i := 9) (v := ?_) (by simp only [gA, gB, gC]; rfl) (by kernel_rfl) (by kernel_rfl) (by kernel_rfl) (by exact fun _ _ _ h => h) (Or.inl ⟨by rfl, ?_⟩) (by assumption) ?_; rotate_left; (focus (intro w hSw; (try dsimp only at hSw); go_simp; try with_reducible rfl))) | (refine wpAnyH_take (i := 9) (v := undef) (by simp only [gA, gB, gC]; rfl) (by kernel_rfl) (by kernel_rfl) (by kernel_rfl) (by exact fun _ _ _ h => h) (Or.inr ⟨by rfl, rfl⟩) (by assumption) ?_) | fail); simp only [Act.put, sA, sB, sC, Bool.not_true, Bool.not_false]
    (first | (refine wpAnyH_take (i := 10) (v := ?_) (by simp only [gA, gB, gC]; rfl) (by kernel_rfl) (by kernel_rfl) (by kernel_rfl) (by exact fun _ _ _ h => h) (Or.inl ⟨by rfl, ?_⟩) (by assumption) ?_; rotate_left; (focus (intro w hSw; (try dsimp only at hSw); go_simp; try with_reducible rfl))) | (refine wpAnyH_take (i := 10) (v := undef) (by simp only [gA, gB, gC]; rfl) (by kernel_rfl) (by kernel_rfl) (by kernel_rfl) (by exact fun _ _ _ h => h) (Or.inr ⟨by rfl, rfl⟩) (by assumption) ?_) | fail); simp only [Act.put, sA, sB, sC, Bool.not_true, Bool.not_false]
    refine wpAnyH_done (by kernel_rfl) ?_ _
    go_wp2_with fail
    go_ret
    exact ⟨rfl, hS1.bl⟩
  · rw [hb] at kf
    replace kc := kc hb
    replace kr := kr hb
    go_wp2_with fail
    have hS0 : NH w W1.drew n aa ca wa cw := h1.then (Below.refl _ _).drew
    refine wp_region_held_drew (S := (fun W => NH w W n aa ca wa cw)) (by kernel_rfl) (by first | exact hS3 | exact hS2 | exact hS1 | exact hS0) ?_
    intro hHeld
    (first | (refine wpAnyH_take (i := 0) (v := _) (by simp only [gA, gB, gC]; rfl) (by kernel_rfl) (by kernel_rfl) (by kernel_rfl) (by exact fun _ _ _ h => h) (yields_row (by rfl) _ rfl _ rfl cs hrow hund rfl hsz) (by assumption) ?_) | (refine wpAnyH_take (i := 0) (v := undef) (by simp only [gA, gB, gC]; rfl) (by kernel_rfl) (by kernel_rfl) (by kernel_rfl) (by exact fun _ _ _ h => h) (Or.inr ⟨by rfl, rfl⟩) (by assumption) ?_) | fail); simp only [Act.put, sA, sB, sC, Bool.not_true, Bool.not_false, beq_self_eq_true]
    first | (refine wpAnyH_take (i := 1) (v := undef) (by simp only [gA, gB, gC]; rfl) (by kernel_rfl) (by kernel_rfl) (by kernel_rfl) (by exact fun _ _ _ h => h) (Or.inr ⟨by rfl, rfl⟩) (by assumption) ?_; simp only [Act.put, sA, sB, sC, Bool.not_true, Bool.not_false, beq_self_eq_true]) | (refine wpAnyH_ready (rs := [1]) (by kernel_rfl) (by simp) ?_; refine AllReadyH.cons (by simp only [gA, gB, gC]; rfl) (fun K hK => ?_) AllReadyH.nil; go_simp; (first | (go_at_call 8; refine (kr _ hS2).mono ?_; rintro e w3 ⟨rfl, hb3⟩; have hS3 := hS2.then hb3) | (go_at_call 7; refine (kc _ hS1).mono ?_; rintro e w2 ⟨rfl, hb2⟩; have hS2 := hS1.then hb2) | (go_at_call 6; refine (kf _).mono ?_; rintro e w1 ⟨rfl, hb1⟩; have hS1 := hS0.then hb1)); refine hK.out _ _ (by first | exact hS3 | exact hS2 | exact hS1 | exact hS0) ?_; clear hHeld hK; intro hHeld; (try simp only [Act.put, sA, sB, sC, Bool.not_true, Bool.not_false, beq_self_eq_true])) | fail
    (first | (refine wpAnyH_take (i := 2) (v := ?_) (by simp only [gA, gB, gC]; rfl) (by kernel_rfl) (by kernel_rfl) (by kernel_rfl) (by exact fun _ _ _ h => h) (Or.inl ⟨by rfl, ?_⟩) (by assumption) ?_; rotate_left; (focus (intro w hSw; (try dsimp only at hSw); go_simp; try with_reducible rfl))) | (refine wpAnyH_take (i := 2) (v := undef) (by simp only [gA, gB, gC]; rfl) (by kernel_rfl) (by kernel_rfl) (by kernel_rfl) (by exact fun _ _ _ h => h) (Or.inr ⟨by rfl, rfl⟩) (by assumption) ?_) | fail); simp only [Act.put, sA, sB, sC, Bool.not_true, Bool.not_false, beq_self_eq_true]
    (first | (refine wpAnyH_take (i := 3) (v := ?_) (by simp only [gA, gB, gC]; rfl) (by kernel_rfl) (by kernel_rfl) (by kernel_rfl) (by exact fun _ _ _ h => h) (Or.inl ⟨by rfl, ?_⟩) (by assumption) ?_; rotate_left; (focus (intro w hSw; (try dsimp only at hSw); go_simp; try with_reducible rfl))) | (refine wpAnyH_take (i := 3) (v := undef) (by simp only [gA, gB, gC]; rfl) (by kernel_rfl) (by kernel_rfl) (by kernel_rfl) (by exact fun _ _ _ h => h) (Or.inr ⟨by rfl, rfl⟩) (by assumption) ?_) | fail); simp only [Act.put, sA, sB, sC, Bool.not_true, Bool.not_false, beq_self_eq_true]
    (first | (refine wpAnyH_take (i := 4) (v := _) (by simp only [gA, gB, gC]; rfl) (by kernel_rfl) (by kernel_rfl) (by kernel_rfl) (by exact fun _ _ _ h => h) (yields_row (by rfl) _ rfl _ rfl cs hrow hund rfl hsz) (by assumption) ?_) | (refine wpAnyH_take (i := 4) (v := undef) (by simp only [gA, gB, gC]; rfl) (by kernel_rfl) (by kernel_rfl) (by kernel_rfl) (by exact fun _ _ _ h => h) (Or.inr ⟨by rfl, rfl⟩) (by assumption) ?_) | fail); simp only [Act.put, sA, sB, sC, Bool.not_true, Bool.not_false, beq_self_eq_true]
    (first | (refine wpAnyH_take (i := 6) (v := _) (by simp only [gA, gB, gC]; rfl) (by kernel_rfl) (by kernel_rfl) (by kernel_rfl) (by exact fun _ _ _ h => h) (yields_row (by rfl) _ rfl _ rfl cs hrow hund rfl hsz) (by assumption) ?_) | (refine wpAnyH_take (i := 6) (v := undef) (by simp only [gA, gB, gC]; rfl) (by kernel_rfl) (by kernel_rfl) (by kernel_rfl) (by exact fun _ _ _ h => h) (Or.inr ⟨by rfl, rfl⟩) (by assumption) ?_) | fail); simp only [Act.put, sA, sB, sC, Bool.not_true, Bool.not_false, beq_self_eq_true]
    first | (refine wpAnyH_take (i := 5) (v := undef) (by simp only [gA, gB, gC]; rfl) (by kernel_rfl) (by kernel_rfl) (by kernel_rfl) (by exact fun _ _ _ h => h) (Or.inr ⟨by rfl, rfl⟩) (by assumption) ?_; simp only [Act.put, sA, sB, sC, Bool.not_true, Bool.not_false, beq_self_eq_true]) | (refine wpAnyH_ready (rs := [5]) (by kernel_rfl) (by simp) ?_; refine AllReadyH.cons (by simp only [gA, gB, gC]; rfl) (fun K hK => ?_) AllReadyH.nil; go_simp; (first | (go_at_call 8; refine (kr _ hS2).mono ?_; rintro e w3 ⟨rfl, hb3⟩; have hS3 := hS2.then hb3) | (go_at_call 7; refine (kc _ hS1).mono ?_; rintro e w2 ⟨rfl, hb2⟩; have hS2 := hS1.then hb2) | (go_at_call 6; refine (kf _).mono ?_; rintro e w1 ⟨rfl, hb1⟩; have hS1 := hS0.then hb1)); refine hK.out _ _ (by first | exact hS3 | exact hS2 | exact hS1 | exact hS0) ?_; clear hHeld hK; intro hHeld; (try simp only [Act.put, sA, sB, sC, Bool.not_true, Bool.not_false, beq_self_eq_true])) | fail
    first | (refine wpAnyH_take (i := 7) (v := undef) (by simp only [gA, gB, gC]; rfl) (by kernel_rfl) (by kernel_rfl) (by kernel_rfl) (by exact fun _ _ _ h => h) (Or.inr ⟨by rfl, rfl⟩) (by assumption) ?_; simp only [Act.put, sA, sB, sC, Bool.not_true, Bool.not_false, beq_self_eq_true]) | (refine wpAnyH_ready (rs := [7]) (by kernel_rfl) (by simp) ?_; refine AllReadyH.cons (by simp only [gA, gB, gC]; rfl) (fun K hK => ?_) AllReadyH.nil; go_simp; (first | (go_at_call 8; refine (kr _ hS2).mono ?_; rintro e w3 ⟨rfl, hb3⟩; have hS3 := hS2.then hb3) | (go_at_call 7; refine (kc _ hS1).mono ?_; rintro e w2 ⟨rfl, hb2⟩; have hS2 := hS1.then hb2) | (go_at_call 6; refine (kf _).mono ?_; rintro e w1 ⟨rfl, hb1⟩; have hS1 := hS0.then hb1)); refine hK.out _ _ (by first | exact hS3 | exact hS2 | exact hS1 | exact hS0) ?_; clear hHeld hK; intro hHeld; (try simp only [Act.put, sA, sB, sC, Bool.not_true, Bool.not_false, beq_self_eq_true])) | fail
    (first | (refine wpAnyH_take (i := 8) (v := ?_) (by simp only [gA, gB, gC]; rfl) (by kernel_rfl) (by kernel_rfl) (by kernel_rfl) (by exact fun _ _ _ h => h) (Or.inl ⟨by rfl, ?_⟩) (by assumption) ?_; rotate_left; (focus (intro w hSw; (try dsimp only at hSw); go_simp; try with_reducible rfl))) | (refine wpAnyH_take (i := 8) (v := undef) (by simp only [gA, gB, gC]; rfl) (by kernel_rfl) (by kernel_rfl) (by kernel_rfl) (by exact fun _ _ _ h => h) (Or.inr ⟨by rfl, rfl⟩) (by assumption) ?_) | fail); simp only [Act.put, sA, sB, sC, Bool.not_true, Bool.not_false, beq_self_eq_true]
    (first | (refine wpAnyH_take (i := 9) (v := ?_) (by simp only [gA, gB, gC]; rfl) (by kernel_rfl) (by kernel_rfl) (by kernel_rfl) (by exact fun _ _ _ h => h) (Or.inl ⟨by rfl, ?_⟩) (by assumption) ?_; rotate_left; (focus (intro w hSw; (try dsimp only at hSw); go_simp; try with_reducible rfl))) | (refine wpAnyH_take (i := 9) (v := undef) (by simp only [gA, gB, gC]; rfl) (by kernel_rfl) (by kernel_rfl) (by kernel_rfl) (by exact fun _ _ _ h => h) (Or.inr ⟨by rfl, rfl⟩) (by assumption) ?_) | fail); simp only [Act.put, sA, sB, sC, Bool.not_true, Bool.not_false, beq_self_eq_true]
    (first | (refine wpAnyH_take (i := 10) (v := ?_) (by simp only [gA, gB, gC]; rfl) (by kernel_rfl) (by kernel_rfl) (by kernel_rfl) (by exact fun _ _ _ h => h) (Or.inl ⟨by rfl, ?_⟩) (by assumption) ?_; rotate_left; (focus (intro w hSw; (try dsimp only at hSw); go_simp; try with_reducible rfl))) | (refine wpAnyH_take (i := 10) (v := undef) (by simp only [gA, gB, gC]; rfl) (by kernel_rfl) (by kernel_rfl) (by kernel_rfl) (by exact fun _ _ _ h => h) (Or.inr ⟨by rfl, rfl⟩) (by assumption) ?_) | fail); simp only [Act.put, sA, sB, sC, Bool.not_true, Bool.not_false, beq_self_eq_true]
    refine wpAnyH_done (by kernel_rfl) ?_ _
    go_wp2_with fail
    go_ret
    exact ⟨rfl, hS3.bl⟩
end Go.Proofs.YtkcgfijdndciiaaDoor
