/-
  THE DOCUMENT'S OWN Rule, Send, Release (donjonref18). Written by mk_mailref.py.
-/
import Derived.Test.YtjpabjmicaopcaaMailBase
import Derived.Deep.RegionHeld
namespace Go.Proofs.Ytjpabjmicaopcaa
open Go.RowKit
set_option maxRecDepth 8000
set_option linter.unusedSimpArgs false
set_option linter.unusedVariables false

def foundRu (o : Option MRul) : List Value := (o.getD zeroR).cs
/-- A row of rules, a message and a box of it: what the search reads at a rule. -/
theorem box_alloc2 (w : World) (m : Msg) : BlkL w.heap.size m.cs ((w.alloc (.cells m.cs.toArray 26)).alloc (.cells zR9 29)) ∧ BlkL (w.heap.size + 1) zeroR.cs ((w.alloc (.cells m.cs.toArray 26)).alloc (.cells zR9 29)) ∧ Below w.heap.size w ((w.alloc (.cells m.cs.toArray 26)).alloc (.cells zR9 29)) := by
  have h1 := blkl_alloc w m.cs.toArray 26
  have b1 := alloc_below w (.cells m.cs.toArray 26)
  have h2 := blkl_alloc (w.alloc (.cells m.cs.toArray 26)) zR9 29
  have b2 := alloc_below (w.alloc (.cells m.cs.toArray 26)) (.cells zR9 29)
  rw [World.size_alloc] at h2
  exact ⟨stab_blk _ _ _ _ h1 b2, h2, Below.then b1 b2⟩
set_option maxRecDepth 8000 in
set_option maxHeartbeats 4000000 in
theorem rrule_any (a : Option Addr) (cap : Nat) (l : List MRul) (m : Msg) (hl : l.length ≤ 1000000) (w : World) (h : RowAt 9 MRul.cs w a l) :
    Calls Try.prog 15 #[.slice a l.length cap, .agg m.cs.toArray] w fun e w' => e = .returned (.tuple #[.agg (foundRu (ruleF l m)).toArray, .bool (ruleF l m).isSome]) ∧ Below w.heap.size w w' := by
  have hundL := Try.underlying24
  have hund := Try.underlying29
  have hszL : ∀ t : Lab, (Try.prog.info? 24).map (·.size) = some (lab4 t).length := fun t => by show _ = some 4; kernel_rfl
  have hsz9 : (Try.prog.info? 29).map (·.size) = some 9 := by kernel_rfl
  obtain ⟨fr, hfr⟩ : ∃ fr, ruleF l m = fr := ⟨_, rfl⟩
  rw [hfr]
  have hfr0 : Aside ((l.drop 0).find? (ruleP m) = fr) := by rw [← hfr]; exact rfl
  clear hfr
  obtain ⟨n, hn⟩ : ∃ n, l.length = n := ⟨_, rfl⟩
  rw [hn] at hl ⊢
  replace hn : Aside (l.length = n) := hn
  obtain ⟨hm0, hr0, hB0⟩ := box_alloc2 w m
  obtain ⟨M, hM⟩ : ∃ M, m.cs = M := ⟨_, rfl⟩
  have hcl : CellsAt ((w.alloc (.cells m.cs.toArray 26)).alloc (.cells zR9 29)) ⟨w.heap.size, 1, none⟩ (lab4 m.lab) := cells_blk hm0 1 (ms_lab m)
  have hcb : CellsAt ((w.alloc (.cells m.cs.toArray 26)).alloc (.cells zR9 29)) ⟨w.heap.size, 6, none⟩ (lab4 m.box) := cells_blk hm0 6 (ms_box m)
  rw [hM] at hm0 hr0 hB0 hcl hcb ⊢
  clear hM hm0
  go_enter Try.func15, Try.ntmps15
  go_wp2_with fail
  have hrow := h.below mr_len hB0
  generalize (w.alloc (.cells M.toArray 26)).alloc (.cells zR9 29) = W0 at *
  (try simp only [World.size_alloc])
  go_loopw [6] (fun t6 wr => ∃ i : Nat, i ≤ n ∧ t6 = .int .i64 (i : Int) ∧ Aside ((l.drop i).find? (ruleP m) = fr) ∧ Below W0.heap.size W0 wr) (fun t6 _ => n - (Go.RowKit.intOf t6).toNat)
  case atStart => exact ⟨0, by omega, rfl, hfr0, Below.refl _ _⟩
  case round =>
  clear hfr0
  obtain ⟨i, hi, rfl, hf, hB⟩ := hrel
  have hr1 : BlkL (w.heap.size + 1) zeroR.cs wr := stab_blk _ _ _ _ hr0 hB
  have hBw := Below.then hB0 hB
  by_cases hlt : i < n
  · obtain ⟨x, hx⟩ : ∃ x, l[i]? = some x := ⟨_, List.getElem?_eq_getElem (by rw [hn.out]; exact hlt)⟩
    obtain ⟨y, rfl, -⟩ := hrow i x hx
    have hw := (hrow.below mr_len hB).at mr_len hx
    rw [rule_drop hx] at hf
    have i1 : (i : Int) < (n : Int) := by omega
    go_upto_region 4 with fail
    obtain ⟨Z, hZ⟩ : ∃ Z, wr = Z := ⟨_, rfl⟩
    rw [hZ] at hw hr1 hBw hB ⊢
    clear hZ
    have hcl4 := CellsAt.below hcl hB
    have hcb4 := CellsAt.below hcb hB
    have hxs := cells_src hw
    have hxd := cells_sub hw 4 (by decide) (mr_dst x)
    have e1 := lab_eqlM x.src m.lab
    have e2 := lab_eqlM x.dst m.box
    have hS0 : Below Z.heap.size Z Z.drew := (Below.refl _ _).drew
    have hBz := Below.then hBw hS0
    have hBr := Below.then hB hS0
    have hwz := CellsAt.below hw hS0
    have hrz := stab_blk _ _ _ _ hr1 hS0
    cases h1 : labEq x.src m.lab
    · rw [h1] at e1
      rw [show ruleP m x = false by unfold ruleP; rw [h1]; rfl] at hf
      clear hwz hrz hw hr1
      refine wp_region_held_drew (S := (fun W => Below Z.heap.size Z W)) (by kernel_rfl) (by exact hS0) ?_
      intro hHeld
      generalize Z.drew = w0 at *
      refine wpAnyH_take (i := 0) (v := ?_) (by simp only [List.getElem?_toArray, List.getElem?_cons_zero, List.getElem?_cons_succ]; rfl) (by kernel_rfl) (by kernel_rfl) (by kernel_rfl) (by exact fun _ _ _ h => h) (Or.inl ⟨by rfl, ?_⟩) (by assumption) ?_; rotate_left; (focus (intro w hSw; (try dsimp only at hSw); go_simp; try with_reducible rfl)); (try simp only [Act.put, List.setIfInBounds_toArray, List.set_cons_zero, List.set_cons_succ])
      refine wpAnyH_take (i := 1) (v := ?_) (by simp only [List.getElem?_toArray, List.getElem?_cons_zero, List.getElem?_cons_succ]; rfl) (by kernel_rfl) (by kernel_rfl) (by kernel_rfl) (by exact fun _ _ _ h => h) (Or.inl ⟨by rfl, ?_⟩) (by assumption) ?_; rotate_left; (focus (intro w hSw; (try dsimp only at hSw); go_simp; try with_reducible rfl)); (try simp only [Act.put, List.setIfInBounds_toArray, List.set_cons_zero, List.set_cons_succ])
      refine wpAnyH_take (i := 2) (v := ?_) (by simp only [List.getElem?_toArray, List.getElem?_cons_zero, List.getElem?_cons_succ]; rfl) (by kernel_rfl) (by kernel_rfl) (by kernel_rfl) (by exact fun _ _ _ h => h) (Or.inl ⟨by rfl, ?_⟩) (by assumption) ?_; rotate_left; (focus (intro w hSw; (try dsimp only at hSw); go_simp; try with_reducible rfl)); (try simp only [Act.put, List.setIfInBounds_toArray, List.set_cons_zero, List.set_cons_succ])
      refine wpAnyH_take (i := 3) (v := ?_) (by simp only [List.getElem?_toArray, List.getElem?_cons_zero, List.getElem?_cons_succ]; rfl) (by kernel_rfl) (by kernel_rfl) (by kernel_rfl) (by exact fun _ _ _ h => h) (Or.inl ⟨by rfl, ?_⟩) (by assumption) ?_; rotate_left; (focus (intro w hSw; (try dsimp only at hSw); go_simp; try with_reducible rfl)); (try simp only [Act.put, List.setIfInBounds_toArray, List.set_cons_zero, List.set_cons_succ])
      refine wpAnyH_take (i := 4) (v := _) (by simp only [List.getElem?_toArray, List.getElem?_cons_zero, List.getElem?_cons_succ]; rfl) (by kernel_rfl) (by kernel_rfl) (by kernel_rfl) (by exact fun _ _ _ h => h) (yields_at (by rfl) _ rfl (y.add (i * 9)) rfl (lab4 x.src) (fun _ q => CellsAt.below hxs q) hundL rfl (hszL x.src)) (by assumption) ?_; (try simp only [Act.put, List.setIfInBounds_toArray, List.set_cons_zero, List.set_cons_succ])
      refine wpAnyH_take (i := 5) (v := ?_) (by simp only [List.getElem?_toArray, List.getElem?_cons_zero, List.getElem?_cons_succ]; rfl) (by kernel_rfl) (by kernel_rfl) (by kernel_rfl) (by exact fun _ _ _ h => h) (Or.inl ⟨by rfl, ?_⟩) (by assumption) ?_; rotate_left; (focus (intro w hSw; (try dsimp only at hSw); go_simp; try with_reducible rfl)); (try simp only [Act.put, List.setIfInBounds_toArray, List.set_cons_zero, List.set_cons_succ])
      refine wpAnyH_take (i := 6) (v := _) (by simp only [List.getElem?_toArray, List.getElem?_cons_zero, List.getElem?_cons_succ]; rfl) (by kernel_rfl) (by kernel_rfl) (by kernel_rfl) (by exact fun _ _ _ h => h) (yields_at (by rfl) _ rfl ⟨w.heap.size, 1, none⟩ rfl (lab4 m.lab) (fun _ q => CellsAt.below hcl4 q) hundL rfl (hszL m.lab)) (by assumption) ?_; (try simp only [Act.put, List.setIfInBounds_toArray, List.set_cons_zero, List.set_cons_succ])
      refine wpAnyH_take (i := 7) (v := ?_) (by simp only [List.getElem?_toArray, List.getElem?_cons_zero, List.getElem?_cons_succ]; rfl) (by kernel_rfl) (by kernel_rfl) (by kernel_rfl) (by exact fun _ _ _ h => h) (Or.inl ⟨by rfl, ?_⟩) (by assumption) ?_; rotate_left; (focus (intro w hSw; (try dsimp only at hSw); go_simp; try with_reducible rfl)); (try simp only [Act.put, List.setIfInBounds_toArray, List.set_cons_zero, List.set_cons_succ])
      refine wpAnyH_take (i := 8) (v := ?_) (by simp only [List.getElem?_toArray, List.getElem?_cons_zero, List.getElem?_cons_succ]; rfl) (by kernel_rfl) (by kernel_rfl) (by kernel_rfl) (by exact fun _ _ _ h => h) (Or.inl ⟨by rfl, ?_⟩) (by assumption) ?_; rotate_left; (focus (intro w hSw; (try dsimp only at hSw); go_simp; try with_reducible rfl)); (try simp only [Act.put, List.setIfInBounds_toArray, List.set_cons_zero, List.set_cons_succ])
      refine wpAnyH_take (i := 9) (v := undef) (by simp only [List.getElem?_toArray, List.getElem?_cons_zero, List.getElem?_cons_succ]; rfl) (by kernel_rfl) (by kernel_rfl) (by kernel_rfl) (by exact fun _ _ _ h => h) (Or.inr ⟨by rfl, rfl⟩) (by assumption) ?_; (try simp only [Act.put, List.setIfInBounds_toArray, List.set_cons_zero, List.set_cons_succ])
      refine wpAnyH_take (i := 10) (v := undef) (by simp only [List.getElem?_toArray, List.getElem?_cons_zero, List.getElem?_cons_succ]; rfl) (by kernel_rfl) (by kernel_rfl) (by kernel_rfl) (by exact fun _ _ _ h => h) (Or.inr ⟨by rfl, rfl⟩) (by assumption) ?_; (try simp only [Act.put, List.setIfInBounds_toArray, List.set_cons_zero, List.set_cons_succ])
      refine wpAnyH_take (i := 11) (v := undef) (by simp only [List.getElem?_toArray, List.getElem?_cons_zero, List.getElem?_cons_succ]; rfl) (by kernel_rfl) (by kernel_rfl) (by kernel_rfl) (by exact fun _ _ _ h => h) (Or.inr ⟨by rfl, rfl⟩) (by assumption) ?_; (try simp only [Act.put, List.setIfInBounds_toArray, List.set_cons_zero, List.set_cons_succ])
      refine wpAnyH_take (i := 12) (v := undef) (by simp only [List.getElem?_toArray, List.getElem?_cons_zero, List.getElem?_cons_succ]; rfl) (by kernel_rfl) (by kernel_rfl) (by kernel_rfl) (by exact fun _ _ _ h => h) (Or.inr ⟨by rfl, rfl⟩) (by assumption) ?_; (try simp only [Act.put, List.setIfInBounds_toArray, List.set_cons_zero, List.set_cons_succ])
      refine wpAnyH_take (i := 13) (v := undef) (by simp only [List.getElem?_toArray, List.getElem?_cons_zero, List.getElem?_cons_succ]; rfl) (by kernel_rfl) (by kernel_rfl) (by kernel_rfl) (by exact fun _ _ _ h => h) (Or.inr ⟨by rfl, rfl⟩) (by assumption) ?_; (try simp only [Act.put, List.setIfInBounds_toArray, List.set_cons_zero, List.set_cons_succ])
      refine wpAnyH_take (i := 14) (v := undef) (by simp only [List.getElem?_toArray, List.getElem?_cons_zero, List.getElem?_cons_succ]; rfl) (by kernel_rfl) (by kernel_rfl) (by kernel_rfl) (by exact fun _ _ _ h => h) (Or.inr ⟨by rfl, rfl⟩) (by assumption) ?_; (try simp only [Act.put, List.setIfInBounds_toArray, List.set_cons_zero, List.set_cons_succ])
      refine wpAnyH_take (i := 15) (v := undef) (by simp only [List.getElem?_toArray, List.getElem?_cons_zero, List.getElem?_cons_succ]; rfl) (by kernel_rfl) (by kernel_rfl) (by kernel_rfl) (by exact fun _ _ _ h => h) (Or.inr ⟨by rfl, rfl⟩) (by assumption) ?_; (try simp only [Act.put, List.setIfInBounds_toArray, List.set_cons_zero, List.set_cons_succ])
      refine wpAnyH_take (i := 16) (v := undef) (by simp only [List.getElem?_toArray, List.getElem?_cons_zero, List.getElem?_cons_succ]; rfl) (by kernel_rfl) (by kernel_rfl) (by kernel_rfl) (by exact fun _ _ _ h => h) (Or.inr ⟨by rfl, rfl⟩) (by assumption) ?_; (try simp only [Act.put, List.setIfInBounds_toArray, List.set_cons_zero, List.set_cons_succ])
      refine wpAnyH_take (i := 17) (v := ?_) (by simp only [List.getElem?_toArray, List.getElem?_cons_zero, List.getElem?_cons_succ]; rfl) (by kernel_rfl) (by kernel_rfl) (by kernel_rfl) (by exact fun _ _ _ h => h) (Or.inl ⟨by rfl, ?_⟩) (by assumption) ?_; rotate_left; (focus (intro w hSw; (try dsimp only at hSw); go_simp; try with_reducible rfl)); (try simp only [Act.put, List.setIfInBounds_toArray, List.set_cons_zero, List.set_cons_succ])
      refine wpAnyH_done (by kernel_rfl) ?_ _
      go_wp2_with fail
      exact ⟨⟨i + 1, by omega, by simp, hf, hBr⟩, by simp [Go.RowKit.intOf]; omega⟩
    rw [h1] at e1
    cases h2 : labEq x.dst m.box
    · rw [h2] at e2
      rw [show ruleP m x = false by unfold ruleP; rw [h1, h2]; rfl] at hf
      clear hwz hrz hw hr1
      refine wp_region_held_drew (S := (fun W => Below Z.heap.size Z W)) (by kernel_rfl) (by exact hS0) ?_
      intro hHeld
      generalize Z.drew = w0 at *
      refine wpAnyH_take (i := 0) (v := ?_) (by simp only [List.getElem?_toArray, List.getElem?_cons_zero, List.getElem?_cons_succ]; rfl) (by kernel_rfl) (by kernel_rfl) (by kernel_rfl) (by exact fun _ _ _ h => h) (Or.inl ⟨by rfl, ?_⟩) (by assumption) ?_; rotate_left; (focus (intro w hSw; (try dsimp only at hSw); go_simp; try with_reducible rfl)); (try simp only [Act.put, List.setIfInBounds_toArray, List.set_cons_zero, List.set_cons_succ])
      refine wpAnyH_take (i := 1) (v := ?_) (by simp only [List.getElem?_toArray, List.getElem?_cons_zero, List.getElem?_cons_succ]; rfl) (by kernel_rfl) (by kernel_rfl) (by kernel_rfl) (by exact fun _ _ _ h => h) (Or.inl ⟨by rfl, ?_⟩) (by assumption) ?_; rotate_left; (focus (intro w hSw; (try dsimp only at hSw); go_simp; try with_reducible rfl)); (try simp only [Act.put, List.setIfInBounds_toArray, List.set_cons_zero, List.set_cons_succ])
      refine wpAnyH_take (i := 2) (v := ?_) (by simp only [List.getElem?_toArray, List.getElem?_cons_zero, List.getElem?_cons_succ]; rfl) (by kernel_rfl) (by kernel_rfl) (by kernel_rfl) (by exact fun _ _ _ h => h) (Or.inl ⟨by rfl, ?_⟩) (by assumption) ?_; rotate_left; (focus (intro w hSw; (try dsimp only at hSw); go_simp; try with_reducible rfl)); (try simp only [Act.put, List.setIfInBounds_toArray, List.set_cons_zero, List.set_cons_succ])
      refine wpAnyH_take (i := 3) (v := ?_) (by simp only [List.getElem?_toArray, List.getElem?_cons_zero, List.getElem?_cons_succ]; rfl) (by kernel_rfl) (by kernel_rfl) (by kernel_rfl) (by exact fun _ _ _ h => h) (Or.inl ⟨by rfl, ?_⟩) (by assumption) ?_; rotate_left; (focus (intro w hSw; (try dsimp only at hSw); go_simp; try with_reducible rfl)); (try simp only [Act.put, List.setIfInBounds_toArray, List.set_cons_zero, List.set_cons_succ])
      refine wpAnyH_take (i := 4) (v := _) (by simp only [List.getElem?_toArray, List.getElem?_cons_zero, List.getElem?_cons_succ]; rfl) (by kernel_rfl) (by kernel_rfl) (by kernel_rfl) (by exact fun _ _ _ h => h) (yields_at (by rfl) _ rfl (y.add (i * 9)) rfl (lab4 x.src) (fun _ q => CellsAt.below hxs q) hundL rfl (hszL x.src)) (by assumption) ?_; (try simp only [Act.put, List.setIfInBounds_toArray, List.set_cons_zero, List.set_cons_succ])
      refine wpAnyH_take (i := 5) (v := ?_) (by simp only [List.getElem?_toArray, List.getElem?_cons_zero, List.getElem?_cons_succ]; rfl) (by kernel_rfl) (by kernel_rfl) (by kernel_rfl) (by exact fun _ _ _ h => h) (Or.inl ⟨by rfl, ?_⟩) (by assumption) ?_; rotate_left; (focus (intro w hSw; (try dsimp only at hSw); go_simp; try with_reducible rfl)); (try simp only [Act.put, List.setIfInBounds_toArray, List.set_cons_zero, List.set_cons_succ])
      refine wpAnyH_take (i := 6) (v := _) (by simp only [List.getElem?_toArray, List.getElem?_cons_zero, List.getElem?_cons_succ]; rfl) (by kernel_rfl) (by kernel_rfl) (by kernel_rfl) (by exact fun _ _ _ h => h) (yields_at (by rfl) _ rfl ⟨w.heap.size, 1, none⟩ rfl (lab4 m.lab) (fun _ q => CellsAt.below hcl4 q) hundL rfl (hszL m.lab)) (by assumption) ?_; (try simp only [Act.put, List.setIfInBounds_toArray, List.set_cons_zero, List.set_cons_succ])
      refine wpAnyH_take (i := 7) (v := ?_) (by simp only [List.getElem?_toArray, List.getElem?_cons_zero, List.getElem?_cons_succ]; rfl) (by kernel_rfl) (by kernel_rfl) (by kernel_rfl) (by exact fun _ _ _ h => h) (Or.inl ⟨by rfl, ?_⟩) (by assumption) ?_; rotate_left; (focus (intro w hSw; (try dsimp only at hSw); go_simp; try with_reducible rfl)); (try simp only [Act.put, List.setIfInBounds_toArray, List.set_cons_zero, List.set_cons_succ])
      refine wpAnyH_take (i := 8) (v := ?_) (by simp only [List.getElem?_toArray, List.getElem?_cons_zero, List.getElem?_cons_succ]; rfl) (by kernel_rfl) (by kernel_rfl) (by kernel_rfl) (by exact fun _ _ _ h => h) (Or.inl ⟨by rfl, ?_⟩) (by assumption) ?_; rotate_left; (focus (intro w hSw; (try dsimp only at hSw); go_simp; try with_reducible rfl)); (try simp only [Act.put, List.setIfInBounds_toArray, List.set_cons_zero, List.set_cons_succ])
      refine wpAnyH_take (i := 9) (v := ?_) (by simp only [List.getElem?_toArray, List.getElem?_cons_zero, List.getElem?_cons_succ]; rfl) (by kernel_rfl) (by kernel_rfl) (by kernel_rfl) (by exact fun _ _ _ h => h) (Or.inl ⟨by rfl, ?_⟩) (by assumption) ?_; rotate_left; (focus (intro w hSw; (try dsimp only at hSw); go_simp; try with_reducible rfl)); (try simp only [Act.put, List.setIfInBounds_toArray, List.set_cons_zero, List.set_cons_succ])
      refine wpAnyH_take (i := 10) (v := ?_) (by simp only [List.getElem?_toArray, List.getElem?_cons_zero, List.getElem?_cons_succ]; rfl) (by kernel_rfl) (by kernel_rfl) (by kernel_rfl) (by exact fun _ _ _ h => h) (Or.inl ⟨by rfl, ?_⟩) (by assumption) ?_; rotate_left; (focus (intro w hSw; (try dsimp only at hSw); go_simp; try with_reducible rfl)); (try simp only [Act.put, List.setIfInBounds_toArray, List.set_cons_zero, List.set_cons_succ])
      refine wpAnyH_take (i := 11) (v := ?_) (by simp only [List.getElem?_toArray, List.getElem?_cons_zero, List.getElem?_cons_succ]; rfl) (by kernel_rfl) (by kernel_rfl) (by kernel_rfl) (by exact fun _ _ _ h => h) (Or.inl ⟨by rfl, ?_⟩) (by assumption) ?_; rotate_left; (focus (intro w hSw; (try dsimp only at hSw); go_simp; try with_reducible rfl)); (try simp only [Act.put, List.setIfInBounds_toArray, List.set_cons_zero, List.set_cons_succ])
      refine wpAnyH_take (i := 12) (v := ?_) (by simp only [List.getElem?_toArray, List.getElem?_cons_zero, List.getElem?_cons_succ]; rfl) (by kernel_rfl) (by kernel_rfl) (by kernel_rfl) (by exact fun _ _ _ h => h) (Or.inl ⟨by rfl, ?_⟩) (by assumption) ?_; rotate_left; (focus (intro w hSw; (try dsimp only at hSw); go_simp; try with_reducible rfl)); (try simp only [Act.put, List.setIfInBounds_toArray, List.set_cons_zero, List.set_cons_succ])
      refine wpAnyH_take (i := 13) (v := _) (by simp only [List.getElem?_toArray, List.getElem?_cons_zero, List.getElem?_cons_succ]; rfl) (by kernel_rfl) (by kernel_rfl) (by kernel_rfl) (by exact fun _ _ _ h => h) (yields_at (by rfl) _ rfl ⟨(y.add (i * 9)).block, (y.add (i * 9)).off + 4, none⟩ rfl (lab4 x.dst) (fun _ q => CellsAt.below hxd q) hundL rfl (hszL x.dst)) (by assumption) ?_; (try simp only [Act.put, List.setIfInBounds_toArray, List.set_cons_zero, List.set_cons_succ])
      refine wpAnyH_take (i := 14) (v := ?_) (by simp only [List.getElem?_toArray, List.getElem?_cons_zero, List.getElem?_cons_succ]; rfl) (by kernel_rfl) (by kernel_rfl) (by kernel_rfl) (by exact fun _ _ _ h => h) (Or.inl ⟨by rfl, ?_⟩) (by assumption) ?_; rotate_left; (focus (intro w hSw; (try dsimp only at hSw); go_simp; try with_reducible rfl)); (try simp only [Act.put, List.setIfInBounds_toArray, List.set_cons_zero, List.set_cons_succ])
      refine wpAnyH_take (i := 15) (v := _) (by simp only [List.getElem?_toArray, List.getElem?_cons_zero, List.getElem?_cons_succ]; rfl) (by kernel_rfl) (by kernel_rfl) (by kernel_rfl) (by exact fun _ _ _ h => h) (yields_at (by rfl) _ rfl ⟨w.heap.size, 6, none⟩ rfl (lab4 m.box) (fun _ q => CellsAt.below hcb4 q) hundL rfl (hszL m.box)) (by assumption) ?_; (try simp only [Act.put, List.setIfInBounds_toArray, List.set_cons_zero, List.set_cons_succ])
      refine wpAnyH_take (i := 16) (v := ?_) (by simp only [List.getElem?_toArray, List.getElem?_cons_zero, List.getElem?_cons_succ]; rfl) (by kernel_rfl) (by kernel_rfl) (by kernel_rfl) (by exact fun _ _ _ h => h) (Or.inl ⟨by rfl, ?_⟩) (by assumption) ?_; rotate_left; (focus (intro w hSw; (try dsimp only at hSw); go_simp; try with_reducible rfl)); (try simp only [Act.put, List.setIfInBounds_toArray, List.set_cons_zero, List.set_cons_succ])
      refine wpAnyH_take (i := 17) (v := ?_) (by simp only [List.getElem?_toArray, List.getElem?_cons_zero, List.getElem?_cons_succ]; rfl) (by kernel_rfl) (by kernel_rfl) (by kernel_rfl) (by exact fun _ _ _ h => h) (Or.inl ⟨by rfl, ?_⟩) (by assumption) ?_; rotate_left; (focus (intro w hSw; (try dsimp only at hSw); go_simp; try with_reducible rfl)); (try simp only [Act.put, List.setIfInBounds_toArray, List.set_cons_zero, List.set_cons_succ])
      refine wpAnyH_done (by kernel_rfl) ?_ _
      go_wp2_with fail
      exact ⟨⟨i + 1, by omega, by simp, hf, hBr⟩, by simp [Go.RowKit.intOf]; omega⟩
    · rw [h2] at e2
      rw [show ruleP m x = true by unfold ruleP; rw [h1, h2]; rfl] at hf
      obtain rfl := hf.out
      clear hw hr1
      refine wp_region_held_drew (S := (fun W => Below Z.heap.size Z W)) (by kernel_rfl) (by exact hS0) ?_
      intro hHeld
      generalize Z.drew = w0 at *
      refine wpAnyH_take (i := 0) (v := ?_) (by simp only [List.getElem?_toArray, List.getElem?_cons_zero, List.getElem?_cons_succ]; rfl) (by kernel_rfl) (by kernel_rfl) (by kernel_rfl) (by exact fun _ _ _ h => h) (Or.inl ⟨by rfl, ?_⟩) (by assumption) ?_; rotate_left; (focus (intro w hSw; (try dsimp only at hSw); go_simp; try with_reducible rfl)); (try simp only [Act.put, List.setIfInBounds_toArray, List.set_cons_zero, List.set_cons_succ])
      refine wpAnyH_take (i := 1) (v := ?_) (by simp only [List.getElem?_toArray, List.getElem?_cons_zero, List.getElem?_cons_succ]; rfl) (by kernel_rfl) (by kernel_rfl) (by kernel_rfl) (by exact fun _ _ _ h => h) (Or.inl ⟨by rfl, ?_⟩) (by assumption) ?_; rotate_left; (focus (intro w hSw; (try dsimp only at hSw); go_simp; try with_reducible rfl)); (try simp only [Act.put, List.setIfInBounds_toArray, List.set_cons_zero, List.set_cons_succ])
      refine wpAnyH_take (i := 2) (v := ?_) (by simp only [List.getElem?_toArray, List.getElem?_cons_zero, List.getElem?_cons_succ]; rfl) (by kernel_rfl) (by kernel_rfl) (by kernel_rfl) (by exact fun _ _ _ h => h) (Or.inl ⟨by rfl, ?_⟩) (by assumption) ?_; rotate_left; (focus (intro w hSw; (try dsimp only at hSw); go_simp; try with_reducible rfl)); (try simp only [Act.put, List.setIfInBounds_toArray, List.set_cons_zero, List.set_cons_succ])
      refine wpAnyH_take (i := 3) (v := ?_) (by simp only [List.getElem?_toArray, List.getElem?_cons_zero, List.getElem?_cons_succ]; rfl) (by kernel_rfl) (by kernel_rfl) (by kernel_rfl) (by exact fun _ _ _ h => h) (Or.inl ⟨by rfl, ?_⟩) (by assumption) ?_; rotate_left; (focus (intro w hSw; (try dsimp only at hSw); go_simp; try with_reducible rfl)); (try simp only [Act.put, List.setIfInBounds_toArray, List.set_cons_zero, List.set_cons_succ])
      refine wpAnyH_take (i := 4) (v := _) (by simp only [List.getElem?_toArray, List.getElem?_cons_zero, List.getElem?_cons_succ]; rfl) (by kernel_rfl) (by kernel_rfl) (by kernel_rfl) (by exact fun _ _ _ h => h) (yields_at (by rfl) _ rfl (y.add (i * 9)) rfl (lab4 x.src) (fun _ q => CellsAt.below hxs q) hundL rfl (hszL x.src)) (by assumption) ?_; (try simp only [Act.put, List.setIfInBounds_toArray, List.set_cons_zero, List.set_cons_succ])
      refine wpAnyH_take (i := 5) (v := ?_) (by simp only [List.getElem?_toArray, List.getElem?_cons_zero, List.getElem?_cons_succ]; rfl) (by kernel_rfl) (by kernel_rfl) (by kernel_rfl) (by exact fun _ _ _ h => h) (Or.inl ⟨by rfl, ?_⟩) (by assumption) ?_; rotate_left; (focus (intro w hSw; (try dsimp only at hSw); go_simp; try with_reducible rfl)); (try simp only [Act.put, List.setIfInBounds_toArray, List.set_cons_zero, List.set_cons_succ])
      refine wpAnyH_take (i := 6) (v := _) (by simp only [List.getElem?_toArray, List.getElem?_cons_zero, List.getElem?_cons_succ]; rfl) (by kernel_rfl) (by kernel_rfl) (by kernel_rfl) (by exact fun _ _ _ h => h) (yields_at (by rfl) _ rfl ⟨w.heap.size, 1, none⟩ rfl (lab4 m.lab) (fun _ q => CellsAt.below hcl4 q) hundL rfl (hszL m.lab)) (by assumption) ?_; (try simp only [Act.put, List.setIfInBounds_toArray, List.set_cons_zero, List.set_cons_succ])
      refine wpAnyH_take (i := 7) (v := ?_) (by simp only [List.getElem?_toArray, List.getElem?_cons_zero, List.getElem?_cons_succ]; rfl) (by kernel_rfl) (by kernel_rfl) (by kernel_rfl) (by exact fun _ _ _ h => h) (Or.inl ⟨by rfl, ?_⟩) (by assumption) ?_; rotate_left; (focus (intro w hSw; (try dsimp only at hSw); go_simp; try with_reducible rfl)); (try simp only [Act.put, List.setIfInBounds_toArray, List.set_cons_zero, List.set_cons_succ])
      refine wpAnyH_take (i := 8) (v := ?_) (by simp only [List.getElem?_toArray, List.getElem?_cons_zero, List.getElem?_cons_succ]; rfl) (by kernel_rfl) (by kernel_rfl) (by kernel_rfl) (by exact fun _ _ _ h => h) (Or.inl ⟨by rfl, ?_⟩) (by assumption) ?_; rotate_left; (focus (intro w hSw; (try dsimp only at hSw); go_simp; try with_reducible rfl)); (try simp only [Act.put, List.setIfInBounds_toArray, List.set_cons_zero, List.set_cons_succ])
      refine wpAnyH_take (i := 9) (v := ?_) (by simp only [List.getElem?_toArray, List.getElem?_cons_zero, List.getElem?_cons_succ]; rfl) (by kernel_rfl) (by kernel_rfl) (by kernel_rfl) (by exact fun _ _ _ h => h) (Or.inl ⟨by rfl, ?_⟩) (by assumption) ?_; rotate_left; (focus (intro w hSw; (try dsimp only at hSw); go_simp; try with_reducible rfl)); (try simp only [Act.put, List.setIfInBounds_toArray, List.set_cons_zero, List.set_cons_succ])
      refine wpAnyH_take (i := 10) (v := ?_) (by simp only [List.getElem?_toArray, List.getElem?_cons_zero, List.getElem?_cons_succ]; rfl) (by kernel_rfl) (by kernel_rfl) (by kernel_rfl) (by exact fun _ _ _ h => h) (Or.inl ⟨by rfl, ?_⟩) (by assumption) ?_; rotate_left; (focus (intro w hSw; (try dsimp only at hSw); go_simp; try with_reducible rfl)); (try simp only [Act.put, List.setIfInBounds_toArray, List.set_cons_zero, List.set_cons_succ])
      refine wpAnyH_take (i := 11) (v := ?_) (by simp only [List.getElem?_toArray, List.getElem?_cons_zero, List.getElem?_cons_succ]; rfl) (by kernel_rfl) (by kernel_rfl) (by kernel_rfl) (by exact fun _ _ _ h => h) (Or.inl ⟨by rfl, ?_⟩) (by assumption) ?_; rotate_left; (focus (intro w hSw; (try dsimp only at hSw); go_simp; try with_reducible rfl)); (try simp only [Act.put, List.setIfInBounds_toArray, List.set_cons_zero, List.set_cons_succ])
      refine wpAnyH_take (i := 12) (v := ?_) (by simp only [List.getElem?_toArray, List.getElem?_cons_zero, List.getElem?_cons_succ]; rfl) (by kernel_rfl) (by kernel_rfl) (by kernel_rfl) (by exact fun _ _ _ h => h) (Or.inl ⟨by rfl, ?_⟩) (by assumption) ?_; rotate_left; (focus (intro w hSw; (try dsimp only at hSw); go_simp; try with_reducible rfl)); (try simp only [Act.put, List.setIfInBounds_toArray, List.set_cons_zero, List.set_cons_succ])
      refine wpAnyH_take (i := 13) (v := _) (by simp only [List.getElem?_toArray, List.getElem?_cons_zero, List.getElem?_cons_succ]; rfl) (by kernel_rfl) (by kernel_rfl) (by kernel_rfl) (by exact fun _ _ _ h => h) (yields_at (by rfl) _ rfl ⟨(y.add (i * 9)).block, (y.add (i * 9)).off + 4, none⟩ rfl (lab4 x.dst) (fun _ q => CellsAt.below hxd q) hundL rfl (hszL x.dst)) (by assumption) ?_; (try simp only [Act.put, List.setIfInBounds_toArray, List.set_cons_zero, List.set_cons_succ])
      refine wpAnyH_take (i := 14) (v := ?_) (by simp only [List.getElem?_toArray, List.getElem?_cons_zero, List.getElem?_cons_succ]; rfl) (by kernel_rfl) (by kernel_rfl) (by kernel_rfl) (by exact fun _ _ _ h => h) (Or.inl ⟨by rfl, ?_⟩) (by assumption) ?_; rotate_left; (focus (intro w hSw; (try dsimp only at hSw); go_simp; try with_reducible rfl)); (try simp only [Act.put, List.setIfInBounds_toArray, List.set_cons_zero, List.set_cons_succ])
      refine wpAnyH_take (i := 15) (v := _) (by simp only [List.getElem?_toArray, List.getElem?_cons_zero, List.getElem?_cons_succ]; rfl) (by kernel_rfl) (by kernel_rfl) (by kernel_rfl) (by exact fun _ _ _ h => h) (yields_at (by rfl) _ rfl ⟨w.heap.size, 6, none⟩ rfl (lab4 m.box) (fun _ q => CellsAt.below hcb4 q) hundL rfl (hszL m.box)) (by assumption) ?_; (try simp only [Act.put, List.setIfInBounds_toArray, List.set_cons_zero, List.set_cons_succ])
      refine wpAnyH_take (i := 16) (v := ?_) (by simp only [List.getElem?_toArray, List.getElem?_cons_zero, List.getElem?_cons_succ]; rfl) (by kernel_rfl) (by kernel_rfl) (by kernel_rfl) (by exact fun _ _ _ h => h) (Or.inl ⟨by rfl, ?_⟩) (by assumption) ?_; rotate_left; (focus (intro w hSw; (try dsimp only at hSw); go_simp; try with_reducible rfl)); (try simp only [Act.put, List.setIfInBounds_toArray, List.set_cons_zero, List.set_cons_succ])
      refine wpAnyH_take (i := 17) (v := ?_) (by simp only [List.getElem?_toArray, List.getElem?_cons_zero, List.getElem?_cons_succ]; rfl) (by kernel_rfl) (by kernel_rfl) (by kernel_rfl) (by exact fun _ _ _ h => h) (Or.inl ⟨by rfl, ?_⟩) (by assumption) ?_; rotate_left; (focus (intro w hSw; (try dsimp only at hSw); go_simp; try with_reducible rfl)); (try simp only [Act.put, List.setIfInBounds_toArray, List.set_cons_zero, List.set_cons_succ])
      refine wpAnyH_done (by kernel_rfl) ?_ _
      obtain ⟨xs, hxe⟩ : ∃ xs, x.cs = xs := ⟨_, rfl⟩
      have hlx : xs.length = 9 := by rw [← hxe]; rfl
      have hone : ∀ v ∈ xs, v.oneCell' = true := by rw [← hxe]; exact mr_one x
      rw [hxe] at hwz
      have hszx : (Try.prog.info? 29).map (·.size) = some xs.length := by rw [hlx]; exact hsz9
      obtain ⟨W5, hW5, hth5, hk5, hb5⟩ := mput_any hrz (ds := xs) (by rw [hlx]; rfl) (by rw [hlx]; decide)
      have hfin := hb5 _ _ (Nat.le_succ _) hBz
      have hkr := hk5.range
      clear hrz hk5 hb5
      go_wp2_with (first | (refine wpList_load_at rfl _ rfl (y.add (i * 9)) rfl xs hwz hund rfl hszx ?_) | (refine wpList_store_row rfl _ _ rfl (w.heap.size + 1) rfl xs rfl hth5 hszx hone hW5 ?_) | fail)
      refine bodyPost_ret (v := .tuple #[.agg xs.toArray, .bool true]) (results_row2 rfl _ _ (w.heap.size + 1) rfl (.bool true) rfl xs hkr hund rfl hszx) rfl ?_
      refine ⟨?_, hfin⟩
      show _ = Ending.returned (.tuple #[.agg x.cs.toArray, .bool true])
      rw [hxe]
  · have i1 : ¬ (i : Int) < (n : Int) := by omega
    have hf' : fr = none := by
      have := hf.out
      rw [List.drop_eq_nil_of_le (by rw [hn.out]; omega)] at this
      exact this.symm
    subst hf'
    obtain ⟨W5, hW5, hth5, hk5, hb5⟩ := mput_any hr1 (ds := zeroR.cs) rfl (by decide)
    have hfin := hb5 _ _ (Nat.le_succ _) hBw
    have hkr := hk5.range
    clear hr1 hk5 hb5
    go_wp2_with (first | (refine wpList_store_row rfl _ _ rfl (w.heap.size + 1) rfl zeroR.cs rfl hth5 hsz9 (mr_one zeroR) hW5 ?_) | fail)
    refine bodyPost_ret (v := .tuple #[.agg zeroR.cs.toArray, .bool false]) (results_row2 rfl _ _ (w.heap.size + 1) rfl (.bool false) rfl zeroR.cs hkr hund rfl hsz9) rfl ?_
    exact ⟨rfl, hfin⟩
/-- What becomes of a message. -/
def sendE (r : List MRul) (m : Msg) : Int × Int := if name m.fr = false then (0, 1) else if name m.rc = false then (0, 1) else if chkL m.lab ≠ 0 then (0, 1) else if chkL m.box ≠ 0 then (0, 1) else if 40 < m.text.size then (0, 5) else if rov m.box m.lab = true then (1, 0) else if (ruleF r m).isSome = false then (0, 19) else (2, 0)
set_option maxRecDepth 8000 in
set_option maxHeartbeats 4000000 in
theorem rsend_any (a : Option Addr) (cap : Nat) (l : List MRul) (m : Msg) (hl : l.length ≤ 1000000) (hs : m.fr.size ≤ 9223372036854775807 ∧ m.rc.size ≤ 9223372036854775807) (w : World) (h : RowAt 9 MRul.cs w a l) :
    Calls Try.prog 13 #[.slice a l.length cap, .agg m.cs.toArray] w fun e w' => e = .returned (.tuple #[.int .i64 (sendE l m).1, .int .i64 (sendE l m).2]) ∧ Below w.heap.size w w' := by
  have hundL := Try.underlying24
  have hundM := Try.underlying26
  have hszL : ∀ t : Lab, (Try.prog.info? 24).map (·.size) = some (lab4 t).length := fun t => by show _ = some 4; kernel_rfl
  have hsz9 : (Try.prog.info? 29).map (·.size) = some 9 := by kernel_rfl
  have hszM : (Try.prog.info? 26).map (·.size) = some m.cs.length := by kernel_rfl
  have kn1 := fun W => rname_any m.fr hs.1 W
  have kn2 := fun W => rname_any m.rc hs.2 W
  have kc1 : ∀ W, Calls Try.prog 29 #[.agg (lab4 m.lab).toArray] W fun e w' => e = .returned (.int .i64 (chkL m.lab)) ∧ Below W.heap.size W w' := fun W => rlcheck_any m.lab W
  have kc2 : ∀ W, Calls Try.prog 29 #[.agg (lab4 m.box).toArray] W fun e w' => e = .returned (.int .i64 (chkL m.box)) ∧ Below W.heap.size W w' := fun W => rlcheck_any m.box W
  have kv : ∀ W, Calls Try.prog 19 #[.agg (lab4 m.box).toArray, .agg (lab4 m.lab).toArray] W fun e w' => e = .returned (.bool (rov m.box m.lab)) ∧ Below W.heap.size W w' := fun W => rlover_any m.box m.lab W
  have kr := fun W h => rrule_any a cap l m hl W h
  have hm0 := blkl_alloc w m.cs.toArray 26
  have hB0 := alloc_below w (.cells m.cs.toArray 26)
  obtain ⟨E, hE⟩ : ∃ E, sendE l m = E := ⟨_, rfl⟩
  rw [hE]
  unfold sendE at hE
  have hlabF := cells_blk hm0 1 (ms_lab m)
  have hboxF := cells_blk hm0 6 (ms_box m)
  have hx0 : m.cs[0]? = some (.string m.fr) := rfl
  have hx5 : m.cs[5]? = some (.string m.rc) := rfl
  have hx10 : m.cs[10]? = some (.string m.text) := rfl
  have hrow := h.below mr_len hB0
  obtain ⟨M, hM⟩ : ∃ M, m.cs = M := ⟨_, rfl⟩
  replace hm0 : BlkL w.heap.size M (w.alloc (.cells M.toArray 26)) := by rw [← hM]; exact hm0
  rw [hM] at hB0 hx0 hx5 hx10 hszM hrow hlabF hboxF ⊢
  simp only [hM] at kr
  clear hM h
  obtain ⟨n, hn⟩ : ∃ n, l.length = n := ⟨_, rfl⟩
  rw [hn] at kr ⊢
  clear hn
  replace hE : Aside (_ = E) := hE
  obtain ⟨b1, hb1⟩ : ∃ b, name m.fr = b := ⟨_, rfl⟩
  obtain ⟨b2, hb2⟩ : ∃ b, name m.rc = b := ⟨_, rfl⟩
  obtain ⟨c1, hc1⟩ : ∃ b, chkL m.lab = b := ⟨_, rfl⟩
  obtain ⟨c2, hc2⟩ : ∃ b, chkL m.box = b := ⟨_, rfl⟩
  simp only [hb1] at kn1
  simp only [hb2] at kn2
  simp only [hc1] at kc1
  simp only [hc2] at kc2
  rw [hb1, hb2, hc1, hc2] at hE
  have q0 := (hm0.1 0 _ hx0).1
  go_enter Try.func13, Try.ntmps13
  go_upto_region 1 with fail
  generalize w.alloc (.cells M.toArray 26) = W0 at *
  go_wp2_with fail
  refine (kn1 W0).mono ?_
  rintro e W1 ⟨rfl, rfl⟩
  cases b1
  · rw [if_pos rfl] at hE
    go_wp2_with fail
    refine bodyPost_ret (v := .tuple #[.int .i64 0, .int .i64 1]) (by simp [results, Try.results13, go_sem]) rfl ?_
    exact ⟨by rw [← hE.out], hB0⟩
  rw [if_neg (by decide)] at hE
  have q5 := (hm0.1 5 _ hx5).1
  go_wp2_with fail
  refine (kn2 W1).mono ?_
  rintro e W2 ⟨rfl, rfl⟩
  cases b2
  · rw [if_pos rfl] at hE
    go_wp2_with fail
    refine bodyPost_ret (v := .tuple #[.int .i64 0, .int .i64 1]) (by simp [results, Try.results13, go_sem]) rfl ?_
    exact ⟨by rw [← hE.out], hB0⟩
  rw [if_neg (by decide)] at hE
  go_wp2_with (first | (refine wpList_load_atg (by rfl) _ rfl ⟨w.heap.size, 1, none⟩ rfl (lab4 m.lab) hlabF hundL rfl (hszL m.lab) ?_) | fail)
  refine (kc1 W2).mono ?_
  rintro e W3 ⟨rfl, hB3⟩
  have hm3 := stab_blk _ _ _ _ hm0 hB3
  have hbox3 := CellsAt.below hboxF hB3
  have hlab3 := CellsAt.below hlabF hB3
  have hrow3 := hrow.below mr_len hB3
  have hBB3 := Below.then hB0 hB3
  by_cases hc1z : c1 = 0
  case neg =>
    rw [if_pos hc1z] at hE
    have f1 : (c1 != 0) = true := by simpa using hc1z
    go_wp2_with fail
    refine bodyPost_ret (v := .tuple #[.int .i64 0, .int .i64 1]) (by simp [results, Try.results13, go_sem]) rfl ?_
    exact ⟨by rw [← hE.out], hBB3⟩
  case pos =>
  subst hc1z
  rw [if_neg (by decide)] at hE
  go_wp2_with (first | (refine wpList_load_atg (by rfl) _ rfl ⟨w.heap.size, 6, none⟩ rfl (lab4 m.box) hbox3 hundL rfl (hszL m.box) ?_) | fail)
  refine (kc2 W3).mono ?_
  rintro e W4 ⟨rfl, hB4⟩
  have hm4 := stab_blk _ _ _ _ hm3 hB4
  have hbox4 := CellsAt.below hbox3 hB4
  have hlab4 := CellsAt.below hlab3 hB4
  have hrow4 := hrow3.below mr_len hB4
  have hBB4 := Below.then hBB3 hB4
  by_cases hc2z : c2 = 0
  case neg =>
    rw [if_pos hc2z] at hE
    have f1 : (c2 != 0) = true := by simpa using hc2z
    go_wp2_with fail
    refine bodyPost_ret (v := .tuple #[.int .i64 0, .int .i64 1]) (by simp [results, Try.results13, go_sem]) rfl ?_
    exact ⟨by rw [← hE.out], hBB4⟩
  case pos =>
  subst hc2z
  rw [if_neg (by decide)] at hE
  have q10 := (hm4.1 10 _ hx10).1
  by_cases hlong : 40 < m.text.size
  · rw [if_pos hlong] at hE
    have i1 : (40 : Int) < (m.text.size : Int) := by omega
    go_wp2_with fail
    refine bodyPost_ret (v := .tuple #[.int .i64 0, .int .i64 5]) (by simp [results, Try.results13, go_sem]) rfl ?_
    exact ⟨by rw [← hE.out], hBB4⟩
  rw [if_neg hlong] at hE
  have i1 : ¬ (40 : Int) < (m.text.size : Int) := by omega
  clear hm0 hlabF hboxF hrow hB0 q0 q5 hm3 hbox3 hlab3 hrow3 hBB3
  go_upto_region 5 with fail
  go_wp2_with (first | (refine wpList_load_at rfl _ rfl ⟨w.heap.size, 6, none⟩ rfl (lab4 m.box) hbox4 hundL rfl (hszL m.box) ?_) | (refine wpList_load_at rfl _ rfl ⟨w.heap.size, 1, none⟩ rfl (lab4 m.lab) hlab4 hundL rfl (hszL m.lab) ?_) | fail)
  refine (kv W4).mono ?_
  rintro e W5 ⟨rfl, hB5⟩
  have hm5 := stab_blk _ _ _ _ hm4 hB5
  have hBB5 := Below.then hBB4 hB5
  have hrow5 := hrow4.below mr_len hB5
  cases hov : rov m.box m.lab
  case true =>
    rw [if_pos hov] at hE
    go_wp2_with fail
    refine bodyPost_ret (v := .tuple #[.int .i64 1, .int .i64 0]) (by simp [results, Try.results13, go_sem]) rfl ?_
    exact ⟨by rw [← hE.out], hBB5⟩
  case false =>
  rw [if_neg (by rw [hov]; decide)] at hE
  have hr5 := hm5.range
  have kr5 := kr W5 hrow5
  obtain ⟨o, ho⟩ : ∃ o, ruleF l m = o := ⟨_, rfl⟩
  rw [ho] at kr5 hE
  clear kr hm4 hbox4 hlab4 hrow4 hBB4 q10 i1 ho
  go_wp2_with (first | (refine wpList_load_row rfl _ rfl w.heap.size rfl M hr5 hundM rfl hszM ?_) | fail)
  refine kr5.mono ?_
  rintro e W6 ⟨rfl, hB6⟩
  obtain ⟨xs, hxs⟩ : ∃ xs, foundRu o = xs := ⟨_, rfl⟩
  have hlx : xs.length = 9 := by rw [← hxs]; rfl
  have hxo : ∀ v ∈ xs, v.oneCell' = true := by rw [← hxs]; exact mr_one _
  rw [hxs]
  obtain ⟨W7, hW7, hth7, -, hB7⟩ := put_new W6 zR9 29 xs (by rw [hlx]; rfl) (by rw [hlx]; decide)
  have hszx : (Try.prog.info? 29).map (·.size) = some xs.length := by rw [hlx]; exact hsz9
  have hfin := Below.then hBB5 (Below.then hB6 hB7)
  clear hxs hr5 kr5
  cases o with
  | none =>
    rw [if_pos (show (none : Option MRul).isSome = false from rfl)] at hE
    go_upto_region 8 with (first | (refine wpList_store_row rfl _ _ rfl W6.heap.size rfl xs rfl hth7 hszx hxo hW7 ?_) | fail)
    clear hth7 hW7
    go_wp2_with fail
    refine bodyPost_ret (v := .tuple #[.int .i64 0, .int .i64 19]) (by simp [results, Try.results13, go_sem]) rfl ?_
    exact ⟨by rw [← hE.out], hfin⟩
  | some x =>
    rw [if_neg (show ¬ (some x).isSome = false by simp)] at hE
    go_upto_region 8 with (first | (refine wpList_store_row rfl _ _ rfl W6.heap.size rfl xs rfl hth7 hszx hxo hW7 ?_) | fail)
    clear hth7 hW7
    go_wp2_with fail
    refine bodyPost_ret (v := .tuple #[.int .i64 2, .int .i64 0]) (by simp [results, Try.results13, go_sem]) rfl ?_
    exact ⟨by rw [← hE.out], hfin⟩
/-- Whether a word stands in a text at a byte from i on, in so many tries. -/
def standsB (t u : ByteArray) : Nat → Nat → Bool
  | 0, _ => false
  | n + 1, i => if i + u.size ≤ t.size then eqs (t.extract i (i + u.size)) u || standsB t u n (i + 1) else false
def relE (r : List MRul) (m : Msg) : Int := match ruleF r m with
  | none => 19
  | some x => if standsB m.text x.word (m.text.size + 1) 0 = true then 6 else 0
theorem cut_run (s : ByteArray) (a b : Nat) (h1 : a ≤ b) (h2 : b ≤ s.size) (w : World) : (Instr.slice 9 (.string s) (some (.int .i64 (a : Int))) (some (.int .i64 (b : Int))) none).run Try.prog w = .ok (.string (s.extract a b)) w := by
  have h0 := Try.underlying9
  have i1 : ¬ (b : Int) < (a : Int) := by omega
  have i2 : ¬ (s.size : Int) < (b : Int) := by omega
  have i3 : (a : Int) ≤ (b : Int) := by omega
  have i4 : (b : Int) ≤ (s.size : Int) := by omega
  go_simp
set_option maxRecDepth 8000 in
set_option maxHeartbeats 4000000 in
theorem rrelease_any (a : Option Addr) (cap : Nat) (l : List MRul) (m : Msg) (hl : l.length ≤ 1000000) (hs : m.text.size ≤ 1000000000000) (hw : ∀ x, ruleF l m = some x → x.word.size ≤ 1000000000000) (w : World) (h : RowAt 9 MRul.cs w a l) :
    Calls Try.prog 17 #[.slice a l.length cap, .agg m.cs.toArray] w fun e w' => e = .returned (.int .i64 (relE l m)) ∧ Below w.heap.size w w' := by
  have hundM := Try.underlying26
  have hsz9 : (Try.prog.info? 29).map (·.size) = some 9 := by kernel_rfl
  have hszM : (Try.prog.info? 26).map (·.size) = some m.cs.length := by kernel_rfl
  have kr := fun W h => rrule_any a cap l m hl W h
  have hm0 := blkl_alloc w m.cs.toArray 26
  have hB0 := alloc_below w (.cells m.cs.toArray 26)
  have hwo := hw
  clear hw
  obtain ⟨E, hE⟩ : ∃ E, relE l m = E := ⟨_, rfl⟩
  rw [hE]
  unfold relE at hE
  have hx10 : m.cs[10]? = some (.string m.text) := rfl
  have hrow := h.below mr_len hB0
  obtain ⟨M, hM⟩ : ∃ M, m.cs = M := ⟨_, rfl⟩
  replace hm0 : BlkL w.heap.size M (w.alloc (.cells M.toArray 26)) := by rw [← hM]; exact hm0
  rw [hM] at hB0 hx10 hszM hrow ⊢
  simp only [hM] at kr
  clear hM h
  obtain ⟨n, hn⟩ : ∃ n, l.length = n := ⟨_, rfl⟩
  rw [hn] at kr ⊢
  clear hn
  have hr0 := hm0.range
  have kr0 := kr _ hrow
  obtain ⟨o, ho⟩ : ∃ o, ruleF l m = o := ⟨_, rfl⟩
  rw [ho] at kr0 hE
  simp only [ho] at hwo
  clear kr ho
  go_enter Try.func17, Try.ntmps17
  go_upto_region 1 with fail
  generalize w.alloc (.cells M.toArray 26) = W0 at *
  go_wp2_with (first | (refine wpList_load_row rfl _ rfl w.heap.size rfl M hr0 hundM rfl hszM ?_) | fail)
  refine kr0.mono ?_
  rintro e W6 ⟨rfl, hB6⟩
  have hx8 : (foundRu o)[8]? = some (.string (o.getD zeroR).word) := rfl
  obtain ⟨xs, hxs⟩ : ∃ xs, foundRu o = xs := ⟨_, rfl⟩
  have hlx : xs.length = 9 := by rw [← hxs]; rfl
  have hxo : ∀ v ∈ xs, v.oneCell' = true := by rw [← hxs]; exact mr_one _
  rw [hxs] at hx8 ⊢
  obtain ⟨W7, hW7, hth7, hb7, hB7⟩ := put_new W6 zR9 29 xs (by rw [hlx]; rfl) (by rw [hlx]; decide)
  have hszx : (Try.prog.info? 29).map (·.size) = some xs.length := by rw [hlx]; exact hsz9
  have hB67 := Below.then hB6 hB7
  have hfin := Below.then hB0 hB67
  have hm7 := stab_blk _ _ _ _ hm0 hB67
  have q10 := (hm7.1 10 _ hx10).1
  have q8 := (hb7.1 8 _ hx8).1
  clear hxs hr0 kr0 hm0 hB67 hB6 hB7 hrow hm7 hb7 hlx
  cases o with
  | none =>
    obtain rfl : (19 : Int) = E := hE
    go_upto_region 2 with (first | (refine wpList_store_row rfl _ _ rfl W6.heap.size rfl xs rfl hth7 hszx hxo hW7 ?_) | fail)
    clear hth7 hW7
    go_wp2_with fail
    go_ret
    exact ⟨rfl, hfin⟩
  | some x =>
    have hws := hwo x rfl
    replace q8 : W7.cell? ⟨W6.heap.size, 8, none⟩ = some (.string x.word) := q8
    obtain ⟨t, ht⟩ : ∃ t, m.text = t := ⟨_, rfl⟩
    obtain ⟨u, hu⟩ : ∃ u, x.word = u := ⟨_, rfl⟩
    rw [ht] at hs q10
    rw [hu] at hws q8
    replace hE : (if standsB m.text x.word (m.text.size + 1) 0 = true then (6 : Int) else 0) = E := hE
    rw [ht, hu] at hE
    obtain ⟨R0, hR0⟩ : ∃ R0, standsB t u (t.size + 1) 0 = R0 := ⟨_, rfl⟩
    rw [hR0] at hE
    replace hE : Aside ((if R0 = true then (6 : Int) else 0) = E) := hE
    go_upto_region 2 with (first | (refine wpList_store_row rfl _ _ rfl W6.heap.size rfl xs rfl hth7 hszx hxo hW7 ?_) | fail)
    clear hth7 hW7
    generalize W6.heap.size = gx at *
    go_upto_region 4 with fail
    go_wp2_with fail
    go_loopw [7] (fun t7 wr => ∃ i : Nat, i ≤ t.size + 1 ∧ t7 = .int .i64 (i : Int) ∧ standsB t u (t.size + 1 - i) i = R0 ∧ Below W7.heap.size W7 wr) (fun t7 _ => t.size + 1 - (Go.RowKit.intOf t7).toNat)
    case atStart => exact ⟨0, by omega, rfl, hR0, Below.refl _ _⟩
    case round =>
    clear hR0
    obtain ⟨i, hi, rfl, hst, hB⟩ := hrel
    replace q10 := (hB.cell (World.block_lt_of_cell? _ _ q10)).trans q10
    replace q8 := (hB.cell (World.block_lt_of_cell? _ _ q8)).trans q8
    have hfin2 := Below.then hfin hB
    have hwr : IntKind.i64.wrap ((i : Int) + (u.size : Int)) = (i : Int) + (u.size : Int) := by rw [IntKind.wrap_i64]; omega
    by_cases hle : i + u.size ≤ t.size
    · have i1 : (i : Int) + (u.size : Int) ≤ (t.size : Int) := by omega
      rw [show t.size + 1 - i = (t.size - i) + 1 by omega, standsB, if_pos hle] at hst
      have hcut := fun W => cut_run t i (i + u.size) (by omega) hle W
      rw [show ((i + u.size : Nat) : Int) = (i : Int) + (u.size : Int) by omega] at hcut
      replace hst : Aside ((eqs (t.extract i (i + u.size)) u || standsB t u (t.size - i) (i + 1)) = R0) := hst
      go_upto_region 7 with fail
      obtain ⟨Z, hZ⟩ : ∃ Z, wr = Z := ⟨_, rfl⟩
      rw [hZ] at q10 q8 hfin2 hB ⊢
      clear hZ
      have hS0 : Below Z.heap.size Z Z.drew := (Below.refl _ _).drew
      have hBr := Below.then hB hS0
      have hfz := Below.then hfin2 hS0
      obtain ⟨sub, hsub⟩ : ∃ sub, t.extract i (i + u.size) = sub := ⟨_, rfl⟩
      rw [hsub] at hst
      simp only [hsub] at hcut
      clear hsub
      cases hb : eqs sub u
      · have f0 : (sub.toList == u.toList) = false := hb
        rw [hb, Bool.false_or] at hst
        refine wp_region_held_drew (S := (fun W => Below Z.heap.size Z W)) (by kernel_rfl) (by exact hS0) ?_
        intro hHeld
        generalize Z.drew = w0 at *
        refine wpAnyH_take (i := 0) (v := ?_) (by simp only [List.getElem?_toArray, List.getElem?_cons_zero, List.getElem?_cons_succ]; rfl) (by kernel_rfl) (by kernel_rfl) (by kernel_rfl) (by exact fun _ _ _ h => h) (Or.inl ⟨by rfl, ?_⟩) (by assumption) ?_; rotate_left; (focus (intro w hSw; (try dsimp only at hSw); go_simp; try with_reducible rfl)); (try simp only [Act.put, List.setIfInBounds_toArray, List.set_cons_zero, List.set_cons_succ, hwr])
        refine wpAnyH_take (i := 1) (v := _) (by simp only [List.getElem?_toArray, List.getElem?_cons_zero, List.getElem?_cons_succ]; rfl) (by kernel_rfl) (by kernel_rfl) (by kernel_rfl) (by exact fun _ _ _ h => h) (yields_cellM (by rfl) _ rfl ⟨w.heap.size, 10, none⟩ rfl (.string t) (fun _ q => (q.cell (World.block_lt_of_cell? _ _ q10)).trans q10) strM_load) (by assumption) ?_; (try simp only [Act.put, List.setIfInBounds_toArray, List.set_cons_zero, List.set_cons_succ, hwr])
        refine wpAnyH_take (i := 2) (v := ?_) (by simp only [List.getElem?_toArray, List.getElem?_cons_zero, List.getElem?_cons_succ]; rfl) (by kernel_rfl) (by kernel_rfl) (by kernel_rfl) (by exact fun _ _ _ h => h) (Or.inl ⟨by rfl, ?_⟩) (by assumption) ?_; rotate_left; (focus (intro w hSw; (try dsimp only at hSw); go_simp; try with_reducible rfl)); (try simp only [Act.put, List.setIfInBounds_toArray, List.set_cons_zero, List.set_cons_succ, hwr])
        refine wpAnyH_take (i := 3) (v := ?_) (by simp only [List.getElem?_toArray, List.getElem?_cons_zero, List.getElem?_cons_succ]; rfl) (by kernel_rfl) (by kernel_rfl) (by kernel_rfl) (by exact fun _ _ _ h => h) (Or.inl ⟨by rfl, ?_⟩) (by assumption) ?_; rotate_left; (focus (intro w hSw; (try dsimp only at hSw); go_simp; try with_reducible rfl)); (try simp only [Act.put, List.setIfInBounds_toArray, List.set_cons_zero, List.set_cons_succ, hwr])
        refine wpAnyH_take (i := 4) (v := ?_) (by simp only [List.getElem?_toArray, List.getElem?_cons_zero, List.getElem?_cons_succ]; rfl) (by kernel_rfl) (by kernel_rfl) (by kernel_rfl) (by exact fun _ _ _ h => h) (Or.inl ⟨by rfl, ?_⟩) (by assumption) ?_; rotate_left; (focus (intro w hSw; (try dsimp only at hSw); go_simp; try with_reducible rfl)); (try simp only [Act.put, List.setIfInBounds_toArray, List.set_cons_zero, List.set_cons_succ, hwr])
        refine wpAnyH_take (i := 5) (v := _) (by simp only [List.getElem?_toArray, List.getElem?_cons_zero, List.getElem?_cons_succ]; rfl) (by kernel_rfl) (by kernel_rfl) (by kernel_rfl) (by exact fun _ _ _ h => h) (yields_cellM (by rfl) _ rfl ⟨gx, 8, none⟩ rfl (.string u) (fun _ q => (q.cell (World.block_lt_of_cell? _ _ q8)).trans q8) strM_load) (by assumption) ?_; (try simp only [Act.put, List.setIfInBounds_toArray, List.set_cons_zero, List.set_cons_succ, hwr])
        refine wpAnyH_take (i := 6) (v := ?_) (by simp only [List.getElem?_toArray, List.getElem?_cons_zero, List.getElem?_cons_succ]; rfl) (by kernel_rfl) (by kernel_rfl) (by kernel_rfl) (by exact fun _ _ _ h => h) (Or.inl ⟨by rfl, ?_⟩) (by assumption) ?_; rotate_left; (focus (intro w hSw; (try dsimp only at hSw); go_simp; try with_reducible rfl)); (try simp only [Act.put, List.setIfInBounds_toArray, List.set_cons_zero, List.set_cons_succ, hwr])
        refine wpAnyH_take (i := 7) (v := ?_) (by simp only [List.getElem?_toArray, List.getElem?_cons_zero, List.getElem?_cons_succ]; rfl) (by kernel_rfl) (by kernel_rfl) (by kernel_rfl) (by exact fun _ _ _ h => h) (Or.inl ⟨by rfl, ?_⟩) (by assumption) ?_; rotate_left; (focus (intro w hSw; (try dsimp only at hSw); go_simp; try with_reducible rfl)); (try simp only [Act.put, List.setIfInBounds_toArray, List.set_cons_zero, List.set_cons_succ, hwr])
        refine wpAnyH_take (i := 8) (v := ?_) (by simp only [List.getElem?_toArray, List.getElem?_cons_zero, List.getElem?_cons_succ]; rfl) (by kernel_rfl) (by kernel_rfl) (by kernel_rfl) (by exact fun _ _ _ h => h) (Or.inl ⟨by rfl, ?_⟩) (by assumption) ?_; rotate_left; (focus (intro w hSw; (try dsimp only at hSw); go_simp; try with_reducible rfl)); (try simp only [Act.put, List.setIfInBounds_toArray, List.set_cons_zero, List.set_cons_succ, hwr])
        refine wpAnyH_take (i := 9) (v := ?_) (by simp only [List.getElem?_toArray, List.getElem?_cons_zero, List.getElem?_cons_succ]; rfl) (by kernel_rfl) (by kernel_rfl) (by kernel_rfl) (by exact fun _ _ _ h => h) (Or.inl ⟨by rfl, ?_⟩) (by assumption) ?_; rotate_left; (focus (intro w hSw; (try dsimp only at hSw); go_simp; try with_reducible rfl)); (try simp only [Act.put, List.setIfInBounds_toArray, List.set_cons_zero, List.set_cons_succ, hwr])
        refine wpAnyH_take (i := 10) (v := _) (by simp only [List.getElem?_toArray, List.getElem?_cons_zero, List.getElem?_cons_succ]; rfl) (by kernel_rfl) (by kernel_rfl) (by kernel_rfl) (by exact fun _ _ _ h => h) (yields_cellM (by rfl) _ rfl ⟨gx, 8, none⟩ rfl (.string u) (fun _ q => (q.cell (World.block_lt_of_cell? _ _ q8)).trans q8) strM_load) (by assumption) ?_; (try simp only [Act.put, List.setIfInBounds_toArray, List.set_cons_zero, List.set_cons_succ, hwr])
        refine wpAnyH_take (i := 11) (v := ?_) (by simp only [List.getElem?_toArray, List.getElem?_cons_zero, List.getElem?_cons_succ]; rfl) (by kernel_rfl) (by kernel_rfl) (by kernel_rfl) (by exact fun _ _ _ h => h) (Or.inl ⟨by rfl, ?_⟩) (by assumption) ?_; rotate_left; (focus (intro w hSw; (try dsimp only at hSw); go_simp; try with_reducible rfl)); (try simp only [Act.put, List.setIfInBounds_toArray, List.set_cons_zero, List.set_cons_succ, hwr])
        refine wpAnyH_done (by kernel_rfl) ?_ _
        go_wp2_with fail
        exact ⟨⟨i + 1, by omega, by simp, by rw [show t.size + 1 - (i + 1) = t.size - i by omega]; exact hst.out, hBr⟩, by simp [Go.RowKit.intOf]; omega⟩
      · have f0 : (sub.toList == u.toList) = true := hb
        rw [hb, Bool.true_or] at hst
        have hE2 := hE.out
        rw [← hst.out, if_pos rfl] at hE2
        subst hE2
        clear hst
        refine wp_region_held_drew (S := (fun W => Below Z.heap.size Z W)) (by kernel_rfl) (by exact hS0) ?_
        intro hHeld
        generalize Z.drew = w0 at *
        refine wpAnyH_take (i := 0) (v := ?_) (by simp only [List.getElem?_toArray, List.getElem?_cons_zero, List.getElem?_cons_succ]; rfl) (by kernel_rfl) (by kernel_rfl) (by kernel_rfl) (by exact fun _ _ _ h => h) (Or.inl ⟨by rfl, ?_⟩) (by assumption) ?_; rotate_left; (focus (intro w hSw; (try dsimp only at hSw); go_simp; try with_reducible rfl)); (try simp only [Act.put, List.setIfInBounds_toArray, List.set_cons_zero, List.set_cons_succ, hwr])
        refine wpAnyH_take (i := 1) (v := _) (by simp only [List.getElem?_toArray, List.getElem?_cons_zero, List.getElem?_cons_succ]; rfl) (by kernel_rfl) (by kernel_rfl) (by kernel_rfl) (by exact fun _ _ _ h => h) (yields_cellM (by rfl) _ rfl ⟨w.heap.size, 10, none⟩ rfl (.string t) (fun _ q => (q.cell (World.block_lt_of_cell? _ _ q10)).trans q10) strM_load) (by assumption) ?_; (try simp only [Act.put, List.setIfInBounds_toArray, List.set_cons_zero, List.set_cons_succ, hwr])
        refine wpAnyH_take (i := 2) (v := ?_) (by simp only [List.getElem?_toArray, List.getElem?_cons_zero, List.getElem?_cons_succ]; rfl) (by kernel_rfl) (by kernel_rfl) (by kernel_rfl) (by exact fun _ _ _ h => h) (Or.inl ⟨by rfl, ?_⟩) (by assumption) ?_; rotate_left; (focus (intro w hSw; (try dsimp only at hSw); go_simp; try with_reducible rfl)); (try simp only [Act.put, List.setIfInBounds_toArray, List.set_cons_zero, List.set_cons_succ, hwr])
        refine wpAnyH_take (i := 3) (v := ?_) (by simp only [List.getElem?_toArray, List.getElem?_cons_zero, List.getElem?_cons_succ]; rfl) (by kernel_rfl) (by kernel_rfl) (by kernel_rfl) (by exact fun _ _ _ h => h) (Or.inl ⟨by rfl, ?_⟩) (by assumption) ?_; rotate_left; (focus (intro w hSw; (try dsimp only at hSw); go_simp; try with_reducible rfl)); (try simp only [Act.put, List.setIfInBounds_toArray, List.set_cons_zero, List.set_cons_succ, hwr])
        refine wpAnyH_take (i := 4) (v := ?_) (by simp only [List.getElem?_toArray, List.getElem?_cons_zero, List.getElem?_cons_succ]; rfl) (by kernel_rfl) (by kernel_rfl) (by kernel_rfl) (by exact fun _ _ _ h => h) (Or.inl ⟨by rfl, ?_⟩) (by assumption) ?_; rotate_left; (focus (intro w hSw; (try dsimp only at hSw); go_simp; try with_reducible rfl)); (try simp only [Act.put, List.setIfInBounds_toArray, List.set_cons_zero, List.set_cons_succ, hwr])
        refine wpAnyH_take (i := 5) (v := _) (by simp only [List.getElem?_toArray, List.getElem?_cons_zero, List.getElem?_cons_succ]; rfl) (by kernel_rfl) (by kernel_rfl) (by kernel_rfl) (by exact fun _ _ _ h => h) (yields_cellM (by rfl) _ rfl ⟨gx, 8, none⟩ rfl (.string u) (fun _ q => (q.cell (World.block_lt_of_cell? _ _ q8)).trans q8) strM_load) (by assumption) ?_; (try simp only [Act.put, List.setIfInBounds_toArray, List.set_cons_zero, List.set_cons_succ, hwr])
        refine wpAnyH_take (i := 6) (v := ?_) (by simp only [List.getElem?_toArray, List.getElem?_cons_zero, List.getElem?_cons_succ]; rfl) (by kernel_rfl) (by kernel_rfl) (by kernel_rfl) (by exact fun _ _ _ h => h) (Or.inl ⟨by rfl, ?_⟩) (by assumption) ?_; rotate_left; (focus (intro w hSw; (try dsimp only at hSw); go_simp; try with_reducible rfl)); (try simp only [Act.put, List.setIfInBounds_toArray, List.set_cons_zero, List.set_cons_succ, hwr])
        refine wpAnyH_take (i := 7) (v := ?_) (by simp only [List.getElem?_toArray, List.getElem?_cons_zero, List.getElem?_cons_succ]; rfl) (by kernel_rfl) (by kernel_rfl) (by kernel_rfl) (by exact fun _ _ _ h => h) (Or.inl ⟨by rfl, ?_⟩) (by assumption) ?_; rotate_left; (focus (intro w hSw; (try dsimp only at hSw); go_simp; try with_reducible rfl)); (try simp only [Act.put, List.setIfInBounds_toArray, List.set_cons_zero, List.set_cons_succ, hwr])
        refine wpAnyH_take (i := 8) (v := ?_) (by simp only [List.getElem?_toArray, List.getElem?_cons_zero, List.getElem?_cons_succ]; rfl) (by kernel_rfl) (by kernel_rfl) (by kernel_rfl) (by exact fun _ _ _ h => h) (Or.inl ⟨by rfl, ?_⟩) (by assumption) ?_; rotate_left; (focus (intro w hSw; (try dsimp only at hSw); go_simp; try with_reducible rfl)); (try simp only [Act.put, List.setIfInBounds_toArray, List.set_cons_zero, List.set_cons_succ, hwr])
        refine wpAnyH_take (i := 9) (v := ?_) (by simp only [List.getElem?_toArray, List.getElem?_cons_zero, List.getElem?_cons_succ]; rfl) (by kernel_rfl) (by kernel_rfl) (by kernel_rfl) (by exact fun _ _ _ h => h) (Or.inl ⟨by rfl, ?_⟩) (by assumption) ?_; rotate_left; (focus (intro w hSw; (try dsimp only at hSw); go_simp; try with_reducible rfl)); (try simp only [Act.put, List.setIfInBounds_toArray, List.set_cons_zero, List.set_cons_succ, hwr])
        refine wpAnyH_take (i := 10) (v := _) (by simp only [List.getElem?_toArray, List.getElem?_cons_zero, List.getElem?_cons_succ]; rfl) (by kernel_rfl) (by kernel_rfl) (by kernel_rfl) (by exact fun _ _ _ h => h) (yields_cellM (by rfl) _ rfl ⟨gx, 8, none⟩ rfl (.string u) (fun _ q => (q.cell (World.block_lt_of_cell? _ _ q8)).trans q8) strM_load) (by assumption) ?_; (try simp only [Act.put, List.setIfInBounds_toArray, List.set_cons_zero, List.set_cons_succ, hwr])
        refine wpAnyH_take (i := 11) (v := ?_) (by simp only [List.getElem?_toArray, List.getElem?_cons_zero, List.getElem?_cons_succ]; rfl) (by kernel_rfl) (by kernel_rfl) (by kernel_rfl) (by exact fun _ _ _ h => h) (Or.inl ⟨by rfl, ?_⟩) (by assumption) ?_; rotate_left; (focus (intro w hSw; (try dsimp only at hSw); go_simp; try with_reducible rfl)); (try simp only [Act.put, List.setIfInBounds_toArray, List.set_cons_zero, List.set_cons_succ, hwr])
        refine wpAnyH_done (by kernel_rfl) ?_ _
        go_wp2_with fail
        go_ret
        exact ⟨rfl, hfz⟩
    · have i1 : ¬ (i : Int) + (u.size : Int) ≤ (t.size : Int) := by omega
      have hst2 : standsB t u (t.size + 1 - i) i = false := by
        cases hk : t.size + 1 - i with
        | zero => rfl
        | succ k => rw [standsB, if_neg hle]
      have hE2 := hE.out
      rw [hst2] at hst
      rw [← hst, if_neg (by decide)] at hE2
      subst hE2
      clear hst hst2
      go_wp2_with fail
      go_ret
      exact ⟨rfl, hfin2⟩
end Go.Proofs.Ytjpabjmicaopcaa
