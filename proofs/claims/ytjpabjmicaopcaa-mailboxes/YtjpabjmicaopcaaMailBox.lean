/-
  THE DOCUMENT'S OWN In and Take (donjonref18). Written by mk_mailref.py.
-/
import Derived.Test.YtjpabjmicaopcaaMailRef
namespace Go.Proofs.Ytjpabjmicaopcaa
open Go.RowKit
set_option maxRecDepth 8000
set_option linter.unusedSimpArgs false
set_option linter.unusedVariables false

theorem in_next {l : List Msg} {u : ByteArray} {b : Lab} {i : Nat} {x : Msg} (hx : l[i]? = some x) : (l.take (i + 1)).filter (inP u b) = (l.take i).filter (inP u b) ++ (if inP u b x = true then [x] else []) := by
  rw [List.take_add_one, hx, List.filter_append]
  congr 1
  simp only [Option.toList]
  rw [List.filter_cons]
  rfl
theorem str_cells {W : World} {z : Addr} {cs : List Value} (h : CellsAt W z cs) {k : Nat} (hk : k ≠ 0) {v : Value} (hv : cs[k]? = some v) : W.cell? ⟨z.block, z.off + k, none⟩ = some v := by
  have h1 := h k v hv
  rwa [show z.add k = ⟨z.block, z.off + k, none⟩ by unfold Addr.add; rw [if_neg hk]] at h1
set_option maxRecDepth 8000 in
set_option maxHeartbeats 4000000 in
theorem rin_any (a : Option Addr) (cap : Nat) (l : List Msg) (u : ByteArray) (b : Lab) (hl : l.length ≤ 100000) (w : World) (h : RowAt 11 Msg.cs w a l) :
    Calls Try.prog 22 #[.slice a l.length cap, .string u, .agg (lab4 b).toArray] w fun e w' => ∃ v, e = .returned v ∧ OwnR 26 11 Msg.cs w' w.heap.size v (inL l u b) ∧ Below w.heap.size w w' := by
  have hundL := Try.underlying24
  have hundM := Try.underlying26
  have hszL : ∀ t : Lab, (Try.prog.info? 24).map (·.size) = some (lab4 t).length := fun t => by show _ = some 4; kernel_rfl
  have hszM : (Try.prog.info? 26).map (·.size) = some 11 := by kernel_rfl
  have hb0 := blkl_alloc w (lab4 b).toArray 24
  have hB0 := alloc_below w (.cells (lab4 b).toArray 24)
  obtain ⟨n, hn⟩ : ∃ n, l.length = n := ⟨_, rfl⟩
  rw [hn] at hl ⊢
  replace hn : Aside (l.length = n) := hn
  have hfl : ∀ i, ((l.take i).filter (inP u b)).length ≤ n := fun i => Nat.le_trans (List.length_filter_le _ _) (by rw [List.length_take, hn.out]; omega)
  have hrow := h.below ms_len hB0
  go_enter Try.func22, Try.ntmps22
  go_upto_region 1 with fail
  generalize w.alloc (.cells (lab4 b).toArray 24) = W0 at *
  have hb1 : BlkL w.heap.size (lab4 b) W0 := hb0
  go_wp2_with fail
  go_loopw [7, 8] (fun t7 t8 wr => ∃ (i : Nat) (v : Value), i ≤ n ∧ t8 = .int .i64 (i : Int) ∧ v = t7 ∧ OwnR 26 11 Msg.cs wr W0.heap.size v ((l.take i).filter (inP u b)) ∧ Below W0.heap.size W0 wr) (fun _ t8 _ => n - (Go.RowKit.intOf t8).toNat)
  case atStart => exact ⟨0, _, by omega, rfl, rfl, by simpa using OwnR.nil _ _ _ _ _, Below.refl _ _⟩
  case round =>
  obtain ⟨i, v, hi, rfl, rfl, ho, hB⟩ := hrel
  by_cases hlt : i < n
  · obtain ⟨x, hx⟩ : ∃ x, l[i]? = some x := ⟨_, List.getElem?_eq_getElem (by rw [hn.out]; exact hlt)⟩
    obtain ⟨y, rfl, -⟩ := hrow i x hx
    have hw := (hrow.below ms_len hB).at ms_len hx
    have hft := in_next (u := u) (b := b) hx
    have hl2 := hfl i
    have i1 : (i : Int) < (n : Int) := by omega
    go_upto_region 5 with fail
    obtain ⟨Z, hZ⟩ : ∃ Z, wr = Z := ⟨_, rfl⟩
    rw [hZ] at hw ho hB ⊢
    clear hZ
    have hbz := stab_blk _ _ _ _ hb1 hB
    have q5 := str_cells hw (by decide) (show x.cs[5]? = some (.string x.rc) from rfl)
    have hxb := cells_sub hw 6 (by decide) (ms_box x)
    have e1 := lab_eqlM x.box b
    have hS0 : Below Z.heap.size Z Z.drew := (Below.refl _ _).drew
    have hBr := Below.then hB hS0
    have hor := ho.below hS0
    have hwz := CellsAt.below hw hS0
    cases h1 : eqs x.rc u
    · have f0 : (x.rc.toList == u.toList) = false := h1
      rw [show inP u b x = false by unfold inP; rw [h1]; rfl, if_neg (by decide), List.append_nil] at hft
      rw [← hft] at hor
      refine wp_region_held_drew (S := (fun W => Below Z.heap.size Z W)) (by kernel_rfl) (by exact hS0) ?_
      intro hHeld
      generalize Z.drew = w0 at *
      refine wpAnyH_take (i := 0) (v := ?_) (by simp only [List.getElem?_toArray, List.getElem?_cons_zero, List.getElem?_cons_succ]; rfl) (by kernel_rfl) (by kernel_rfl) (by kernel_rfl) (by exact fun _ _ _ h => h) (Or.inl ⟨by rfl, ?_⟩) (by assumption) ?_; rotate_left; (focus (intro w hSw; (try dsimp only at hSw); go_simp; try with_reducible rfl)); (try simp only [Act.put, List.setIfInBounds_toArray, List.set_cons_zero, List.set_cons_succ])
      refine wpAnyH_take (i := 1) (v := ?_) (by simp only [List.getElem?_toArray, List.getElem?_cons_zero, List.getElem?_cons_succ]; rfl) (by kernel_rfl) (by kernel_rfl) (by kernel_rfl) (by exact fun _ _ _ h => h) (Or.inl ⟨by rfl, ?_⟩) (by assumption) ?_; rotate_left; (focus (intro w hSw; (try dsimp only at hSw); go_simp; try with_reducible rfl)); (try simp only [Act.put, List.setIfInBounds_toArray, List.set_cons_zero, List.set_cons_succ])
      refine wpAnyH_take (i := 2) (v := ?_) (by simp only [List.getElem?_toArray, List.getElem?_cons_zero, List.getElem?_cons_succ]; rfl) (by kernel_rfl) (by kernel_rfl) (by kernel_rfl) (by exact fun _ _ _ h => h) (Or.inl ⟨by rfl, ?_⟩) (by assumption) ?_; rotate_left; (focus (intro w hSw; (try dsimp only at hSw); go_simp; try with_reducible rfl)); (try simp only [Act.put, List.setIfInBounds_toArray, List.set_cons_zero, List.set_cons_succ])
      refine wpAnyH_take (i := 3) (v := ?_) (by simp only [List.getElem?_toArray, List.getElem?_cons_zero, List.getElem?_cons_succ]; rfl) (by kernel_rfl) (by kernel_rfl) (by kernel_rfl) (by exact fun _ _ _ h => h) (Or.inl ⟨by rfl, ?_⟩) (by assumption) ?_; rotate_left; (focus (intro w hSw; (try dsimp only at hSw); go_simp; try with_reducible rfl)); (try simp only [Act.put, List.setIfInBounds_toArray, List.set_cons_zero, List.set_cons_succ])
      refine wpAnyH_take (i := 4) (v := _) (by simp only [List.getElem?_toArray, List.getElem?_cons_zero, List.getElem?_cons_succ]; rfl) (by kernel_rfl) (by kernel_rfl) (by kernel_rfl) (by exact fun _ _ _ h => h) (yields_cellM (by rfl) _ rfl ⟨(y.add (i * 11)).block, (y.add (i * 11)).off + 5, none⟩ rfl (.string x.rc) (fun _ q => (q.cell (World.block_lt_of_cell? _ _ q5)).trans q5) strM_load) (by assumption) ?_; (try simp only [Act.put, List.setIfInBounds_toArray, List.set_cons_zero, List.set_cons_succ])
      refine wpAnyH_take (i := 5) (v := ?_) (by simp only [List.getElem?_toArray, List.getElem?_cons_zero, List.getElem?_cons_succ]; rfl) (by kernel_rfl) (by kernel_rfl) (by kernel_rfl) (by exact fun _ _ _ h => h) (Or.inl ⟨by rfl, ?_⟩) (by assumption) ?_; rotate_left; (focus (intro w hSw; (try dsimp only at hSw); go_simp; try with_reducible rfl)); (try simp only [Act.put, List.setIfInBounds_toArray, List.set_cons_zero, List.set_cons_succ])
      refine wpAnyH_take (i := 6) (v := ?_) (by simp only [List.getElem?_toArray, List.getElem?_cons_zero, List.getElem?_cons_succ]; rfl) (by kernel_rfl) (by kernel_rfl) (by kernel_rfl) (by exact fun _ _ _ h => h) (Or.inl ⟨by rfl, ?_⟩) (by assumption) ?_; rotate_left; (focus (intro w hSw; (try dsimp only at hSw); go_simp; try with_reducible rfl)); (try simp only [Act.put, List.setIfInBounds_toArray, List.set_cons_zero, List.set_cons_succ])
      refine wpAnyH_take (i := 7) (v := ?_) (by simp only [List.getElem?_toArray, List.getElem?_cons_zero, List.getElem?_cons_succ]; rfl) (by kernel_rfl) (by kernel_rfl) (by kernel_rfl) (by exact fun _ _ _ h => h) (Or.inl ⟨by rfl, ?_⟩) (by assumption) ?_; rotate_left; (focus (intro w hSw; (try dsimp only at hSw); go_simp; try with_reducible rfl)); (try simp only [Act.put, List.setIfInBounds_toArray, List.set_cons_zero, List.set_cons_succ])
      refine wpAnyH_take (i := 8) (v := undef) (by simp only [List.getElem?_toArray, List.getElem?_cons_zero, List.getElem?_cons_succ]; rfl) (by kernel_rfl) (by kernel_rfl) (by kernel_rfl) (by exact fun _ _ _ h => h) (Or.inr ⟨by rfl, rfl⟩) (by assumption) ?_; (try simp only [Act.put, List.setIfInBounds_toArray, List.set_cons_zero, List.set_cons_succ])
      refine wpAnyH_take (i := 9) (v := undef) (by simp only [List.getElem?_toArray, List.getElem?_cons_zero, List.getElem?_cons_succ]; rfl) (by kernel_rfl) (by kernel_rfl) (by kernel_rfl) (by exact fun _ _ _ h => h) (Or.inr ⟨by rfl, rfl⟩) (by assumption) ?_; (try simp only [Act.put, List.setIfInBounds_toArray, List.set_cons_zero, List.set_cons_succ])
      refine wpAnyH_take (i := 10) (v := undef) (by simp only [List.getElem?_toArray, List.getElem?_cons_zero, List.getElem?_cons_succ]; rfl) (by kernel_rfl) (by kernel_rfl) (by kernel_rfl) (by exact fun _ _ _ h => h) (Or.inr ⟨by rfl, rfl⟩) (by assumption) ?_; (try simp only [Act.put, List.setIfInBounds_toArray, List.set_cons_zero, List.set_cons_succ])
      refine wpAnyH_take (i := 11) (v := undef) (by simp only [List.getElem?_toArray, List.getElem?_cons_zero, List.getElem?_cons_succ]; rfl) (by kernel_rfl) (by kernel_rfl) (by kernel_rfl) (by exact fun _ _ _ h => h) (Or.inr ⟨by rfl, rfl⟩) (by assumption) ?_; (try simp only [Act.put, List.setIfInBounds_toArray, List.set_cons_zero, List.set_cons_succ])
      refine wpAnyH_take (i := 12) (v := undef) (by simp only [List.getElem?_toArray, List.getElem?_cons_zero, List.getElem?_cons_succ]; rfl) (by kernel_rfl) (by kernel_rfl) (by kernel_rfl) (by exact fun _ _ _ h => h) (Or.inr ⟨by rfl, rfl⟩) (by assumption) ?_; (try simp only [Act.put, List.setIfInBounds_toArray, List.set_cons_zero, List.set_cons_succ])
      refine wpAnyH_take (i := 13) (v := undef) (by simp only [List.getElem?_toArray, List.getElem?_cons_zero, List.getElem?_cons_succ]; rfl) (by kernel_rfl) (by kernel_rfl) (by kernel_rfl) (by exact fun _ _ _ h => h) (Or.inr ⟨by rfl, rfl⟩) (by assumption) ?_; (try simp only [Act.put, List.setIfInBounds_toArray, List.set_cons_zero, List.set_cons_succ])
      refine wpAnyH_take (i := 14) (v := undef) (by simp only [List.getElem?_toArray, List.getElem?_cons_zero, List.getElem?_cons_succ]; rfl) (by kernel_rfl) (by kernel_rfl) (by kernel_rfl) (by exact fun _ _ _ h => h) (Or.inr ⟨by rfl, rfl⟩) (by assumption) ?_; (try simp only [Act.put, List.setIfInBounds_toArray, List.set_cons_zero, List.set_cons_succ])
      refine wpAnyH_take (i := 15) (v := ?_) (by simp only [List.getElem?_toArray, List.getElem?_cons_zero, List.getElem?_cons_succ]; rfl) (by kernel_rfl) (by kernel_rfl) (by kernel_rfl) (by exact fun _ _ _ h => h) (Or.inl ⟨by rfl, ?_⟩) (by assumption) ?_; rotate_left; (focus (intro w hSw; (try dsimp only at hSw); go_simp; try with_reducible rfl)); (try simp only [Act.put, List.setIfInBounds_toArray, List.set_cons_zero, List.set_cons_succ])
      refine wpAnyH_done (by kernel_rfl) ?_ _
      go_wp2_with fail
      exact ⟨⟨i + 1, v, by omega, by simp, rfl, hor, hBr⟩, by simp [Go.RowKit.intOf]; omega⟩
    have f0 : (x.rc.toList == u.toList) = true := h1
    cases h2 : labEq x.box b
    · rw [h2] at e1
      rw [show inP u b x = false by unfold inP; rw [h1, h2]; rfl, if_neg (by decide), List.append_nil] at hft
      rw [← hft] at hor
      refine wp_region_held_drew (S := (fun W => Below Z.heap.size Z W)) (by kernel_rfl) (by exact hS0) ?_
      intro hHeld
      generalize Z.drew = w0 at *
      refine wpAnyH_take (i := 0) (v := ?_) (by simp only [List.getElem?_toArray, List.getElem?_cons_zero, List.getElem?_cons_succ]; rfl) (by kernel_rfl) (by kernel_rfl) (by kernel_rfl) (by exact fun _ _ _ h => h) (Or.inl ⟨by rfl, ?_⟩) (by assumption) ?_; rotate_left; (focus (intro w hSw; (try dsimp only at hSw); go_simp; try with_reducible rfl)); (try simp only [Act.put, List.setIfInBounds_toArray, List.set_cons_zero, List.set_cons_succ])
      refine wpAnyH_take (i := 1) (v := ?_) (by simp only [List.getElem?_toArray, List.getElem?_cons_zero, List.getElem?_cons_succ]; rfl) (by kernel_rfl) (by kernel_rfl) (by kernel_rfl) (by exact fun _ _ _ h => h) (Or.inl ⟨by rfl, ?_⟩) (by assumption) ?_; rotate_left; (focus (intro w hSw; (try dsimp only at hSw); go_simp; try with_reducible rfl)); (try simp only [Act.put, List.setIfInBounds_toArray, List.set_cons_zero, List.set_cons_succ])
      refine wpAnyH_take (i := 2) (v := ?_) (by simp only [List.getElem?_toArray, List.getElem?_cons_zero, List.getElem?_cons_succ]; rfl) (by kernel_rfl) (by kernel_rfl) (by kernel_rfl) (by exact fun _ _ _ h => h) (Or.inl ⟨by rfl, ?_⟩) (by assumption) ?_; rotate_left; (focus (intro w hSw; (try dsimp only at hSw); go_simp; try with_reducible rfl)); (try simp only [Act.put, List.setIfInBounds_toArray, List.set_cons_zero, List.set_cons_succ])
      refine wpAnyH_take (i := 3) (v := ?_) (by simp only [List.getElem?_toArray, List.getElem?_cons_zero, List.getElem?_cons_succ]; rfl) (by kernel_rfl) (by kernel_rfl) (by kernel_rfl) (by exact fun _ _ _ h => h) (Or.inl ⟨by rfl, ?_⟩) (by assumption) ?_; rotate_left; (focus (intro w hSw; (try dsimp only at hSw); go_simp; try with_reducible rfl)); (try simp only [Act.put, List.setIfInBounds_toArray, List.set_cons_zero, List.set_cons_succ])
      refine wpAnyH_take (i := 4) (v := _) (by simp only [List.getElem?_toArray, List.getElem?_cons_zero, List.getElem?_cons_succ]; rfl) (by kernel_rfl) (by kernel_rfl) (by kernel_rfl) (by exact fun _ _ _ h => h) (yields_cellM (by rfl) _ rfl ⟨(y.add (i * 11)).block, (y.add (i * 11)).off + 5, none⟩ rfl (.string x.rc) (fun _ q => (q.cell (World.block_lt_of_cell? _ _ q5)).trans q5) strM_load) (by assumption) ?_; (try simp only [Act.put, List.setIfInBounds_toArray, List.set_cons_zero, List.set_cons_succ])
      refine wpAnyH_take (i := 5) (v := ?_) (by simp only [List.getElem?_toArray, List.getElem?_cons_zero, List.getElem?_cons_succ]; rfl) (by kernel_rfl) (by kernel_rfl) (by kernel_rfl) (by exact fun _ _ _ h => h) (Or.inl ⟨by rfl, ?_⟩) (by assumption) ?_; rotate_left; (focus (intro w hSw; (try dsimp only at hSw); go_simp; try with_reducible rfl)); (try simp only [Act.put, List.setIfInBounds_toArray, List.set_cons_zero, List.set_cons_succ])
      refine wpAnyH_take (i := 6) (v := ?_) (by simp only [List.getElem?_toArray, List.getElem?_cons_zero, List.getElem?_cons_succ]; rfl) (by kernel_rfl) (by kernel_rfl) (by kernel_rfl) (by exact fun _ _ _ h => h) (Or.inl ⟨by rfl, ?_⟩) (by assumption) ?_; rotate_left; (focus (intro w hSw; (try dsimp only at hSw); go_simp; try with_reducible rfl)); (try simp only [Act.put, List.setIfInBounds_toArray, List.set_cons_zero, List.set_cons_succ])
      refine wpAnyH_take (i := 7) (v := ?_) (by simp only [List.getElem?_toArray, List.getElem?_cons_zero, List.getElem?_cons_succ]; rfl) (by kernel_rfl) (by kernel_rfl) (by kernel_rfl) (by exact fun _ _ _ h => h) (Or.inl ⟨by rfl, ?_⟩) (by assumption) ?_; rotate_left; (focus (intro w hSw; (try dsimp only at hSw); go_simp; try with_reducible rfl)); (try simp only [Act.put, List.setIfInBounds_toArray, List.set_cons_zero, List.set_cons_succ])
      refine wpAnyH_take (i := 8) (v := ?_) (by simp only [List.getElem?_toArray, List.getElem?_cons_zero, List.getElem?_cons_succ]; rfl) (by kernel_rfl) (by kernel_rfl) (by kernel_rfl) (by exact fun _ _ _ h => h) (Or.inl ⟨by rfl, ?_⟩) (by assumption) ?_; rotate_left; (focus (intro w hSw; (try dsimp only at hSw); go_simp; try with_reducible rfl)); (try simp only [Act.put, List.setIfInBounds_toArray, List.set_cons_zero, List.set_cons_succ])
      refine wpAnyH_take (i := 9) (v := ?_) (by simp only [List.getElem?_toArray, List.getElem?_cons_zero, List.getElem?_cons_succ]; rfl) (by kernel_rfl) (by kernel_rfl) (by kernel_rfl) (by exact fun _ _ _ h => h) (Or.inl ⟨by rfl, ?_⟩) (by assumption) ?_; rotate_left; (focus (intro w hSw; (try dsimp only at hSw); go_simp; try with_reducible rfl)); (try simp only [Act.put, List.setIfInBounds_toArray, List.set_cons_zero, List.set_cons_succ])
      refine wpAnyH_take (i := 10) (v := ?_) (by simp only [List.getElem?_toArray, List.getElem?_cons_zero, List.getElem?_cons_succ]; rfl) (by kernel_rfl) (by kernel_rfl) (by kernel_rfl) (by exact fun _ _ _ h => h) (Or.inl ⟨by rfl, ?_⟩) (by assumption) ?_; rotate_left; (focus (intro w hSw; (try dsimp only at hSw); go_simp; try with_reducible rfl)); (try simp only [Act.put, List.setIfInBounds_toArray, List.set_cons_zero, List.set_cons_succ])
      refine wpAnyH_take (i := 11) (v := ?_) (by simp only [List.getElem?_toArray, List.getElem?_cons_zero, List.getElem?_cons_succ]; rfl) (by kernel_rfl) (by kernel_rfl) (by kernel_rfl) (by exact fun _ _ _ h => h) (Or.inl ⟨by rfl, ?_⟩) (by assumption) ?_; rotate_left; (focus (intro w hSw; (try dsimp only at hSw); go_simp; try with_reducible rfl)); (try simp only [Act.put, List.setIfInBounds_toArray, List.set_cons_zero, List.set_cons_succ])
      refine wpAnyH_take (i := 12) (v := _) (by simp only [List.getElem?_toArray, List.getElem?_cons_zero, List.getElem?_cons_succ]; rfl) (by kernel_rfl) (by kernel_rfl) (by kernel_rfl) (by exact fun _ _ _ h => h) (yields_at (by rfl) _ rfl ⟨(y.add (i * 11)).block, (y.add (i * 11)).off + 6, none⟩ rfl (lab4 x.box) (fun _ q => CellsAt.below hxb q) hundL rfl (hszL x.box)) (by assumption) ?_; (try simp only [Act.put, List.setIfInBounds_toArray, List.set_cons_zero, List.set_cons_succ])
      refine wpAnyH_take (i := 13) (v := _) (by simp only [List.getElem?_toArray, List.getElem?_cons_zero, List.getElem?_cons_succ]; rfl) (by kernel_rfl) (by kernel_rfl) (by kernel_rfl) (by exact fun _ _ _ h => h) (yields_row (by rfl) _ rfl w.heap.size rfl (lab4 b) (fun _ q => BlkL.range (stab_blk _ _ _ _ hbz q)) hundL rfl (hszL b)) (by assumption) ?_; (try simp only [Act.put, List.setIfInBounds_toArray, List.set_cons_zero, List.set_cons_succ])
      refine wpAnyH_take (i := 14) (v := ?_) (by simp only [List.getElem?_toArray, List.getElem?_cons_zero, List.getElem?_cons_succ]; rfl) (by kernel_rfl) (by kernel_rfl) (by kernel_rfl) (by exact fun _ _ _ h => h) (Or.inl ⟨by rfl, ?_⟩) (by assumption) ?_; rotate_left; (focus (intro w hSw; (try dsimp only at hSw); go_simp; try with_reducible rfl)); (try simp only [Act.put, List.setIfInBounds_toArray, List.set_cons_zero, List.set_cons_succ])
      refine wpAnyH_take (i := 15) (v := ?_) (by simp only [List.getElem?_toArray, List.getElem?_cons_zero, List.getElem?_cons_succ]; rfl) (by kernel_rfl) (by kernel_rfl) (by kernel_rfl) (by exact fun _ _ _ h => h) (Or.inl ⟨by rfl, ?_⟩) (by assumption) ?_; rotate_left; (focus (intro w hSw; (try dsimp only at hSw); go_simp; try with_reducible rfl)); (try simp only [Act.put, List.setIfInBounds_toArray, List.set_cons_zero, List.set_cons_succ])
      refine wpAnyH_done (by kernel_rfl) ?_ _
      go_wp2_with fail
      exact ⟨⟨i + 1, v, by omega, by simp, rfl, hor, hBr⟩, by simp [Go.RowKit.intOf]; omega⟩
    · rw [h2] at e1
      rw [show inP u b x = true by unfold inP; rw [h1, h2]; rfl, if_pos rfl] at hft
      clear hw
      refine wp_region_held_drew (S := (fun W => Below Z.heap.size Z W)) (by kernel_rfl) (by exact hS0) ?_
      intro hHeld
      generalize Z.drew = w0 at *
      refine wpAnyH_take (i := 0) (v := ?_) (by simp only [List.getElem?_toArray, List.getElem?_cons_zero, List.getElem?_cons_succ]; rfl) (by kernel_rfl) (by kernel_rfl) (by kernel_rfl) (by exact fun _ _ _ h => h) (Or.inl ⟨by rfl, ?_⟩) (by assumption) ?_; rotate_left; (focus (intro w hSw; (try dsimp only at hSw); go_simp; try with_reducible rfl)); (try simp only [Act.put, List.setIfInBounds_toArray, List.set_cons_zero, List.set_cons_succ])
      refine wpAnyH_take (i := 1) (v := ?_) (by simp only [List.getElem?_toArray, List.getElem?_cons_zero, List.getElem?_cons_succ]; rfl) (by kernel_rfl) (by kernel_rfl) (by kernel_rfl) (by exact fun _ _ _ h => h) (Or.inl ⟨by rfl, ?_⟩) (by assumption) ?_; rotate_left; (focus (intro w hSw; (try dsimp only at hSw); go_simp; try with_reducible rfl)); (try simp only [Act.put, List.setIfInBounds_toArray, List.set_cons_zero, List.set_cons_succ])
      refine wpAnyH_take (i := 2) (v := ?_) (by simp only [List.getElem?_toArray, List.getElem?_cons_zero, List.getElem?_cons_succ]; rfl) (by kernel_rfl) (by kernel_rfl) (by kernel_rfl) (by exact fun _ _ _ h => h) (Or.inl ⟨by rfl, ?_⟩) (by assumption) ?_; rotate_left; (focus (intro w hSw; (try dsimp only at hSw); go_simp; try with_reducible rfl)); (try simp only [Act.put, List.setIfInBounds_toArray, List.set_cons_zero, List.set_cons_succ])
      refine wpAnyH_take (i := 3) (v := ?_) (by simp only [List.getElem?_toArray, List.getElem?_cons_zero, List.getElem?_cons_succ]; rfl) (by kernel_rfl) (by kernel_rfl) (by kernel_rfl) (by exact fun _ _ _ h => h) (Or.inl ⟨by rfl, ?_⟩) (by assumption) ?_; rotate_left; (focus (intro w hSw; (try dsimp only at hSw); go_simp; try with_reducible rfl)); (try simp only [Act.put, List.setIfInBounds_toArray, List.set_cons_zero, List.set_cons_succ])
      refine wpAnyH_take (i := 4) (v := _) (by simp only [List.getElem?_toArray, List.getElem?_cons_zero, List.getElem?_cons_succ]; rfl) (by kernel_rfl) (by kernel_rfl) (by kernel_rfl) (by exact fun _ _ _ h => h) (yields_cellM (by rfl) _ rfl ⟨(y.add (i * 11)).block, (y.add (i * 11)).off + 5, none⟩ rfl (.string x.rc) (fun _ q => (q.cell (World.block_lt_of_cell? _ _ q5)).trans q5) strM_load) (by assumption) ?_; (try simp only [Act.put, List.setIfInBounds_toArray, List.set_cons_zero, List.set_cons_succ])
      refine wpAnyH_take (i := 5) (v := ?_) (by simp only [List.getElem?_toArray, List.getElem?_cons_zero, List.getElem?_cons_succ]; rfl) (by kernel_rfl) (by kernel_rfl) (by kernel_rfl) (by exact fun _ _ _ h => h) (Or.inl ⟨by rfl, ?_⟩) (by assumption) ?_; rotate_left; (focus (intro w hSw; (try dsimp only at hSw); go_simp; try with_reducible rfl)); (try simp only [Act.put, List.setIfInBounds_toArray, List.set_cons_zero, List.set_cons_succ])
      refine wpAnyH_take (i := 6) (v := ?_) (by simp only [List.getElem?_toArray, List.getElem?_cons_zero, List.getElem?_cons_succ]; rfl) (by kernel_rfl) (by kernel_rfl) (by kernel_rfl) (by exact fun _ _ _ h => h) (Or.inl ⟨by rfl, ?_⟩) (by assumption) ?_; rotate_left; (focus (intro w hSw; (try dsimp only at hSw); go_simp; try with_reducible rfl)); (try simp only [Act.put, List.setIfInBounds_toArray, List.set_cons_zero, List.set_cons_succ])
      refine wpAnyH_take (i := 7) (v := ?_) (by simp only [List.getElem?_toArray, List.getElem?_cons_zero, List.getElem?_cons_succ]; rfl) (by kernel_rfl) (by kernel_rfl) (by kernel_rfl) (by exact fun _ _ _ h => h) (Or.inl ⟨by rfl, ?_⟩) (by assumption) ?_; rotate_left; (focus (intro w hSw; (try dsimp only at hSw); go_simp; try with_reducible rfl)); (try simp only [Act.put, List.setIfInBounds_toArray, List.set_cons_zero, List.set_cons_succ])
      refine wpAnyH_take (i := 8) (v := ?_) (by simp only [List.getElem?_toArray, List.getElem?_cons_zero, List.getElem?_cons_succ]; rfl) (by kernel_rfl) (by kernel_rfl) (by kernel_rfl) (by exact fun _ _ _ h => h) (Or.inl ⟨by rfl, ?_⟩) (by assumption) ?_; rotate_left; (focus (intro w hSw; (try dsimp only at hSw); go_simp; try with_reducible rfl)); (try simp only [Act.put, List.setIfInBounds_toArray, List.set_cons_zero, List.set_cons_succ])
      refine wpAnyH_take (i := 9) (v := ?_) (by simp only [List.getElem?_toArray, List.getElem?_cons_zero, List.getElem?_cons_succ]; rfl) (by kernel_rfl) (by kernel_rfl) (by kernel_rfl) (by exact fun _ _ _ h => h) (Or.inl ⟨by rfl, ?_⟩) (by assumption) ?_; rotate_left; (focus (intro w hSw; (try dsimp only at hSw); go_simp; try with_reducible rfl)); (try simp only [Act.put, List.setIfInBounds_toArray, List.set_cons_zero, List.set_cons_succ])
      refine wpAnyH_take (i := 10) (v := ?_) (by simp only [List.getElem?_toArray, List.getElem?_cons_zero, List.getElem?_cons_succ]; rfl) (by kernel_rfl) (by kernel_rfl) (by kernel_rfl) (by exact fun _ _ _ h => h) (Or.inl ⟨by rfl, ?_⟩) (by assumption) ?_; rotate_left; (focus (intro w hSw; (try dsimp only at hSw); go_simp; try with_reducible rfl)); (try simp only [Act.put, List.setIfInBounds_toArray, List.set_cons_zero, List.set_cons_succ])
      refine wpAnyH_take (i := 11) (v := ?_) (by simp only [List.getElem?_toArray, List.getElem?_cons_zero, List.getElem?_cons_succ]; rfl) (by kernel_rfl) (by kernel_rfl) (by kernel_rfl) (by exact fun _ _ _ h => h) (Or.inl ⟨by rfl, ?_⟩) (by assumption) ?_; rotate_left; (focus (intro w hSw; (try dsimp only at hSw); go_simp; try with_reducible rfl)); (try simp only [Act.put, List.setIfInBounds_toArray, List.set_cons_zero, List.set_cons_succ])
      refine wpAnyH_take (i := 12) (v := _) (by simp only [List.getElem?_toArray, List.getElem?_cons_zero, List.getElem?_cons_succ]; rfl) (by kernel_rfl) (by kernel_rfl) (by kernel_rfl) (by exact fun _ _ _ h => h) (yields_at (by rfl) _ rfl ⟨(y.add (i * 11)).block, (y.add (i * 11)).off + 6, none⟩ rfl (lab4 x.box) (fun _ q => CellsAt.below hxb q) hundL rfl (hszL x.box)) (by assumption) ?_; (try simp only [Act.put, List.setIfInBounds_toArray, List.set_cons_zero, List.set_cons_succ])
      refine wpAnyH_take (i := 13) (v := _) (by simp only [List.getElem?_toArray, List.getElem?_cons_zero, List.getElem?_cons_succ]; rfl) (by kernel_rfl) (by kernel_rfl) (by kernel_rfl) (by exact fun _ _ _ h => h) (yields_row (by rfl) _ rfl w.heap.size rfl (lab4 b) (fun _ q => BlkL.range (stab_blk _ _ _ _ hbz q)) hundL rfl (hszL b)) (by assumption) ?_; (try simp only [Act.put, List.setIfInBounds_toArray, List.set_cons_zero, List.set_cons_succ])
      refine wpAnyH_take (i := 14) (v := ?_) (by simp only [List.getElem?_toArray, List.getElem?_cons_zero, List.getElem?_cons_succ]; rfl) (by kernel_rfl) (by kernel_rfl) (by kernel_rfl) (by exact fun _ _ _ h => h) (Or.inl ⟨by rfl, ?_⟩) (by assumption) ?_; rotate_left; (focus (intro w hSw; (try dsimp only at hSw); go_simp; try with_reducible rfl)); (try simp only [Act.put, List.setIfInBounds_toArray, List.set_cons_zero, List.set_cons_succ])
      refine wpAnyH_take (i := 15) (v := ?_) (by simp only [List.getElem?_toArray, List.getElem?_cons_zero, List.getElem?_cons_succ]; rfl) (by kernel_rfl) (by kernel_rfl) (by kernel_rfl) (by exact fun _ _ _ h => h) (Or.inl ⟨by rfl, ?_⟩) (by assumption) ?_; rotate_left; (focus (intro w hSw; (try dsimp only at hSw); go_simp; try with_reducible rfl)); (try simp only [Act.put, List.setIfInBounds_toArray, List.set_cons_zero, List.set_cons_succ])
      refine wpAnyH_done (by kernel_rfl) ?_ _
      obtain ⟨v2, W2, hap, ho2, hg2⟩ := OwnR.push ms_ok hor hBr.size x x.cs.toArray rfl 26 (by omega)
      have hb2 := hor.grew_below hBr.size hg2
      rw [← hft] at ho2
      obtain ⟨cs, hcs⟩ : ∃ cs, x.cs = cs := ⟨_, rfl⟩
      have hlen : cs.length = 11 := by rw [← hcs]; rfl
      rw [hcs] at hwz hap
      rw [← hlen] at hszM
      clear hcs hft hx
      go_wp2_with (first | (refine wpList_load_at rfl _ rfl (y.add (i * 11)) rfl cs hwz hundM rfl hszM ?_) | (refine wpList_build1 ms_ok (by decide) rfl _ rfl cs rfl hlen ?_) | (refine wpList_append rfl _ _ rfl rfl rfl rfl hap ?_) | fail)
      exact ⟨⟨i + 1, v2, by omega, by simp, rfl, ho2, hBr.trans hb2⟩, by simp [Go.RowKit.intOf]; omega⟩
  · obtain rfl : i = n := by omega
    rw [List.take_of_length_le (by rw [hn.out]; exact Nat.le_refl _)] at ho
    have hfin := Below.then hB0 hB
    have hle := hB0.size
    go_wp2_with fail
    go_ret
    exact ⟨_, rfl, ho.lower hle, hfin⟩
/-! The n-th of a box's messages, and all others. -/
def cntM (u : ByteArray) (b : Lab) (l : List Msg) : Nat := (l.filter (inP u b)).length
def remK (u : ByteArray) (b : Lab) (n : Int) : Nat → List Msg → List Msg
  | _, [] => []
  | k, m :: r => if inP u b m = true then (if (k : Int) + 1 = n then remK u b n (k + 1) r else m :: remK u b n (k + 1) r) else m :: remK u b n k r
def fndK (u : ByteArray) (b : Lab) (n : Int) : Nat → List Msg → Option Msg
  | _, [] => none
  | k, m :: r => if inP u b m = true then (if (k : Int) + 1 = n then some m else fndK u b n (k + 1) r) else fndK u b n k r
theorem cnt_next (u : ByteArray) (b : Lab) (l : List Msg) (m : Msg) : cntM u b (l ++ [m]) = cntM u b l + (if inP u b m = true then 1 else 0) := by
  unfold cntM
  rw [List.filter_append, List.length_append, List.filter_cons]
  split <;> simp_all
theorem cnt_cons (u : ByteArray) (b : Lab) (m : Msg) (l : List Msg) : cntM u b (m :: l) = (if inP u b m = true then 1 else 0) + cntM u b l := by
  unfold cntM
  rw [List.filter_cons]
  split
  · rw [List.length_cons]; omega
  · omega
theorem rem_next (u : ByteArray) (b : Lab) (n : Int) (m : Msg) : ∀ (l : List Msg) (k : Nat), remK u b n k (l ++ [m]) = remK u b n k l ++ (if inP u b m = true ∧ ((k + cntM u b l : Nat) : Int) + 1 = n then [] else [m])
  | [], k => by
    have e : k + cntM u b [] = k := by simp [cntM]
    rw [e]
    show (if inP u b m = true then (if (k : Int) + 1 = n then [] else [m]) else [m]) = [] ++ if inP u b m = true ∧ (k : Int) + 1 = n then [] else [m]
    rw [List.nil_append]
    by_cases h : inP u b m = true
    · by_cases h2 : (k : Int) + 1 = n
      · rw [if_pos h, if_pos h2, if_pos ⟨h, h2⟩]
      · rw [if_pos h, if_neg h2, if_neg (fun q => h2 q.2)]
    · rw [if_neg h, if_neg (fun q => h q.1)]
  | x :: r, k => by
    rw [List.cons_append, remK, remK, cnt_cons]
    by_cases h : inP u b x = true
    · rw [if_pos h, if_pos h, if_pos h, rem_next u b n m r (k + 1), show k + (1 + cntM u b r) = k + 1 + cntM u b r by omega]
      by_cases h2 : (k : Int) + 1 = n
      · rw [if_pos h2, if_pos h2]
      · rw [if_neg h2, if_neg h2, List.cons_append]
    · rw [if_neg h, if_neg h, if_neg h, rem_next u b n m r k, Nat.zero_add, List.cons_append]
theorem fnd_next (u : ByteArray) (b : Lab) (n : Int) (m : Msg) : ∀ (l : List Msg) (k : Nat), fndK u b n k (l ++ [m]) = if inP u b m = true ∧ ((k + cntM u b l : Nat) : Int) + 1 = n then some m else fndK u b n k l
  | [], k => by
    have e : k + cntM u b [] = k := by simp [cntM]
    rw [e]
    show (if inP u b m = true then (if (k : Int) + 1 = n then some m else none) else none) = if inP u b m = true ∧ (k : Int) + 1 = n then some m else none
    by_cases h : inP u b m = true
    · by_cases h2 : (k : Int) + 1 = n
      · rw [if_pos h, if_pos h2, if_pos ⟨h, h2⟩]
      · rw [if_pos h, if_neg h2, if_neg (fun q => h2 q.2)]
    · rw [if_neg h, if_neg (fun q => h q.1)]
  | x :: r, k => by
    rw [List.cons_append, fndK, fndK, cnt_cons]
    by_cases h : inP u b x = true
    · rw [if_pos h, if_pos h, if_pos h]
      by_cases h2 : (k : Int) + 1 = n
      · rw [if_pos h2, if_pos h2]
        by_cases h3 : inP u b m = true ∧ ((k + (1 + cntM u b r) : Nat) : Int) + 1 = n
        · omega
        · rw [if_neg h3]
      · rw [if_neg h2, if_neg h2, fnd_next u b n m r (k + 1), show k + (1 + cntM u b r) = k + 1 + cntM u b r by omega]
    · rw [if_neg h, if_neg h, if_neg h, fnd_next u b n m r k, Nat.zero_add]
theorem rem_len (u : ByteArray) (b : Lab) (n : Int) : ∀ (l : List Msg) (k : Nat), (remK u b n k l).length ≤ l.length
  | [], k => Nat.le_refl _
  | x :: r, k => by
    rw [remK]
    have h1 := rem_len u b n r (k + 1)
    have h2 := rem_len u b n r k
    split
    · split
      · rw [List.length_cons]; omega
      · rw [List.length_cons, List.length_cons]; omega
    · rw [List.length_cons, List.length_cons]; omega
theorem cnt_le (u : ByteArray) (b : Lab) (l : List Msg) : cntM u b l ≤ l.length := List.length_filter_le _ _
/-- What Take answers. -/
def TakeR (u : ByteArray) (b : Lab) (n : Int) (l : List Msg) (w : World) (e : Ending) (w' : World) : Prop := Below w.heap.size w w' ∧ match fndK u b n 0 l with
  | none => e = .returned (.tuple #[.slice none 0 0, .agg zeroM.cs.toArray, .int .i64 2])
  | some m => ∃ v, e = .returned (.tuple #[v, .agg m.cs.toArray, .int .i64 0]) ∧ OwnR 26 11 Msg.cs w' w.heap.size v (remK u b n 0 l)
theorem results_rowM {fn : Func} {p q r : Tmp} {T : TypeId} {d : TypeDesc} (h : fn.results = #[.tmp p, .cell q T, .tmp r]) (tmps : Array Value) (w : World) (g : Nat) (v1 : Value) (hv1 : tmps.getD p undef = v1) (hq : tmps.getD q undef = .pointer (some ⟨g, 0, none⟩)) (v2 : Value) (hv2 : tmps.getD r undef = v2) (cs : List Value) (hr : w.rangeAt g 0 cs)
    (hu : Try.prog.underlying T = some d) (hd : d.isRow = true) (hi : (Try.prog.info? T).map (·.size) = some cs.length) :
    (results fn tmps).run Try.prog w = .ok (.tuple #[v1, .agg cs.toArray, v2]) w := by
  have hq' : tmps[q]?.getD undef = .pointer (some ⟨g, 0, none⟩) := by simpa using hq
  have hv1' : tmps[p]?.getD undef = v1 := by simpa using hv1
  have hv2' : tmps[r]?.getD undef = v2 := by simpa using hv2
  have e := run_loadVar_mid (P := Try.prog) w g 0 T cs d hr hu hd hi
  simp [results, h, hq', hv1', hv2', asAddr, e]
/-- Where Take's loop stands. -/
structure TkI (w : World) (b : Lab) (W : World) (o : Option Msg) (v : Value) (l : List Msg) : Prop where
  at_ : BlkL w.heap.size (lab4 b) W
  res : BlkL (w.heap.size + 1) zeroM.cs W
  m : BlkL (w.heap.size + 2) (o.getD zeroM).cs W
  out : OwnR 26 11 Msg.cs W (w.heap.size + 3) v l
  bl : Below w.heap.size w W
  sz : w.heap.size + 3 ≤ W.heap.size
theorem TkI.then {w W W' : World} {b : Lab} {o : Option Msg} {v : Value} {l : List Msg} (h : TkI w b W o v l) (k : Below W.heap.size W W') : TkI w b W' o v l :=
  ⟨stab_blk _ _ _ _ h.at_ k, stab_blk _ _ _ _ h.res k, stab_blk _ _ _ _ h.m k, h.out.below k, Below.then h.bl k, Nat.le_trans h.sz k.size⟩
set_option maxRecDepth 8000 in
set_option maxHeartbeats 8000000 in
theorem rtake_any (a : Option Addr) (cap : Nat) (l : List Msg) (u : ByteArray) (b : Lab) (j : Int) (hl : l.length ≤ 100000) (w : World) (h : RowAt 11 Msg.cs w a l) :
    Calls Try.prog 24 #[.slice a l.length cap, .string u, .agg (lab4 b).toArray, .int .i64 j] w (TakeR u b j l w) := by
  have hundL := Try.underlying24
  have hundM := Try.underlying26
  have hszL : ∀ t : Lab, (Try.prog.info? 24).map (·.size) = some (lab4 t).length := fun t => by show _ = some 4; kernel_rfl
  have hszM : (Try.prog.info? 26).map (·.size) = some 11 := by kernel_rfl
  obtain ⟨Q, hQ⟩ : ∃ Q, TakeR u b j l w = Q := ⟨_, rfl⟩
  rw [hQ]
  replace hQ : Aside (TakeR u b j l w = Q) := hQ
  have h0 := blkl_alloc w (lab4 b).toArray 24
  have b0 := alloc_below w (.cells (lab4 b).toArray 24)
  have h1 := blkl_alloc (w.alloc (.cells (lab4 b).toArray 24)) zM11 26
  have b1 := alloc_below (w.alloc (.cells (lab4 b).toArray 24)) (.cells zM11 26)
  have h2 := blkl_alloc ((w.alloc (.cells (lab4 b).toArray 24)).alloc (.cells zM11 26)) zM11 26
  have b2 := alloc_below ((w.alloc (.cells (lab4 b).toArray 24)).alloc (.cells zM11 26)) (.cells zM11 26)
  have hi0 : TkI w b (((w.alloc (.cells (lab4 b).toArray 24)).alloc (.cells zM11 26)).alloc (.cells zM11 26)) none (.slice none 0 0) [] := by
    rw [World.size_alloc, World.size_alloc] at h2
    rw [World.size_alloc] at h1
    refine ⟨stab_blk _ _ _ _ h0 (Below.then b1 b2), stab_blk _ _ _ _ h1 b2, h2, OwnR.nil _ _ _ _ _, Below.then b0 (Below.then b1 b2), ?_⟩
    rw [World.size_alloc, World.size_alloc, World.size_alloc]
    exact Nat.le_refl _
  clear h0 h1 h2 b0 b1 b2
  obtain ⟨n, hn⟩ : ∃ n, l.length = n := ⟨_, rfl⟩
  rw [hn] at hl ⊢
  replace hn : Aside (l.length = n) := hn
  go_enter Try.func24, Try.ntmps24
  go_upto_region 3 with fail
  generalize ((w.alloc (.cells (lab4 b).toArray 24)).alloc (.cells zM11 26)).alloc (.cells zM11 26) = W0 at *
  (try simp only [World.size_alloc, Nat.add_assoc, Nat.reduceAdd])
  go_wp2_with fail
  go_loopw [11, 13, 14, 15] (fun t11 t13 t14 t15 wr => ∃ (i : Nat) (v : Value), i ≤ n ∧ t15 = .int .i64 (i : Int) ∧ v = t11 ∧ t13 = .int .i64 ((cntM u b (l.take i) : Nat) : Int) ∧ t14 = .bool (fndK u b j 0 (l.take i)).isSome ∧ TkI w b wr (fndK u b j 0 (l.take i)) v (remK u b j 0 (l.take i))) (fun _ _ _ t15 _ => n - (Go.RowKit.intOf t15).toNat)
  case atStart => exact ⟨0, _, by omega, rfl, rfl, rfl, rfl, hi0⟩
  case round =>
  clear hi0
  obtain ⟨i, v, hi, rfl, rfl, rfl, rfl, hI⟩ := hrel
  have hcl := cnt_le u b (l.take i)
  have hrl := rem_len u b j (l.take i) 0
  have hti : (l.take i).length = i := by rw [List.length_take, hn.out]; omega
  by_cases hlt : i < n
  · obtain ⟨x, hx⟩ : ∃ x, l[i]? = some x := ⟨_, List.getElem?_eq_getElem (by rw [hn.out]; exact hlt)⟩
    obtain ⟨y, rfl, -⟩ := h i x hx
    have htk : l.take (i + 1) = l.take i ++ [x] := by rw [List.take_add_one, hx]; rfl
    have hcn := cnt_next u b (l.take i) x
    have hrn := rem_next u b j x (l.take i) 0
    have hfn := fnd_next u b j x (l.take i) 0
    rw [← htk] at hcn hrn hfn
    rw [Nat.zero_add] at hrn hfn
    obtain ⟨c, hc⟩ : ∃ c, cntM u b (l.take i) = c := ⟨_, rfl⟩
    obtain ⟨rm, hrm⟩ : ∃ rm, remK u b j 0 (l.take i) = rm := ⟨_, rfl⟩
    obtain ⟨o, ho⟩ : ∃ o, fndK u b j 0 (l.take i) = o := ⟨_, rfl⟩
    rw [hc] at hcn hrn hfn hcl ⊢
    rw [hrm] at hI hrn hrl
    rw [ho] at hI hfn ⊢
    clear hc hrm ho htk
    replace hrn : Aside (remK u b j 0 (l.take (i + 1)) = rm ++ if inP u b x = true ∧ (c : Int) + 1 = j then [] else [x]) := hrn
    replace hfn : Aside (fndK u b j 0 (l.take (i + 1)) = if inP u b x = true ∧ (c : Int) + 1 = j then some x else o) := hfn
    replace hcn : Aside (cntM u b (l.take (i + 1)) = c + if inP u b x = true then 1 else 0) := hcn
    have i1 : (i : Int) < (n : Int) := by omega
    have hwr : IntKind.i64.wrap ((c : Int) + 1) = (c : Int) + 1 := by rw [IntKind.wrap_i64]; omega
    obtain ⟨ob, hob⟩ : ∃ ob, o.isSome = ob := ⟨_, rfl⟩
    rw [hob]
    go_upto_region 7 with fail
    obtain ⟨Z, hZ⟩ : ∃ Z, wr = Z := ⟨_, rfl⟩
    rw [hZ] at hI ⊢
    clear hZ
    have hw := (h.below ms_len hI.bl).at ms_len hx
    have hbz := hI.at_
    have q5 := str_cells hw (by decide) (show x.cs[5]? = some (.string x.rc) from rfl)
    have hxb := cells_sub hw 6 (by decide) (ms_box x)
    have e1 := lab_eqlM x.box b
    have hS0 : Below Z.heap.size Z Z.drew := (Below.refl _ _).drew
    have hIr := hI.then hS0
    have hwz := CellsAt.below hw hS0
    obtain ⟨cs, hcs⟩ : ∃ cs, x.cs = cs := ⟨_, rfl⟩
    have hlen : cs.length = 11 := by rw [← hcs]; rfl
    have hone : ∀ v ∈ cs, v.oneCell' = true := by rw [← hcs]; exact ms_one x
    have hszc : (Try.prog.info? 26).map (·.size) = some cs.length := by rw [hlen]; exact hszM
    obtain ⟨v2, W2, hap, ho2, hg2⟩ := OwnR.push ms_ok hIr.out hIr.sz x x.cs.toArray rfl 26 (by omega)
    have hb2 := hIr.out.grew_below hIr.sz hg2
    have hI2 : TkI w b W2 o v2 (rm ++ [x]) := ⟨⟨hIr.at_.1.same (hb2.block _ (by omega)), Nat.lt_of_lt_of_le hIr.at_.2 hb2.size⟩, ⟨hIr.res.1.same (hb2.block _ (by omega)), Nat.lt_of_lt_of_le hIr.res.2 hb2.size⟩, ⟨hIr.m.1.same (hb2.block _ (by omega)), Nat.lt_of_lt_of_le hIr.m.2 hb2.size⟩, ho2, hIr.bl.trans (hb2.mono (by omega)), Nat.le_trans hIr.sz hb2.size⟩
    replace hwz : CellsAt Z.drew (y.add (i * 11)) cs := by rw [← hcs]; exact hwz
    rw [hcs] at hap
    clear ho2 hg2 hb2
    have hno : (¬ (inP u b x = true ∧ (c : Int) + 1 = j)) → (remK u b j 0 (l.take (i + 1)) = rm ++ [x] ∧ fndK u b j 0 (l.take (i + 1)) = o) := fun q => ⟨by rw [hrn.out, if_neg q], by rw [hfn.out, if_neg q]⟩
    cases h1 : eqs x.rc u
    · have f0 : (x.rc.toList == u.toList) = false := h1
      have hin : inP u b x = false := by unfold inP; rw [h1]; rfl
      obtain ⟨n1, n2⟩ := hno (fun q => by rw [hin] at q; exact absurd q.1 (by decide))
      have n3 : cntM u b (l.take (i + 1)) = c := by rw [hcn.out, hin]; rfl
      rw [← n1, ← n2] at hI2
      clear hw hIr hrn hfn hcn hno
      refine wp_region_held_drew (S := (fun W => Below Z.heap.size Z W)) (by kernel_rfl) (by exact hS0) ?_
      intro hHeld
      generalize Z.drew = w0 at *
      refine wpAnyH_take (i := 0) (v := ?_) (by simp only [List.getElem?_toArray, List.getElem?_cons_zero, List.getElem?_cons_succ]; rfl) (by kernel_rfl) (by kernel_rfl) (by kernel_rfl) (by exact fun _ _ _ h => h) (Or.inl ⟨by rfl, ?_⟩) (by assumption) ?_; rotate_left; (focus (intro w hSw; (try dsimp only at hSw); go_simp; try with_reducible rfl)); (try simp only [Act.put, List.setIfInBounds_toArray, List.set_cons_zero, List.set_cons_succ])
      refine wpAnyH_take (i := 1) (v := ?_) (by simp only [List.getElem?_toArray, List.getElem?_cons_zero, List.getElem?_cons_succ]; rfl) (by kernel_rfl) (by kernel_rfl) (by kernel_rfl) (by exact fun _ _ _ h => h) (Or.inl ⟨by rfl, ?_⟩) (by assumption) ?_; rotate_left; (focus (intro w hSw; (try dsimp only at hSw); go_simp; try with_reducible rfl)); (try simp only [Act.put, List.setIfInBounds_toArray, List.set_cons_zero, List.set_cons_succ])
      refine wpAnyH_take (i := 2) (v := ?_) (by simp only [List.getElem?_toArray, List.getElem?_cons_zero, List.getElem?_cons_succ]; rfl) (by kernel_rfl) (by kernel_rfl) (by kernel_rfl) (by exact fun _ _ _ h => h) (Or.inl ⟨by rfl, ?_⟩) (by assumption) ?_; rotate_left; (focus (intro w hSw; (try dsimp only at hSw); go_simp; try with_reducible rfl)); (try simp only [Act.put, List.setIfInBounds_toArray, List.set_cons_zero, List.set_cons_succ])
      refine wpAnyH_take (i := 3) (v := ?_) (by simp only [List.getElem?_toArray, List.getElem?_cons_zero, List.getElem?_cons_succ]; rfl) (by kernel_rfl) (by kernel_rfl) (by kernel_rfl) (by exact fun _ _ _ h => h) (Or.inl ⟨by rfl, ?_⟩) (by assumption) ?_; rotate_left; (focus (intro w hSw; (try dsimp only at hSw); go_simp; try with_reducible rfl)); (try simp only [Act.put, List.setIfInBounds_toArray, List.set_cons_zero, List.set_cons_succ])
      refine wpAnyH_take (i := 4) (v := _) (by simp only [List.getElem?_toArray, List.getElem?_cons_zero, List.getElem?_cons_succ]; rfl) (by kernel_rfl) (by kernel_rfl) (by kernel_rfl) (by exact fun _ _ _ h => h) (yields_cellM (by rfl) _ rfl ⟨(y.add (i * 11)).block, (y.add (i * 11)).off + 5, none⟩ rfl (.string x.rc) (fun _ q => (q.cell (World.block_lt_of_cell? _ _ q5)).trans q5) strM_load) (by assumption) ?_; (try simp only [Act.put, List.setIfInBounds_toArray, List.set_cons_zero, List.set_cons_succ])
      refine wpAnyH_take (i := 5) (v := ?_) (by simp only [List.getElem?_toArray, List.getElem?_cons_zero, List.getElem?_cons_succ]; rfl) (by kernel_rfl) (by kernel_rfl) (by kernel_rfl) (by exact fun _ _ _ h => h) (Or.inl ⟨by rfl, ?_⟩) (by assumption) ?_; rotate_left; (focus (intro w hSw; (try dsimp only at hSw); go_simp; try with_reducible rfl)); (try simp only [Act.put, List.setIfInBounds_toArray, List.set_cons_zero, List.set_cons_succ])
      refine wpAnyH_take (i := 6) (v := ?_) (by simp only [List.getElem?_toArray, List.getElem?_cons_zero, List.getElem?_cons_succ]; rfl) (by kernel_rfl) (by kernel_rfl) (by kernel_rfl) (by exact fun _ _ _ h => h) (Or.inl ⟨by rfl, ?_⟩) (by assumption) ?_; rotate_left; (focus (intro w hSw; (try dsimp only at hSw); go_simp; try with_reducible rfl)); (try simp only [Act.put, List.setIfInBounds_toArray, List.set_cons_zero, List.set_cons_succ])
      refine wpAnyH_take (i := 7) (v := ?_) (by simp only [List.getElem?_toArray, List.getElem?_cons_zero, List.getElem?_cons_succ]; rfl) (by kernel_rfl) (by kernel_rfl) (by kernel_rfl) (by exact fun _ _ _ h => h) (Or.inl ⟨by rfl, ?_⟩) (by assumption) ?_; rotate_left; (focus (intro w hSw; (try dsimp only at hSw); go_simp; try with_reducible rfl)); (try simp only [Act.put, List.setIfInBounds_toArray, List.set_cons_zero, List.set_cons_succ])
      refine wpAnyH_take (i := 8) (v := undef) (by simp only [List.getElem?_toArray, List.getElem?_cons_zero, List.getElem?_cons_succ]; rfl) (by kernel_rfl) (by kernel_rfl) (by kernel_rfl) (by exact fun _ _ _ h => h) (Or.inr ⟨by rfl, rfl⟩) (by assumption) ?_; (try simp only [Act.put, List.setIfInBounds_toArray, List.set_cons_zero, List.set_cons_succ])
      refine wpAnyH_take (i := 9) (v := undef) (by simp only [List.getElem?_toArray, List.getElem?_cons_zero, List.getElem?_cons_succ]; rfl) (by kernel_rfl) (by kernel_rfl) (by kernel_rfl) (by exact fun _ _ _ h => h) (Or.inr ⟨by rfl, rfl⟩) (by assumption) ?_; (try simp only [Act.put, List.setIfInBounds_toArray, List.set_cons_zero, List.set_cons_succ])
      refine wpAnyH_take (i := 10) (v := undef) (by simp only [List.getElem?_toArray, List.getElem?_cons_zero, List.getElem?_cons_succ]; rfl) (by kernel_rfl) (by kernel_rfl) (by kernel_rfl) (by exact fun _ _ _ h => h) (Or.inr ⟨by rfl, rfl⟩) (by assumption) ?_; (try simp only [Act.put, List.setIfInBounds_toArray, List.set_cons_zero, List.set_cons_succ])
      refine wpAnyH_take (i := 11) (v := undef) (by simp only [List.getElem?_toArray, List.getElem?_cons_zero, List.getElem?_cons_succ]; rfl) (by kernel_rfl) (by kernel_rfl) (by kernel_rfl) (by exact fun _ _ _ h => h) (Or.inr ⟨by rfl, rfl⟩) (by assumption) ?_; (try simp only [Act.put, List.setIfInBounds_toArray, List.set_cons_zero, List.set_cons_succ])
      refine wpAnyH_take (i := 12) (v := undef) (by simp only [List.getElem?_toArray, List.getElem?_cons_zero, List.getElem?_cons_succ]; rfl) (by kernel_rfl) (by kernel_rfl) (by kernel_rfl) (by exact fun _ _ _ h => h) (Or.inr ⟨by rfl, rfl⟩) (by assumption) ?_; (try simp only [Act.put, List.setIfInBounds_toArray, List.set_cons_zero, List.set_cons_succ])
      refine wpAnyH_take (i := 13) (v := undef) (by simp only [List.getElem?_toArray, List.getElem?_cons_zero, List.getElem?_cons_succ]; rfl) (by kernel_rfl) (by kernel_rfl) (by kernel_rfl) (by exact fun _ _ _ h => h) (Or.inr ⟨by rfl, rfl⟩) (by assumption) ?_; (try simp only [Act.put, List.setIfInBounds_toArray, List.set_cons_zero, List.set_cons_succ])
      refine wpAnyH_take (i := 14) (v := undef) (by simp only [List.getElem?_toArray, List.getElem?_cons_zero, List.getElem?_cons_succ]; rfl) (by kernel_rfl) (by kernel_rfl) (by kernel_rfl) (by exact fun _ _ _ h => h) (Or.inr ⟨by rfl, rfl⟩) (by assumption) ?_; (try simp only [Act.put, List.setIfInBounds_toArray, List.set_cons_zero, List.set_cons_succ])
      refine wpAnyH_take (i := 15) (v := ?_) (by simp only [List.getElem?_toArray, List.getElem?_cons_zero, List.getElem?_cons_succ]; rfl) (by kernel_rfl) (by kernel_rfl) (by kernel_rfl) (by exact fun _ _ _ h => h) (Or.inl ⟨by rfl, ?_⟩) (by assumption) ?_; rotate_left; (focus (intro w hSw; (try dsimp only at hSw); go_simp; try with_reducible rfl)); (try simp only [Act.put, List.setIfInBounds_toArray, List.set_cons_zero, List.set_cons_succ])
      refine wpAnyH_done (by kernel_rfl) ?_ _
      go_wp2_with (first | (refine wpList_load_at rfl _ rfl (y.add (i * 11)) rfl cs hwz hundM rfl hszc ?_) | (refine wpList_build1 ms_ok (by decide) rfl _ rfl cs rfl hlen ?_) | (refine wpList_append rfl _ _ rfl rfl rfl rfl hap ?_) | fail)
      exact ⟨⟨i + 1, v2, by omega, by simp, rfl, by rw [n3], by rw [n2, hob], hI2⟩, by simp [Go.RowKit.intOf]; omega⟩
    have f0 : (x.rc.toList == u.toList) = true := h1
    cases h2 : labEq x.box b
    · rw [h2] at e1
      have hin : inP u b x = false := by unfold inP; rw [h1, h2]; rfl
      obtain ⟨n1, n2⟩ := hno (fun q => by rw [hin] at q; exact absurd q.1 (by decide))
      have n3 : cntM u b (l.take (i + 1)) = c := by rw [hcn.out, hin]; rfl
      rw [← n1, ← n2] at hI2
      clear hw hIr hrn hfn hcn hno
      refine wp_region_held_drew (S := (fun W => Below Z.heap.size Z W)) (by kernel_rfl) (by exact hS0) ?_
      intro hHeld
      generalize Z.drew = w0 at *
      refine wpAnyH_take (i := 0) (v := ?_) (by simp only [List.getElem?_toArray, List.getElem?_cons_zero, List.getElem?_cons_succ]; rfl) (by kernel_rfl) (by kernel_rfl) (by kernel_rfl) (by exact fun _ _ _ h => h) (Or.inl ⟨by rfl, ?_⟩) (by assumption) ?_; rotate_left; (focus (intro w hSw; (try dsimp only at hSw); go_simp; try with_reducible rfl)); (try simp only [Act.put, List.setIfInBounds_toArray, List.set_cons_zero, List.set_cons_succ])
      refine wpAnyH_take (i := 1) (v := ?_) (by simp only [List.getElem?_toArray, List.getElem?_cons_zero, List.getElem?_cons_succ]; rfl) (by kernel_rfl) (by kernel_rfl) (by kernel_rfl) (by exact fun _ _ _ h => h) (Or.inl ⟨by rfl, ?_⟩) (by assumption) ?_; rotate_left; (focus (intro w hSw; (try dsimp only at hSw); go_simp; try with_reducible rfl)); (try simp only [Act.put, List.setIfInBounds_toArray, List.set_cons_zero, List.set_cons_succ])
      refine wpAnyH_take (i := 2) (v := ?_) (by simp only [List.getElem?_toArray, List.getElem?_cons_zero, List.getElem?_cons_succ]; rfl) (by kernel_rfl) (by kernel_rfl) (by kernel_rfl) (by exact fun _ _ _ h => h) (Or.inl ⟨by rfl, ?_⟩) (by assumption) ?_; rotate_left; (focus (intro w hSw; (try dsimp only at hSw); go_simp; try with_reducible rfl)); (try simp only [Act.put, List.setIfInBounds_toArray, List.set_cons_zero, List.set_cons_succ])
      refine wpAnyH_take (i := 3) (v := ?_) (by simp only [List.getElem?_toArray, List.getElem?_cons_zero, List.getElem?_cons_succ]; rfl) (by kernel_rfl) (by kernel_rfl) (by kernel_rfl) (by exact fun _ _ _ h => h) (Or.inl ⟨by rfl, ?_⟩) (by assumption) ?_; rotate_left; (focus (intro w hSw; (try dsimp only at hSw); go_simp; try with_reducible rfl)); (try simp only [Act.put, List.setIfInBounds_toArray, List.set_cons_zero, List.set_cons_succ])
      refine wpAnyH_take (i := 4) (v := _) (by simp only [List.getElem?_toArray, List.getElem?_cons_zero, List.getElem?_cons_succ]; rfl) (by kernel_rfl) (by kernel_rfl) (by kernel_rfl) (by exact fun _ _ _ h => h) (yields_cellM (by rfl) _ rfl ⟨(y.add (i * 11)).block, (y.add (i * 11)).off + 5, none⟩ rfl (.string x.rc) (fun _ q => (q.cell (World.block_lt_of_cell? _ _ q5)).trans q5) strM_load) (by assumption) ?_; (try simp only [Act.put, List.setIfInBounds_toArray, List.set_cons_zero, List.set_cons_succ])
      refine wpAnyH_take (i := 5) (v := ?_) (by simp only [List.getElem?_toArray, List.getElem?_cons_zero, List.getElem?_cons_succ]; rfl) (by kernel_rfl) (by kernel_rfl) (by kernel_rfl) (by exact fun _ _ _ h => h) (Or.inl ⟨by rfl, ?_⟩) (by assumption) ?_; rotate_left; (focus (intro w hSw; (try dsimp only at hSw); go_simp; try with_reducible rfl)); (try simp only [Act.put, List.setIfInBounds_toArray, List.set_cons_zero, List.set_cons_succ])
      refine wpAnyH_take (i := 6) (v := ?_) (by simp only [List.getElem?_toArray, List.getElem?_cons_zero, List.getElem?_cons_succ]; rfl) (by kernel_rfl) (by kernel_rfl) (by kernel_rfl) (by exact fun _ _ _ h => h) (Or.inl ⟨by rfl, ?_⟩) (by assumption) ?_; rotate_left; (focus (intro w hSw; (try dsimp only at hSw); go_simp; try with_reducible rfl)); (try simp only [Act.put, List.setIfInBounds_toArray, List.set_cons_zero, List.set_cons_succ])
      refine wpAnyH_take (i := 7) (v := ?_) (by simp only [List.getElem?_toArray, List.getElem?_cons_zero, List.getElem?_cons_succ]; rfl) (by kernel_rfl) (by kernel_rfl) (by kernel_rfl) (by exact fun _ _ _ h => h) (Or.inl ⟨by rfl, ?_⟩) (by assumption) ?_; rotate_left; (focus (intro w hSw; (try dsimp only at hSw); go_simp; try with_reducible rfl)); (try simp only [Act.put, List.setIfInBounds_toArray, List.set_cons_zero, List.set_cons_succ])
      refine wpAnyH_take (i := 8) (v := ?_) (by simp only [List.getElem?_toArray, List.getElem?_cons_zero, List.getElem?_cons_succ]; rfl) (by kernel_rfl) (by kernel_rfl) (by kernel_rfl) (by exact fun _ _ _ h => h) (Or.inl ⟨by rfl, ?_⟩) (by assumption) ?_; rotate_left; (focus (intro w hSw; (try dsimp only at hSw); go_simp; try with_reducible rfl)); (try simp only [Act.put, List.setIfInBounds_toArray, List.set_cons_zero, List.set_cons_succ])
      refine wpAnyH_take (i := 9) (v := ?_) (by simp only [List.getElem?_toArray, List.getElem?_cons_zero, List.getElem?_cons_succ]; rfl) (by kernel_rfl) (by kernel_rfl) (by kernel_rfl) (by exact fun _ _ _ h => h) (Or.inl ⟨by rfl, ?_⟩) (by assumption) ?_; rotate_left; (focus (intro w hSw; (try dsimp only at hSw); go_simp; try with_reducible rfl)); (try simp only [Act.put, List.setIfInBounds_toArray, List.set_cons_zero, List.set_cons_succ])
      refine wpAnyH_take (i := 10) (v := ?_) (by simp only [List.getElem?_toArray, List.getElem?_cons_zero, List.getElem?_cons_succ]; rfl) (by kernel_rfl) (by kernel_rfl) (by kernel_rfl) (by exact fun _ _ _ h => h) (Or.inl ⟨by rfl, ?_⟩) (by assumption) ?_; rotate_left; (focus (intro w hSw; (try dsimp only at hSw); go_simp; try with_reducible rfl)); (try simp only [Act.put, List.setIfInBounds_toArray, List.set_cons_zero, List.set_cons_succ])
      refine wpAnyH_take (i := 11) (v := ?_) (by simp only [List.getElem?_toArray, List.getElem?_cons_zero, List.getElem?_cons_succ]; rfl) (by kernel_rfl) (by kernel_rfl) (by kernel_rfl) (by exact fun _ _ _ h => h) (Or.inl ⟨by rfl, ?_⟩) (by assumption) ?_; rotate_left; (focus (intro w hSw; (try dsimp only at hSw); go_simp; try with_reducible rfl)); (try simp only [Act.put, List.setIfInBounds_toArray, List.set_cons_zero, List.set_cons_succ])
      refine wpAnyH_take (i := 12) (v := _) (by simp only [List.getElem?_toArray, List.getElem?_cons_zero, List.getElem?_cons_succ]; rfl) (by kernel_rfl) (by kernel_rfl) (by kernel_rfl) (by exact fun _ _ _ h => h) (yields_at (by rfl) _ rfl ⟨(y.add (i * 11)).block, (y.add (i * 11)).off + 6, none⟩ rfl (lab4 x.box) (fun _ q => CellsAt.below hxb q) hundL rfl (hszL x.box)) (by assumption) ?_; (try simp only [Act.put, List.setIfInBounds_toArray, List.set_cons_zero, List.set_cons_succ])
      refine wpAnyH_take (i := 13) (v := _) (by simp only [List.getElem?_toArray, List.getElem?_cons_zero, List.getElem?_cons_succ]; rfl) (by kernel_rfl) (by kernel_rfl) (by kernel_rfl) (by exact fun _ _ _ h => h) (yields_row (by rfl) _ rfl w.heap.size rfl (lab4 b) (fun _ q => BlkL.range (stab_blk _ _ _ _ hbz q)) hundL rfl (hszL b)) (by assumption) ?_; (try simp only [Act.put, List.setIfInBounds_toArray, List.set_cons_zero, List.set_cons_succ])
      refine wpAnyH_take (i := 14) (v := ?_) (by simp only [List.getElem?_toArray, List.getElem?_cons_zero, List.getElem?_cons_succ]; rfl) (by kernel_rfl) (by kernel_rfl) (by kernel_rfl) (by exact fun _ _ _ h => h) (Or.inl ⟨by rfl, ?_⟩) (by assumption) ?_; rotate_left; (focus (intro w hSw; (try dsimp only at hSw); go_simp; try with_reducible rfl)); (try simp only [Act.put, List.setIfInBounds_toArray, List.set_cons_zero, List.set_cons_succ])
      refine wpAnyH_take (i := 15) (v := ?_) (by simp only [List.getElem?_toArray, List.getElem?_cons_zero, List.getElem?_cons_succ]; rfl) (by kernel_rfl) (by kernel_rfl) (by kernel_rfl) (by exact fun _ _ _ h => h) (Or.inl ⟨by rfl, ?_⟩) (by assumption) ?_; rotate_left; (focus (intro w hSw; (try dsimp only at hSw); go_simp; try with_reducible rfl)); (try simp only [Act.put, List.setIfInBounds_toArray, List.set_cons_zero, List.set_cons_succ])
      refine wpAnyH_done (by kernel_rfl) ?_ _
      go_wp2_with (first | (refine wpList_load_at rfl _ rfl (y.add (i * 11)) rfl cs hwz hundM rfl hszc ?_) | (refine wpList_build1 ms_ok (by decide) rfl _ rfl cs rfl hlen ?_) | (refine wpList_append rfl _ _ rfl rfl rfl rfl hap ?_) | fail)
      exact ⟨⟨i + 1, v2, by omega, by simp, rfl, by rw [n3], by rw [n2, hob], hI2⟩, by simp [Go.RowKit.intOf]; omega⟩
    rw [h2] at e1
    have hin : inP u b x = true := by unfold inP; rw [h1, h2]; rfl
    have n3 : cntM u b (l.take (i + 1)) = c + 1 := by rw [hcn.out, hin]; rfl
    by_cases hcj : (c : Int) + 1 = j
    · have n1 : remK u b j 0 (l.take (i + 1)) = rm := by rw [hrn.out, if_pos ⟨hin, hcj⟩, List.append_nil]
      have n2 : fndK u b j 0 (l.take (i + 1)) = some x := by rw [hfn.out, if_pos ⟨hin, hcj⟩]
      obtain ⟨W5, hW5, hth5, hm5, hk5⟩ := mput_any hIr.m (ds := cs) (by rw [hlen]; rfl) (by rw [hlen]; decide)
      have hother : ∀ q, q ≠ w.heap.size + 2 → W5.heap[q]? = Z.drew.heap[q]? := fun q hq => by rw [← hW5]; exact heap_setCells_other hq _ _ _
      have hs5 := (hk5 0 _ (Nat.zero_le _) (Below.refl _ _)).size
      have hI5 : TkI w b W5 (some x) v rm := ⟨⟨hIr.at_.1.same (hother _ (by omega)), Nat.lt_of_lt_of_le hIr.at_.2 hs5⟩, ⟨hIr.res.1.same (hother _ (by omega)), Nat.lt_of_lt_of_le hIr.res.2 hs5⟩, by show BlkL _ x.cs W5; rw [hcs]; exact hm5, hIr.out.keep fun q hq => hother q (by have := (hIr.out.lt hq).1; omega), hk5 _ _ (by omega) hIr.bl, Nat.le_trans hIr.sz hs5⟩
      rw [← n1, ← n2] at hI5
      clear hw hIr hrn hfn hcn hno hI2 hap hm5 hk5 hother hs5
      refine wp_region_held_drew (S := (fun W => Below Z.heap.size Z W)) (by kernel_rfl) (by exact hS0) ?_
      intro hHeld
      generalize Z.drew = w0 at *
      refine wpAnyH_take (i := 0) (v := ?_) (by simp only [List.getElem?_toArray, List.getElem?_cons_zero, List.getElem?_cons_succ]; rfl) (by kernel_rfl) (by kernel_rfl) (by kernel_rfl) (by exact fun _ _ _ h => h) (Or.inl ⟨by rfl, ?_⟩) (by assumption) ?_; rotate_left; (focus (intro w hSw; (try dsimp only at hSw); go_simp; try with_reducible rfl)); (try simp only [Act.put, List.setIfInBounds_toArray, List.set_cons_zero, List.set_cons_succ])
      refine wpAnyH_take (i := 1) (v := ?_) (by simp only [List.getElem?_toArray, List.getElem?_cons_zero, List.getElem?_cons_succ]; rfl) (by kernel_rfl) (by kernel_rfl) (by kernel_rfl) (by exact fun _ _ _ h => h) (Or.inl ⟨by rfl, ?_⟩) (by assumption) ?_; rotate_left; (focus (intro w hSw; (try dsimp only at hSw); go_simp; try with_reducible rfl)); (try simp only [Act.put, List.setIfInBounds_toArray, List.set_cons_zero, List.set_cons_succ])
      refine wpAnyH_take (i := 2) (v := ?_) (by simp only [List.getElem?_toArray, List.getElem?_cons_zero, List.getElem?_cons_succ]; rfl) (by kernel_rfl) (by kernel_rfl) (by kernel_rfl) (by exact fun _ _ _ h => h) (Or.inl ⟨by rfl, ?_⟩) (by assumption) ?_; rotate_left; (focus (intro w hSw; (try dsimp only at hSw); go_simp; try with_reducible rfl)); (try simp only [Act.put, List.setIfInBounds_toArray, List.set_cons_zero, List.set_cons_succ])
      refine wpAnyH_take (i := 3) (v := ?_) (by simp only [List.getElem?_toArray, List.getElem?_cons_zero, List.getElem?_cons_succ]; rfl) (by kernel_rfl) (by kernel_rfl) (by kernel_rfl) (by exact fun _ _ _ h => h) (Or.inl ⟨by rfl, ?_⟩) (by assumption) ?_; rotate_left; (focus (intro w hSw; (try dsimp only at hSw); go_simp; try with_reducible rfl)); (try simp only [Act.put, List.setIfInBounds_toArray, List.set_cons_zero, List.set_cons_succ])
      refine wpAnyH_take (i := 4) (v := _) (by simp only [List.getElem?_toArray, List.getElem?_cons_zero, List.getElem?_cons_succ]; rfl) (by kernel_rfl) (by kernel_rfl) (by kernel_rfl) (by exact fun _ _ _ h => h) (yields_cellM (by rfl) _ rfl ⟨(y.add (i * 11)).block, (y.add (i * 11)).off + 5, none⟩ rfl (.string x.rc) (fun _ q => (q.cell (World.block_lt_of_cell? _ _ q5)).trans q5) strM_load) (by assumption) ?_; (try simp only [Act.put, List.setIfInBounds_toArray, List.set_cons_zero, List.set_cons_succ])
      refine wpAnyH_take (i := 5) (v := ?_) (by simp only [List.getElem?_toArray, List.getElem?_cons_zero, List.getElem?_cons_succ]; rfl) (by kernel_rfl) (by kernel_rfl) (by kernel_rfl) (by exact fun _ _ _ h => h) (Or.inl ⟨by rfl, ?_⟩) (by assumption) ?_; rotate_left; (focus (intro w hSw; (try dsimp only at hSw); go_simp; try with_reducible rfl)); (try simp only [Act.put, List.setIfInBounds_toArray, List.set_cons_zero, List.set_cons_succ])
      refine wpAnyH_take (i := 6) (v := ?_) (by simp only [List.getElem?_toArray, List.getElem?_cons_zero, List.getElem?_cons_succ]; rfl) (by kernel_rfl) (by kernel_rfl) (by kernel_rfl) (by exact fun _ _ _ h => h) (Or.inl ⟨by rfl, ?_⟩) (by assumption) ?_; rotate_left; (focus (intro w hSw; (try dsimp only at hSw); go_simp; try with_reducible rfl)); (try simp only [Act.put, List.setIfInBounds_toArray, List.set_cons_zero, List.set_cons_succ])
      refine wpAnyH_take (i := 7) (v := ?_) (by simp only [List.getElem?_toArray, List.getElem?_cons_zero, List.getElem?_cons_succ]; rfl) (by kernel_rfl) (by kernel_rfl) (by kernel_rfl) (by exact fun _ _ _ h => h) (Or.inl ⟨by rfl, ?_⟩) (by assumption) ?_; rotate_left; (focus (intro w hSw; (try dsimp only at hSw); go_simp; try with_reducible rfl)); (try simp only [Act.put, List.setIfInBounds_toArray, List.set_cons_zero, List.set_cons_succ])
      refine wpAnyH_take (i := 8) (v := ?_) (by simp only [List.getElem?_toArray, List.getElem?_cons_zero, List.getElem?_cons_succ]; rfl) (by kernel_rfl) (by kernel_rfl) (by kernel_rfl) (by exact fun _ _ _ h => h) (Or.inl ⟨by rfl, ?_⟩) (by assumption) ?_; rotate_left; (focus (intro w hSw; (try dsimp only at hSw); go_simp; try with_reducible rfl)); (try simp only [Act.put, List.setIfInBounds_toArray, List.set_cons_zero, List.set_cons_succ])
      refine wpAnyH_take (i := 9) (v := ?_) (by simp only [List.getElem?_toArray, List.getElem?_cons_zero, List.getElem?_cons_succ]; rfl) (by kernel_rfl) (by kernel_rfl) (by kernel_rfl) (by exact fun _ _ _ h => h) (Or.inl ⟨by rfl, ?_⟩) (by assumption) ?_; rotate_left; (focus (intro w hSw; (try dsimp only at hSw); go_simp; try with_reducible rfl)); (try simp only [Act.put, List.setIfInBounds_toArray, List.set_cons_zero, List.set_cons_succ])
      refine wpAnyH_take (i := 10) (v := ?_) (by simp only [List.getElem?_toArray, List.getElem?_cons_zero, List.getElem?_cons_succ]; rfl) (by kernel_rfl) (by kernel_rfl) (by kernel_rfl) (by exact fun _ _ _ h => h) (Or.inl ⟨by rfl, ?_⟩) (by assumption) ?_; rotate_left; (focus (intro w hSw; (try dsimp only at hSw); go_simp; try with_reducible rfl)); (try simp only [Act.put, List.setIfInBounds_toArray, List.set_cons_zero, List.set_cons_succ])
      refine wpAnyH_take (i := 11) (v := ?_) (by simp only [List.getElem?_toArray, List.getElem?_cons_zero, List.getElem?_cons_succ]; rfl) (by kernel_rfl) (by kernel_rfl) (by kernel_rfl) (by exact fun _ _ _ h => h) (Or.inl ⟨by rfl, ?_⟩) (by assumption) ?_; rotate_left; (focus (intro w hSw; (try dsimp only at hSw); go_simp; try with_reducible rfl)); (try simp only [Act.put, List.setIfInBounds_toArray, List.set_cons_zero, List.set_cons_succ])
      refine wpAnyH_take (i := 12) (v := _) (by simp only [List.getElem?_toArray, List.getElem?_cons_zero, List.getElem?_cons_succ]; rfl) (by kernel_rfl) (by kernel_rfl) (by kernel_rfl) (by exact fun _ _ _ h => h) (yields_at (by rfl) _ rfl ⟨(y.add (i * 11)).block, (y.add (i * 11)).off + 6, none⟩ rfl (lab4 x.box) (fun _ q => CellsAt.below hxb q) hundL rfl (hszL x.box)) (by assumption) ?_; (try simp only [Act.put, List.setIfInBounds_toArray, List.set_cons_zero, List.set_cons_succ])
      refine wpAnyH_take (i := 13) (v := _) (by simp only [List.getElem?_toArray, List.getElem?_cons_zero, List.getElem?_cons_succ]; rfl) (by kernel_rfl) (by kernel_rfl) (by kernel_rfl) (by exact fun _ _ _ h => h) (yields_row (by rfl) _ rfl w.heap.size rfl (lab4 b) (fun _ q => BlkL.range (stab_blk _ _ _ _ hbz q)) hundL rfl (hszL b)) (by assumption) ?_; (try simp only [Act.put, List.setIfInBounds_toArray, List.set_cons_zero, List.set_cons_succ])
      refine wpAnyH_take (i := 14) (v := ?_) (by simp only [List.getElem?_toArray, List.getElem?_cons_zero, List.getElem?_cons_succ]; rfl) (by kernel_rfl) (by kernel_rfl) (by kernel_rfl) (by exact fun _ _ _ h => h) (Or.inl ⟨by rfl, ?_⟩) (by assumption) ?_; rotate_left; (focus (intro w hSw; (try dsimp only at hSw); go_simp; try with_reducible rfl)); (try simp only [Act.put, List.setIfInBounds_toArray, List.set_cons_zero, List.set_cons_succ])
      refine wpAnyH_take (i := 15) (v := ?_) (by simp only [List.getElem?_toArray, List.getElem?_cons_zero, List.getElem?_cons_succ]; rfl) (by kernel_rfl) (by kernel_rfl) (by kernel_rfl) (by exact fun _ _ _ h => h) (Or.inl ⟨by rfl, ?_⟩) (by assumption) ?_; rotate_left; (focus (intro w hSw; (try dsimp only at hSw); go_simp; try with_reducible rfl)); (try simp only [Act.put, List.setIfInBounds_toArray, List.set_cons_zero, List.set_cons_succ])
      refine wpAnyH_done (by kernel_rfl) ?_ _
      go_wp2_with (first | (refine wpList_load_at rfl _ rfl (y.add (i * 11)) rfl cs hwz hundM rfl hszc ?_) | (refine wpList_store_row rfl _ _ rfl (w.heap.size + 2) rfl cs rfl hth5 hszc hone hW5 ?_) | fail)
      exact ⟨⟨i + 1, v, by omega, by simp, rfl, by rw [n3]; simp; omega, by rw [n2]; rfl, hI5⟩, by simp [Go.RowKit.intOf]; omega⟩
    · obtain ⟨n1, n2⟩ := hno (fun q => hcj q.2)
      rw [← n1, ← n2] at hI2
      clear hw hIr hrn hfn hcn hno
      refine wp_region_held_drew (S := (fun W => Below Z.heap.size Z W)) (by kernel_rfl) (by exact hS0) ?_
      intro hHeld
      generalize Z.drew = w0 at *
      refine wpAnyH_take (i := 0) (v := ?_) (by simp only [List.getElem?_toArray, List.getElem?_cons_zero, List.getElem?_cons_succ]; rfl) (by kernel_rfl) (by kernel_rfl) (by kernel_rfl) (by exact fun _ _ _ h => h) (Or.inl ⟨by rfl, ?_⟩) (by assumption) ?_; rotate_left; (focus (intro w hSw; (try dsimp only at hSw); go_simp; try with_reducible rfl)); (try simp only [Act.put, List.setIfInBounds_toArray, List.set_cons_zero, List.set_cons_succ])
      refine wpAnyH_take (i := 1) (v := ?_) (by simp only [List.getElem?_toArray, List.getElem?_cons_zero, List.getElem?_cons_succ]; rfl) (by kernel_rfl) (by kernel_rfl) (by kernel_rfl) (by exact fun _ _ _ h => h) (Or.inl ⟨by rfl, ?_⟩) (by assumption) ?_; rotate_left; (focus (intro w hSw; (try dsimp only at hSw); go_simp; try with_reducible rfl)); (try simp only [Act.put, List.setIfInBounds_toArray, List.set_cons_zero, List.set_cons_succ])
      refine wpAnyH_take (i := 2) (v := ?_) (by simp only [List.getElem?_toArray, List.getElem?_cons_zero, List.getElem?_cons_succ]; rfl) (by kernel_rfl) (by kernel_rfl) (by kernel_rfl) (by exact fun _ _ _ h => h) (Or.inl ⟨by rfl, ?_⟩) (by assumption) ?_; rotate_left; (focus (intro w hSw; (try dsimp only at hSw); go_simp; try with_reducible rfl)); (try simp only [Act.put, List.setIfInBounds_toArray, List.set_cons_zero, List.set_cons_succ])
      refine wpAnyH_take (i := 3) (v := ?_) (by simp only [List.getElem?_toArray, List.getElem?_cons_zero, List.getElem?_cons_succ]; rfl) (by kernel_rfl) (by kernel_rfl) (by kernel_rfl) (by exact fun _ _ _ h => h) (Or.inl ⟨by rfl, ?_⟩) (by assumption) ?_; rotate_left; (focus (intro w hSw; (try dsimp only at hSw); go_simp; try with_reducible rfl)); (try simp only [Act.put, List.setIfInBounds_toArray, List.set_cons_zero, List.set_cons_succ])
      refine wpAnyH_take (i := 4) (v := _) (by simp only [List.getElem?_toArray, List.getElem?_cons_zero, List.getElem?_cons_succ]; rfl) (by kernel_rfl) (by kernel_rfl) (by kernel_rfl) (by exact fun _ _ _ h => h) (yields_cellM (by rfl) _ rfl ⟨(y.add (i * 11)).block, (y.add (i * 11)).off + 5, none⟩ rfl (.string x.rc) (fun _ q => (q.cell (World.block_lt_of_cell? _ _ q5)).trans q5) strM_load) (by assumption) ?_; (try simp only [Act.put, List.setIfInBounds_toArray, List.set_cons_zero, List.set_cons_succ])
      refine wpAnyH_take (i := 5) (v := ?_) (by simp only [List.getElem?_toArray, List.getElem?_cons_zero, List.getElem?_cons_succ]; rfl) (by kernel_rfl) (by kernel_rfl) (by kernel_rfl) (by exact fun _ _ _ h => h) (Or.inl ⟨by rfl, ?_⟩) (by assumption) ?_; rotate_left; (focus (intro w hSw; (try dsimp only at hSw); go_simp; try with_reducible rfl)); (try simp only [Act.put, List.setIfInBounds_toArray, List.set_cons_zero, List.set_cons_succ])
      refine wpAnyH_take (i := 6) (v := ?_) (by simp only [List.getElem?_toArray, List.getElem?_cons_zero, List.getElem?_cons_succ]; rfl) (by kernel_rfl) (by kernel_rfl) (by kernel_rfl) (by exact fun _ _ _ h => h) (Or.inl ⟨by rfl, ?_⟩) (by assumption) ?_; rotate_left; (focus (intro w hSw; (try dsimp only at hSw); go_simp; try with_reducible rfl)); (try simp only [Act.put, List.setIfInBounds_toArray, List.set_cons_zero, List.set_cons_succ])
      refine wpAnyH_take (i := 7) (v := ?_) (by simp only [List.getElem?_toArray, List.getElem?_cons_zero, List.getElem?_cons_succ]; rfl) (by kernel_rfl) (by kernel_rfl) (by kernel_rfl) (by exact fun _ _ _ h => h) (Or.inl ⟨by rfl, ?_⟩) (by assumption) ?_; rotate_left; (focus (intro w hSw; (try dsimp only at hSw); go_simp; try with_reducible rfl)); (try simp only [Act.put, List.setIfInBounds_toArray, List.set_cons_zero, List.set_cons_succ])
      refine wpAnyH_take (i := 8) (v := ?_) (by simp only [List.getElem?_toArray, List.getElem?_cons_zero, List.getElem?_cons_succ]; rfl) (by kernel_rfl) (by kernel_rfl) (by kernel_rfl) (by exact fun _ _ _ h => h) (Or.inl ⟨by rfl, ?_⟩) (by assumption) ?_; rotate_left; (focus (intro w hSw; (try dsimp only at hSw); go_simp; try with_reducible rfl)); (try simp only [Act.put, List.setIfInBounds_toArray, List.set_cons_zero, List.set_cons_succ])
      refine wpAnyH_take (i := 9) (v := ?_) (by simp only [List.getElem?_toArray, List.getElem?_cons_zero, List.getElem?_cons_succ]; rfl) (by kernel_rfl) (by kernel_rfl) (by kernel_rfl) (by exact fun _ _ _ h => h) (Or.inl ⟨by rfl, ?_⟩) (by assumption) ?_; rotate_left; (focus (intro w hSw; (try dsimp only at hSw); go_simp; try with_reducible rfl)); (try simp only [Act.put, List.setIfInBounds_toArray, List.set_cons_zero, List.set_cons_succ])
      refine wpAnyH_take (i := 10) (v := ?_) (by simp only [List.getElem?_toArray, List.getElem?_cons_zero, List.getElem?_cons_succ]; rfl) (by kernel_rfl) (by kernel_rfl) (by kernel_rfl) (by exact fun _ _ _ h => h) (Or.inl ⟨by rfl, ?_⟩) (by assumption) ?_; rotate_left; (focus (intro w hSw; (try dsimp only at hSw); go_simp; try with_reducible rfl)); (try simp only [Act.put, List.setIfInBounds_toArray, List.set_cons_zero, List.set_cons_succ])
      refine wpAnyH_take (i := 11) (v := ?_) (by simp only [List.getElem?_toArray, List.getElem?_cons_zero, List.getElem?_cons_succ]; rfl) (by kernel_rfl) (by kernel_rfl) (by kernel_rfl) (by exact fun _ _ _ h => h) (Or.inl ⟨by rfl, ?_⟩) (by assumption) ?_; rotate_left; (focus (intro w hSw; (try dsimp only at hSw); go_simp; try with_reducible rfl)); (try simp only [Act.put, List.setIfInBounds_toArray, List.set_cons_zero, List.set_cons_succ])
      refine wpAnyH_take (i := 12) (v := _) (by simp only [List.getElem?_toArray, List.getElem?_cons_zero, List.getElem?_cons_succ]; rfl) (by kernel_rfl) (by kernel_rfl) (by kernel_rfl) (by exact fun _ _ _ h => h) (yields_at (by rfl) _ rfl ⟨(y.add (i * 11)).block, (y.add (i * 11)).off + 6, none⟩ rfl (lab4 x.box) (fun _ q => CellsAt.below hxb q) hundL rfl (hszL x.box)) (by assumption) ?_; (try simp only [Act.put, List.setIfInBounds_toArray, List.set_cons_zero, List.set_cons_succ])
      refine wpAnyH_take (i := 13) (v := _) (by simp only [List.getElem?_toArray, List.getElem?_cons_zero, List.getElem?_cons_succ]; rfl) (by kernel_rfl) (by kernel_rfl) (by kernel_rfl) (by exact fun _ _ _ h => h) (yields_row (by rfl) _ rfl w.heap.size rfl (lab4 b) (fun _ q => BlkL.range (stab_blk _ _ _ _ hbz q)) hundL rfl (hszL b)) (by assumption) ?_; (try simp only [Act.put, List.setIfInBounds_toArray, List.set_cons_zero, List.set_cons_succ])
      refine wpAnyH_take (i := 14) (v := ?_) (by simp only [List.getElem?_toArray, List.getElem?_cons_zero, List.getElem?_cons_succ]; rfl) (by kernel_rfl) (by kernel_rfl) (by kernel_rfl) (by exact fun _ _ _ h => h) (Or.inl ⟨by rfl, ?_⟩) (by assumption) ?_; rotate_left; (focus (intro w hSw; (try dsimp only at hSw); go_simp; try with_reducible rfl)); (try simp only [Act.put, List.setIfInBounds_toArray, List.set_cons_zero, List.set_cons_succ])
      refine wpAnyH_take (i := 15) (v := ?_) (by simp only [List.getElem?_toArray, List.getElem?_cons_zero, List.getElem?_cons_succ]; rfl) (by kernel_rfl) (by kernel_rfl) (by kernel_rfl) (by exact fun _ _ _ h => h) (Or.inl ⟨by rfl, ?_⟩) (by assumption) ?_; rotate_left; (focus (intro w hSw; (try dsimp only at hSw); go_simp; try with_reducible rfl)); (try simp only [Act.put, List.setIfInBounds_toArray, List.set_cons_zero, List.set_cons_succ])
      refine wpAnyH_done (by kernel_rfl) ?_ _
      go_wp2_with (first | (refine wpList_load_at rfl _ rfl (y.add (i * 11)) rfl cs hwz hundM rfl hszc ?_) | (refine wpList_build1 ms_ok (by decide) rfl _ rfl cs rfl hlen ?_) | (refine wpList_append rfl _ _ rfl rfl rfl rfl hap ?_) | fail)
      exact ⟨⟨i + 1, v2, by omega, by simp, rfl, by rw [n3]; simp, by rw [n2, hob], hI2⟩, by simp [Go.RowKit.intOf]; omega⟩
  · obtain rfl : i = n := by omega
    have i1 : ¬ (i : Int) < (i : Int) := by omega
    rw [List.take_of_length_le (by rw [hn.out]; exact Nat.le_refl _)] at hI ⊢
    have hQo := hQ.out
    unfold TakeR at hQo
    obtain ⟨o, ho⟩ : ∃ o, fndK u b j 0 l = o := ⟨_, rfl⟩
    obtain ⟨rm, hrm⟩ : ∃ rm, remK u b j 0 l = rm := ⟨_, rfl⟩
    rw [ho, hrm] at hI
    rw [ho] at hQo ⊢
    rw [hrm] at hQo
    replace hQo : Aside (_ = Q) := hQo
    clear hrm ho hrl
    cases o with
    | none =>
      obtain ⟨W5, hW5, hth5, hm5, hk5⟩ := mput_any hI.res (ds := zeroM.cs) rfl (by decide)
      have hfin := hk5 _ _ (Nat.le_succ _) hI.bl
      have hr5 := hm5.range
      clear hI hm5 hk5
      go_wp2_with (first | (refine wpList_store_row rfl _ _ rfl (w.heap.size + 1) rfl zeroM.cs rfl hth5 hszM (ms_one zeroM) hW5 ?_) | fail)
      refine bodyPost_ret (v := .tuple #[.slice none 0 0, .agg zeroM.cs.toArray, .int .i64 2]) (results_rowM rfl _ _ (w.heap.size + 1) (.slice none 0 0) rfl rfl (.int .i64 2) rfl zeroM.cs hr5 hundM rfl hszM) rfl ?_
      rw [← hQo.out]
      exact ⟨hfin, rfl⟩
    | some x =>
      obtain ⟨cs, hcs⟩ : ∃ cs, x.cs = cs := ⟨_, rfl⟩
      have hlen : cs.length = 11 := by rw [← hcs]; rfl
      have hone : ∀ v ∈ cs, v.oneCell' = true := by rw [← hcs]; exact ms_one x
      have hszc : (Try.prog.info? 26).map (·.size) = some cs.length := by rw [hlen]; exact hszM
      go_upto_region 14 with fail
      obtain ⟨Z, hZ⟩ : ∃ Z, wr = Z := ⟨_, rfl⟩
      rw [hZ] at hI ⊢
      clear hZ
      have hI1 := hI.then (Below.refl Z.heap.size Z).drew
      have hmz : BlkL (w.heap.size + 2) cs Z.drew := by rw [← hcs]; exact hI1.m
      have hS : BlkL (w.heap.size + 2) cs Z.drew := hmz
      obtain ⟨W5, hW5, hth5, hm5, hk5⟩ := mput_any hI1.res (ds := cs) (by rw [hlen]; rfl) (by rw [hlen]; decide)
      have hother : ∀ q, q ≠ w.heap.size + 1 → W5.heap[q]? = Z.drew.heap[q]? := fun q hq => by rw [← hW5]; exact heap_setCells_other hq _ _ _
      have hs5 := (hk5 0 _ (Nat.zero_le _) (Below.refl _ _)).size
      have hS5 : BlkL (w.heap.size + 2) cs W5 := ⟨hmz.1.same (hother _ (by omega)), Nat.lt_of_lt_of_le hmz.2 hs5⟩
      have ho5 := hI1.out.keep (w' := W5) fun q hq => hother q (by have := (hI1.out.lt hq).1; omega)
      have hfin := hk5 _ _ (Nat.le_succ _) hI1.bl
      have hr5 := hm5.range
      clear hI hI1 hm5 hk5 hother hs5 hmz
      refine wp_region_held_drew (S := (fun W => BlkL (w.heap.size + 2) cs W)) (by kernel_rfl) (by exact hS) ?_
      intro hHeld
      refine wpAnyH_take (i := 0) (v := ?_) (by simp only [List.getElem?_toArray, List.getElem?_cons_zero, List.getElem?_cons_succ]; rfl) (by kernel_rfl) (by kernel_rfl) (by kernel_rfl) (by exact fun _ _ _ h => h) (Or.inl ⟨by rfl, ?_⟩) (by assumption) ?_; rotate_left; (focus (intro w hSw; (try dsimp only at hSw); go_simp; try with_reducible rfl)); (try simp only [Act.put, List.setIfInBounds_toArray, List.set_cons_zero, List.set_cons_succ])
      refine wpAnyH_take (i := 1) (v := _) (by simp only [List.getElem?_toArray, List.getElem?_cons_zero, List.getElem?_cons_succ]; rfl) (by kernel_rfl) (by kernel_rfl) (by kernel_rfl) (by exact fun _ _ _ h => h) (yields_row (by rfl) _ rfl (w.heap.size + 2) rfl cs (fun _ q => BlkL.range q) hundM rfl hszc) (by assumption) ?_; (try simp only [Act.put, List.setIfInBounds_toArray, List.set_cons_zero, List.set_cons_succ])
      refine wpAnyH_take (i := 2) (v := ?_) (by simp only [List.getElem?_toArray, List.getElem?_cons_zero, List.getElem?_cons_succ]; rfl) (by kernel_rfl) (by kernel_rfl) (by kernel_rfl) (by exact fun _ _ _ h => h) (Or.inl ⟨by rfl, ?_⟩) (by assumption) ?_; rotate_left; (focus (intro w hSw; (try dsimp only at hSw); go_simp; try with_reducible rfl)); (try simp only [Act.put, List.setIfInBounds_toArray, List.set_cons_zero, List.set_cons_succ])
      refine wpAnyH_ready (rs := [3]) (by kernel_rfl) (by simp) ?_
      refine AllReadyH.cons (by simp only [List.getElem?_toArray, List.getElem?_cons_zero, List.getElem?_cons_succ]; rfl) (fun K hK => ?_) AllReadyH.nil
      refine step_store_rowM rfl _ _ rfl (w.heap.size + 1) rfl cs rfl hth5 hszc hone hW5 ?_
      (try simp only [Act.put, List.setIfInBounds_toArray, List.set_cons_zero, List.set_cons_succ])
      refine hK.out _ _ (hS5) ?_
      clear hHeld hK
      intro hHeld
      (try simp only [Act.put, List.setIfInBounds_toArray, List.set_cons_zero, List.set_cons_succ])
      refine wpAnyH_take (i := 4) (v := ?_) (by simp only [List.getElem?_toArray, List.getElem?_cons_zero, List.getElem?_cons_succ]; rfl) (by kernel_rfl) (by kernel_rfl) (by kernel_rfl) (by exact fun _ _ _ h => h) (Or.inl ⟨by rfl, ?_⟩) (by assumption) ?_; rotate_left; (focus (intro w hSw; (try dsimp only at hSw); go_simp; try with_reducible rfl)); (try simp only [Act.put, List.setIfInBounds_toArray, List.set_cons_zero, List.set_cons_succ])
      refine wpAnyH_done (by kernel_rfl) ?_ _
      go_wp2_with fail
      refine bodyPost_ret (v := .tuple #[v, .agg cs.toArray, .int .i64 0]) (results_rowM rfl _ _ (w.heap.size + 1) v rfl rfl (.int .i64 0) rfl cs hr5 hundM rfl hszc) rfl ?_
      rw [← hQo.out]
      refine ⟨hfin, v, ?_, ho5.lower (by omega)⟩
      rw [hcs]
end Go.Proofs.Ytjpabjmicaopcaa
