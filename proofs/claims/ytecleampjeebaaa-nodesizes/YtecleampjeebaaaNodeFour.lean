/-
  PACKAGE node AS IT LANDED: its reader's label, rings, eight.
-/
import Derived.Test.YtecleampjeebaaaNodeTake
namespace Go.Proofs.Ytecleampjeebaaa
open Go.RowKit
set_option linter.unusedSimpArgs false
set_option linter.unusedVariables false

/-- Several bytes, one by one, and at once. -/
theorem numR_take (l : List UInt8) (p : Nat) : ∀ k, (p + k ≤ l.length → numR l ⟨p, 0⟩ k = ⟨p + k, 0⟩) ∧ (l.length < p + k → p ≤ l.length → (numR l ⟨p, 0⟩ k).err = 8)
  | 0 => ⟨fun _ => rfl, fun h1 h2 => by omega⟩
  | k + 1 => by
    obtain ⟨h1, h2⟩ := numR_take l p k
    refine ⟨fun h => ?_, fun h hp => ?_⟩
    · rw [numR, h1 (by omega)]
      unfold u8R
      rw [if_pos rfl, if_pos (by show p + k < l.length; omega)]
      rfl
    · rw [numR]
      by_cases hk : p + k ≤ l.length
      · rw [h1 hk]
        unfold u8R
        rw [if_pos rfl, if_neg (by show ¬ p + k < l.length; omega)]
      · have := h2 (by omega) hp
        rw [u8R_bad (by rw [this]; decide), this]
theorem byte_take {l : List UInt8} {p k j : Nat} (h : p + k ≤ l.length) (hj : j < k) (d : UInt8) : ((((l.drop p).take k).getD j d).toNat) = u8V l (numR l ⟨p, 0⟩ j) := by
  rw [(numR_take l p j).1 (by omega)]
  have e : u8V l ⟨p + j, 0⟩ = (l.getD (p + j) 0).toNat := if_pos ⟨rfl, by show p + j < l.length; omega⟩
  rw [e]
  have hpj : p + j < l.length := by omega
  simp [List.getD_eq_getElem?_getD, List.getElem?_take, hj, List.getElem?_drop, List.getElem?_eq_getElem hpj]
theorem labR_num (l : List UInt8) (r : Rd) : labR l r = numR l r 4 := rfl
theorem labV_num (l : List UInt8) (r : Rd) : labV l r = ⟨(u8V l (numR l r 0) : Nat), (u8V l (numR l r 1) : Nat), (u8V l (numR l r 2) : Nat), (u8V l (numR l r 3) : Nat)⟩ := rfl
/-- What take makes of several bytes, as they are read one by one. -/
theorem got_num {g B : Nat} {l : List UInt8} {w : World} {p k : Nat} {K : Value → World → Prop} {e : Ending} {w' : World} (hp : p ≤ l.length) (h : Got g B l w (takeR l p k) K e w') : Got g B l w (numR l ⟨p, 0⟩ k) K e w' := by
  obtain ⟨h1, ⟨he, v, h2, h3, h4⟩ | ⟨he, h2⟩⟩ := h
  · obtain ⟨hl, ht⟩ := takeR_zero he
    rw [ht] at h4
    refine ⟨h1, .inl ?_⟩
    rw [(numR_take l p k).1 hl]
    exact ⟨rfl, v, h2, h3, h4⟩
  · have hn : ¬ p + k ≤ l.length := fun hh => he (by unfold takeR; rw [if_pos hh])
    have h8 := (numR_take l p k).2 (by omega) hp
    refine ⟨h1, .inr ⟨by rw [h8]; decide, ?_⟩⟩
    rw [h8, h2]
    unfold takeR
    rw [if_neg hn]
theorem numR_zero {l : List UInt8} {p k : Nat} (hp : p ≤ l.length) (h : (numR l ⟨p, 0⟩ k).err = 0) : p + k ≤ l.length := by
  by_cases hn : p + k ≤ l.length
  · exact hn
  · have := (numR_take l p k).2 (by omega) hp
    rw [this] at h
    cases h
theorem RdN.le {W : World} {g B p : Nat} {l : List UInt8} (h : RdN W g B l p) : p ≤ l.length := by
  obtain ⟨a, n, cap, h⟩ := h
  exact h.le
theorem Got.mono {g B : Nat} {l : List UInt8} {w : World} {r : Rd} {K K' : Value → World → Prop} {e : Ending} {w' : World} (h : Got g B l w r K e w') (hk : ∀ v, r.err = 0 → K v w' → K' v w') : Got g B l w r K' e w' := by
  obtain ⟨h1, ⟨he, v, h2, h3, h4⟩ | h2⟩ := h
  · exact ⟨h1, .inl ⟨he, v, h2, hk v he h3, h4⟩⟩
  · exact ⟨h1, .inr h2⟩
/-- Four bytes of a row, as the walk loads them. -/
structure Fours (W : World) (y : Addr) (c0 c1 c2 c3 : Nat) : Prop where
  h0 : W.cell? y = some (.int .u8 (c0 : Int))
  h1 : W.cell? (y.add 1) = some (.int .u8 (c1 : Int))
  h2 : W.cell? (y.add 2) = some (.int .u8 (c2 : Int))
  h3 : W.cell? (y.add 3) = some (.int .u8 (c3 : Int))
theorem fours_of {W : World} {base : Nat} {v : Value} {l : List UInt8} {p : Nat} (h : p + 4 ≤ l.length) (ho : OwnB W base v ((l.drop p).take 4)) : ∃ g cap, v = .slice (some ⟨g, 0, none⟩) 4 cap ∧ base ≤ g ∧ W.cell? ⟨g, 0, none⟩ = some (.int .u8 (u8V l (numR l ⟨p, 0⟩ 0) : Nat)) ∧ W.cell? ⟨g, 1, none⟩ = some (.int .u8 (u8V l (numR l ⟨p, 0⟩ 1) : Nat)) ∧ W.cell? ⟨g, 2, none⟩ = some (.int .u8 (u8V l (numR l ⟨p, 0⟩ 2) : Nat)) ∧ W.cell? ⟨g, 3, none⟩ = some (.int .u8 (u8V l (numR l ⟨p, 0⟩ 3) : Nat)) := by
  have hrow : W.ownsRow base 5 1 v ((l.drop p).take 4).length (valsB ((l.drop p).take 4)) := ho
  have hlen : ((l.drop p).take 4).length = 4 := by simp; omega
  rcases ho.2 with ⟨rfl, h2⟩ | ⟨g, cap, cur, hv, hb, _⟩
  · omega
  · rw [hlen] at hv
    rw [hlen] at hrow
    subst hv
    have hc : ∀ j, j < 4 → W.cell? ⟨g, j, none⟩ = some (.int .u8 (u8V l (numR l ⟨p, 0⟩ j) : Nat)) := fun j hj => by
      rw [hrow.cellAt j (by omega), ← byte_take h hj 0]
      have hj2 : j < ((l.drop p).take 4).length := by omega
      rw [valsB, List.getElem?_map, List.getElem?_eq_getElem hj2, List.getD_eq_getElem?_getD, List.getElem?_eq_getElem hj2]
      rfl
    exact ⟨g, cap, rfl, hb, hc 0 (by omega), hc 1 (by omega), hc 2 (by omega), hc 3 (by omega)⟩
abbrev FourC (W : World) (g c0 c1 c2 c3 : Nat) : Prop := W.cell? ⟨g, 0, none⟩ = some (.int .u8 (c0 : Int)) ∧ W.cell? ⟨g, 1, none⟩ = some (.int .u8 (c1 : Int)) ∧ W.cell? ⟨g, 2, none⟩ = some (.int .u8 (c2 : Int)) ∧ W.cell? ⟨g, 3, none⟩ = some (.int .u8 (c3 : Int))
set_option maxHeartbeats 4000000 in
theorem label_any (g B : Nat) (l : List UInt8) (r : Rd) (h0 : r.err = 0) (w : World) (h : RdN w g B l r.p) :
    Calls Try.prog 55 #[.pointer (some ⟨g, 0, none⟩)] w (Got g B l w (labR l r) fun v _ => v = (labV l r).v) := by
  obtain ⟨p, er⟩ := r
  obtain rfl : er = 0 := h0
  have hle := h.le
  have hgB := h.lt
  have u0 := u8V_lt l (numR l ⟨p, 0⟩ 0)
  have u1 := u8V_lt l (numR l ⟨p, 0⟩ 1)
  have u2 := u8V_lt l (numR l ⟨p, 0⟩ 2)
  have u3 := u8V_lt l (numR l ⟨p, 0⟩ 3)
  have ba := (alloc_below w (.cells #[.int .i64 0, .int .i64 0, .int .i64 0, .int .i64 0] 23))
  have hx : LBox (w.alloc (.cells #[.int .i64 0, .int .i64 0, .int .i64 0, .int .i64 0] 23)) w.heap.size ⟨0, 0, 0, 0⟩ := lbox_alloc w ⟨0, 0, 0, 0⟩ _
  have hlt : w.heap.size < (w.alloc (.cells #[.int .i64 0, .int .i64 0, .int .i64 0, .int .i64 0] 23)).heap.size := by simp
  have hsz : (w.alloc (.cells #[.int .i64 0, .int .i64 0, .int .i64 0, .int .i64 0] 23)).heap.size = w.heap.size + 1 := World.size_alloc _ _
  have k := (take_any g B l p 4 (by omega) (w.alloc (.cells #[.int .i64 0, .int .i64 0, .int .i64 0, .int .i64 0] 23)) (h.past (ba.mono h.lt.2)))
  rw [labR_num, labV_num]
  have hf := fun (W : World) (v : Value) (hp : p + 4 ≤ l.length) => fours_of (W := W) (base := w.heap.size + 1) (v := v) hp
  have hz := numR_zero (l := l) (k := 4) hle
  have hgn := fun (W : World) (e : Ending) => got_num (g := g) (B := B) (w := w.alloc (.cells #[.int .i64 0, .int .i64 0, .int .i64 0, .int .i64 0] 23)) (e := e) (w' := W) (k := 4) (K := fun v w' => OwnB w' (w.heap.size + 1) v ((l.drop p).take 4)) hle
  generalize u8V l (numR l ⟨p, 0⟩ 0) = x0 at *
  generalize u8V l (numR l ⟨p, 0⟩ 1) = x1 at *
  generalize u8V l (numR l ⟨p, 0⟩ 2) = x2 at *
  generalize u8V l (numR l ⟨p, 0⟩ 3) = x3 at *
  generalize numR l ⟨p, 0⟩ 4 = r4 at *
  rw [hsz] at k
  go_enter Try.func55, Try.ntmps55
  go_wp2_with fail
  generalize w.alloc (.cells #[.int .i64 0, .int .i64 0, .int .i64 0, .int .i64 0] 23) = W0 at *
  refine k.mono ?_
  intro e W hq
  replace hq := hgn W e hq
  obtain ⟨hT, ⟨he, v, rfl, ho, hR⟩ | ⟨he, rfl⟩⟩ := hq
  · obtain ⟨b, cap, rfl, hb, c0, c1, c2, c3⟩ := hf W v (hz he) ho
    have hS0 : FourC W.drew b x0 x1 x2 x3 := ⟨c0, c1, c2, c3⟩
    have hL : LBox W w.heap.size ⟨0, 0, 0, 0⟩ := hx.same (hT.block _ (by omega) (fun q => by injection q; omega))
    have w0 : IntKind.i64.wrap (x0 : Int) = (x0 : Int) := by rw [IntKind.wrap_i64]; omega
    have w1 : IntKind.i64.wrap (x1 : Int) = (x1 : Int) := by rw [IntKind.wrap_i64]; omega
    have w2 : IntKind.i64.wrap (x2 : Int) = (x2 : Int) := by rw [IntKind.wrap_i64]; omega
    have w3 : IntKind.i64.wrap (x3 : Int) = (x3 : Int) := by rw [IntKind.wrap_i64]; omega
    have hLd : LBox W.drew w.heap.size ⟨0, 0, 0, 0⟩ := hL
    have z : LBox (((((W.setCell ⟨w.heap.size, 0, none⟩ (.int .i64 (x0 : Int))).setCell ⟨w.heap.size, 1, none⟩ (.int .i64 (x1 : Int))).setCell ⟨w.heap.size, 2, none⟩ (.int .i64 (x2 : Int))).setCell ⟨w.heap.size, 3, none⟩ (.int .i64 (x3 : Int))).drew) w.heap.size ⟨(x0 : Int), (x1 : Int), (x2 : Int), (x3 : Int)⟩ := (((hL.set0 _).set1 _).set2 _).set3 _
    have b5 : Below w.heap.size W (((((W.setCell ⟨w.heap.size, 0, none⟩ (.int .i64 (x0 : Int))).setCell ⟨w.heap.size, 1, none⟩ (.int .i64 (x1 : Int))).setCell ⟨w.heap.size, 2, none⟩ (.int .i64 (x2 : Int))).setCell ⟨w.heap.size, 3, none⟩ (.int .i64 (x3 : Int))).drew) := (((((Below.refl _ W).setCell (p := ⟨w.heap.size, 0, none⟩) (Nat.le_refl _) _).setCell (p := ⟨w.heap.size, 1, none⟩) (Nat.le_refl _) _).setCell (p := ⟨w.heap.size, 2, none⟩) (Nat.le_refl _) _).setCell (p := ⟨w.heap.size, 3, none⟩) (Nat.le_refl _) _).drew
    have hR5 := hR.past (b5.mono hgB.2)
    have hT5 := (((Rest.refl g w).past (Nat.le_refl _) ba).trans hT).past (Nat.le_refl _) b5
    obtain ⟨f0, f1, f2, f3⟩ := hL.2
    obtain ⟨d0, d1, d2, d3⟩ := hL.1
    have hS1 : FourC (((((W.setCell ⟨w.heap.size, 0, none⟩ (.int .i64 (x0 : Int))).setCell ⟨w.heap.size, 1, none⟩ (.int .i64 (x1 : Int))).setCell ⟨w.heap.size, 2, none⟩ (.int .i64 (x2 : Int))).setCell ⟨w.heap.size, 3, none⟩ (.int .i64 (x3 : Int))).drew) b x0 x1 x2 x3 := by
      have bb : Below (w.heap.size + 1) W W := Below.refl _ _
      have hne : b ≠ w.heap.size := by omega
      refine ⟨?_, ?_, ?_, ?_⟩ <;> simp [World.cell?_setCell_other, hne, c0, c1, c2, c3]
    clear k hf hz hgn ho hx hLd hT hR b5 ba hsz hlt
    go_wp2_with fail
    refine wp_region_held_drew (S := (fun W => FourC W b x0 x1 x2 x3)) (by kernel_rfl) (by first | exact hS0 | exact hS1) ?_
    intro hHeld
    first | (refine wpAnyH_take (i := 0) (v := ?_) (by simp only [List.getElem?_toArray, List.getElem?_cons_zero, List.getElem?_cons_succ]; rfl) (by kernel_rfl) (by kernel_rfl) (by kernel_rfl) (by exact fun _ _ _ h => h) (Or.inl ⟨by rfl, ?_⟩) (by assumption) ?_; rotate_left; (focus (intro w hSw; (try dsimp only at hSw); go_simp; try with_reducible rfl)); simp only [Act.put, List.setIfInBounds_toArray, List.set_cons_zero, List.set_cons_succ, w0, w1, w2, w3]) | (refine wpAnyH_take (i := 0) (v := undef) (by simp only [List.getElem?_toArray, List.getElem?_cons_zero, List.getElem?_cons_succ]; rfl) (by kernel_rfl) (by kernel_rfl) (by kernel_rfl) (by exact fun _ _ _ h => h) (Or.inr ⟨by rfl, rfl⟩) (by assumption) ?_; simp only [Act.put, List.setIfInBounds_toArray, List.set_cons_zero, List.set_cons_succ, w0, w1, w2, w3]) | fail
    first | (refine wpAnyH_take (i := 1) (v := ?_) (by simp only [List.getElem?_toArray, List.getElem?_cons_zero, List.getElem?_cons_succ]; rfl) (by kernel_rfl) (by kernel_rfl) (by kernel_rfl) (by exact fun _ _ _ h => h) (Or.inl ⟨by rfl, ?_⟩) (by assumption) ?_; rotate_left; (focus (intro w hSw; (try dsimp only at hSw); go_simp; try with_reducible rfl)); simp only [Act.put, List.setIfInBounds_toArray, List.set_cons_zero, List.set_cons_succ, w0, w1, w2, w3]) | (refine wpAnyH_take (i := 1) (v := undef) (by simp only [List.getElem?_toArray, List.getElem?_cons_zero, List.getElem?_cons_succ]; rfl) (by kernel_rfl) (by kernel_rfl) (by kernel_rfl) (by exact fun _ _ _ h => h) (Or.inr ⟨by rfl, rfl⟩) (by assumption) ?_; simp only [Act.put, List.setIfInBounds_toArray, List.set_cons_zero, List.set_cons_succ, w0, w1, w2, w3]) | fail
    first | (refine wpAnyH_take (i := 2) (v := ?_) (by simp only [List.getElem?_toArray, List.getElem?_cons_zero, List.getElem?_cons_succ]; rfl) (by kernel_rfl) (by kernel_rfl) (by kernel_rfl) (by exact fun _ _ _ h => h) (Or.inl ⟨by rfl, ?_⟩) (by assumption) ?_; rotate_left; (focus (intro w hSw; (try dsimp only at hSw); go_simp; try with_reducible rfl)); simp only [Act.put, List.setIfInBounds_toArray, List.set_cons_zero, List.set_cons_succ, w0, w1, w2, w3]) | (refine wpAnyH_take (i := 2) (v := undef) (by simp only [List.getElem?_toArray, List.getElem?_cons_zero, List.getElem?_cons_succ]; rfl) (by kernel_rfl) (by kernel_rfl) (by kernel_rfl) (by exact fun _ _ _ h => h) (Or.inr ⟨by rfl, rfl⟩) (by assumption) ?_; simp only [Act.put, List.setIfInBounds_toArray, List.set_cons_zero, List.set_cons_succ, w0, w1, w2, w3]) | fail
    first | (refine wpAnyH_take (i := 3) (v := ?_) (by simp only [List.getElem?_toArray, List.getElem?_cons_zero, List.getElem?_cons_succ]; rfl) (by kernel_rfl) (by kernel_rfl) (by kernel_rfl) (by exact fun _ _ _ h => h) (Or.inl ⟨by rfl, ?_⟩) (by assumption) ?_; rotate_left; (focus (intro w hSw; (try dsimp only at hSw); go_simp; try with_reducible rfl)); simp only [Act.put, List.setIfInBounds_toArray, List.set_cons_zero, List.set_cons_succ, w0, w1, w2, w3]) | (refine wpAnyH_take (i := 3) (v := undef) (by simp only [List.getElem?_toArray, List.getElem?_cons_zero, List.getElem?_cons_succ]; rfl) (by kernel_rfl) (by kernel_rfl) (by kernel_rfl) (by exact fun _ _ _ h => h) (Or.inr ⟨by rfl, rfl⟩) (by assumption) ?_; simp only [Act.put, List.setIfInBounds_toArray, List.set_cons_zero, List.set_cons_succ, w0, w1, w2, w3]) | fail
    first | (refine wpAnyH_take (i := 4) (v := ?_) (by simp only [List.getElem?_toArray, List.getElem?_cons_zero, List.getElem?_cons_succ]; rfl) (by kernel_rfl) (by kernel_rfl) (by kernel_rfl) (by exact fun _ _ _ h => h) (Or.inl ⟨by rfl, ?_⟩) (by assumption) ?_; rotate_left; (focus (intro w hSw; (try dsimp only at hSw); go_simp; try with_reducible rfl)); simp only [Act.put, List.setIfInBounds_toArray, List.set_cons_zero, List.set_cons_succ, w0, w1, w2, w3]) | (refine wpAnyH_take (i := 4) (v := undef) (by simp only [List.getElem?_toArray, List.getElem?_cons_zero, List.getElem?_cons_succ]; rfl) (by kernel_rfl) (by kernel_rfl) (by kernel_rfl) (by exact fun _ _ _ h => h) (Or.inr ⟨by rfl, rfl⟩) (by assumption) ?_; simp only [Act.put, List.setIfInBounds_toArray, List.set_cons_zero, List.set_cons_succ, w0, w1, w2, w3]) | fail
    first | (refine wpAnyH_take (i := 5) (v := ?_) (by simp only [List.getElem?_toArray, List.getElem?_cons_zero, List.getElem?_cons_succ]; rfl) (by kernel_rfl) (by kernel_rfl) (by kernel_rfl) (by exact fun _ _ _ h => h) (Or.inl ⟨by rfl, ?_⟩) (by assumption) ?_; rotate_left; (focus (intro w hSw; (try dsimp only at hSw); go_simp; try with_reducible rfl)); simp only [Act.put, List.setIfInBounds_toArray, List.set_cons_zero, List.set_cons_succ, w0, w1, w2, w3]) | (refine wpAnyH_take (i := 5) (v := undef) (by simp only [List.getElem?_toArray, List.getElem?_cons_zero, List.getElem?_cons_succ]; rfl) (by kernel_rfl) (by kernel_rfl) (by kernel_rfl) (by exact fun _ _ _ h => h) (Or.inr ⟨by rfl, rfl⟩) (by assumption) ?_; simp only [Act.put, List.setIfInBounds_toArray, List.set_cons_zero, List.set_cons_succ, w0, w1, w2, w3]) | fail
    first | (refine wpAnyH_take (i := 6) (v := ?_) (by simp only [List.getElem?_toArray, List.getElem?_cons_zero, List.getElem?_cons_succ]; rfl) (by kernel_rfl) (by kernel_rfl) (by kernel_rfl) (by exact fun _ _ _ h => h) (Or.inl ⟨by rfl, ?_⟩) (by assumption) ?_; rotate_left; (focus (intro w hSw; (try dsimp only at hSw); go_simp; try with_reducible rfl)); simp only [Act.put, List.setIfInBounds_toArray, List.set_cons_zero, List.set_cons_succ, w0, w1, w2, w3]) | (refine wpAnyH_take (i := 6) (v := undef) (by simp only [List.getElem?_toArray, List.getElem?_cons_zero, List.getElem?_cons_succ]; rfl) (by kernel_rfl) (by kernel_rfl) (by kernel_rfl) (by exact fun _ _ _ h => h) (Or.inr ⟨by rfl, rfl⟩) (by assumption) ?_; simp only [Act.put, List.setIfInBounds_toArray, List.set_cons_zero, List.set_cons_succ, w0, w1, w2, w3]) | fail
    first | (refine wpAnyH_take (i := 7) (v := ?_) (by simp only [List.getElem?_toArray, List.getElem?_cons_zero, List.getElem?_cons_succ]; rfl) (by kernel_rfl) (by kernel_rfl) (by kernel_rfl) (by exact fun _ _ _ h => h) (Or.inl ⟨by rfl, ?_⟩) (by assumption) ?_; rotate_left; (focus (intro w hSw; (try dsimp only at hSw); go_simp; try with_reducible rfl)); simp only [Act.put, List.setIfInBounds_toArray, List.set_cons_zero, List.set_cons_succ, w0, w1, w2, w3]) | (refine wpAnyH_take (i := 7) (v := undef) (by simp only [List.getElem?_toArray, List.getElem?_cons_zero, List.getElem?_cons_succ]; rfl) (by kernel_rfl) (by kernel_rfl) (by kernel_rfl) (by exact fun _ _ _ h => h) (Or.inr ⟨by rfl, rfl⟩) (by assumption) ?_; simp only [Act.put, List.setIfInBounds_toArray, List.set_cons_zero, List.set_cons_succ, w0, w1, w2, w3]) | fail
    first | (refine wpAnyH_take (i := 8) (v := ?_) (by simp only [List.getElem?_toArray, List.getElem?_cons_zero, List.getElem?_cons_succ]; rfl) (by kernel_rfl) (by kernel_rfl) (by kernel_rfl) (by exact fun _ _ _ h => h) (Or.inl ⟨by rfl, ?_⟩) (by assumption) ?_; rotate_left; (focus (intro w hSw; (try dsimp only at hSw); go_simp; try with_reducible rfl)); simp only [Act.put, List.setIfInBounds_toArray, List.set_cons_zero, List.set_cons_succ, w0, w1, w2, w3]) | (refine wpAnyH_take (i := 8) (v := undef) (by simp only [List.getElem?_toArray, List.getElem?_cons_zero, List.getElem?_cons_succ]; rfl) (by kernel_rfl) (by kernel_rfl) (by kernel_rfl) (by exact fun _ _ _ h => h) (Or.inr ⟨by rfl, rfl⟩) (by assumption) ?_; simp only [Act.put, List.setIfInBounds_toArray, List.set_cons_zero, List.set_cons_succ, w0, w1, w2, w3]) | fail
    first | (refine wpAnyH_take (i := 9) (v := ?_) (by simp only [List.getElem?_toArray, List.getElem?_cons_zero, List.getElem?_cons_succ]; rfl) (by kernel_rfl) (by kernel_rfl) (by kernel_rfl) (by exact fun _ _ _ h => h) (Or.inl ⟨by rfl, ?_⟩) (by assumption) ?_; rotate_left; (focus (intro w hSw; (try dsimp only at hSw); go_simp; try with_reducible rfl)); simp only [Act.put, List.setIfInBounds_toArray, List.set_cons_zero, List.set_cons_succ, w0, w1, w2, w3]) | (refine wpAnyH_take (i := 9) (v := undef) (by simp only [List.getElem?_toArray, List.getElem?_cons_zero, List.getElem?_cons_succ]; rfl) (by kernel_rfl) (by kernel_rfl) (by kernel_rfl) (by exact fun _ _ _ h => h) (Or.inr ⟨by rfl, rfl⟩) (by assumption) ?_; simp only [Act.put, List.setIfInBounds_toArray, List.set_cons_zero, List.set_cons_succ, w0, w1, w2, w3]) | fail
    first | (refine wpAnyH_take (i := 10) (v := ?_) (by simp only [List.getElem?_toArray, List.getElem?_cons_zero, List.getElem?_cons_succ]; rfl) (by kernel_rfl) (by kernel_rfl) (by kernel_rfl) (by exact fun _ _ _ h => h) (Or.inl ⟨by rfl, ?_⟩) (by assumption) ?_; rotate_left; (focus (intro w hSw; (try dsimp only at hSw); go_simp; try with_reducible rfl)); simp only [Act.put, List.setIfInBounds_toArray, List.set_cons_zero, List.set_cons_succ, w0, w1, w2, w3]) | (refine wpAnyH_take (i := 10) (v := undef) (by simp only [List.getElem?_toArray, List.getElem?_cons_zero, List.getElem?_cons_succ]; rfl) (by kernel_rfl) (by kernel_rfl) (by kernel_rfl) (by exact fun _ _ _ h => h) (Or.inr ⟨by rfl, rfl⟩) (by assumption) ?_; simp only [Act.put, List.setIfInBounds_toArray, List.set_cons_zero, List.set_cons_succ, w0, w1, w2, w3]) | fail
    first | (refine wpAnyH_take (i := 11) (v := ?_) (by simp only [List.getElem?_toArray, List.getElem?_cons_zero, List.getElem?_cons_succ]; rfl) (by kernel_rfl) (by kernel_rfl) (by kernel_rfl) (by exact fun _ _ _ h => h) (Or.inl ⟨by rfl, ?_⟩) (by assumption) ?_; rotate_left; (focus (intro w hSw; (try dsimp only at hSw); go_simp; try with_reducible rfl)); simp only [Act.put, List.setIfInBounds_toArray, List.set_cons_zero, List.set_cons_succ, w0, w1, w2, w3]) | (refine wpAnyH_take (i := 11) (v := undef) (by simp only [List.getElem?_toArray, List.getElem?_cons_zero, List.getElem?_cons_succ]; rfl) (by kernel_rfl) (by kernel_rfl) (by kernel_rfl) (by exact fun _ _ _ h => h) (Or.inr ⟨by rfl, rfl⟩) (by assumption) ?_; simp only [Act.put, List.setIfInBounds_toArray, List.set_cons_zero, List.set_cons_succ, w0, w1, w2, w3]) | fail
    first | (refine wpAnyH_take (i := 12) (v := ?_) (by simp only [List.getElem?_toArray, List.getElem?_cons_zero, List.getElem?_cons_succ]; rfl) (by kernel_rfl) (by kernel_rfl) (by kernel_rfl) (by exact fun _ _ _ h => h) (Or.inl ⟨by rfl, ?_⟩) (by assumption) ?_; rotate_left; (focus (intro w hSw; (try dsimp only at hSw); go_simp; try with_reducible rfl)); simp only [Act.put, List.setIfInBounds_toArray, List.set_cons_zero, List.set_cons_succ, w0, w1, w2, w3]) | (refine wpAnyH_take (i := 12) (v := undef) (by simp only [List.getElem?_toArray, List.getElem?_cons_zero, List.getElem?_cons_succ]; rfl) (by kernel_rfl) (by kernel_rfl) (by kernel_rfl) (by exact fun _ _ _ h => h) (Or.inr ⟨by rfl, rfl⟩) (by assumption) ?_; simp only [Act.put, List.setIfInBounds_toArray, List.set_cons_zero, List.set_cons_succ, w0, w1, w2, w3]) | fail
    first | (refine wpAnyH_take (i := 13) (v := ?_) (by simp only [List.getElem?_toArray, List.getElem?_cons_zero, List.getElem?_cons_succ]; rfl) (by kernel_rfl) (by kernel_rfl) (by kernel_rfl) (by exact fun _ _ _ h => h) (Or.inl ⟨by rfl, ?_⟩) (by assumption) ?_; rotate_left; (focus (intro w hSw; (try dsimp only at hSw); go_simp; try with_reducible rfl)); simp only [Act.put, List.setIfInBounds_toArray, List.set_cons_zero, List.set_cons_succ, w0, w1, w2, w3]) | (refine wpAnyH_take (i := 13) (v := undef) (by simp only [List.getElem?_toArray, List.getElem?_cons_zero, List.getElem?_cons_succ]; rfl) (by kernel_rfl) (by kernel_rfl) (by kernel_rfl) (by exact fun _ _ _ h => h) (Or.inr ⟨by rfl, rfl⟩) (by assumption) ?_; simp only [Act.put, List.setIfInBounds_toArray, List.set_cons_zero, List.set_cons_succ, w0, w1, w2, w3]) | fail
    first | (refine wpAnyH_take (i := 14) (v := ?_) (by simp only [List.getElem?_toArray, List.getElem?_cons_zero, List.getElem?_cons_succ]; rfl) (by kernel_rfl) (by kernel_rfl) (by kernel_rfl) (by exact fun _ _ _ h => h) (Or.inl ⟨by rfl, ?_⟩) (by assumption) ?_; rotate_left; (focus (intro w hSw; (try dsimp only at hSw); go_simp; try with_reducible rfl)); simp only [Act.put, List.setIfInBounds_toArray, List.set_cons_zero, List.set_cons_succ, w0, w1, w2, w3]) | (refine wpAnyH_take (i := 14) (v := undef) (by simp only [List.getElem?_toArray, List.getElem?_cons_zero, List.getElem?_cons_succ]; rfl) (by kernel_rfl) (by kernel_rfl) (by kernel_rfl) (by exact fun _ _ _ h => h) (Or.inr ⟨by rfl, rfl⟩) (by assumption) ?_; simp only [Act.put, List.setIfInBounds_toArray, List.set_cons_zero, List.set_cons_succ, w0, w1, w2, w3]) | fail
    first | (refine wpAnyH_take (i := 15) (v := ?_) (by simp only [List.getElem?_toArray, List.getElem?_cons_zero, List.getElem?_cons_succ]; rfl) (by kernel_rfl) (by kernel_rfl) (by kernel_rfl) (by exact fun _ _ _ h => h) (Or.inl ⟨by rfl, ?_⟩) (by assumption) ?_; rotate_left; (focus (intro w hSw; (try dsimp only at hSw); go_simp; try with_reducible rfl)); simp only [Act.put, List.setIfInBounds_toArray, List.set_cons_zero, List.set_cons_succ, w0, w1, w2, w3]) | (refine wpAnyH_take (i := 15) (v := undef) (by simp only [List.getElem?_toArray, List.getElem?_cons_zero, List.getElem?_cons_succ]; rfl) (by kernel_rfl) (by kernel_rfl) (by kernel_rfl) (by exact fun _ _ _ h => h) (Or.inr ⟨by rfl, rfl⟩) (by assumption) ?_; simp only [Act.put, List.setIfInBounds_toArray, List.set_cons_zero, List.set_cons_succ, w0, w1, w2, w3]) | fail
    first | (refine wpAnyH_take (i := 16) (v := ?_) (by simp only [List.getElem?_toArray, List.getElem?_cons_zero, List.getElem?_cons_succ]; rfl) (by kernel_rfl) (by kernel_rfl) (by kernel_rfl) (by exact fun _ _ _ h => h) (Or.inl ⟨by rfl, ?_⟩) (by assumption) ?_; rotate_left; (focus (intro w hSw; (try dsimp only at hSw); go_simp; try with_reducible rfl)); simp only [Act.put, List.setIfInBounds_toArray, List.set_cons_zero, List.set_cons_succ, w0, w1, w2, w3]) | (refine wpAnyH_take (i := 16) (v := undef) (by simp only [List.getElem?_toArray, List.getElem?_cons_zero, List.getElem?_cons_succ]; rfl) (by kernel_rfl) (by kernel_rfl) (by kernel_rfl) (by exact fun _ _ _ h => h) (Or.inr ⟨by rfl, rfl⟩) (by assumption) ?_; simp only [Act.put, List.setIfInBounds_toArray, List.set_cons_zero, List.set_cons_succ, w0, w1, w2, w3]) | fail
    refine wpAnyH_ready (rs := [17]) (by kernel_rfl) (by simp) ?_; refine AllReadyH.cons (by simp only [List.getElem?_toArray, List.getElem?_cons_zero, List.getElem?_cons_succ]; rfl) (fun K hK => ?_) AllReadyH.nil; go_simp; refine hK.out _ _ (by first | exact hS0 | exact hS1) ?_; clear hHeld hK; intro hHeld; (try simp only [Act.put, List.setIfInBounds_toArray, List.set_cons_zero, List.set_cons_succ, w0, w1, w2, w3])
    refine wpAnyH_done (by kernel_rfl) ?_ _
    generalize (((((W.setCell ⟨w.heap.size, 0, none⟩ (.int .i64 (x0 : Int))).setCell ⟨w.heap.size, 1, none⟩ (.int .i64 (x1 : Int))).setCell ⟨w.heap.size, 2, none⟩ (.int .i64 (x2 : Int))).setCell ⟨w.heap.size, 3, none⟩ (.int .i64 (x3 : Int))).drew) = W5 at *
    clear d0 d1 d2 d3 f0 f1 f2 f3 hL c0 c1 c2 c3 hS0 hS1
    go_wp2_with fail
    exact bodyPost_ret (v := (⟨(x0 : Int), (x1 : Int), (x2 : Int), (x3 : Int)⟩ : Lab).v) (by simp [results, Try.results55, go_sem, z]) rfl ⟨hT5, .inl ⟨he, _, rfl, rfl, hR5⟩⟩
  · refine died ?_
    exact ⟨((Rest.refl g w).past (Nat.le_refl _) ba).trans hT, .inr ⟨he, rfl⟩⟩
set_option maxHeartbeats 4000000 in
theorem rings_any (g B : Nat) (l : List UInt8) (r : Rd) (h0 : r.err = 0) (w : World) (h : RdN w g B l r.p) :
    Calls Try.prog 57 #[.pointer (some ⟨g, 0, none⟩)] w (Got g B l w (labR l r) fun v _ => v = (labV l r).v) := by
  obtain ⟨p, er⟩ := r
  obtain rfl : er = 0 := h0
  have hle := h.le
  have hgB := h.lt
  have u0 := u8V_lt l (numR l ⟨p, 0⟩ 0)
  have u1 := u8V_lt l (numR l ⟨p, 0⟩ 1)
  have u2 := u8V_lt l (numR l ⟨p, 0⟩ 2)
  have u3 := u8V_lt l (numR l ⟨p, 0⟩ 3)
  have ba := (alloc_below w (.cells #[.int .i64 0, .int .i64 0, .int .i64 0, .int .i64 0] 26))
  have hx : LBox (w.alloc (.cells #[.int .i64 0, .int .i64 0, .int .i64 0, .int .i64 0] 26)) w.heap.size ⟨0, 0, 0, 0⟩ := lbox_alloc w ⟨0, 0, 0, 0⟩ _
  have hlt : w.heap.size < (w.alloc (.cells #[.int .i64 0, .int .i64 0, .int .i64 0, .int .i64 0] 26)).heap.size := by simp
  have hsz : (w.alloc (.cells #[.int .i64 0, .int .i64 0, .int .i64 0, .int .i64 0] 26)).heap.size = w.heap.size + 1 := World.size_alloc _ _
  have k := (take_any g B l p 4 (by omega) (w.alloc (.cells #[.int .i64 0, .int .i64 0, .int .i64 0, .int .i64 0] 26)) (h.past (ba.mono h.lt.2)))
  rw [labR_num, labV_num]
  have hf := fun (W : World) (v : Value) (hp : p + 4 ≤ l.length) => fours_of (W := W) (base := w.heap.size + 1) (v := v) hp
  have hz := numR_zero (l := l) (k := 4) hle
  have hgn := fun (W : World) (e : Ending) => got_num (g := g) (B := B) (w := w.alloc (.cells #[.int .i64 0, .int .i64 0, .int .i64 0, .int .i64 0] 26)) (e := e) (w' := W) (k := 4) (K := fun v w' => OwnB w' (w.heap.size + 1) v ((l.drop p).take 4)) hle
  generalize u8V l (numR l ⟨p, 0⟩ 0) = x0 at *
  generalize u8V l (numR l ⟨p, 0⟩ 1) = x1 at *
  generalize u8V l (numR l ⟨p, 0⟩ 2) = x2 at *
  generalize u8V l (numR l ⟨p, 0⟩ 3) = x3 at *
  generalize numR l ⟨p, 0⟩ 4 = r4 at *
  rw [hsz] at k
  go_enter Try.func57, Try.ntmps57
  go_wp2_with fail
  generalize w.alloc (.cells #[.int .i64 0, .int .i64 0, .int .i64 0, .int .i64 0] 26) = W0 at *
  refine k.mono ?_
  intro e W hq
  replace hq := hgn W e hq
  obtain ⟨hT, ⟨he, v, rfl, ho, hR⟩ | ⟨he, rfl⟩⟩ := hq
  · obtain ⟨b, cap, rfl, hb, c0, c1, c2, c3⟩ := hf W v (hz he) ho
    have hS0 : FourC W.drew b x0 x1 x2 x3 := ⟨c0, c1, c2, c3⟩
    have hL : LBox W w.heap.size ⟨0, 0, 0, 0⟩ := hx.same (hT.block _ (by omega) (fun q => by injection q; omega))
    have w0 : IntKind.i64.wrap (x0 : Int) = (x0 : Int) := by rw [IntKind.wrap_i64]; omega
    have w1 : IntKind.i64.wrap (x1 : Int) = (x1 : Int) := by rw [IntKind.wrap_i64]; omega
    have w2 : IntKind.i64.wrap (x2 : Int) = (x2 : Int) := by rw [IntKind.wrap_i64]; omega
    have w3 : IntKind.i64.wrap (x3 : Int) = (x3 : Int) := by rw [IntKind.wrap_i64]; omega
    have hLd : LBox W.drew w.heap.size ⟨0, 0, 0, 0⟩ := hL
    have z : LBox (((((W.setCell ⟨w.heap.size, 0, none⟩ (.int .i64 (x0 : Int))).setCell ⟨w.heap.size, 1, none⟩ (.int .i64 (x1 : Int))).setCell ⟨w.heap.size, 2, none⟩ (.int .i64 (x2 : Int))).setCell ⟨w.heap.size, 3, none⟩ (.int .i64 (x3 : Int))).drew) w.heap.size ⟨(x0 : Int), (x1 : Int), (x2 : Int), (x3 : Int)⟩ := (((hL.set0 _).set1 _).set2 _).set3 _
    have b5 : Below w.heap.size W (((((W.setCell ⟨w.heap.size, 0, none⟩ (.int .i64 (x0 : Int))).setCell ⟨w.heap.size, 1, none⟩ (.int .i64 (x1 : Int))).setCell ⟨w.heap.size, 2, none⟩ (.int .i64 (x2 : Int))).setCell ⟨w.heap.size, 3, none⟩ (.int .i64 (x3 : Int))).drew) := (((((Below.refl _ W).setCell (p := ⟨w.heap.size, 0, none⟩) (Nat.le_refl _) _).setCell (p := ⟨w.heap.size, 1, none⟩) (Nat.le_refl _) _).setCell (p := ⟨w.heap.size, 2, none⟩) (Nat.le_refl _) _).setCell (p := ⟨w.heap.size, 3, none⟩) (Nat.le_refl _) _).drew
    have hR5 := hR.past (b5.mono hgB.2)
    have hT5 := (((Rest.refl g w).past (Nat.le_refl _) ba).trans hT).past (Nat.le_refl _) b5
    obtain ⟨f0, f1, f2, f3⟩ := hL.2
    obtain ⟨d0, d1, d2, d3⟩ := hL.1
    have hS1 : FourC (((((W.setCell ⟨w.heap.size, 0, none⟩ (.int .i64 (x0 : Int))).setCell ⟨w.heap.size, 1, none⟩ (.int .i64 (x1 : Int))).setCell ⟨w.heap.size, 2, none⟩ (.int .i64 (x2 : Int))).setCell ⟨w.heap.size, 3, none⟩ (.int .i64 (x3 : Int))).drew) b x0 x1 x2 x3 := by
      have bb : Below (w.heap.size + 1) W W := Below.refl _ _
      have hne : b ≠ w.heap.size := by omega
      refine ⟨?_, ?_, ?_, ?_⟩ <;> simp [World.cell?_setCell_other, hne, c0, c1, c2, c3]
    clear k hf hz hgn ho hx hLd hT hR b5 ba hsz hlt
    go_wp2_with fail
    refine wp_region_held_drew (S := (fun W => FourC W b x0 x1 x2 x3)) (by kernel_rfl) (by first | exact hS0 | exact hS1) ?_
    intro hHeld
    first | (refine wpAnyH_take (i := 0) (v := ?_) (by simp only [List.getElem?_toArray, List.getElem?_cons_zero, List.getElem?_cons_succ]; rfl) (by kernel_rfl) (by kernel_rfl) (by kernel_rfl) (by exact fun _ _ _ h => h) (Or.inl ⟨by rfl, ?_⟩) (by assumption) ?_; rotate_left; (focus (intro w hSw; (try dsimp only at hSw); go_simp; try with_reducible rfl)); simp only [Act.put, List.setIfInBounds_toArray, List.set_cons_zero, List.set_cons_succ, w0, w1, w2, w3]) | (refine wpAnyH_take (i := 0) (v := undef) (by simp only [List.getElem?_toArray, List.getElem?_cons_zero, List.getElem?_cons_succ]; rfl) (by kernel_rfl) (by kernel_rfl) (by kernel_rfl) (by exact fun _ _ _ h => h) (Or.inr ⟨by rfl, rfl⟩) (by assumption) ?_; simp only [Act.put, List.setIfInBounds_toArray, List.set_cons_zero, List.set_cons_succ, w0, w1, w2, w3]) | fail
    first | (refine wpAnyH_take (i := 1) (v := ?_) (by simp only [List.getElem?_toArray, List.getElem?_cons_zero, List.getElem?_cons_succ]; rfl) (by kernel_rfl) (by kernel_rfl) (by kernel_rfl) (by exact fun _ _ _ h => h) (Or.inl ⟨by rfl, ?_⟩) (by assumption) ?_; rotate_left; (focus (intro w hSw; (try dsimp only at hSw); go_simp; try with_reducible rfl)); simp only [Act.put, List.setIfInBounds_toArray, List.set_cons_zero, List.set_cons_succ, w0, w1, w2, w3]) | (refine wpAnyH_take (i := 1) (v := undef) (by simp only [List.getElem?_toArray, List.getElem?_cons_zero, List.getElem?_cons_succ]; rfl) (by kernel_rfl) (by kernel_rfl) (by kernel_rfl) (by exact fun _ _ _ h => h) (Or.inr ⟨by rfl, rfl⟩) (by assumption) ?_; simp only [Act.put, List.setIfInBounds_toArray, List.set_cons_zero, List.set_cons_succ, w0, w1, w2, w3]) | fail
    first | (refine wpAnyH_take (i := 2) (v := ?_) (by simp only [List.getElem?_toArray, List.getElem?_cons_zero, List.getElem?_cons_succ]; rfl) (by kernel_rfl) (by kernel_rfl) (by kernel_rfl) (by exact fun _ _ _ h => h) (Or.inl ⟨by rfl, ?_⟩) (by assumption) ?_; rotate_left; (focus (intro w hSw; (try dsimp only at hSw); go_simp; try with_reducible rfl)); simp only [Act.put, List.setIfInBounds_toArray, List.set_cons_zero, List.set_cons_succ, w0, w1, w2, w3]) | (refine wpAnyH_take (i := 2) (v := undef) (by simp only [List.getElem?_toArray, List.getElem?_cons_zero, List.getElem?_cons_succ]; rfl) (by kernel_rfl) (by kernel_rfl) (by kernel_rfl) (by exact fun _ _ _ h => h) (Or.inr ⟨by rfl, rfl⟩) (by assumption) ?_; simp only [Act.put, List.setIfInBounds_toArray, List.set_cons_zero, List.set_cons_succ, w0, w1, w2, w3]) | fail
    first | (refine wpAnyH_take (i := 3) (v := ?_) (by simp only [List.getElem?_toArray, List.getElem?_cons_zero, List.getElem?_cons_succ]; rfl) (by kernel_rfl) (by kernel_rfl) (by kernel_rfl) (by exact fun _ _ _ h => h) (Or.inl ⟨by rfl, ?_⟩) (by assumption) ?_; rotate_left; (focus (intro w hSw; (try dsimp only at hSw); go_simp; try with_reducible rfl)); simp only [Act.put, List.setIfInBounds_toArray, List.set_cons_zero, List.set_cons_succ, w0, w1, w2, w3]) | (refine wpAnyH_take (i := 3) (v := undef) (by simp only [List.getElem?_toArray, List.getElem?_cons_zero, List.getElem?_cons_succ]; rfl) (by kernel_rfl) (by kernel_rfl) (by kernel_rfl) (by exact fun _ _ _ h => h) (Or.inr ⟨by rfl, rfl⟩) (by assumption) ?_; simp only [Act.put, List.setIfInBounds_toArray, List.set_cons_zero, List.set_cons_succ, w0, w1, w2, w3]) | fail
    first | (refine wpAnyH_take (i := 4) (v := ?_) (by simp only [List.getElem?_toArray, List.getElem?_cons_zero, List.getElem?_cons_succ]; rfl) (by kernel_rfl) (by kernel_rfl) (by kernel_rfl) (by exact fun _ _ _ h => h) (Or.inl ⟨by rfl, ?_⟩) (by assumption) ?_; rotate_left; (focus (intro w hSw; (try dsimp only at hSw); go_simp; try with_reducible rfl)); simp only [Act.put, List.setIfInBounds_toArray, List.set_cons_zero, List.set_cons_succ, w0, w1, w2, w3]) | (refine wpAnyH_take (i := 4) (v := undef) (by simp only [List.getElem?_toArray, List.getElem?_cons_zero, List.getElem?_cons_succ]; rfl) (by kernel_rfl) (by kernel_rfl) (by kernel_rfl) (by exact fun _ _ _ h => h) (Or.inr ⟨by rfl, rfl⟩) (by assumption) ?_; simp only [Act.put, List.setIfInBounds_toArray, List.set_cons_zero, List.set_cons_succ, w0, w1, w2, w3]) | fail
    first | (refine wpAnyH_take (i := 5) (v := ?_) (by simp only [List.getElem?_toArray, List.getElem?_cons_zero, List.getElem?_cons_succ]; rfl) (by kernel_rfl) (by kernel_rfl) (by kernel_rfl) (by exact fun _ _ _ h => h) (Or.inl ⟨by rfl, ?_⟩) (by assumption) ?_; rotate_left; (focus (intro w hSw; (try dsimp only at hSw); go_simp; try with_reducible rfl)); simp only [Act.put, List.setIfInBounds_toArray, List.set_cons_zero, List.set_cons_succ, w0, w1, w2, w3]) | (refine wpAnyH_take (i := 5) (v := undef) (by simp only [List.getElem?_toArray, List.getElem?_cons_zero, List.getElem?_cons_succ]; rfl) (by kernel_rfl) (by kernel_rfl) (by kernel_rfl) (by exact fun _ _ _ h => h) (Or.inr ⟨by rfl, rfl⟩) (by assumption) ?_; simp only [Act.put, List.setIfInBounds_toArray, List.set_cons_zero, List.set_cons_succ, w0, w1, w2, w3]) | fail
    first | (refine wpAnyH_take (i := 6) (v := ?_) (by simp only [List.getElem?_toArray, List.getElem?_cons_zero, List.getElem?_cons_succ]; rfl) (by kernel_rfl) (by kernel_rfl) (by kernel_rfl) (by exact fun _ _ _ h => h) (Or.inl ⟨by rfl, ?_⟩) (by assumption) ?_; rotate_left; (focus (intro w hSw; (try dsimp only at hSw); go_simp; try with_reducible rfl)); simp only [Act.put, List.setIfInBounds_toArray, List.set_cons_zero, List.set_cons_succ, w0, w1, w2, w3]) | (refine wpAnyH_take (i := 6) (v := undef) (by simp only [List.getElem?_toArray, List.getElem?_cons_zero, List.getElem?_cons_succ]; rfl) (by kernel_rfl) (by kernel_rfl) (by kernel_rfl) (by exact fun _ _ _ h => h) (Or.inr ⟨by rfl, rfl⟩) (by assumption) ?_; simp only [Act.put, List.setIfInBounds_toArray, List.set_cons_zero, List.set_cons_succ, w0, w1, w2, w3]) | fail
    first | (refine wpAnyH_take (i := 7) (v := ?_) (by simp only [List.getElem?_toArray, List.getElem?_cons_zero, List.getElem?_cons_succ]; rfl) (by kernel_rfl) (by kernel_rfl) (by kernel_rfl) (by exact fun _ _ _ h => h) (Or.inl ⟨by rfl, ?_⟩) (by assumption) ?_; rotate_left; (focus (intro w hSw; (try dsimp only at hSw); go_simp; try with_reducible rfl)); simp only [Act.put, List.setIfInBounds_toArray, List.set_cons_zero, List.set_cons_succ, w0, w1, w2, w3]) | (refine wpAnyH_take (i := 7) (v := undef) (by simp only [List.getElem?_toArray, List.getElem?_cons_zero, List.getElem?_cons_succ]; rfl) (by kernel_rfl) (by kernel_rfl) (by kernel_rfl) (by exact fun _ _ _ h => h) (Or.inr ⟨by rfl, rfl⟩) (by assumption) ?_; simp only [Act.put, List.setIfInBounds_toArray, List.set_cons_zero, List.set_cons_succ, w0, w1, w2, w3]) | fail
    first | (refine wpAnyH_take (i := 8) (v := ?_) (by simp only [List.getElem?_toArray, List.getElem?_cons_zero, List.getElem?_cons_succ]; rfl) (by kernel_rfl) (by kernel_rfl) (by kernel_rfl) (by exact fun _ _ _ h => h) (Or.inl ⟨by rfl, ?_⟩) (by assumption) ?_; rotate_left; (focus (intro w hSw; (try dsimp only at hSw); go_simp; try with_reducible rfl)); simp only [Act.put, List.setIfInBounds_toArray, List.set_cons_zero, List.set_cons_succ, w0, w1, w2, w3]) | (refine wpAnyH_take (i := 8) (v := undef) (by simp only [List.getElem?_toArray, List.getElem?_cons_zero, List.getElem?_cons_succ]; rfl) (by kernel_rfl) (by kernel_rfl) (by kernel_rfl) (by exact fun _ _ _ h => h) (Or.inr ⟨by rfl, rfl⟩) (by assumption) ?_; simp only [Act.put, List.setIfInBounds_toArray, List.set_cons_zero, List.set_cons_succ, w0, w1, w2, w3]) | fail
    first | (refine wpAnyH_take (i := 9) (v := ?_) (by simp only [List.getElem?_toArray, List.getElem?_cons_zero, List.getElem?_cons_succ]; rfl) (by kernel_rfl) (by kernel_rfl) (by kernel_rfl) (by exact fun _ _ _ h => h) (Or.inl ⟨by rfl, ?_⟩) (by assumption) ?_; rotate_left; (focus (intro w hSw; (try dsimp only at hSw); go_simp; try with_reducible rfl)); simp only [Act.put, List.setIfInBounds_toArray, List.set_cons_zero, List.set_cons_succ, w0, w1, w2, w3]) | (refine wpAnyH_take (i := 9) (v := undef) (by simp only [List.getElem?_toArray, List.getElem?_cons_zero, List.getElem?_cons_succ]; rfl) (by kernel_rfl) (by kernel_rfl) (by kernel_rfl) (by exact fun _ _ _ h => h) (Or.inr ⟨by rfl, rfl⟩) (by assumption) ?_; simp only [Act.put, List.setIfInBounds_toArray, List.set_cons_zero, List.set_cons_succ, w0, w1, w2, w3]) | fail
    first | (refine wpAnyH_take (i := 10) (v := ?_) (by simp only [List.getElem?_toArray, List.getElem?_cons_zero, List.getElem?_cons_succ]; rfl) (by kernel_rfl) (by kernel_rfl) (by kernel_rfl) (by exact fun _ _ _ h => h) (Or.inl ⟨by rfl, ?_⟩) (by assumption) ?_; rotate_left; (focus (intro w hSw; (try dsimp only at hSw); go_simp; try with_reducible rfl)); simp only [Act.put, List.setIfInBounds_toArray, List.set_cons_zero, List.set_cons_succ, w0, w1, w2, w3]) | (refine wpAnyH_take (i := 10) (v := undef) (by simp only [List.getElem?_toArray, List.getElem?_cons_zero, List.getElem?_cons_succ]; rfl) (by kernel_rfl) (by kernel_rfl) (by kernel_rfl) (by exact fun _ _ _ h => h) (Or.inr ⟨by rfl, rfl⟩) (by assumption) ?_; simp only [Act.put, List.setIfInBounds_toArray, List.set_cons_zero, List.set_cons_succ, w0, w1, w2, w3]) | fail
    first | (refine wpAnyH_take (i := 11) (v := ?_) (by simp only [List.getElem?_toArray, List.getElem?_cons_zero, List.getElem?_cons_succ]; rfl) (by kernel_rfl) (by kernel_rfl) (by kernel_rfl) (by exact fun _ _ _ h => h) (Or.inl ⟨by rfl, ?_⟩) (by assumption) ?_; rotate_left; (focus (intro w hSw; (try dsimp only at hSw); go_simp; try with_reducible rfl)); simp only [Act.put, List.setIfInBounds_toArray, List.set_cons_zero, List.set_cons_succ, w0, w1, w2, w3]) | (refine wpAnyH_take (i := 11) (v := undef) (by simp only [List.getElem?_toArray, List.getElem?_cons_zero, List.getElem?_cons_succ]; rfl) (by kernel_rfl) (by kernel_rfl) (by kernel_rfl) (by exact fun _ _ _ h => h) (Or.inr ⟨by rfl, rfl⟩) (by assumption) ?_; simp only [Act.put, List.setIfInBounds_toArray, List.set_cons_zero, List.set_cons_succ, w0, w1, w2, w3]) | fail
    first | (refine wpAnyH_take (i := 12) (v := ?_) (by simp only [List.getElem?_toArray, List.getElem?_cons_zero, List.getElem?_cons_succ]; rfl) (by kernel_rfl) (by kernel_rfl) (by kernel_rfl) (by exact fun _ _ _ h => h) (Or.inl ⟨by rfl, ?_⟩) (by assumption) ?_; rotate_left; (focus (intro w hSw; (try dsimp only at hSw); go_simp; try with_reducible rfl)); simp only [Act.put, List.setIfInBounds_toArray, List.set_cons_zero, List.set_cons_succ, w0, w1, w2, w3]) | (refine wpAnyH_take (i := 12) (v := undef) (by simp only [List.getElem?_toArray, List.getElem?_cons_zero, List.getElem?_cons_succ]; rfl) (by kernel_rfl) (by kernel_rfl) (by kernel_rfl) (by exact fun _ _ _ h => h) (Or.inr ⟨by rfl, rfl⟩) (by assumption) ?_; simp only [Act.put, List.setIfInBounds_toArray, List.set_cons_zero, List.set_cons_succ, w0, w1, w2, w3]) | fail
    first | (refine wpAnyH_take (i := 13) (v := ?_) (by simp only [List.getElem?_toArray, List.getElem?_cons_zero, List.getElem?_cons_succ]; rfl) (by kernel_rfl) (by kernel_rfl) (by kernel_rfl) (by exact fun _ _ _ h => h) (Or.inl ⟨by rfl, ?_⟩) (by assumption) ?_; rotate_left; (focus (intro w hSw; (try dsimp only at hSw); go_simp; try with_reducible rfl)); simp only [Act.put, List.setIfInBounds_toArray, List.set_cons_zero, List.set_cons_succ, w0, w1, w2, w3]) | (refine wpAnyH_take (i := 13) (v := undef) (by simp only [List.getElem?_toArray, List.getElem?_cons_zero, List.getElem?_cons_succ]; rfl) (by kernel_rfl) (by kernel_rfl) (by kernel_rfl) (by exact fun _ _ _ h => h) (Or.inr ⟨by rfl, rfl⟩) (by assumption) ?_; simp only [Act.put, List.setIfInBounds_toArray, List.set_cons_zero, List.set_cons_succ, w0, w1, w2, w3]) | fail
    first | (refine wpAnyH_take (i := 14) (v := ?_) (by simp only [List.getElem?_toArray, List.getElem?_cons_zero, List.getElem?_cons_succ]; rfl) (by kernel_rfl) (by kernel_rfl) (by kernel_rfl) (by exact fun _ _ _ h => h) (Or.inl ⟨by rfl, ?_⟩) (by assumption) ?_; rotate_left; (focus (intro w hSw; (try dsimp only at hSw); go_simp; try with_reducible rfl)); simp only [Act.put, List.setIfInBounds_toArray, List.set_cons_zero, List.set_cons_succ, w0, w1, w2, w3]) | (refine wpAnyH_take (i := 14) (v := undef) (by simp only [List.getElem?_toArray, List.getElem?_cons_zero, List.getElem?_cons_succ]; rfl) (by kernel_rfl) (by kernel_rfl) (by kernel_rfl) (by exact fun _ _ _ h => h) (Or.inr ⟨by rfl, rfl⟩) (by assumption) ?_; simp only [Act.put, List.setIfInBounds_toArray, List.set_cons_zero, List.set_cons_succ, w0, w1, w2, w3]) | fail
    first | (refine wpAnyH_take (i := 15) (v := ?_) (by simp only [List.getElem?_toArray, List.getElem?_cons_zero, List.getElem?_cons_succ]; rfl) (by kernel_rfl) (by kernel_rfl) (by kernel_rfl) (by exact fun _ _ _ h => h) (Or.inl ⟨by rfl, ?_⟩) (by assumption) ?_; rotate_left; (focus (intro w hSw; (try dsimp only at hSw); go_simp; try with_reducible rfl)); simp only [Act.put, List.setIfInBounds_toArray, List.set_cons_zero, List.set_cons_succ, w0, w1, w2, w3]) | (refine wpAnyH_take (i := 15) (v := undef) (by simp only [List.getElem?_toArray, List.getElem?_cons_zero, List.getElem?_cons_succ]; rfl) (by kernel_rfl) (by kernel_rfl) (by kernel_rfl) (by exact fun _ _ _ h => h) (Or.inr ⟨by rfl, rfl⟩) (by assumption) ?_; simp only [Act.put, List.setIfInBounds_toArray, List.set_cons_zero, List.set_cons_succ, w0, w1, w2, w3]) | fail
    first | (refine wpAnyH_take (i := 16) (v := ?_) (by simp only [List.getElem?_toArray, List.getElem?_cons_zero, List.getElem?_cons_succ]; rfl) (by kernel_rfl) (by kernel_rfl) (by kernel_rfl) (by exact fun _ _ _ h => h) (Or.inl ⟨by rfl, ?_⟩) (by assumption) ?_; rotate_left; (focus (intro w hSw; (try dsimp only at hSw); go_simp; try with_reducible rfl)); simp only [Act.put, List.setIfInBounds_toArray, List.set_cons_zero, List.set_cons_succ, w0, w1, w2, w3]) | (refine wpAnyH_take (i := 16) (v := undef) (by simp only [List.getElem?_toArray, List.getElem?_cons_zero, List.getElem?_cons_succ]; rfl) (by kernel_rfl) (by kernel_rfl) (by kernel_rfl) (by exact fun _ _ _ h => h) (Or.inr ⟨by rfl, rfl⟩) (by assumption) ?_; simp only [Act.put, List.setIfInBounds_toArray, List.set_cons_zero, List.set_cons_succ, w0, w1, w2, w3]) | fail
    refine wpAnyH_ready (rs := [17]) (by kernel_rfl) (by simp) ?_; refine AllReadyH.cons (by simp only [List.getElem?_toArray, List.getElem?_cons_zero, List.getElem?_cons_succ]; rfl) (fun K hK => ?_) AllReadyH.nil; go_simp; refine hK.out _ _ (by first | exact hS0 | exact hS1) ?_; clear hHeld hK; intro hHeld; (try simp only [Act.put, List.setIfInBounds_toArray, List.set_cons_zero, List.set_cons_succ, w0, w1, w2, w3])
    refine wpAnyH_done (by kernel_rfl) ?_ _
    generalize (((((W.setCell ⟨w.heap.size, 0, none⟩ (.int .i64 (x0 : Int))).setCell ⟨w.heap.size, 1, none⟩ (.int .i64 (x1 : Int))).setCell ⟨w.heap.size, 2, none⟩ (.int .i64 (x2 : Int))).setCell ⟨w.heap.size, 3, none⟩ (.int .i64 (x3 : Int))).drew) = W5 at *
    clear d0 d1 d2 d3 f0 f1 f2 f3 hL c0 c1 c2 c3 hS0 hS1
    go_wp2_with fail
    exact bodyPost_ret (v := (⟨(x0 : Int), (x1 : Int), (x2 : Int), (x3 : Int)⟩ : Lab).v) (by simp [results, Try.results57, go_sem, z]) rfl ⟨hT5, .inl ⟨he, _, rfl, rfl, hR5⟩⟩
  · refine died ?_
    exact ⟨((Rest.refl g w).past (Nat.le_refl _) ba).trans hT, .inr ⟨he, rfl⟩⟩
end Go.Proofs.Ytecleampjeebaaa
