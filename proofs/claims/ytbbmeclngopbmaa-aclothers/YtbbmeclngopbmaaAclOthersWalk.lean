/-
  AclOthers: the walk.
-/
import Derived.Test.YtbbmeclngopbmaaAclLaw
import Derived.Test.YtbbmeclngopbmaaAclSet
namespace Go.Proofs.Ytbbmeclngopbmaa
open Go.RowKit
set_option linter.unusedSimpArgs false

/-- What Set makes of a list. -/
def SetOf (l : List Gr) (u : ByteArray) (m E : Int) (L : List Gr) : Prop := ∃ A M B, Parts l u A M B ∧ setE A M B u m = E ∧ setL A M B u m = L
theorem set_good (w : World) (a : Option Addr) (cap n : Nat) (l : List Gr) (u : ByteArray) (m : Int) (hg : Good l) (hG : GAt w a l) (hn : l.length = n) (hcap : n ≤ cap) :
    Calls Try.prog 13 #[.slice a n cap, .string u, .int .i64 m] w fun e w' => ∃ (a' : Option Addr) (n' c' : Nat) (E : Int) (L : List Gr), e = .returned (.tuple #[.slice a' n' c', .int .i64 E]) ∧ L.length = n' ∧ n' ≤ c' ∧ GAt w' a' L ∧ SetOf l u m E L ∧ Below w.heap.size w w' := by
  subst hn
  obtain ⟨A, M, B, p⟩ := parts_of l u hg.ord
  refine (set_any w a cap l A M B u m p hG (by have := hg.len; omega) hcap).mono ?_
  rintro e w' ⟨v, rfl, hgv, hB⟩
  obtain ⟨a', c', rfl, hG', hc'⟩ := hgv.gat
  exact ⟨a', _, c', _, _, rfl, rfl, hc', hG', ⟨A, M, B, p, rfl, rfl⟩, hB⟩
theorem SetOf.good {l L : List Gr} {u : ByteArray} {m : Int} (h : SetOf l u m 0 L) (hg : Good l) : Good L := by
  obtain ⟨A, M, B, p, hE, rfl⟩ := h
  exact p.good hg hE
theorem SetOf.parts {l L : List Gr} {u : ByteArray} {m : Int} (h : SetOf l u m 0 L) : ∃ A M B N, Parts l u A M B ∧ L = A ++ (N ++ B) ∧ Parts L u A N B ∧ N = (if m = 0 then [] else [⟨u, m⟩]) := by
  obtain ⟨A, M, B, p, hE, rfl⟩ := h
  have e : setL A M B u m = A ++ ((if m = 0 then [] else [⟨u, m⟩]) ++ B) := by unfold setL; rw [if_pos hE]
  refine ⟨A, M, B, _, p, e, ⟨e, p.ahead, p.behind, ?_⟩, rfl⟩
  split
  · exact .inl rfl
  · exact .inr ⟨m, rfl⟩
theorem SetOf.look {l L : List Gr} {u : ByteArray} {m : Int} (h : SetOf l u m 0 L) : look L u = if m = 0 then none else some m := by
  obtain ⟨A, M, B, N, p, e, p', hN⟩ := h.parts
  rw [p'.look, hN]
  split
  · rfl
  · exact look_one u m
theorem SetOf.other {l L : List Gr} {u : ByteArray} {m : Int} (h : SetOf l u m 0 L) {x : ByteArray} (hx : x ≠ u) : Go.Proofs.Ytbbmeclngopbmaa.look L x = Go.Proofs.Ytbbmeclngopbmaa.look l x := by
  obtain ⟨A, M, B, N, p, e, p', hN⟩ := h.parts
  rw [e]
  exact p.other hx N p'.mid
/-- Has it a grant of x? -/
def hasU (l : List Gr) (x : ByteArray) : Bool := l.any fun g => eqs g.u x
theorem has_no {l : List Gr} {x : ByteArray} (h : hasU l x = false) : look l x = none := by
  refine look_none fun g hg e => ?_
  have := List.any_eq_false.1 h g hg
  rw [e, eqs_self] at this
  exact this rfl
theorem has_yes {l : List Gr} {x : ByteArray} (h : hasU l x = true) : ∃ m, look l x = some m := by
  unfold look
  obtain ⟨g, hg, he⟩ := List.any_eq_true.1 h
  cases hf : l.find? (fun g => eqs g.u x) with
  | none => have := List.find?_eq_none.1 hf g hg; simp [he] at this
  | some y => exact ⟨y.m, rfl⟩
theorem fact1 {l L : List Gr} {m : Int} {x : ByteArray} (h : SetOf l star m 0 L) (hx : x ≠ star) (hno : hasU l x = false) : modesL L x = m := by
  unfold modesL
  rw [h.other hx, has_no hno, h.look]
  split
  · rename_i h0; simp [h0]
  · rfl
theorem fact2 {l L : List Gr} {u : ByteArray} {m : Int} {x : ByteArray} (h : SetOf l u m 0 L) (hx : x ≠ u) (hy : hasU l x = true) : modesL L x = modesL l x := by
  obtain ⟨k, hk⟩ := has_yes hy
  unfold modesL
  rw [h.other hx, hk]
  rfl
theorem fact3 {l L : List Gr} {u : ByteArray} {m : Int} (h : SetOf l u m 0 L) (hm : 0 < m) : modesL L u = m := by
  unfold modesL
  rw [h.look, if_neg (by omega)]
  rfl
theorem fact4 {l L : List Gr} {u : ByteArray} {m : Int} {x : ByteArray} (h : SetOf l u m 0 L) (hx : x ≠ u) (hu : u ≠ star) : modesL L x = modesL l x := by
  unfold modesL
  rw [h.other hx, h.other hu.symm]

theorem has_take {l : List Gr} {j : Nat} {y : Gr} (h : l[j]? = some y) (x : ByteArray) : hasU (l.take (j + 1)) x = (hasU (l.take j) x || eqs y.u x) := by
  unfold hasU
  rw [List.take_add_one, h]
  simp

set_option maxRecDepth 20000 in
set_option maxHeartbeats 16000000 in
theorem others_walk (ac : Option Addr) (cc : Nat) (C : List Gr) (user : ByteArray) (md : Int) (other : ByteArray) (w : World) (hC : GAt w ac C) :
    Calls Try.prog 5 #[.slice ac C.length cc, .string user, .int .i64 md, .string other] w fun e w' => e = .returned (.bool true) ∧ Below w.heap.size w w' := by
  obtain ⟨nc, hnc⟩ : ∃ n, C.length = n := ⟨_, rfl⟩
  rw [hnc]
  go_enter Try.func5, Try.ntmps5
  go_wp2_with fail
  refine (known_any _).mono ?_
  rintro e w1 ⟨rfl, hB1⟩
  go_wp2_with fail
  go_loopw [9, 10] (fun t9 t10 wr => ∃ (i n cap : Nat) (al : Option Addr) (l : List Gr), i ≤ 20 ∧ i ≤ nc ∧ t10 = .int .i64 (i : Int) ∧ t9 = .slice al n cap ∧ l.length = n ∧ n ≤ cap ∧ GAt wr al l ∧ Good l ∧ Below w.heap.size w wr) (fun _ t10 _ => 20 - (Go.RowKit.intOf t10).toNat)
  case atStart => exact ⟨0, 0, 0, none, [], by omega, by omega, rfl, rfl, rfl, Nat.le_refl _, gat_nil _ _, ⟨by simp, List.Pairwise.nil, by simp⟩, hB1⟩
  case round =>
    obtain ⟨i, n, cap, al, l, hi, hic, rfl, rfl, hln, hcap, hG, hgd, hB⟩ := hrel
    clear hB1
    by_cases h20 : i < 20 ∧ i < nc
    · obtain ⟨h20, hlt⟩ := h20
      obtain ⟨g, hg⟩ : ∃ g, C[i]? = some g := ⟨_, List.getElem?_eq_getElem (by omega)⟩
      obtain ⟨x, rfl, c0, c1⟩ := hC _ _ hg
      have hl : ∀ W, Below w.heap.size w W → W.cell? (x.add (i * 2)) = some (.string g.u) ∧ W.cell? ⟨(x.add (i * 2)).block, (x.add (i * 2)).off + 1, none⟩ = some (.int .i64 g.m) := fun W h => ⟨(h.cell (World.block_lt_of_cell? _ _ c0)).trans c0, (h.cell (World.block_lt_of_cell? _ _ c1)).trans c1⟩
      have hS0 : (fun W => Below w.heap.size w W ∧ W.cell? (x.add (i * 2)) = some (.string g.u) ∧ W.cell? ⟨(x.add (i * 2)).block, (x.add (i * 2)).off + 1, none⟩ = some (.int .i64 g.m)) wr.drew := ⟨hB.drew, hl _ hB.drew⟩
      have hset := set_good wr.drew al cap n l g.u g.m hgd hG hln hcap
      clear c0 c1
      go_wp2_with fail
      refine wp_region_held_drew (S := (fun W => Below w.heap.size w W ∧ W.cell? (x.add (i * 2)) = some (.string g.u) ∧ W.cell? ⟨(x.add (i * 2)).block, (x.add (i * 2)).off + 1, none⟩ = some (.int .i64 g.m))) (by kernel_rfl) (by first | exact hS0 | exact hS1) ?_
      intro hHeld
      first | (refine wpAnyH_take (i := 0) (v := ?_) (by simp only [List.getElem?_toArray, List.getElem?_cons_zero, List.getElem?_cons_succ]; rfl) (by kernel_rfl) (by kernel_rfl) (by kernel_rfl) (by exact fun _ _ _ h => h) (Or.inl ⟨by rfl, ?_⟩) (by assumption) ?_; rotate_left; (focus (intro w hSw; (try dsimp only at hSw); go_simp; try with_reducible rfl)); simp only [Act.put, List.setIfInBounds_toArray, List.set_cons_zero, List.set_cons_succ]) | (refine wpAnyH_take (i := 0) (v := undef) (by simp only [List.getElem?_toArray, List.getElem?_cons_zero, List.getElem?_cons_succ]; rfl) (by kernel_rfl) (by kernel_rfl) (by kernel_rfl) (by exact fun _ _ _ h => h) (Or.inr ⟨by rfl, rfl⟩) (by assumption) ?_; simp only [Act.put, List.setIfInBounds_toArray, List.set_cons_zero, List.set_cons_succ]) | fail
      first | (refine wpAnyH_take (i := 1) (v := ?_) (by simp only [List.getElem?_toArray, List.getElem?_cons_zero, List.getElem?_cons_succ]; rfl) (by kernel_rfl) (by kernel_rfl) (by kernel_rfl) (by exact fun _ _ _ h => h) (Or.inl ⟨by rfl, ?_⟩) (by assumption) ?_; rotate_left; (focus (intro w hSw; (try dsimp only at hSw); go_simp; try with_reducible rfl)); simp only [Act.put, List.setIfInBounds_toArray, List.set_cons_zero, List.set_cons_succ]) | (refine wpAnyH_take (i := 1) (v := undef) (by simp only [List.getElem?_toArray, List.getElem?_cons_zero, List.getElem?_cons_succ]; rfl) (by kernel_rfl) (by kernel_rfl) (by kernel_rfl) (by exact fun _ _ _ h => h) (Or.inr ⟨by rfl, rfl⟩) (by assumption) ?_; simp only [Act.put, List.setIfInBounds_toArray, List.set_cons_zero, List.set_cons_succ]) | fail
      first | (refine wpAnyH_take (i := 2) (v := ?_) (by simp only [List.getElem?_toArray, List.getElem?_cons_zero, List.getElem?_cons_succ]; rfl) (by kernel_rfl) (by kernel_rfl) (by kernel_rfl) (by exact fun _ _ _ h => h) (Or.inl ⟨by rfl, ?_⟩) (by assumption) ?_; rotate_left; (focus (intro w hSw; (try dsimp only at hSw); go_simp; try with_reducible rfl)); simp only [Act.put, List.setIfInBounds_toArray, List.set_cons_zero, List.set_cons_succ]) | (refine wpAnyH_take (i := 2) (v := undef) (by simp only [List.getElem?_toArray, List.getElem?_cons_zero, List.getElem?_cons_succ]; rfl) (by kernel_rfl) (by kernel_rfl) (by kernel_rfl) (by exact fun _ _ _ h => h) (Or.inr ⟨by rfl, rfl⟩) (by assumption) ?_; simp only [Act.put, List.setIfInBounds_toArray, List.set_cons_zero, List.set_cons_succ]) | fail
      first | (refine wpAnyH_take (i := 3) (v := ?_) (by simp only [List.getElem?_toArray, List.getElem?_cons_zero, List.getElem?_cons_succ]; rfl) (by kernel_rfl) (by kernel_rfl) (by kernel_rfl) (by exact fun _ _ _ h => h) (Or.inl ⟨by rfl, ?_⟩) (by assumption) ?_; rotate_left; (focus (intro w hSw; (try dsimp only at hSw); go_simp; try with_reducible rfl)); simp only [Act.put, List.setIfInBounds_toArray, List.set_cons_zero, List.set_cons_succ]) | (refine wpAnyH_take (i := 3) (v := undef) (by simp only [List.getElem?_toArray, List.getElem?_cons_zero, List.getElem?_cons_succ]; rfl) (by kernel_rfl) (by kernel_rfl) (by kernel_rfl) (by exact fun _ _ _ h => h) (Or.inr ⟨by rfl, rfl⟩) (by assumption) ?_; simp only [Act.put, List.setIfInBounds_toArray, List.set_cons_zero, List.set_cons_succ]) | fail
      first | (refine wpAnyH_take (i := 4) (v := ?_) (by simp only [List.getElem?_toArray, List.getElem?_cons_zero, List.getElem?_cons_succ]; rfl) (by kernel_rfl) (by kernel_rfl) (by kernel_rfl) (by exact fun _ _ _ h => h) (Or.inl ⟨by rfl, ?_⟩) (by assumption) ?_; rotate_left; (focus (intro w hSw; (try dsimp only at hSw); go_simp; try with_reducible rfl)); simp only [Act.put, List.setIfInBounds_toArray, List.set_cons_zero, List.set_cons_succ]) | (refine wpAnyH_take (i := 4) (v := undef) (by simp only [List.getElem?_toArray, List.getElem?_cons_zero, List.getElem?_cons_succ]; rfl) (by kernel_rfl) (by kernel_rfl) (by kernel_rfl) (by exact fun _ _ _ h => h) (Or.inr ⟨by rfl, rfl⟩) (by assumption) ?_; simp only [Act.put, List.setIfInBounds_toArray, List.set_cons_zero, List.set_cons_succ]) | fail
      first | (refine wpAnyH_take (i := 5) (v := ?_) (by simp only [List.getElem?_toArray, List.getElem?_cons_zero, List.getElem?_cons_succ]; rfl) (by kernel_rfl) (by kernel_rfl) (by kernel_rfl) (by exact fun _ _ _ h => h) (Or.inl ⟨by rfl, ?_⟩) (by assumption) ?_; rotate_left; (focus (intro w hSw; (try dsimp only at hSw); go_simp; try with_reducible rfl)); simp only [Act.put, List.setIfInBounds_toArray, List.set_cons_zero, List.set_cons_succ]) | (refine wpAnyH_take (i := 5) (v := undef) (by simp only [List.getElem?_toArray, List.getElem?_cons_zero, List.getElem?_cons_succ]; rfl) (by kernel_rfl) (by kernel_rfl) (by kernel_rfl) (by exact fun _ _ _ h => h) (Or.inr ⟨by rfl, rfl⟩) (by assumption) ?_; simp only [Act.put, List.setIfInBounds_toArray, List.set_cons_zero, List.set_cons_succ]) | fail
      first | (refine wpAnyH_take (i := 6) (v := ?_) (by simp only [List.getElem?_toArray, List.getElem?_cons_zero, List.getElem?_cons_succ]; rfl) (by kernel_rfl) (by kernel_rfl) (by kernel_rfl) (by exact fun _ _ _ h => h) (Or.inl ⟨by rfl, ?_⟩) (by assumption) ?_; rotate_left; (focus (intro w hSw; (try dsimp only at hSw); go_simp; try with_reducible rfl)); simp only [Act.put, List.setIfInBounds_toArray, List.set_cons_zero, List.set_cons_succ]) | (refine wpAnyH_take (i := 6) (v := undef) (by simp only [List.getElem?_toArray, List.getElem?_cons_zero, List.getElem?_cons_succ]; rfl) (by kernel_rfl) (by kernel_rfl) (by kernel_rfl) (by exact fun _ _ _ h => h) (Or.inr ⟨by rfl, rfl⟩) (by assumption) ?_; simp only [Act.put, List.setIfInBounds_toArray, List.set_cons_zero, List.set_cons_succ]) | fail
      first | (refine wpAnyH_take (i := 7) (v := ?_) (by simp only [List.getElem?_toArray, List.getElem?_cons_zero, List.getElem?_cons_succ]; rfl) (by kernel_rfl) (by kernel_rfl) (by kernel_rfl) (by exact fun _ _ _ h => h) (Or.inl ⟨by rfl, ?_⟩) (by assumption) ?_; rotate_left; (focus (intro w hSw; (try dsimp only at hSw); go_simp; try with_reducible rfl)); simp only [Act.put, List.setIfInBounds_toArray, List.set_cons_zero, List.set_cons_succ]) | (refine wpAnyH_take (i := 7) (v := undef) (by simp only [List.getElem?_toArray, List.getElem?_cons_zero, List.getElem?_cons_succ]; rfl) (by kernel_rfl) (by kernel_rfl) (by kernel_rfl) (by exact fun _ _ _ h => h) (Or.inr ⟨by rfl, rfl⟩) (by assumption) ?_; simp only [Act.put, List.setIfInBounds_toArray, List.set_cons_zero, List.set_cons_succ]) | fail
      first | (refine wpAnyH_take (i := 8) (v := ?_) (by simp only [List.getElem?_toArray, List.getElem?_cons_zero, List.getElem?_cons_succ]; rfl) (by kernel_rfl) (by kernel_rfl) (by kernel_rfl) (by exact fun _ _ _ h => h) (Or.inl ⟨by rfl, ?_⟩) (by assumption) ?_; rotate_left; (focus (intro w hSw; (try dsimp only at hSw); go_simp; try with_reducible rfl)); simp only [Act.put, List.setIfInBounds_toArray, List.set_cons_zero, List.set_cons_succ]) | (refine wpAnyH_take (i := 8) (v := undef) (by simp only [List.getElem?_toArray, List.getElem?_cons_zero, List.getElem?_cons_succ]; rfl) (by kernel_rfl) (by kernel_rfl) (by kernel_rfl) (by exact fun _ _ _ h => h) (Or.inr ⟨by rfl, rfl⟩) (by assumption) ?_; simp only [Act.put, List.setIfInBounds_toArray, List.set_cons_zero, List.set_cons_succ]) | fail
      first | (refine wpAnyH_take (i := 9) (v := ?_) (by simp only [List.getElem?_toArray, List.getElem?_cons_zero, List.getElem?_cons_succ]; rfl) (by kernel_rfl) (by kernel_rfl) (by kernel_rfl) (by exact fun _ _ _ h => h) (Or.inl ⟨by rfl, ?_⟩) (by assumption) ?_; rotate_left; (focus (intro w hSw; (try dsimp only at hSw); go_simp; try with_reducible rfl)); simp only [Act.put, List.setIfInBounds_toArray, List.set_cons_zero, List.set_cons_succ]) | (refine wpAnyH_take (i := 9) (v := undef) (by simp only [List.getElem?_toArray, List.getElem?_cons_zero, List.getElem?_cons_succ]; rfl) (by kernel_rfl) (by kernel_rfl) (by kernel_rfl) (by exact fun _ _ _ h => h) (Or.inr ⟨by rfl, rfl⟩) (by assumption) ?_; simp only [Act.put, List.setIfInBounds_toArray, List.set_cons_zero, List.set_cons_succ]) | fail
      first | (refine wpAnyH_take (i := 10) (v := ?_) (by simp only [List.getElem?_toArray, List.getElem?_cons_zero, List.getElem?_cons_succ]; rfl) (by kernel_rfl) (by kernel_rfl) (by kernel_rfl) (by exact fun _ _ _ h => h) (Or.inl ⟨by rfl, ?_⟩) (by assumption) ?_; rotate_left; (focus (intro w hSw; (try dsimp only at hSw); go_simp; try with_reducible rfl)); simp only [Act.put, List.setIfInBounds_toArray, List.set_cons_zero, List.set_cons_succ]) | (refine wpAnyH_take (i := 10) (v := undef) (by simp only [List.getElem?_toArray, List.getElem?_cons_zero, List.getElem?_cons_succ]; rfl) (by kernel_rfl) (by kernel_rfl) (by kernel_rfl) (by exact fun _ _ _ h => h) (Or.inr ⟨by rfl, rfl⟩) (by assumption) ?_; simp only [Act.put, List.setIfInBounds_toArray, List.set_cons_zero, List.set_cons_succ]) | fail
      first | (refine wpAnyH_take (i := 11) (v := undef) (by simp only [List.getElem?_toArray, List.getElem?_cons_zero, List.getElem?_cons_succ]; rfl) (by kernel_rfl) (by kernel_rfl) (by kernel_rfl) (by exact fun _ _ _ h => h) (Or.inr ⟨by rfl, rfl⟩) (by assumption) ?_; simp only [Act.put, List.setIfInBounds_toArray, List.set_cons_zero, List.set_cons_succ]) | (refine wpAnyH_ready (rs := [11]) (by kernel_rfl) (by simp) ?_; refine AllReadyH.cons (by simp only [List.getElem?_toArray, List.getElem?_cons_zero, List.getElem?_cons_succ]; rfl) (fun K hK => ?_) AllReadyH.nil; go_simp; (first | (go_at_call 13; refine hset.mono ?_; rintro e w4 ⟨a', n', c', E, L, rfl, hLn, hLc, hGL, hof, hB4⟩; have hS1 : (fun W => Below w.heap.size w W ∧ W.cell? (x.add (i * 2)) = some (.string g.u) ∧ W.cell? ⟨(x.add (i * 2)).block, (x.add (i * 2)).off + 1, none⟩ = some (.int .i64 g.m)) w4 := ⟨Below.then hB.drew hB4, hl _ (Below.then hB.drew hB4)⟩)); refine hK.out _ _ (by first | exact hS0 | exact hS1) ?_; clear hHeld hK; intro hHeld; (try simp only [Act.put, List.setIfInBounds_toArray, List.set_cons_zero, List.set_cons_succ])) | fail
      first | (refine wpAnyH_take (i := 12) (v := ?_) (by simp only [List.getElem?_toArray, List.getElem?_cons_zero, List.getElem?_cons_succ]; rfl) (by kernel_rfl) (by kernel_rfl) (by kernel_rfl) (by exact fun _ _ _ h => h) (Or.inl ⟨by rfl, ?_⟩) (by assumption) ?_; rotate_left; (focus (intro w hSw; (try dsimp only at hSw); go_simp; try with_reducible rfl)); simp only [Act.put, List.setIfInBounds_toArray, List.set_cons_zero, List.set_cons_succ]) | (refine wpAnyH_take (i := 12) (v := undef) (by simp only [List.getElem?_toArray, List.getElem?_cons_zero, List.getElem?_cons_succ]; rfl) (by kernel_rfl) (by kernel_rfl) (by kernel_rfl) (by exact fun _ _ _ h => h) (Or.inr ⟨by rfl, rfl⟩) (by assumption) ?_; simp only [Act.put, List.setIfInBounds_toArray, List.set_cons_zero, List.set_cons_succ]) | fail
      first | (refine wpAnyH_take (i := 13) (v := ?_) (by simp only [List.getElem?_toArray, List.getElem?_cons_zero, List.getElem?_cons_succ]; rfl) (by kernel_rfl) (by kernel_rfl) (by kernel_rfl) (by exact fun _ _ _ h => h) (Or.inl ⟨by rfl, ?_⟩) (by assumption) ?_; rotate_left; (focus (intro w hSw; (try dsimp only at hSw); go_simp; try with_reducible rfl)); simp only [Act.put, List.setIfInBounds_toArray, List.set_cons_zero, List.set_cons_succ]) | (refine wpAnyH_take (i := 13) (v := undef) (by simp only [List.getElem?_toArray, List.getElem?_cons_zero, List.getElem?_cons_succ]; rfl) (by kernel_rfl) (by kernel_rfl) (by kernel_rfl) (by exact fun _ _ _ h => h) (Or.inr ⟨by rfl, rfl⟩) (by assumption) ?_; simp only [Act.put, List.setIfInBounds_toArray, List.set_cons_zero, List.set_cons_succ]) | fail
      first | (refine wpAnyH_take (i := 14) (v := ?_) (by simp only [List.getElem?_toArray, List.getElem?_cons_zero, List.getElem?_cons_succ]; rfl) (by kernel_rfl) (by kernel_rfl) (by kernel_rfl) (by exact fun _ _ _ h => h) (Or.inl ⟨by rfl, ?_⟩) (by assumption) ?_; rotate_left; (focus (intro w hSw; (try dsimp only at hSw); go_simp; try with_reducible rfl)); simp only [Act.put, List.setIfInBounds_toArray, List.set_cons_zero, List.set_cons_succ]) | (refine wpAnyH_take (i := 14) (v := undef) (by simp only [List.getElem?_toArray, List.getElem?_cons_zero, List.getElem?_cons_succ]; rfl) (by kernel_rfl) (by kernel_rfl) (by kernel_rfl) (by exact fun _ _ _ h => h) (Or.inr ⟨by rfl, rfl⟩) (by assumption) ?_; simp only [Act.put, List.setIfInBounds_toArray, List.set_cons_zero, List.set_cons_succ]) | fail
      first | (refine wpAnyH_take (i := 15) (v := ?_) (by simp only [List.getElem?_toArray, List.getElem?_cons_zero, List.getElem?_cons_succ]; rfl) (by kernel_rfl) (by kernel_rfl) (by kernel_rfl) (by exact fun _ _ _ h => h) (Or.inl ⟨by rfl, ?_⟩) (by assumption) ?_; rotate_left; (focus (intro w hSw; (try dsimp only at hSw); go_simp; try with_reducible rfl)); simp only [Act.put, List.setIfInBounds_toArray, List.set_cons_zero, List.set_cons_succ]) | (refine wpAnyH_take (i := 15) (v := undef) (by simp only [List.getElem?_toArray, List.getElem?_cons_zero, List.getElem?_cons_succ]; rfl) (by kernel_rfl) (by kernel_rfl) (by kernel_rfl) (by exact fun _ _ _ h => h) (Or.inr ⟨by rfl, rfl⟩) (by assumption) ?_; simp only [Act.put, List.setIfInBounds_toArray, List.set_cons_zero, List.set_cons_succ]) | fail
      first | (refine wpAnyH_take (i := 16) (v := ?_) (by simp only [List.getElem?_toArray, List.getElem?_cons_zero, List.getElem?_cons_succ]; rfl) (by kernel_rfl) (by kernel_rfl) (by kernel_rfl) (by exact fun _ _ _ h => h) (Or.inl ⟨by rfl, ?_⟩) (by assumption) ?_; rotate_left; (focus (intro w hSw; (try dsimp only at hSw); go_simp; try with_reducible rfl)); simp only [Act.put, List.setIfInBounds_toArray, List.set_cons_zero, List.set_cons_succ]) | (refine wpAnyH_take (i := 16) (v := undef) (by simp only [List.getElem?_toArray, List.getElem?_cons_zero, List.getElem?_cons_succ]; rfl) (by kernel_rfl) (by kernel_rfl) (by kernel_rfl) (by exact fun _ _ _ h => h) (Or.inr ⟨by rfl, rfl⟩) (by assumption) ?_; simp only [Act.put, List.setIfInBounds_toArray, List.set_cons_zero, List.set_cons_succ]) | fail
      refine wpAnyH_done (by kernel_rfl) ?_ _
      have hBn := hS1.1
      by_cases hE : E = 0
      · subst hE
        go_wp2_with fail
        exact ⟨⟨i + 1, n', c', a', L, by omega, by omega, by simp, rfl, hLn, hLc, hGL, hof.good hgd, hBn⟩, by simp [Go.RowKit.intOf]; omega⟩
      · go_wp2_with fail
        exact ⟨⟨i + 1, n, cap, al, l, by omega, by omega, by simp, rfl, hln, hcap, hG.drew.below hB4, hgd, hBn⟩, by simp [Go.RowKit.intOf]; omega⟩
    · have h20' : 20 ≤ i ∨ nc ≤ i := by omega
      obtain ⟨md', hmd, hm0, hm7⟩ : ∃ md', md % 8 = md' ∧ 0 ≤ md' ∧ md' ≤ 7 := ⟨_, rfl, by omega, by omega⟩
      have hset := set_good wr al cap n l user md' hgd hG hln hcap
      have hmo := fun (W : World) (a : Option Addr) (c k : Nat) (L : List Gr) (x : ByteArray) (hk : L.length = k) (hg : Good L) (hG : GAt W a L) => hk ▸ modes_any W a c L x hg.ord hG (by have := hg.len; omega)
      clear h20
      have hn4 : n ≤ 4 := by have := hgd.len; omega
      by_cases hi20 : i < nc
      all_goals (
        go_wp2_with fail
        refine (within_any _ _ (by decide) (by decide) _).mono ?_
        rw [hmd]
        rintro e w2 ⟨rfl, rfl⟩
        go_wp2_with fail
        refine hset.mono ?_
        rintro e w4 ⟨a', n', c', E, L, rfl, hLn, hLc, hGL, hof, hB4⟩
        have hBn := Below.then hB hB4
        by_cases hE : E = 0
        case neg =>
          as_aux_lemma =>
            go_wp2_with fail
            go_ret
            exact ⟨rfl, hBn⟩
        subst hE
        cases hou : eqs other user
        case true =>
          have k1 := str_b hou
          as_aux_lemma =>
            go_wp2_with fail
            go_ret
            exact ⟨rfl, hBn⟩
        have k1 := str_b hou
        have hne : other ≠ user := fun e => by rw [e, eqs_self] at hou; cases hou
        by_cases h200 : 200 < other.size
        case pos =>
          as_aux_lemma =>
            go_wp2_with fail
            go_ret
            exact ⟨rfl, hBn⟩
        have hG4 := hG.below hB4
        have hgL := hof.good hgd
        go_wp2_with fail
        go_loopw [15, 16] (fun t15 t16 wq => ∃ (j : Nat), j ≤ n ∧ t16 = .int .i64 (j : Int) ∧ t15 = .bool (hasU (l.take j) other) ∧ wq = w4) (fun _ t16 _ => n - (Go.RowKit.intOf t16).toNat)
        case atStart => exact ⟨0, by omega, rfl, rfl, rfl⟩
        case round =>
          obtain ⟨j, hj, rfl, rfl, rfl⟩ := hrel
          by_cases hlt : j < n
          · obtain ⟨y, hy⟩ : ∃ y, l[j]? = some y := ⟨_, List.getElem?_eq_getElem (by omega)⟩
            obtain ⟨x, rfl, c0, c1⟩ := hG4 _ _ hy
            have ht := has_take hy other
            cases hb : hasU (l.take j) other
            · cases hyo : eqs y.u other
              · have k2 := str_b hyo
                have hn2 : Aside (hasU (l.take (j + 1)) other = false) := by rw [Aside, ht, hb, hyo]; rfl
                clear ht hb hof hset hmo hgL hgd
                as_aux_lemma =>
                  go_wp2_with fail
                  exact ⟨⟨j + 1, by omega, by simp, by rw [hn2.out], trivial⟩, by simp [Go.RowKit.intOf]; omega⟩
              · have k2 := str_b hyo
                have hn2 : Aside (hasU (l.take (j + 1)) other = true) := by rw [Aside, ht, hb, hyo]; rfl
                clear ht hb hof hset hmo hgL hgd
                as_aux_lemma =>
                  go_wp2_with fail
                  exact ⟨⟨j + 1, by omega, by simp, by rw [hn2.out], trivial⟩, by simp [Go.RowKit.intOf]; omega⟩
            · have hn2 : Aside (hasU (l.take (j + 1)) other = true) := by rw [Aside, ht, hb]; rfl
              clear ht hb hof hset hmo hgL hgd
              as_aux_lemma =>
                go_wp2_with fail
                exact ⟨⟨j + 1, by omega, by simp, by rw [hn2.out], trivial⟩, by simp [Go.RowKit.intOf]; omega⟩
          · obtain rfl : j = n := by omega
            have hta : l.take j = l := List.take_of_length_le (by omega)
            rw [hta]
            have m1 := hmo _ a' c' n' L other hLn hgL hGL
            cases hus : eqs user star
            · have k2 := star_b hus
              have hun : user ≠ star := fun e => by rw [e, eqs_self] at hus; cases hus
              have f4 := fact4 hof hne hun
              by_cases hm : 0 < md'
              · have f3 := fact3 hof hm
                have m2 := hmo _ a' c' n' L user hLn hgL hGL
                rw [f3] at m2
                clear hset hta
                as_aux_lemma =>
                  go_wp2_with fail
                  refine m2.mono ?_
                  rintro e w5 ⟨rfl, hB5⟩
                  go_wp2_with fail
                  refine (hmo _ a' c' n' L other hLn hgL (hGL.below hB5)).mono ?_
                  rintro e w6 ⟨rfl, hB6⟩
                  go_wp2_with fail
                  refine (hmo _ al cap j l other hln hgd ((hG4.below hB5).below hB6)).mono ?_
                  rintro e w7 ⟨rfl, hB7⟩
                  try rw [f4]
                  go_wp2_with fail
                  go_ret
                  exact ⟨by simp, Below.then (Below.then (Below.then hBn hB5) hB6) hB7⟩
              · clear hset hta
                as_aux_lemma =>
                  go_wp2_with fail
                  refine m1.mono ?_
                  rintro e w6 ⟨rfl, hB6⟩
                  go_wp2_with fail
                  refine (hmo _ al cap j l other hln hgd (hG4.below hB6)).mono ?_
                  rintro e w7 ⟨rfl, hB7⟩
                  try rw [f4]
                  go_wp2_with fail
                  go_ret
                  exact ⟨by simp, Below.then (Below.then hBn hB6) hB7⟩
            · have k2 := star_b hus
              cases hh : hasU l other
              · have f1 := fact1 (eqs_iff.1 hus ▸ hof) (eqs_iff.1 hus ▸ hne) hh
                rw [f1] at m1
                clear hset hta hh
                as_aux_lemma =>
                  go_wp2_with fail
                  refine m1.mono ?_
                  rintro e w6 ⟨rfl, hB6⟩
                  go_wp2_with fail
                  go_ret
                  exact ⟨by simp, Below.then hBn hB6⟩
              · have f2 := fact2 hof hne hh
                have hos : eqs other star = false := by rw [← eqs_iff.1 hus]; exact hou
                have k3 := star_b hos
                clear hset hta hh
                as_aux_lemma =>
                  go_wp2_with fail
                  refine m1.mono ?_
                  rintro e w6 ⟨rfl, hB6⟩
                  go_wp2_with fail
                  refine (hmo _ al cap j l other hln hgd (hG4.below hB6)).mono ?_
                  rintro e w7 ⟨rfl, hB7⟩
                  try rw [f2]
                  go_wp2_with fail
                  go_ret
                  exact ⟨by simp, Below.then (Below.then hBn hB6) hB7⟩)
end Go.Proofs.Ytbbmeclngopbmaa
