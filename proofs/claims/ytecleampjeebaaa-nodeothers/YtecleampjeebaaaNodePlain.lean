/-
  NODES THAT ARE NOT TOO MUCH, AND NODES THAT THEIR BYTES CAN SAY (donjonlaw10's few and plain). Written by mk_nplain.py.
-/
import Derived.Test.YtecleampjeebaaaNodeNst
import Derived.Test.YtecleampjeebaaaRgs
import Derived.Test.YtecleampjeebaaaWhole
import Derived.Deep.CutBlock
namespace Go.Proofs.Ytecleampjeebaaa
open Go.RowKit
set_option linter.unusedSimpArgs false
set_option linter.unusedVariables false

def fewN (n : Nod) : Bool := decide (n.path.size < 1000) && (decide (n.acl.length < 40) && decide (n.words.length < 100))
set_option maxHeartbeats 1000000 in
theorem few_any (n : Nod) (aa : Option Addr) (ca : Nat) (wa : Option Addr) (cw : Nat) (w : World) :
    Calls Try.prog 9 #[n.v aa ca wa cw] w fun e w' => e = .returned (.bool (fewN n)) ∧ Below w.heap.size w w' := by
  obtain ⟨b, hb⟩ : ∃ b, fewN n = b := ⟨_, rfl⟩
  rw [hb]
  unfold fewN at hb
  by_cases h1 : n.path.size < 1000
  · by_cases h2 : n.acl.length < 40
    · have hb2 : decide (n.words.length < 100) = b := by rw [← hb]; simp [h1, h2]
      have hb : Aside (decide (n.words.length < 100) = b) := hb2
      clear hb2
      have i1 : (n.path.size : Int) < 1000 := by omega
      have i2 : (n.acl.length : Int) < 40 := by omega
      go_enter Try.func9, Try.ntmps9
      go_wp2
      go_ret
      refine ⟨?_, alloc_below _ _⟩
      rw [← hb.out]
      simp
      omega
    · obtain rfl : b = false := by rw [← hb]; simp [h2]
      have i1 : (n.path.size : Int) < 1000 := by omega
      have i2 : ¬ (n.acl.length : Int) < 40 := by omega
      clear hb
      go_enter Try.func9, Try.ntmps9
      go_wp2
      go_ret
      exact ⟨rfl, alloc_below _ _⟩
  · obtain rfl : b = false := by rw [← hb]; simp [h1]
    have i1 : ¬ (n.path.size : Int) < 1000 := by omega
    clear hb
    go_enter Try.func9, Try.ntmps9
    go_wp2
    go_ret
    exact ⟨rfl, alloc_below _ _⟩

/-- The first 255 bytes. -/
def cut255 (s : ByteArray) : ByteArray := if 255 < s.size then s.extract 0 255 else s
theorem cut255_lt (s : ByteArray) : (cut255 s).size < 256 := by
  unfold cut255
  split
  · simp; omega
  · omega
def plainG (l : List Gr) : List Gr := (l.filter fun g => decide (g.u.size ≤ 255)).map fun g => ⟨g.u, g.m % 256⟩
theorem plainG_take {l : List Gr} {i : Nat} {q : Gr} (h : l[i]? = some q) : plainG (l.take (i + 1)) = plainG (l.take i) ++ if q.u.size ≤ 255 then [⟨q.u, q.m % 256⟩] else [] := by
  unfold plainG
  rw [List.take_add_one, h, List.filter_append, List.map_append]
  congr 1
  by_cases hq : q.u.size ≤ 255
  · simp [hq]
  · simp [hq]
theorem plainG_len (l : List Gr) : (plainG l).length ≤ l.length := by
  unfold plainG
  rw [List.length_map]
  exact List.length_filter_le _ _
def ringN (n : Nod) : Rg := goodR ⟨n.r1, n.r2, n.r3, n.gates⟩
def plainN (n : Nod) : Nod := ⟨cut255 n.path, n.dir, goodL n.label, plainG n.acl, (ringN n).a, (ringN n).b, (ringN n).c, (ringN n).g, n.words, goodL n.by_⟩
/-- Where plain stands: the node boxed, the answer's block. -/
structure PlS (w W : World) (cs : List Value) : Prop where
  b0 : Blk W w.heap.size cs
  b1 : Blk W (w.heap.size + 1) nzero
  bl : Below w.heap.size w W
  lt : w.heap.size + 2 ≤ W.heap.size
section
variable {w W W' : World} {cs : List Value}
theorem PlS.past (h : PlS w W cs) {q : Nat} (hq : w.heap.size + 2 ≤ q) (b : Below q W W') : PlS w W' cs :=
  ⟨h.b0.same (b.block _ (by omega)), h.b1.same (b.block _ (by omega)), h.bl.trans (b.mono (by omega)), Nat.le_trans h.lt b.size⟩
theorem PlS.then (h : PlS w W cs) (b : Below W.heap.size W W') : PlS w W' cs := h.past h.lt b
theorem PlS.set (h : PlS w W cs) (k : Nat) (v : Value) (hk : k < cs.length) : PlS w (W.setCell ⟨w.heap.size, k, none⟩ v) (cs.set k v) := by
  refine ⟨h.b0.set k v hk, h.b1.same (heap_setCell_other _ ⟨w.heap.size, k, none⟩ _ _ (by simp)), h.bl.setCell (p := ⟨w.heap.size, k, none⟩) (Nat.le_refl _) _, ?_⟩
  simpa using h.lt
theorem PlS.drew (h : PlS w W cs) : PlS w W.drew cs := ⟨h.b0, h.b1, h.bl.drew, h.lt⟩
theorem pls_start (w : World) (cs : Array Value) (T U : TypeId) : PlS w ((w.alloc (.cells cs T)).alloc (.cells nzero.toArray U)) cs.toList := by
  have b1 := alloc_below w (.cells cs T)
  have m1 := blk_alloc w cs T
  have s1 := World.size_alloc w (.cells cs T)
  generalize w.alloc (.cells cs T) = W1 at *
  have b2 := alloc_below W1 (.cells nzero.toArray U)
  have m2 := blk_alloc W1 nzero.toArray U
  have s2 := World.size_alloc W1 (.cells nzero.toArray U)
  rw [s1] at m2
  exact ⟨m1.same (b2.block _ (by omega)), m2, Below.then b1 b2, by omega⟩
end

set_option maxRecDepth 20000 in
set_option maxHeartbeats 8000000 in
theorem plain_any (n : Nod) (aa : Option Addr) (ca : Nat) (wa : Option Addr) (cw : Nat) (hn : fewN n = true) (hsz : ∀ g ∈ n.acl, g.u.size ≤ 9223372036854775807) (w : World) (hG : GrsAt w aa n.acl) :
    Calls Try.prog 12 #[n.v aa ca wa cw] w fun e w' => ∃ va, e = .returned ((plainN n).vv va (.slice wa n.words.length cw)) ∧ OwnG w' w.heap.size va (plainN n).acl ∧ Below w.heap.size w w' := by
  have hn1 : n.path.size < 1000 ∧ n.acl.length < 40 ∧ n.words.length < 100 := by simpa [fewN] using hn
  obtain ⟨hp, ha, hw⟩ := hn1
  clear hn
  have h0 : PlS w ((w.alloc (.cells #[.string n.path, .bool n.dir, .int .i64 n.label.s, .int .i64 n.label.c, .int .i64 n.label.i, .int .i64 n.label.k, .slice aa n.acl.length ca, .int .i64 n.r1, .int .i64 n.r2, .int .i64 n.r3, .int .i64 n.gates, .slice wa n.words.length cw, .int .i64 n.by_.s, .int .i64 n.by_.c, .int .i64 n.by_.i, .int .i64 n.by_.k] 29)).alloc (.cells #[.string ⟨#[]⟩, .bool false, .int .i64 0, .int .i64 0, .int .i64 0, .int .i64 0, .slice none 0 0, .int .i64 0, .int .i64 0, .int .i64 0, .int .i64 0, .slice none 0 0, .int .i64 0, .int .i64 0, .int .i64 0, .int .i64 0] 29)) [.string n.path, .bool n.dir, .int .i64 n.label.s, .int .i64 n.label.c, .int .i64 n.label.i, .int .i64 n.label.k, .slice aa n.acl.length ca, .int .i64 n.r1, .int .i64 n.r2, .int .i64 n.r3, .int .i64 n.gates, .slice wa n.words.length cw, .int .i64 n.by_.s, .int .i64 n.by_.c, .int .i64 n.by_.i, .int .i64 n.by_.k] := pls_start w #[.string n.path, .bool n.dir, .int .i64 n.label.s, .int .i64 n.label.c, .int .i64 n.label.i, .int .i64 n.label.k, .slice aa n.acl.length ca, .int .i64 n.r1, .int .i64 n.r2, .int .i64 n.r3, .int .i64 n.gates, .slice wa n.words.length cw, .int .i64 n.by_.s, .int .i64 n.by_.c, .int .i64 n.by_.i, .int .i64 n.by_.k] _ _
  obtain ⟨P, hP⟩ : ∃ P, cut255 n.path = P := ⟨_, rfl⟩
  obtain ⟨X, hX⟩ : ∃ X, goodL n.label = X := ⟨_, rfl⟩
  obtain ⟨Y, hY⟩ : ∃ Y, goodL n.by_ = Y := ⟨_, rfl⟩
  obtain ⟨R, hR⟩ : ∃ R, ringN n = R := ⟨_, rfl⟩
  have kX := fun W => good_any n.label W
  have kY := fun W => good_any n.by_ W
  have kR := fun W => rggood_any ⟨n.r1, n.r2, n.r3, n.gates⟩ W
  have hR' : goodR ⟨n.r1, n.r2, n.r3, n.gates⟩ = R := hR
  simp only [hX] at kX
  simp only [hY] at kY
  simp only [hR'] at kR
  obtain ⟨res, hres⟩ : ∃ res, plainN n = res := ⟨_, rfl⟩
  rw [hres]
  have hres : Aside (res = ⟨P, n.dir, X, plainG n.acl, R.a, R.b, R.c, R.g, n.words, Y⟩) := by
    rw [← hP, ← hX, ← hY, ← hR, ← hres]
    exact rfl
  clear hX hY hR hR'
  go_enter Try.func12, Try.ntmps12
  go_upto_if 8 with fail
  generalize (w.alloc (.cells #[.string n.path, .bool n.dir, .int .i64 n.label.s, .int .i64 n.label.c, .int .i64 n.label.i, .int .i64 n.label.k, .slice aa n.acl.length ca, .int .i64 n.r1, .int .i64 n.r2, .int .i64 n.r3, .int .i64 n.gates, .slice wa n.words.length cw, .int .i64 n.by_.s, .int .i64 n.by_.c, .int .i64 n.by_.i, .int .i64 n.by_.k] 29)).alloc (.cells #[.string ⟨#[]⟩, .bool false, .int .i64 0, .int .i64 0, .int .i64 0, .int .i64 0, .slice none 0 0, .int .i64 0, .int .i64 0, .int .i64 0, .int .i64 0, .slice none 0 0, .int .i64 0, .int .i64 0, .int .i64 0, .int .i64 0] 29) = W0 at *
  go_cut [] from 5 (fun wc => PlS w wc [.string P, .bool n.dir, .int .i64 n.label.s, .int .i64 n.label.c, .int .i64 n.label.i, .int .i64 n.label.k, .slice aa n.acl.length ca, .int .i64 n.r1, .int .i64 n.r2, .int .i64 n.r3, .int .i64 n.gates, .slice wa n.words.length cw, .int .i64 n.by_.s, .int .i64 n.by_.c, .int .i64 n.by_.i, .int .i64 n.by_.k])
  case first =>
    unfold cut255 at hP
    by_cases h255 : 255 < n.path.size
    · have i255 : (255 : Int) < (n.path.size : Int) := by omega
      rw [if_pos h255] at hP
      have z0 := h0.b0 0 _ rfl
      have h1 := h0.set 0 (.string P) (by simp)
      rw [← hP] at h1
      go_wp2_with fail
      go_meet
      rw [← hP]
      exact h1
    · have i255 : ¬ (255 : Int) < (n.path.size : Int) := by omega
      rw [if_neg h255] at hP
      go_wp2_with fail
      go_meet
      rw [← hP]
      exact h0
  case rest =>
  rename_i wc
  clear h0 hP
  have hc1 := hcut
  clear hcut
  go_upto_region 3 with fail
  go_cut [] from 5 (fun wd => PlS w wd [.string P, .bool n.dir, .int .i64 X.s, .int .i64 X.c, .int .i64 X.i, .int .i64 X.k, .slice aa n.acl.length ca, .int .i64 n.r1, .int .i64 n.r2, .int .i64 n.r3, .int .i64 n.gates, .slice wa n.words.length cw, .int .i64 Y.s, .int .i64 Y.c, .int .i64 Y.i, .int .i64 Y.k])
  case first =>
    have h0 := hc1.drew
    have q0_2 := h0.b0 2 _ rfl
    have q0_3 := h0.b0 3 _ rfl
    have q0_4 := h0.b0 4 _ rfl
    have q0_5 := h0.b0 5 _ rfl
    have q0_12 := h0.b0 12 _ rfl
    have q0_13 := h0.b0 13 _ rfl
    have q0_14 := h0.b0 14 _ rfl
    have q0_15 := h0.b0 15 _ rfl
    clear hc1
    refine wp_region_held_drew (S := (fun _ => True)) (by kernel_rfl) (by trivial) ?_
    intro hHeld
    generalize wc.drew = w0 at *
    refine wpAnyH_take (i := 0) (v := ?_) (by simp only [List.getElem?_toArray, List.getElem?_cons_zero, List.getElem?_cons_succ]; rfl) (by kernel_rfl) (by kernel_rfl) (by kernel_rfl) (by exact fun _ _ _ h => h) (Or.inl ⟨by rfl, ?_⟩) (by assumption) ?_; rotate_left; (focus (intro w hSw; (try dsimp only at hSw); go_simp; try with_reducible rfl)); (try simp only [Act.put, List.setIfInBounds_toArray, List.set_cons_zero, List.set_cons_succ])
    refine wpAnyH_take (i := 3) (v := ?_) (by simp only [List.getElem?_toArray, List.getElem?_cons_zero, List.getElem?_cons_succ]; rfl) (by kernel_rfl) (by kernel_rfl) (by kernel_rfl) (by exact fun _ _ _ h => h) (Or.inl ⟨by rfl, ?_⟩) (by assumption) ?_; rotate_left; (focus (intro w hSw; (try dsimp only at hSw); go_simp; try with_reducible rfl)); (try simp only [Act.put, List.setIfInBounds_toArray, List.set_cons_zero, List.set_cons_succ])
    refine wpAnyH_ready (rs := [1, 4]) (by kernel_rfl) (by simp) ?_
    refine AllReadyH.cons (by simp only [List.getElem?_toArray, List.getElem?_cons_zero, List.getElem?_cons_succ]; rfl) (fun K hK => ?_) ?_
    · go_simp
      refine hK.out _ _ (trivial) ?_
      clear hHeld hK
      intro hHeld
      (try simp only [Act.put, List.setIfInBounds_toArray, List.set_cons_zero, List.set_cons_succ])
      refine wpAnyH_ready (rs := [2, 4]) (by kernel_rfl) (by simp) ?_
      refine AllReadyH.cons (by simp only [List.getElem?_toArray, List.getElem?_cons_zero, List.getElem?_cons_succ]; rfl) (fun K hK => ?_) ?_
      · go_simp
        go_at_call 23
        refine (kX _).mono ?_
        rintro e w1 ⟨rfl, hB1⟩
        have h1 := h0.then hB1
        have q1_2 := h1.b0 2 _ rfl
        have q1_3 := h1.b0 3 _ rfl
        have q1_4 := h1.b0 4 _ rfl
        have q1_5 := h1.b0 5 _ rfl
        have q1_12 := h1.b0 12 _ rfl
        have q1_13 := h1.b0 13 _ rfl
        have q1_14 := h1.b0 14 _ rfl
        have q1_15 := h1.b0 15 _ rfl
        refine hK.out _ _ (trivial) ?_
        clear hHeld hK
        intro hHeld
        (try simp only [Act.put, List.setIfInBounds_toArray, List.set_cons_zero, List.set_cons_succ])
        refine wpAnyH_ready (rs := [4]) (by kernel_rfl) (by simp) ?_
        refine AllReadyH.cons (by simp only [List.getElem?_toArray, List.getElem?_cons_zero, List.getElem?_cons_succ]; rfl) (fun K hK => ?_) AllReadyH.nil
        go_simp
        refine hK.out _ _ (trivial) ?_
        clear hHeld hK
        intro hHeld
        (try simp only [Act.put, List.setIfInBounds_toArray, List.set_cons_zero, List.set_cons_succ])
        refine wpAnyH_take (i := 6) (v := ?_) (by simp only [List.getElem?_toArray, List.getElem?_cons_zero, List.getElem?_cons_succ]; rfl) (by kernel_rfl) (by kernel_rfl) (by kernel_rfl) (by exact fun _ _ _ h => h) (Or.inl ⟨by rfl, ?_⟩) (by assumption) ?_; rotate_left; (focus (intro w hSw; (try dsimp only at hSw); go_simp; try with_reducible rfl)); (try simp only [Act.put, List.setIfInBounds_toArray, List.set_cons_zero, List.set_cons_succ])
        refine wpAnyH_ready (rs := [5]) (by kernel_rfl) (by simp) ?_
        refine AllReadyH.cons (by simp only [List.getElem?_toArray, List.getElem?_cons_zero, List.getElem?_cons_succ]; rfl) (fun K hK => ?_) AllReadyH.nil
        go_simp
        go_at_call 23
        refine (kY _).mono ?_
        rintro e w2 ⟨rfl, hB2⟩
        have h2 := h1.then hB2
        have q2_2 := h2.b0 2 _ rfl
        have q2_3 := h2.b0 3 _ rfl
        have q2_4 := h2.b0 4 _ rfl
        have q2_5 := h2.b0 5 _ rfl
        have q2_12 := h2.b0 12 _ rfl
        have q2_13 := h2.b0 13 _ rfl
        have q2_14 := h2.b0 14 _ rfl
        have q2_15 := h2.b0 15 _ rfl
        refine hK.out _ _ (trivial) ?_
        clear hHeld hK
        intro hHeld
        (try simp only [Act.put, List.setIfInBounds_toArray, List.set_cons_zero, List.set_cons_succ])
        refine wpAnyH_ready (rs := [7]) (by kernel_rfl) (by simp) ?_
        refine AllReadyH.cons (by simp only [List.getElem?_toArray, List.getElem?_cons_zero, List.getElem?_cons_succ]; rfl) (fun K hK => ?_) AllReadyH.nil
        go_simp
        refine hK.out _ _ (trivial) ?_
        clear hHeld hK
        intro hHeld
        (try simp only [Act.put, List.setIfInBounds_toArray, List.set_cons_zero, List.set_cons_succ])
        refine wpAnyH_take (i := 8) (v := ?_) (by simp only [List.getElem?_toArray, List.getElem?_cons_zero, List.getElem?_cons_succ]; rfl) (by kernel_rfl) (by kernel_rfl) (by kernel_rfl) (by exact fun _ _ _ h => h) (Or.inl ⟨by rfl, ?_⟩) (by assumption) ?_; rotate_left; (focus (intro w hSw; (try dsimp only at hSw); go_simp; try with_reducible rfl)); (try simp only [Act.put, List.setIfInBounds_toArray, List.set_cons_zero, List.set_cons_succ])
        refine wpAnyH_ready (rs := [9]) (by kernel_rfl) (by simp) ?_
        refine AllReadyH.cons (by simp only [List.getElem?_toArray, List.getElem?_cons_zero, List.getElem?_cons_succ]; rfl) (fun K hK => ?_) AllReadyH.nil
        go_simp
        refine hK.out _ _ (trivial) ?_
        clear hHeld hK
        intro hHeld
        (try simp only [Act.put, List.setIfInBounds_toArray, List.set_cons_zero, List.set_cons_succ])
        refine wpAnyH_done (by kernel_rfl) ?_ _
        go_wp2_with fail
        go_meet
        exact ((((((((h2.set 2 (.int .i64 X.s) (by simp)).set 3 (.int .i64 X.c) (by simp)).set 4 (.int .i64 X.i) (by simp)).set 5 (.int .i64 X.k) (by simp)).set 12 (.int .i64 Y.s) (by simp)).set 13 (.int .i64 Y.c) (by simp)).set 14 (.int .i64 Y.i) (by simp)).set 15 (.int .i64 Y.k) (by simp))
      refine AllReadyH.cons (by simp only [List.getElem?_toArray, List.getElem?_cons_zero, List.getElem?_cons_succ]; rfl) (fun K hK => ?_) AllReadyH.nil
      go_simp
      refine hK.out _ _ (trivial) ?_
      clear hHeld hK
      intro hHeld
      (try simp only [Act.put, List.setIfInBounds_toArray, List.set_cons_zero, List.set_cons_succ])
      refine wpAnyH_ready (rs := [2]) (by kernel_rfl) (by simp) ?_
      refine AllReadyH.cons (by simp only [List.getElem?_toArray, List.getElem?_cons_zero, List.getElem?_cons_succ]; rfl) (fun K hK => ?_) AllReadyH.nil
      go_simp
      go_at_call 23
      refine (kX _).mono ?_
      rintro e w1 ⟨rfl, hB1⟩
      have h1 := h0.then hB1
      have q1_2 := h1.b0 2 _ rfl
      have q1_3 := h1.b0 3 _ rfl
      have q1_4 := h1.b0 4 _ rfl
      have q1_5 := h1.b0 5 _ rfl
      have q1_12 := h1.b0 12 _ rfl
      have q1_13 := h1.b0 13 _ rfl
      have q1_14 := h1.b0 14 _ rfl
      have q1_15 := h1.b0 15 _ rfl
      refine hK.out _ _ (trivial) ?_
      clear hHeld hK
      intro hHeld
      (try simp only [Act.put, List.setIfInBounds_toArray, List.set_cons_zero, List.set_cons_succ])
      refine wpAnyH_take (i := 6) (v := ?_) (by simp only [List.getElem?_toArray, List.getElem?_cons_zero, List.getElem?_cons_succ]; rfl) (by kernel_rfl) (by kernel_rfl) (by kernel_rfl) (by exact fun _ _ _ h => h) (Or.inl ⟨by rfl, ?_⟩) (by assumption) ?_; rotate_left; (focus (intro w hSw; (try dsimp only at hSw); go_simp; try with_reducible rfl)); (try simp only [Act.put, List.setIfInBounds_toArray, List.set_cons_zero, List.set_cons_succ])
      refine wpAnyH_ready (rs := [5]) (by kernel_rfl) (by simp) ?_
      refine AllReadyH.cons (by simp only [List.getElem?_toArray, List.getElem?_cons_zero, List.getElem?_cons_succ]; rfl) (fun K hK => ?_) AllReadyH.nil
      go_simp
      go_at_call 23
      refine (kY _).mono ?_
      rintro e w2 ⟨rfl, hB2⟩
      have h2 := h1.then hB2
      have q2_2 := h2.b0 2 _ rfl
      have q2_3 := h2.b0 3 _ rfl
      have q2_4 := h2.b0 4 _ rfl
      have q2_5 := h2.b0 5 _ rfl
      have q2_12 := h2.b0 12 _ rfl
      have q2_13 := h2.b0 13 _ rfl
      have q2_14 := h2.b0 14 _ rfl
      have q2_15 := h2.b0 15 _ rfl
      refine hK.out _ _ (trivial) ?_
      clear hHeld hK
      intro hHeld
      (try simp only [Act.put, List.setIfInBounds_toArray, List.set_cons_zero, List.set_cons_succ])
      refine wpAnyH_ready (rs := [7]) (by kernel_rfl) (by simp) ?_
      refine AllReadyH.cons (by simp only [List.getElem?_toArray, List.getElem?_cons_zero, List.getElem?_cons_succ]; rfl) (fun K hK => ?_) AllReadyH.nil
      go_simp
      refine hK.out _ _ (trivial) ?_
      clear hHeld hK
      intro hHeld
      (try simp only [Act.put, List.setIfInBounds_toArray, List.set_cons_zero, List.set_cons_succ])
      refine wpAnyH_take (i := 8) (v := ?_) (by simp only [List.getElem?_toArray, List.getElem?_cons_zero, List.getElem?_cons_succ]; rfl) (by kernel_rfl) (by kernel_rfl) (by kernel_rfl) (by exact fun _ _ _ h => h) (Or.inl ⟨by rfl, ?_⟩) (by assumption) ?_; rotate_left; (focus (intro w hSw; (try dsimp only at hSw); go_simp; try with_reducible rfl)); (try simp only [Act.put, List.setIfInBounds_toArray, List.set_cons_zero, List.set_cons_succ])
      refine wpAnyH_ready (rs := [9]) (by kernel_rfl) (by simp) ?_
      refine AllReadyH.cons (by simp only [List.getElem?_toArray, List.getElem?_cons_zero, List.getElem?_cons_succ]; rfl) (fun K hK => ?_) AllReadyH.nil
      go_simp
      refine hK.out _ _ (trivial) ?_
      clear hHeld hK
      intro hHeld
      (try simp only [Act.put, List.setIfInBounds_toArray, List.set_cons_zero, List.set_cons_succ])
      refine wpAnyH_done (by kernel_rfl) ?_ _
      go_wp2_with fail
      go_meet
      exact ((((((((h2.set 2 (.int .i64 X.s) (by simp)).set 3 (.int .i64 X.c) (by simp)).set 4 (.int .i64 X.i) (by simp)).set 5 (.int .i64 X.k) (by simp)).set 12 (.int .i64 Y.s) (by simp)).set 13 (.int .i64 Y.c) (by simp)).set 14 (.int .i64 Y.i) (by simp)).set 15 (.int .i64 Y.k) (by simp))
    refine AllReadyH.cons (by simp only [List.getElem?_toArray, List.getElem?_cons_zero, List.getElem?_cons_succ]; rfl) (fun K hK => ?_) AllReadyH.nil
    go_simp
    refine hK.out _ _ (trivial) ?_
    clear hHeld hK
    intro hHeld
    (try simp only [Act.put, List.setIfInBounds_toArray, List.set_cons_zero, List.set_cons_succ])
    refine wpAnyH_ready (rs := [1]) (by kernel_rfl) (by simp) ?_
    refine AllReadyH.cons (by simp only [List.getElem?_toArray, List.getElem?_cons_zero, List.getElem?_cons_succ]; rfl) (fun K hK => ?_) AllReadyH.nil
    go_simp
    refine hK.out _ _ (trivial) ?_
    clear hHeld hK
    intro hHeld
    (try simp only [Act.put, List.setIfInBounds_toArray, List.set_cons_zero, List.set_cons_succ])
    refine wpAnyH_ready (rs := [2]) (by kernel_rfl) (by simp) ?_
    refine AllReadyH.cons (by simp only [List.getElem?_toArray, List.getElem?_cons_zero, List.getElem?_cons_succ]; rfl) (fun K hK => ?_) AllReadyH.nil
    go_simp
    go_at_call 23
    refine (kX _).mono ?_
    rintro e w1 ⟨rfl, hB1⟩
    have h1 := h0.then hB1
    have q1_2 := h1.b0 2 _ rfl
    have q1_3 := h1.b0 3 _ rfl
    have q1_4 := h1.b0 4 _ rfl
    have q1_5 := h1.b0 5 _ rfl
    have q1_12 := h1.b0 12 _ rfl
    have q1_13 := h1.b0 13 _ rfl
    have q1_14 := h1.b0 14 _ rfl
    have q1_15 := h1.b0 15 _ rfl
    refine hK.out _ _ (trivial) ?_
    clear hHeld hK
    intro hHeld
    (try simp only [Act.put, List.setIfInBounds_toArray, List.set_cons_zero, List.set_cons_succ])
    refine wpAnyH_take (i := 6) (v := ?_) (by simp only [List.getElem?_toArray, List.getElem?_cons_zero, List.getElem?_cons_succ]; rfl) (by kernel_rfl) (by kernel_rfl) (by kernel_rfl) (by exact fun _ _ _ h => h) (Or.inl ⟨by rfl, ?_⟩) (by assumption) ?_; rotate_left; (focus (intro w hSw; (try dsimp only at hSw); go_simp; try with_reducible rfl)); (try simp only [Act.put, List.setIfInBounds_toArray, List.set_cons_zero, List.set_cons_succ])
    refine wpAnyH_ready (rs := [5]) (by kernel_rfl) (by simp) ?_
    refine AllReadyH.cons (by simp only [List.getElem?_toArray, List.getElem?_cons_zero, List.getElem?_cons_succ]; rfl) (fun K hK => ?_) AllReadyH.nil
    go_simp
    go_at_call 23
    refine (kY _).mono ?_
    rintro e w2 ⟨rfl, hB2⟩
    have h2 := h1.then hB2
    have q2_2 := h2.b0 2 _ rfl
    have q2_3 := h2.b0 3 _ rfl
    have q2_4 := h2.b0 4 _ rfl
    have q2_5 := h2.b0 5 _ rfl
    have q2_12 := h2.b0 12 _ rfl
    have q2_13 := h2.b0 13 _ rfl
    have q2_14 := h2.b0 14 _ rfl
    have q2_15 := h2.b0 15 _ rfl
    refine hK.out _ _ (trivial) ?_
    clear hHeld hK
    intro hHeld
    (try simp only [Act.put, List.setIfInBounds_toArray, List.set_cons_zero, List.set_cons_succ])
    refine wpAnyH_ready (rs := [7]) (by kernel_rfl) (by simp) ?_
    refine AllReadyH.cons (by simp only [List.getElem?_toArray, List.getElem?_cons_zero, List.getElem?_cons_succ]; rfl) (fun K hK => ?_) AllReadyH.nil
    go_simp
    refine hK.out _ _ (trivial) ?_
    clear hHeld hK
    intro hHeld
    (try simp only [Act.put, List.setIfInBounds_toArray, List.set_cons_zero, List.set_cons_succ])
    refine wpAnyH_take (i := 8) (v := ?_) (by simp only [List.getElem?_toArray, List.getElem?_cons_zero, List.getElem?_cons_succ]; rfl) (by kernel_rfl) (by kernel_rfl) (by kernel_rfl) (by exact fun _ _ _ h => h) (Or.inl ⟨by rfl, ?_⟩) (by assumption) ?_; rotate_left; (focus (intro w hSw; (try dsimp only at hSw); go_simp; try with_reducible rfl)); (try simp only [Act.put, List.setIfInBounds_toArray, List.set_cons_zero, List.set_cons_succ])
    refine wpAnyH_ready (rs := [9]) (by kernel_rfl) (by simp) ?_
    refine AllReadyH.cons (by simp only [List.getElem?_toArray, List.getElem?_cons_zero, List.getElem?_cons_succ]; rfl) (fun K hK => ?_) AllReadyH.nil
    go_simp
    refine hK.out _ _ (trivial) ?_
    clear hHeld hK
    intro hHeld
    (try simp only [Act.put, List.setIfInBounds_toArray, List.set_cons_zero, List.set_cons_succ])
    refine wpAnyH_done (by kernel_rfl) ?_ _
    go_wp2_with fail
    go_meet
    exact ((((((((h2.set 2 (.int .i64 X.s) (by simp)).set 3 (.int .i64 X.c) (by simp)).set 4 (.int .i64 X.i) (by simp)).set 5 (.int .i64 X.k) (by simp)).set 12 (.int .i64 Y.s) (by simp)).set 13 (.int .i64 Y.c) (by simp)).set 14 (.int .i64 Y.i) (by simp)).set 15 (.int .i64 Y.k) (by simp))
  case rest =>
  rename_i wd
  have g0 := hcut
  clear hcut hc1 kX kY
  have q7 := g0.b0 7 _ rfl
  have q8 := g0.b0 8 _ rfl
  have q9 := g0.b0 9 _ rfl
  have q10 := g0.b0 10 _ rfl
  go_wp2_with fail
  refine (kR _).mono ?_
  rintro e W1 ⟨rfl, hB⟩
  have g1 := g0.then hB
  have p7 := g1.b0 7 _ rfl
  have p8 := g1.b0 8 _ rfl
  have p9 := g1.b0 9 _ rfl
  have p10 := g1.b0 10 _ rfl
  have g2 : PlS w ((((W1.setCell ⟨w.heap.size, 7, none⟩ (.int .i64 R.a)).setCell ⟨w.heap.size, 8, none⟩ (.int .i64 R.b)).setCell ⟨w.heap.size, 9, none⟩ (.int .i64 R.c)).setCell ⟨w.heap.size, 10, none⟩ (.int .i64 R.g)) [.string P, .bool n.dir, .int .i64 X.s, .int .i64 X.c, .int .i64 X.i, .int .i64 X.k, .slice aa n.acl.length ca, .int .i64 R.a, .int .i64 R.b, .int .i64 R.c, .int .i64 R.g, .slice wa n.words.length cw, .int .i64 Y.s, .int .i64 Y.c, .int .i64 Y.i, .int .i64 Y.k] := ((((g1.set 7 (.int .i64 R.a) (by simp)).set 8 (.int .i64 R.b) (by simp)).set 9 (.int .i64 R.c) (by simp)).set 10 (.int .i64 R.g) (by simp))
  clear g0 g1 hB kR q7 q8 q9 q10
  go_wp2_with fail
  generalize ((((W1.setCell ⟨w.heap.size, 7, none⟩ (.int .i64 R.a)).setCell ⟨w.heap.size, 8, none⟩ (.int .i64 R.b)).setCell ⟨w.heap.size, 9, none⟩ (.int .i64 R.c)).setCell ⟨w.heap.size, 10, none⟩ (.int .i64 R.g)) = V at *
  clear p7 p8 p9 p10
  go_loopw [3, 4] (fun t3 t4 wr => ∃ i : Nat, i ≤ n.acl.length ∧ t4 = .int .i64 (i : Int) ∧ PlS w wr [.string P, .bool n.dir, .int .i64 X.s, .int .i64 X.c, .int .i64 X.i, .int .i64 X.k, .slice aa n.acl.length ca, .int .i64 R.a, .int .i64 R.b, .int .i64 R.c, .int .i64 R.g, .slice wa n.words.length cw, .int .i64 Y.s, .int .i64 Y.c, .int .i64 Y.i, .int .i64 Y.k] ∧ OwnG wr (w.heap.size + 2) t3 (plainG (n.acl.take i))) (fun _ t4 _ => n.acl.length - (Go.RowKit.intOf t4).toNat)
  case atStart => exact ⟨0, by omega, rfl, g2, OwnR.nil _ _ _ _ _⟩
  case round =>
    obtain ⟨i, hi, rfl, g, hO⟩ := hrel
    clear g2
    have z6 := (g.b0 6 _ rfl).1
    by_cases hlt : i < n.acl.length
    · obtain ⟨q, hq⟩ : ∃ q, n.acl[i]? = some q := ⟨_, List.getElem?_eq_getElem hlt⟩
      have hqs := hsz q (List.mem_of_getElem? hq)
      have hnx := plainG_take hq
      have hpl := plainG_len (n.acl.take i)
      rw [List.length_take] at hpl
      obtain ⟨y, rfl, d1, d2⟩ := hG i q hq
      have hyb : (y.add (i * 2)).block < w.heap.size := World.block_lt_of_cell? _ _ d1
      have c1 := (g.bl.cell hyb).trans d1
      have c2 := (g.bl.cell (p := ⟨(y.add (i * 2)).block, _, none⟩) hyb).trans d2
      clear d1 d2
      have hi1 : (i : Int) < (n.acl.length : Int) := by omega
      obtain ⟨gs, hgs⟩ : ∃ gs, plainG (n.acl.take i) = gs := ⟨_, rfl⟩
      rw [hgs] at hnx hO hpl
      clear hgs hq
      by_cases h255 : q.u.size ≤ 255
      · rw [if_pos h255] at hnx
        have i255 : (q.u.size : Int) ≤ 255 := by omega
        have hnx : Aside (plainG (n.acl.take (i + 1)) = gs ++ [⟨q.u, q.m % 256⟩]) := hnx
        go_upto_region 10 with fail
        have hS0 : (fun W : World => W.cell? ⟨w.heap.size, 6, none⟩ = some (.slice (some y) n.acl.length ca) ∧ W.cell? (y.add (i * 2)) = some (.string q.u) ∧ W.cell? ⟨(y.add (i * 2)).block, (y.add (i * 2)).off + 1, none⟩ = some (.int .i64 q.m)) wr.drew := ⟨z6, c1, c2⟩
        have g0 := g.drew
        have o0 : OwnG wr.drew (w.heap.size + 2) u3 gs := hO.keep fun _ _ => rfl
        clear z6 c1 c2 g hO
        refine wp_region_held_drew (S := (fun W : World => W.cell? ⟨w.heap.size, 6, none⟩ = some (.slice (some y) n.acl.length ca) ∧ W.cell? (y.add (i * 2)) = some (.string q.u) ∧ W.cell? ⟨(y.add (i * 2)).block, (y.add (i * 2)).off + 1, none⟩ = some (.int .i64 q.m))) (by kernel_rfl) (by exact hS0) ?_
        intro hHeld
        generalize wr.drew = W0 at *
        obtain ⟨va2, V3, hap, hO3, hG3⟩ := o0.push gr_ok g0.lt ⟨q.u, q.m % 256⟩ #[.string q.u, .int .i64 (q.m % 256)] rfl 60 (by omega)
        have hB3 := o0.grew_below g0.lt hG3
        have g3 := g0.past (Nat.le_refl _) hB3
        have hk : ∀ W, Below (w.heap.size + 2) W0 W → (fun W : World => W.cell? ⟨w.heap.size, 6, none⟩ = some (.slice (some y) n.acl.length ca) ∧ W.cell? (y.add (i * 2)) = some (.string q.u) ∧ W.cell? ⟨(y.add (i * 2)).block, (y.add (i * 2)).off + 1, none⟩ = some (.int .i64 q.m)) W := fun W h => ⟨(h.cell (p := ⟨w.heap.size, 6, none⟩) (Nat.lt_of_lt_of_le (Nat.lt_succ_self _) (Nat.le_succ _))).trans hS0.1, (h.cell (Nat.lt_of_lt_of_le hyb (Nat.le_add_right _ _))).trans hS0.2.1, (h.cell (p := ⟨(y.add (i * 2)).block, _, none⟩) (Nat.lt_of_lt_of_le hyb (Nat.le_add_right _ _))).trans hS0.2.2⟩
        have hS1 : (fun W : World => W.cell? ⟨w.heap.size, 6, none⟩ = some (.slice (some y) n.acl.length ca) ∧ W.cell? (y.add (i * 2)) = some (.string q.u) ∧ W.cell? ⟨(y.add (i * 2)).block, (y.add (i * 2)).off + 1, none⟩ = some (.int .i64 q.m)) (W0.alloc (.cells #[.string q.u, .int .i64 (q.m % 256)] 60)) := hk _ ((alloc_below _ _).mono g0.lt)
        have hS2 : (fun W : World => W.cell? ⟨w.heap.size, 6, none⟩ = some (.slice (some y) n.acl.length ca) ∧ W.cell? (y.add (i * 2)) = some (.string q.u) ∧ W.cell? ⟨(y.add (i * 2)).block, (y.add (i * 2)).off + 1, none⟩ = some (.int .i64 q.m)) V3 := hk _ hB3
        clear o0 hG3 hB3 hk
        refine wpAnyH_take (i := 0) (v := ?_) (by simp only [List.getElem?_toArray, List.getElem?_cons_zero, List.getElem?_cons_succ]; rfl) (by kernel_rfl) (by kernel_rfl) (by kernel_rfl) (by exact fun _ _ _ h => h) (Or.inl ⟨by rfl, ?_⟩) (by assumption) ?_; rotate_left; (focus (intro w hSw; (try dsimp only at hSw); go_simp; try with_reducible rfl)); (try simp only [Act.put, List.setIfInBounds_toArray, List.set_cons_zero, List.set_cons_succ])
        refine wpAnyH_take (i := 1) (v := ?_) (by simp only [List.getElem?_toArray, List.getElem?_cons_zero, List.getElem?_cons_succ]; rfl) (by kernel_rfl) (by kernel_rfl) (by kernel_rfl) (by exact fun _ _ _ h => h) (Or.inl ⟨by rfl, ?_⟩) (by assumption) ?_; rotate_left; (focus (intro w hSw; (try dsimp only at hSw); go_simp; try with_reducible rfl)); (try simp only [Act.put, List.setIfInBounds_toArray, List.set_cons_zero, List.set_cons_succ])
        refine wpAnyH_take (i := 2) (v := ?_) (by simp only [List.getElem?_toArray, List.getElem?_cons_zero, List.getElem?_cons_succ]; rfl) (by kernel_rfl) (by kernel_rfl) (by kernel_rfl) (by exact fun _ _ _ h => h) (Or.inl ⟨by rfl, ?_⟩) (by assumption) ?_; rotate_left; (focus (intro w hSw; (try dsimp only at hSw); go_simp; try with_reducible rfl)); (try simp only [Act.put, List.setIfInBounds_toArray, List.set_cons_zero, List.set_cons_succ])
        refine wpAnyH_take (i := 3) (v := ?_) (by simp only [List.getElem?_toArray, List.getElem?_cons_zero, List.getElem?_cons_succ]; rfl) (by kernel_rfl) (by kernel_rfl) (by kernel_rfl) (by exact fun _ _ _ h => h) (Or.inl ⟨by rfl, ?_⟩) (by assumption) ?_; rotate_left; (focus (intro w hSw; (try dsimp only at hSw); go_simp; try with_reducible rfl)); (try simp only [Act.put, List.setIfInBounds_toArray, List.set_cons_zero, List.set_cons_succ])
        refine wpAnyH_take (i := 4) (v := ?_) (by simp only [List.getElem?_toArray, List.getElem?_cons_zero, List.getElem?_cons_succ]; rfl) (by kernel_rfl) (by kernel_rfl) (by kernel_rfl) (by exact fun _ _ _ h => h) (Or.inl ⟨by rfl, ?_⟩) (by assumption) ?_; rotate_left; (focus (intro w hSw; (try dsimp only at hSw); go_simp; try with_reducible rfl)); (try simp only [Act.put, List.setIfInBounds_toArray, List.set_cons_zero, List.set_cons_succ])
        refine wpAnyH_take (i := 5) (v := ?_) (by simp only [List.getElem?_toArray, List.getElem?_cons_zero, List.getElem?_cons_succ]; rfl) (by kernel_rfl) (by kernel_rfl) (by kernel_rfl) (by exact fun _ _ _ h => h) (Or.inl ⟨by rfl, ?_⟩) (by assumption) ?_; rotate_left; (focus (intro w hSw; (try dsimp only at hSw); go_simp; try with_reducible rfl)); (try simp only [Act.put, List.setIfInBounds_toArray, List.set_cons_zero, List.set_cons_succ])
        refine wpAnyH_take (i := 6) (v := ?_) (by simp only [List.getElem?_toArray, List.getElem?_cons_zero, List.getElem?_cons_succ]; rfl) (by kernel_rfl) (by kernel_rfl) (by kernel_rfl) (by exact fun _ _ _ h => h) (Or.inl ⟨by rfl, ?_⟩) (by assumption) ?_; rotate_left; (focus (intro w hSw; (try dsimp only at hSw); go_simp; try with_reducible rfl)); (try simp only [Act.put, List.setIfInBounds_toArray, List.set_cons_zero, List.set_cons_succ])
        refine wpAnyH_take (i := 7) (v := ?_) (by simp only [List.getElem?_toArray, List.getElem?_cons_zero, List.getElem?_cons_succ]; rfl) (by kernel_rfl) (by kernel_rfl) (by kernel_rfl) (by exact fun _ _ _ h => h) (Or.inl ⟨by rfl, ?_⟩) (by assumption) ?_; rotate_left; (focus (intro w hSw; (try dsimp only at hSw); go_simp; try with_reducible rfl)); (try simp only [Act.put, List.setIfInBounds_toArray, List.set_cons_zero, List.set_cons_succ])
        refine wpAnyH_take (i := 8) (v := ?_) (by simp only [List.getElem?_toArray, List.getElem?_cons_zero, List.getElem?_cons_succ]; rfl) (by kernel_rfl) (by kernel_rfl) (by kernel_rfl) (by exact fun _ _ _ h => h) (Or.inl ⟨by rfl, ?_⟩) (by assumption) ?_; rotate_left; (focus (intro w hSw; (try dsimp only at hSw); go_simp; try with_reducible rfl)); (try simp only [Act.put, List.setIfInBounds_toArray, List.set_cons_zero, List.set_cons_succ])
        refine wpAnyH_take (i := 9) (v := ?_) (by simp only [List.getElem?_toArray, List.getElem?_cons_zero, List.getElem?_cons_succ]; rfl) (by kernel_rfl) (by kernel_rfl) (by kernel_rfl) (by exact fun _ _ _ h => h) (Or.inl ⟨by rfl, ?_⟩) (by assumption) ?_; rotate_left; (focus (intro w hSw; (try dsimp only at hSw); go_simp; try with_reducible rfl)); (try simp only [Act.put, List.setIfInBounds_toArray, List.set_cons_zero, List.set_cons_succ])
        refine wpAnyH_take (i := 10) (v := ?_) (by simp only [List.getElem?_toArray, List.getElem?_cons_zero, List.getElem?_cons_succ]; rfl) (by kernel_rfl) (by kernel_rfl) (by kernel_rfl) (by exact fun _ _ _ h => h) (Or.inl ⟨by rfl, ?_⟩) (by assumption) ?_; rotate_left; (focus (intro w hSw; (try dsimp only at hSw); go_simp; try with_reducible rfl)); (try simp only [Act.put, List.setIfInBounds_toArray, List.set_cons_zero, List.set_cons_succ])
        refine wpAnyH_take (i := 11) (v := ?_) (by simp only [List.getElem?_toArray, List.getElem?_cons_zero, List.getElem?_cons_succ]; rfl) (by kernel_rfl) (by kernel_rfl) (by kernel_rfl) (by exact fun _ _ _ h => h) (Or.inl ⟨by rfl, ?_⟩) (by assumption) ?_; rotate_left; (focus (intro w hSw; (try dsimp only at hSw); go_simp; try with_reducible rfl)); (try simp only [Act.put, List.setIfInBounds_toArray, List.set_cons_zero, List.set_cons_succ])
        refine wpAnyH_take (i := 12) (v := ?_) (by simp only [List.getElem?_toArray, List.getElem?_cons_zero, List.getElem?_cons_succ]; rfl) (by kernel_rfl) (by kernel_rfl) (by kernel_rfl) (by exact fun _ _ _ h => h) (Or.inl ⟨by rfl, ?_⟩) (by assumption) ?_; rotate_left; (focus (intro w hSw; (try dsimp only at hSw); go_simp; try with_reducible rfl)); (try simp only [Act.put, List.setIfInBounds_toArray, List.set_cons_zero, List.set_cons_succ])
        refine wpAnyH_ready (rs := [13]) (by kernel_rfl) (by simp) ?_
        refine AllReadyH.cons (by simp only [List.getElem?_toArray, List.getElem?_cons_zero, List.getElem?_cons_succ]; rfl) (fun K hK => ?_) AllReadyH.nil
        go_simp
        go_at_call 24
        refine (w10_any q.m 256 (by decide) (by decide) _).mono ?_
        rintro e w' ⟨rfl, rfl⟩
        refine hK.out _ _ (hS0) ?_
        clear hHeld hK
        intro hHeld
        (try simp only [Act.put, List.setIfInBounds_toArray, List.set_cons_zero, List.set_cons_succ])
        refine wpAnyH_take (i := 14) (v := ?_) (by simp only [List.getElem?_toArray, List.getElem?_cons_zero, List.getElem?_cons_succ]; rfl) (by kernel_rfl) (by kernel_rfl) (by kernel_rfl) (by exact fun _ _ _ h => h) (Or.inl ⟨by rfl, ?_⟩) (by assumption) ?_; rotate_left; (focus (intro w hSw; (try dsimp only at hSw); go_simp; try with_reducible rfl)); (try simp only [Act.put, List.setIfInBounds_toArray, List.set_cons_zero, List.set_cons_succ])
        refine wpAnyH_ready (rs := [15]) (by kernel_rfl) (by simp) ?_
        refine AllReadyH.cons (by simp only [List.getElem?_toArray, List.getElem?_cons_zero, List.getElem?_cons_succ]; rfl) (fun K hK => ?_) AllReadyH.nil
        go_simp
        refine hK.out _ _ (hS1) ?_
        clear hHeld hK
        intro hHeld
        (try simp only [Act.put, List.setIfInBounds_toArray, List.set_cons_zero, List.set_cons_succ])
        refine wpAnyH_ready (rs := [16]) (by kernel_rfl) (by simp) ?_
        refine AllReadyH.cons (by simp only [List.getElem?_toArray, List.getElem?_cons_zero, List.getElem?_cons_succ]; rfl) (fun K hK => ?_) AllReadyH.nil
        refine step_append rfl _ _ rfl rfl rfl rfl hap ?_
        (try simp only [Act.put, List.setIfInBounds_toArray, List.set_cons_zero, List.set_cons_succ])
        refine hK.out _ _ (hS2) ?_
        clear hHeld hK
        intro hHeld
        (try simp only [Act.put, List.setIfInBounds_toArray, List.set_cons_zero, List.set_cons_succ])
        refine wpAnyH_take (i := 17) (v := ?_) (by simp only [List.getElem?_toArray, List.getElem?_cons_zero, List.getElem?_cons_succ]; rfl) (by kernel_rfl) (by kernel_rfl) (by kernel_rfl) (by exact fun _ _ _ h => h) (Or.inl ⟨by rfl, ?_⟩) (by assumption) ?_; rotate_left; (focus (intro w hSw; (try dsimp only at hSw); go_simp; try with_reducible rfl)); (try simp only [Act.put, List.setIfInBounds_toArray, List.set_cons_zero, List.set_cons_succ])
        refine wpAnyH_done (by kernel_rfl) ?_ _
        go_wp2_with fail
        refine ⟨⟨i + 1, by omega, by simp, g3, ?_⟩, by simp [Go.RowKit.intOf]; omega⟩
        rw [hnx.out]
        exact hO3
      · rw [if_neg h255, List.append_nil] at hnx
        have i255 : ¬ (q.u.size : Int) ≤ 255 := by omega
        have hnx : Aside (plainG (n.acl.take (i + 1)) = gs) := hnx
        go_wp2_with fail
        refine ⟨⟨i + 1, by omega, by simp, g, ?_⟩, by simp [Go.RowKit.intOf]; omega⟩
        rw [hnx.out]
        exact hO
    · obtain rfl : i = n.acl.length := by omega
      rw [List.take_length] at hO
      obtain ⟨va', ca', hva, -⟩ := hO.slice gr_ok.len
      obtain ⟨L', hL'⟩ : ∃ L', (plainG n.acl).length = L' := ⟨_, rfl⟩
      rw [hL'] at hva
      clear hL'
      subst hva
      have z6f := g.b0 6 _ rfl
      have g' := g.set 6 (.slice va' L' ca') (by simp)
      have hO' : OwnG (wr.setCell ⟨w.heap.size, 6, none⟩ (.slice va' L' ca')) (w.heap.size + 2) (.slice va' L' ca') (plainG n.acl) := hO.set (fun hk => by have := (hO.lt hk).1; omega)
      go_upto_region 12 with fail
      generalize wr.setCell ⟨w.heap.size, 6, none⟩ (.slice va' L' ca') = V1 at *
      clear z6 z6f g hO
      obtain ⟨cs, hcs⟩ : ∃ cs : List Value, cs = [.string P, .bool n.dir, .int .i64 X.s, .int .i64 X.c, .int .i64 X.i, .int .i64 X.k, .slice va' L' ca', .int .i64 R.a, .int .i64 R.b, .int .i64 R.c, .int .i64 R.g, .slice wa n.words.length cw, .int .i64 Y.s, .int .i64 Y.c, .int .i64 Y.i, .int .i64 Y.k] := ⟨_, rfl⟩
      have hl : cs.length = 16 := by rw [hcs]; rfl
      have hone : ∀ v ∈ cs, v.oneCell' = true := by rw [hcs]; simp [Value.oneCell']
      have hbk : Blk V1 w.heap.size cs := by rw [hcs]; exact g'.b0
      have hrp := hbk.range
      have hth : V1.there (w.heap.size + 1) 0 cs.length := by rw [hl]; exact g'.b1.there
      have hsz2 : (Try.prog.info? 29).map (·.size) = some cs.length := by rw [hl]; kernel_rfl
      have hund : Try.prog.underlying 29 = some (.struct (Try.prog.fieldsOf 29)) := by kernel_rfl
      have z : Blk (V1.setCells (w.heap.size + 1) 0 cs) (w.heap.size + 1) cs := g'.b1.setAll (by rw [hl]; rfl)
      have b := g'.bl.trans (Below.cells (Nat.le_succ _) cs 0 (Below.refl w.heap.size V1))
      have hOz := (hO'.setAll (g := w.heap.size + 1) (fun hk => by have := (hO'.lt hk).1; omega) cs).lower (show w.heap.size ≤ w.heap.size + 2 by omega)
      obtain ⟨V9, hV9⟩ : ∃ V9, V1.setCells (w.heap.size + 1) 0 cs = V9 := ⟨_, rfl⟩
      rw [hV9] at z b hOz
      have hcs : Aside (cs = [.string P, .bool n.dir, .int .i64 X.s, .int .i64 X.c, .int .i64 X.i, .int .i64 X.k, .slice va' L' ca', .int .i64 R.a, .int .i64 R.b, .int .i64 R.c, .int .i64 R.g, .slice wa n.words.length cw, .int .i64 Y.s, .int .i64 Y.c, .int .i64 Y.i, .int .i64 Y.k]) := hcs
      clear g' hO' hbk
      go_wp2_with (first | (refine wpList_load_row rfl _ rfl _ rfl cs hrp hund rfl hsz2 ?_) | (refine wpList_store_row rfl _ _ rfl _ rfl cs rfl hth hsz2 hone hV9 ?_) | fail)
      refine bodyPost_ret (v := .agg cs.toArray) (results_row1 (p := 2) Try.results12 _ _ (w.heap.size + 1) rfl cs z.range hund rfl hsz2) rfl ⟨.slice va' L' ca', ?_, ?_, b⟩
      · rw [hcs.out, hres.out]
      · rw [hres.out]
        exact hOz
end Go.Proofs.Ytecleampjeebaaa
