/-
  THE WALK OF NodeOthers. Written by mk_nothers.py.
-/
import Derived.Test.YtecleampjeebaaaNodeReadsWalk
namespace Go.Proofs.Ytecleampjeebaaa
open Go.RowKit
set_option linter.unusedSimpArgs false
set_option linter.unusedVariables false

def othersBig (m : Msg) (x : Ent) : Bool := decide (255 < m.from_.size) || (decide (255 < m.to_.size) || (decide (255 < m.text.size) || (decide (255 < x.user.size) || decide (255 < x.object.size))))
theorem rencM_nl (m : Msg) (hm : m.Plain) (w : World) :
    Calls Try.prog 25 #[.agg (ml m).toArray] w fun r w' => ∃ a cap, r = .returned (.slice a (encM m).length cap) ∧ (a = none → cap = 0) ∧ (encM m).length ≤ cap ∧ BytesAt w' a (encM m).length (encM m) ∧ Below w.heap.size w w' := by
  refine (rencM_any m ⟨by have := hm.f; omega, by have := hm.t; omega, by have := hm.x; omega⟩ w).mono ?_
  rintro e w' ⟨v, rfl, hO, hB⟩
  obtain ⟨a, cap, rfl, h1, h2, h3⟩ := hO.long
  exact ⟨a, cap, rfl, h2, h1, h3, hB⟩
theorem rencE_nl (m : Ent) (hm : m.Plain) (w : World) :
    Calls Try.prog 26 #[.agg (el m).toArray] w fun r w' => ∃ a cap, r = .returned (.slice a (encE m).length cap) ∧ (a = none → cap = 0) ∧ (encE m).length ≤ cap ∧ BytesAt w' a (encE m).length (encE m) ∧ Below w.heap.size w w' := by
  refine (rencE_any m ⟨by have := hm.u; omega, by have := hm.o; omega⟩ w).mono ?_
  rintro e w' ⟨v, rfl, hO, hB⟩
  obtain ⟨a, cap, rfl, h1, h2, h3⟩ := hO.long
  exact ⟨a, cap, rfl, h2, h1, h3, hB⟩

set_option maxRecDepth 20000 in
set_option maxHeartbeats 8000000 in
theorem nodeOthers_walk (m : Msg) (x : Ent) (hx : -9223372036854775808 ≤ x.seq ∧ x.seq ≤ 9223372036854775807) (w : World) :
    Calls Try.prog 5 #[m.v, x.v] w fun e w' => e = .returned (.bool true) ∧ Below w.heap.size w w' := by
  have h0 : TwoL w ((w.alloc (.cells #[.string m.from_, .int .i64 m.label.s, .int .i64 m.label.c, .int .i64 m.label.i, .int .i64 m.label.k, .string m.to_, .int .i64 m.box.s, .int .i64 m.box.c, .int .i64 m.box.i, .int .i64 m.box.k, .string m.text] 42)).alloc (.cells #[.int .i64 x.seq, .int .i64 x.label.s, .int .i64 x.label.c, .int .i64 x.label.i, .int .i64 x.label.k, .string x.user, .int .i64 x.verb, .string x.object, .int .i64 x.verdict] 48)) [.string m.from_, .int .i64 m.label.s, .int .i64 m.label.c, .int .i64 m.label.i, .int .i64 m.label.k, .string m.to_, .int .i64 m.box.s, .int .i64 m.box.c, .int .i64 m.box.i, .int .i64 m.box.k, .string m.text] [.int .i64 x.seq, .int .i64 x.label.s, .int .i64 x.label.c, .int .i64 x.label.i, .int .i64 x.label.k, .string x.user, .int .i64 x.verb, .string x.object, .int .i64 x.verdict] := twol_start w _ _ _ _
  go_enter Try.func5, Try.ntmps5
  go_upto_region 1 with fail
  generalize (w.alloc (.cells #[.string m.from_, .int .i64 m.label.s, .int .i64 m.label.c, .int .i64 m.label.i, .int .i64 m.label.k, .string m.to_, .int .i64 m.box.s, .int .i64 m.box.c, .int .i64 m.box.i, .int .i64 m.box.k, .string m.text] 42)).alloc (.cells #[.int .i64 x.seq, .int .i64 x.label.s, .int .i64 x.label.c, .int .i64 x.label.i, .int .i64 x.label.k, .string x.user, .int .i64 x.verb, .string x.object, .int .i64 x.verdict] 48) = W0 at *
  go_wp2_with fail
  refine (nknown_any _).mono ?_
  rintro e W1 ⟨rfl, hB1⟩
  have h1 := h0.then hB1
  clear h0 hB1
  obtain ⟨nb, hnb⟩ : ∃ nb, othersBig m x = nb := ⟨_, rfl⟩
  have hnb : Aside (othersBig m x = nb) := hnb
  go_upto_region 3 with fail
  go_cut [40] from 11 (fun s40 wc => s40 = .bool nb ∧ wc = W1)
  case first =>
    have z0 := (h1.b0 0 _ rfl).1
    have z5 := (h1.b0 5 _ rfl).1
    have z10 := (h1.b0 10 _ rfl).1
    have y5 := (h1.b1 5 _ rfl).1
    have y7 := (h1.b1 7 _ rfl).1
    by_cases e0 : 255 < m.from_.size
    · have i0 : (255 : Int) < (m.from_.size : Int) := by omega
      have hh : Aside (true = nb) := by rw [← hnb.out]; unfold othersBig; simp [e0]; exact trivial
      go_wp2_with fail
      go_meet
      exact ⟨by rw [← hh.out], rfl⟩
    have i0 : ¬ (255 : Int) < (m.from_.size : Int) := by omega
    by_cases e1 : 255 < m.to_.size
    · have i1 : (255 : Int) < (m.to_.size : Int) := by omega
      have hh : Aside (true = nb) := by rw [← hnb.out]; unfold othersBig; simp [e1]; exact trivial
      go_wp2_with fail
      go_meet
      exact ⟨by rw [← hh.out], rfl⟩
    have i1 : ¬ (255 : Int) < (m.to_.size : Int) := by omega
    by_cases e2 : 255 < m.text.size
    · have i2 : (255 : Int) < (m.text.size : Int) := by omega
      have hh : Aside (true = nb) := by rw [← hnb.out]; unfold othersBig; simp [e2]; exact trivial
      go_wp2_with fail
      go_meet
      exact ⟨by rw [← hh.out], rfl⟩
    have i2 : ¬ (255 : Int) < (m.text.size : Int) := by omega
    by_cases e3 : 255 < x.user.size
    · have i3 : (255 : Int) < (x.user.size : Int) := by omega
      have hh : Aside (true = nb) := by rw [← hnb.out]; unfold othersBig; simp [e3]; exact trivial
      go_wp2_with fail
      go_meet
      exact ⟨by rw [← hh.out], rfl⟩
    have i3 : ¬ (255 : Int) < (x.user.size : Int) := by omega
    by_cases e4 : 255 < x.object.size
    · have i4 : (255 : Int) < (x.object.size : Int) := by omega
      have hh : Aside (true = nb) := by rw [← hnb.out]; unfold othersBig; simp [e4]; exact trivial
      go_wp2_with fail
      go_meet
      exact ⟨by rw [← hh.out], rfl⟩
    have i4 : ¬ (255 : Int) < (x.object.size : Int) := by omega
    have hh : Aside (false = nb) := by rw [← hnb.out]; unfold othersBig; simp [e0, e1, e2, e3, e4]; exact trivial
    go_wp2_with fail
    go_meet
    exact ⟨by rw [← hh.out], rfl⟩
  case rest =>
  obtain ⟨rfl, rfl⟩ := hcut
  cases nb
  case true =>
    go_wp2_with fail
    go_ret
    exact ⟨rfl, h1.bl⟩
  have hsmall : m.from_.size < 256 ∧ m.to_.size < 256 ∧ m.text.size < 256 ∧ x.user.size < 256 ∧ x.object.size < 256 := by
    have := hnb.out
    unfold othersBig at this
    simp at this
    omega
  clear hnb
  obtain ⟨A, hA⟩ : ∃ A, goodL m.label = A := ⟨_, rfl⟩
  obtain ⟨B, hB⟩ : ∃ B, goodL m.box = B := ⟨_, rfl⟩
  obtain ⟨C, hC⟩ : ∃ C, goodL x.label = C := ⟨_, rfl⟩
  have good_byte : ∀ l : Lab, (goodL l).Byte := fun l => by
    have := good_GL l
    exact ⟨⟨this.s0, by have := this.s1; omega⟩, ⟨this.c0, by have := this.c1; omega⟩, ⟨this.i0, by have := this.i1; omega⟩, ⟨this.k0, by have := this.k1; omega⟩⟩
  have bA := good_byte m.label
  have bB := good_byte m.box
  have bC := good_byte x.label
  have kA := fun W => good_any m.label W
  have kB := fun W => good_any m.box W
  have kC := fun W => good_any x.label W
  simp only [hA] at kA bA
  simp only [hB] at kB bB
  simp only [hC] at kC bC
  clear hA hB hC good_byte
  go_upto_region 5 with fail
  go_cut [] from 11 (fun wd => TwoL w wd [.string m.from_, .int .i64 A.s, .int .i64 A.c, .int .i64 A.i, .int .i64 A.k, .string m.to_, .int .i64 B.s, .int .i64 B.c, .int .i64 B.i, .int .i64 B.k, .string m.text] [.int .i64 x.seq, .int .i64 C.s, .int .i64 C.c, .int .i64 C.i, .int .i64 C.k, .string x.user, .int .i64 x.verb, .string x.object, .int .i64 x.verdict])
  case first =>
    have h0 := h1.drew
    have q0_1 := h0.b0 1 _ rfl
    have q0_2 := h0.b0 2 _ rfl
    have q0_3 := h0.b0 3 _ rfl
    have q0_4 := h0.b0 4 _ rfl
    have q0_6 := h0.b0 6 _ rfl
    have q0_7 := h0.b0 7 _ rfl
    have q0_8 := h0.b0 8 _ rfl
    have q0_9 := h0.b0 9 _ rfl
    have p0_1 := h0.b1 1 _ rfl
    have p0_2 := h0.b1 2 _ rfl
    have p0_3 := h0.b1 3 _ rfl
    have p0_4 := h0.b1 4 _ rfl
    clear h1
    refine wp_region_held_drew (S := (fun _ => True)) (by kernel_rfl) (by trivial) ?_
    intro hHeld
    generalize wc.drew = w0 at *
    refine wpAnyH_take (i := 0) (v := ?_) (by simp only [List.getElem?_toArray, List.getElem?_cons_zero, List.getElem?_cons_succ]; rfl) (by kernel_rfl) (by kernel_rfl) (by kernel_rfl) (by exact fun _ _ _ h => h) (Or.inl ⟨by rfl, ?_⟩) (by assumption) ?_; rotate_left; (focus (intro w hSw; (try dsimp only at hSw); go_simp; try with_reducible rfl)); (try simp only [Act.put, List.setIfInBounds_toArray, List.set_cons_zero, List.set_cons_succ])
    refine wpAnyH_take (i := 3) (v := ?_) (by simp only [List.getElem?_toArray, List.getElem?_cons_zero, List.getElem?_cons_succ]; rfl) (by kernel_rfl) (by kernel_rfl) (by kernel_rfl) (by exact fun _ _ _ h => h) (Or.inl ⟨by rfl, ?_⟩) (by assumption) ?_; rotate_left; (focus (intro w hSw; (try dsimp only at hSw); go_simp; try with_reducible rfl)); (try simp only [Act.put, List.setIfInBounds_toArray, List.set_cons_zero, List.set_cons_succ])
    refine wpAnyH_take (i := 6) (v := ?_) (by simp only [List.getElem?_toArray, List.getElem?_cons_zero, List.getElem?_cons_succ]; rfl) (by kernel_rfl) (by kernel_rfl) (by kernel_rfl) (by exact fun _ _ _ h => h) (Or.inl ⟨by rfl, ?_⟩) (by assumption) ?_; rotate_left; (focus (intro w hSw; (try dsimp only at hSw); go_simp; try with_reducible rfl)); (try simp only [Act.put, List.setIfInBounds_toArray, List.set_cons_zero, List.set_cons_succ])
    refine wpAnyH_ready (rs := [1, 4, 7]) (by kernel_rfl) (by simp) ?_
    refine AllReadyH.cons (by simp only [List.getElem?_toArray, List.getElem?_cons_zero, List.getElem?_cons_succ]; rfl) (fun K hK => ?_) ?_
    · go_simp
      refine hK.out _ _ (trivial) ?_
      clear hHeld hK
      intro hHeld
      (try simp only [Act.put, List.setIfInBounds_toArray, List.set_cons_zero, List.set_cons_succ])
      refine wpAnyH_ready (rs := [2, 4, 7]) (by kernel_rfl) (by simp) ?_
      refine AllReadyH.cons (by simp only [List.getElem?_toArray, List.getElem?_cons_zero, List.getElem?_cons_succ]; rfl) (fun K hK => ?_) ?_
      · go_simp
        go_at_call 23
        refine (kA _).mono ?_
        rintro e w1 ⟨rfl, hB1⟩
        have h1 := h0.then hB1
        clear q0_1 q0_2 q0_3 q0_4 q0_6 q0_7 q0_8 q0_9 p0_1 p0_2 p0_3 p0_4
        have q1_1 := h1.b0 1 _ rfl
        have q1_2 := h1.b0 2 _ rfl
        have q1_3 := h1.b0 3 _ rfl
        have q1_4 := h1.b0 4 _ rfl
        have q1_6 := h1.b0 6 _ rfl
        have q1_7 := h1.b0 7 _ rfl
        have q1_8 := h1.b0 8 _ rfl
        have q1_9 := h1.b0 9 _ rfl
        have p1_1 := h1.b1 1 _ rfl
        have p1_2 := h1.b1 2 _ rfl
        have p1_3 := h1.b1 3 _ rfl
        have p1_4 := h1.b1 4 _ rfl
        refine hK.out _ _ (trivial) ?_
        clear hHeld hK
        intro hHeld
        (try simp only [Act.put, List.setIfInBounds_toArray, List.set_cons_zero, List.set_cons_succ])
        refine wpAnyH_ready (rs := [4, 7]) (by kernel_rfl) (by simp) ?_
        refine AllReadyH.cons (by simp only [List.getElem?_toArray, List.getElem?_cons_zero, List.getElem?_cons_succ]; rfl) (fun K hK => ?_) ?_
        · go_simp
          refine hK.out _ _ (trivial) ?_
          clear hHeld hK
          intro hHeld
          (try simp only [Act.put, List.setIfInBounds_toArray, List.set_cons_zero, List.set_cons_succ])
          refine wpAnyH_take (i := 9) (v := ?_) (by simp only [List.getElem?_toArray, List.getElem?_cons_zero, List.getElem?_cons_succ]; rfl) (by kernel_rfl) (by kernel_rfl) (by kernel_rfl) (by exact fun _ _ _ h => h) (Or.inl ⟨by rfl, ?_⟩) (by assumption) ?_; rotate_left; (focus (intro w hSw; (try dsimp only at hSw); go_simp; try with_reducible rfl)); (try simp only [Act.put, List.setIfInBounds_toArray, List.set_cons_zero, List.set_cons_succ])
          refine wpAnyH_ready (rs := [5, 7]) (by kernel_rfl) (by simp) ?_
          refine AllReadyH.cons (by simp only [List.getElem?_toArray, List.getElem?_cons_zero, List.getElem?_cons_succ]; rfl) (fun K hK => ?_) ?_
          · go_simp
            go_at_call 23
            refine (kB _).mono ?_
            rintro e w2 ⟨rfl, hB2⟩
            have h2 := h1.then hB2
            clear q1_1 q1_2 q1_3 q1_4 q1_6 q1_7 q1_8 q1_9 p1_1 p1_2 p1_3 p1_4
            have q2_1 := h2.b0 1 _ rfl
            have q2_2 := h2.b0 2 _ rfl
            have q2_3 := h2.b0 3 _ rfl
            have q2_4 := h2.b0 4 _ rfl
            have q2_6 := h2.b0 6 _ rfl
            have q2_7 := h2.b0 7 _ rfl
            have q2_8 := h2.b0 8 _ rfl
            have q2_9 := h2.b0 9 _ rfl
            have p2_1 := h2.b1 1 _ rfl
            have p2_2 := h2.b1 2 _ rfl
            have p2_3 := h2.b1 3 _ rfl
            have p2_4 := h2.b1 4 _ rfl
            refine hK.out _ _ (trivial) ?_
            clear hHeld hK
            intro hHeld
            (try simp only [Act.put, List.setIfInBounds_toArray, List.set_cons_zero, List.set_cons_succ])
            refine wpAnyH_ready (rs := [7]) (by kernel_rfl) (by simp) ?_
            refine AllReadyH.cons (by simp only [List.getElem?_toArray, List.getElem?_cons_zero, List.getElem?_cons_succ]; rfl) (fun K hK => ?_) AllReadyH.nil
            go_simp
            refine hK.out _ _ (trivial) ?_
            clear hHeld hK
            intro hHeld
            (try simp only [Act.put, List.setIfInBounds_toArray, List.set_cons_zero, List.set_cons_succ])
            refine wpAnyH_ready (rs := [8]) (by kernel_rfl) (by simp) ?_
            refine AllReadyH.cons (by simp only [List.getElem?_toArray, List.getElem?_cons_zero, List.getElem?_cons_succ]; rfl) (fun K hK => ?_) AllReadyH.nil
            go_simp
            go_at_call 23
            refine (kC _).mono ?_
            rintro e w3 ⟨rfl, hB3⟩
            have h3 := h2.then hB3
            clear q2_1 q2_2 q2_3 q2_4 q2_6 q2_7 q2_8 q2_9 p2_1 p2_2 p2_3 p2_4
            have q3_1 := h3.b0 1 _ rfl
            have q3_2 := h3.b0 2 _ rfl
            have q3_3 := h3.b0 3 _ rfl
            have q3_4 := h3.b0 4 _ rfl
            have q3_6 := h3.b0 6 _ rfl
            have q3_7 := h3.b0 7 _ rfl
            have q3_8 := h3.b0 8 _ rfl
            have q3_9 := h3.b0 9 _ rfl
            have p3_1 := h3.b1 1 _ rfl
            have p3_2 := h3.b1 2 _ rfl
            have p3_3 := h3.b1 3 _ rfl
            have p3_4 := h3.b1 4 _ rfl
            refine hK.out _ _ (trivial) ?_
            clear hHeld hK
            intro hHeld
            (try simp only [Act.put, List.setIfInBounds_toArray, List.set_cons_zero, List.set_cons_succ])
            refine wpAnyH_ready (rs := [10]) (by kernel_rfl) (by simp) ?_
            refine AllReadyH.cons (by simp only [List.getElem?_toArray, List.getElem?_cons_zero, List.getElem?_cons_succ]; rfl) (fun K hK => ?_) AllReadyH.nil
            go_simp
            refine hK.out _ _ (trivial) ?_
            clear hHeld hK
            intro hHeld
            (try simp only [Act.put, List.setIfInBounds_toArray, List.set_cons_zero, List.set_cons_succ])
            refine wpAnyH_take (i := 11) (v := ?_) (by simp only [List.getElem?_toArray, List.getElem?_cons_zero, List.getElem?_cons_succ]; rfl) (by kernel_rfl) (by kernel_rfl) (by kernel_rfl) (by exact fun _ _ _ h => h) (Or.inl ⟨by rfl, ?_⟩) (by assumption) ?_; rotate_left; (focus (intro w hSw; (try dsimp only at hSw); go_simp; try with_reducible rfl)); (try simp only [Act.put, List.setIfInBounds_toArray, List.set_cons_zero, List.set_cons_succ])
            refine wpAnyH_ready (rs := [12]) (by kernel_rfl) (by simp) ?_
            refine AllReadyH.cons (by simp only [List.getElem?_toArray, List.getElem?_cons_zero, List.getElem?_cons_succ]; rfl) (fun K hK => ?_) AllReadyH.nil
            go_simp
            refine hK.out _ _ (trivial) ?_
            clear hHeld hK
            intro hHeld
            (try simp only [Act.put, List.setIfInBounds_toArray, List.set_cons_zero, List.set_cons_succ])
            refine wpAnyH_take (i := 13) (v := ?_) (by simp only [List.getElem?_toArray, List.getElem?_cons_zero, List.getElem?_cons_succ]; rfl) (by kernel_rfl) (by kernel_rfl) (by kernel_rfl) (by exact fun _ _ _ h => h) (Or.inl ⟨by rfl, ?_⟩) (by assumption) ?_; rotate_left; (focus (intro w hSw; (try dsimp only at hSw); go_simp; try with_reducible rfl)); (try simp only [Act.put, List.setIfInBounds_toArray, List.set_cons_zero, List.set_cons_succ])
            refine wpAnyH_ready (rs := [14]) (by kernel_rfl) (by simp) ?_
            refine AllReadyH.cons (by simp only [List.getElem?_toArray, List.getElem?_cons_zero, List.getElem?_cons_succ]; rfl) (fun K hK => ?_) AllReadyH.nil
            go_simp
            refine hK.out _ _ (trivial) ?_
            clear hHeld hK
            intro hHeld
            (try simp only [Act.put, List.setIfInBounds_toArray, List.set_cons_zero, List.set_cons_succ])
            refine wpAnyH_done (by kernel_rfl) ?_ _
            go_wp2_with fail
            go_meet
            exact ((((((((((((h3.set0 1 (.int .i64 A.s) (by simp)).set0 2 (.int .i64 A.c) (by simp)).set0 3 (.int .i64 A.i) (by simp)).set0 4 (.int .i64 A.k) (by simp)).set0 6 (.int .i64 B.s) (by simp)).set0 7 (.int .i64 B.c) (by simp)).set0 8 (.int .i64 B.i) (by simp)).set0 9 (.int .i64 B.k) (by simp)).set1 1 (.int .i64 C.s) (by simp)).set1 2 (.int .i64 C.c) (by simp)).set1 3 (.int .i64 C.i) (by simp)).set1 4 (.int .i64 C.k) (by simp))
          refine AllReadyH.cons (by simp only [List.getElem?_toArray, List.getElem?_cons_zero, List.getElem?_cons_succ]; rfl) (fun K hK => ?_) AllReadyH.nil
          go_simp
          refine hK.out _ _ (trivial) ?_
          clear hHeld hK
          intro hHeld
          (try simp only [Act.put, List.setIfInBounds_toArray, List.set_cons_zero, List.set_cons_succ])
          refine wpAnyH_ready (rs := [5]) (by kernel_rfl) (by simp) ?_
          refine AllReadyH.cons (by simp only [List.getElem?_toArray, List.getElem?_cons_zero, List.getElem?_cons_succ]; rfl) (fun K hK => ?_) AllReadyH.nil
          go_simp
          go_at_call 23
          refine (kB _).mono ?_
          rintro e w2 ⟨rfl, hB2⟩
          have h2 := h1.then hB2
          clear q1_1 q1_2 q1_3 q1_4 q1_6 q1_7 q1_8 q1_9 p1_1 p1_2 p1_3 p1_4
          have q2_1 := h2.b0 1 _ rfl
          have q2_2 := h2.b0 2 _ rfl
          have q2_3 := h2.b0 3 _ rfl
          have q2_4 := h2.b0 4 _ rfl
          have q2_6 := h2.b0 6 _ rfl
          have q2_7 := h2.b0 7 _ rfl
          have q2_8 := h2.b0 8 _ rfl
          have q2_9 := h2.b0 9 _ rfl
          have p2_1 := h2.b1 1 _ rfl
          have p2_2 := h2.b1 2 _ rfl
          have p2_3 := h2.b1 3 _ rfl
          have p2_4 := h2.b1 4 _ rfl
          refine hK.out _ _ (trivial) ?_
          clear hHeld hK
          intro hHeld
          (try simp only [Act.put, List.setIfInBounds_toArray, List.set_cons_zero, List.set_cons_succ])
          refine wpAnyH_ready (rs := [8]) (by kernel_rfl) (by simp) ?_
          refine AllReadyH.cons (by simp only [List.getElem?_toArray, List.getElem?_cons_zero, List.getElem?_cons_succ]; rfl) (fun K hK => ?_) AllReadyH.nil
          go_simp
          go_at_call 23
          refine (kC _).mono ?_
          rintro e w3 ⟨rfl, hB3⟩
          have h3 := h2.then hB3
          clear q2_1 q2_2 q2_3 q2_4 q2_6 q2_7 q2_8 q2_9 p2_1 p2_2 p2_3 p2_4
          have q3_1 := h3.b0 1 _ rfl
          have q3_2 := h3.b0 2 _ rfl
          have q3_3 := h3.b0 3 _ rfl
          have q3_4 := h3.b0 4 _ rfl
          have q3_6 := h3.b0 6 _ rfl
          have q3_7 := h3.b0 7 _ rfl
          have q3_8 := h3.b0 8 _ rfl
          have q3_9 := h3.b0 9 _ rfl
          have p3_1 := h3.b1 1 _ rfl
          have p3_2 := h3.b1 2 _ rfl
          have p3_3 := h3.b1 3 _ rfl
          have p3_4 := h3.b1 4 _ rfl
          refine hK.out _ _ (trivial) ?_
          clear hHeld hK
          intro hHeld
          (try simp only [Act.put, List.setIfInBounds_toArray, List.set_cons_zero, List.set_cons_succ])
          refine wpAnyH_ready (rs := [10]) (by kernel_rfl) (by simp) ?_
          refine AllReadyH.cons (by simp only [List.getElem?_toArray, List.getElem?_cons_zero, List.getElem?_cons_succ]; rfl) (fun K hK => ?_) AllReadyH.nil
          go_simp
          refine hK.out _ _ (trivial) ?_
          clear hHeld hK
          intro hHeld
          (try simp only [Act.put, List.setIfInBounds_toArray, List.set_cons_zero, List.set_cons_succ])
          refine wpAnyH_take (i := 11) (v := ?_) (by simp only [List.getElem?_toArray, List.getElem?_cons_zero, List.getElem?_cons_succ]; rfl) (by kernel_rfl) (by kernel_rfl) (by kernel_rfl) (by exact fun _ _ _ h => h) (Or.inl ⟨by rfl, ?_⟩) (by assumption) ?_; rotate_left; (focus (intro w hSw; (try dsimp only at hSw); go_simp; try with_reducible rfl)); (try simp only [Act.put, List.setIfInBounds_toArray, List.set_cons_zero, List.set_cons_succ])
          refine wpAnyH_ready (rs := [12]) (by kernel_rfl) (by simp) ?_
          refine AllReadyH.cons (by simp only [List.getElem?_toArray, List.getElem?_cons_zero, List.getElem?_cons_succ]; rfl) (fun K hK => ?_) AllReadyH.nil
          go_simp
          refine hK.out _ _ (trivial) ?_
          clear hHeld hK
          intro hHeld
          (try simp only [Act.put, List.setIfInBounds_toArray, List.set_cons_zero, List.set_cons_succ])
          refine wpAnyH_take (i := 13) (v := ?_) (by simp only [List.getElem?_toArray, List.getElem?_cons_zero, List.getElem?_cons_succ]; rfl) (by kernel_rfl) (by kernel_rfl) (by kernel_rfl) (by exact fun _ _ _ h => h) (Or.inl ⟨by rfl, ?_⟩) (by assumption) ?_; rotate_left; (focus (intro w hSw; (try dsimp only at hSw); go_simp; try with_reducible rfl)); (try simp only [Act.put, List.setIfInBounds_toArray, List.set_cons_zero, List.set_cons_succ])
          refine wpAnyH_ready (rs := [14]) (by kernel_rfl) (by simp) ?_
          refine AllReadyH.cons (by simp only [List.getElem?_toArray, List.getElem?_cons_zero, List.getElem?_cons_succ]; rfl) (fun K hK => ?_) AllReadyH.nil
          go_simp
          refine hK.out _ _ (trivial) ?_
          clear hHeld hK
          intro hHeld
          (try simp only [Act.put, List.setIfInBounds_toArray, List.set_cons_zero, List.set_cons_succ])
          refine wpAnyH_done (by kernel_rfl) ?_ _
          go_wp2_with fail
          go_meet
          exact ((((((((((((h3.set0 1 (.int .i64 A.s) (by simp)).set0 2 (.int .i64 A.c) (by simp)).set0 3 (.int .i64 A.i) (by simp)).set0 4 (.int .i64 A.k) (by simp)).set0 6 (.int .i64 B.s) (by simp)).set0 7 (.int .i64 B.c) (by simp)).set0 8 (.int .i64 B.i) (by simp)).set0 9 (.int .i64 B.k) (by simp)).set1 1 (.int .i64 C.s) (by simp)).set1 2 (.int .i64 C.c) (by simp)).set1 3 (.int .i64 C.i) (by simp)).set1 4 (.int .i64 C.k) (by simp))
        refine AllReadyH.cons (by simp only [List.getElem?_toArray, List.getElem?_cons_zero, List.getElem?_cons_succ]; rfl) (fun K hK => ?_) AllReadyH.nil
        go_simp
        refine hK.out _ _ (trivial) ?_
        clear hHeld hK
        intro hHeld
        (try simp only [Act.put, List.setIfInBounds_toArray, List.set_cons_zero, List.set_cons_succ])
        refine wpAnyH_ready (rs := [4]) (by kernel_rfl) (by simp) ?_
        refine AllReadyH.cons (by simp only [List.getElem?_toArray, List.getElem?_cons_zero, List.getElem?_cons_succ]; rfl) (fun K hK => ?_) AllReadyH.nil
        go_simp
        refine hK.out _ _ (trivial) ?_
        clear hHeld hK
        intro hHeld
        (try simp only [Act.put, List.setIfInBounds_toArray, List.set_cons_zero, List.set_cons_succ])
        refine wpAnyH_take (i := 9) (v := ?_) (by simp only [List.getElem?_toArray, List.getElem?_cons_zero, List.getElem?_cons_succ]; rfl) (by kernel_rfl) (by kernel_rfl) (by kernel_rfl) (by exact fun _ _ _ h => h) (Or.inl ⟨by rfl, ?_⟩) (by assumption) ?_; rotate_left; (focus (intro w hSw; (try dsimp only at hSw); go_simp; try with_reducible rfl)); (try simp only [Act.put, List.setIfInBounds_toArray, List.set_cons_zero, List.set_cons_succ])
        refine wpAnyH_ready (rs := [5]) (by kernel_rfl) (by simp) ?_
        refine AllReadyH.cons (by simp only [List.getElem?_toArray, List.getElem?_cons_zero, List.getElem?_cons_succ]; rfl) (fun K hK => ?_) AllReadyH.nil
        go_simp
        go_at_call 23
        refine (kB _).mono ?_
        rintro e w2 ⟨rfl, hB2⟩
        have h2 := h1.then hB2
        clear q1_1 q1_2 q1_3 q1_4 q1_6 q1_7 q1_8 q1_9 p1_1 p1_2 p1_3 p1_4
        have q2_1 := h2.b0 1 _ rfl
        have q2_2 := h2.b0 2 _ rfl
        have q2_3 := h2.b0 3 _ rfl
        have q2_4 := h2.b0 4 _ rfl
        have q2_6 := h2.b0 6 _ rfl
        have q2_7 := h2.b0 7 _ rfl
        have q2_8 := h2.b0 8 _ rfl
        have q2_9 := h2.b0 9 _ rfl
        have p2_1 := h2.b1 1 _ rfl
        have p2_2 := h2.b1 2 _ rfl
        have p2_3 := h2.b1 3 _ rfl
        have p2_4 := h2.b1 4 _ rfl
        refine hK.out _ _ (trivial) ?_
        clear hHeld hK
        intro hHeld
        (try simp only [Act.put, List.setIfInBounds_toArray, List.set_cons_zero, List.set_cons_succ])
        refine wpAnyH_ready (rs := [8]) (by kernel_rfl) (by simp) ?_
        refine AllReadyH.cons (by simp only [List.getElem?_toArray, List.getElem?_cons_zero, List.getElem?_cons_succ]; rfl) (fun K hK => ?_) AllReadyH.nil
        go_simp
        go_at_call 23
        refine (kC _).mono ?_
        rintro e w3 ⟨rfl, hB3⟩
        have h3 := h2.then hB3
        clear q2_1 q2_2 q2_3 q2_4 q2_6 q2_7 q2_8 q2_9 p2_1 p2_2 p2_3 p2_4
        have q3_1 := h3.b0 1 _ rfl
        have q3_2 := h3.b0 2 _ rfl
        have q3_3 := h3.b0 3 _ rfl
        have q3_4 := h3.b0 4 _ rfl
        have q3_6 := h3.b0 6 _ rfl
        have q3_7 := h3.b0 7 _ rfl
        have q3_8 := h3.b0 8 _ rfl
        have q3_9 := h3.b0 9 _ rfl
        have p3_1 := h3.b1 1 _ rfl
        have p3_2 := h3.b1 2 _ rfl
        have p3_3 := h3.b1 3 _ rfl
        have p3_4 := h3.b1 4 _ rfl
        refine hK.out _ _ (trivial) ?_
        clear hHeld hK
        intro hHeld
        (try simp only [Act.put, List.setIfInBounds_toArray, List.set_cons_zero, List.set_cons_succ])
        refine wpAnyH_ready (rs := [10]) (by kernel_rfl) (by simp) ?_
        refine AllReadyH.cons (by simp only [List.getElem?_toArray, List.getElem?_cons_zero, List.getElem?_cons_succ]; rfl) (fun K hK => ?_) AllReadyH.nil
        go_simp
        refine hK.out _ _ (trivial) ?_
        clear hHeld hK
        intro hHeld
        (try simp only [Act.put, List.setIfInBounds_toArray, List.set_cons_zero, List.set_cons_succ])
        refine wpAnyH_take (i := 11) (v := ?_) (by simp only [List.getElem?_toArray, List.getElem?_cons_zero, List.getElem?_cons_succ]; rfl) (by kernel_rfl) (by kernel_rfl) (by kernel_rfl) (by exact fun _ _ _ h => h) (Or.inl ⟨by rfl, ?_⟩) (by assumption) ?_; rotate_left; (focus (intro w hSw; (try dsimp only at hSw); go_simp; try with_reducible rfl)); (try simp only [Act.put, List.setIfInBounds_toArray, List.set_cons_zero, List.set_cons_succ])
        refine wpAnyH_ready (rs := [12]) (by kernel_rfl) (by simp) ?_
        refine AllReadyH.cons (by simp only [List.getElem?_toArray, List.getElem?_cons_zero, List.getElem?_cons_succ]; rfl) (fun K hK => ?_) AllReadyH.nil
        go_simp
        refine hK.out _ _ (trivial) ?_
        clear hHeld hK
        intro hHeld
        (try simp only [Act.put, List.setIfInBounds_toArray, List.set_cons_zero, List.set_cons_succ])
        refine wpAnyH_take (i := 13) (v := ?_) (by simp only [List.getElem?_toArray, List.getElem?_cons_zero, List.getElem?_cons_succ]; rfl) (by kernel_rfl) (by kernel_rfl) (by kernel_rfl) (by exact fun _ _ _ h => h) (Or.inl ⟨by rfl, ?_⟩) (by assumption) ?_; rotate_left; (focus (intro w hSw; (try dsimp only at hSw); go_simp; try with_reducible rfl)); (try simp only [Act.put, List.setIfInBounds_toArray, List.set_cons_zero, List.set_cons_succ])
        refine wpAnyH_ready (rs := [14]) (by kernel_rfl) (by simp) ?_
        refine AllReadyH.cons (by simp only [List.getElem?_toArray, List.getElem?_cons_zero, List.getElem?_cons_succ]; rfl) (fun K hK => ?_) AllReadyH.nil
        go_simp
        refine hK.out _ _ (trivial) ?_
        clear hHeld hK
        intro hHeld
        (try simp only [Act.put, List.setIfInBounds_toArray, List.set_cons_zero, List.set_cons_succ])
        refine wpAnyH_done (by kernel_rfl) ?_ _
        go_wp2_with fail
        go_meet
        exact ((((((((((((h3.set0 1 (.int .i64 A.s) (by simp)).set0 2 (.int .i64 A.c) (by simp)).set0 3 (.int .i64 A.i) (by simp)).set0 4 (.int .i64 A.k) (by simp)).set0 6 (.int .i64 B.s) (by simp)).set0 7 (.int .i64 B.c) (by simp)).set0 8 (.int .i64 B.i) (by simp)).set0 9 (.int .i64 B.k) (by simp)).set1 1 (.int .i64 C.s) (by simp)).set1 2 (.int .i64 C.c) (by simp)).set1 3 (.int .i64 C.i) (by simp)).set1 4 (.int .i64 C.k) (by simp))
      refine AllReadyH.cons (by simp only [List.getElem?_toArray, List.getElem?_cons_zero, List.getElem?_cons_succ]; rfl) (fun K hK => ?_) ?_
      · go_simp
        refine hK.out _ _ (trivial) ?_
        clear hHeld hK
        intro hHeld
        (try simp only [Act.put, List.setIfInBounds_toArray, List.set_cons_zero, List.set_cons_succ])
        refine wpAnyH_ready (rs := [2, 7]) (by kernel_rfl) (by simp) ?_
        refine AllReadyH.cons (by simp only [List.getElem?_toArray, List.getElem?_cons_zero, List.getElem?_cons_succ]; rfl) (fun K hK => ?_) ?_
        · go_simp
          go_at_call 23
          refine (kA _).mono ?_
          rintro e w1 ⟨rfl, hB1⟩
          have h1 := h0.then hB1
          clear q0_1 q0_2 q0_3 q0_4 q0_6 q0_7 q0_8 q0_9 p0_1 p0_2 p0_3 p0_4
          have q1_1 := h1.b0 1 _ rfl
          have q1_2 := h1.b0 2 _ rfl
          have q1_3 := h1.b0 3 _ rfl
          have q1_4 := h1.b0 4 _ rfl
          have q1_6 := h1.b0 6 _ rfl
          have q1_7 := h1.b0 7 _ rfl
          have q1_8 := h1.b0 8 _ rfl
          have q1_9 := h1.b0 9 _ rfl
          have p1_1 := h1.b1 1 _ rfl
          have p1_2 := h1.b1 2 _ rfl
          have p1_3 := h1.b1 3 _ rfl
          have p1_4 := h1.b1 4 _ rfl
          refine hK.out _ _ (trivial) ?_
          clear hHeld hK
          intro hHeld
          (try simp only [Act.put, List.setIfInBounds_toArray, List.set_cons_zero, List.set_cons_succ])
          refine wpAnyH_take (i := 9) (v := ?_) (by simp only [List.getElem?_toArray, List.getElem?_cons_zero, List.getElem?_cons_succ]; rfl) (by kernel_rfl) (by kernel_rfl) (by kernel_rfl) (by exact fun _ _ _ h => h) (Or.inl ⟨by rfl, ?_⟩) (by assumption) ?_; rotate_left; (focus (intro w hSw; (try dsimp only at hSw); go_simp; try with_reducible rfl)); (try simp only [Act.put, List.setIfInBounds_toArray, List.set_cons_zero, List.set_cons_succ])
          refine wpAnyH_ready (rs := [5, 7]) (by kernel_rfl) (by simp) ?_
          refine AllReadyH.cons (by simp only [List.getElem?_toArray, List.getElem?_cons_zero, List.getElem?_cons_succ]; rfl) (fun K hK => ?_) ?_
          · go_simp
            go_at_call 23
            refine (kB _).mono ?_
            rintro e w2 ⟨rfl, hB2⟩
            have h2 := h1.then hB2
            clear q1_1 q1_2 q1_3 q1_4 q1_6 q1_7 q1_8 q1_9 p1_1 p1_2 p1_3 p1_4
            have q2_1 := h2.b0 1 _ rfl
            have q2_2 := h2.b0 2 _ rfl
            have q2_3 := h2.b0 3 _ rfl
            have q2_4 := h2.b0 4 _ rfl
            have q2_6 := h2.b0 6 _ rfl
            have q2_7 := h2.b0 7 _ rfl
            have q2_8 := h2.b0 8 _ rfl
            have q2_9 := h2.b0 9 _ rfl
            have p2_1 := h2.b1 1 _ rfl
            have p2_2 := h2.b1 2 _ rfl
            have p2_3 := h2.b1 3 _ rfl
            have p2_4 := h2.b1 4 _ rfl
            refine hK.out _ _ (trivial) ?_
            clear hHeld hK
            intro hHeld
            (try simp only [Act.put, List.setIfInBounds_toArray, List.set_cons_zero, List.set_cons_succ])
            refine wpAnyH_ready (rs := [7]) (by kernel_rfl) (by simp) ?_
            refine AllReadyH.cons (by simp only [List.getElem?_toArray, List.getElem?_cons_zero, List.getElem?_cons_succ]; rfl) (fun K hK => ?_) AllReadyH.nil
            go_simp
            refine hK.out _ _ (trivial) ?_
            clear hHeld hK
            intro hHeld
            (try simp only [Act.put, List.setIfInBounds_toArray, List.set_cons_zero, List.set_cons_succ])
            refine wpAnyH_ready (rs := [8]) (by kernel_rfl) (by simp) ?_
            refine AllReadyH.cons (by simp only [List.getElem?_toArray, List.getElem?_cons_zero, List.getElem?_cons_succ]; rfl) (fun K hK => ?_) AllReadyH.nil
            go_simp
            go_at_call 23
            refine (kC _).mono ?_
            rintro e w3 ⟨rfl, hB3⟩
            have h3 := h2.then hB3
            clear q2_1 q2_2 q2_3 q2_4 q2_6 q2_7 q2_8 q2_9 p2_1 p2_2 p2_3 p2_4
            have q3_1 := h3.b0 1 _ rfl
            have q3_2 := h3.b0 2 _ rfl
            have q3_3 := h3.b0 3 _ rfl
            have q3_4 := h3.b0 4 _ rfl
            have q3_6 := h3.b0 6 _ rfl
            have q3_7 := h3.b0 7 _ rfl
            have q3_8 := h3.b0 8 _ rfl
            have q3_9 := h3.b0 9 _ rfl
            have p3_1 := h3.b1 1 _ rfl
            have p3_2 := h3.b1 2 _ rfl
            have p3_3 := h3.b1 3 _ rfl
            have p3_4 := h3.b1 4 _ rfl
            refine hK.out _ _ (trivial) ?_
            clear hHeld hK
            intro hHeld
            (try simp only [Act.put, List.setIfInBounds_toArray, List.set_cons_zero, List.set_cons_succ])
            refine wpAnyH_ready (rs := [10]) (by kernel_rfl) (by simp) ?_
            refine AllReadyH.cons (by simp only [List.getElem?_toArray, List.getElem?_cons_zero, List.getElem?_cons_succ]; rfl) (fun K hK => ?_) AllReadyH.nil
            go_simp
            refine hK.out _ _ (trivial) ?_
            clear hHeld hK
            intro hHeld
            (try simp only [Act.put, List.setIfInBounds_toArray, List.set_cons_zero, List.set_cons_succ])
            refine wpAnyH_take (i := 11) (v := ?_) (by simp only [List.getElem?_toArray, List.getElem?_cons_zero, List.getElem?_cons_succ]; rfl) (by kernel_rfl) (by kernel_rfl) (by kernel_rfl) (by exact fun _ _ _ h => h) (Or.inl ⟨by rfl, ?_⟩) (by assumption) ?_; rotate_left; (focus (intro w hSw; (try dsimp only at hSw); go_simp; try with_reducible rfl)); (try simp only [Act.put, List.setIfInBounds_toArray, List.set_cons_zero, List.set_cons_succ])
            refine wpAnyH_ready (rs := [12]) (by kernel_rfl) (by simp) ?_
            refine AllReadyH.cons (by simp only [List.getElem?_toArray, List.getElem?_cons_zero, List.getElem?_cons_succ]; rfl) (fun K hK => ?_) AllReadyH.nil
            go_simp
            refine hK.out _ _ (trivial) ?_
            clear hHeld hK
            intro hHeld
            (try simp only [Act.put, List.setIfInBounds_toArray, List.set_cons_zero, List.set_cons_succ])
            refine wpAnyH_take (i := 13) (v := ?_) (by simp only [List.getElem?_toArray, List.getElem?_cons_zero, List.getElem?_cons_succ]; rfl) (by kernel_rfl) (by kernel_rfl) (by kernel_rfl) (by exact fun _ _ _ h => h) (Or.inl ⟨by rfl, ?_⟩) (by assumption) ?_; rotate_left; (focus (intro w hSw; (try dsimp only at hSw); go_simp; try with_reducible rfl)); (try simp only [Act.put, List.setIfInBounds_toArray, List.set_cons_zero, List.set_cons_succ])
            refine wpAnyH_ready (rs := [14]) (by kernel_rfl) (by simp) ?_
            refine AllReadyH.cons (by simp only [List.getElem?_toArray, List.getElem?_cons_zero, List.getElem?_cons_succ]; rfl) (fun K hK => ?_) AllReadyH.nil
            go_simp
            refine hK.out _ _ (trivial) ?_
            clear hHeld hK
            intro hHeld
            (try simp only [Act.put, List.setIfInBounds_toArray, List.set_cons_zero, List.set_cons_succ])
            refine wpAnyH_done (by kernel_rfl) ?_ _
            go_wp2_with fail
            go_meet
            exact ((((((((((((h3.set0 1 (.int .i64 A.s) (by simp)).set0 2 (.int .i64 A.c) (by simp)).set0 3 (.int .i64 A.i) (by simp)).set0 4 (.int .i64 A.k) (by simp)).set0 6 (.int .i64 B.s) (by simp)).set0 7 (.int .i64 B.c) (by simp)).set0 8 (.int .i64 B.i) (by simp)).set0 9 (.int .i64 B.k) (by simp)).set1 1 (.int .i64 C.s) (by simp)).set1 2 (.int .i64 C.c) (by simp)).set1 3 (.int .i64 C.i) (by simp)).set1 4 (.int .i64 C.k) (by simp))
          refine AllReadyH.cons (by simp only [List.getElem?_toArray, List.getElem?_cons_zero, List.getElem?_cons_succ]; rfl) (fun K hK => ?_) AllReadyH.nil
          go_simp
          refine hK.out _ _ (trivial) ?_
          clear hHeld hK
          intro hHeld
          (try simp only [Act.put, List.setIfInBounds_toArray, List.set_cons_zero, List.set_cons_succ])
          refine wpAnyH_ready (rs := [5]) (by kernel_rfl) (by simp) ?_
          refine AllReadyH.cons (by simp only [List.getElem?_toArray, List.getElem?_cons_zero, List.getElem?_cons_succ]; rfl) (fun K hK => ?_) AllReadyH.nil
          go_simp
          go_at_call 23
          refine (kB _).mono ?_
          rintro e w2 ⟨rfl, hB2⟩
          have h2 := h1.then hB2
          clear q1_1 q1_2 q1_3 q1_4 q1_6 q1_7 q1_8 q1_9 p1_1 p1_2 p1_3 p1_4
          have q2_1 := h2.b0 1 _ rfl
          have q2_2 := h2.b0 2 _ rfl
          have q2_3 := h2.b0 3 _ rfl
          have q2_4 := h2.b0 4 _ rfl
          have q2_6 := h2.b0 6 _ rfl
          have q2_7 := h2.b0 7 _ rfl
          have q2_8 := h2.b0 8 _ rfl
          have q2_9 := h2.b0 9 _ rfl
          have p2_1 := h2.b1 1 _ rfl
          have p2_2 := h2.b1 2 _ rfl
          have p2_3 := h2.b1 3 _ rfl
          have p2_4 := h2.b1 4 _ rfl
          refine hK.out _ _ (trivial) ?_
          clear hHeld hK
          intro hHeld
          (try simp only [Act.put, List.setIfInBounds_toArray, List.set_cons_zero, List.set_cons_succ])
          refine wpAnyH_ready (rs := [8]) (by kernel_rfl) (by simp) ?_
          refine AllReadyH.cons (by simp only [List.getElem?_toArray, List.getElem?_cons_zero, List.getElem?_cons_succ]; rfl) (fun K hK => ?_) AllReadyH.nil
          go_simp
          go_at_call 23
          refine (kC _).mono ?_
          rintro e w3 ⟨rfl, hB3⟩
          have h3 := h2.then hB3
          clear q2_1 q2_2 q2_3 q2_4 q2_6 q2_7 q2_8 q2_9 p2_1 p2_2 p2_3 p2_4
          have q3_1 := h3.b0 1 _ rfl
          have q3_2 := h3.b0 2 _ rfl
          have q3_3 := h3.b0 3 _ rfl
          have q3_4 := h3.b0 4 _ rfl
          have q3_6 := h3.b0 6 _ rfl
          have q3_7 := h3.b0 7 _ rfl
          have q3_8 := h3.b0 8 _ rfl
          have q3_9 := h3.b0 9 _ rfl
          have p3_1 := h3.b1 1 _ rfl
          have p3_2 := h3.b1 2 _ rfl
          have p3_3 := h3.b1 3 _ rfl
          have p3_4 := h3.b1 4 _ rfl
          refine hK.out _ _ (trivial) ?_
          clear hHeld hK
          intro hHeld
          (try simp only [Act.put, List.setIfInBounds_toArray, List.set_cons_zero, List.set_cons_succ])
          refine wpAnyH_ready (rs := [10]) (by kernel_rfl) (by simp) ?_
          refine AllReadyH.cons (by simp only [List.getElem?_toArray, List.getElem?_cons_zero, List.getElem?_cons_succ]; rfl) (fun K hK => ?_) AllReadyH.nil
          go_simp
          refine hK.out _ _ (trivial) ?_
          clear hHeld hK
          intro hHeld
          (try simp only [Act.put, List.setIfInBounds_toArray, List.set_cons_zero, List.set_cons_succ])
          refine wpAnyH_take (i := 11) (v := ?_) (by simp only [List.getElem?_toArray, List.getElem?_cons_zero, List.getElem?_cons_succ]; rfl) (by kernel_rfl) (by kernel_rfl) (by kernel_rfl) (by exact fun _ _ _ h => h) (Or.inl ⟨by rfl, ?_⟩) (by assumption) ?_; rotate_left; (focus (intro w hSw; (try dsimp only at hSw); go_simp; try with_reducible rfl)); (try simp only [Act.put, List.setIfInBounds_toArray, List.set_cons_zero, List.set_cons_succ])
          refine wpAnyH_ready (rs := [12]) (by kernel_rfl) (by simp) ?_
          refine AllReadyH.cons (by simp only [List.getElem?_toArray, List.getElem?_cons_zero, List.getElem?_cons_succ]; rfl) (fun K hK => ?_) AllReadyH.nil
          go_simp
          refine hK.out _ _ (trivial) ?_
          clear hHeld hK
          intro hHeld
          (try simp only [Act.put, List.setIfInBounds_toArray, List.set_cons_zero, List.set_cons_succ])
          refine wpAnyH_take (i := 13) (v := ?_) (by simp only [List.getElem?_toArray, List.getElem?_cons_zero, List.getElem?_cons_succ]; rfl) (by kernel_rfl) (by kernel_rfl) (by kernel_rfl) (by exact fun _ _ _ h => h) (Or.inl ⟨by rfl, ?_⟩) (by assumption) ?_; rotate_left; (focus (intro w hSw; (try dsimp only at hSw); go_simp; try with_reducible rfl)); (try simp only [Act.put, List.setIfInBounds_toArray, List.set_cons_zero, List.set_cons_succ])
          refine wpAnyH_ready (rs := [14]) (by kernel_rfl) (by simp) ?_
          refine AllReadyH.cons (by simp only [List.getElem?_toArray, List.getElem?_cons_zero, List.getElem?_cons_succ]; rfl) (fun K hK => ?_) AllReadyH.nil
          go_simp
          refine hK.out _ _ (trivial) ?_
          clear hHeld hK
          intro hHeld
          (try simp only [Act.put, List.setIfInBounds_toArray, List.set_cons_zero, List.set_cons_succ])
          refine wpAnyH_done (by kernel_rfl) ?_ _
          go_wp2_with fail
          go_meet
          exact ((((((((((((h3.set0 1 (.int .i64 A.s) (by simp)).set0 2 (.int .i64 A.c) (by simp)).set0 3 (.int .i64 A.i) (by simp)).set0 4 (.int .i64 A.k) (by simp)).set0 6 (.int .i64 B.s) (by simp)).set0 7 (.int .i64 B.c) (by simp)).set0 8 (.int .i64 B.i) (by simp)).set0 9 (.int .i64 B.k) (by simp)).set1 1 (.int .i64 C.s) (by simp)).set1 2 (.int .i64 C.c) (by simp)).set1 3 (.int .i64 C.i) (by simp)).set1 4 (.int .i64 C.k) (by simp))
        refine AllReadyH.cons (by simp only [List.getElem?_toArray, List.getElem?_cons_zero, List.getElem?_cons_succ]; rfl) (fun K hK => ?_) AllReadyH.nil
        go_simp
        refine hK.out _ _ (trivial) ?_
        clear hHeld hK
        intro hHeld
        (try simp only [Act.put, List.setIfInBounds_toArray, List.set_cons_zero, List.set_cons_succ])
        refine wpAnyH_ready (rs := [2]) (by kernel_rfl) (by simp) ?_
        refine AllReadyH.cons (by simp only [List.getElem?_toArray, List.getElem?_cons_zero, List.getElem?_cons_succ]; rfl) (fun K hK => ?_) AllReadyH.nil
        go_simp
        go_at_call 23
        refine (kA _).mono ?_
        rintro e w1 ⟨rfl, hB1⟩
        have h1 := h0.then hB1
        clear q0_1 q0_2 q0_3 q0_4 q0_6 q0_7 q0_8 q0_9 p0_1 p0_2 p0_3 p0_4
        have q1_1 := h1.b0 1 _ rfl
        have q1_2 := h1.b0 2 _ rfl
        have q1_3 := h1.b0 3 _ rfl
        have q1_4 := h1.b0 4 _ rfl
        have q1_6 := h1.b0 6 _ rfl
        have q1_7 := h1.b0 7 _ rfl
        have q1_8 := h1.b0 8 _ rfl
        have q1_9 := h1.b0 9 _ rfl
        have p1_1 := h1.b1 1 _ rfl
        have p1_2 := h1.b1 2 _ rfl
        have p1_3 := h1.b1 3 _ rfl
        have p1_4 := h1.b1 4 _ rfl
        refine hK.out _ _ (trivial) ?_
        clear hHeld hK
        intro hHeld
        (try simp only [Act.put, List.setIfInBounds_toArray, List.set_cons_zero, List.set_cons_succ])
        refine wpAnyH_take (i := 9) (v := ?_) (by simp only [List.getElem?_toArray, List.getElem?_cons_zero, List.getElem?_cons_succ]; rfl) (by kernel_rfl) (by kernel_rfl) (by kernel_rfl) (by exact fun _ _ _ h => h) (Or.inl ⟨by rfl, ?_⟩) (by assumption) ?_; rotate_left; (focus (intro w hSw; (try dsimp only at hSw); go_simp; try with_reducible rfl)); (try simp only [Act.put, List.setIfInBounds_toArray, List.set_cons_zero, List.set_cons_succ])
        refine wpAnyH_ready (rs := [5]) (by kernel_rfl) (by simp) ?_
        refine AllReadyH.cons (by simp only [List.getElem?_toArray, List.getElem?_cons_zero, List.getElem?_cons_succ]; rfl) (fun K hK => ?_) AllReadyH.nil
        go_simp
        go_at_call 23
        refine (kB _).mono ?_
        rintro e w2 ⟨rfl, hB2⟩
        have h2 := h1.then hB2
        clear q1_1 q1_2 q1_3 q1_4 q1_6 q1_7 q1_8 q1_9 p1_1 p1_2 p1_3 p1_4
        have q2_1 := h2.b0 1 _ rfl
        have q2_2 := h2.b0 2 _ rfl
        have q2_3 := h2.b0 3 _ rfl
        have q2_4 := h2.b0 4 _ rfl
        have q2_6 := h2.b0 6 _ rfl
        have q2_7 := h2.b0 7 _ rfl
        have q2_8 := h2.b0 8 _ rfl
        have q2_9 := h2.b0 9 _ rfl
        have p2_1 := h2.b1 1 _ rfl
        have p2_2 := h2.b1 2 _ rfl
        have p2_3 := h2.b1 3 _ rfl
        have p2_4 := h2.b1 4 _ rfl
        refine hK.out _ _ (trivial) ?_
        clear hHeld hK
        intro hHeld
        (try simp only [Act.put, List.setIfInBounds_toArray, List.set_cons_zero, List.set_cons_succ])
        refine wpAnyH_ready (rs := [8]) (by kernel_rfl) (by simp) ?_
        refine AllReadyH.cons (by simp only [List.getElem?_toArray, List.getElem?_cons_zero, List.getElem?_cons_succ]; rfl) (fun K hK => ?_) AllReadyH.nil
        go_simp
        go_at_call 23
        refine (kC _).mono ?_
        rintro e w3 ⟨rfl, hB3⟩
        have h3 := h2.then hB3
        clear q2_1 q2_2 q2_3 q2_4 q2_6 q2_7 q2_8 q2_9 p2_1 p2_2 p2_3 p2_4
        have q3_1 := h3.b0 1 _ rfl
        have q3_2 := h3.b0 2 _ rfl
        have q3_3 := h3.b0 3 _ rfl
        have q3_4 := h3.b0 4 _ rfl
        have q3_6 := h3.b0 6 _ rfl
        have q3_7 := h3.b0 7 _ rfl
        have q3_8 := h3.b0 8 _ rfl
        have q3_9 := h3.b0 9 _ rfl
        have p3_1 := h3.b1 1 _ rfl
        have p3_2 := h3.b1 2 _ rfl
        have p3_3 := h3.b1 3 _ rfl
        have p3_4 := h3.b1 4 _ rfl
        refine hK.out _ _ (trivial) ?_
        clear hHeld hK
        intro hHeld
        (try simp only [Act.put, List.setIfInBounds_toArray, List.set_cons_zero, List.set_cons_succ])
        refine wpAnyH_ready (rs := [10]) (by kernel_rfl) (by simp) ?_
        refine AllReadyH.cons (by simp only [List.getElem?_toArray, List.getElem?_cons_zero, List.getElem?_cons_succ]; rfl) (fun K hK => ?_) AllReadyH.nil
        go_simp
        refine hK.out _ _ (trivial) ?_
        clear hHeld hK
        intro hHeld
        (try simp only [Act.put, List.setIfInBounds_toArray, List.set_cons_zero, List.set_cons_succ])
        refine wpAnyH_take (i := 11) (v := ?_) (by simp only [List.getElem?_toArray, List.getElem?_cons_zero, List.getElem?_cons_succ]; rfl) (by kernel_rfl) (by kernel_rfl) (by kernel_rfl) (by exact fun _ _ _ h => h) (Or.inl ⟨by rfl, ?_⟩) (by assumption) ?_; rotate_left; (focus (intro w hSw; (try dsimp only at hSw); go_simp; try with_reducible rfl)); (try simp only [Act.put, List.setIfInBounds_toArray, List.set_cons_zero, List.set_cons_succ])
        refine wpAnyH_ready (rs := [12]) (by kernel_rfl) (by simp) ?_
        refine AllReadyH.cons (by simp only [List.getElem?_toArray, List.getElem?_cons_zero, List.getElem?_cons_succ]; rfl) (fun K hK => ?_) AllReadyH.nil
        go_simp
        refine hK.out _ _ (trivial) ?_
        clear hHeld hK
        intro hHeld
        (try simp only [Act.put, List.setIfInBounds_toArray, List.set_cons_zero, List.set_cons_succ])
        refine wpAnyH_take (i := 13) (v := ?_) (by simp only [List.getElem?_toArray, List.getElem?_cons_zero, List.getElem?_cons_succ]; rfl) (by kernel_rfl) (by kernel_rfl) (by kernel_rfl) (by exact fun _ _ _ h => h) (Or.inl ⟨by rfl, ?_⟩) (by assumption) ?_; rotate_left; (focus (intro w hSw; (try dsimp only at hSw); go_simp; try with_reducible rfl)); (try simp only [Act.put, List.setIfInBounds_toArray, List.set_cons_zero, List.set_cons_succ])
        refine wpAnyH_ready (rs := [14]) (by kernel_rfl) (by simp) ?_
        refine AllReadyH.cons (by simp only [List.getElem?_toArray, List.getElem?_cons_zero, List.getElem?_cons_succ]; rfl) (fun K hK => ?_) AllReadyH.nil
        go_simp
        refine hK.out _ _ (trivial) ?_
        clear hHeld hK
        intro hHeld
        (try simp only [Act.put, List.setIfInBounds_toArray, List.set_cons_zero, List.set_cons_succ])
        refine wpAnyH_done (by kernel_rfl) ?_ _
        go_wp2_with fail
        go_meet
        exact ((((((((((((h3.set0 1 (.int .i64 A.s) (by simp)).set0 2 (.int .i64 A.c) (by simp)).set0 3 (.int .i64 A.i) (by simp)).set0 4 (.int .i64 A.k) (by simp)).set0 6 (.int .i64 B.s) (by simp)).set0 7 (.int .i64 B.c) (by simp)).set0 8 (.int .i64 B.i) (by simp)).set0 9 (.int .i64 B.k) (by simp)).set1 1 (.int .i64 C.s) (by simp)).set1 2 (.int .i64 C.c) (by simp)).set1 3 (.int .i64 C.i) (by simp)).set1 4 (.int .i64 C.k) (by simp))
      refine AllReadyH.cons (by simp only [List.getElem?_toArray, List.getElem?_cons_zero, List.getElem?_cons_succ]; rfl) (fun K hK => ?_) AllReadyH.nil
      go_simp
      refine hK.out _ _ (trivial) ?_
      clear hHeld hK
      intro hHeld
      (try simp only [Act.put, List.setIfInBounds_toArray, List.set_cons_zero, List.set_cons_succ])
      refine wpAnyH_ready (rs := [2, 4]) (by kernel_rfl) (by simp) ?_
      refine AllReadyH.cons (by simp only [List.getElem?_toArray, List.getElem?_cons_zero, List.getElem?_cons_succ]; rfl) (fun K hK => ?_) ?_
      · go_simp
        go_at_call 23
        refine (kA _).mono ?_
        rintro e w1 ⟨rfl, hB1⟩
        have h1 := h0.then hB1
        clear q0_1 q0_2 q0_3 q0_4 q0_6 q0_7 q0_8 q0_9 p0_1 p0_2 p0_3 p0_4
        have q1_1 := h1.b0 1 _ rfl
        have q1_2 := h1.b0 2 _ rfl
        have q1_3 := h1.b0 3 _ rfl
        have q1_4 := h1.b0 4 _ rfl
        have q1_6 := h1.b0 6 _ rfl
        have q1_7 := h1.b0 7 _ rfl
        have q1_8 := h1.b0 8 _ rfl
        have q1_9 := h1.b0 9 _ rfl
        have p1_1 := h1.b1 1 _ rfl
        have p1_2 := h1.b1 2 _ rfl
        have p1_3 := h1.b1 3 _ rfl
        have p1_4 := h1.b1 4 _ rfl
        refine hK.out _ _ (trivial) ?_
        clear hHeld hK
        intro hHeld
        (try simp only [Act.put, List.setIfInBounds_toArray, List.set_cons_zero, List.set_cons_succ])
        refine wpAnyH_ready (rs := [4]) (by kernel_rfl) (by simp) ?_
        refine AllReadyH.cons (by simp only [List.getElem?_toArray, List.getElem?_cons_zero, List.getElem?_cons_succ]; rfl) (fun K hK => ?_) AllReadyH.nil
        go_simp
        refine hK.out _ _ (trivial) ?_
        clear hHeld hK
        intro hHeld
        (try simp only [Act.put, List.setIfInBounds_toArray, List.set_cons_zero, List.set_cons_succ])
        refine wpAnyH_take (i := 9) (v := ?_) (by simp only [List.getElem?_toArray, List.getElem?_cons_zero, List.getElem?_cons_succ]; rfl) (by kernel_rfl) (by kernel_rfl) (by kernel_rfl) (by exact fun _ _ _ h => h) (Or.inl ⟨by rfl, ?_⟩) (by assumption) ?_; rotate_left; (focus (intro w hSw; (try dsimp only at hSw); go_simp; try with_reducible rfl)); (try simp only [Act.put, List.setIfInBounds_toArray, List.set_cons_zero, List.set_cons_succ])
        refine wpAnyH_ready (rs := [5]) (by kernel_rfl) (by simp) ?_
        refine AllReadyH.cons (by simp only [List.getElem?_toArray, List.getElem?_cons_zero, List.getElem?_cons_succ]; rfl) (fun K hK => ?_) AllReadyH.nil
        go_simp
        go_at_call 23
        refine (kB _).mono ?_
        rintro e w2 ⟨rfl, hB2⟩
        have h2 := h1.then hB2
        clear q1_1 q1_2 q1_3 q1_4 q1_6 q1_7 q1_8 q1_9 p1_1 p1_2 p1_3 p1_4
        have q2_1 := h2.b0 1 _ rfl
        have q2_2 := h2.b0 2 _ rfl
        have q2_3 := h2.b0 3 _ rfl
        have q2_4 := h2.b0 4 _ rfl
        have q2_6 := h2.b0 6 _ rfl
        have q2_7 := h2.b0 7 _ rfl
        have q2_8 := h2.b0 8 _ rfl
        have q2_9 := h2.b0 9 _ rfl
        have p2_1 := h2.b1 1 _ rfl
        have p2_2 := h2.b1 2 _ rfl
        have p2_3 := h2.b1 3 _ rfl
        have p2_4 := h2.b1 4 _ rfl
        refine hK.out _ _ (trivial) ?_
        clear hHeld hK
        intro hHeld
        (try simp only [Act.put, List.setIfInBounds_toArray, List.set_cons_zero, List.set_cons_succ])
        refine wpAnyH_ready (rs := [8]) (by kernel_rfl) (by simp) ?_
        refine AllReadyH.cons (by simp only [List.getElem?_toArray, List.getElem?_cons_zero, List.getElem?_cons_succ]; rfl) (fun K hK => ?_) AllReadyH.nil
        go_simp
        go_at_call 23
        refine (kC _).mono ?_
        rintro e w3 ⟨rfl, hB3⟩
        have h3 := h2.then hB3
        clear q2_1 q2_2 q2_3 q2_4 q2_6 q2_7 q2_8 q2_9 p2_1 p2_2 p2_3 p2_4
        have q3_1 := h3.b0 1 _ rfl
        have q3_2 := h3.b0 2 _ rfl
        have q3_3 := h3.b0 3 _ rfl
        have q3_4 := h3.b0 4 _ rfl
        have q3_6 := h3.b0 6 _ rfl
        have q3_7 := h3.b0 7 _ rfl
        have q3_8 := h3.b0 8 _ rfl
        have q3_9 := h3.b0 9 _ rfl
        have p3_1 := h3.b1 1 _ rfl
        have p3_2 := h3.b1 2 _ rfl
        have p3_3 := h3.b1 3 _ rfl
        have p3_4 := h3.b1 4 _ rfl
        refine hK.out _ _ (trivial) ?_
        clear hHeld hK
        intro hHeld
        (try simp only [Act.put, List.setIfInBounds_toArray, List.set_cons_zero, List.set_cons_succ])
        refine wpAnyH_ready (rs := [10]) (by kernel_rfl) (by simp) ?_
        refine AllReadyH.cons (by simp only [List.getElem?_toArray, List.getElem?_cons_zero, List.getElem?_cons_succ]; rfl) (fun K hK => ?_) AllReadyH.nil
        go_simp
        refine hK.out _ _ (trivial) ?_
        clear hHeld hK
        intro hHeld
        (try simp only [Act.put, List.setIfInBounds_toArray, List.set_cons_zero, List.set_cons_succ])
        refine wpAnyH_take (i := 11) (v := ?_) (by simp only [List.getElem?_toArray, List.getElem?_cons_zero, List.getElem?_cons_succ]; rfl) (by kernel_rfl) (by kernel_rfl) (by kernel_rfl) (by exact fun _ _ _ h => h) (Or.inl ⟨by rfl, ?_⟩) (by assumption) ?_; rotate_left; (focus (intro w hSw; (try dsimp only at hSw); go_simp; try with_reducible rfl)); (try simp only [Act.put, List.setIfInBounds_toArray, List.set_cons_zero, List.set_cons_succ])
        refine wpAnyH_ready (rs := [12]) (by kernel_rfl) (by simp) ?_
        refine AllReadyH.cons (by simp only [List.getElem?_toArray, List.getElem?_cons_zero, List.getElem?_cons_succ]; rfl) (fun K hK => ?_) AllReadyH.nil
        go_simp
        refine hK.out _ _ (trivial) ?_
        clear hHeld hK
        intro hHeld
        (try simp only [Act.put, List.setIfInBounds_toArray, List.set_cons_zero, List.set_cons_succ])
        refine wpAnyH_take (i := 13) (v := ?_) (by simp only [List.getElem?_toArray, List.getElem?_cons_zero, List.getElem?_cons_succ]; rfl) (by kernel_rfl) (by kernel_rfl) (by kernel_rfl) (by exact fun _ _ _ h => h) (Or.inl ⟨by rfl, ?_⟩) (by assumption) ?_; rotate_left; (focus (intro w hSw; (try dsimp only at hSw); go_simp; try with_reducible rfl)); (try simp only [Act.put, List.setIfInBounds_toArray, List.set_cons_zero, List.set_cons_succ])
        refine wpAnyH_ready (rs := [14]) (by kernel_rfl) (by simp) ?_
        refine AllReadyH.cons (by simp only [List.getElem?_toArray, List.getElem?_cons_zero, List.getElem?_cons_succ]; rfl) (fun K hK => ?_) AllReadyH.nil
        go_simp
        refine hK.out _ _ (trivial) ?_
        clear hHeld hK
        intro hHeld
        (try simp only [Act.put, List.setIfInBounds_toArray, List.set_cons_zero, List.set_cons_succ])
        refine wpAnyH_done (by kernel_rfl) ?_ _
        go_wp2_with fail
        go_meet
        exact ((((((((((((h3.set0 1 (.int .i64 A.s) (by simp)).set0 2 (.int .i64 A.c) (by simp)).set0 3 (.int .i64 A.i) (by simp)).set0 4 (.int .i64 A.k) (by simp)).set0 6 (.int .i64 B.s) (by simp)).set0 7 (.int .i64 B.c) (by simp)).set0 8 (.int .i64 B.i) (by simp)).set0 9 (.int .i64 B.k) (by simp)).set1 1 (.int .i64 C.s) (by simp)).set1 2 (.int .i64 C.c) (by simp)).set1 3 (.int .i64 C.i) (by simp)).set1 4 (.int .i64 C.k) (by simp))
      refine AllReadyH.cons (by simp only [List.getElem?_toArray, List.getElem?_cons_zero, List.getElem?_cons_succ]; rfl) (fun K hK => ?_) AllReadyH.nil
      go_simp
      refine hK.out _ _ (trivial) ?_
      clear hHeld hK
      intro hHeld
      (try simp only [Act.put, List.setIfInBounds_toArray, List.set_cons_zero, List.set_cons_succ])
      refine wpAnyH_ready (rs := [2]) (by kernel_rfl) (by simp) ?_
      refine AllReadyH.cons (by simp only [List.getElem?_toArray, List.getElem?_cons_zero, List.getElem?_cons_succ]; rfl) (fun K hK => ?_) AllReadyH.nil
      go_simp
      go_at_call 23
      refine (kA _).mono ?_
      rintro e w1 ⟨rfl, hB1⟩
      have h1 := h0.then hB1
      clear q0_1 q0_2 q0_3 q0_4 q0_6 q0_7 q0_8 q0_9 p0_1 p0_2 p0_3 p0_4
      have q1_1 := h1.b0 1 _ rfl
      have q1_2 := h1.b0 2 _ rfl
      have q1_3 := h1.b0 3 _ rfl
      have q1_4 := h1.b0 4 _ rfl
      have q1_6 := h1.b0 6 _ rfl
      have q1_7 := h1.b0 7 _ rfl
      have q1_8 := h1.b0 8 _ rfl
      have q1_9 := h1.b0 9 _ rfl
      have p1_1 := h1.b1 1 _ rfl
      have p1_2 := h1.b1 2 _ rfl
      have p1_3 := h1.b1 3 _ rfl
      have p1_4 := h1.b1 4 _ rfl
      refine hK.out _ _ (trivial) ?_
      clear hHeld hK
      intro hHeld
      (try simp only [Act.put, List.setIfInBounds_toArray, List.set_cons_zero, List.set_cons_succ])
      refine wpAnyH_take (i := 9) (v := ?_) (by simp only [List.getElem?_toArray, List.getElem?_cons_zero, List.getElem?_cons_succ]; rfl) (by kernel_rfl) (by kernel_rfl) (by kernel_rfl) (by exact fun _ _ _ h => h) (Or.inl ⟨by rfl, ?_⟩) (by assumption) ?_; rotate_left; (focus (intro w hSw; (try dsimp only at hSw); go_simp; try with_reducible rfl)); (try simp only [Act.put, List.setIfInBounds_toArray, List.set_cons_zero, List.set_cons_succ])
      refine wpAnyH_ready (rs := [5]) (by kernel_rfl) (by simp) ?_
      refine AllReadyH.cons (by simp only [List.getElem?_toArray, List.getElem?_cons_zero, List.getElem?_cons_succ]; rfl) (fun K hK => ?_) AllReadyH.nil
      go_simp
      go_at_call 23
      refine (kB _).mono ?_
      rintro e w2 ⟨rfl, hB2⟩
      have h2 := h1.then hB2
      clear q1_1 q1_2 q1_3 q1_4 q1_6 q1_7 q1_8 q1_9 p1_1 p1_2 p1_3 p1_4
      have q2_1 := h2.b0 1 _ rfl
      have q2_2 := h2.b0 2 _ rfl
      have q2_3 := h2.b0 3 _ rfl
      have q2_4 := h2.b0 4 _ rfl
      have q2_6 := h2.b0 6 _ rfl
      have q2_7 := h2.b0 7 _ rfl
      have q2_8 := h2.b0 8 _ rfl
      have q2_9 := h2.b0 9 _ rfl
      have p2_1 := h2.b1 1 _ rfl
      have p2_2 := h2.b1 2 _ rfl
      have p2_3 := h2.b1 3 _ rfl
      have p2_4 := h2.b1 4 _ rfl
      refine hK.out _ _ (trivial) ?_
      clear hHeld hK
      intro hHeld
      (try simp only [Act.put, List.setIfInBounds_toArray, List.set_cons_zero, List.set_cons_succ])
      refine wpAnyH_ready (rs := [8]) (by kernel_rfl) (by simp) ?_
      refine AllReadyH.cons (by simp only [List.getElem?_toArray, List.getElem?_cons_zero, List.getElem?_cons_succ]; rfl) (fun K hK => ?_) AllReadyH.nil
      go_simp
      go_at_call 23
      refine (kC _).mono ?_
      rintro e w3 ⟨rfl, hB3⟩
      have h3 := h2.then hB3
      clear q2_1 q2_2 q2_3 q2_4 q2_6 q2_7 q2_8 q2_9 p2_1 p2_2 p2_3 p2_4
      have q3_1 := h3.b0 1 _ rfl
      have q3_2 := h3.b0 2 _ rfl
      have q3_3 := h3.b0 3 _ rfl
      have q3_4 := h3.b0 4 _ rfl
      have q3_6 := h3.b0 6 _ rfl
      have q3_7 := h3.b0 7 _ rfl
      have q3_8 := h3.b0 8 _ rfl
      have q3_9 := h3.b0 9 _ rfl
      have p3_1 := h3.b1 1 _ rfl
      have p3_2 := h3.b1 2 _ rfl
      have p3_3 := h3.b1 3 _ rfl
      have p3_4 := h3.b1 4 _ rfl
      refine hK.out _ _ (trivial) ?_
      clear hHeld hK
      intro hHeld
      (try simp only [Act.put, List.setIfInBounds_toArray, List.set_cons_zero, List.set_cons_succ])
      refine wpAnyH_ready (rs := [10]) (by kernel_rfl) (by simp) ?_
      refine AllReadyH.cons (by simp only [List.getElem?_toArray, List.getElem?_cons_zero, List.getElem?_cons_succ]; rfl) (fun K hK => ?_) AllReadyH.nil
      go_simp
      refine hK.out _ _ (trivial) ?_
      clear hHeld hK
      intro hHeld
      (try simp only [Act.put, List.setIfInBounds_toArray, List.set_cons_zero, List.set_cons_succ])
      refine wpAnyH_take (i := 11) (v := ?_) (by simp only [List.getElem?_toArray, List.getElem?_cons_zero, List.getElem?_cons_succ]; rfl) (by kernel_rfl) (by kernel_rfl) (by kernel_rfl) (by exact fun _ _ _ h => h) (Or.inl ⟨by rfl, ?_⟩) (by assumption) ?_; rotate_left; (focus (intro w hSw; (try dsimp only at hSw); go_simp; try with_reducible rfl)); (try simp only [Act.put, List.setIfInBounds_toArray, List.set_cons_zero, List.set_cons_succ])
      refine wpAnyH_ready (rs := [12]) (by kernel_rfl) (by simp) ?_
      refine AllReadyH.cons (by simp only [List.getElem?_toArray, List.getElem?_cons_zero, List.getElem?_cons_succ]; rfl) (fun K hK => ?_) AllReadyH.nil
      go_simp
      refine hK.out _ _ (trivial) ?_
      clear hHeld hK
      intro hHeld
      (try simp only [Act.put, List.setIfInBounds_toArray, List.set_cons_zero, List.set_cons_succ])
      refine wpAnyH_take (i := 13) (v := ?_) (by simp only [List.getElem?_toArray, List.getElem?_cons_zero, List.getElem?_cons_succ]; rfl) (by kernel_rfl) (by kernel_rfl) (by kernel_rfl) (by exact fun _ _ _ h => h) (Or.inl ⟨by rfl, ?_⟩) (by assumption) ?_; rotate_left; (focus (intro w hSw; (try dsimp only at hSw); go_simp; try with_reducible rfl)); (try simp only [Act.put, List.setIfInBounds_toArray, List.set_cons_zero, List.set_cons_succ])
      refine wpAnyH_ready (rs := [14]) (by kernel_rfl) (by simp) ?_
      refine AllReadyH.cons (by simp only [List.getElem?_toArray, List.getElem?_cons_zero, List.getElem?_cons_succ]; rfl) (fun K hK => ?_) AllReadyH.nil
      go_simp
      refine hK.out _ _ (trivial) ?_
      clear hHeld hK
      intro hHeld
      (try simp only [Act.put, List.setIfInBounds_toArray, List.set_cons_zero, List.set_cons_succ])
      refine wpAnyH_done (by kernel_rfl) ?_ _
      go_wp2_with fail
      go_meet
      exact ((((((((((((h3.set0 1 (.int .i64 A.s) (by simp)).set0 2 (.int .i64 A.c) (by simp)).set0 3 (.int .i64 A.i) (by simp)).set0 4 (.int .i64 A.k) (by simp)).set0 6 (.int .i64 B.s) (by simp)).set0 7 (.int .i64 B.c) (by simp)).set0 8 (.int .i64 B.i) (by simp)).set0 9 (.int .i64 B.k) (by simp)).set1 1 (.int .i64 C.s) (by simp)).set1 2 (.int .i64 C.c) (by simp)).set1 3 (.int .i64 C.i) (by simp)).set1 4 (.int .i64 C.k) (by simp))
    refine AllReadyH.cons (by simp only [List.getElem?_toArray, List.getElem?_cons_zero, List.getElem?_cons_succ]; rfl) (fun K hK => ?_) ?_
    · go_simp
      refine hK.out _ _ (trivial) ?_
      clear hHeld hK
      intro hHeld
      (try simp only [Act.put, List.setIfInBounds_toArray, List.set_cons_zero, List.set_cons_succ])
      refine wpAnyH_ready (rs := [1, 7]) (by kernel_rfl) (by simp) ?_
      refine AllReadyH.cons (by simp only [List.getElem?_toArray, List.getElem?_cons_zero, List.getElem?_cons_succ]; rfl) (fun K hK => ?_) ?_
      · go_simp
        refine hK.out _ _ (trivial) ?_
        clear hHeld hK
        intro hHeld
        (try simp only [Act.put, List.setIfInBounds_toArray, List.set_cons_zero, List.set_cons_succ])
        refine wpAnyH_ready (rs := [2, 7]) (by kernel_rfl) (by simp) ?_
        refine AllReadyH.cons (by simp only [List.getElem?_toArray, List.getElem?_cons_zero, List.getElem?_cons_succ]; rfl) (fun K hK => ?_) ?_
        · go_simp
          go_at_call 23
          refine (kA _).mono ?_
          rintro e w1 ⟨rfl, hB1⟩
          have h1 := h0.then hB1
          clear q0_1 q0_2 q0_3 q0_4 q0_6 q0_7 q0_8 q0_9 p0_1 p0_2 p0_3 p0_4
          have q1_1 := h1.b0 1 _ rfl
          have q1_2 := h1.b0 2 _ rfl
          have q1_3 := h1.b0 3 _ rfl
          have q1_4 := h1.b0 4 _ rfl
          have q1_6 := h1.b0 6 _ rfl
          have q1_7 := h1.b0 7 _ rfl
          have q1_8 := h1.b0 8 _ rfl
          have q1_9 := h1.b0 9 _ rfl
          have p1_1 := h1.b1 1 _ rfl
          have p1_2 := h1.b1 2 _ rfl
          have p1_3 := h1.b1 3 _ rfl
          have p1_4 := h1.b1 4 _ rfl
          refine hK.out _ _ (trivial) ?_
          clear hHeld hK
          intro hHeld
          (try simp only [Act.put, List.setIfInBounds_toArray, List.set_cons_zero, List.set_cons_succ])
          refine wpAnyH_take (i := 9) (v := ?_) (by simp only [List.getElem?_toArray, List.getElem?_cons_zero, List.getElem?_cons_succ]; rfl) (by kernel_rfl) (by kernel_rfl) (by kernel_rfl) (by exact fun _ _ _ h => h) (Or.inl ⟨by rfl, ?_⟩) (by assumption) ?_; rotate_left; (focus (intro w hSw; (try dsimp only at hSw); go_simp; try with_reducible rfl)); (try simp only [Act.put, List.setIfInBounds_toArray, List.set_cons_zero, List.set_cons_succ])
          refine wpAnyH_ready (rs := [5, 7]) (by kernel_rfl) (by simp) ?_
          refine AllReadyH.cons (by simp only [List.getElem?_toArray, List.getElem?_cons_zero, List.getElem?_cons_succ]; rfl) (fun K hK => ?_) ?_
          · go_simp
            go_at_call 23
            refine (kB _).mono ?_
            rintro e w2 ⟨rfl, hB2⟩
            have h2 := h1.then hB2
            clear q1_1 q1_2 q1_3 q1_4 q1_6 q1_7 q1_8 q1_9 p1_1 p1_2 p1_3 p1_4
            have q2_1 := h2.b0 1 _ rfl
            have q2_2 := h2.b0 2 _ rfl
            have q2_3 := h2.b0 3 _ rfl
            have q2_4 := h2.b0 4 _ rfl
            have q2_6 := h2.b0 6 _ rfl
            have q2_7 := h2.b0 7 _ rfl
            have q2_8 := h2.b0 8 _ rfl
            have q2_9 := h2.b0 9 _ rfl
            have p2_1 := h2.b1 1 _ rfl
            have p2_2 := h2.b1 2 _ rfl
            have p2_3 := h2.b1 3 _ rfl
            have p2_4 := h2.b1 4 _ rfl
            refine hK.out _ _ (trivial) ?_
            clear hHeld hK
            intro hHeld
            (try simp only [Act.put, List.setIfInBounds_toArray, List.set_cons_zero, List.set_cons_succ])
            refine wpAnyH_ready (rs := [7]) (by kernel_rfl) (by simp) ?_
            refine AllReadyH.cons (by simp only [List.getElem?_toArray, List.getElem?_cons_zero, List.getElem?_cons_succ]; rfl) (fun K hK => ?_) AllReadyH.nil
            go_simp
            refine hK.out _ _ (trivial) ?_
            clear hHeld hK
            intro hHeld
            (try simp only [Act.put, List.setIfInBounds_toArray, List.set_cons_zero, List.set_cons_succ])
            refine wpAnyH_ready (rs := [8]) (by kernel_rfl) (by simp) ?_
            refine AllReadyH.cons (by simp only [List.getElem?_toArray, List.getElem?_cons_zero, List.getElem?_cons_succ]; rfl) (fun K hK => ?_) AllReadyH.nil
            go_simp
            go_at_call 23
            refine (kC _).mono ?_
            rintro e w3 ⟨rfl, hB3⟩
            have h3 := h2.then hB3
            clear q2_1 q2_2 q2_3 q2_4 q2_6 q2_7 q2_8 q2_9 p2_1 p2_2 p2_3 p2_4
            have q3_1 := h3.b0 1 _ rfl
            have q3_2 := h3.b0 2 _ rfl
            have q3_3 := h3.b0 3 _ rfl
            have q3_4 := h3.b0 4 _ rfl
            have q3_6 := h3.b0 6 _ rfl
            have q3_7 := h3.b0 7 _ rfl
            have q3_8 := h3.b0 8 _ rfl
            have q3_9 := h3.b0 9 _ rfl
            have p3_1 := h3.b1 1 _ rfl
            have p3_2 := h3.b1 2 _ rfl
            have p3_3 := h3.b1 3 _ rfl
            have p3_4 := h3.b1 4 _ rfl
            refine hK.out _ _ (trivial) ?_
            clear hHeld hK
            intro hHeld
            (try simp only [Act.put, List.setIfInBounds_toArray, List.set_cons_zero, List.set_cons_succ])
            refine wpAnyH_ready (rs := [10]) (by kernel_rfl) (by simp) ?_
            refine AllReadyH.cons (by simp only [List.getElem?_toArray, List.getElem?_cons_zero, List.getElem?_cons_succ]; rfl) (fun K hK => ?_) AllReadyH.nil
            go_simp
            refine hK.out _ _ (trivial) ?_
            clear hHeld hK
            intro hHeld
            (try simp only [Act.put, List.setIfInBounds_toArray, List.set_cons_zero, List.set_cons_succ])
            refine wpAnyH_take (i := 11) (v := ?_) (by simp only [List.getElem?_toArray, List.getElem?_cons_zero, List.getElem?_cons_succ]; rfl) (by kernel_rfl) (by kernel_rfl) (by kernel_rfl) (by exact fun _ _ _ h => h) (Or.inl ⟨by rfl, ?_⟩) (by assumption) ?_; rotate_left; (focus (intro w hSw; (try dsimp only at hSw); go_simp; try with_reducible rfl)); (try simp only [Act.put, List.setIfInBounds_toArray, List.set_cons_zero, List.set_cons_succ])
            refine wpAnyH_ready (rs := [12]) (by kernel_rfl) (by simp) ?_
            refine AllReadyH.cons (by simp only [List.getElem?_toArray, List.getElem?_cons_zero, List.getElem?_cons_succ]; rfl) (fun K hK => ?_) AllReadyH.nil
            go_simp
            refine hK.out _ _ (trivial) ?_
            clear hHeld hK
            intro hHeld
            (try simp only [Act.put, List.setIfInBounds_toArray, List.set_cons_zero, List.set_cons_succ])
            refine wpAnyH_take (i := 13) (v := ?_) (by simp only [List.getElem?_toArray, List.getElem?_cons_zero, List.getElem?_cons_succ]; rfl) (by kernel_rfl) (by kernel_rfl) (by kernel_rfl) (by exact fun _ _ _ h => h) (Or.inl ⟨by rfl, ?_⟩) (by assumption) ?_; rotate_left; (focus (intro w hSw; (try dsimp only at hSw); go_simp; try with_reducible rfl)); (try simp only [Act.put, List.setIfInBounds_toArray, List.set_cons_zero, List.set_cons_succ])
            refine wpAnyH_ready (rs := [14]) (by kernel_rfl) (by simp) ?_
            refine AllReadyH.cons (by simp only [List.getElem?_toArray, List.getElem?_cons_zero, List.getElem?_cons_succ]; rfl) (fun K hK => ?_) AllReadyH.nil
            go_simp
            refine hK.out _ _ (trivial) ?_
            clear hHeld hK
            intro hHeld
            (try simp only [Act.put, List.setIfInBounds_toArray, List.set_cons_zero, List.set_cons_succ])
            refine wpAnyH_done (by kernel_rfl) ?_ _
            go_wp2_with fail
            go_meet
            exact ((((((((((((h3.set0 1 (.int .i64 A.s) (by simp)).set0 2 (.int .i64 A.c) (by simp)).set0 3 (.int .i64 A.i) (by simp)).set0 4 (.int .i64 A.k) (by simp)).set0 6 (.int .i64 B.s) (by simp)).set0 7 (.int .i64 B.c) (by simp)).set0 8 (.int .i64 B.i) (by simp)).set0 9 (.int .i64 B.k) (by simp)).set1 1 (.int .i64 C.s) (by simp)).set1 2 (.int .i64 C.c) (by simp)).set1 3 (.int .i64 C.i) (by simp)).set1 4 (.int .i64 C.k) (by simp))
          refine AllReadyH.cons (by simp only [List.getElem?_toArray, List.getElem?_cons_zero, List.getElem?_cons_succ]; rfl) (fun K hK => ?_) AllReadyH.nil
          go_simp
          refine hK.out _ _ (trivial) ?_
          clear hHeld hK
          intro hHeld
          (try simp only [Act.put, List.setIfInBounds_toArray, List.set_cons_zero, List.set_cons_succ])
          refine wpAnyH_ready (rs := [5]) (by kernel_rfl) (by simp) ?_
          refine AllReadyH.cons (by simp only [List.getElem?_toArray, List.getElem?_cons_zero, List.getElem?_cons_succ]; rfl) (fun K hK => ?_) AllReadyH.nil
          go_simp
          go_at_call 23
          refine (kB _).mono ?_
          rintro e w2 ⟨rfl, hB2⟩
          have h2 := h1.then hB2
          clear q1_1 q1_2 q1_3 q1_4 q1_6 q1_7 q1_8 q1_9 p1_1 p1_2 p1_3 p1_4
          have q2_1 := h2.b0 1 _ rfl
          have q2_2 := h2.b0 2 _ rfl
          have q2_3 := h2.b0 3 _ rfl
          have q2_4 := h2.b0 4 _ rfl
          have q2_6 := h2.b0 6 _ rfl
          have q2_7 := h2.b0 7 _ rfl
          have q2_8 := h2.b0 8 _ rfl
          have q2_9 := h2.b0 9 _ rfl
          have p2_1 := h2.b1 1 _ rfl
          have p2_2 := h2.b1 2 _ rfl
          have p2_3 := h2.b1 3 _ rfl
          have p2_4 := h2.b1 4 _ rfl
          refine hK.out _ _ (trivial) ?_
          clear hHeld hK
          intro hHeld
          (try simp only [Act.put, List.setIfInBounds_toArray, List.set_cons_zero, List.set_cons_succ])
          refine wpAnyH_ready (rs := [8]) (by kernel_rfl) (by simp) ?_
          refine AllReadyH.cons (by simp only [List.getElem?_toArray, List.getElem?_cons_zero, List.getElem?_cons_succ]; rfl) (fun K hK => ?_) AllReadyH.nil
          go_simp
          go_at_call 23
          refine (kC _).mono ?_
          rintro e w3 ⟨rfl, hB3⟩
          have h3 := h2.then hB3
          clear q2_1 q2_2 q2_3 q2_4 q2_6 q2_7 q2_8 q2_9 p2_1 p2_2 p2_3 p2_4
          have q3_1 := h3.b0 1 _ rfl
          have q3_2 := h3.b0 2 _ rfl
          have q3_3 := h3.b0 3 _ rfl
          have q3_4 := h3.b0 4 _ rfl
          have q3_6 := h3.b0 6 _ rfl
          have q3_7 := h3.b0 7 _ rfl
          have q3_8 := h3.b0 8 _ rfl
          have q3_9 := h3.b0 9 _ rfl
          have p3_1 := h3.b1 1 _ rfl
          have p3_2 := h3.b1 2 _ rfl
          have p3_3 := h3.b1 3 _ rfl
          have p3_4 := h3.b1 4 _ rfl
          refine hK.out _ _ (trivial) ?_
          clear hHeld hK
          intro hHeld
          (try simp only [Act.put, List.setIfInBounds_toArray, List.set_cons_zero, List.set_cons_succ])
          refine wpAnyH_ready (rs := [10]) (by kernel_rfl) (by simp) ?_
          refine AllReadyH.cons (by simp only [List.getElem?_toArray, List.getElem?_cons_zero, List.getElem?_cons_succ]; rfl) (fun K hK => ?_) AllReadyH.nil
          go_simp
          refine hK.out _ _ (trivial) ?_
          clear hHeld hK
          intro hHeld
          (try simp only [Act.put, List.setIfInBounds_toArray, List.set_cons_zero, List.set_cons_succ])
          refine wpAnyH_take (i := 11) (v := ?_) (by simp only [List.getElem?_toArray, List.getElem?_cons_zero, List.getElem?_cons_succ]; rfl) (by kernel_rfl) (by kernel_rfl) (by kernel_rfl) (by exact fun _ _ _ h => h) (Or.inl ⟨by rfl, ?_⟩) (by assumption) ?_; rotate_left; (focus (intro w hSw; (try dsimp only at hSw); go_simp; try with_reducible rfl)); (try simp only [Act.put, List.setIfInBounds_toArray, List.set_cons_zero, List.set_cons_succ])
          refine wpAnyH_ready (rs := [12]) (by kernel_rfl) (by simp) ?_
          refine AllReadyH.cons (by simp only [List.getElem?_toArray, List.getElem?_cons_zero, List.getElem?_cons_succ]; rfl) (fun K hK => ?_) AllReadyH.nil
          go_simp
          refine hK.out _ _ (trivial) ?_
          clear hHeld hK
          intro hHeld
          (try simp only [Act.put, List.setIfInBounds_toArray, List.set_cons_zero, List.set_cons_succ])
          refine wpAnyH_take (i := 13) (v := ?_) (by simp only [List.getElem?_toArray, List.getElem?_cons_zero, List.getElem?_cons_succ]; rfl) (by kernel_rfl) (by kernel_rfl) (by kernel_rfl) (by exact fun _ _ _ h => h) (Or.inl ⟨by rfl, ?_⟩) (by assumption) ?_; rotate_left; (focus (intro w hSw; (try dsimp only at hSw); go_simp; try with_reducible rfl)); (try simp only [Act.put, List.setIfInBounds_toArray, List.set_cons_zero, List.set_cons_succ])
          refine wpAnyH_ready (rs := [14]) (by kernel_rfl) (by simp) ?_
          refine AllReadyH.cons (by simp only [List.getElem?_toArray, List.getElem?_cons_zero, List.getElem?_cons_succ]; rfl) (fun K hK => ?_) AllReadyH.nil
          go_simp
          refine hK.out _ _ (trivial) ?_
          clear hHeld hK
          intro hHeld
          (try simp only [Act.put, List.setIfInBounds_toArray, List.set_cons_zero, List.set_cons_succ])
          refine wpAnyH_done (by kernel_rfl) ?_ _
          go_wp2_with fail
          go_meet
          exact ((((((((((((h3.set0 1 (.int .i64 A.s) (by simp)).set0 2 (.int .i64 A.c) (by simp)).set0 3 (.int .i64 A.i) (by simp)).set0 4 (.int .i64 A.k) (by simp)).set0 6 (.int .i64 B.s) (by simp)).set0 7 (.int .i64 B.c) (by simp)).set0 8 (.int .i64 B.i) (by simp)).set0 9 (.int .i64 B.k) (by simp)).set1 1 (.int .i64 C.s) (by simp)).set1 2 (.int .i64 C.c) (by simp)).set1 3 (.int .i64 C.i) (by simp)).set1 4 (.int .i64 C.k) (by simp))
        refine AllReadyH.cons (by simp only [List.getElem?_toArray, List.getElem?_cons_zero, List.getElem?_cons_succ]; rfl) (fun K hK => ?_) AllReadyH.nil
        go_simp
        refine hK.out _ _ (trivial) ?_
        clear hHeld hK
        intro hHeld
        (try simp only [Act.put, List.setIfInBounds_toArray, List.set_cons_zero, List.set_cons_succ])
        refine wpAnyH_ready (rs := [2]) (by kernel_rfl) (by simp) ?_
        refine AllReadyH.cons (by simp only [List.getElem?_toArray, List.getElem?_cons_zero, List.getElem?_cons_succ]; rfl) (fun K hK => ?_) AllReadyH.nil
        go_simp
        go_at_call 23
        refine (kA _).mono ?_
        rintro e w1 ⟨rfl, hB1⟩
        have h1 := h0.then hB1
        clear q0_1 q0_2 q0_3 q0_4 q0_6 q0_7 q0_8 q0_9 p0_1 p0_2 p0_3 p0_4
        have q1_1 := h1.b0 1 _ rfl
        have q1_2 := h1.b0 2 _ rfl
        have q1_3 := h1.b0 3 _ rfl
        have q1_4 := h1.b0 4 _ rfl
        have q1_6 := h1.b0 6 _ rfl
        have q1_7 := h1.b0 7 _ rfl
        have q1_8 := h1.b0 8 _ rfl
        have q1_9 := h1.b0 9 _ rfl
        have p1_1 := h1.b1 1 _ rfl
        have p1_2 := h1.b1 2 _ rfl
        have p1_3 := h1.b1 3 _ rfl
        have p1_4 := h1.b1 4 _ rfl
        refine hK.out _ _ (trivial) ?_
        clear hHeld hK
        intro hHeld
        (try simp only [Act.put, List.setIfInBounds_toArray, List.set_cons_zero, List.set_cons_succ])
        refine wpAnyH_take (i := 9) (v := ?_) (by simp only [List.getElem?_toArray, List.getElem?_cons_zero, List.getElem?_cons_succ]; rfl) (by kernel_rfl) (by kernel_rfl) (by kernel_rfl) (by exact fun _ _ _ h => h) (Or.inl ⟨by rfl, ?_⟩) (by assumption) ?_; rotate_left; (focus (intro w hSw; (try dsimp only at hSw); go_simp; try with_reducible rfl)); (try simp only [Act.put, List.setIfInBounds_toArray, List.set_cons_zero, List.set_cons_succ])
        refine wpAnyH_ready (rs := [5]) (by kernel_rfl) (by simp) ?_
        refine AllReadyH.cons (by simp only [List.getElem?_toArray, List.getElem?_cons_zero, List.getElem?_cons_succ]; rfl) (fun K hK => ?_) AllReadyH.nil
        go_simp
        go_at_call 23
        refine (kB _).mono ?_
        rintro e w2 ⟨rfl, hB2⟩
        have h2 := h1.then hB2
        clear q1_1 q1_2 q1_3 q1_4 q1_6 q1_7 q1_8 q1_9 p1_1 p1_2 p1_3 p1_4
        have q2_1 := h2.b0 1 _ rfl
        have q2_2 := h2.b0 2 _ rfl
        have q2_3 := h2.b0 3 _ rfl
        have q2_4 := h2.b0 4 _ rfl
        have q2_6 := h2.b0 6 _ rfl
        have q2_7 := h2.b0 7 _ rfl
        have q2_8 := h2.b0 8 _ rfl
        have q2_9 := h2.b0 9 _ rfl
        have p2_1 := h2.b1 1 _ rfl
        have p2_2 := h2.b1 2 _ rfl
        have p2_3 := h2.b1 3 _ rfl
        have p2_4 := h2.b1 4 _ rfl
        refine hK.out _ _ (trivial) ?_
        clear hHeld hK
        intro hHeld
        (try simp only [Act.put, List.setIfInBounds_toArray, List.set_cons_zero, List.set_cons_succ])
        refine wpAnyH_ready (rs := [8]) (by kernel_rfl) (by simp) ?_
        refine AllReadyH.cons (by simp only [List.getElem?_toArray, List.getElem?_cons_zero, List.getElem?_cons_succ]; rfl) (fun K hK => ?_) AllReadyH.nil
        go_simp
        go_at_call 23
        refine (kC _).mono ?_
        rintro e w3 ⟨rfl, hB3⟩
        have h3 := h2.then hB3
        clear q2_1 q2_2 q2_3 q2_4 q2_6 q2_7 q2_8 q2_9 p2_1 p2_2 p2_3 p2_4
        have q3_1 := h3.b0 1 _ rfl
        have q3_2 := h3.b0 2 _ rfl
        have q3_3 := h3.b0 3 _ rfl
        have q3_4 := h3.b0 4 _ rfl
        have q3_6 := h3.b0 6 _ rfl
        have q3_7 := h3.b0 7 _ rfl
        have q3_8 := h3.b0 8 _ rfl
        have q3_9 := h3.b0 9 _ rfl
        have p3_1 := h3.b1 1 _ rfl
        have p3_2 := h3.b1 2 _ rfl
        have p3_3 := h3.b1 3 _ rfl
        have p3_4 := h3.b1 4 _ rfl
        refine hK.out _ _ (trivial) ?_
        clear hHeld hK
        intro hHeld
        (try simp only [Act.put, List.setIfInBounds_toArray, List.set_cons_zero, List.set_cons_succ])
        refine wpAnyH_ready (rs := [10]) (by kernel_rfl) (by simp) ?_
        refine AllReadyH.cons (by simp only [List.getElem?_toArray, List.getElem?_cons_zero, List.getElem?_cons_succ]; rfl) (fun K hK => ?_) AllReadyH.nil
        go_simp
        refine hK.out _ _ (trivial) ?_
        clear hHeld hK
        intro hHeld
        (try simp only [Act.put, List.setIfInBounds_toArray, List.set_cons_zero, List.set_cons_succ])
        refine wpAnyH_take (i := 11) (v := ?_) (by simp only [List.getElem?_toArray, List.getElem?_cons_zero, List.getElem?_cons_succ]; rfl) (by kernel_rfl) (by kernel_rfl) (by kernel_rfl) (by exact fun _ _ _ h => h) (Or.inl ⟨by rfl, ?_⟩) (by assumption) ?_; rotate_left; (focus (intro w hSw; (try dsimp only at hSw); go_simp; try with_reducible rfl)); (try simp only [Act.put, List.setIfInBounds_toArray, List.set_cons_zero, List.set_cons_succ])
        refine wpAnyH_ready (rs := [12]) (by kernel_rfl) (by simp) ?_
        refine AllReadyH.cons (by simp only [List.getElem?_toArray, List.getElem?_cons_zero, List.getElem?_cons_succ]; rfl) (fun K hK => ?_) AllReadyH.nil
        go_simp
        refine hK.out _ _ (trivial) ?_
        clear hHeld hK
        intro hHeld
        (try simp only [Act.put, List.setIfInBounds_toArray, List.set_cons_zero, List.set_cons_succ])
        refine wpAnyH_take (i := 13) (v := ?_) (by simp only [List.getElem?_toArray, List.getElem?_cons_zero, List.getElem?_cons_succ]; rfl) (by kernel_rfl) (by kernel_rfl) (by kernel_rfl) (by exact fun _ _ _ h => h) (Or.inl ⟨by rfl, ?_⟩) (by assumption) ?_; rotate_left; (focus (intro w hSw; (try dsimp only at hSw); go_simp; try with_reducible rfl)); (try simp only [Act.put, List.setIfInBounds_toArray, List.set_cons_zero, List.set_cons_succ])
        refine wpAnyH_ready (rs := [14]) (by kernel_rfl) (by simp) ?_
        refine AllReadyH.cons (by simp only [List.getElem?_toArray, List.getElem?_cons_zero, List.getElem?_cons_succ]; rfl) (fun K hK => ?_) AllReadyH.nil
        go_simp
        refine hK.out _ _ (trivial) ?_
        clear hHeld hK
        intro hHeld
        (try simp only [Act.put, List.setIfInBounds_toArray, List.set_cons_zero, List.set_cons_succ])
        refine wpAnyH_done (by kernel_rfl) ?_ _
        go_wp2_with fail
        go_meet
        exact ((((((((((((h3.set0 1 (.int .i64 A.s) (by simp)).set0 2 (.int .i64 A.c) (by simp)).set0 3 (.int .i64 A.i) (by simp)).set0 4 (.int .i64 A.k) (by simp)).set0 6 (.int .i64 B.s) (by simp)).set0 7 (.int .i64 B.c) (by simp)).set0 8 (.int .i64 B.i) (by simp)).set0 9 (.int .i64 B.k) (by simp)).set1 1 (.int .i64 C.s) (by simp)).set1 2 (.int .i64 C.c) (by simp)).set1 3 (.int .i64 C.i) (by simp)).set1 4 (.int .i64 C.k) (by simp))
      refine AllReadyH.cons (by simp only [List.getElem?_toArray, List.getElem?_cons_zero, List.getElem?_cons_succ]; rfl) (fun K hK => ?_) AllReadyH.nil
      go_simp
      refine hK.out _ _ (trivial) ?_
      clear hHeld hK
      intro hHeld
      (try simp only [Act.put, List.setIfInBounds_toArray, List.set_cons_zero, List.set_cons_succ])
      refine wpAnyH_ready (rs := [1]) (by kernel_rfl) (by simp) ?_
      refine AllReadyH.cons (by simp only [List.getElem?_toArray, List.getElem?_cons_zero, List.getElem?_cons_succ]; rfl) (fun K hK => ?_) AllReadyH.nil
      go_simp
      refine hK.out _ _ (trivial) ?_
      clear hHeld hK
      intro hHeld
      (try simp only [Act.put, List.setIfInBounds_toArray, List.set_cons_zero, List.set_cons_succ])
      refine wpAnyH_ready (rs := [2]) (by kernel_rfl) (by simp) ?_
      refine AllReadyH.cons (by simp only [List.getElem?_toArray, List.getElem?_cons_zero, List.getElem?_cons_succ]; rfl) (fun K hK => ?_) AllReadyH.nil
      go_simp
      go_at_call 23
      refine (kA _).mono ?_
      rintro e w1 ⟨rfl, hB1⟩
      have h1 := h0.then hB1
      clear q0_1 q0_2 q0_3 q0_4 q0_6 q0_7 q0_8 q0_9 p0_1 p0_2 p0_3 p0_4
      have q1_1 := h1.b0 1 _ rfl
      have q1_2 := h1.b0 2 _ rfl
      have q1_3 := h1.b0 3 _ rfl
      have q1_4 := h1.b0 4 _ rfl
      have q1_6 := h1.b0 6 _ rfl
      have q1_7 := h1.b0 7 _ rfl
      have q1_8 := h1.b0 8 _ rfl
      have q1_9 := h1.b0 9 _ rfl
      have p1_1 := h1.b1 1 _ rfl
      have p1_2 := h1.b1 2 _ rfl
      have p1_3 := h1.b1 3 _ rfl
      have p1_4 := h1.b1 4 _ rfl
      refine hK.out _ _ (trivial) ?_
      clear hHeld hK
      intro hHeld
      (try simp only [Act.put, List.setIfInBounds_toArray, List.set_cons_zero, List.set_cons_succ])
      refine wpAnyH_take (i := 9) (v := ?_) (by simp only [List.getElem?_toArray, List.getElem?_cons_zero, List.getElem?_cons_succ]; rfl) (by kernel_rfl) (by kernel_rfl) (by kernel_rfl) (by exact fun _ _ _ h => h) (Or.inl ⟨by rfl, ?_⟩) (by assumption) ?_; rotate_left; (focus (intro w hSw; (try dsimp only at hSw); go_simp; try with_reducible rfl)); (try simp only [Act.put, List.setIfInBounds_toArray, List.set_cons_zero, List.set_cons_succ])
      refine wpAnyH_ready (rs := [5]) (by kernel_rfl) (by simp) ?_
      refine AllReadyH.cons (by simp only [List.getElem?_toArray, List.getElem?_cons_zero, List.getElem?_cons_succ]; rfl) (fun K hK => ?_) AllReadyH.nil
      go_simp
      go_at_call 23
      refine (kB _).mono ?_
      rintro e w2 ⟨rfl, hB2⟩
      have h2 := h1.then hB2
      clear q1_1 q1_2 q1_3 q1_4 q1_6 q1_7 q1_8 q1_9 p1_1 p1_2 p1_3 p1_4
      have q2_1 := h2.b0 1 _ rfl
      have q2_2 := h2.b0 2 _ rfl
      have q2_3 := h2.b0 3 _ rfl
      have q2_4 := h2.b0 4 _ rfl
      have q2_6 := h2.b0 6 _ rfl
      have q2_7 := h2.b0 7 _ rfl
      have q2_8 := h2.b0 8 _ rfl
      have q2_9 := h2.b0 9 _ rfl
      have p2_1 := h2.b1 1 _ rfl
      have p2_2 := h2.b1 2 _ rfl
      have p2_3 := h2.b1 3 _ rfl
      have p2_4 := h2.b1 4 _ rfl
      refine hK.out _ _ (trivial) ?_
      clear hHeld hK
      intro hHeld
      (try simp only [Act.put, List.setIfInBounds_toArray, List.set_cons_zero, List.set_cons_succ])
      refine wpAnyH_ready (rs := [8]) (by kernel_rfl) (by simp) ?_
      refine AllReadyH.cons (by simp only [List.getElem?_toArray, List.getElem?_cons_zero, List.getElem?_cons_succ]; rfl) (fun K hK => ?_) AllReadyH.nil
      go_simp
      go_at_call 23
      refine (kC _).mono ?_
      rintro e w3 ⟨rfl, hB3⟩
      have h3 := h2.then hB3
      clear q2_1 q2_2 q2_3 q2_4 q2_6 q2_7 q2_8 q2_9 p2_1 p2_2 p2_3 p2_4
      have q3_1 := h3.b0 1 _ rfl
      have q3_2 := h3.b0 2 _ rfl
      have q3_3 := h3.b0 3 _ rfl
      have q3_4 := h3.b0 4 _ rfl
      have q3_6 := h3.b0 6 _ rfl
      have q3_7 := h3.b0 7 _ rfl
      have q3_8 := h3.b0 8 _ rfl
      have q3_9 := h3.b0 9 _ rfl
      have p3_1 := h3.b1 1 _ rfl
      have p3_2 := h3.b1 2 _ rfl
      have p3_3 := h3.b1 3 _ rfl
      have p3_4 := h3.b1 4 _ rfl
      refine hK.out _ _ (trivial) ?_
      clear hHeld hK
      intro hHeld
      (try simp only [Act.put, List.setIfInBounds_toArray, List.set_cons_zero, List.set_cons_succ])
      refine wpAnyH_ready (rs := [10]) (by kernel_rfl) (by simp) ?_
      refine AllReadyH.cons (by simp only [List.getElem?_toArray, List.getElem?_cons_zero, List.getElem?_cons_succ]; rfl) (fun K hK => ?_) AllReadyH.nil
      go_simp
      refine hK.out _ _ (trivial) ?_
      clear hHeld hK
      intro hHeld
      (try simp only [Act.put, List.setIfInBounds_toArray, List.set_cons_zero, List.set_cons_succ])
      refine wpAnyH_take (i := 11) (v := ?_) (by simp only [List.getElem?_toArray, List.getElem?_cons_zero, List.getElem?_cons_succ]; rfl) (by kernel_rfl) (by kernel_rfl) (by kernel_rfl) (by exact fun _ _ _ h => h) (Or.inl ⟨by rfl, ?_⟩) (by assumption) ?_; rotate_left; (focus (intro w hSw; (try dsimp only at hSw); go_simp; try with_reducible rfl)); (try simp only [Act.put, List.setIfInBounds_toArray, List.set_cons_zero, List.set_cons_succ])
      refine wpAnyH_ready (rs := [12]) (by kernel_rfl) (by simp) ?_
      refine AllReadyH.cons (by simp only [List.getElem?_toArray, List.getElem?_cons_zero, List.getElem?_cons_succ]; rfl) (fun K hK => ?_) AllReadyH.nil
      go_simp
      refine hK.out _ _ (trivial) ?_
      clear hHeld hK
      intro hHeld
      (try simp only [Act.put, List.setIfInBounds_toArray, List.set_cons_zero, List.set_cons_succ])
      refine wpAnyH_take (i := 13) (v := ?_) (by simp only [List.getElem?_toArray, List.getElem?_cons_zero, List.getElem?_cons_succ]; rfl) (by kernel_rfl) (by kernel_rfl) (by kernel_rfl) (by exact fun _ _ _ h => h) (Or.inl ⟨by rfl, ?_⟩) (by assumption) ?_; rotate_left; (focus (intro w hSw; (try dsimp only at hSw); go_simp; try with_reducible rfl)); (try simp only [Act.put, List.setIfInBounds_toArray, List.set_cons_zero, List.set_cons_succ])
      refine wpAnyH_ready (rs := [14]) (by kernel_rfl) (by simp) ?_
      refine AllReadyH.cons (by simp only [List.getElem?_toArray, List.getElem?_cons_zero, List.getElem?_cons_succ]; rfl) (fun K hK => ?_) AllReadyH.nil
      go_simp
      refine hK.out _ _ (trivial) ?_
      clear hHeld hK
      intro hHeld
      (try simp only [Act.put, List.setIfInBounds_toArray, List.set_cons_zero, List.set_cons_succ])
      refine wpAnyH_done (by kernel_rfl) ?_ _
      go_wp2_with fail
      go_meet
      exact ((((((((((((h3.set0 1 (.int .i64 A.s) (by simp)).set0 2 (.int .i64 A.c) (by simp)).set0 3 (.int .i64 A.i) (by simp)).set0 4 (.int .i64 A.k) (by simp)).set0 6 (.int .i64 B.s) (by simp)).set0 7 (.int .i64 B.c) (by simp)).set0 8 (.int .i64 B.i) (by simp)).set0 9 (.int .i64 B.k) (by simp)).set1 1 (.int .i64 C.s) (by simp)).set1 2 (.int .i64 C.c) (by simp)).set1 3 (.int .i64 C.i) (by simp)).set1 4 (.int .i64 C.k) (by simp))
    refine AllReadyH.cons (by simp only [List.getElem?_toArray, List.getElem?_cons_zero, List.getElem?_cons_succ]; rfl) (fun K hK => ?_) AllReadyH.nil
    go_simp
    refine hK.out _ _ (trivial) ?_
    clear hHeld hK
    intro hHeld
    (try simp only [Act.put, List.setIfInBounds_toArray, List.set_cons_zero, List.set_cons_succ])
    refine wpAnyH_ready (rs := [1, 4]) (by kernel_rfl) (by simp) ?_
    refine AllReadyH.cons (by simp only [List.getElem?_toArray, List.getElem?_cons_zero, List.getElem?_cons_succ]; rfl) (fun K hK => ?_) ?_
    · go_simp
      refine hK.out _ _ (trivial) ?_
      clear hHeld hK
      intro hHeld
      (try simp only [Act.put, List.setIfInBounds_toArray, List.set_cons_zero, List.set_cons_succ])
      refine wpAnyH_ready (rs := [2, 4]) (by kernel_rfl) (by simp) ?_
      refine AllReadyH.cons (by simp only [List.getElem?_toArray, List.getElem?_cons_zero, List.getElem?_cons_succ]; rfl) (fun K hK => ?_) ?_
      · go_simp
        go_at_call 23
        refine (kA _).mono ?_
        rintro e w1 ⟨rfl, hB1⟩
        have h1 := h0.then hB1
        clear q0_1 q0_2 q0_3 q0_4 q0_6 q0_7 q0_8 q0_9 p0_1 p0_2 p0_3 p0_4
        have q1_1 := h1.b0 1 _ rfl
        have q1_2 := h1.b0 2 _ rfl
        have q1_3 := h1.b0 3 _ rfl
        have q1_4 := h1.b0 4 _ rfl
        have q1_6 := h1.b0 6 _ rfl
        have q1_7 := h1.b0 7 _ rfl
        have q1_8 := h1.b0 8 _ rfl
        have q1_9 := h1.b0 9 _ rfl
        have p1_1 := h1.b1 1 _ rfl
        have p1_2 := h1.b1 2 _ rfl
        have p1_3 := h1.b1 3 _ rfl
        have p1_4 := h1.b1 4 _ rfl
        refine hK.out _ _ (trivial) ?_
        clear hHeld hK
        intro hHeld
        (try simp only [Act.put, List.setIfInBounds_toArray, List.set_cons_zero, List.set_cons_succ])
        refine wpAnyH_ready (rs := [4]) (by kernel_rfl) (by simp) ?_
        refine AllReadyH.cons (by simp only [List.getElem?_toArray, List.getElem?_cons_zero, List.getElem?_cons_succ]; rfl) (fun K hK => ?_) AllReadyH.nil
        go_simp
        refine hK.out _ _ (trivial) ?_
        clear hHeld hK
        intro hHeld
        (try simp only [Act.put, List.setIfInBounds_toArray, List.set_cons_zero, List.set_cons_succ])
        refine wpAnyH_take (i := 9) (v := ?_) (by simp only [List.getElem?_toArray, List.getElem?_cons_zero, List.getElem?_cons_succ]; rfl) (by kernel_rfl) (by kernel_rfl) (by kernel_rfl) (by exact fun _ _ _ h => h) (Or.inl ⟨by rfl, ?_⟩) (by assumption) ?_; rotate_left; (focus (intro w hSw; (try dsimp only at hSw); go_simp; try with_reducible rfl)); (try simp only [Act.put, List.setIfInBounds_toArray, List.set_cons_zero, List.set_cons_succ])
        refine wpAnyH_ready (rs := [5]) (by kernel_rfl) (by simp) ?_
        refine AllReadyH.cons (by simp only [List.getElem?_toArray, List.getElem?_cons_zero, List.getElem?_cons_succ]; rfl) (fun K hK => ?_) AllReadyH.nil
        go_simp
        go_at_call 23
        refine (kB _).mono ?_
        rintro e w2 ⟨rfl, hB2⟩
        have h2 := h1.then hB2
        clear q1_1 q1_2 q1_3 q1_4 q1_6 q1_7 q1_8 q1_9 p1_1 p1_2 p1_3 p1_4
        have q2_1 := h2.b0 1 _ rfl
        have q2_2 := h2.b0 2 _ rfl
        have q2_3 := h2.b0 3 _ rfl
        have q2_4 := h2.b0 4 _ rfl
        have q2_6 := h2.b0 6 _ rfl
        have q2_7 := h2.b0 7 _ rfl
        have q2_8 := h2.b0 8 _ rfl
        have q2_9 := h2.b0 9 _ rfl
        have p2_1 := h2.b1 1 _ rfl
        have p2_2 := h2.b1 2 _ rfl
        have p2_3 := h2.b1 3 _ rfl
        have p2_4 := h2.b1 4 _ rfl
        refine hK.out _ _ (trivial) ?_
        clear hHeld hK
        intro hHeld
        (try simp only [Act.put, List.setIfInBounds_toArray, List.set_cons_zero, List.set_cons_succ])
        refine wpAnyH_ready (rs := [8]) (by kernel_rfl) (by simp) ?_
        refine AllReadyH.cons (by simp only [List.getElem?_toArray, List.getElem?_cons_zero, List.getElem?_cons_succ]; rfl) (fun K hK => ?_) AllReadyH.nil
        go_simp
        go_at_call 23
        refine (kC _).mono ?_
        rintro e w3 ⟨rfl, hB3⟩
        have h3 := h2.then hB3
        clear q2_1 q2_2 q2_3 q2_4 q2_6 q2_7 q2_8 q2_9 p2_1 p2_2 p2_3 p2_4
        have q3_1 := h3.b0 1 _ rfl
        have q3_2 := h3.b0 2 _ rfl
        have q3_3 := h3.b0 3 _ rfl
        have q3_4 := h3.b0 4 _ rfl
        have q3_6 := h3.b0 6 _ rfl
        have q3_7 := h3.b0 7 _ rfl
        have q3_8 := h3.b0 8 _ rfl
        have q3_9 := h3.b0 9 _ rfl
        have p3_1 := h3.b1 1 _ rfl
        have p3_2 := h3.b1 2 _ rfl
        have p3_3 := h3.b1 3 _ rfl
        have p3_4 := h3.b1 4 _ rfl
        refine hK.out _ _ (trivial) ?_
        clear hHeld hK
        intro hHeld
        (try simp only [Act.put, List.setIfInBounds_toArray, List.set_cons_zero, List.set_cons_succ])
        refine wpAnyH_ready (rs := [10]) (by kernel_rfl) (by simp) ?_
        refine AllReadyH.cons (by simp only [List.getElem?_toArray, List.getElem?_cons_zero, List.getElem?_cons_succ]; rfl) (fun K hK => ?_) AllReadyH.nil
        go_simp
        refine hK.out _ _ (trivial) ?_
        clear hHeld hK
        intro hHeld
        (try simp only [Act.put, List.setIfInBounds_toArray, List.set_cons_zero, List.set_cons_succ])
        refine wpAnyH_take (i := 11) (v := ?_) (by simp only [List.getElem?_toArray, List.getElem?_cons_zero, List.getElem?_cons_succ]; rfl) (by kernel_rfl) (by kernel_rfl) (by kernel_rfl) (by exact fun _ _ _ h => h) (Or.inl ⟨by rfl, ?_⟩) (by assumption) ?_; rotate_left; (focus (intro w hSw; (try dsimp only at hSw); go_simp; try with_reducible rfl)); (try simp only [Act.put, List.setIfInBounds_toArray, List.set_cons_zero, List.set_cons_succ])
        refine wpAnyH_ready (rs := [12]) (by kernel_rfl) (by simp) ?_
        refine AllReadyH.cons (by simp only [List.getElem?_toArray, List.getElem?_cons_zero, List.getElem?_cons_succ]; rfl) (fun K hK => ?_) AllReadyH.nil
        go_simp
        refine hK.out _ _ (trivial) ?_
        clear hHeld hK
        intro hHeld
        (try simp only [Act.put, List.setIfInBounds_toArray, List.set_cons_zero, List.set_cons_succ])
        refine wpAnyH_take (i := 13) (v := ?_) (by simp only [List.getElem?_toArray, List.getElem?_cons_zero, List.getElem?_cons_succ]; rfl) (by kernel_rfl) (by kernel_rfl) (by kernel_rfl) (by exact fun _ _ _ h => h) (Or.inl ⟨by rfl, ?_⟩) (by assumption) ?_; rotate_left; (focus (intro w hSw; (try dsimp only at hSw); go_simp; try with_reducible rfl)); (try simp only [Act.put, List.setIfInBounds_toArray, List.set_cons_zero, List.set_cons_succ])
        refine wpAnyH_ready (rs := [14]) (by kernel_rfl) (by simp) ?_
        refine AllReadyH.cons (by simp only [List.getElem?_toArray, List.getElem?_cons_zero, List.getElem?_cons_succ]; rfl) (fun K hK => ?_) AllReadyH.nil
        go_simp
        refine hK.out _ _ (trivial) ?_
        clear hHeld hK
        intro hHeld
        (try simp only [Act.put, List.setIfInBounds_toArray, List.set_cons_zero, List.set_cons_succ])
        refine wpAnyH_done (by kernel_rfl) ?_ _
        go_wp2_with fail
        go_meet
        exact ((((((((((((h3.set0 1 (.int .i64 A.s) (by simp)).set0 2 (.int .i64 A.c) (by simp)).set0 3 (.int .i64 A.i) (by simp)).set0 4 (.int .i64 A.k) (by simp)).set0 6 (.int .i64 B.s) (by simp)).set0 7 (.int .i64 B.c) (by simp)).set0 8 (.int .i64 B.i) (by simp)).set0 9 (.int .i64 B.k) (by simp)).set1 1 (.int .i64 C.s) (by simp)).set1 2 (.int .i64 C.c) (by simp)).set1 3 (.int .i64 C.i) (by simp)).set1 4 (.int .i64 C.k) (by simp))
      refine AllReadyH.cons (by simp only [List.getElem?_toArray, List.getElem?_cons_zero, List.getElem?_cons_succ]; rfl) (fun K hK => ?_) AllReadyH.nil
      go_simp
      refine hK.out _ _ (trivial) ?_
      clear hHeld hK
      intro hHeld
      (try simp only [Act.put, List.setIfInBounds_toArray, List.set_cons_zero, List.set_cons_succ])
      refine wpAnyH_ready (rs := [2]) (by kernel_rfl) (by simp) ?_
      refine AllReadyH.cons (by simp only [List.getElem?_toArray, List.getElem?_cons_zero, List.getElem?_cons_succ]; rfl) (fun K hK => ?_) AllReadyH.nil
      go_simp
      go_at_call 23
      refine (kA _).mono ?_
      rintro e w1 ⟨rfl, hB1⟩
      have h1 := h0.then hB1
      clear q0_1 q0_2 q0_3 q0_4 q0_6 q0_7 q0_8 q0_9 p0_1 p0_2 p0_3 p0_4
      have q1_1 := h1.b0 1 _ rfl
      have q1_2 := h1.b0 2 _ rfl
      have q1_3 := h1.b0 3 _ rfl
      have q1_4 := h1.b0 4 _ rfl
      have q1_6 := h1.b0 6 _ rfl
      have q1_7 := h1.b0 7 _ rfl
      have q1_8 := h1.b0 8 _ rfl
      have q1_9 := h1.b0 9 _ rfl
      have p1_1 := h1.b1 1 _ rfl
      have p1_2 := h1.b1 2 _ rfl
      have p1_3 := h1.b1 3 _ rfl
      have p1_4 := h1.b1 4 _ rfl
      refine hK.out _ _ (trivial) ?_
      clear hHeld hK
      intro hHeld
      (try simp only [Act.put, List.setIfInBounds_toArray, List.set_cons_zero, List.set_cons_succ])
      refine wpAnyH_take (i := 9) (v := ?_) (by simp only [List.getElem?_toArray, List.getElem?_cons_zero, List.getElem?_cons_succ]; rfl) (by kernel_rfl) (by kernel_rfl) (by kernel_rfl) (by exact fun _ _ _ h => h) (Or.inl ⟨by rfl, ?_⟩) (by assumption) ?_; rotate_left; (focus (intro w hSw; (try dsimp only at hSw); go_simp; try with_reducible rfl)); (try simp only [Act.put, List.setIfInBounds_toArray, List.set_cons_zero, List.set_cons_succ])
      refine wpAnyH_ready (rs := [5]) (by kernel_rfl) (by simp) ?_
      refine AllReadyH.cons (by simp only [List.getElem?_toArray, List.getElem?_cons_zero, List.getElem?_cons_succ]; rfl) (fun K hK => ?_) AllReadyH.nil
      go_simp
      go_at_call 23
      refine (kB _).mono ?_
      rintro e w2 ⟨rfl, hB2⟩
      have h2 := h1.then hB2
      clear q1_1 q1_2 q1_3 q1_4 q1_6 q1_7 q1_8 q1_9 p1_1 p1_2 p1_3 p1_4
      have q2_1 := h2.b0 1 _ rfl
      have q2_2 := h2.b0 2 _ rfl
      have q2_3 := h2.b0 3 _ rfl
      have q2_4 := h2.b0 4 _ rfl
      have q2_6 := h2.b0 6 _ rfl
      have q2_7 := h2.b0 7 _ rfl
      have q2_8 := h2.b0 8 _ rfl
      have q2_9 := h2.b0 9 _ rfl
      have p2_1 := h2.b1 1 _ rfl
      have p2_2 := h2.b1 2 _ rfl
      have p2_3 := h2.b1 3 _ rfl
      have p2_4 := h2.b1 4 _ rfl
      refine hK.out _ _ (trivial) ?_
      clear hHeld hK
      intro hHeld
      (try simp only [Act.put, List.setIfInBounds_toArray, List.set_cons_zero, List.set_cons_succ])
      refine wpAnyH_ready (rs := [8]) (by kernel_rfl) (by simp) ?_
      refine AllReadyH.cons (by simp only [List.getElem?_toArray, List.getElem?_cons_zero, List.getElem?_cons_succ]; rfl) (fun K hK => ?_) AllReadyH.nil
      go_simp
      go_at_call 23
      refine (kC _).mono ?_
      rintro e w3 ⟨rfl, hB3⟩
      have h3 := h2.then hB3
      clear q2_1 q2_2 q2_3 q2_4 q2_6 q2_7 q2_8 q2_9 p2_1 p2_2 p2_3 p2_4
      have q3_1 := h3.b0 1 _ rfl
      have q3_2 := h3.b0 2 _ rfl
      have q3_3 := h3.b0 3 _ rfl
      have q3_4 := h3.b0 4 _ rfl
      have q3_6 := h3.b0 6 _ rfl
      have q3_7 := h3.b0 7 _ rfl
      have q3_8 := h3.b0 8 _ rfl
      have q3_9 := h3.b0 9 _ rfl
      have p3_1 := h3.b1 1 _ rfl
      have p3_2 := h3.b1 2 _ rfl
      have p3_3 := h3.b1 3 _ rfl
      have p3_4 := h3.b1 4 _ rfl
      refine hK.out _ _ (trivial) ?_
      clear hHeld hK
      intro hHeld
      (try simp only [Act.put, List.setIfInBounds_toArray, List.set_cons_zero, List.set_cons_succ])
      refine wpAnyH_ready (rs := [10]) (by kernel_rfl) (by simp) ?_
      refine AllReadyH.cons (by simp only [List.getElem?_toArray, List.getElem?_cons_zero, List.getElem?_cons_succ]; rfl) (fun K hK => ?_) AllReadyH.nil
      go_simp
      refine hK.out _ _ (trivial) ?_
      clear hHeld hK
      intro hHeld
      (try simp only [Act.put, List.setIfInBounds_toArray, List.set_cons_zero, List.set_cons_succ])
      refine wpAnyH_take (i := 11) (v := ?_) (by simp only [List.getElem?_toArray, List.getElem?_cons_zero, List.getElem?_cons_succ]; rfl) (by kernel_rfl) (by kernel_rfl) (by kernel_rfl) (by exact fun _ _ _ h => h) (Or.inl ⟨by rfl, ?_⟩) (by assumption) ?_; rotate_left; (focus (intro w hSw; (try dsimp only at hSw); go_simp; try with_reducible rfl)); (try simp only [Act.put, List.setIfInBounds_toArray, List.set_cons_zero, List.set_cons_succ])
      refine wpAnyH_ready (rs := [12]) (by kernel_rfl) (by simp) ?_
      refine AllReadyH.cons (by simp only [List.getElem?_toArray, List.getElem?_cons_zero, List.getElem?_cons_succ]; rfl) (fun K hK => ?_) AllReadyH.nil
      go_simp
      refine hK.out _ _ (trivial) ?_
      clear hHeld hK
      intro hHeld
      (try simp only [Act.put, List.setIfInBounds_toArray, List.set_cons_zero, List.set_cons_succ])
      refine wpAnyH_take (i := 13) (v := ?_) (by simp only [List.getElem?_toArray, List.getElem?_cons_zero, List.getElem?_cons_succ]; rfl) (by kernel_rfl) (by kernel_rfl) (by kernel_rfl) (by exact fun _ _ _ h => h) (Or.inl ⟨by rfl, ?_⟩) (by assumption) ?_; rotate_left; (focus (intro w hSw; (try dsimp only at hSw); go_simp; try with_reducible rfl)); (try simp only [Act.put, List.setIfInBounds_toArray, List.set_cons_zero, List.set_cons_succ])
      refine wpAnyH_ready (rs := [14]) (by kernel_rfl) (by simp) ?_
      refine AllReadyH.cons (by simp only [List.getElem?_toArray, List.getElem?_cons_zero, List.getElem?_cons_succ]; rfl) (fun K hK => ?_) AllReadyH.nil
      go_simp
      refine hK.out _ _ (trivial) ?_
      clear hHeld hK
      intro hHeld
      (try simp only [Act.put, List.setIfInBounds_toArray, List.set_cons_zero, List.set_cons_succ])
      refine wpAnyH_done (by kernel_rfl) ?_ _
      go_wp2_with fail
      go_meet
      exact ((((((((((((h3.set0 1 (.int .i64 A.s) (by simp)).set0 2 (.int .i64 A.c) (by simp)).set0 3 (.int .i64 A.i) (by simp)).set0 4 (.int .i64 A.k) (by simp)).set0 6 (.int .i64 B.s) (by simp)).set0 7 (.int .i64 B.c) (by simp)).set0 8 (.int .i64 B.i) (by simp)).set0 9 (.int .i64 B.k) (by simp)).set1 1 (.int .i64 C.s) (by simp)).set1 2 (.int .i64 C.c) (by simp)).set1 3 (.int .i64 C.i) (by simp)).set1 4 (.int .i64 C.k) (by simp))
    refine AllReadyH.cons (by simp only [List.getElem?_toArray, List.getElem?_cons_zero, List.getElem?_cons_succ]; rfl) (fun K hK => ?_) AllReadyH.nil
    go_simp
    refine hK.out _ _ (trivial) ?_
    clear hHeld hK
    intro hHeld
    (try simp only [Act.put, List.setIfInBounds_toArray, List.set_cons_zero, List.set_cons_succ])
    refine wpAnyH_ready (rs := [1]) (by kernel_rfl) (by simp) ?_
    refine AllReadyH.cons (by simp only [List.getElem?_toArray, List.getElem?_cons_zero, List.getElem?_cons_succ]; rfl) (fun K hK => ?_) AllReadyH.nil
    go_simp
    refine hK.out _ _ (trivial) ?_
    clear hHeld hK
    intro hHeld
    (try simp only [Act.put, List.setIfInBounds_toArray, List.set_cons_zero, List.set_cons_succ])
    refine wpAnyH_ready (rs := [2]) (by kernel_rfl) (by simp) ?_
    refine AllReadyH.cons (by simp only [List.getElem?_toArray, List.getElem?_cons_zero, List.getElem?_cons_succ]; rfl) (fun K hK => ?_) AllReadyH.nil
    go_simp
    go_at_call 23
    refine (kA _).mono ?_
    rintro e w1 ⟨rfl, hB1⟩
    have h1 := h0.then hB1
    clear q0_1 q0_2 q0_3 q0_4 q0_6 q0_7 q0_8 q0_9 p0_1 p0_2 p0_3 p0_4
    have q1_1 := h1.b0 1 _ rfl
    have q1_2 := h1.b0 2 _ rfl
    have q1_3 := h1.b0 3 _ rfl
    have q1_4 := h1.b0 4 _ rfl
    have q1_6 := h1.b0 6 _ rfl
    have q1_7 := h1.b0 7 _ rfl
    have q1_8 := h1.b0 8 _ rfl
    have q1_9 := h1.b0 9 _ rfl
    have p1_1 := h1.b1 1 _ rfl
    have p1_2 := h1.b1 2 _ rfl
    have p1_3 := h1.b1 3 _ rfl
    have p1_4 := h1.b1 4 _ rfl
    refine hK.out _ _ (trivial) ?_
    clear hHeld hK
    intro hHeld
    (try simp only [Act.put, List.setIfInBounds_toArray, List.set_cons_zero, List.set_cons_succ])
    refine wpAnyH_take (i := 9) (v := ?_) (by simp only [List.getElem?_toArray, List.getElem?_cons_zero, List.getElem?_cons_succ]; rfl) (by kernel_rfl) (by kernel_rfl) (by kernel_rfl) (by exact fun _ _ _ h => h) (Or.inl ⟨by rfl, ?_⟩) (by assumption) ?_; rotate_left; (focus (intro w hSw; (try dsimp only at hSw); go_simp; try with_reducible rfl)); (try simp only [Act.put, List.setIfInBounds_toArray, List.set_cons_zero, List.set_cons_succ])
    refine wpAnyH_ready (rs := [5]) (by kernel_rfl) (by simp) ?_
    refine AllReadyH.cons (by simp only [List.getElem?_toArray, List.getElem?_cons_zero, List.getElem?_cons_succ]; rfl) (fun K hK => ?_) AllReadyH.nil
    go_simp
    go_at_call 23
    refine (kB _).mono ?_
    rintro e w2 ⟨rfl, hB2⟩
    have h2 := h1.then hB2
    clear q1_1 q1_2 q1_3 q1_4 q1_6 q1_7 q1_8 q1_9 p1_1 p1_2 p1_3 p1_4
    have q2_1 := h2.b0 1 _ rfl
    have q2_2 := h2.b0 2 _ rfl
    have q2_3 := h2.b0 3 _ rfl
    have q2_4 := h2.b0 4 _ rfl
    have q2_6 := h2.b0 6 _ rfl
    have q2_7 := h2.b0 7 _ rfl
    have q2_8 := h2.b0 8 _ rfl
    have q2_9 := h2.b0 9 _ rfl
    have p2_1 := h2.b1 1 _ rfl
    have p2_2 := h2.b1 2 _ rfl
    have p2_3 := h2.b1 3 _ rfl
    have p2_4 := h2.b1 4 _ rfl
    refine hK.out _ _ (trivial) ?_
    clear hHeld hK
    intro hHeld
    (try simp only [Act.put, List.setIfInBounds_toArray, List.set_cons_zero, List.set_cons_succ])
    refine wpAnyH_ready (rs := [8]) (by kernel_rfl) (by simp) ?_
    refine AllReadyH.cons (by simp only [List.getElem?_toArray, List.getElem?_cons_zero, List.getElem?_cons_succ]; rfl) (fun K hK => ?_) AllReadyH.nil
    go_simp
    go_at_call 23
    refine (kC _).mono ?_
    rintro e w3 ⟨rfl, hB3⟩
    have h3 := h2.then hB3
    clear q2_1 q2_2 q2_3 q2_4 q2_6 q2_7 q2_8 q2_9 p2_1 p2_2 p2_3 p2_4
    have q3_1 := h3.b0 1 _ rfl
    have q3_2 := h3.b0 2 _ rfl
    have q3_3 := h3.b0 3 _ rfl
    have q3_4 := h3.b0 4 _ rfl
    have q3_6 := h3.b0 6 _ rfl
    have q3_7 := h3.b0 7 _ rfl
    have q3_8 := h3.b0 8 _ rfl
    have q3_9 := h3.b0 9 _ rfl
    have p3_1 := h3.b1 1 _ rfl
    have p3_2 := h3.b1 2 _ rfl
    have p3_3 := h3.b1 3 _ rfl
    have p3_4 := h3.b1 4 _ rfl
    refine hK.out _ _ (trivial) ?_
    clear hHeld hK
    intro hHeld
    (try simp only [Act.put, List.setIfInBounds_toArray, List.set_cons_zero, List.set_cons_succ])
    refine wpAnyH_ready (rs := [10]) (by kernel_rfl) (by simp) ?_
    refine AllReadyH.cons (by simp only [List.getElem?_toArray, List.getElem?_cons_zero, List.getElem?_cons_succ]; rfl) (fun K hK => ?_) AllReadyH.nil
    go_simp
    refine hK.out _ _ (trivial) ?_
    clear hHeld hK
    intro hHeld
    (try simp only [Act.put, List.setIfInBounds_toArray, List.set_cons_zero, List.set_cons_succ])
    refine wpAnyH_take (i := 11) (v := ?_) (by simp only [List.getElem?_toArray, List.getElem?_cons_zero, List.getElem?_cons_succ]; rfl) (by kernel_rfl) (by kernel_rfl) (by kernel_rfl) (by exact fun _ _ _ h => h) (Or.inl ⟨by rfl, ?_⟩) (by assumption) ?_; rotate_left; (focus (intro w hSw; (try dsimp only at hSw); go_simp; try with_reducible rfl)); (try simp only [Act.put, List.setIfInBounds_toArray, List.set_cons_zero, List.set_cons_succ])
    refine wpAnyH_ready (rs := [12]) (by kernel_rfl) (by simp) ?_
    refine AllReadyH.cons (by simp only [List.getElem?_toArray, List.getElem?_cons_zero, List.getElem?_cons_succ]; rfl) (fun K hK => ?_) AllReadyH.nil
    go_simp
    refine hK.out _ _ (trivial) ?_
    clear hHeld hK
    intro hHeld
    (try simp only [Act.put, List.setIfInBounds_toArray, List.set_cons_zero, List.set_cons_succ])
    refine wpAnyH_take (i := 13) (v := ?_) (by simp only [List.getElem?_toArray, List.getElem?_cons_zero, List.getElem?_cons_succ]; rfl) (by kernel_rfl) (by kernel_rfl) (by kernel_rfl) (by exact fun _ _ _ h => h) (Or.inl ⟨by rfl, ?_⟩) (by assumption) ?_; rotate_left; (focus (intro w hSw; (try dsimp only at hSw); go_simp; try with_reducible rfl)); (try simp only [Act.put, List.setIfInBounds_toArray, List.set_cons_zero, List.set_cons_succ])
    refine wpAnyH_ready (rs := [14]) (by kernel_rfl) (by simp) ?_
    refine AllReadyH.cons (by simp only [List.getElem?_toArray, List.getElem?_cons_zero, List.getElem?_cons_succ]; rfl) (fun K hK => ?_) AllReadyH.nil
    go_simp
    refine hK.out _ _ (trivial) ?_
    clear hHeld hK
    intro hHeld
    (try simp only [Act.put, List.setIfInBounds_toArray, List.set_cons_zero, List.set_cons_succ])
    refine wpAnyH_done (by kernel_rfl) ?_ _
    go_wp2_with fail
    go_meet
    exact ((((((((((((h3.set0 1 (.int .i64 A.s) (by simp)).set0 2 (.int .i64 A.c) (by simp)).set0 3 (.int .i64 A.i) (by simp)).set0 4 (.int .i64 A.k) (by simp)).set0 6 (.int .i64 B.s) (by simp)).set0 7 (.int .i64 B.c) (by simp)).set0 8 (.int .i64 B.i) (by simp)).set0 9 (.int .i64 B.k) (by simp)).set1 1 (.int .i64 C.s) (by simp)).set1 2 (.int .i64 C.c) (by simp)).set1 3 (.int .i64 C.i) (by simp)).set1 4 (.int .i64 C.k) (by simp))
  case rest =>
  have g0 := hcut
  clear hcut h1 kA kB kC
  obtain ⟨V, hV⟩ : ∃ V, x.verb % 256 = V := ⟨_, rfl⟩
  obtain ⟨D, hD⟩ : ∃ D, x.verdict % 256 = D := ⟨_, rfl⟩
  have kV := fun W => w10_any x.verb 256 (by decide) (by decide) W
  have kD := fun W => w10_any x.verdict 256 (by decide) (by decide) W
  have bV : 0 ≤ V ∧ V < 256 := by omega
  have bD : 0 ≤ D ∧ D < 256 := by omega
  simp only [hV] at kV
  simp only [hD] at kD
  clear hV hD
  go_upto_region 6 with fail
  go_cut [] from 11 (fun we => TwoL w we [.string m.from_, .int .i64 A.s, .int .i64 A.c, .int .i64 A.i, .int .i64 A.k, .string m.to_, .int .i64 B.s, .int .i64 B.c, .int .i64 B.i, .int .i64 B.k, .string m.text] [.int .i64 x.seq, .int .i64 C.s, .int .i64 C.c, .int .i64 C.i, .int .i64 C.k, .string x.user, .int .i64 V, .string x.object, .int .i64 D])
  case first =>
    have h0 := g0.drew
    have q0_6 := h0.b1 6 _ rfl
    have q0_8 := h0.b1 8 _ rfl
    clear g0
    refine wp_region_held_drew (S := (fun _ => True)) (by kernel_rfl) (by trivial) ?_
    intro hHeld
    generalize wc.drew = w0 at *
    refine wpAnyH_take (i := 0) (v := ?_) (by simp only [List.getElem?_toArray, List.getElem?_cons_zero, List.getElem?_cons_succ]; rfl) (by kernel_rfl) (by kernel_rfl) (by kernel_rfl) (by exact fun _ _ _ h => h) (Or.inl ⟨by rfl, ?_⟩) (by assumption) ?_; rotate_left; (focus (intro w hSw; (try dsimp only at hSw); go_simp; try with_reducible rfl)); (try simp only [Act.put, List.setIfInBounds_toArray, List.set_cons_zero, List.set_cons_succ])
    refine wpAnyH_take (i := 3) (v := ?_) (by simp only [List.getElem?_toArray, List.getElem?_cons_zero, List.getElem?_cons_succ]; rfl) (by kernel_rfl) (by kernel_rfl) (by kernel_rfl) (by exact fun _ _ _ h => h) (Or.inl ⟨by rfl, ?_⟩) (by assumption) ?_; rotate_left; (focus (intro w hSw; (try dsimp only at hSw); go_simp; try with_reducible rfl)); (try simp only [Act.put, List.setIfInBounds_toArray, List.set_cons_zero, List.set_cons_succ])
    refine wpAnyH_ready (rs := [1, 4]) (by kernel_rfl) (by simp) ?_
    refine AllReadyH.cons (by simp only [List.getElem?_toArray, List.getElem?_cons_zero, List.getElem?_cons_succ]; rfl) (fun K hK => ?_) ?_
    · go_simp
      refine hK.out _ _ (trivial) ?_
      clear hHeld hK
      intro hHeld
      (try simp only [Act.put, List.setIfInBounds_toArray, List.set_cons_zero, List.set_cons_succ])
      refine wpAnyH_ready (rs := [2, 4]) (by kernel_rfl) (by simp) ?_
      refine AllReadyH.cons (by simp only [List.getElem?_toArray, List.getElem?_cons_zero, List.getElem?_cons_succ]; rfl) (fun K hK => ?_) ?_
      · go_simp
        go_at_call 24
        refine (kV _).mono ?_
        rintro e w' ⟨rfl, rfl⟩
        refine hK.out _ _ (trivial) ?_
        clear hHeld hK
        intro hHeld
        (try simp only [Act.put, List.setIfInBounds_toArray, List.set_cons_zero, List.set_cons_succ])
        refine wpAnyH_ready (rs := [4]) (by kernel_rfl) (by simp) ?_
        refine AllReadyH.cons (by simp only [List.getElem?_toArray, List.getElem?_cons_zero, List.getElem?_cons_succ]; rfl) (fun K hK => ?_) AllReadyH.nil
        go_simp
        refine hK.out _ _ (trivial) ?_
        clear hHeld hK
        intro hHeld
        (try simp only [Act.put, List.setIfInBounds_toArray, List.set_cons_zero, List.set_cons_succ])
        refine wpAnyH_take (i := 6) (v := ?_) (by simp only [List.getElem?_toArray, List.getElem?_cons_zero, List.getElem?_cons_succ]; rfl) (by kernel_rfl) (by kernel_rfl) (by kernel_rfl) (by exact fun _ _ _ h => h) (Or.inl ⟨by rfl, ?_⟩) (by assumption) ?_; rotate_left; (focus (intro w hSw; (try dsimp only at hSw); go_simp; try with_reducible rfl)); (try simp only [Act.put, List.setIfInBounds_toArray, List.set_cons_zero, List.set_cons_succ])
        refine wpAnyH_ready (rs := [5]) (by kernel_rfl) (by simp) ?_
        refine AllReadyH.cons (by simp only [List.getElem?_toArray, List.getElem?_cons_zero, List.getElem?_cons_succ]; rfl) (fun K hK => ?_) AllReadyH.nil
        go_simp
        go_at_call 24
        refine (kD _).mono ?_
        rintro e w' ⟨rfl, rfl⟩
        refine hK.out _ _ (trivial) ?_
        clear hHeld hK
        intro hHeld
        (try simp only [Act.put, List.setIfInBounds_toArray, List.set_cons_zero, List.set_cons_succ])
        refine wpAnyH_ready (rs := [7]) (by kernel_rfl) (by simp) ?_
        refine AllReadyH.cons (by simp only [List.getElem?_toArray, List.getElem?_cons_zero, List.getElem?_cons_succ]; rfl) (fun K hK => ?_) AllReadyH.nil
        go_simp
        refine hK.out _ _ (trivial) ?_
        clear hHeld hK
        intro hHeld
        (try simp only [Act.put, List.setIfInBounds_toArray, List.set_cons_zero, List.set_cons_succ])
        refine wpAnyH_take (i := 8) (v := ?_) (by simp only [List.getElem?_toArray, List.getElem?_cons_zero, List.getElem?_cons_succ]; rfl) (by kernel_rfl) (by kernel_rfl) (by kernel_rfl) (by exact fun _ _ _ h => h) (Or.inl ⟨by rfl, ?_⟩) (by assumption) ?_; rotate_left; (focus (intro w hSw; (try dsimp only at hSw); go_simp; try with_reducible rfl)); (try simp only [Act.put, List.setIfInBounds_toArray, List.set_cons_zero, List.set_cons_succ])
        refine wpAnyH_ready (rs := [9]) (by kernel_rfl) (by simp) ?_
        refine AllReadyH.cons (by simp only [List.getElem?_toArray, List.getElem?_cons_zero, List.getElem?_cons_succ]; rfl) (fun K hK => ?_) AllReadyH.nil
        go_simp
        refine hK.out _ _ (trivial) ?_
        clear hHeld hK
        intro hHeld
        (try simp only [Act.put, List.setIfInBounds_toArray, List.set_cons_zero, List.set_cons_succ])
        refine wpAnyH_done (by kernel_rfl) ?_ _
        go_wp2_with fail
        go_meet
        exact (h0.set1 6 (.int .i64 V) (by simp)).set1 8 (.int .i64 D) (by simp)
      refine AllReadyH.cons (by simp only [List.getElem?_toArray, List.getElem?_cons_zero, List.getElem?_cons_succ]; rfl) (fun K hK => ?_) AllReadyH.nil
      go_simp
      refine hK.out _ _ (trivial) ?_
      clear hHeld hK
      intro hHeld
      (try simp only [Act.put, List.setIfInBounds_toArray, List.set_cons_zero, List.set_cons_succ])
      refine wpAnyH_ready (rs := [2]) (by kernel_rfl) (by simp) ?_
      refine AllReadyH.cons (by simp only [List.getElem?_toArray, List.getElem?_cons_zero, List.getElem?_cons_succ]; rfl) (fun K hK => ?_) AllReadyH.nil
      go_simp
      go_at_call 24
      refine (kV _).mono ?_
      rintro e w' ⟨rfl, rfl⟩
      refine hK.out _ _ (trivial) ?_
      clear hHeld hK
      intro hHeld
      (try simp only [Act.put, List.setIfInBounds_toArray, List.set_cons_zero, List.set_cons_succ])
      refine wpAnyH_take (i := 6) (v := ?_) (by simp only [List.getElem?_toArray, List.getElem?_cons_zero, List.getElem?_cons_succ]; rfl) (by kernel_rfl) (by kernel_rfl) (by kernel_rfl) (by exact fun _ _ _ h => h) (Or.inl ⟨by rfl, ?_⟩) (by assumption) ?_; rotate_left; (focus (intro w hSw; (try dsimp only at hSw); go_simp; try with_reducible rfl)); (try simp only [Act.put, List.setIfInBounds_toArray, List.set_cons_zero, List.set_cons_succ])
      refine wpAnyH_ready (rs := [5]) (by kernel_rfl) (by simp) ?_
      refine AllReadyH.cons (by simp only [List.getElem?_toArray, List.getElem?_cons_zero, List.getElem?_cons_succ]; rfl) (fun K hK => ?_) AllReadyH.nil
      go_simp
      go_at_call 24
      refine (kD _).mono ?_
      rintro e w' ⟨rfl, rfl⟩
      refine hK.out _ _ (trivial) ?_
      clear hHeld hK
      intro hHeld
      (try simp only [Act.put, List.setIfInBounds_toArray, List.set_cons_zero, List.set_cons_succ])
      refine wpAnyH_ready (rs := [7]) (by kernel_rfl) (by simp) ?_
      refine AllReadyH.cons (by simp only [List.getElem?_toArray, List.getElem?_cons_zero, List.getElem?_cons_succ]; rfl) (fun K hK => ?_) AllReadyH.nil
      go_simp
      refine hK.out _ _ (trivial) ?_
      clear hHeld hK
      intro hHeld
      (try simp only [Act.put, List.setIfInBounds_toArray, List.set_cons_zero, List.set_cons_succ])
      refine wpAnyH_take (i := 8) (v := ?_) (by simp only [List.getElem?_toArray, List.getElem?_cons_zero, List.getElem?_cons_succ]; rfl) (by kernel_rfl) (by kernel_rfl) (by kernel_rfl) (by exact fun _ _ _ h => h) (Or.inl ⟨by rfl, ?_⟩) (by assumption) ?_; rotate_left; (focus (intro w hSw; (try dsimp only at hSw); go_simp; try with_reducible rfl)); (try simp only [Act.put, List.setIfInBounds_toArray, List.set_cons_zero, List.set_cons_succ])
      refine wpAnyH_ready (rs := [9]) (by kernel_rfl) (by simp) ?_
      refine AllReadyH.cons (by simp only [List.getElem?_toArray, List.getElem?_cons_zero, List.getElem?_cons_succ]; rfl) (fun K hK => ?_) AllReadyH.nil
      go_simp
      refine hK.out _ _ (trivial) ?_
      clear hHeld hK
      intro hHeld
      (try simp only [Act.put, List.setIfInBounds_toArray, List.set_cons_zero, List.set_cons_succ])
      refine wpAnyH_done (by kernel_rfl) ?_ _
      go_wp2_with fail
      go_meet
      exact (h0.set1 6 (.int .i64 V) (by simp)).set1 8 (.int .i64 D) (by simp)
    refine AllReadyH.cons (by simp only [List.getElem?_toArray, List.getElem?_cons_zero, List.getElem?_cons_succ]; rfl) (fun K hK => ?_) AllReadyH.nil
    go_simp
    refine hK.out _ _ (trivial) ?_
    clear hHeld hK
    intro hHeld
    (try simp only [Act.put, List.setIfInBounds_toArray, List.set_cons_zero, List.set_cons_succ])
    refine wpAnyH_ready (rs := [1]) (by kernel_rfl) (by simp) ?_
    refine AllReadyH.cons (by simp only [List.getElem?_toArray, List.getElem?_cons_zero, List.getElem?_cons_succ]; rfl) (fun K hK => ?_) AllReadyH.nil
    go_simp
    refine hK.out _ _ (trivial) ?_
    clear hHeld hK
    intro hHeld
    (try simp only [Act.put, List.setIfInBounds_toArray, List.set_cons_zero, List.set_cons_succ])
    refine wpAnyH_ready (rs := [2]) (by kernel_rfl) (by simp) ?_
    refine AllReadyH.cons (by simp only [List.getElem?_toArray, List.getElem?_cons_zero, List.getElem?_cons_succ]; rfl) (fun K hK => ?_) AllReadyH.nil
    go_simp
    go_at_call 24
    refine (kV _).mono ?_
    rintro e w' ⟨rfl, rfl⟩
    refine hK.out _ _ (trivial) ?_
    clear hHeld hK
    intro hHeld
    (try simp only [Act.put, List.setIfInBounds_toArray, List.set_cons_zero, List.set_cons_succ])
    refine wpAnyH_take (i := 6) (v := ?_) (by simp only [List.getElem?_toArray, List.getElem?_cons_zero, List.getElem?_cons_succ]; rfl) (by kernel_rfl) (by kernel_rfl) (by kernel_rfl) (by exact fun _ _ _ h => h) (Or.inl ⟨by rfl, ?_⟩) (by assumption) ?_; rotate_left; (focus (intro w hSw; (try dsimp only at hSw); go_simp; try with_reducible rfl)); (try simp only [Act.put, List.setIfInBounds_toArray, List.set_cons_zero, List.set_cons_succ])
    refine wpAnyH_ready (rs := [5]) (by kernel_rfl) (by simp) ?_
    refine AllReadyH.cons (by simp only [List.getElem?_toArray, List.getElem?_cons_zero, List.getElem?_cons_succ]; rfl) (fun K hK => ?_) AllReadyH.nil
    go_simp
    go_at_call 24
    refine (kD _).mono ?_
    rintro e w' ⟨rfl, rfl⟩
    refine hK.out _ _ (trivial) ?_
    clear hHeld hK
    intro hHeld
    (try simp only [Act.put, List.setIfInBounds_toArray, List.set_cons_zero, List.set_cons_succ])
    refine wpAnyH_ready (rs := [7]) (by kernel_rfl) (by simp) ?_
    refine AllReadyH.cons (by simp only [List.getElem?_toArray, List.getElem?_cons_zero, List.getElem?_cons_succ]; rfl) (fun K hK => ?_) AllReadyH.nil
    go_simp
    refine hK.out _ _ (trivial) ?_
    clear hHeld hK
    intro hHeld
    (try simp only [Act.put, List.setIfInBounds_toArray, List.set_cons_zero, List.set_cons_succ])
    refine wpAnyH_take (i := 8) (v := ?_) (by simp only [List.getElem?_toArray, List.getElem?_cons_zero, List.getElem?_cons_succ]; rfl) (by kernel_rfl) (by kernel_rfl) (by kernel_rfl) (by exact fun _ _ _ h => h) (Or.inl ⟨by rfl, ?_⟩) (by assumption) ?_; rotate_left; (focus (intro w hSw; (try dsimp only at hSw); go_simp; try with_reducible rfl)); (try simp only [Act.put, List.setIfInBounds_toArray, List.set_cons_zero, List.set_cons_succ])
    refine wpAnyH_ready (rs := [9]) (by kernel_rfl) (by simp) ?_
    refine AllReadyH.cons (by simp only [List.getElem?_toArray, List.getElem?_cons_zero, List.getElem?_cons_succ]; rfl) (fun K hK => ?_) AllReadyH.nil
    go_simp
    refine hK.out _ _ (trivial) ?_
    clear hHeld hK
    intro hHeld
    (try simp only [Act.put, List.setIfInBounds_toArray, List.set_cons_zero, List.set_cons_succ])
    refine wpAnyH_done (by kernel_rfl) ?_ _
    go_wp2_with fail
    go_meet
    exact (h0.set1 6 (.int .i64 V) (by simp)).set1 8 (.int .i64 D) (by simp)
  case rest =>
  have h := hcut
  clear hcut g0 kV kD
  have hm : (⟨m.from_, A, m.to_, B, m.text⟩ : Msg).Plain := ⟨hsmall.1, bA, hsmall.2.1, bB, hsmall.2.2.1⟩
  have hx' : (⟨x.seq, C, x.user, V, x.object, D⟩ : Ent).Plain := ⟨hx, bC, hsmall.2.2.2.1, bV, hsmall.2.2.2.2, bD⟩
  obtain ⟨M, hM⟩ : ∃ M : Msg, ⟨m.from_, A, m.to_, B, m.text⟩ = M := ⟨_, rfl⟩
  obtain ⟨X, hX⟩ : ∃ X : Ent, ⟨x.seq, C, x.user, V, x.object, D⟩ = X := ⟨_, rfl⟩
  rw [hM] at hm
  rw [hX] at hx'
  replace h : TwoL w wc (ml M) (el X) := by rw [← hM, ← hX]; exact h
  clear hM hX bA bB bC bV bD hx hsmall
  have kem := encM_nl M hm
  have kee := encE_nl X hx'
  have krm := rencM_nl M hm
  have kre := rencE_nl X hx'
  have hbm := msg_back M hm
  have hbe := ent_back X hx'
  have hmv : (msgP (encM M)).v = .agg (ml (msgP (encM M))).toArray := rfl
  have hev : (entP (encE X)).v = .agg (el (entP (encE X))).toArray := rfl
  have hlM : (encM M).length < 900000 := by
    have h1 := hm.f
    have h2 := hm.t
    have h3 := hm.x
    unfold encM
    simp [encT_len, encL_len]
    omega
  have hlX : (encE X).length < 900000 := by
    have h1 := hx'.u
    have h2 := hx'.o
    unfold encE
    simp [encT_len, encL_len, encW_len]
    omega
  have hundm := und_msg
  have hunde := und_ent
  have hszm := ml_sz M
  have hsze := el_sz X
  have honem := ml_one M
  have honee := el_one X
  have qm := run_eql_msg M
  have qe := run_eql_ent X
  have hlm : (ml M).length = 11 := rfl
  have hle : (el X).length = 9 := rfl
  have H0 : Held w wc [BlkL (w.heap.size + 1) (el X), BlkL w.heap.size (ml M)] := by
    have h00 : Held w wc [] := ⟨fun _ h => by simp at h, h.bl⟩
    have h2 := h.lt
    exact (h00.add ⟨h.b0, by omega⟩ (stab_blk _ _)).add ⟨h.b1, by omega⟩ (stab_blk _ _)
  rw [hbm.1] at hmv
  rw [hbe.1] at hev
  obtain ⟨ms, hms⟩ : ∃ ms, ml M = ms := ⟨_, rfl⟩
  obtain ⟨es, hes⟩ : ∃ es, el X = es := ⟨_, rfl⟩
  simp only [hms] at kem krm hszm honem qm hlm H0 hmv
  simp only [hes] at kee kre hsze honee qe hle H0 hev
  obtain ⟨l1, hl1⟩ : ∃ l1, encM M = l1 := ⟨_, rfl⟩
  obtain ⟨l2, hl2⟩ : ∃ l2, encE X = l2 := ⟨_, rfl⟩
  simp only [hl1] at kem krm hbm hlM
  simp only [hl2] at kee kre hbe hlX
  obtain ⟨n1, hn1⟩ : ∃ n1, l1.length = n1 := ⟨_, rfl⟩
  obtain ⟨n2, hn2⟩ : ∃ n2, l2.length = n2 := ⟨_, rfl⟩
  simp only [hn1] at kem krm hlM
  simp only [hn2] at kee kre hlX
  clear h hms hes hl1 hl2 hn1 hn2 hm hx'
  have A0 : ∀ W, Held w W [BlkL (w.heap.size + 1) es, BlkL w.heap.size ms] → W.rangeAt w.heap.size 0 ms := fun W h => (h.get (i := 1) rfl).range
  have A1 : ∀ W, Held w W [BlkL (w.heap.size + 1) es, BlkL w.heap.size ms] → W.rangeAt (w.heap.size + 1) 0 es := fun W h => (h.get (i := 0) rfl).range
  have hS0 := H0.drew
  clear H0
  go_upto_region 7 with fail
  refine wp_region_held_drew (S := (fun W => Held w W [BlkL (w.heap.size + 1) es, BlkL w.heap.size ms])) (by kernel_rfl) (by exact hS0) ?_
  intro hHeld
  first | (refine wpAnyH_take (i := 0) (v := _) (by simp only [List.getElem?_toArray, List.getElem?_cons_zero, List.getElem?_cons_succ]; rfl) (by kernel_rfl) (by kernel_rfl) (by kernel_rfl) (by exact fun _ _ _ h => h) (yields_row (by rfl) _ rfl _ rfl ms A0 hundm rfl hszm) (by assumption) ?_; simp only [Act.put, List.setIfInBounds_toArray, List.set_cons_zero, List.set_cons_succ]) | (refine wpAnyH_take (i := 0) (v := undef) (by simp only [List.getElem?_toArray, List.getElem?_cons_zero, List.getElem?_cons_succ]; rfl) (by kernel_rfl) (by kernel_rfl) (by kernel_rfl) (by exact fun _ _ _ h => h) (Or.inr ⟨by rfl, rfl⟩) (by assumption) ?_; simp only [Act.put, List.setIfInBounds_toArray, List.set_cons_zero, List.set_cons_succ]) | fail
  first | (refine wpAnyH_take (i := 2) (v := _) (by simp only [List.getElem?_toArray, List.getElem?_cons_zero, List.getElem?_cons_succ]; rfl) (by kernel_rfl) (by kernel_rfl) (by kernel_rfl) (by exact fun _ _ _ h => h) (yields_row (by rfl) _ rfl _ rfl es A1 hunde rfl hsze) (by assumption) ?_; simp only [Act.put, List.setIfInBounds_toArray, List.set_cons_zero, List.set_cons_succ]) | (refine wpAnyH_take (i := 2) (v := undef) (by simp only [List.getElem?_toArray, List.getElem?_cons_zero, List.getElem?_cons_succ]; rfl) (by kernel_rfl) (by kernel_rfl) (by kernel_rfl) (by exact fun _ _ _ h => h) (Or.inr ⟨by rfl, rfl⟩) (by assumption) ?_; simp only [Act.put, List.setIfInBounds_toArray, List.set_cons_zero, List.set_cons_succ]) | fail
  first | (refine wpAnyH_take (i := 1) (v := undef) (by simp only [List.getElem?_toArray, List.getElem?_cons_zero, List.getElem?_cons_succ]; rfl) (by kernel_rfl) (by kernel_rfl) (by kernel_rfl) (by exact fun _ _ _ h => h) (Or.inr ⟨by rfl, rfl⟩) (by assumption) ?_; simp only [Act.put, List.setIfInBounds_toArray, List.set_cons_zero, List.set_cons_succ]) | (refine wpAnyH_ready (rs := [1]) (by kernel_rfl) (by simp) ?_; refine AllReadyH.cons (by simp only [List.getElem?_toArray, List.getElem?_cons_zero, List.getElem?_cons_succ]; rfl) (fun K hK => ?_) AllReadyH.nil; go_simp; (first | (go_at_call 21; refine (kem _).mono ?_; rintro e w5 ⟨a1, cap1, rfl, hac1, hnc1, hby1, hB5⟩; have hS0 := hS0.then hB5) | (go_at_call 22; refine (kee _).mono ?_; rintro e w6 ⟨a2, cap2, rfl, hac2, hnc2, hby2, hB6⟩; have hS0 := hS0.then hB6; replace hby1 := hby1.below hB6)); refine hK.out _ _ (by exact hS0) ?_; clear hHeld hK; intro hHeld; (try simp only [Act.put, List.setIfInBounds_toArray, List.set_cons_zero, List.set_cons_succ])) | fail
  first | (refine wpAnyH_take (i := 3) (v := undef) (by simp only [List.getElem?_toArray, List.getElem?_cons_zero, List.getElem?_cons_succ]; rfl) (by kernel_rfl) (by kernel_rfl) (by kernel_rfl) (by exact fun _ _ _ h => h) (Or.inr ⟨by rfl, rfl⟩) (by assumption) ?_; simp only [Act.put, List.setIfInBounds_toArray, List.set_cons_zero, List.set_cons_succ]) | (refine wpAnyH_ready (rs := [3]) (by kernel_rfl) (by simp) ?_; refine AllReadyH.cons (by simp only [List.getElem?_toArray, List.getElem?_cons_zero, List.getElem?_cons_succ]; rfl) (fun K hK => ?_) AllReadyH.nil; go_simp; (first | (go_at_call 21; refine (kem _).mono ?_; rintro e w5 ⟨a1, cap1, rfl, hac1, hnc1, hby1, hB5⟩; have hS0 := hS0.then hB5) | (go_at_call 22; refine (kee _).mono ?_; rintro e w6 ⟨a2, cap2, rfl, hac2, hnc2, hby2, hB6⟩; have hS0 := hS0.then hB6; replace hby1 := hby1.below hB6)); refine hK.out _ _ (by exact hS0) ?_; clear hHeld hK; intro hHeld; (try simp only [Act.put, List.setIfInBounds_toArray, List.set_cons_zero, List.set_cons_succ])) | fail
  first | (refine wpAnyH_take (i := 4) (v := ?_) (by simp only [List.getElem?_toArray, List.getElem?_cons_zero, List.getElem?_cons_succ]; rfl) (by kernel_rfl) (by kernel_rfl) (by kernel_rfl) (by exact fun _ _ _ h => h) (Or.inl ⟨by rfl, ?_⟩) (by assumption) ?_; rotate_left; (focus (intro w hSw; (try dsimp only at hSw); go_simp; try with_reducible rfl)); simp only [Act.put, List.setIfInBounds_toArray, List.set_cons_zero, List.set_cons_succ]) | (refine wpAnyH_take (i := 4) (v := undef) (by simp only [List.getElem?_toArray, List.getElem?_cons_zero, List.getElem?_cons_succ]; rfl) (by kernel_rfl) (by kernel_rfl) (by kernel_rfl) (by exact fun _ _ _ h => h) (Or.inr ⟨by rfl, rfl⟩) (by assumption) ?_; simp only [Act.put, List.setIfInBounds_toArray, List.set_cons_zero, List.set_cons_succ]) | fail
  first | (refine wpAnyH_take (i := 5) (v := ?_) (by simp only [List.getElem?_toArray, List.getElem?_cons_zero, List.getElem?_cons_succ]; rfl) (by kernel_rfl) (by kernel_rfl) (by kernel_rfl) (by exact fun _ _ _ h => h) (Or.inl ⟨by rfl, ?_⟩) (by assumption) ?_; rotate_left; (focus (intro w hSw; (try dsimp only at hSw); go_simp; try with_reducible rfl)); simp only [Act.put, List.setIfInBounds_toArray, List.set_cons_zero, List.set_cons_succ]) | (refine wpAnyH_take (i := 5) (v := undef) (by simp only [List.getElem?_toArray, List.getElem?_cons_zero, List.getElem?_cons_succ]; rfl) (by kernel_rfl) (by kernel_rfl) (by kernel_rfl) (by exact fun _ _ _ h => h) (Or.inr ⟨by rfl, rfl⟩) (by assumption) ?_; simp only [Act.put, List.setIfInBounds_toArray, List.set_cons_zero, List.set_cons_succ]) | fail
  refine wpAnyH_done (by kernel_rfl) ?_ _
  have H1 := ((hS0.add hby1 (stab_bytes a1 n1 l1)).add hby2 (stab_bytes a2 n2 l2))
  clear hS0 A0 A1 hby1 hby2 kem kee hB5 hB6
  have km := fun W h => nmsg_any a1 n1 cap1 l1 (by omega) hnc1 W h
  have ke := fun W h => nent_any a2 n2 cap2 l2 (by omega) hnc2 W h
  simp only [hbm.1, hbm.2, hmv] at km
  simp only [hbe.1, hbe.2, hev] at ke
  go_upto_region 8 with fail
  go_wp2_with fail
  refine (km _ (H1.get (i := 1) rfl)).mono ?_
  rintro e Z1 ⟨rfl, hB⟩
  have H1' := H1.then hB
  obtain ⟨Y1, hY, hth, hbk, hB2⟩ := put_new Z1 mzero 42 ms (by rw [hlm]; rfl) (by omega)
  unfold mzero at hY hth
  have H2 := (H1'.then hB2).add hbk (stab_blk Z1.heap.size ms)
  clear H1 H1' hB hB2 hbk
  go_upto_region 9 with (first | (refine wpList_store_row rfl _ _ rfl _ rfl ms rfl hth hszm honem hY ?_) | fail)
  clear hth hY
  generalize Z1.heap.size = g7 at *
  go_wp2_with fail
  refine (ke _ (H2.get (i := 1) rfl)).mono ?_
  rintro e Z2 ⟨rfl, hB⟩
  have H2' := H2.then hB
  obtain ⟨Y2, hY, hth, hbk, hB2⟩ := put_new Z2 ezero 48 es (by rw [hle]; rfl) (by omega)
  unfold ezero at hY hth
  have H3 := (H2'.then hB2).add hbk (stab_blk Z2.heap.size es)
  clear H2 H2' hB hB2 hbk
  go_upto_region 10 with (first | (refine wpList_store_row rfl _ _ rfl _ rfl es rfl hth hsze honee hY ?_) | fail)
  clear hth hY km ke hbm hbe hmv hev
  generalize Z2.heap.size = g9 at *
  obtain ⟨ks, hks⟩ : ∃ ks : List (World → Prop), ks = [BlkL g9 es, BlkL g7 ms, fun W => BytesAt W a2 n2 l2, fun W => BytesAt W a1 n1 l1, BlkL (w.heap.size + 1) es, BlkL w.heap.size ms] := ⟨_, rfl⟩
  rw [← hks] at H3
  have A0 : ∀ W, Held w W ks → W.rangeAt w.heap.size 0 ms := fun W h => by rw [hks] at h; exact (h.get (i := 5) rfl).range
  have A1 : ∀ W, Held w W ks → W.rangeAt (w.heap.size + 1) 0 es := fun W h => by rw [hks] at h; exact (h.get (i := 4) rfl).range
  have A7 : ∀ W, Held w W ks → W.rangeAt g7 0 ms := fun W h => by rw [hks] at h; exact (h.get (i := 1) rfl).range
  have A9 : ∀ W, Held w W ks → W.rangeAt g9 0 es := fun W h => by rw [hks] at h; exact (h.get (i := 0) rfl).range
  have C1 : ∀ W, Held w W ks → (convert 34 9 (.slice a1 n1 cap1)).run Try.prog W = .ok (.string ⟨l1.toArray⟩) W := fun W h => by rw [hks] at h; exact bytes_text (h.get (i := 3) rfl) hac1
  have C2 : ∀ W, Held w W ks → (convert 34 9 (.slice a2 n2 cap2)).run Try.prog W = .ok (.string ⟨l2.toArray⟩) W := fun W h => by rw [hks] at h; exact bytes_text (h.get (i := 2) rfl) hac2
  have hS0 := H3.drew
  clear hks H3
  refine wp_region_held_drew (S := (fun W => Held w W ks)) (by kernel_rfl) (by exact hS0) ?_
  intro hHeld
  first | (refine wpAnyH_take (i := 0) (v := ?_) (by simp only [List.getElem?_toArray, List.getElem?_cons_zero, List.getElem?_cons_succ]; rfl) (by kernel_rfl) (by kernel_rfl) (by kernel_rfl) (by exact fun _ _ _ h => h) (Or.inl ⟨by rfl, ?_⟩) (by assumption) ?_; rotate_left; (focus (intro w hSw; (try dsimp only at hSw); go_simp; try with_reducible rfl)); simp only [Act.put, List.setIfInBounds_toArray, List.set_cons_zero, List.set_cons_succ, Bool.not_true, Bool.not_false, Bool.or_true, Bool.or_false, Bool.true_or, Bool.false_or, BEq.rfl]) | (refine wpAnyH_take (i := 0) (v := undef) (by simp only [List.getElem?_toArray, List.getElem?_cons_zero, List.getElem?_cons_succ]; rfl) (by kernel_rfl) (by kernel_rfl) (by kernel_rfl) (by exact fun _ _ _ h => h) (Or.inr ⟨by rfl, rfl⟩) (by assumption) ?_; simp only [Act.put, List.setIfInBounds_toArray, List.set_cons_zero, List.set_cons_succ, Bool.not_true, Bool.not_false, Bool.or_true, Bool.or_false, Bool.true_or, Bool.false_or, BEq.rfl]) | fail
  first | (refine wpAnyH_take (i := 1) (v := _) (by simp only [List.getElem?_toArray, List.getElem?_cons_zero, List.getElem?_cons_succ]; rfl) (by kernel_rfl) (by kernel_rfl) (by kernel_rfl) (by exact fun _ _ _ h => h) (yields_conv (by rfl) _ rfl rfl C1) (by assumption) ?_; simp only [Act.put, List.setIfInBounds_toArray, List.set_cons_zero, List.set_cons_succ, Bool.not_true, Bool.not_false, Bool.or_true, Bool.or_false, Bool.true_or, Bool.false_or, BEq.rfl]) | (refine wpAnyH_take (i := 1) (v := undef) (by simp only [List.getElem?_toArray, List.getElem?_cons_zero, List.getElem?_cons_succ]; rfl) (by kernel_rfl) (by kernel_rfl) (by kernel_rfl) (by exact fun _ _ _ h => h) (Or.inr ⟨by rfl, rfl⟩) (by assumption) ?_; simp only [Act.put, List.setIfInBounds_toArray, List.set_cons_zero, List.set_cons_succ, Bool.not_true, Bool.not_false, Bool.or_true, Bool.or_false, Bool.true_or, Bool.false_or, BEq.rfl]) | fail
  first | (refine wpAnyH_take (i := 2) (v := _) (by simp only [List.getElem?_toArray, List.getElem?_cons_zero, List.getElem?_cons_succ]; rfl) (by kernel_rfl) (by kernel_rfl) (by kernel_rfl) (by exact fun _ _ _ h => h) (yields_row (by rfl) _ rfl _ rfl ms A0 hundm rfl hszm) (by assumption) ?_; simp only [Act.put, List.setIfInBounds_toArray, List.set_cons_zero, List.set_cons_succ, Bool.not_true, Bool.not_false, Bool.or_true, Bool.or_false, Bool.true_or, Bool.false_or, BEq.rfl]) | (refine wpAnyH_take (i := 2) (v := undef) (by simp only [List.getElem?_toArray, List.getElem?_cons_zero, List.getElem?_cons_succ]; rfl) (by kernel_rfl) (by kernel_rfl) (by kernel_rfl) (by exact fun _ _ _ h => h) (Or.inr ⟨by rfl, rfl⟩) (by assumption) ?_; simp only [Act.put, List.setIfInBounds_toArray, List.set_cons_zero, List.set_cons_succ, Bool.not_true, Bool.not_false, Bool.or_true, Bool.or_false, Bool.true_or, Bool.false_or, BEq.rfl]) | fail
  first | (refine wpAnyH_take (i := 3) (v := undef) (by simp only [List.getElem?_toArray, List.getElem?_cons_zero, List.getElem?_cons_succ]; rfl) (by kernel_rfl) (by kernel_rfl) (by kernel_rfl) (by exact fun _ _ _ h => h) (Or.inr ⟨by rfl, rfl⟩) (by assumption) ?_; simp only [Act.put, List.setIfInBounds_toArray, List.set_cons_zero, List.set_cons_succ, Bool.not_true, Bool.not_false, Bool.or_true, Bool.or_false, Bool.true_or, Bool.false_or, BEq.rfl]) | (refine wpAnyH_ready (rs := [3]) (by kernel_rfl) (by simp) ?_; refine AllReadyH.cons (by simp only [List.getElem?_toArray, List.getElem?_cons_zero, List.getElem?_cons_succ]; rfl) (fun K hK => ?_) AllReadyH.nil; go_simp; (first | (go_at_call 25; refine (krm _).mono ?_; rintro e w5 ⟨a5, cap5, rfl, hac5, -, hby5, hB5⟩; have hS0 := hS0.then hB5; have hct5 := bytes_text hby5 hac5) | (go_at_call 26; refine (kre _).mono ?_; rintro e w6 ⟨a6, cap6, rfl, hac6, -, hby6, hB6⟩; have hS0 := hS0.then hB6; have hct6 := bytes_text hby6 hac6)); refine hK.out _ _ (by exact hS0) ?_; clear hHeld hK; intro hHeld; (try simp only [Act.put, List.setIfInBounds_toArray, List.set_cons_zero, List.set_cons_succ, Bool.not_true, Bool.not_false, Bool.or_true, Bool.or_false, Bool.true_or, Bool.false_or, BEq.rfl])) | fail
  refine wpAnyH_ready (rs := [4]) (by kernel_rfl) (by simp) ?_; refine AllReadyH.cons (by simp only [List.getElem?_toArray, List.getElem?_cons_zero, List.getElem?_cons_succ]; rfl) (fun K hK => ?_) AllReadyH.nil; go_simp; refine hK.out _ _ (by exact hS0) ?_; clear hHeld hK; intro hHeld; (try simp only [Act.put, List.setIfInBounds_toArray, List.set_cons_zero, List.set_cons_succ, Bool.not_true, Bool.not_false, Bool.or_true, Bool.or_false, Bool.true_or, Bool.false_or, BEq.rfl])
  first | (refine wpAnyH_take (i := 5) (v := ?_) (by simp only [List.getElem?_toArray, List.getElem?_cons_zero, List.getElem?_cons_succ]; rfl) (by kernel_rfl) (by kernel_rfl) (by kernel_rfl) (by exact fun _ _ _ h => h) (Or.inl ⟨by rfl, ?_⟩) (by assumption) ?_; rotate_left; (focus (intro w hSw; (try dsimp only at hSw); go_simp; try with_reducible rfl)); simp only [Act.put, List.setIfInBounds_toArray, List.set_cons_zero, List.set_cons_succ, Bool.not_true, Bool.not_false, Bool.or_true, Bool.or_false, Bool.true_or, Bool.false_or, BEq.rfl]) | (refine wpAnyH_take (i := 5) (v := undef) (by simp only [List.getElem?_toArray, List.getElem?_cons_zero, List.getElem?_cons_succ]; rfl) (by kernel_rfl) (by kernel_rfl) (by kernel_rfl) (by exact fun _ _ _ h => h) (Or.inr ⟨by rfl, rfl⟩) (by assumption) ?_; simp only [Act.put, List.setIfInBounds_toArray, List.set_cons_zero, List.set_cons_succ, Bool.not_true, Bool.not_false, Bool.or_true, Bool.or_false, Bool.true_or, Bool.false_or, BEq.rfl]) | fail
  first | (refine wpAnyH_take (i := 6) (v := ?_) (by simp only [List.getElem?_toArray, List.getElem?_cons_zero, List.getElem?_cons_succ]; rfl) (by kernel_rfl) (by kernel_rfl) (by kernel_rfl) (by exact fun _ _ _ h => h) (Or.inl ⟨by rfl, ?_⟩) (by assumption) ?_; rotate_left; (focus (intro w hSw; (try dsimp only at hSw); go_simp; try with_reducible rfl)); simp only [Act.put, List.setIfInBounds_toArray, List.set_cons_zero, List.set_cons_succ, Bool.not_true, Bool.not_false, Bool.or_true, Bool.or_false, Bool.true_or, Bool.false_or, BEq.rfl]) | (refine wpAnyH_take (i := 6) (v := undef) (by simp only [List.getElem?_toArray, List.getElem?_cons_zero, List.getElem?_cons_succ]; rfl) (by kernel_rfl) (by kernel_rfl) (by kernel_rfl) (by exact fun _ _ _ h => h) (Or.inr ⟨by rfl, rfl⟩) (by assumption) ?_; simp only [Act.put, List.setIfInBounds_toArray, List.set_cons_zero, List.set_cons_succ, Bool.not_true, Bool.not_false, Bool.or_true, Bool.or_false, Bool.true_or, Bool.false_or, BEq.rfl]) | fail
  first | (refine wpAnyH_take (i := 7) (v := ?_) (by simp only [List.getElem?_toArray, List.getElem?_cons_zero, List.getElem?_cons_succ]; rfl) (by kernel_rfl) (by kernel_rfl) (by kernel_rfl) (by exact fun _ _ _ h => h) (Or.inl ⟨by rfl, ?_⟩) (by assumption) ?_; rotate_left; (focus (intro w hSw; (try dsimp only at hSw); go_simp; try with_reducible rfl)); simp only [Act.put, List.setIfInBounds_toArray, List.set_cons_zero, List.set_cons_succ, Bool.not_true, Bool.not_false, Bool.or_true, Bool.or_false, Bool.true_or, Bool.false_or, BEq.rfl]) | (refine wpAnyH_take (i := 7) (v := undef) (by simp only [List.getElem?_toArray, List.getElem?_cons_zero, List.getElem?_cons_succ]; rfl) (by kernel_rfl) (by kernel_rfl) (by kernel_rfl) (by exact fun _ _ _ h => h) (Or.inr ⟨by rfl, rfl⟩) (by assumption) ?_; simp only [Act.put, List.setIfInBounds_toArray, List.set_cons_zero, List.set_cons_succ, Bool.not_true, Bool.not_false, Bool.or_true, Bool.or_false, Bool.true_or, Bool.false_or, BEq.rfl]) | fail
  first | (refine wpAnyH_take (i := 8) (v := _) (by simp only [List.getElem?_toArray, List.getElem?_cons_zero, List.getElem?_cons_succ]; rfl) (by kernel_rfl) (by kernel_rfl) (by kernel_rfl) (by exact fun _ _ _ h => h) (yields_conv (by rfl) _ rfl rfl C2) (by assumption) ?_; simp only [Act.put, List.setIfInBounds_toArray, List.set_cons_zero, List.set_cons_succ, Bool.not_true, Bool.not_false, Bool.or_true, Bool.or_false, Bool.true_or, Bool.false_or, BEq.rfl]) | (refine wpAnyH_take (i := 8) (v := undef) (by simp only [List.getElem?_toArray, List.getElem?_cons_zero, List.getElem?_cons_succ]; rfl) (by kernel_rfl) (by kernel_rfl) (by kernel_rfl) (by exact fun _ _ _ h => h) (Or.inr ⟨by rfl, rfl⟩) (by assumption) ?_; simp only [Act.put, List.setIfInBounds_toArray, List.set_cons_zero, List.set_cons_succ, Bool.not_true, Bool.not_false, Bool.or_true, Bool.or_false, Bool.true_or, Bool.false_or, BEq.rfl]) | fail
  first | (refine wpAnyH_take (i := 9) (v := _) (by simp only [List.getElem?_toArray, List.getElem?_cons_zero, List.getElem?_cons_succ]; rfl) (by kernel_rfl) (by kernel_rfl) (by kernel_rfl) (by exact fun _ _ _ h => h) (yields_row (by rfl) _ rfl _ rfl es A1 hunde rfl hsze) (by assumption) ?_; simp only [Act.put, List.setIfInBounds_toArray, List.set_cons_zero, List.set_cons_succ, Bool.not_true, Bool.not_false, Bool.or_true, Bool.or_false, Bool.true_or, Bool.false_or, BEq.rfl]) | (refine wpAnyH_take (i := 9) (v := undef) (by simp only [List.getElem?_toArray, List.getElem?_cons_zero, List.getElem?_cons_succ]; rfl) (by kernel_rfl) (by kernel_rfl) (by kernel_rfl) (by exact fun _ _ _ h => h) (Or.inr ⟨by rfl, rfl⟩) (by assumption) ?_; simp only [Act.put, List.setIfInBounds_toArray, List.set_cons_zero, List.set_cons_succ, Bool.not_true, Bool.not_false, Bool.or_true, Bool.or_false, Bool.true_or, Bool.false_or, BEq.rfl]) | fail
  first | (refine wpAnyH_take (i := 10) (v := undef) (by simp only [List.getElem?_toArray, List.getElem?_cons_zero, List.getElem?_cons_succ]; rfl) (by kernel_rfl) (by kernel_rfl) (by kernel_rfl) (by exact fun _ _ _ h => h) (Or.inr ⟨by rfl, rfl⟩) (by assumption) ?_; simp only [Act.put, List.setIfInBounds_toArray, List.set_cons_zero, List.set_cons_succ, Bool.not_true, Bool.not_false, Bool.or_true, Bool.or_false, Bool.true_or, Bool.false_or, BEq.rfl]) | (refine wpAnyH_ready (rs := [10]) (by kernel_rfl) (by simp) ?_; refine AllReadyH.cons (by simp only [List.getElem?_toArray, List.getElem?_cons_zero, List.getElem?_cons_succ]; rfl) (fun K hK => ?_) AllReadyH.nil; go_simp; (first | (go_at_call 25; refine (krm _).mono ?_; rintro e w5 ⟨a5, cap5, rfl, hac5, -, hby5, hB5⟩; have hS0 := hS0.then hB5; have hct5 := bytes_text hby5 hac5) | (go_at_call 26; refine (kre _).mono ?_; rintro e w6 ⟨a6, cap6, rfl, hac6, -, hby6, hB6⟩; have hS0 := hS0.then hB6; have hct6 := bytes_text hby6 hac6)); refine hK.out _ _ (by exact hS0) ?_; clear hHeld hK; intro hHeld; (try simp only [Act.put, List.setIfInBounds_toArray, List.set_cons_zero, List.set_cons_succ, Bool.not_true, Bool.not_false, Bool.or_true, Bool.or_false, Bool.true_or, Bool.false_or, BEq.rfl])) | fail
  first | (refine wpAnyH_take (i := 11) (v := undef) (by simp only [List.getElem?_toArray, List.getElem?_cons_zero, List.getElem?_cons_succ]; rfl) (by kernel_rfl) (by kernel_rfl) (by kernel_rfl) (by exact fun _ _ _ h => h) (Or.inr ⟨by rfl, rfl⟩) (by assumption) ?_; simp only [Act.put, List.setIfInBounds_toArray, List.set_cons_zero, List.set_cons_succ, Bool.not_true, Bool.not_false, Bool.or_true, Bool.or_false, Bool.true_or, Bool.false_or, BEq.rfl]) | (refine wpAnyH_ready (rs := [11]) (by kernel_rfl) (by simp) ?_; refine AllReadyH.cons (by simp only [List.getElem?_toArray, List.getElem?_cons_zero, List.getElem?_cons_succ]; rfl) (fun K hK => ?_) AllReadyH.nil; go_simp; refine hK.out _ _ (by exact hS0) ?_; clear hHeld hK; intro hHeld; (try simp only [Act.put, List.setIfInBounds_toArray, List.set_cons_zero, List.set_cons_succ, Bool.not_true, Bool.not_false, Bool.or_true, Bool.or_false, Bool.true_or, Bool.false_or, BEq.rfl])) | fail
  first | (refine wpAnyH_take (i := 12) (v := ?_) (by simp only [List.getElem?_toArray, List.getElem?_cons_zero, List.getElem?_cons_succ]; rfl) (by kernel_rfl) (by kernel_rfl) (by kernel_rfl) (by exact fun _ _ _ h => h) (Or.inl ⟨by rfl, ?_⟩) (by assumption) ?_; rotate_left; (focus (intro w hSw; (try dsimp only at hSw); go_simp; try with_reducible rfl)); simp only [Act.put, List.setIfInBounds_toArray, List.set_cons_zero, List.set_cons_succ, Bool.not_true, Bool.not_false, Bool.or_true, Bool.or_false, Bool.true_or, Bool.false_or, BEq.rfl]) | (refine wpAnyH_take (i := 12) (v := undef) (by simp only [List.getElem?_toArray, List.getElem?_cons_zero, List.getElem?_cons_succ]; rfl) (by kernel_rfl) (by kernel_rfl) (by kernel_rfl) (by exact fun _ _ _ h => h) (Or.inr ⟨by rfl, rfl⟩) (by assumption) ?_; simp only [Act.put, List.setIfInBounds_toArray, List.set_cons_zero, List.set_cons_succ, Bool.not_true, Bool.not_false, Bool.or_true, Bool.or_false, Bool.true_or, Bool.false_or, BEq.rfl]) | fail
  first | (refine wpAnyH_take (i := 13) (v := ?_) (by simp only [List.getElem?_toArray, List.getElem?_cons_zero, List.getElem?_cons_succ]; rfl) (by kernel_rfl) (by kernel_rfl) (by kernel_rfl) (by exact fun _ _ _ h => h) (Or.inl ⟨by rfl, ?_⟩) (by assumption) ?_; rotate_left; (focus (intro w hSw; (try dsimp only at hSw); go_simp; try with_reducible rfl)); simp only [Act.put, List.setIfInBounds_toArray, List.set_cons_zero, List.set_cons_succ, Bool.not_true, Bool.not_false, Bool.or_true, Bool.or_false, Bool.true_or, Bool.false_or, BEq.rfl]) | (refine wpAnyH_take (i := 13) (v := undef) (by simp only [List.getElem?_toArray, List.getElem?_cons_zero, List.getElem?_cons_succ]; rfl) (by kernel_rfl) (by kernel_rfl) (by kernel_rfl) (by exact fun _ _ _ h => h) (Or.inr ⟨by rfl, rfl⟩) (by assumption) ?_; simp only [Act.put, List.setIfInBounds_toArray, List.set_cons_zero, List.set_cons_succ, Bool.not_true, Bool.not_false, Bool.or_true, Bool.or_false, Bool.true_or, Bool.false_or, BEq.rfl]) | fail
  first | (refine wpAnyH_take (i := 14) (v := ?_) (by simp only [List.getElem?_toArray, List.getElem?_cons_zero, List.getElem?_cons_succ]; rfl) (by kernel_rfl) (by kernel_rfl) (by kernel_rfl) (by exact fun _ _ _ h => h) (Or.inl ⟨by rfl, ?_⟩) (by assumption) ?_; rotate_left; (focus (intro w hSw; (try dsimp only at hSw); go_simp; try with_reducible rfl)); simp only [Act.put, List.setIfInBounds_toArray, List.set_cons_zero, List.set_cons_succ, Bool.not_true, Bool.not_false, Bool.or_true, Bool.or_false, Bool.true_or, Bool.false_or, BEq.rfl]) | (refine wpAnyH_take (i := 14) (v := undef) (by simp only [List.getElem?_toArray, List.getElem?_cons_zero, List.getElem?_cons_succ]; rfl) (by kernel_rfl) (by kernel_rfl) (by kernel_rfl) (by exact fun _ _ _ h => h) (Or.inr ⟨by rfl, rfl⟩) (by assumption) ?_; simp only [Act.put, List.setIfInBounds_toArray, List.set_cons_zero, List.set_cons_succ, Bool.not_true, Bool.not_false, Bool.or_true, Bool.or_false, Bool.true_or, Bool.false_or, BEq.rfl]) | fail
  first | (refine wpAnyH_take (i := 15) (v := ?_) (by simp only [List.getElem?_toArray, List.getElem?_cons_zero, List.getElem?_cons_succ]; rfl) (by kernel_rfl) (by kernel_rfl) (by kernel_rfl) (by exact fun _ _ _ h => h) (Or.inl ⟨by rfl, ?_⟩) (by assumption) ?_; rotate_left; (focus (intro w hSw; (try dsimp only at hSw); go_simp; try with_reducible rfl)); simp only [Act.put, List.setIfInBounds_toArray, List.set_cons_zero, List.set_cons_succ, Bool.not_true, Bool.not_false, Bool.or_true, Bool.or_false, Bool.true_or, Bool.false_or, BEq.rfl]) | (refine wpAnyH_take (i := 15) (v := undef) (by simp only [List.getElem?_toArray, List.getElem?_cons_zero, List.getElem?_cons_succ]; rfl) (by kernel_rfl) (by kernel_rfl) (by kernel_rfl) (by exact fun _ _ _ h => h) (Or.inr ⟨by rfl, rfl⟩) (by assumption) ?_; simp only [Act.put, List.setIfInBounds_toArray, List.set_cons_zero, List.set_cons_succ, Bool.not_true, Bool.not_false, Bool.or_true, Bool.or_false, Bool.true_or, Bool.false_or, BEq.rfl]) | fail
  first | (refine wpAnyH_take (i := 16) (v := ?_) (by simp only [List.getElem?_toArray, List.getElem?_cons_zero, List.getElem?_cons_succ]; rfl) (by kernel_rfl) (by kernel_rfl) (by kernel_rfl) (by exact fun _ _ _ h => h) (Or.inl ⟨by rfl, ?_⟩) (by assumption) ?_; rotate_left; (focus (intro w hSw; (try dsimp only at hSw); go_simp; try with_reducible rfl)); simp only [Act.put, List.setIfInBounds_toArray, List.set_cons_zero, List.set_cons_succ, Bool.not_true, Bool.not_false, Bool.or_true, Bool.or_false, Bool.true_or, Bool.false_or, BEq.rfl]) | (refine wpAnyH_take (i := 16) (v := undef) (by simp only [List.getElem?_toArray, List.getElem?_cons_zero, List.getElem?_cons_succ]; rfl) (by kernel_rfl) (by kernel_rfl) (by kernel_rfl) (by exact fun _ _ _ h => h) (Or.inr ⟨by rfl, rfl⟩) (by assumption) ?_; simp only [Act.put, List.setIfInBounds_toArray, List.set_cons_zero, List.set_cons_succ, Bool.not_true, Bool.not_false, Bool.or_true, Bool.or_false, Bool.true_or, Bool.false_or, BEq.rfl]) | fail
  first | (refine wpAnyH_take (i := 17) (v := ?_) (by simp only [List.getElem?_toArray, List.getElem?_cons_zero, List.getElem?_cons_succ]; rfl) (by kernel_rfl) (by kernel_rfl) (by kernel_rfl) (by exact fun _ _ _ h => h) (Or.inl ⟨by rfl, ?_⟩) (by assumption) ?_; rotate_left; (focus (intro w hSw; (try dsimp only at hSw); go_simp; try with_reducible rfl)); simp only [Act.put, List.setIfInBounds_toArray, List.set_cons_zero, List.set_cons_succ, Bool.not_true, Bool.not_false, Bool.or_true, Bool.or_false, Bool.true_or, Bool.false_or, BEq.rfl]) | (refine wpAnyH_take (i := 17) (v := undef) (by simp only [List.getElem?_toArray, List.getElem?_cons_zero, List.getElem?_cons_succ]; rfl) (by kernel_rfl) (by kernel_rfl) (by kernel_rfl) (by exact fun _ _ _ h => h) (Or.inr ⟨by rfl, rfl⟩) (by assumption) ?_; simp only [Act.put, List.setIfInBounds_toArray, List.set_cons_zero, List.set_cons_succ, Bool.not_true, Bool.not_false, Bool.or_true, Bool.or_false, Bool.true_or, Bool.false_or, BEq.rfl]) | fail
  first | (refine wpAnyH_take (i := 18) (v := ?_) (by simp only [List.getElem?_toArray, List.getElem?_cons_zero, List.getElem?_cons_succ]; rfl) (by kernel_rfl) (by kernel_rfl) (by kernel_rfl) (by exact fun _ _ _ h => h) (Or.inl ⟨by rfl, ?_⟩) (by assumption) ?_; rotate_left; (focus (intro w hSw; (try dsimp only at hSw); go_simp; try with_reducible rfl)); simp only [Act.put, List.setIfInBounds_toArray, List.set_cons_zero, List.set_cons_succ, Bool.not_true, Bool.not_false, Bool.or_true, Bool.or_false, Bool.true_or, Bool.false_or, BEq.rfl]) | (refine wpAnyH_take (i := 18) (v := undef) (by simp only [List.getElem?_toArray, List.getElem?_cons_zero, List.getElem?_cons_succ]; rfl) (by kernel_rfl) (by kernel_rfl) (by kernel_rfl) (by exact fun _ _ _ h => h) (Or.inr ⟨by rfl, rfl⟩) (by assumption) ?_; simp only [Act.put, List.setIfInBounds_toArray, List.set_cons_zero, List.set_cons_succ, Bool.not_true, Bool.not_false, Bool.or_true, Bool.or_false, Bool.true_or, Bool.false_or, BEq.rfl]) | fail
  first | (refine wpAnyH_take (i := 19) (v := ?_) (by simp only [List.getElem?_toArray, List.getElem?_cons_zero, List.getElem?_cons_succ]; rfl) (by kernel_rfl) (by kernel_rfl) (by kernel_rfl) (by exact fun _ _ _ h => h) (Or.inl ⟨by rfl, ?_⟩) (by assumption) ?_; rotate_left; (focus (intro w hSw; (try dsimp only at hSw); go_simp; try with_reducible rfl)); simp only [Act.put, List.setIfInBounds_toArray, List.set_cons_zero, List.set_cons_succ, Bool.not_true, Bool.not_false, Bool.or_true, Bool.or_false, Bool.true_or, Bool.false_or, BEq.rfl]) | (refine wpAnyH_take (i := 19) (v := undef) (by simp only [List.getElem?_toArray, List.getElem?_cons_zero, List.getElem?_cons_succ]; rfl) (by kernel_rfl) (by kernel_rfl) (by kernel_rfl) (by exact fun _ _ _ h => h) (Or.inr ⟨by rfl, rfl⟩) (by assumption) ?_; simp only [Act.put, List.setIfInBounds_toArray, List.set_cons_zero, List.set_cons_succ, Bool.not_true, Bool.not_false, Bool.or_true, Bool.or_false, Bool.true_or, Bool.false_or, BEq.rfl]) | fail
  first | (refine wpAnyH_take (i := 20) (v := ?_) (by simp only [List.getElem?_toArray, List.getElem?_cons_zero, List.getElem?_cons_succ]; rfl) (by kernel_rfl) (by kernel_rfl) (by kernel_rfl) (by exact fun _ _ _ h => h) (Or.inl ⟨by rfl, ?_⟩) (by assumption) ?_; rotate_left; (focus (intro w hSw; (try dsimp only at hSw); go_simp; try with_reducible rfl)); simp only [Act.put, List.setIfInBounds_toArray, List.set_cons_zero, List.set_cons_succ, Bool.not_true, Bool.not_false, Bool.or_true, Bool.or_false, Bool.true_or, Bool.false_or, BEq.rfl]) | (refine wpAnyH_take (i := 20) (v := undef) (by simp only [List.getElem?_toArray, List.getElem?_cons_zero, List.getElem?_cons_succ]; rfl) (by kernel_rfl) (by kernel_rfl) (by kernel_rfl) (by exact fun _ _ _ h => h) (Or.inr ⟨by rfl, rfl⟩) (by assumption) ?_; simp only [Act.put, List.setIfInBounds_toArray, List.set_cons_zero, List.set_cons_succ, Bool.not_true, Bool.not_false, Bool.or_true, Bool.or_false, Bool.true_or, Bool.false_or, BEq.rfl]) | fail
  first | (refine wpAnyH_take (i := 21) (v := ?_) (by simp only [List.getElem?_toArray, List.getElem?_cons_zero, List.getElem?_cons_succ]; rfl) (by kernel_rfl) (by kernel_rfl) (by kernel_rfl) (by exact fun _ _ _ h => h) (Or.inl ⟨by rfl, ?_⟩) (by assumption) ?_; rotate_left; (focus (intro w hSw; (try dsimp only at hSw); go_simp; try with_reducible rfl)); simp only [Act.put, List.setIfInBounds_toArray, List.set_cons_zero, List.set_cons_succ, Bool.not_true, Bool.not_false, Bool.or_true, Bool.or_false, Bool.true_or, Bool.false_or, BEq.rfl]) | (refine wpAnyH_take (i := 21) (v := undef) (by simp only [List.getElem?_toArray, List.getElem?_cons_zero, List.getElem?_cons_succ]; rfl) (by kernel_rfl) (by kernel_rfl) (by kernel_rfl) (by exact fun _ _ _ h => h) (Or.inr ⟨by rfl, rfl⟩) (by assumption) ?_; simp only [Act.put, List.setIfInBounds_toArray, List.set_cons_zero, List.set_cons_succ, Bool.not_true, Bool.not_false, Bool.or_true, Bool.or_false, Bool.true_or, Bool.false_or, BEq.rfl]) | fail
  first | (refine wpAnyH_take (i := 22) (v := ?_) (by simp only [List.getElem?_toArray, List.getElem?_cons_zero, List.getElem?_cons_succ]; rfl) (by kernel_rfl) (by kernel_rfl) (by kernel_rfl) (by exact fun _ _ _ h => h) (Or.inl ⟨by rfl, ?_⟩) (by assumption) ?_; rotate_left; (focus (intro w hSw; (try dsimp only at hSw); go_simp; try with_reducible rfl)); simp only [Act.put, List.setIfInBounds_toArray, List.set_cons_zero, List.set_cons_succ, Bool.not_true, Bool.not_false, Bool.or_true, Bool.or_false, Bool.true_or, Bool.false_or, BEq.rfl]) | (refine wpAnyH_take (i := 22) (v := undef) (by simp only [List.getElem?_toArray, List.getElem?_cons_zero, List.getElem?_cons_succ]; rfl) (by kernel_rfl) (by kernel_rfl) (by kernel_rfl) (by exact fun _ _ _ h => h) (Or.inr ⟨by rfl, rfl⟩) (by assumption) ?_; simp only [Act.put, List.setIfInBounds_toArray, List.set_cons_zero, List.set_cons_succ, Bool.not_true, Bool.not_false, Bool.or_true, Bool.or_false, Bool.true_or, Bool.false_or, BEq.rfl]) | fail
  first | (refine wpAnyH_take (i := 23) (v := _) (by simp only [List.getElem?_toArray, List.getElem?_cons_zero, List.getElem?_cons_succ]; rfl) (by kernel_rfl) (by kernel_rfl) (by kernel_rfl) (by exact fun _ _ _ h => h) (yields_row (by rfl) _ rfl _ rfl ms A7 hundm rfl hszm) (by assumption) ?_; simp only [Act.put, List.setIfInBounds_toArray, List.set_cons_zero, List.set_cons_succ, Bool.not_true, Bool.not_false, Bool.or_true, Bool.or_false, Bool.true_or, Bool.false_or, BEq.rfl]) | (refine wpAnyH_take (i := 23) (v := undef) (by simp only [List.getElem?_toArray, List.getElem?_cons_zero, List.getElem?_cons_succ]; rfl) (by kernel_rfl) (by kernel_rfl) (by kernel_rfl) (by exact fun _ _ _ h => h) (Or.inr ⟨by rfl, rfl⟩) (by assumption) ?_; simp only [Act.put, List.setIfInBounds_toArray, List.set_cons_zero, List.set_cons_succ, Bool.not_true, Bool.not_false, Bool.or_true, Bool.or_false, Bool.true_or, Bool.false_or, BEq.rfl]) | fail
  first | (refine wpAnyH_take (i := 24) (v := _) (by simp only [List.getElem?_toArray, List.getElem?_cons_zero, List.getElem?_cons_succ]; rfl) (by kernel_rfl) (by kernel_rfl) (by kernel_rfl) (by exact fun _ _ _ h => h) (yields_row (by rfl) _ rfl _ rfl ms A0 hundm rfl hszm) (by assumption) ?_; simp only [Act.put, List.setIfInBounds_toArray, List.set_cons_zero, List.set_cons_succ, Bool.not_true, Bool.not_false, Bool.or_true, Bool.or_false, Bool.true_or, Bool.false_or, BEq.rfl]) | (refine wpAnyH_take (i := 24) (v := undef) (by simp only [List.getElem?_toArray, List.getElem?_cons_zero, List.getElem?_cons_succ]; rfl) (by kernel_rfl) (by kernel_rfl) (by kernel_rfl) (by exact fun _ _ _ h => h) (Or.inr ⟨by rfl, rfl⟩) (by assumption) ?_; simp only [Act.put, List.setIfInBounds_toArray, List.set_cons_zero, List.set_cons_succ, Bool.not_true, Bool.not_false, Bool.or_true, Bool.or_false, Bool.true_or, Bool.false_or, BEq.rfl]) | fail
  first | (refine wpAnyH_take (i := 25) (v := ?_) (by simp only [List.getElem?_toArray, List.getElem?_cons_zero, List.getElem?_cons_succ]; rfl) (by kernel_rfl) (by kernel_rfl) (by kernel_rfl) (by exact fun _ _ _ h => h) (Or.inl ⟨by rfl, ?_⟩) (by assumption) ?_; rotate_left; (focus (intro w hSw; (try dsimp only at hSw); go_simp; try with_reducible rfl)); simp only [Act.put, List.setIfInBounds_toArray, List.set_cons_zero, List.set_cons_succ, Bool.not_true, Bool.not_false, Bool.or_true, Bool.or_false, Bool.true_or, Bool.false_or, BEq.rfl]) | (refine wpAnyH_take (i := 25) (v := undef) (by simp only [List.getElem?_toArray, List.getElem?_cons_zero, List.getElem?_cons_succ]; rfl) (by kernel_rfl) (by kernel_rfl) (by kernel_rfl) (by exact fun _ _ _ h => h) (Or.inr ⟨by rfl, rfl⟩) (by assumption) ?_; simp only [Act.put, List.setIfInBounds_toArray, List.set_cons_zero, List.set_cons_succ, Bool.not_true, Bool.not_false, Bool.or_true, Bool.or_false, Bool.true_or, Bool.false_or, BEq.rfl]) | fail
  first | (refine wpAnyH_take (i := 26) (v := ?_) (by simp only [List.getElem?_toArray, List.getElem?_cons_zero, List.getElem?_cons_succ]; rfl) (by kernel_rfl) (by kernel_rfl) (by kernel_rfl) (by exact fun _ _ _ h => h) (Or.inl ⟨by rfl, ?_⟩) (by assumption) ?_; rotate_left; (focus (intro w hSw; (try dsimp only at hSw); go_simp; try with_reducible rfl)); simp only [Act.put, List.setIfInBounds_toArray, List.set_cons_zero, List.set_cons_succ, Bool.not_true, Bool.not_false, Bool.or_true, Bool.or_false, Bool.true_or, Bool.false_or, BEq.rfl]) | (refine wpAnyH_take (i := 26) (v := undef) (by simp only [List.getElem?_toArray, List.getElem?_cons_zero, List.getElem?_cons_succ]; rfl) (by kernel_rfl) (by kernel_rfl) (by kernel_rfl) (by exact fun _ _ _ h => h) (Or.inr ⟨by rfl, rfl⟩) (by assumption) ?_; simp only [Act.put, List.setIfInBounds_toArray, List.set_cons_zero, List.set_cons_succ, Bool.not_true, Bool.not_false, Bool.or_true, Bool.or_false, Bool.true_or, Bool.false_or, BEq.rfl]) | fail
  first | (refine wpAnyH_take (i := 27) (v := ?_) (by simp only [List.getElem?_toArray, List.getElem?_cons_zero, List.getElem?_cons_succ]; rfl) (by kernel_rfl) (by kernel_rfl) (by kernel_rfl) (by exact fun _ _ _ h => h) (Or.inl ⟨by rfl, ?_⟩) (by assumption) ?_; rotate_left; (focus (intro w hSw; (try dsimp only at hSw); go_simp; try with_reducible rfl)); simp only [Act.put, List.setIfInBounds_toArray, List.set_cons_zero, List.set_cons_succ, Bool.not_true, Bool.not_false, Bool.or_true, Bool.or_false, Bool.true_or, Bool.false_or, BEq.rfl]) | (refine wpAnyH_take (i := 27) (v := undef) (by simp only [List.getElem?_toArray, List.getElem?_cons_zero, List.getElem?_cons_succ]; rfl) (by kernel_rfl) (by kernel_rfl) (by kernel_rfl) (by exact fun _ _ _ h => h) (Or.inr ⟨by rfl, rfl⟩) (by assumption) ?_; simp only [Act.put, List.setIfInBounds_toArray, List.set_cons_zero, List.set_cons_succ, Bool.not_true, Bool.not_false, Bool.or_true, Bool.or_false, Bool.true_or, Bool.false_or, BEq.rfl]) | fail
  first | (refine wpAnyH_take (i := 28) (v := _) (by simp only [List.getElem?_toArray, List.getElem?_cons_zero, List.getElem?_cons_succ]; rfl) (by kernel_rfl) (by kernel_rfl) (by kernel_rfl) (by exact fun _ _ _ h => h) (yields_row (by rfl) _ rfl _ rfl es A9 hunde rfl hsze) (by assumption) ?_; simp only [Act.put, List.setIfInBounds_toArray, List.set_cons_zero, List.set_cons_succ, Bool.not_true, Bool.not_false, Bool.or_true, Bool.or_false, Bool.true_or, Bool.false_or, BEq.rfl]) | (refine wpAnyH_take (i := 28) (v := undef) (by simp only [List.getElem?_toArray, List.getElem?_cons_zero, List.getElem?_cons_succ]; rfl) (by kernel_rfl) (by kernel_rfl) (by kernel_rfl) (by exact fun _ _ _ h => h) (Or.inr ⟨by rfl, rfl⟩) (by assumption) ?_; simp only [Act.put, List.setIfInBounds_toArray, List.set_cons_zero, List.set_cons_succ, Bool.not_true, Bool.not_false, Bool.or_true, Bool.or_false, Bool.true_or, Bool.false_or, BEq.rfl]) | fail
  first | (refine wpAnyH_take (i := 29) (v := _) (by simp only [List.getElem?_toArray, List.getElem?_cons_zero, List.getElem?_cons_succ]; rfl) (by kernel_rfl) (by kernel_rfl) (by kernel_rfl) (by exact fun _ _ _ h => h) (yields_row (by rfl) _ rfl _ rfl es A1 hunde rfl hsze) (by assumption) ?_; simp only [Act.put, List.setIfInBounds_toArray, List.set_cons_zero, List.set_cons_succ, Bool.not_true, Bool.not_false, Bool.or_true, Bool.or_false, Bool.true_or, Bool.false_or, BEq.rfl]) | (refine wpAnyH_take (i := 29) (v := undef) (by simp only [List.getElem?_toArray, List.getElem?_cons_zero, List.getElem?_cons_succ]; rfl) (by kernel_rfl) (by kernel_rfl) (by kernel_rfl) (by exact fun _ _ _ h => h) (Or.inr ⟨by rfl, rfl⟩) (by assumption) ?_; simp only [Act.put, List.setIfInBounds_toArray, List.set_cons_zero, List.set_cons_succ, Bool.not_true, Bool.not_false, Bool.or_true, Bool.or_false, Bool.true_or, Bool.false_or, BEq.rfl]) | fail
  first | (refine wpAnyH_take (i := 30) (v := ?_) (by simp only [List.getElem?_toArray, List.getElem?_cons_zero, List.getElem?_cons_succ]; rfl) (by kernel_rfl) (by kernel_rfl) (by kernel_rfl) (by exact fun _ _ _ h => h) (Or.inl ⟨by rfl, ?_⟩) (by assumption) ?_; rotate_left; (focus (intro w hSw; (try dsimp only at hSw); go_simp; try with_reducible rfl)); simp only [Act.put, List.setIfInBounds_toArray, List.set_cons_zero, List.set_cons_succ, Bool.not_true, Bool.not_false, Bool.or_true, Bool.or_false, Bool.true_or, Bool.false_or, BEq.rfl]) | (refine wpAnyH_take (i := 30) (v := undef) (by simp only [List.getElem?_toArray, List.getElem?_cons_zero, List.getElem?_cons_succ]; rfl) (by kernel_rfl) (by kernel_rfl) (by kernel_rfl) (by exact fun _ _ _ h => h) (Or.inr ⟨by rfl, rfl⟩) (by assumption) ?_; simp only [Act.put, List.setIfInBounds_toArray, List.set_cons_zero, List.set_cons_succ, Bool.not_true, Bool.not_false, Bool.or_true, Bool.or_false, Bool.true_or, Bool.false_or, BEq.rfl]) | fail
  first | (refine wpAnyH_take (i := 31) (v := ?_) (by simp only [List.getElem?_toArray, List.getElem?_cons_zero, List.getElem?_cons_succ]; rfl) (by kernel_rfl) (by kernel_rfl) (by kernel_rfl) (by exact fun _ _ _ h => h) (Or.inl ⟨by rfl, ?_⟩) (by assumption) ?_; rotate_left; (focus (intro w hSw; (try dsimp only at hSw); go_simp; try with_reducible rfl)); simp only [Act.put, List.setIfInBounds_toArray, List.set_cons_zero, List.set_cons_succ, Bool.not_true, Bool.not_false, Bool.or_true, Bool.or_false, Bool.true_or, Bool.false_or, BEq.rfl]) | (refine wpAnyH_take (i := 31) (v := undef) (by simp only [List.getElem?_toArray, List.getElem?_cons_zero, List.getElem?_cons_succ]; rfl) (by kernel_rfl) (by kernel_rfl) (by kernel_rfl) (by exact fun _ _ _ h => h) (Or.inr ⟨by rfl, rfl⟩) (by assumption) ?_; simp only [Act.put, List.setIfInBounds_toArray, List.set_cons_zero, List.set_cons_succ, Bool.not_true, Bool.not_false, Bool.or_true, Bool.or_false, Bool.true_or, Bool.false_or, BEq.rfl]) | fail
  first | (refine wpAnyH_take (i := 32) (v := ?_) (by simp only [List.getElem?_toArray, List.getElem?_cons_zero, List.getElem?_cons_succ]; rfl) (by kernel_rfl) (by kernel_rfl) (by kernel_rfl) (by exact fun _ _ _ h => h) (Or.inl ⟨by rfl, ?_⟩) (by assumption) ?_; rotate_left; (focus (intro w hSw; (try dsimp only at hSw); go_simp; try with_reducible rfl)); simp only [Act.put, List.setIfInBounds_toArray, List.set_cons_zero, List.set_cons_succ, Bool.not_true, Bool.not_false, Bool.or_true, Bool.or_false, Bool.true_or, Bool.false_or, BEq.rfl]) | (refine wpAnyH_take (i := 32) (v := undef) (by simp only [List.getElem?_toArray, List.getElem?_cons_zero, List.getElem?_cons_succ]; rfl) (by kernel_rfl) (by kernel_rfl) (by kernel_rfl) (by exact fun _ _ _ h => h) (Or.inr ⟨by rfl, rfl⟩) (by assumption) ?_; simp only [Act.put, List.setIfInBounds_toArray, List.set_cons_zero, List.set_cons_succ, Bool.not_true, Bool.not_false, Bool.or_true, Bool.or_false, Bool.true_or, Bool.false_or, BEq.rfl]) | fail
  refine wpAnyH_done (by kernel_rfl) ?_ _
  go_wp2_with fail
  go_ret
  exact ⟨rfl, hS0.bl⟩
end Go.Proofs.Ytecleampjeebaaa
