/-
  P1502: a text of an instruction with a blank more, or a byte turned, is another one's, or none: the law's walk. Written by mk_isaturns.py.
-/
import Derived.Test.YtolccbdogfmcaaaDoorIsaRowB
import Derived.Deep.CutBlock
namespace Go.Proofs.YtolccbdogfmcaaaDoor
open Go.RowKit
set_option maxRecDepth 8000
set_option linter.unusedSimpArgs false
set_option linter.unusedVariables false

section
variable {ops : Array Oper} {o : Oper} {a : Act} {w : World} {Q : Exit → Act → World → Prop}
theorem step_store_rowJ {T : TypeId} {K : Act → World → Prop} {E : Prop} {W : World} (hg : o.guard = none) (x y : Operand) (ho : o.op = .store T x y) (b : Nat) (hx : a.eval x = .pointer (some ⟨b, 0, none⟩)) (cs : List Value) (hy : a.eval y = .agg cs.toArray)
    (ht : w.there b 0 cs.length) (hi : (Tryd.prog.info? T).map (·.size) = some cs.length) (h1 : ∀ v ∈ cs, v.oneCell' = true) (hW : w.setCells b 0 cs = W) (hK : K (a.put o.dst undef) W) :
    if Region.wanted o (yielded ops a.tmps) = true then Oper.wp Tryd.prog o a w K Q else E := by
  have hw : Region.wanted o (yielded ops a.tmps) = true := by simp [Region.wanted, hg]
  rw [if_pos hw]
  exact wp_store_mid T x y ho b 0 cs.toArray hx hy ht hi (all_oneCell_toArray h1) (hW ▸ hK)
end
set_option maxRecDepth 8000 in
set_option maxHeartbeats 8000000 in
theorem isaTurns_walk {I : World → Prop} (C : IsaOk I) (i0 : Ins) (at_ by_ : Int) (hby : 0 ≤ by_ ∧ by_ < 256) (w : World) (hI : ∀ W, Below w.heap.size w W → I W) :
    Calls Tryd.prog 5 #[i0.v, .int .i64 at_, .int .u8 by_] w fun r w' => r = .returned (.bool true) ∧ Below w.heap.size w w' := by
  have hund := Tryd.underlying23
  have hsz : (Tryd.prog.info? 23).map (·.size) = some 3 := by kernel_rfl
  have hb0 := blkl_alloc w (ins3 i0).toArray 23
  have hB0 := alloc_below w (.cells (ins3 i0).toArray 23)
  replace hb0 : BlkL w.heap.size (ins3 i0) (w.alloc (.cells (ins3 i0).toArray 23)) := hb0
  have hgood := good_ins i0
  have kg := igood_any i0
  obtain ⟨i, hi⟩ : ∃ i, goodI i0 = i := ⟨_, rfl⟩
  rw [hi] at hgood
  simp only [hi] at kg
  clear hi
  have kT := fun (W : World) (h : Below w.heap.size w W) => C.text i hgood W (hI _ h)
  obtain ⟨s, hs⟩ : ∃ s, insB i = s := ⟨_, rfl⟩
  simp only [hs] at kT
  have hT : IsT s i := ⟨hgood, hs⟩
  clear hs hgood
  obtain ⟨z0, z1⟩ := text_size hT
  have kw := w15_any at_ (s.size : Int) (by omega) (by omega)
  obtain ⟨k, hk, hkk⟩ : ∃ k : Nat, k < s.size ∧ at_ % (s.size : Int) = (k : Int) := by
    have h0 := Int.emod_nonneg at_ (show (s.size : Int) ≠ 0 by omega)
    have h1 := Int.emod_lt_of_pos at_ (show (0 : Int) < (s.size : Int) by omega)
    exact ⟨(at_ % (s.size : Int)).toNat, by omega, by omega⟩
  rw [hkk] at kw
  clear hkk
  go_enter Tryd.func5, Tryd.ntmps5
  go_upto_region 1 with fail
  generalize w.alloc (.cells #[.int .i64 i0.o, .int .i64 i0.p, .int .i64 i0.n] 23) = W0 at *
  go_wp2_with fail
  refine (iknown_any C W0 (hI _ hB0)).mono ?_
  rintro e W1 ⟨rfl, hB1⟩
  replace hb0 := stab_blk _ _ _ _ hb0 hB1
  replace hB0 := Below.then hB0 hB1
  clear hB1
  have hr0 := hb0.range
  go_wp2_with (first | (refine wpList_load_row rfl _ rfl w.heap.size rfl (ins3 i0) hr0 hund rfl hsz ?_) | fail)
  refine (kg W1).mono ?_
  rintro e W2 ⟨rfl, hB2⟩
  replace hB2 := Below.then hB0 hB2
  clear hr0 hb0 hB0 kg
  go_wp2_with fail
  refine (kT W2 hB2).mono ?_
  rintro e W3 ⟨rfl, hB3⟩
  replace hB3 := Below.then hB2 hB3
  clear hB2 kT
  go_wp2_with fail
  refine (kw W3).mono ?_
  rintro e W3' ⟨rfl, hq⟩
  replace hq := hq.symm
  subst hq
  clear kw
  have hst : s = ⟨s.data.toList.toArray⟩ := by cases s; simp
  have hsl : s.data.toList.length = s.size := Array.length_toList
  obtain ⟨cap, W4, hconv, row, hb⟩ := conv_to W3 s.data.toList
  rw [← hst, hsl] at hconv
  have hB4 := Below.then hB3 hb
  have hbb : w.heap.size ≤ W3.heap.size := hB3.size
  have hc := row.cell k (by omega)
  have hf := row.free k (by omega)
  clear hb hB3
  generalize W3.heap.size = bb at *
  obtain ⟨xi, hxi, hxi0, hxi1⟩ : ∃ xi : Int, ((s.data.toList.getD k 0).toNat : Int) = xi ∧ 0 ≤ xi ∧ xi < 256 := ⟨_, rfl, by omega, by have := (s.data.toList.getD k 0).toNat_lt; omega⟩
  rw [hxi] at hc
  clear hxi
  have row5 := row.put k ((xi + by_) % 256) (by omega) (by omega)
  have hB5 := hB4.setCell (p := ⟨bb, k, none⟩) hbb (.int .u8 ((xi + by_) % 256))
  obtain ⟨l', hl'⟩ : ∃ l', s.data.toList.set k (UInt8.ofNat ((xi + by_) % 256).toNat) = l' := ⟨_, rfl⟩
  have hll : l'.length = s.size := by rw [← hl', List.length_set, hsl]
  rw [hl'] at row5
  clear hl' row hst
  obtain ⟨s', hs'⟩ : ∃ s' : ByteArray, (⟨l'.toArray⟩ : ByteArray) = s' := ⟨_, rfl⟩
  have zs' : s'.size ≤ 1000 := by rw [← hs']; show l'.toArray.size ≤ 1000; simp; omega
  have hback : ∀ W, RowB W bb l' → (convert 37 9 (.slice (some ⟨bb, 0, none⟩) s.size cap)).run Tryd.prog W = .ok (.string s') W := fun W h => by rw [← hll, ← hs']; exact conv_back W bb cap l' h
  clear hs'
  replace hll : Aside (l'.length = s.size) := hll
  replace hsl : Aside (s.data.toList.length = s.size) := hsl
  have i1 : (k : Int) < (s.size : Int) := by omega
  have i2 : ¬ (s.size : Int) ≤ (k : Int) := by omega
  have hwr : IntKind.u8.wrap (xi + by_) = (xi + by_) % 256 := by rw [IntKind.wrap_u8]
  go_upto_region 7 with fail
  generalize W4.setCell ⟨bb, k, none⟩ (.int .u8 ((xi + by_) % 256)) = W5 at *
  have hb5 := hback W5 row5
  have kp := C.parse s' zs' W5 (hI _ hB5)
  clear hc hf hB4 hconv hwr
  go_wp2_with fail
  refine kp.mono ?_
  rintro e W6 ⟨j, f, rfl, hpar, hB6⟩
  have row6 := row5.keep hB6
  replace hB6 := Below.then hB5 hB6
  have hj7 := blkl_alloc W6 (ins3 j).toArray 23
  have hB7 := alloc_below W6 (.cells (ins3 j).toArray 23)
  replace hj7 : BlkL W6.heap.size (ins3 j) (W6.alloc (.cells (ins3 j).toArray 23)) := hj7
  have row7 := row6.keep hB7
  replace hB7 := Below.then hB6 hB7
  clear hb5 kp row5 hB5 row6 hB6
  go_upto_region 8 with fail
  generalize W6.alloc (.cells #[.int .i64 j.o, .int .i64 j.p, .int .i64 j.n] 23) = Z8 at *
  generalize W6.heap.size = gx at *
  have kP2 : ∀ y : ByteArray, y.data.toList = s.data.toList.take k ++ [32, 32] ++ s.data.toList.drop k → ∀ W, Below Z8.heap.size Z8 W → Calls Tryd.prog 9 #[.string y] W fun e w' => e = .returned (.tuple #[(⟨0, 0, 0⟩ : Ins).v, .int .i64 6]) ∧ Below W.heap.size W w' := fun y hy W hb => parse_no C (by
    have e := congrArg List.length hy
    have e2 : y.data.toList.length = y.size := Array.length_toList
    have e3 := hsl.out
    simp only [List.length_append, List.length_take, List.length_drop, e2, e3, List.length_cons, List.length_nil] at e
    omega) (more_mid hT hy) W (hI _ (Below.then hB7 hb))
  have i3 : (k : Int) ≤ (s.size : Int) := by omega
  have i4 : k ≤ s.size := by omega
  obtain ⟨x1, hx1⟩ : ∃ x1, s.extract 0 k = x1 := ⟨_, rfl⟩
  obtain ⟨x2, hx2⟩ : ∃ x2, s.extract k s.size = x2 := ⟨_, rfl⟩
  have q1 : x1.data.toList = s.data.toList.take k := by
    rw [← hx1, ByteArray.data_extract, Array.toList_extract, List.extract_eq_take_drop]
    simp
  have q2 : x2.data.toList = s.data.toList.drop k := by
    rw [← hx2, ByteArray.data_extract, Array.toList_extract, List.extract_eq_take_drop]
    rw [List.take_of_length_le (by rw [List.length_drop, hsl.out]; omega)]
  have u1 : x1.size ≤ 100 := by
    have e := congrArg List.length q1
    have e2 : x1.data.toList.length = x1.size := Array.length_toList
    rw [e2, List.length_take, hsl.out] at e
    omega
  have u2 : x2.size ≤ 100 := by
    have e := congrArg List.length q2
    have e2 : x2.data.toList.length = x2.size := Array.length_toList
    rw [e2, List.length_drop, hsl.out] at e
    omega
  have u3 : ¬ 9223372036854775807 < x1.size + 2 := by omega
  have u4 : ¬ 9223372036854775807 < x1.size + 2 + x2.size := by omega
  have hy2 : (x1 ++ (⟨#[32, 32]⟩ : ByteArray) ++ x2).data.toList = s.data.toList.take k ++ [32, 32] ++ s.data.toList.drop k := by
    rw [ByteArray.data_append, ByteArray.data_append, Array.toList_append, Array.toList_append, q1, q2]
  replace kP2 := kP2 _ hy2
  clear hy2 q1 q2 u1 u2
  go_cut [12, 13] from 42 to 53 (fun s12 s13 wc => s12 = s12 ∧ s13 = .int .i64 6 ∧ Below Z8.heap.size Z8 wc)
  case first =>
    have hS0 : Below Z8.heap.size Z8 Z8.drew := (Below.refl _ _).drew
    refine wp_region_held_drew (S := (fun W => Below Z8.heap.size Z8 W)) (by kernel_rfl) (by exact hS0) ?_
    intro hHeld
    generalize Z8.drew = w0 at *
    refine wpAnyH_take (i := 0) (v := ?_) (by simp only [List.getElem?_toArray, List.getElem?_cons_zero, List.getElem?_cons_succ]; rfl) (by kernel_rfl) (by kernel_rfl) (by kernel_rfl) (by exact fun _ _ _ h => h) (Or.inl ⟨by rfl, ?_⟩) (by assumption) ?_; rotate_left; (focus (intro w hSw; (try dsimp only at hSw); go_simp; try with_reducible rfl)); (try simp only [Act.put, List.setIfInBounds_toArray, List.set_cons_zero, List.set_cons_succ])
    refine wpAnyH_take (i := 1) (v := ?_) (by simp only [List.getElem?_toArray, List.getElem?_cons_zero, List.getElem?_cons_succ]; rfl) (by kernel_rfl) (by kernel_rfl) (by kernel_rfl) (by exact fun _ _ _ h => h) (Or.inl ⟨by rfl, ?_⟩) (by assumption) ?_; rotate_left; (focus (intro w hSw; (try dsimp only at hSw); go_simp; try with_reducible rfl)); (try simp only [Act.put, List.setIfInBounds_toArray, List.set_cons_zero, List.set_cons_succ])
    refine wpAnyH_take (i := 2) (v := _) (by simp only [List.getElem?_toArray, List.getElem?_cons_zero, List.getElem?_cons_succ]; rfl) (by kernel_rfl) (by kernel_rfl) (by kernel_rfl) (by exact fun _ _ _ h => h) ((show YieldsIf Tryd.prog _ _ _ (.string x1) _ from Or.inl ⟨by rfl, fun w _ => by go_simp⟩)) (by assumption) ?_; (try simp only [Act.put, List.setIfInBounds_toArray, List.set_cons_zero, List.set_cons_succ])
    refine wpAnyH_take (i := 3) (v := ?_) (by simp only [List.getElem?_toArray, List.getElem?_cons_zero, List.getElem?_cons_succ]; rfl) (by kernel_rfl) (by kernel_rfl) (by kernel_rfl) (by exact fun _ _ _ h => h) (Or.inl ⟨by rfl, ?_⟩) (by assumption) ?_; rotate_left; (focus (intro w hSw; (try dsimp only at hSw); go_simp; try with_reducible rfl)); (try simp only [Act.put, List.setIfInBounds_toArray, List.set_cons_zero, List.set_cons_succ])
    refine wpAnyH_take (i := 4) (v := ?_) (by simp only [List.getElem?_toArray, List.getElem?_cons_zero, List.getElem?_cons_succ]; rfl) (by kernel_rfl) (by kernel_rfl) (by kernel_rfl) (by exact fun _ _ _ h => h) (Or.inl ⟨by rfl, ?_⟩) (by assumption) ?_; rotate_left; (focus (intro w hSw; (try dsimp only at hSw); go_simp; try with_reducible rfl)); (try simp only [Act.put, List.setIfInBounds_toArray, List.set_cons_zero, List.set_cons_succ])
    refine wpAnyH_take (i := 5) (v := ?_) (by simp only [List.getElem?_toArray, List.getElem?_cons_zero, List.getElem?_cons_succ]; rfl) (by kernel_rfl) (by kernel_rfl) (by kernel_rfl) (by exact fun _ _ _ h => h) (Or.inl ⟨by rfl, ?_⟩) (by assumption) ?_; rotate_left; (focus (intro w hSw; (try dsimp only at hSw); go_simp; try with_reducible rfl)); (try simp only [Act.put, List.setIfInBounds_toArray, List.set_cons_zero, List.set_cons_succ])
    refine wpAnyH_take (i := 6) (v := _) (by simp only [List.getElem?_toArray, List.getElem?_cons_zero, List.getElem?_cons_succ]; rfl) (by kernel_rfl) (by kernel_rfl) (by kernel_rfl) (by exact fun _ _ _ h => h) ((show YieldsIf Tryd.prog _ _ _ (.string x2) _ from Or.inl ⟨by rfl, fun w _ => by go_simp⟩)) (by assumption) ?_; (try simp only [Act.put, List.setIfInBounds_toArray, List.set_cons_zero, List.set_cons_succ])
    refine wpAnyH_take (i := 7) (v := ?_) (by simp only [List.getElem?_toArray, List.getElem?_cons_zero, List.getElem?_cons_succ]; rfl) (by kernel_rfl) (by kernel_rfl) (by kernel_rfl) (by exact fun _ _ _ h => h) (Or.inl ⟨by rfl, ?_⟩) (by assumption) ?_; rotate_left; (focus (intro w hSw; (try dsimp only at hSw); go_simp; try with_reducible rfl)); (try simp only [Act.put, List.setIfInBounds_toArray, List.set_cons_zero, List.set_cons_succ])
    refine wpAnyH_ready (rs := [8, 12]) (by kernel_rfl) (by simp) ?_
    refine AllReadyH.cons (by simp only [List.getElem?_toArray, List.getElem?_cons_zero, List.getElem?_cons_succ]; rfl) (fun K hK => ?_) ?_
    · go_simp
      go_at_call 9
      refine (kP2 w0 hS0).mono ?_
      rintro e w1 ⟨rfl, hb⟩
      have hS1 := Below.then hS0 hb
      refine hK.out _ _ (hS1) ?_
      clear hHeld hK
      intro hHeld
      clear hb
      (try simp only [Act.put, List.setIfInBounds_toArray, List.set_cons_zero, List.set_cons_succ])
      refine wpAnyH_take (i := 9) (v := ?_) (by simp only [List.getElem?_toArray, List.getElem?_cons_zero, List.getElem?_cons_succ]; rfl) (by kernel_rfl) (by kernel_rfl) (by kernel_rfl) (by exact fun _ _ _ h => h) (Or.inl ⟨by rfl, ?_⟩) (by assumption) ?_; rotate_left; (focus (intro w hSw; (try dsimp only at hSw); go_simp; try with_reducible rfl)); (try simp only [Act.put, List.setIfInBounds_toArray, List.set_cons_zero, List.set_cons_succ])
      refine wpAnyH_take (i := 10) (v := ?_) (by simp only [List.getElem?_toArray, List.getElem?_cons_zero, List.getElem?_cons_succ]; rfl) (by kernel_rfl) (by kernel_rfl) (by kernel_rfl) (by exact fun _ _ _ h => h) (Or.inl ⟨by rfl, ?_⟩) (by assumption) ?_; rotate_left; (focus (intro w hSw; (try dsimp only at hSw); go_simp; try with_reducible rfl)); (try simp only [Act.put, List.setIfInBounds_toArray, List.set_cons_zero, List.set_cons_succ])
      refine wpAnyH_take (i := 11) (v := ?_) (by simp only [List.getElem?_toArray, List.getElem?_cons_zero, List.getElem?_cons_succ]; rfl) (by kernel_rfl) (by kernel_rfl) (by kernel_rfl) (by exact fun _ _ _ h => h) (Or.inl ⟨by rfl, ?_⟩) (by assumption) ?_; rotate_left; (focus (intro w hSw; (try dsimp only at hSw); go_simp; try with_reducible rfl)); (try simp only [Act.put, List.setIfInBounds_toArray, List.set_cons_zero, List.set_cons_succ])
      refine wpAnyH_ready (rs := [12]) (by kernel_rfl) (by simp) ?_
      refine AllReadyH.cons (by simp only [List.getElem?_toArray, List.getElem?_cons_zero, List.getElem?_cons_succ]; rfl) (fun K hK => ?_) AllReadyH.nil
      go_simp
      refine hK.out _ _ (Below.then hS1 (alloc_below _ _)) ?_
      clear hHeld hK
      intro hHeld
      have hb := alloc_below w1 (.cells #[.int .i64 0, .int .i64 0, .int .i64 0] 23)
      have hbn2 := blkl_alloc w1 #[.int .i64 0, .int .i64 0, .int .i64 0] 23
      have hpb2 := hb
      have hS2 := Below.then hS1 hb
      generalize hwx : w1.alloc (.cells #[.int .i64 0, .int .i64 0, .int .i64 0] 23) = w2 at *
      clear hwx hb
      (try simp only [Act.put, List.setIfInBounds_toArray, List.set_cons_zero, List.set_cons_succ])
      refine wpAnyH_ready (rs := [13]) (by kernel_rfl) (by simp) ?_
      refine AllReadyH.cons (by simp only [List.getElem?_toArray, List.getElem?_cons_zero, List.getElem?_cons_succ]; rfl) (fun K hK => ?_) AllReadyH.nil
      have hthz : w2.there w1.heap.size 0 ((ins3 ⟨0, 0, 0⟩) : List Value).length := hbn2.1.there
      obtain ⟨wz, hwz⟩ : ∃ wz, w2.setCells w1.heap.size 0 (ins3 ⟨0, 0, 0⟩) = wz := ⟨_, rfl⟩
      have hbz1 : Blk wz w1.heap.size (ins3 ⟨0, 0, 0⟩) := by rw [← hwz]; exact hbn2.1.setAll rfl
      have hBz : Below w1.heap.size w1 wz := by rw [← hwz]; exact Below.cells (Nat.le_refl _) _ 0 hpb2
      have hSz := Below.then hS1 hBz
      refine step_store_rowJ rfl _ _ rfl w1.heap.size rfl ((ins3 ⟨0, 0, 0⟩)) rfl hthz hsz (ins3_one _) hwz ?_
      (try simp only [Act.put, List.setIfInBounds_toArray, List.set_cons_zero, List.set_cons_succ])
      refine hK.out _ _ (hSz) ?_
      clear hHeld hK
      intro hHeld
      (try simp only [Act.put, List.setIfInBounds_toArray, List.set_cons_zero, List.set_cons_succ])
      refine wpAnyH_take (i := 14) (v := ?_) (by simp only [List.getElem?_toArray, List.getElem?_cons_zero, List.getElem?_cons_succ]; rfl) (by kernel_rfl) (by kernel_rfl) (by kernel_rfl) (by exact fun _ _ _ h => h) (Or.inl ⟨by rfl, ?_⟩) (by assumption) ?_; rotate_left; (focus (intro w hSw; (try dsimp only at hSw); go_simp; try with_reducible rfl)); (try simp only [Act.put, List.setIfInBounds_toArray, List.set_cons_zero, List.set_cons_succ])
      refine wpAnyH_done (by kernel_rfl) ?_ _
      go_wp2_with fail
      go_meet
      exact ⟨trivial, rfl, hSz⟩
    refine AllReadyH.cons (by simp only [List.getElem?_toArray, List.getElem?_cons_zero, List.getElem?_cons_succ]; rfl) (fun K hK => ?_) AllReadyH.nil
    go_simp
    refine hK.out _ _ (Below.then hS0 (alloc_below _ _)) ?_
    clear hHeld hK
    intro hHeld
    have hb := alloc_below w0 (.cells #[.int .i64 0, .int .i64 0, .int .i64 0] 23)
    have hbn1 := blkl_alloc w0 #[.int .i64 0, .int .i64 0, .int .i64 0] 23
    have hpb1 := hb
    have hS1 := Below.then hS0 hb
    generalize hwx : w0.alloc (.cells #[.int .i64 0, .int .i64 0, .int .i64 0] 23) = w1 at *
    clear hwx hb
    (try simp only [Act.put, List.setIfInBounds_toArray, List.set_cons_zero, List.set_cons_succ])
    refine wpAnyH_ready (rs := [8]) (by kernel_rfl) (by simp) ?_
    refine AllReadyH.cons (by simp only [List.getElem?_toArray, List.getElem?_cons_zero, List.getElem?_cons_succ]; rfl) (fun K hK => ?_) AllReadyH.nil
    go_simp
    go_at_call 9
    refine (kP2 w1 hS1).mono ?_
    rintro e w2 ⟨rfl, hb⟩
    have hS2 := Below.then hS1 hb
    have hbn2 := stab_blk _ _ _ _ hbn1 hb
    have hpb2 := Below.then hpb1 hb
    refine hK.out _ _ (hS2) ?_
    clear hHeld hK
    intro hHeld
    clear hb
    (try simp only [Act.put, List.setIfInBounds_toArray, List.set_cons_zero, List.set_cons_succ])
    refine wpAnyH_take (i := 9) (v := ?_) (by simp only [List.getElem?_toArray, List.getElem?_cons_zero, List.getElem?_cons_succ]; rfl) (by kernel_rfl) (by kernel_rfl) (by kernel_rfl) (by exact fun _ _ _ h => h) (Or.inl ⟨by rfl, ?_⟩) (by assumption) ?_; rotate_left; (focus (intro w hSw; (try dsimp only at hSw); go_simp; try with_reducible rfl)); (try simp only [Act.put, List.setIfInBounds_toArray, List.set_cons_zero, List.set_cons_succ])
    refine wpAnyH_take (i := 10) (v := ?_) (by simp only [List.getElem?_toArray, List.getElem?_cons_zero, List.getElem?_cons_succ]; rfl) (by kernel_rfl) (by kernel_rfl) (by kernel_rfl) (by exact fun _ _ _ h => h) (Or.inl ⟨by rfl, ?_⟩) (by assumption) ?_; rotate_left; (focus (intro w hSw; (try dsimp only at hSw); go_simp; try with_reducible rfl)); (try simp only [Act.put, List.setIfInBounds_toArray, List.set_cons_zero, List.set_cons_succ])
    refine wpAnyH_take (i := 11) (v := ?_) (by simp only [List.getElem?_toArray, List.getElem?_cons_zero, List.getElem?_cons_succ]; rfl) (by kernel_rfl) (by kernel_rfl) (by kernel_rfl) (by exact fun _ _ _ h => h) (Or.inl ⟨by rfl, ?_⟩) (by assumption) ?_; rotate_left; (focus (intro w hSw; (try dsimp only at hSw); go_simp; try with_reducible rfl)); (try simp only [Act.put, List.setIfInBounds_toArray, List.set_cons_zero, List.set_cons_succ])
    refine wpAnyH_ready (rs := [13]) (by kernel_rfl) (by simp) ?_
    refine AllReadyH.cons (by simp only [List.getElem?_toArray, List.getElem?_cons_zero, List.getElem?_cons_succ]; rfl) (fun K hK => ?_) AllReadyH.nil
    have hthz : w2.there w0.heap.size 0 ((ins3 ⟨0, 0, 0⟩) : List Value).length := hbn2.1.there
    obtain ⟨wz, hwz⟩ : ∃ wz, w2.setCells w0.heap.size 0 (ins3 ⟨0, 0, 0⟩) = wz := ⟨_, rfl⟩
    have hbz1 : Blk wz w0.heap.size (ins3 ⟨0, 0, 0⟩) := by rw [← hwz]; exact hbn2.1.setAll rfl
    have hBz : Below w0.heap.size w0 wz := by rw [← hwz]; exact Below.cells (Nat.le_refl _) _ 0 hpb2
    have hSz := Below.then hS0 hBz
    refine step_store_rowJ rfl _ _ rfl w0.heap.size rfl ((ins3 ⟨0, 0, 0⟩)) rfl hthz hsz (ins3_one _) hwz ?_
    (try simp only [Act.put, List.setIfInBounds_toArray, List.set_cons_zero, List.set_cons_succ])
    refine hK.out _ _ (hSz) ?_
    clear hHeld hK
    intro hHeld
    (try simp only [Act.put, List.setIfInBounds_toArray, List.set_cons_zero, List.set_cons_succ])
    refine wpAnyH_take (i := 14) (v := ?_) (by simp only [List.getElem?_toArray, List.getElem?_cons_zero, List.getElem?_cons_succ]; rfl) (by kernel_rfl) (by kernel_rfl) (by kernel_rfl) (by exact fun _ _ _ h => h) (Or.inl ⟨by rfl, ?_⟩) (by assumption) ?_; rotate_left; (focus (intro w hSw; (try dsimp only at hSw); go_simp; try with_reducible rfl)); (try simp only [Act.put, List.setIfInBounds_toArray, List.set_cons_zero, List.set_cons_succ])
    refine wpAnyH_done (by kernel_rfl) ?_ _
    go_wp2_with fail
    go_meet
    exact ⟨trivial, rfl, hSz⟩
  case rest =>
  obtain ⟨-, rfl, hd⟩ := hcut
  obtain ⟨Z9, hZ9⟩ : ∃ Z9, Z9 = wc := ⟨_, rfl⟩
  rw [← hZ9] at hd ⊢
  have hj9 := stab_blk _ _ _ _ hj7 hd
  have row9 := row7.keep hd
  have hB9 := Below.then hB7 hd
  clear hZ9 hd hj7 row7 hB7 kP2 u3 u4 hx1 hx2 i1 i2 i3 i4
  have v1 : ¬ 9223372036854775807 < 1 + s.size := by omega
  have v2 : ¬ 9223372036854775807 < s.size + 1 := by omega
  have e1 : ((⟨#[32]⟩ : ByteArray) ++ s).data.toList = 32 :: s.data.toList := by
    rw [ByteArray.data_append, Array.toList_append]
    rfl
  have e2 : (s ++ (⟨#[32]⟩ : ByteArray)).data.toList = s.data.toList ++ [32] := by
    rw [ByteArray.data_append, Array.toList_append]
  have w1 : ((⟨#[32]⟩ : ByteArray) ++ s).size ≤ 1000 := by rw [ByteArray.size_append]; show 1 + s.size ≤ 1000; omega
  have w2 : (s ++ (⟨#[32]⟩ : ByteArray)).size ≤ 1000 := by rw [ByteArray.size_append]; show s.size + 1 ≤ 1000; omega
  have k9 := fun (W : World) (h : Below w.heap.size w W) => parse_no C w1 (more_front hT e1) W (hI _ h)
  have k10 := fun (W : World) (h : Below w.heap.size w W) => parse_no C w2 (more_end hT e2) W (hI _ h)
  clear e1 e2 w1 w2
  go_wp2_with fail
  refine (k9 Z9 hB9).mono ?_
  rintro e W10 ⟨rfl, hb⟩
  have hB10 := Below.then hb (alloc_below W10 (.cells #[.int .i64 0, .int .i64 0, .int .i64 0] 23))
  clear hb
  go_upto_region 10 with fail
  generalize W10.alloc (.cells #[.int .i64 0, .int .i64 0, .int .i64 0] 23) = W10' at *
  have hj10 := stab_blk _ _ _ _ hj9 hB10
  have row10 := row9.keep hB10
  replace hB10 := Below.then hB9 hB10
  clear hj9 row9 hB9 k9
  go_wp2_with fail
  refine (k10 W10' hB10).mono ?_
  rintro e W11 ⟨rfl, hb⟩
  have hB11 := Below.then hb (alloc_below W11 (.cells #[.int .i64 0, .int .i64 0, .int .i64 0] 23))
  clear hb
  go_upto_region 11 with fail
  generalize W11.alloc (.cells #[.int .i64 0, .int .i64 0, .int .i64 0] 23) = Z at *
  have hj11 := stab_blk _ _ _ _ hj10 hB11
  have row11 := row10.keep hB11
  replace hB11 := Below.then hB10 hB11
  clear hj10 row10 hB10 k10
  have hS0 : Below Z.heap.size Z Z.drew := (Below.refl _ _).drew
  rcases hpar with ⟨rfl, hP⟩ | ⟨rfl, rfl, -⟩
  · have kT := fun (W : World) (h : Below Z.heap.size Z W) => C.text j hP.1 W (hI _ (Below.then hB11 h))
    simp only [hP.2] at kT
    clear hP
    refine wp_region_held_drew (S := (fun W => Below Z.heap.size Z W)) (by kernel_rfl) (by exact hS0) ?_
    intro hHeld
    generalize Z.drew = w0 at *
    refine wpAnyH_take (i := 0) (v := ?_) (by simp only [List.getElem?_toArray, List.getElem?_cons_zero, List.getElem?_cons_succ]; rfl) (by kernel_rfl) (by kernel_rfl) (by kernel_rfl) (by exact fun _ _ _ h => h) (Or.inl ⟨by rfl, ?_⟩) (by assumption) ?_; rotate_left; (focus (intro w hSw; (try dsimp only at hSw); go_simp; try with_reducible rfl)); (try simp only [Act.put, List.setIfInBounds_toArray, List.set_cons_zero, List.set_cons_succ])
    refine wpAnyH_take (i := 1) (v := ?_) (by simp only [List.getElem?_toArray, List.getElem?_cons_zero, List.getElem?_cons_succ]; rfl) (by kernel_rfl) (by kernel_rfl) (by kernel_rfl) (by exact fun _ _ _ h => h) (Or.inl ⟨by rfl, ?_⟩) (by assumption) ?_; rotate_left; (focus (intro w hSw; (try dsimp only at hSw); go_simp; try with_reducible rfl)); (try simp only [Act.put, List.setIfInBounds_toArray, List.set_cons_zero, List.set_cons_succ])
    refine wpAnyH_take (i := 2) (v := ?_) (by simp only [List.getElem?_toArray, List.getElem?_cons_zero, List.getElem?_cons_succ]; rfl) (by kernel_rfl) (by kernel_rfl) (by kernel_rfl) (by exact fun _ _ _ h => h) (Or.inl ⟨by rfl, ?_⟩) (by assumption) ?_; rotate_left; (focus (intro w hSw; (try dsimp only at hSw); go_simp; try with_reducible rfl)); (try simp only [Act.put, List.setIfInBounds_toArray, List.set_cons_zero, List.set_cons_succ])
    refine wpAnyH_take (i := 3) (v := _) (by simp only [List.getElem?_toArray, List.getElem?_cons_zero, List.getElem?_cons_succ]; rfl) (by kernel_rfl) (by kernel_rfl) (by kernel_rfl) (by exact fun _ _ _ h => h) (yields_row (by rfl) _ rfl gx rfl (ins3 j) (fun _ q => (stab_blk _ _ _ _ hj11 q).range) hund rfl hsz) (by assumption) ?_; (try simp only [Act.put, List.setIfInBounds_toArray, List.set_cons_zero, List.set_cons_succ])
    refine wpAnyH_take (i := 5) (v := ?_) (by simp only [List.getElem?_toArray, List.getElem?_cons_zero, List.getElem?_cons_succ]; rfl) (by kernel_rfl) (by kernel_rfl) (by kernel_rfl) (by exact fun _ _ _ h => h) (Or.inl ⟨by rfl, ?_⟩) (by assumption) ?_; rotate_left; (focus (intro w hSw; (try dsimp only at hSw); go_simp; try with_reducible rfl)); (try simp only [Act.put, List.setIfInBounds_toArray, List.set_cons_zero, List.set_cons_succ])
    refine wpAnyH_take (i := 6) (v := _) (by simp only [List.getElem?_toArray, List.getElem?_cons_zero, List.getElem?_cons_succ]; rfl) (by kernel_rfl) (by kernel_rfl) (by kernel_rfl) (by exact fun _ _ _ h => h) (yields_conv (by rfl) _ rfl rfl (fun _ q => hback _ (row11.keep q))) (by assumption) ?_; (try simp only [Act.put, List.setIfInBounds_toArray, List.set_cons_zero, List.set_cons_succ])
    refine wpAnyH_ready (rs := [4]) (by kernel_rfl) (by simp) ?_
    refine AllReadyH.cons (by simp only [List.getElem?_toArray, List.getElem?_cons_zero, List.getElem?_cons_succ]; rfl) (fun K hK => ?_) AllReadyH.nil
    go_simp
    go_at_call 8
    refine (kT w0 hS0).mono ?_
    rintro e w1 ⟨rfl, hb⟩
    have hS1 := Below.then hS0 hb
    clear hb
    refine hK.out _ _ (by exact hS1) ?_
    clear hHeld hK
    intro hHeld
    (try simp only [Act.put, List.setIfInBounds_toArray, List.set_cons_zero, List.set_cons_succ])
    refine wpAnyH_take (i := 7) (v := ?_) (by simp only [List.getElem?_toArray, List.getElem?_cons_zero, List.getElem?_cons_succ]; rfl) (by kernel_rfl) (by kernel_rfl) (by kernel_rfl) (by exact fun _ _ _ h => h) (Or.inl ⟨by rfl, ?_⟩) (by assumption) ?_; rotate_left; (focus (intro w hSw; (try dsimp only at hSw); go_simp; try with_reducible rfl)); (try simp only [Act.put, List.setIfInBounds_toArray, List.set_cons_zero, List.set_cons_succ])
    refine wpAnyH_take (i := 8) (v := ?_) (by simp only [List.getElem?_toArray, List.getElem?_cons_zero, List.getElem?_cons_succ]; rfl) (by kernel_rfl) (by kernel_rfl) (by kernel_rfl) (by exact fun _ _ _ h => h) (Or.inl ⟨by rfl, ?_⟩) (by assumption) ?_; rotate_left; (focus (intro w hSw; (try dsimp only at hSw); go_simp; try with_reducible rfl)); (try simp only [Act.put, List.setIfInBounds_toArray, List.set_cons_zero, List.set_cons_succ])
    refine wpAnyH_take (i := 9) (v := ?_) (by simp only [List.getElem?_toArray, List.getElem?_cons_zero, List.getElem?_cons_succ]; rfl) (by kernel_rfl) (by kernel_rfl) (by kernel_rfl) (by exact fun _ _ _ h => h) (Or.inl ⟨by rfl, ?_⟩) (by assumption) ?_; rotate_left; (focus (intro w hSw; (try dsimp only at hSw); go_simp; try with_reducible rfl)); (try simp only [Act.put, List.setIfInBounds_toArray, List.set_cons_zero, List.set_cons_succ])
    refine wpAnyH_take (i := 10) (v := ?_) (by simp only [List.getElem?_toArray, List.getElem?_cons_zero, List.getElem?_cons_succ]; rfl) (by kernel_rfl) (by kernel_rfl) (by kernel_rfl) (by exact fun _ _ _ h => h) (Or.inl ⟨by rfl, ?_⟩) (by assumption) ?_; rotate_left; (focus (intro w hSw; (try dsimp only at hSw); go_simp; try with_reducible rfl)); (try simp only [Act.put, List.setIfInBounds_toArray, List.set_cons_zero, List.set_cons_succ])
    refine wpAnyH_take (i := 11) (v := ?_) (by simp only [List.getElem?_toArray, List.getElem?_cons_zero, List.getElem?_cons_succ]; rfl) (by kernel_rfl) (by kernel_rfl) (by kernel_rfl) (by exact fun _ _ _ h => h) (Or.inl ⟨by rfl, ?_⟩) (by assumption) ?_; rotate_left; (focus (intro w hSw; (try dsimp only at hSw); go_simp; try with_reducible rfl)); (try simp only [Act.put, List.setIfInBounds_toArray, List.set_cons_zero, List.set_cons_succ])
    refine wpAnyH_take (i := 12) (v := ?_) (by simp only [List.getElem?_toArray, List.getElem?_cons_zero, List.getElem?_cons_succ]; rfl) (by kernel_rfl) (by kernel_rfl) (by kernel_rfl) (by exact fun _ _ _ h => h) (Or.inl ⟨by rfl, ?_⟩) (by assumption) ?_; rotate_left; (focus (intro w hSw; (try dsimp only at hSw); go_simp; try with_reducible rfl)); (try simp only [Act.put, List.setIfInBounds_toArray, List.set_cons_zero, List.set_cons_succ])
    refine wpAnyH_take (i := 13) (v := ?_) (by simp only [List.getElem?_toArray, List.getElem?_cons_zero, List.getElem?_cons_succ]; rfl) (by kernel_rfl) (by kernel_rfl) (by kernel_rfl) (by exact fun _ _ _ h => h) (Or.inl ⟨by rfl, ?_⟩) (by assumption) ?_; rotate_left; (focus (intro w hSw; (try dsimp only at hSw); go_simp; try with_reducible rfl)); (try simp only [Act.put, List.setIfInBounds_toArray, List.set_cons_zero, List.set_cons_succ])
    refine wpAnyH_take (i := 14) (v := ?_) (by simp only [List.getElem?_toArray, List.getElem?_cons_zero, List.getElem?_cons_succ]; rfl) (by kernel_rfl) (by kernel_rfl) (by kernel_rfl) (by exact fun _ _ _ h => h) (Or.inl ⟨by rfl, ?_⟩) (by assumption) ?_; rotate_left; (focus (intro w hSw; (try dsimp only at hSw); go_simp; try with_reducible rfl)); (try simp only [Act.put, List.setIfInBounds_toArray, List.set_cons_zero, List.set_cons_succ])
    refine wpAnyH_take (i := 15) (v := ?_) (by simp only [List.getElem?_toArray, List.getElem?_cons_zero, List.getElem?_cons_succ]; rfl) (by kernel_rfl) (by kernel_rfl) (by kernel_rfl) (by exact fun _ _ _ h => h) (Or.inl ⟨by rfl, ?_⟩) (by assumption) ?_; rotate_left; (focus (intro w hSw; (try dsimp only at hSw); go_simp; try with_reducible rfl)); (try simp only [Act.put, List.setIfInBounds_toArray, List.set_cons_zero, List.set_cons_succ])
    refine wpAnyH_take (i := 16) (v := ?_) (by simp only [List.getElem?_toArray, List.getElem?_cons_zero, List.getElem?_cons_succ]; rfl) (by kernel_rfl) (by kernel_rfl) (by kernel_rfl) (by exact fun _ _ _ h => h) (Or.inl ⟨by rfl, ?_⟩) (by assumption) ?_; rotate_left; (focus (intro w hSw; (try dsimp only at hSw); go_simp; try with_reducible rfl)); (try simp only [Act.put, List.setIfInBounds_toArray, List.set_cons_zero, List.set_cons_succ])
    refine wpAnyH_take (i := 17) (v := ?_) (by simp only [List.getElem?_toArray, List.getElem?_cons_zero, List.getElem?_cons_succ]; rfl) (by kernel_rfl) (by kernel_rfl) (by kernel_rfl) (by exact fun _ _ _ h => h) (Or.inl ⟨by rfl, ?_⟩) (by assumption) ?_; rotate_left; (focus (intro w hSw; (try dsimp only at hSw); go_simp; try with_reducible rfl)); (try simp only [Act.put, List.setIfInBounds_toArray, List.set_cons_zero, List.set_cons_succ])
    refine wpAnyH_take (i := 18) (v := ?_) (by simp only [List.getElem?_toArray, List.getElem?_cons_zero, List.getElem?_cons_succ]; rfl) (by kernel_rfl) (by kernel_rfl) (by kernel_rfl) (by exact fun _ _ _ h => h) (Or.inl ⟨by rfl, ?_⟩) (by assumption) ?_; rotate_left; (focus (intro w hSw; (try dsimp only at hSw); go_simp; try with_reducible rfl)); (try simp only [Act.put, List.setIfInBounds_toArray, List.set_cons_zero, List.set_cons_succ])
    refine wpAnyH_take (i := 19) (v := ?_) (by simp only [List.getElem?_toArray, List.getElem?_cons_zero, List.getElem?_cons_succ]; rfl) (by kernel_rfl) (by kernel_rfl) (by kernel_rfl) (by exact fun _ _ _ h => h) (Or.inl ⟨by rfl, ?_⟩) (by assumption) ?_; rotate_left; (focus (intro w hSw; (try dsimp only at hSw); go_simp; try with_reducible rfl)); (try simp only [Act.put, List.setIfInBounds_toArray, List.set_cons_zero, List.set_cons_succ])
    refine wpAnyH_take (i := 20) (v := ?_) (by simp only [List.getElem?_toArray, List.getElem?_cons_zero, List.getElem?_cons_succ]; rfl) (by kernel_rfl) (by kernel_rfl) (by kernel_rfl) (by exact fun _ _ _ h => h) (Or.inl ⟨by rfl, ?_⟩) (by assumption) ?_; rotate_left; (focus (intro w hSw; (try dsimp only at hSw); go_simp; try with_reducible rfl)); (try simp only [Act.put, List.setIfInBounds_toArray, List.set_cons_zero, List.set_cons_succ])
    refine wpAnyH_take (i := 21) (v := ?_) (by simp only [List.getElem?_toArray, List.getElem?_cons_zero, List.getElem?_cons_succ]; rfl) (by kernel_rfl) (by kernel_rfl) (by kernel_rfl) (by exact fun _ _ _ h => h) (Or.inl ⟨by rfl, ?_⟩) (by assumption) ?_; rotate_left; (focus (intro w hSw; (try dsimp only at hSw); go_simp; try with_reducible rfl)); (try simp only [Act.put, List.setIfInBounds_toArray, List.set_cons_zero, List.set_cons_succ])
    refine wpAnyH_done (by kernel_rfl) ?_ _
    have hfin := Below.then hB11 hS1
    go_wp2_with fail
    go_ret
    exact ⟨rfl, hfin⟩
  · skip
    refine wp_region_held_drew (S := (fun W => Below Z.heap.size Z W)) (by kernel_rfl) (by exact hS0) ?_
    intro hHeld
    generalize Z.drew = w0 at *
    refine wpAnyH_take (i := 0) (v := ?_) (by simp only [List.getElem?_toArray, List.getElem?_cons_zero, List.getElem?_cons_succ]; rfl) (by kernel_rfl) (by kernel_rfl) (by kernel_rfl) (by exact fun _ _ _ h => h) (Or.inl ⟨by rfl, ?_⟩) (by assumption) ?_; rotate_left; (focus (intro w hSw; (try dsimp only at hSw); go_simp; try with_reducible rfl)); (try simp only [Act.put, List.setIfInBounds_toArray, List.set_cons_zero, List.set_cons_succ])
    refine wpAnyH_take (i := 1) (v := ?_) (by simp only [List.getElem?_toArray, List.getElem?_cons_zero, List.getElem?_cons_succ]; rfl) (by kernel_rfl) (by kernel_rfl) (by kernel_rfl) (by exact fun _ _ _ h => h) (Or.inl ⟨by rfl, ?_⟩) (by assumption) ?_; rotate_left; (focus (intro w hSw; (try dsimp only at hSw); go_simp; try with_reducible rfl)); (try simp only [Act.put, List.setIfInBounds_toArray, List.set_cons_zero, List.set_cons_succ])
    refine wpAnyH_take (i := 2) (v := ?_) (by simp only [List.getElem?_toArray, List.getElem?_cons_zero, List.getElem?_cons_succ]; rfl) (by kernel_rfl) (by kernel_rfl) (by kernel_rfl) (by exact fun _ _ _ h => h) (Or.inl ⟨by rfl, ?_⟩) (by assumption) ?_; rotate_left; (focus (intro w hSw; (try dsimp only at hSw); go_simp; try with_reducible rfl)); (try simp only [Act.put, List.setIfInBounds_toArray, List.set_cons_zero, List.set_cons_succ])
    refine wpAnyH_take (i := 3) (v := undef) (by simp only [List.getElem?_toArray, List.getElem?_cons_zero, List.getElem?_cons_succ]; rfl) (by kernel_rfl) (by kernel_rfl) (by kernel_rfl) (by exact fun _ _ _ h => h) (Or.inr ⟨by rfl, rfl⟩) (by assumption) ?_; (try simp only [Act.put, List.setIfInBounds_toArray, List.set_cons_zero, List.set_cons_succ])
    refine wpAnyH_take (i := 4) (v := undef) (by simp only [List.getElem?_toArray, List.getElem?_cons_zero, List.getElem?_cons_succ]; rfl) (by kernel_rfl) (by kernel_rfl) (by kernel_rfl) (by exact fun _ _ _ h => h) (Or.inr ⟨by rfl, rfl⟩) (by assumption) ?_; (try simp only [Act.put, List.setIfInBounds_toArray, List.set_cons_zero, List.set_cons_succ])
    refine wpAnyH_take (i := 5) (v := undef) (by simp only [List.getElem?_toArray, List.getElem?_cons_zero, List.getElem?_cons_succ]; rfl) (by kernel_rfl) (by kernel_rfl) (by kernel_rfl) (by exact fun _ _ _ h => h) (Or.inr ⟨by rfl, rfl⟩) (by assumption) ?_; (try simp only [Act.put, List.setIfInBounds_toArray, List.set_cons_zero, List.set_cons_succ])
    refine wpAnyH_take (i := 6) (v := undef) (by simp only [List.getElem?_toArray, List.getElem?_cons_zero, List.getElem?_cons_succ]; rfl) (by kernel_rfl) (by kernel_rfl) (by kernel_rfl) (by exact fun _ _ _ h => h) (Or.inr ⟨by rfl, rfl⟩) (by assumption) ?_; (try simp only [Act.put, List.setIfInBounds_toArray, List.set_cons_zero, List.set_cons_succ])
    refine wpAnyH_take (i := 7) (v := undef) (by simp only [List.getElem?_toArray, List.getElem?_cons_zero, List.getElem?_cons_succ]; rfl) (by kernel_rfl) (by kernel_rfl) (by kernel_rfl) (by exact fun _ _ _ h => h) (Or.inr ⟨by rfl, rfl⟩) (by assumption) ?_; (try simp only [Act.put, List.setIfInBounds_toArray, List.set_cons_zero, List.set_cons_succ])
    refine wpAnyH_take (i := 8) (v := ?_) (by simp only [List.getElem?_toArray, List.getElem?_cons_zero, List.getElem?_cons_succ]; rfl) (by kernel_rfl) (by kernel_rfl) (by kernel_rfl) (by exact fun _ _ _ h => h) (Or.inl ⟨by rfl, ?_⟩) (by assumption) ?_; rotate_left; (focus (intro w hSw; (try dsimp only at hSw); go_simp; try with_reducible rfl)); (try simp only [Act.put, List.setIfInBounds_toArray, List.set_cons_zero, List.set_cons_succ])
    refine wpAnyH_take (i := 9) (v := ?_) (by simp only [List.getElem?_toArray, List.getElem?_cons_zero, List.getElem?_cons_succ]; rfl) (by kernel_rfl) (by kernel_rfl) (by kernel_rfl) (by exact fun _ _ _ h => h) (Or.inl ⟨by rfl, ?_⟩) (by assumption) ?_; rotate_left; (focus (intro w hSw; (try dsimp only at hSw); go_simp; try with_reducible rfl)); (try simp only [Act.put, List.setIfInBounds_toArray, List.set_cons_zero, List.set_cons_succ])
    refine wpAnyH_take (i := 10) (v := ?_) (by simp only [List.getElem?_toArray, List.getElem?_cons_zero, List.getElem?_cons_succ]; rfl) (by kernel_rfl) (by kernel_rfl) (by kernel_rfl) (by exact fun _ _ _ h => h) (Or.inl ⟨by rfl, ?_⟩) (by assumption) ?_; rotate_left; (focus (intro w hSw; (try dsimp only at hSw); go_simp; try with_reducible rfl)); (try simp only [Act.put, List.setIfInBounds_toArray, List.set_cons_zero, List.set_cons_succ])
    refine wpAnyH_take (i := 11) (v := ?_) (by simp only [List.getElem?_toArray, List.getElem?_cons_zero, List.getElem?_cons_succ]; rfl) (by kernel_rfl) (by kernel_rfl) (by kernel_rfl) (by exact fun _ _ _ h => h) (Or.inl ⟨by rfl, ?_⟩) (by assumption) ?_; rotate_left; (focus (intro w hSw; (try dsimp only at hSw); go_simp; try with_reducible rfl)); (try simp only [Act.put, List.setIfInBounds_toArray, List.set_cons_zero, List.set_cons_succ])
    refine wpAnyH_take (i := 12) (v := ?_) (by simp only [List.getElem?_toArray, List.getElem?_cons_zero, List.getElem?_cons_succ]; rfl) (by kernel_rfl) (by kernel_rfl) (by kernel_rfl) (by exact fun _ _ _ h => h) (Or.inl ⟨by rfl, ?_⟩) (by assumption) ?_; rotate_left; (focus (intro w hSw; (try dsimp only at hSw); go_simp; try with_reducible rfl)); (try simp only [Act.put, List.setIfInBounds_toArray, List.set_cons_zero, List.set_cons_succ])
    refine wpAnyH_take (i := 13) (v := ?_) (by simp only [List.getElem?_toArray, List.getElem?_cons_zero, List.getElem?_cons_succ]; rfl) (by kernel_rfl) (by kernel_rfl) (by kernel_rfl) (by exact fun _ _ _ h => h) (Or.inl ⟨by rfl, ?_⟩) (by assumption) ?_; rotate_left; (focus (intro w hSw; (try dsimp only at hSw); go_simp; try with_reducible rfl)); (try simp only [Act.put, List.setIfInBounds_toArray, List.set_cons_zero, List.set_cons_succ])
    refine wpAnyH_take (i := 14) (v := ?_) (by simp only [List.getElem?_toArray, List.getElem?_cons_zero, List.getElem?_cons_succ]; rfl) (by kernel_rfl) (by kernel_rfl) (by kernel_rfl) (by exact fun _ _ _ h => h) (Or.inl ⟨by rfl, ?_⟩) (by assumption) ?_; rotate_left; (focus (intro w hSw; (try dsimp only at hSw); go_simp; try with_reducible rfl)); (try simp only [Act.put, List.setIfInBounds_toArray, List.set_cons_zero, List.set_cons_succ])
    refine wpAnyH_take (i := 15) (v := ?_) (by simp only [List.getElem?_toArray, List.getElem?_cons_zero, List.getElem?_cons_succ]; rfl) (by kernel_rfl) (by kernel_rfl) (by kernel_rfl) (by exact fun _ _ _ h => h) (Or.inl ⟨by rfl, ?_⟩) (by assumption) ?_; rotate_left; (focus (intro w hSw; (try dsimp only at hSw); go_simp; try with_reducible rfl)); (try simp only [Act.put, List.setIfInBounds_toArray, List.set_cons_zero, List.set_cons_succ])
    refine wpAnyH_take (i := 16) (v := ?_) (by simp only [List.getElem?_toArray, List.getElem?_cons_zero, List.getElem?_cons_succ]; rfl) (by kernel_rfl) (by kernel_rfl) (by kernel_rfl) (by exact fun _ _ _ h => h) (Or.inl ⟨by rfl, ?_⟩) (by assumption) ?_; rotate_left; (focus (intro w hSw; (try dsimp only at hSw); go_simp; try with_reducible rfl)); (try simp only [Act.put, List.setIfInBounds_toArray, List.set_cons_zero, List.set_cons_succ])
    refine wpAnyH_take (i := 17) (v := ?_) (by simp only [List.getElem?_toArray, List.getElem?_cons_zero, List.getElem?_cons_succ]; rfl) (by kernel_rfl) (by kernel_rfl) (by kernel_rfl) (by exact fun _ _ _ h => h) (Or.inl ⟨by rfl, ?_⟩) (by assumption) ?_; rotate_left; (focus (intro w hSw; (try dsimp only at hSw); go_simp; try with_reducible rfl)); (try simp only [Act.put, List.setIfInBounds_toArray, List.set_cons_zero, List.set_cons_succ])
    refine wpAnyH_take (i := 18) (v := ?_) (by simp only [List.getElem?_toArray, List.getElem?_cons_zero, List.getElem?_cons_succ]; rfl) (by kernel_rfl) (by kernel_rfl) (by kernel_rfl) (by exact fun _ _ _ h => h) (Or.inl ⟨by rfl, ?_⟩) (by assumption) ?_; rotate_left; (focus (intro w hSw; (try dsimp only at hSw); go_simp; try with_reducible rfl)); (try simp only [Act.put, List.setIfInBounds_toArray, List.set_cons_zero, List.set_cons_succ])
    refine wpAnyH_take (i := 19) (v := ?_) (by simp only [List.getElem?_toArray, List.getElem?_cons_zero, List.getElem?_cons_succ]; rfl) (by kernel_rfl) (by kernel_rfl) (by kernel_rfl) (by exact fun _ _ _ h => h) (Or.inl ⟨by rfl, ?_⟩) (by assumption) ?_; rotate_left; (focus (intro w hSw; (try dsimp only at hSw); go_simp; try with_reducible rfl)); (try simp only [Act.put, List.setIfInBounds_toArray, List.set_cons_zero, List.set_cons_succ])
    refine wpAnyH_take (i := 20) (v := ?_) (by simp only [List.getElem?_toArray, List.getElem?_cons_zero, List.getElem?_cons_succ]; rfl) (by kernel_rfl) (by kernel_rfl) (by kernel_rfl) (by exact fun _ _ _ h => h) (Or.inl ⟨by rfl, ?_⟩) (by assumption) ?_; rotate_left; (focus (intro w hSw; (try dsimp only at hSw); go_simp; try with_reducible rfl)); (try simp only [Act.put, List.setIfInBounds_toArray, List.set_cons_zero, List.set_cons_succ])
    refine wpAnyH_take (i := 21) (v := ?_) (by simp only [List.getElem?_toArray, List.getElem?_cons_zero, List.getElem?_cons_succ]; rfl) (by kernel_rfl) (by kernel_rfl) (by kernel_rfl) (by exact fun _ _ _ h => h) (Or.inl ⟨by rfl, ?_⟩) (by assumption) ?_; rotate_left; (focus (intro w hSw; (try dsimp only at hSw); go_simp; try with_reducible rfl)); (try simp only [Act.put, List.setIfInBounds_toArray, List.set_cons_zero, List.set_cons_succ])
    refine wpAnyH_done (by kernel_rfl) ?_ _
    have hfin := Below.then hB11 hS0
    go_wp2_with fail
    go_ret
    exact ⟨rfl, hfin⟩
end Go.Proofs.YtolccbdogfmcaaaDoor
