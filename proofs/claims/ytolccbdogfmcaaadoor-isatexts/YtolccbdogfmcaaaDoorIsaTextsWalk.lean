/-
  P1502, P1504: instructions are written as the document says, and read again; any text is read, or refused, as it says: the law's walk.
-/
import Derived.Test.YtolccbdogfmcaaaDoorIsaRowB
import Derived.Test.YtolccbdogfmcaaaDoorIsaRefParse
namespace Go.Proofs.YtolccbdogfmcaaaDoor
open Go.RowKit
set_option maxRecDepth 8000
set_option linter.unusedSimpArgs false
set_option linter.unusedVariables false

set_option maxRecDepth 8000 in
set_option maxHeartbeats 8000000 in
theorem isaTexts_walk {I : World → Prop} (C : IsaOk I) (i0 : Ins) (s : ByteArray) (w : World) (hI : ∀ W, Below w.heap.size w W → I W) :
    Calls Tryd.prog 3 #[i0.v, .string s] w fun r w' => r = .returned (.bool true) ∧ Below w.heap.size w w' := by
  have hund := Tryd.underlying23
  have hsz : (Tryd.prog.info? 23).map (·.size) = some 3 := by kernel_rfl
  have hb0 := blkl_alloc w (ins3 i0).toArray 23
  have hB0 := alloc_below w (.cells (ins3 i0).toArray 23)
  replace hb0 : BlkL w.heap.size (ins3 i0) (w.alloc (.cells (ins3 i0).toArray 23)) := hb0
  have hgood := good_ins i0
  have kg := igood_any i0
  obtain ⟨i, hi⟩ : ∃ i, goodI i0 = i := ⟨_, rfl⟩
  rw [hi] at hgood
  simp only [hi] at kg
  clear hi
  have kT := fun (W : World) (h : Below w.heap.size w W) => C.text i hgood W (hI _ h)
  have kR := fun (W : World) => riText_any i hgood W
  obtain ⟨t, ht⟩ : ∃ t, insB i = t := ⟨_, rfl⟩
  simp only [ht] at kT kR
  have hT : IsT t i := ⟨hgood, ht⟩
  obtain ⟨z0, z1⟩ := text_size hT
  have kP : ∀ (W : World), Below w.heap.size w W → Calls Tryd.prog 9 #[.string t] W fun e w' => e = .returned (.tuple #[i.v, .int .i64 0]) ∧ Below W.heap.size W w' := fun W h =>
    (C.parse t (by omega) W (hI _ h)).mono fun e w' ⟨j, f, he, hp, hb⟩ => by
      obtain ⟨rfl, rfl⟩ := hp.of hT
      exact ⟨he, hb⟩
  clear ht hgood hT z0 z1
  have htt : (t.toList == t.toList) = true := by simp
  have heq := run_eql_ins i i
  rw [insQ_self] at heq
  go_enter Tryd.func3, Tryd.ntmps3
  go_upto_region 1 with fail
  generalize w.alloc (.cells #[.int .i64 i0.o, .int .i64 i0.p, .int .i64 i0.n] 23) = W0 at *
  go_wp2_with fail
  refine (iknown_any C W0 (hI _ hB0)).mono ?_
  rintro e W1 ⟨rfl, hB1⟩
  replace hb0 := stab_blk _ _ _ _ hb0 hB1
  replace hB0 := Below.then hB0 hB1
  clear hB1
  by_cases h200 : 200 < s.size
  · have j0 : 200 < (s.size : Int) := by omega
    clear kg kT kR kP heq htt
    go_wp2_with fail
    go_ret
    exact ⟨rfl, hB0⟩
  have j0 : ¬ 200 < (s.size : Int) := by omega
  have kS := fun (W : World) (h : Below w.heap.size w W) => C.parse s (by omega) W (hI _ h)
  have kD := fun (W : World) => riParse_any s (by omega) W
  have hr0 := hb0.range
  go_wp2_with (first | (refine wpList_load_row rfl _ rfl w.heap.size rfl (ins3 i0) hr0 hund rfl hsz ?_) | fail)
  refine (kg W1).mono ?_
  rintro e W2 ⟨rfl, hB2⟩
  have hb2 := stab_blk _ _ _ _ hb0 hB2
  have hB02 := Below.then hB0 hB2
  obtain ⟨W3, hW3, hth3, hb3, hk3⟩ := put_box hb2 i
  have hB3 := hk3 _ _ (Nat.le_refl _) hB02
  clear hr0 hb0 hB0 hB2 hb2 hB02 hk3 kg
  have hr3 := hb3.range
  go_wp2_with (first | (refine wpList_store_row rfl _ _ rfl w.heap.size rfl (ins3 i) rfl hth3 hsz (ins3_one _) hW3 ?_) | (refine wpList_load_row rfl _ rfl w.heap.size rfl (ins3 i) hr3 hund rfl hsz ?_) | fail)
  refine (kT W3 hB3).mono ?_
  rintro e W4 ⟨rfl, hb⟩
  have hb4 := stab_blk _ _ _ _ hb3 hb
  have hB4 := Below.then hB3 hb
  clear hr3 hth3 hW3 hb3 hB3 hb kT
  go_wp2_with fail
  refine (kP W4 hB4).mono ?_
  rintro e W5 ⟨rfl, hb⟩
  have hb5 := stab_blk _ _ _ _ hb4 hb
  have hB5 := Below.then hB4 hb
  have hj6 := blkl_alloc W5 (ins3 i).toArray 23
  have hb := alloc_below W5 (.cells (ins3 i).toArray 23)
  replace hj6 : BlkL W5.heap.size (ins3 i) (W5.alloc (.cells (ins3 i).toArray 23)) := hj6
  have hb6 := stab_blk _ _ _ _ hb5 hb
  have hB6 := Below.then hB5 hb
  clear hb4 hB4 hb5 hB5 hb kP
  go_upto_region 8 with fail
  generalize W5.alloc (.cells #[.int .i64 i.o, .int .i64 i.p, .int .i64 i.n] 23) = W6 at *
  generalize W5.heap.size = g6 at *
  go_wp2_with fail
  refine (kS W6 hB6).mono ?_
  rintro e W7 ⟨m, f, rfl, hP1, hb⟩
  have hb7 := stab_blk _ _ _ _ hb6 hb
  have hj7 := stab_blk _ _ _ _ hj6 hb
  have hB7 := Below.then hB6 hb
  have hm8 := blkl_alloc W7 (ins3 m).toArray 23
  have hb := alloc_below W7 (.cells (ins3 m).toArray 23)
  replace hm8 : BlkL W7.heap.size (ins3 m) (W7.alloc (.cells (ins3 m).toArray 23)) := hm8
  have hb8 := stab_blk _ _ _ _ hb7 hb
  have hj8 := stab_blk _ _ _ _ hj7 hb
  have hB8 := Below.then hB7 hb
  clear hb6 hj6 hB6 hb7 hj7 hB7 hb kS
  go_upto_region 9 with fail
  generalize W7.alloc (.cells #[.int .i64 m.o, .int .i64 m.p, .int .i64 m.n] 23) = W8 at *
  generalize W7.heap.size = g8 at *
  go_wp2_with fail
  refine (kD W8).mono ?_
  rintro e W9 ⟨m', f', rfl, hP2, hb⟩
  obtain ⟨e1, e2⟩ := hP1.same hP2
  subst e1 e2
  clear hP2
  have hb9 := stab_blk _ _ _ _ hb8 hb
  have hj9 := stab_blk _ _ _ _ hj8 hb
  have hm9 := stab_blk _ _ _ _ hm8 hb
  have hB9 := Below.then hB8 hb
  have hn10 := blkl_alloc W9 (ins3 m).toArray 23
  have hb := alloc_below W9 (.cells (ins3 m).toArray 23)
  replace hn10 : BlkL W9.heap.size (ins3 m) (W9.alloc (.cells (ins3 m).toArray 23)) := hn10
  have hb10 := stab_blk _ _ _ _ hb9 hb
  have hj10 := stab_blk _ _ _ _ hj9 hb
  have hm10 := stab_blk _ _ _ _ hm9 hb
  have hB10 := Below.then hB9 hb
  clear hb8 hj8 hm8 hB8 hb9 hj9 hm9 hB9 hb kD
  go_upto_region 10 with fail
  generalize W9.alloc (.cells #[.int .i64 m.o, .int .i64 m.p, .int .i64 m.n] 23) = W10 at *
  generalize W9.heap.size = g10 at *
  have hr10 := hb10.range
  go_wp2_with (first | (refine wpList_load_row rfl _ rfl w.heap.size rfl (ins3 i) hr10 hund rfl hsz ?_) | fail)
  refine (kR W10).mono ?_
  rintro e W11 ⟨rfl, hb⟩
  have hrb := (stab_blk _ _ _ _ hb10 hb).range
  have hrj := (stab_blk _ _ _ _ hj10 hb).range
  have hrm := (stab_blk _ _ _ _ hm10 hb).range
  have hrn := (stab_blk _ _ _ _ hn10 hb).range
  have hB11 := Below.then hB10 hb
  clear hr10 hb hB10 kR hb10 hj10 hm10 hn10
  have heq2 := run_eql_ins m m
  rw [insQ_self] at heq2
  rcases hP1 with ⟨rfl, hP⟩ | ⟨rfl, rfl, -⟩
  · have kM := C.text m hP.1 W11 (hI _ hB11)
    rw [hP.2] at kM
    have hss : (s.toList == s.toList) = true := by simp
    clear hP
    go_wp2_with (first | (refine wpList_load_rowg (by rfl) _ rfl g6 rfl (ins3 i) hrj hund rfl hsz ?_) | (refine wpList_load_rowg (by rfl) _ rfl w.heap.size rfl (ins3 i) hrb hund rfl hsz ?_) | (refine wpList_load_rowg (by rfl) _ rfl g8 rfl (ins3 m) hrm hund rfl hsz ?_) | (refine wpList_load_rowg (by rfl) _ rfl g10 rfl (ins3 m) hrn hund rfl hsz ?_) | fail)
    refine kM.mono ?_
    rintro e W12 ⟨rfl, hb⟩
    have hfin := Below.then hB11 hb
    go_wp2_with fail
    go_ret
    exact ⟨rfl, hfin⟩
  · go_wp2_with (first | (refine wpList_load_rowg (by rfl) _ rfl g6 rfl (ins3 i) hrj hund rfl hsz ?_) | (refine wpList_load_rowg (by rfl) _ rfl w.heap.size rfl (ins3 i) hrb hund rfl hsz ?_) | (refine wpList_load_rowg (by rfl) _ rfl g8 rfl (ins3 ⟨0, 0, 0⟩) hrm hund rfl hsz ?_) | (refine wpList_load_rowg (by rfl) _ rfl g10 rfl (ins3 ⟨0, 0, 0⟩) hrn hund rfl hsz ?_) | fail)
    go_ret
    exact ⟨rfl, hB11⟩
end Go.Proofs.YtolccbdogfmcaaaDoor
