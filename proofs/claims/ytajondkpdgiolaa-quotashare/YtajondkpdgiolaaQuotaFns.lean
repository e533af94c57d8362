/-
  PACKAGE quota AS IT LANDED: Nodes, May.
-/
import Derived.Test.YtajondkpdgiolaaQuotaBase
namespace Go.Proofs.Ytajondkpdgiolaa
open Go.RowKit
set_option maxRecDepth 8000
set_option linter.unusedSimpArgs false
set_option linter.unusedVariables false

abbrev zNq : Array Value := #[.string ⟨#[]⟩, .bool false, .int .i64 0, .int .i64 0, .int .i64 0, .int .i64 0, .slice none 0 0, .int .i64 0, .int .i64 0, .int .i64 0, .int .i64 0, .slice none 0 0, .int .i64 0, .int .i64 0, .int .i64 0, .int .i64 0]
theorem by_at {W : World} {b : Nat} {p : PN} (h : BlkL b p.cs W) : CellsAt W ⟨b, 12, none⟩ (lab4 p.n.by_) := by
  have h0 : CellsAt W ⟨b, 0, none⟩ p.cs := fun j v hv => by
    have := (h.1 j v hv).1
    unfold Addr.add
    by_cases hj : j = 0
    · subst hj
      exact this
    · rw [if_neg hj]
      simpa using this
  have := node_by h0
  simpa using this
set_option maxHeartbeats 2000000 in
theorem qnodes_any (a : Option Addr) (cap : Nat) (l : List PN) (b : Lab) (w : World) (hl : l.length ≤ 1000) (h : RowAt 16 PN.cs w a l) :
    Calls Try.prog 10 #[.slice a l.length cap, b.v] w fun e w' => e = .returned (.int .i64 ((cntBy (namesP l) b : Nat) : Int)) ∧ Below w.heap.size w w' := by
  have hund := Try.underlying25
  have hsl : (Try.prog.info? 25).map (·.size) = some 4 := by kernel_rfl
  have hundN := Try.underlying36
  have hsn : (Try.prog.info? 36).map (·.size) = some 16 := by kernel_rfl
  have hb0 := blkl_alloc w (lab4 b).toArray 25
  have hB0 := alloc_below w (.cells (lab4 b).toArray 25)
  obtain ⟨R, hR⟩ : ∃ R, cntBy (namesP l) b = R := ⟨_, rfl⟩
  rw [hR]
  replace hR : Aside (cntBy (namesP l) b = R) := hR
  obtain ⟨n, hn⟩ : ∃ n, l.length = n := ⟨_, rfl⟩
  rw [hn] at hl ⊢
  replace hn : Aside (l.length = n) := hn
  go_enter Try.func10, Try.ntmps10
  go_wp2_with fail
  generalize w.alloc (.cells #[.int .i64 b.s, .int .i64 b.c, .int .i64 b.i, .int .i64 b.k] 25) = W0 at *
  go_loopw [5, 10] (fun t5 t6 wr => ∃ i q : Nat, i ≤ n ∧ q ≤ i ∧ t6 = .int .i64 (i : Int) ∧ t5 = .int .i64 (q : Int) ∧ Aside (((namesP l).take i).countP (fun x => labEq x.by_ b) = q) ∧ Below W0.heap.size W0 wr) (fun _ t6 _ => n - (Go.RowKit.intOf t6).toNat)
  case atStart => exact ⟨0, 0, by omega, by omega, rfl, rfl, rfl, Below.refl _ _⟩
  case round =>
    obtain ⟨i, q, hi, hqi, rfl, rfl, hq, hB⟩ := hrel
    by_cases hlt : i < n
    · obtain ⟨x, hx⟩ : ∃ x, l[i]? = some x := ⟨_, List.getElem?_eq_getElem (by rw [hn.out]; exact hlt)⟩
      have hBw := Below.then hB0 hB
      obtain ⟨y, rfl, -⟩ := h i x hx
      have hc := (h.below pn_len hBw).at pn_len hx
      have hbw := stab_blk _ _ _ _ hb0 hB
      have hct := countP_take (fun x : Nod => labEq x.by_ b) (l := namesP l) (i := i) (x := x.n) (by unfold namesP; rw [List.getElem?_map, hx]; rfl)
      rw [hq.out] at hct
      have hnq : ∀ W, (binOp .eql 25 (.agg (lab4 x.n.by_).toArray) (.agg (lab4 b).toArray)).run Try.prog W = .ok (.bool (labEq x.n.by_ b)) W := run_eql_lab x.n.by_ b
      have i1 : (i : Int) < (n : Int) := by omega
      obtain ⟨W4, hW4, hth4, hbn, hB4⟩ := put_new wr zNq 36 x.cs (by rw [pn_len]; rfl) (by rw [pn_len]; omega)
      have hby := by_at hbn
      have hrb := (stab_blk _ _ _ _ hbw hB4).range
      have hB04 := Below.then hB hB4
      have ho1 := pn_one x
      have hlx : x.cs.length = 16 := pn_len x
      obtain ⟨cs, hcs⟩ : ∃ cs, x.cs = cs := ⟨_, rfl⟩
      rw [hcs] at hc hW4 hth4 ho1 hlx
      have hsx : (Try.prog.info? 36).map (·.size) = some cs.length := by rw [hlx]; exact hsn
      clear hcs hbn hlx
      replace hct : Aside _ := hct
      cases he : labEq x.n.by_ b
      · rw [he] at hnq
        go_wp2_with (first | (refine wpList_load_at rfl _ rfl (y.add (i * 16)) rfl cs hc hundN rfl hsx ?_) | (refine wpList_store_row rfl _ _ rfl wr.heap.size rfl cs rfl hth4 hsx ho1 hW4 ?_) | (refine wpList_load_at rfl _ rfl ⟨wr.heap.size, 12, none⟩ rfl (lab4 x.n.by_) hby hund rfl hsl ?_) | (refine wpList_load_row rfl _ rfl w.heap.size rfl (lab4 b) hrb hund rfl hsl ?_) | fail)
        exact ⟨⟨i + 1, q, by omega, by omega, by simp, rfl, by have := hct.out; rw [he, if_neg (by decide)] at this; exact this, hB04⟩, by simp [Go.RowKit.intOf]; omega⟩
      · rw [he] at hnq
        go_wp2_with (first | (refine wpList_load_at rfl _ rfl (y.add (i * 16)) rfl cs hc hundN rfl hsx ?_) | (refine wpList_store_row rfl _ _ rfl wr.heap.size rfl cs rfl hth4 hsx ho1 hW4 ?_) | (refine wpList_load_at rfl _ rfl ⟨wr.heap.size, 12, none⟩ rfl (lab4 x.n.by_) hby hund rfl hsl ?_) | (refine wpList_load_row rfl _ rfl w.heap.size rfl (lab4 b) hrb hund rfl hsl ?_) | fail)
        exact ⟨⟨i + 1, q + 1, by omega, by omega, by simp, by simp, by have := hct.out; rw [he, if_pos rfl] at this; exact this, hB04⟩, by simp [Go.RowKit.intOf]; omega⟩
    · obtain rfl : i = n := by omega
      have hq2 := hq.out
      rw [List.take_of_length_le (by rw [show (namesP l).length = l.length from by simp [namesP], hn.out]; exact Nat.le_refl _)] at hq2
      obtain rfl : R = q := hR.out.symm.trans hq2
      clear hq2 hq hR
      go_wp2_with fail
      go_ret
      exact ⟨rfl, Below.then hB0 hB⟩
set_option maxHeartbeats 1000000 in
theorem qmay_any (a : Option Addr) (cap : Nat) (l : List PN) (b : Lab) (w : World) (hl : l.length ≤ 1000) (h : RowAt 16 PN.cs w a l) :
    Calls Try.prog 12 #[.slice a l.length cap, b.v] w fun e w' => e = .returned (.int .i64 (mayQ (cntBy (namesP l) b))) ∧ Below w.heap.size w w' := by
  have hB0 := alloc_below w (.cells (lab4 b).toArray 25)
  have kn := qnodes_any a cap l b _ hl (h.below pn_len hB0)
  obtain ⟨R, hR⟩ : ∃ R, cntBy (namesP l) b = R := ⟨_, rfl⟩
  rw [hR] at kn ⊢
  obtain ⟨M, hM⟩ : ∃ M, mayQ R = M := ⟨_, rfl⟩
  rw [hM]
  unfold mayQ at hM
  go_enter Try.func12, Try.ntmps12
  go_wp2_with fail
  refine kn.mono ?_
  rintro e W1 ⟨rfl, hB1⟩
  have hB01 := Below.then hB0 hB1
  by_cases h20 : 20 ≤ R
  · rw [if_pos h20] at hM
    subst hM
    have i1 : (20 : Int) ≤ (R : Int) := by omega
    go_wp2_with fail
    go_ret
    exact ⟨rfl, hB01⟩
  · rw [if_neg h20] at hM
    subst hM
    have i1 : ¬ (20 : Int) ≤ (R : Int) := by omega
    go_wp2_with fail
    go_ret
    exact ⟨rfl, hB01⟩
end Go.Proofs.Ytajondkpdgiolaa
