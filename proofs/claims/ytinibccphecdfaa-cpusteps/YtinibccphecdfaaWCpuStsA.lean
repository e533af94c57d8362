/-
  CpuSteps, walked in parts: the document's New; a state with its capacity; what a write may be.
-/
import Derived.Test.YtinibccphecdfaaWCpuStH
namespace Go.Proofs.Ytinibccphecdfaa
open Go.RowKit
set_option maxRecDepth 8000
set_option linter.unusedSimpArgs false
set_option linter.unusedVariables false

set_option maxRecDepth 8000 in
set_option maxHeartbeats 2000000 in
theorem rnew_any (w : World) : Calls Try.prog 15 #[] w fun e w' => e = .returned (.agg (stCs newC nilS).toArray) ∧ Below w.heap.size w w' := by
  have hundS := Try.underlying39
  have hszS : (Try.prog.info? 39).map (·.size) = some (stCs newC nilS).length := by kernel_rfl
  have hszP : (Try.prog.info? 24).map (·.size) = some 3 := by kernel_rfl
  have hr0 : StAt w.heap.size zeroC nilS (w.alloc (.cells zS 39)) := ⟨rfl, blkl_alloc w (stCs zeroC nilS).toArray 39⟩
  have hB0 := alloc_below w (.cells zS 39)
  have hsw : (w.alloc (.cells zS 39)).heap.size = w.heap.size + 1 := by simp
  obtain ⟨W1, hW1, hth1, hs1, hb1⟩ := new_st (w.alloc (.cells zS 39)) (newK 0) rfl nilS 39
  rw [hsw] at hW1 hth1 hs1
  have hr1 := hr0.keep hb1
  have hB1 := Below.then hB0 hb1
  have hone0 : ∀ u ∈ stCs (newK 0) nilS, u.oneCell' = true := st_one _ _ rfl
  have hbd : ∀ w : World, (Instr.build 39 #[(2, .int .i64 4)]).run Try.prog w = .ok (.agg (stCs (newK 0) nilS).toArray) w := fun w => by
    have h1 := Try.underlying39
    show _ = Result.ok (Value.agg #[.int .i64 0, .int .i64 0, .int .i64 4, .int .i64 0, .int .i64 0, .int .i64 0, .int .i64 0, .int .i64 0, .int .i64 0, .int .i64 0, .int .i64 0, .int .i64 0, .int .i64 0, .int .i64 0, .int .i64 0, .int .i64 0, .slice none 0 0, .bool false]) w
    go_simp
  have hszX : (Try.prog.info? 39).map (·.size) = some (stCs (newK 0) nilS).length := by kernel_rfl
  obtain ⟨X, hX⟩ : ∃ X, stCs (newK 0) nilS = X := ⟨_, rfl⟩
  simp only [hX] at hW1 hth1 hone0 hbd hszX
  clear hX hr0 hB0 hb1 hsw
  go_enter Try.func15, Try.ntmps15
  go_upto_region 2 with (first | (refine wpList_buildv rfl _ rfl #[(2, .int .i64 4)] (by simp [Act.eval]) (hbd _) ?_) | (refine wpList_store_row rfl _ _ rfl (w.heap.size + 1) rfl X rfl hth1 hszX hone0 hW1 ?_) | fail)
  clear hW1 hth1 hone0 hbd hszX
  go_wp2_with fail
  go_loopw [2] (fun t2 wr => ∃ k : Nat, k ≤ 4 ∧ t2 = .int .i64 (k : Int) ∧ StAt w.heap.size zeroC nilS wr ∧ StAt (w.heap.size + 1) (newK k) nilS wr ∧ Below w.heap.size w wr) (fun t2 _ => 4 - (Go.RowKit.intOf t2).toNat)
  case atStart => exact ⟨0, by omega, rfl, hr1, hs1, hB1⟩
  case round =>
  clear hr1 hs1 hB1
  obtain ⟨k, hk, rfl, hr, hs, hB⟩ := hrel
  by_cases hk4 : k < 4
  · have i1 : (k : Int) < 4 := by omega
    have i2 : ¬ (k : Int) < 0 := by omega
    obtain ⟨W2, hW2, hth2, hs2, hk2, hf2⟩ := hs.putPtr hk4 ⟨(k : Int), 0, 4⟩ (newK_len (by omega)) (newK_step hk4)
    have hB2 := hk2 _ _ (Nat.le_succ _) hB
    have hr2 : StAt w.heap.size zeroC nilS W2 := ⟨rfl, hr.blk.1.same (hf2 _ (by omega)), Nat.lt_of_lt_of_le hr.blk.2 (hk2 0 wr (Nat.zero_le _) (Below.refl _ _)).size⟩
    clear hr hs hB hk2 hf2
    go_wp2_with (first | (refine wpList_store_part rfl _ _ rfl (w.heap.size + 1) (4 + k * 3) rfl (ptr3 ⟨(k : Int), 0, 4⟩) rfl hth2 hszP (ptr3J_one _) hW2 ?_) | fail)
    exact ⟨⟨k + 1, by omega, by simp, hr2, hs2, hB2⟩, by simp [Go.RowKit.intOf]; omega⟩
  · obtain rfl : k = 4 := by omega
    have hs4 : StAt (w.heap.size + 1) newC nilS wr := hs
    obtain ⟨W3, hW3, hth3, hr3, hk3⟩ := put_st hr (d := newC) rfl nilS
    have hB3 := hk3 _ _ (Nat.le_refl _) hB
    have hrg := hs4.blk.range
    have hr3r := hr3.blk.range
    have hone : ∀ u ∈ stCs newC nilS, u.oneCell' = true := st_one _ _ rfl
    obtain ⟨Y, hY⟩ : ∃ Y, stCs newC nilS = Y := ⟨_, rfl⟩
    rw [hY] at hW3 hth3 hrg hr3r hone hszS
    replace hY : Aside (stCs newC nilS = Y) := hY
    clear hr hs hB hs4 hr3 hk3
    go_wp2_with (first | (refine wpList_load_row rfl _ rfl (w.heap.size + 1) rfl Y hrg hundS rfl hszS ?_) | (refine wpList_store_row rfl _ _ rfl w.heap.size rfl Y rfl hth3 hszS hone hW3 ?_) | fail)
    refine bodyPost_ret (v := .agg Y.toArray) (results_row1 rfl _ _ w.heap.size rfl Y hr3r hundS rfl hszS) rfl ?_
    exact ⟨by rw [hY.out], hB3⟩
/-- A state told anew, its stack's capacity no less than its length. -/
theorem cstateO (c : Cp) (h4 : c.ps.length = 4) (hn : c.st.length ≤ 1000) (v : Value) (w : World) (hv : SV v c.st w) :
    Calls Try.prog 14 #[.agg (stCs c v).toArray] w fun e w' => ∃ u, e = .returned (.agg (stCs c u).toArray) ∧ SV u c.st w' ∧ (∀ a2 n2 c2, u = .slice a2 n2 c2 → n2 ≤ c2) ∧ Below w.heap.size w w' := by
  obtain ⟨a1, c1, rfl, -, hr⟩ := hv
  refine (cstate_any c h4 a1 c1 w hn hr).mono ?_
  rintro e w' ⟨u, rfl, ho, hb⟩
  refine ⟨u, rfl, SV.ownA ho, fun a2 n2 c2 hu => ?_, hb⟩
  obtain ⟨a, cap, hv, hc, -⟩ := ho.slice frc_len
  rw [hv] at hu
  injection hu with e1 e2 e3
  omega
/-- What is written, where it is. -/
def WrO (c : Cp) (m : List Sg) (O : Ot) : Prop := ∀ k o y, O.wr = some (k, o, y) → (kn m k).is = true ∧ inG (kn m k) o ∧ y = c.a
theorem ite_wr {c : Cp} {m : List Sg} {p : Prop} [Decidable p] {x y : Ot} (h1 : p → WrO c m x) (h2 : ¬ p → WrO c m y) : WrO c m (if p then x else y) := by
  by_cases h : p
  · rw [if_pos h]; exact h1 h
  · rw [if_neg h]; exact h2 h
theorem wrO_none {c : Cp} {m : List Sg} {O : Ot} (h : O.wr = none) : WrO c m O := fun k o y q => by rw [h] at q; cases q
theorem wrE_zero {c : Cp} {m : List Sg} {i : Ins} (e : ¬ wrE c m i ≠ 0) : (mSeg c m i).is = true ∧ inG (mSeg c m i) (mOff c i) := by
  have e' : wrE c m i = 0 := by simpa using e
  unfold wrE at e'
  by_cases q1 : (mSeg c m i).is = false
  · rw [if_pos q1] at e'; cases e'
  rw [if_neg q1] at e'
  by_cases q2 : hasM (mSeg c m i).md 2 = false ∨ mayW (mSeg c m i).rg (mRing c i) = false
  · rw [if_pos q2] at e'; cases e'
  rw [if_neg q2] at e'
  by_cases q3 : ¬ inG (mSeg c m i) (mOff c i)
  · rw [if_pos q3] at e'; cases e'
  exact ⟨by simpa using q1, Decidable.not_not.1 q3⟩
theorem wrO_step (c : Cp) (m : List Sg) : WrO c m (stepC c m) := by
  unfold stepC
  refine ite_wr (fun _ => wrO_none rfl) (fun _ => ite_wr (fun _ => wrO_none rfl) (fun _ => ?_))
  unfold opC
  refine ite_wr (fun _ => wrO_none rfl) (fun _ => ?_)
  refine ite_wr (fun _ => ite_wr (fun _ => wrO_none rfl) (fun _ => wrO_none rfl)) (fun _ => ?_)
  refine ite_wr (fun _ => ite_wr (fun _ => wrO_none rfl) (fun he => ?_)) (fun _ => ?_)
  · intro k o y q
    simp only [Option.some.injEq, Prod.mk.injEq] at q
    obtain ⟨rfl, rfl, rfl⟩ := q
    have h := wrE_zero he
    exact ⟨h.1, h.2, rfl⟩
  refine ite_wr (fun _ => wrO_none rfl) (fun _ => ?_)
  refine ite_wr (fun _ => wrO_none rfl) (fun _ => ?_)
  refine ite_wr (fun _ => ite_wr (fun _ => wrO_none rfl) (fun _ => wrO_none rfl)) (fun _ => ?_)
  refine ite_wr (fun _ => wrO_none rfl) (fun _ => ?_)
  refine ite_wr (fun _ => wrO_none rfl) (fun _ => ?_)
  refine ite_wr (fun _ => ite_wr (fun _ => wrO_none rfl) (fun _ => wrO_none rfl)) (fun _ => ?_)
  refine ite_wr (fun _ => wrO_none rfl) (fun _ => ?_)
  refine ite_wr (fun _ => ite_wr (fun _ => wrO_none rfl) (fun _ => wrO_none rfl)) (fun _ => ?_)
  refine ite_wr (fun _ => ite_wr (fun _ => wrO_none rfl) (fun _ => wrO_none rfl)) (fun _ => ?_)
  exact ite_wr (fun _ => wrO_none rfl) (fun _ => wrO_none rfl)
theorem run_neq_sto (b : Bool) (k o y : Int) (w : World) : (binOp .neq 45 (.agg #[.bool b, .int .i64 k, .int .i64 o, .int .i64 y]) (.agg #[.bool b, .int .i64 k, .int .i64 o, .int .i64 y])).run Try.prog w = .ok (.bool false) w := by
  have h1 := Try.underlying45
  go_simp
end Go.Proofs.Ytinibccphecdfaa
