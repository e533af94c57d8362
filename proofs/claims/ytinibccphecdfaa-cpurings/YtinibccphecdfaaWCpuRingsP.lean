/-
  WHEN RINGS FALL AND RISE, in plain words. No program.
-/
import Derived.Test.YtinibccphecdfaaPt1
namespace Go.Proofs.Ytinibccphecdfaa
open Go.RowKit
set_option maxRecDepth 8000
set_option linter.unusedSimpArgs false
set_option linter.unusedVariables false

/-- What a step that went does to the rings. -/
structure RingF (c : Cp) (m : List Sg) (i : Ins) (O : Ot) : Prop where
  down : O.t.ring < c.ring → i.o = 20 ∧ (kn m O.t.seg).is = true ∧ O.t.ring = (kn m O.t.seg).rg.b ∧ c.ring ≤ (kn m O.t.seg).rg.c ∧ O.t.off < (kn m O.t.seg).rg.g
  up : c.ring < O.t.ring → i.o = 20 ∨ i.o = 21
  p20 : i.o = 20 → ∀ j : Nat, j < 4 → c.ring ≤ (pAt O.t j).r
  p21 : i.o = 21 → ∀ j : Nat, j < 4 → O.t.ring ≤ (pAt O.t j).r
  pd : ∀ j : Nat, j < 4 → (pAt O.t j).r < (pAt c j).r → i.o = 17 ∨ i.o = 18
  ps : i.o = 17 ∨ i.o = 18 → ∀ j : Nat, j < 4 → (j : Int) = i.p → c.ring ≤ (pAt O.t j).r
  wr : ∀ k o v, O.wr = some (k, o, v) → k = (pAt c i.p).s ∧ (kn m k).is = true ∧ gmax c.ring (pAt c i.p).r ≤ (kn m k).rg.a ∧ hasM (kn m k).md 2 = true ∧ inG (kn m k) o ∧ v = c.a
theorem pAt_raise {c : Cp} (h4 : c.ps.length = 4) (r : Int) {j : Nat} (hj : j < 4) : (pAt (raiseC c r) j).r = gmax (pAt c j).r r := by
  unfold pAt raiseC
  simp only [Int.toNat_natCast, List.getD_eq_getElem?_getD, List.getElem?_map]
  rw [List.getElem?_eq_getElem (by omega)]
  rfl
/-- The pointers stay. -/
theorem ringF_same {c t : Cp} {m : List Sg} {i : Ins} {v : Int} {b : Bool} (hr : t.ring = c.ring) (hp : t.ps = c.ps) (h1 : i.o ≠ 20) (h2 : i.o ≠ 21) (h3 : i.o ≠ 17) (h4 : i.o ≠ 18) : RingF c m i ⟨0, t, none, v, b⟩ := by
  have hq : ∀ j, pAt t j = pAt c j := fun j => by unfold pAt; rw [hp]
  refine ⟨fun h => ?_, fun h => ?_, fun h => absurd h h1, fun h => absurd h h2, fun j hj h => ?_, fun h => ?_, fun k o v h => by cases h⟩
  · simp only at h; omega
  · simp only at h; omega
  · simp only [hq] at h; omega
  · rcases h with h | h
    · exact absurd h h3
    · exact absurd h h4
theorem ringF_set {c t : Cp} {m : List Sg} {i : Ins} {q : Ptr} (hc : c.ps.length = 4) (hr : t.ring = c.ring) (hp : t.ps = c.ps.set i.p.toNat q) (hi : 0 ≤ i.p) (hq : c.ring ≤ q.r) (ho : i.o = 17 ∨ i.o = 18) : RingF c m i ⟨0, t, none, 0, false⟩ := by
  refine ⟨fun h => ?_, fun h => ?_, fun h => ?_, fun h => ?_, fun j hj h => ho, fun _ j hj h => ?_, fun k o v h => by cases h⟩
  · simp only at h; omega
  · simp only at h; omega
  · omega
  · omega
  · show c.ring ≤ (pAt t j).r
    have hn : i.p.toNat = j := by omega
    unfold pAt
    rw [hp, hn, List.getD_eq_getElem?_getD, Int.toNat_natCast, List.getElem?_set_self (by omega)]
    exact hq
theorem ring_op {c : Cp} {m : List Sg} {i : Ins} (hc : c.Ok) (hi : insE i = 0) (h : (opC c m i).e = 0) : RingF c m i (opC c m i) := by
  obtain ⟨⟨a0, a1⟩, a2, a3, a4, a5⟩ := insE_zero.1 hi
  have hr1 := gmax_l c.ring (pAt c i.p).r
  unfold opC at h ⊢
  by_cases c0 : i.o = 0
  · rw [if_pos c0]; exact ringF_same rfl rfl (by omega) (by omega) (by omega) (by omega)
  rw [if_neg c0] at h ⊢
  by_cases c1 : i.o = 1 ∨ 4 ≤ i.o ∧ i.o ≤ 11
  · rw [if_pos c1] at h ⊢
    by_cases e : rdE c m i ≠ 0
    · rw [if_pos e] at h; exact absurd h e
    · rw [if_neg e]; exact ringF_same rfl rfl (by omega) (by omega) (by omega) (by omega)
  rw [if_neg c1] at h ⊢
  by_cases c2 : i.o = 2
  · rw [if_pos c2] at h ⊢
    by_cases e : wrE c m i ≠ 0
    · rw [if_pos e] at h; exact absurd h e
    · rw [if_neg e]
      have hs := ringF_same (t := { c with off := c.off + 1 }) (m := m) (v := 0) (b := false) rfl rfl (show i.o ≠ 20 by omega) (by omega) (by omega) (by omega)
      refine ⟨hs.down, hs.up, hs.p20, hs.p21, hs.pd, hs.ps, fun k o v hk => ?_⟩
      simp only [Option.some.injEq, Prod.mk.injEq] at hk
      obtain ⟨rfl, rfl, rfl⟩ := hk
      have e' : wrE c m i = 0 := by simpa using e
      unfold wrE at e'
      by_cases q1 : (mSeg c m i).is = false
      · rw [if_pos q1] at e'; cases e'
      rw [if_neg q1] at e'
      by_cases q2 : hasM (mSeg c m i).md 2 = false ∨ mayW (mSeg c m i).rg (mRing c i) = false
      · rw [if_pos q2] at e'; cases e'
      rw [if_neg q2] at e'
      by_cases q3 : ¬ inG (mSeg c m i) (mOff c i)
      · rw [if_pos q3] at e'; cases e'
      have q4 : mayW (mSeg c m i).rg (mRing c i) = true := by simp only [not_or, Bool.not_eq_false] at q2; exact q2.2
      have q5 : hasM (mSeg c m i).md 2 = true := by simp only [not_or, Bool.not_eq_false] at q2; exact q2.1
      unfold mayW at q4
      have q6 := of_decide_eq_true q4
      exact ⟨rfl, by show (mSeg c m i).is = true; simpa using q1, q6.2.2, q5, Decidable.not_not.1 q3, rfl⟩
  rw [if_neg c2] at h ⊢
  by_cases c3 : i.o = 3
  · rw [if_pos c3]; exact ringF_same rfl rfl (by omega) (by omega) (by omega) (by omega)
  rw [if_neg c3] at h ⊢
  by_cases c4 : i.o = 12
  · rw [if_pos c4]; exact ringF_same rfl rfl (by omega) (by omega) (by omega) (by omega)
  rw [if_neg c4] at h ⊢
  by_cases c5 : i.o = 13
  · rw [if_pos c5] at h ⊢
    by_cases e : toE c.a ≠ 0
    · rw [if_pos e] at h; cases h
    · rw [if_neg e]; exact ringF_same rfl rfl (by omega) (by omega) (by omega) (by omega)
  rw [if_neg c5] at h ⊢
  by_cases c6 : i.o = 14 ∨ i.o = 15 ∧ c.a = 0 ∨ i.o = 16 ∧ c.a < 0
  · rw [if_pos c6]; exact ringF_same rfl rfl (by omega) (by omega) (by omega) (by omega)
  rw [if_neg c6] at h ⊢
  by_cases c7 : i.o = 17
  · rw [if_pos c7]
    exact ringF_set hc.ps rfl rfl (by omega) (gmax_r _ _) (by omega)
  rw [if_neg c7] at h ⊢
  by_cases c8 : i.o = 18
  · rw [if_pos c8] at h ⊢
    by_cases e : rdE c m i ≠ 0
    · rw [if_pos e] at h; exact absurd h e
    · rw [if_neg e]
      exact ringF_set hc.ps rfl rfl (by omega) (by
        have := gmax_r (gmax (wPtr (rdW c m i)).r (mSeg c m i).rg.a) (mRing c i)
        show c.ring ≤ gmax (gmax (wPtr (rdW c m i)).r (mSeg c m i).rg.a) (mRing c i)
        unfold mRing at *
        omega) (by omega)
  rw [if_neg c8] at h ⊢
  by_cases c9 : i.o = 19
  · rw [if_pos c9]; exact ringF_same rfl rfl (by omega) (by omega) (by omega) (by omega)
  rw [if_neg c9] at h ⊢
  by_cases c10 : i.o = 20
  · rw [if_pos c10] at h ⊢
    by_cases e : clE c m i ≠ 0
    · rw [if_pos e] at h; exact absurd h e
    · rw [if_neg e]
      have e' : clE c m i = 0 := by simpa using e
      unfold clE at e'
      by_cases q1 : (mSeg c m i).is = false
      · rw [if_pos q1] at e'; cases e'
      rw [if_neg q1] at e'
      by_cases q2 : hasM (mSeg c m i).md 4 = false
      · rw [if_pos q2] at e'; cases e'
      rw [if_neg q2] at e'
      by_cases q3 : callE (mSeg c m i).rg (mOff c i) (mRing c i) ≠ 0
      · rw [if_pos q3] at e'; cases e'
      have q4 : callE (mSeg c m i).rg (mOff c i) (mRing c i) = 0 := by simpa using q3
      have hp : ∀ j : Nat, j < 4 → (pAt (clT c m i) j).r = gmax (pAt c j).r c.ring := fun j hj => by
        unfold clT
        rw [pAt_raise (by exact hc.ps) _ hj]
        rfl
      refine ⟨fun hd => ?_, fun _ => .inl c10, fun _ j hj => ?_, fun q => by omega, fun j hj hd => ?_, fun q => by omega, fun k o v hk => by cases hk⟩
      · have e1 : (okC (clT c m i)).t.ring = callN (mSeg c m i).rg (mOff c i) (mRing c i) := rfl
        have e2 : (okC (clT c m i)).t.seg = (pAt c i.p).s := rfl
        have e3 : (okC (clT c m i)).t.off = mOff c i := rfl
        rw [e1] at hd ⊢
        rw [e2, e3]
        have e4 : kn m (pAt c i.p).s = mSeg c m i := rfl
        rw [e4]
        have hr2 : c.ring ≤ mRing c i := hr1
        refine ⟨c10, by simpa using q1, ?_⟩
        generalize mSeg c m i = g at *
        generalize mOff c i = off at *
        generalize mRing c i = r at *
        unfold callE at q4
        unfold callN at hd ⊢
        by_cases w1 : off < 0 ∨ 16 ≤ off ∨ r < 0 ∨ 7 < r
        · rw [if_pos w1] at q4; cases q4
        rw [if_neg w1] at q4 hd ⊢
        by_cases w2 : g.rg.a ≤ r ∧ r ≤ g.rg.b
        · rw [if_pos w2] at hd; omega
        rw [if_neg w2] at q4 hd ⊢
        by_cases w3 : g.rg.b < r ∧ r ≤ g.rg.c ∧ off < g.rg.g
        · rw [if_pos w3]; exact ⟨rfl, by omega, w3.2.2⟩
        rw [if_neg w3] at q4 hd ⊢
        by_cases w4 : g.rg.a ≤ r
        · rw [if_pos w4] at q4; cases q4
        · rw [if_neg w4] at hd; omega
      · show c.ring ≤ (pAt (clT c m i) j).r
        rw [hp j hj]
        exact gmax_r _ _
      · replace hd : (pAt (clT c m i) j).r < (pAt c j).r := hd
        rw [hp j hj] at hd
        have := gmax_l (pAt c j).r c.ring
        omega
  rw [if_neg c10] at h ⊢
  by_cases c11 : i.o = 21
  · rw [if_pos c11] at h ⊢
    by_cases e : rtE c ≠ 0
    · rw [if_pos e] at h; exact absurd h e
    · rw [if_neg e]
      have e' : rtE c = 0 := by simpa using e
      unfold rtE at e'
      by_cases q1 : c.st.length = 0
      · rw [if_pos q1] at e'; cases e'
      rw [if_neg q1] at e'
      by_cases q2 : (lastF c).r < c.ring
      · rw [if_pos q2] at e'; cases e'
      have hp : ∀ j : Nat, j < 4 → (pAt (rtT c) j).r = gmax (pAt c j).r (lastF c).r := fun j hj => by
        unfold rtT
        rw [pAt_raise (by exact hc.ps) _ hj]
        rfl
      refine ⟨fun hd => ?_, fun _ => .inr c11, fun q => by omega, fun _ j hj => ?_, fun j hj hd => ?_, fun q => by omega, fun k o v hk => by cases hk⟩
      · replace hd : (lastF c).r < c.ring := hd
        omega
      · show (lastF c).r ≤ (pAt (rtT c) j).r
        rw [hp j hj]
        exact gmax_r _ _
      · replace hd : (pAt (rtT c) j).r < (pAt c j).r := hd
        rw [hp j hj] at hd
        have := gmax_l (pAt c j).r (lastF c).r
        omega
  rw [if_neg c11] at h ⊢
  by_cases c12 : i.o = 22
  · rw [if_pos c12]; exact ringF_same rfl rfl (by omega) (by omega) (by omega) (by omega)
  · rw [if_neg c12]; exact ringF_same rfl rfl (by omega) (by omega) (by omega) (by omega)
/-- What a step that went, and did not halt, was fetched as. -/
theorem ring_step {c : Cp} {m : List Sg} (hc : c.Ok) (hm : ∀ g ∈ m, g.Ok) (h : (stepC c m).e = 0) (hh : (stepC c m).t.hl = false) : (kn m c.seg).is = true ∧ inG (kn m c.seg) c.off ∧ decE (wAt (kn m c.seg) c.off) = 0 ∧ insE (fetI c m) = 0 ∧ stepC c m = opC c m (fetI c m) ∧ RingF c m (fetI c m) (stepC c m) := by
  by_cases c0 : c.hl = true
  · unfold stepC at hh
    rw [if_pos c0] at hh
    rw [show (okC c).t.hl = c.hl from rfl, c0] at hh
    cases hh
  by_cases e : fetE c m ≠ 0
  · unfold stepC at h
    rw [if_neg c0, if_pos e] at h
    exact absurd h e
  have hs : stepC c m = opC c m (fetI c m) := by unfold stepC; rw [if_neg c0, if_neg e]
  have e' : fetE c m = 0 := by simpa using e
  have hi := fet_ok hm e'
  rw [hs] at h
  have hR := ring_op hc hi h
  rw [← hs] at hR
  unfold fetE at e'
  by_cases q1 : (kn m c.seg).is = false
  · rw [if_pos q1] at e'; cases e'
  rw [if_neg q1] at e'
  by_cases q2 : hasM (kn m c.seg).md 4 = false ∨ mayX (kn m c.seg).rg c.ring = false
  · rw [if_pos q2] at e'; cases e'
  rw [if_neg q2] at e'
  by_cases q3 : ¬ inG (kn m c.seg) c.off
  · rw [if_pos q3] at e'; cases e'
  rw [if_neg q3] at e'
  by_cases q4 : decE (wAt (kn m c.seg) c.off) ≠ 0
  · rw [if_pos q4] at e'; cases e'
  exact ⟨by simpa using q1, Decidable.not_not.1 q3, by simpa using q4, hi, hs, hR⟩
end Go.Proofs.Ytinibccphecdfaa
