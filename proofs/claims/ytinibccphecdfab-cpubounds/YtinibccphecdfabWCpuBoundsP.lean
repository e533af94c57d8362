/-
  CpuBounds: its plain words. A word beyond a segment's end, and a segment that there is none of.
-/
import Derived.Test.YtinibccphecdfabPt3
namespace Go.Proofs.Ytinibccphecdfab
open Go.RowKit
set_option maxRecDepth 8000
set_option linter.unusedSimpArgs false
set_option linter.unusedVariables false

def bD (n : Nat) : Sg := ⟨true, List.replicate n 0, 7, ⟨4, 4, 4, 0⟩⟩
def bC (at' s f : Int) : Cp := ⟨0, at', 4, 0, [⟨0, 0, 4⟩, ⟨s, f, 4⟩, ⟨2, 0, 4⟩, ⟨3, 0, 4⟩], [], false⟩
/-- How many words the segment that is asked for has: -1 if there is none. -/
def bN (s : Int) (n : Nat) : Int := if s = 0 then 1 else if s = 1 then n else -1
def bE (o s f : Int) (n : Nat) : Int := if bN s n < 0 then 35 else if o = 20 ∧ (f < 0 ∨ 16 ≤ f) then 34 else if f < 0 ∨ bN s n ≤ f then 35 else 0
theorem bD_len (n : Nat) : (bD n).ws.length = n := List.length_replicate
theorem b_fet (o : Int) (h0 : 0 ≤ o) (h1 : o ≤ 22) (s f : Int) (n : Nat) : stepC (bC 0 s f) [oneG [⟨o, 1, 0⟩] [], bD n] = opC (bC 0 s f) [oneG [⟨o, 1, 0⟩] [], bD n] ⟨o, 1, 0⟩ := by
  have hi : insE ⟨o, 1, 0⟩ = 0 := insE_zero.2 ⟨⟨h0, h1⟩, by show (0 : Int) ≤ 1; decide, by show (1 : Int) ≤ 3; decide, by show (-2147483648 : Int) ≤ 0; decide, by show (0 : Int) ≤ 2147483647; decide⟩
  exact step_of (c := bC 0 s f) (m := [oneG [⟨o, 1, 0⟩] [], bD n]) (g := oneG [⟨o, 1, 0⟩] []) (i := ⟨o, 1, 0⟩) rfl rfl rfl (show hasM 7 4 = true by decide +kernel) (show mayX ⟨4, 4, 4, 0⟩ 4 = true by decide) ⟨by show (0 : Int) ≤ 0; decide, by show (0 : Int) < ((1 : Nat) : Int); decide⟩ rfl hi
/-- The segment that is asked for: its words, or none. -/
theorem b_seg (o : Int) {s : Int} (h0 : 0 ≤ s) (h3 : s ≤ 3) (f : Int) (n : Nat) : (bN s n < 0 ∧ mSeg (bC 0 s f) [oneG [⟨o, 1, 0⟩] [], bD n] ⟨o, 1, 0⟩ = zeroG) ∨ (0 ≤ bN s n ∧ ∃ g : Sg, mSeg (bC 0 s f) [oneG [⟨o, 1, 0⟩] [], bD n] ⟨o, 1, 0⟩ = g ∧ g.is = true ∧ g.md = 7 ∧ g.rg = ⟨4, 4, 4, 0⟩ ∧ (g.ws.length : Int) = bN s n) := by
  have hs : s = 0 ∨ s = 1 ∨ s = 2 ∨ s = 3 := by omega
  rcases hs with rfl | rfl | rfl | rfl
  · exact .inr ⟨by show (0 : Int) ≤ 1; decide, _, rfl, rfl, rfl, rfl, rfl⟩
  · refine .inr ⟨?_, _, rfl, rfl, rfl, rfl, ?_⟩
    · show (0 : Int) ≤ (n : Int); omega
    · show ((bD n).ws.length : Int) = (n : Int); rw [bD_len]
  · exact .inl ⟨by show (-1 : Int) < 0; decide, rfl⟩
  · exact .inl ⟨by show (-1 : Int) < 0; decide, rfl⟩
theorem b_rd (o : Int) (ho : o ≠ 20) {s : Int} (h0 : 0 ≤ s) (h3 : s ≤ 3) (f : Int) (n : Nat) : rdE (bC 0 s f) [oneG [⟨o, 1, 0⟩] [], bD n] ⟨o, 1, 0⟩ = bE o s f n := by
  unfold rdE bE
  rcases b_seg o h0 h3 f n with ⟨h, hg⟩ | ⟨h, g, hg, hi, hm, hr, hl⟩
  · rw [hg, if_pos h]; rfl
  · rw [hg, hi, hm, hr, show mRing (bC 0 s f) ⟨o, 1, 0⟩ = 4 from rfl, show mOff (bC 0 s f) ⟨o, 1, 0⟩ = f from Int.add_zero f, if_neg (by decide), if_neg (by decide +kernel), if_neg (show ¬ bN s n < 0 by omega), if_neg (show ¬ (o = 20 ∧ (f < 0 ∨ 16 ≤ f)) from fun q => ho q.1)]
    unfold inG
    rw [hl]
    by_cases q : f < 0 ∨ bN s n ≤ f
    · rw [if_pos q, if_pos (by omega)]
    · rw [if_neg q, if_neg (by omega)]
theorem b_wr (o : Int) (ho : o ≠ 20) {s : Int} (h0 : 0 ≤ s) (h3 : s ≤ 3) (f : Int) (n : Nat) : wrE (bC 0 s f) [oneG [⟨o, 1, 0⟩] [], bD n] ⟨o, 1, 0⟩ = bE o s f n := by
  unfold wrE bE
  rcases b_seg o h0 h3 f n with ⟨h, hg⟩ | ⟨h, g, hg, hi, hm, hr, hl⟩
  · rw [hg, if_pos h]; rfl
  · rw [hg, hi, hm, hr, show mRing (bC 0 s f) ⟨o, 1, 0⟩ = 4 from rfl, show mOff (bC 0 s f) ⟨o, 1, 0⟩ = f from Int.add_zero f, if_neg (by decide), if_neg (by decide +kernel), if_neg (show ¬ bN s n < 0 by omega), if_neg (show ¬ (o = 20 ∧ (f < 0 ∨ 16 ≤ f)) from fun q => ho q.1)]
    unfold inG
    rw [hl]
    by_cases q : f < 0 ∨ bN s n ≤ f
    · rw [if_pos q, if_pos (by omega)]
    · rw [if_neg q, if_neg (by omega)]
theorem b_cl {s : Int} (h0 : 0 ≤ s) (h3 : s ≤ 3) (f : Int) (n : Nat) : clE (bC 0 s f) [oneG [⟨20, 1, 0⟩] [], bD n] ⟨20, 1, 0⟩ = bE 20 s f n := by
  unfold clE bE
  rcases b_seg 20 h0 h3 f n with ⟨h, hg⟩ | ⟨h, g, hg, hi, hm, hr, hl⟩
  · rw [hg, if_pos h]; rfl
  · rw [hg, hi, hm, hr, if_neg (by decide), if_neg (by decide +kernel), if_neg (show ¬ bN s n < 0 by omega), show mOff (bC 0 s f) ⟨20, 1, 0⟩ = f from Int.add_zero f, show mRing (bC 0 s f) ⟨20, 1, 0⟩ = 4 from rfl, hl]
    have hc : callE ⟨4, 4, 4, 0⟩ f 4 = if f < 0 ∨ 16 ≤ f then 34 else 0 := by
      unfold callE
      by_cases q : f < 0 ∨ 16 ≤ f
      · rw [if_pos q, if_pos (by omega)]
      · rw [if_neg q, if_neg (by omega), if_pos (by decide)]
    rw [hc]
    by_cases q : f < 0 ∨ 16 ≤ f
    · rw [if_pos q, if_pos (by decide), if_pos ⟨rfl, q⟩]
    · rw [if_neg q, if_neg (by decide), if_neg (show ¬ ((20 : Int) = 20 ∧ (f < 0 ∨ 16 ≤ f)) from fun z => q z.2)]
      by_cases z : bN s n ≤ f
      · rw [if_pos (by omega), if_pos (by omega)]
      · rw [if_neg (show ¬ ¬ f < bN s n by omega), if_neg (show ¬ (8 ≤ (bC 0 s f).st.length) by show ¬ 8 ≤ 0; decide), if_neg (show ¬ (f < 0 ∨ bN s n ≤ f) by omega)]
theorem b_step {o : Int} (ho : o = 1 ∨ o = 2 ∨ o = 18 ∨ o = 20) {s : Int} (h0 : 0 ≤ s) (h3 : s ≤ 3) (f : Int) (n : Nat) : (stepC (bC 0 s f) [oneG [⟨o, 1, 0⟩] [], bD n]).e = bE o s f n := by
  rw [b_fet o (by omega) (by omega)]
  rcases ho with rfl | rfl | rfl | rfl
  · have h := b_rd 1 (by decide) h0 h3 f n
    show (if rdE (bC 0 s f) [oneG [⟨1, 1, 0⟩] [], bD n] ⟨1, 1, 0⟩ ≠ 0 then flt (rdE (bC 0 s f) [oneG [⟨1, 1, 0⟩] [], bD n] ⟨1, 1, 0⟩) else okC _).e = _
    rw [h]
    split
    · rfl
    · rename_i q; exact (Decidable.not_not.1 q).symm
  · have h := b_wr 2 (by decide) h0 h3 f n
    show (if wrE (bC 0 s f) [oneG [⟨2, 1, 0⟩] [], bD n] ⟨2, 1, 0⟩ ≠ 0 then flt (wrE (bC 0 s f) [oneG [⟨2, 1, 0⟩] [], bD n] ⟨2, 1, 0⟩) else Ot.mk 0 _ _ 0 false).e = _
    rw [h]
    split
    · rfl
    · rename_i q; exact (Decidable.not_not.1 q).symm
  · have h := b_rd 18 (by decide) h0 h3 f n
    show (if rdE (bC 0 s f) [oneG [⟨18, 1, 0⟩] [], bD n] ⟨18, 1, 0⟩ ≠ 0 then flt (rdE (bC 0 s f) [oneG [⟨18, 1, 0⟩] [], bD n] ⟨18, 1, 0⟩) else okC _).e = _
    rw [h]
    split
    · rfl
    · rename_i q; exact (Decidable.not_not.1 q).symm
  · have h := b_cl h0 h3 f n
    show (if clE (bC 0 s f) [oneG [⟨20, 1, 0⟩] [], bD n] ⟨20, 1, 0⟩ ≠ 0 then flt (clE (bC 0 s f) [oneG [⟨20, 1, 0⟩] [], bD n] ⟨20, 1, 0⟩) else okC _).e = _
    rw [h]
    split
    · rfl
    · rename_i q; exact (Decidable.not_not.1 q).symm
theorem b_more (o : Int) {t : Int} (ht : 1 ≤ t) (s f : Int) (n : Nat) : stepC (bC t s f) [oneG [⟨o, 1, 0⟩] [], bD n] = flt 35 :=
  step_bound (c := bC t s f) (m := [oneG [⟨o, 1, 0⟩] [], bD n]) (g := oneG [⟨o, 1, 0⟩] []) rfl rfl rfl (show hasM 7 4 = true by decide +kernel) (show mayX ⟨4, 4, 4, 0⟩ 4 = true by decide) (fun q => by have := q.2; replace this : t < ((1 : Nat) : Int) := this; omega)
theorem bC_ok (t : Int) {s f : Int} (h0 : -4 ≤ f) (h1 : f ≤ 19) : (bC t s f).Ok := by
  refine ⟨rfl, fun p hp => ?_, ⟨by show (0 : Int) ≤ 4; decide, by show (4 : Int) ≤ 7; decide⟩, ⟨by show (-9223372036854775808 : Int) ≤ 0; decide, by show (0 : Int) ≤ 9223372036854775807; decide⟩, by show 0 ≤ 8; decide, fun f hf => (by simp [bC] at hf)⟩
  simp [bC] at hp
  rcases hp with rfl | rfl | rfl | rfl
  · refine ⟨?_, ?_, ?_, ?_⟩ <;> decide
  · exact ⟨by show (-1000000000000 : Int) ≤ f; omega, by show f ≤ 1000000000000; omega, by show (0 : Int) ≤ 4; decide, by show (4 : Int) ≤ 7; decide⟩
  · refine ⟨?_, ?_, ?_, ?_⟩ <;> decide
  · refine ⟨?_, ?_, ?_, ?_⟩ <;> decide
theorem bD_ok {n : Nat} (hn : n ≤ 1000) : (bD n).Ok := ⟨fun _ => ⟨by show (0 : Int) ≤ 4; decide, by show (4 : Int) ≤ 4; decide, by show (4 : Int) ≤ 4; decide, by show (4 : Int) ≤ 7; decide, by show (0 : Int) ≤ 0; decide, by show (0 : Int) ≤ 16; decide⟩, fun x hx => by rw [List.eq_of_mem_replicate (show x ∈ List.replicate n 0 from hx)]; exact ⟨by decide, by decide⟩, by rw [bD_len]; exact hn⟩
theorem bG_ok (o : Int) : (oneG [⟨o, 1, 0⟩] []).Ok := ⟨fun _ => ⟨by show (0 : Int) ≤ 4; decide, by show (4 : Int) ≤ 4; decide, by show (4 : Int) ≤ 4; decide, by show (4 : Int) ≤ 7; decide, by show (0 : Int) ≤ 0; decide, by show (0 : Int) ≤ 16; decide⟩, fun x hx => by simp [oneG] at hx; rw [hx]; exact insW_fit _, by show 1 ≤ 1000; decide⟩
end Go.Proofs.Ytinibccphecdfab
