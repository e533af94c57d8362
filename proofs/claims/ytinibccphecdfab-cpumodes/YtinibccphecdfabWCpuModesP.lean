/-
  CpuModes, walked. Written by mk_cpumodes.py.
-/
import Derived.Test.YtinibccphecdfabPt3
namespace Go.Proofs.Ytinibccphecdfab
open Go.RowKit
set_option maxRecDepth 8000
set_option linter.unusedSimpArgs false
set_option linter.unusedVariables false

def mG (o r : Int) : Sg := ⟨true, [insW ⟨o, 1, 0⟩], 7, ⟨r, r, r, 0⟩⟩
def mD (md b : Int) : Sg := ⟨true, [0, 0, 0], md, ⟨b, 7, 7, 0⟩⟩
def mC (r : Int) : Cp := ⟨0, 0, r, 0, [⟨0, 0, 4⟩, ⟨1, 0, 0⟩, ⟨2, 0, 4⟩, ⟨3, 0, 4⟩], [], false⟩
theorem m_max {r : Int} (h : 0 ≤ r) : gmax r 0 = r := by unfold gmax; split <;> omega
theorem m_fet (o : Int) (h0 : 0 ≤ o) (h1 : o ≤ 22) (md b : Int) {r : Int} (r0 : 0 ≤ r) (r7 : r ≤ 7) : stepC (mC r) [mG o r, mD md b] = opC (mC r) [mG o r, mD md b] ⟨o, 1, 0⟩ := by
  have hi : insE ⟨o, 1, 0⟩ = 0 := insE_zero.2 ⟨⟨h0, h1⟩, by show (0 : Int) ≤ 1; decide, by show (1 : Int) ≤ 3; decide, by show (-2147483648 : Int) ≤ 0; decide, by show (0 : Int) ≤ 2147483647; decide⟩
  have hx : mayX ⟨r, r, r, 0⟩ r = true := decide_eq_true ⟨r0, r7, Int.le_refl _, Int.le_refl _⟩
  exact step_of (c := mC r) (m := [mG o r, mD md b]) (g := mG o r) (i := ⟨o, 1, 0⟩) rfl rfl rfl (show hasM 7 4 = true by decide +kernel) hx ⟨by show (0 : Int) ≤ 0; decide, by show (0 : Int) < ((1 : Nat) : Int); decide⟩ rfl hi
theorem m_in (md b : Int) : inG (mD md b) 0 := ⟨by decide, by show (0 : Int) < ((3 : Nat) : Int); decide⟩
theorem m_step1 (md b : Int) {r : Int} (r0 : 0 ≤ r) (r7 : r ≤ 7) : stepC (mC r) [mG 1 r, mD md b] = if hasM md 1 = true then okC { mC r with off := 1 } else flt 31 := by
  rw [m_fet 1 (by decide) (by decide) md b r0 r7]
  have hr : mayR ⟨b, 7, 7, 0⟩ r = true := decide_eq_true ⟨r0, r7, r7⟩
  have he : rdE (mC r) [mG 1 r, mD md b] ⟨1, 1, 0⟩ = if hasM md 1 = true then 0 else 31 := by
    show (if (mD md b).is = false then 35 else if hasM md 1 = false ∨ mayR ⟨b, 7, 7, 0⟩ (gmax r 0) = false then 31 else if ¬ inG (mD md b) 0 then 35 else 0) = _
    rw [if_neg (by show ¬ true = false; decide), m_max r0, hr]
    cases hasM md 1 with
    | false => rfl
    | true => rw [if_neg (by simp), if_neg (fun q => q (m_in md b))]; rfl
  show (if rdE (mC r) [mG 1 r, mD md b] ⟨1, 1, 0⟩ ≠ 0 then flt (rdE (mC r) [mG 1 r, mD md b] ⟨1, 1, 0⟩) else okC { mC r with off := 1 }) = _
  rw [he]
  cases hasM md 1 <;> rfl
theorem m_step2 (md b : Int) {r : Int} (r0 : 0 ≤ r) (r7 : r ≤ 7) : stepC (mC r) [mG 2 r, mD md b] = if hasM md 2 = true ∧ r ≤ b then ⟨0, { mC r with off := 1 }, some (1, 0, 0), 0, false⟩ else flt 32 := by
  rw [m_fet 2 (by decide) (by decide) md b r0 r7]
  have he : wrE (mC r) [mG 2 r, mD md b] ⟨2, 1, 0⟩ = if hasM md 2 = true ∧ r ≤ b then 0 else 32 := by
    show (if (mD md b).is = false then 35 else if hasM md 2 = false ∨ mayW ⟨b, 7, 7, 0⟩ (gmax r 0) = false then 32 else if ¬ inG (mD md b) 0 then 35 else 0) = _
    rw [if_neg (by show ¬ true = false; decide), m_max r0]
    by_cases hb : r ≤ b
    · rw [show mayW ⟨b, 7, 7, 0⟩ r = true from decide_eq_true ⟨r0, r7, hb⟩]
      cases hasM md 2 with
      | false => rfl
      | true => rw [if_neg (by simp), if_neg (fun q => q (m_in md b)), if_pos ⟨rfl, hb⟩]
    · rw [show mayW ⟨b, 7, 7, 0⟩ r = false from decide_eq_false (fun q => hb q.2.2), if_pos (.inr rfl), if_neg (fun q => hb q.2)]
  show (if wrE (mC r) [mG 2 r, mD md b] ⟨2, 1, 0⟩ ≠ 0 then flt (wrE (mC r) [mG 2 r, mD md b] ⟨2, 1, 0⟩) else ⟨0, { mC r with off := 1 }, some (1, 0, 0), 0, false⟩) = _
  rw [he]
  by_cases q : hasM md 2 = true ∧ r ≤ b
  · rw [if_pos q, if_neg (by decide), if_pos q]
  · rw [if_neg q, if_pos (by decide), if_neg q]
def mT (r n : Int) : Cp := raiseC ⟨1, 0, n, 0, [⟨0, 0, 4⟩, ⟨1, 0, 0⟩, ⟨2, 0, 4⟩, ⟨3, 0, 4⟩], [⟨0, 1, r⟩], false⟩ r
theorem mT_len (r n : Int) : (mT r n).ps.length = 4 := rfl
theorem m_step20 (md b : Int) {r : Int} (r0 : 0 ≤ r) (r7 : r ≤ 7) (b0 : 0 ≤ b) (b7 : b ≤ 7) : stepC (mC r) [mG 20 r, mD md b] = if hasM md 4 = true then okC (mT r (gmax r b)) else flt 33 := by
  rw [m_fet 20 (by decide) (by decide) md b r0 r7]
  have hc : callE ⟨b, 7, 7, 0⟩ 0 r = 0 := by
    unfold callE
    rw [if_neg (by omega)]
    by_cases h : b ≤ r
    · rw [if_pos ⟨h, r7⟩]
    · rw [if_neg (fun q => h q.1), if_neg (fun q => by have := q.1; show False; replace this : (7 : Int) < r := this; omega), if_neg h]
  have hn : callN ⟨b, 7, 7, 0⟩ 0 r = gmax r b := by
    unfold callN gmax
    rw [if_neg (by omega)]
    by_cases h : b ≤ r
    · rw [if_pos ⟨h, r7⟩, if_neg (by omega)]
    · rw [if_neg (fun q => h q.1), if_neg (fun q => by have := q.1; show False; replace this : (7 : Int) < r := this; omega), if_neg h, if_pos (by omega)]
  have he : clE (mC r) [mG 20 r, mD md b] ⟨20, 1, 0⟩ = if hasM md 4 = true then 0 else 33 := by
    show (if (mD md b).is = false then 35 else if hasM md 4 = false then 33 else if callE ⟨b, 7, 7, 0⟩ 0 (gmax r 0) ≠ 0 then 34 else if ¬ (0 : Int) < ((3 : Nat) : Int) then 35 else if 8 ≤ 0 then 37 else 0) = _
    rw [if_neg (by show ¬ true = false; decide), m_max r0, hc]
    cases hasM md 4 <;> rfl
  show (if clE (mC r) [mG 20 r, mD md b] ⟨20, 1, 0⟩ ≠ 0 then flt (clE (mC r) [mG 20 r, mD md b] ⟨20, 1, 0⟩) else okC (raiseC ⟨1, 0, callN ⟨b, 7, 7, 0⟩ 0 (gmax r 0), 0, [⟨0, 0, 4⟩, ⟨1, 0, 0⟩, ⟨2, 0, 4⟩, ⟨3, 0, 4⟩], [⟨0, 1, r⟩], false⟩ r)) = _
  rw [he, m_max r0, hn]
  cases hasM md 4 <;> rfl
theorem mC_ok {r : Int} (h0 : 0 ≤ r) (h7 : r ≤ 7) : (mC r).Ok := by
  refine ⟨rfl, fun p hp => ?_, ⟨h0, h7⟩, ⟨by show (-9223372036854775808 : Int) ≤ 0; decide, by show (0 : Int) ≤ 9223372036854775807; decide⟩, by show 0 ≤ 8; decide, fun f hf => (by simp [mC] at hf)⟩
  simp [mC] at hp
  rcases hp with rfl | rfl | rfl | rfl <;> refine ⟨?_, ?_, ?_, ?_⟩ <;> decide
theorem mG_ok (o : Int) {r : Int} (h0 : 0 ≤ r) (h7 : r ≤ 7) : (mG o r).Ok := ⟨fun _ => ⟨h0, Int.le_refl _, Int.le_refl _, h7, by show (0 : Int) ≤ 0; decide, by show (0 : Int) ≤ 16; decide⟩, fun x hx => by simp [mG] at hx; rw [hx]; exact insW_fit _, by show 1 ≤ 1000; decide⟩
theorem mD_ok (md : Int) {b : Int} (h0 : 0 ≤ b) (h7 : b ≤ 7) : (mD md b).Ok := ⟨fun _ => ⟨h0, h7, by show (7 : Int) ≤ 7; decide, by show (7 : Int) ≤ 7; decide, by show (0 : Int) ≤ 0; decide, by show (0 : Int) ≤ 16; decide⟩, fun x hx => by simp [mD] at hx; rw [hx]; exact ⟨by decide, by decide⟩, by show 3 ≤ 1000; decide⟩
end Go.Proofs.Ytinibccphecdfab
