/-
  NAMES AND PATHS AS BYTES, AND THE DOCUMENT'S OWN SMALL FUNCTIONS (donjonref7).
-/
import Derived.Test.YtajondkpdgiolaaCommon
import Derived.Test.YtajondkpdgiolaaNames
import Derived.WalkKit
import Derived.WalkLawsBesides
import Derived.Lib.Strings
import Derived.Lib.Bytealg
import Derived.KernelRfl
import Derived.ProofKit
import Derived.Below
namespace Go.Proofs.Ytajondkpdgiolaa
open Go.RowKit
set_option maxRecDepth 8000
set_option linter.unusedSimpArgs false
/-- Where the last slash among the first i bytes stands; nought, if none does. -/
def slashTo (u : ByteArray) : Nat → Nat
  | 0 => 0
  | i + 1 => if u.data.toList.getD i 0 = 47 then i else slashTo u i
theorem slashTo_le (u : ByteArray) : ∀ i, slashTo u i ≤ i
  | 0 => Nat.le_refl _
  | i + 1 => by
    unfold slashTo
    split
    · omega
    · have := slashTo_le u i; omega
theorem byte_at {u : ByteArray} {i : Nat} (h : i < u.size) : u.data.toList.getD i 0 = u[i]'h := by
  have hi : i < u.data.toList.length := by rw [Array.length_toList]; exact h
  rw [List.getD_eq_getElem?_getD, List.getElem?_eq_getElem hi]
  rfl
set_option maxHeartbeats 1000000 in
theorem slash_any (u : ByteArray) (hu : u.size ≤ 9223372036854775806) (w : World) :
    Calls Try.prog 38 #[.string u] w fun e w' => e = .returned (.int .i64 (slashTo u u.size : Nat)) ∧ w' = w := by
  go_enter Try.func38, Try.ntmps38
  go_wp2
  go_loopw [3, 4] (fun t3 t4 wr => ∃ i : Nat, i ≤ u.size ∧ t4 = .int .i64 (i : Int) ∧ t3 = .int .i64 (slashTo u i : Nat) ∧ wr = w) (fun _ t4 _ => u.size - (Go.RowKit.intOf t4).toNat)
  case atStart => exact ⟨0, by omega, rfl, rfl, rfl⟩
  case round =>
    obtain ⟨i, hi, rfl, rfl, rfl⟩ := hrel
    by_cases hlt : i < u.size
    · have hb := byte_at hlt
      obtain ⟨k, hk⟩ : ∃ k : Nat, (u[i]'hlt).toNat = k := ⟨_, rfl⟩
      have hs : slashTo u (i + 1) = if k = 47 then i else slashTo u i := by
        show (if u.data.toList.getD i 0 = 47 then i else slashTo u i) = _
        rw [hb]
        by_cases h : k = 47
        · rw [if_pos h, if_pos (by apply UInt8.toNat_inj.1; rw [hk, h]; rfl)]
        · rw [if_neg h, if_neg (fun e => h (by rw [← hk, e]; rfl))]
      clear hb
      by_cases h47 : k = 47
      · rw [if_pos h47] at hs
        subst h47
        go_wp2
        exact ⟨⟨i + 1, by omega, by simp, by rw [hs], by simp⟩, by simp [Go.RowKit.intOf]; omega⟩
      · rw [if_neg h47] at hs
        have h2 : ((k : Int) == 47) = false := by simp; omega
        go_wp2
        exact ⟨⟨i + 1, by omega, by simp, by rw [hs], by simp⟩, by simp [Go.RowKit.intOf]; omega⟩
    · obtain rfl : i = u.size := by omega
      go_wp2
      go_ret
      exact ⟨rfl, rfl⟩
def parentOf (u : ByteArray) : ByteArray := if u.size < 2 then ⟨#[]⟩ else if slashTo u u.size = 0 then ⟨#[47]⟩ else u.extract 0 (slashTo u u.size)
def lastOf (u : ByteArray) : ByteArray := if u.size < 2 then ⟨#[]⟩ else u.extract (slashTo u u.size + 1) u.size
set_option maxHeartbeats 1000000 in
theorem rparent_any (u : ByteArray) (hu : u.size ≤ 1000000) (w : World) :
    Calls Try.prog 25 #[.string u] w fun e w' => e = .returned (.string (parentOf u)) ∧ w' = w := by
  have hs := slashTo_le u u.size
  have cs := slash_any u (by omega) w
  unfold parentOf
  obtain ⟨k, hk⟩ : ∃ k, slashTo u u.size = k := ⟨_, rfl⟩
  rw [hk] at hs cs ⊢
  by_cases h2 : u.size < 2
  · rw [if_pos h2]
    go_enter Try.func25, Try.ntmps25
    go_wp2
    go_ret
    exact ⟨rfl, rfl⟩
  · rw [if_neg h2]
    by_cases h0 : k = 0
    · rw [if_pos h0]
      subst h0
      go_enter Try.func25, Try.ntmps25
      go_wp2_with (go_at_call 38; refine cs.mono ?_; rintro e w' ⟨rfl, rfl⟩)
      go_ret
      exact ⟨rfl, rfl⟩
    · rw [if_neg h0]
      have h1 : ((k : Int) == 0) = false := by simp; omega
      go_enter Try.func25, Try.ntmps25
      go_wp2_with (go_at_call 38; refine cs.mono ?_; rintro e w' ⟨rfl, rfl⟩)
      go_ret
      exact ⟨rfl, rfl⟩
def slashS : ByteArray := ⟨#[47]⟩
def joinOf (p n : ByteArray) : ByteArray := if eqs p slashS = true then p ++ n else p ++ slashS ++ n
theorem eqs_lit {u : ByteArray} (b : Bool) (h : eqs u slashS = b) : (u.toList == [47]) = b := by
  have : slashS.toList = [47] := by rw [toL]; rfl
  unfold eqs at h
  rw [this] at h
  exact h
def inOf (u v : ByteArray) : Bool := if eqs v slashS = true then decide (1 < u.size) else decide (v.size < u.size) && (eqs (u.extract 0 v.size) v && decide (u.data.toList.getD v.size 0 = 47))
end Go.Proofs.Ytajondkpdgiolaa
