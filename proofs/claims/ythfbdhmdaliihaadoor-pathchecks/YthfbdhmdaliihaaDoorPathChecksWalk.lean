/-
  PathChecks: the walk.
-/
import Derived.Test.YthfbdhmdaliihaaDoorPathFns
namespace Go.Proofs.YthfbdhmdaliihaaDoor
open Go.RowKit
set_option linter.unusedSimpArgs false
set_option linter.unusedVariables false

set_option maxHeartbeats 2000000 in
theorem pathChecks_walk (s : ByteArray) (hs : s.size ≤ 9223372036854775807) (w : World) (hV : MaxV w) :
    Calls Tryd.prog 3 #[.string s] w fun e w' => e = .returned (.bool true) ∧ Below w.heap.size w w' := by
  have cK := known_any w
  by_cases h1000 : 1000 < s.size
  · have h1 : (1000 : Int) < (s.size : Int) := by omega
    go_enter Tryd.func3, Tryd.ntmps3
    go_wp2_with fail
    refine cK.mono ?_
    rintro e w' ⟨rfl, rfl⟩
    go_wp2_with fail
    go_ret
    exact ⟨rfl, Below.refl _ _⟩
  · have c1 := name_any s hs
    have c2 := rname_any s hs
    have c3 := check_any s (by omega)
    have c4 := rcheck_any s (by omega)
    obtain ⟨b, hb⟩ : ∃ b, name s = b := ⟨_, rfl⟩
    obtain ⟨r, hr⟩ : ∃ r, checkOf s = r := ⟨_, rfl⟩
    rw [hb] at c1 c2
    rw [hr] at c3 c4
    go_enter Tryd.func3, Tryd.ntmps3
    go_wp2_with fail
    refine cK.mono ?_
    rintro e w' ⟨rfl, hw'⟩
    have hw' := hw'.symm
    subst hw'
    go_wp2_with fail
    refine (c1 _).mono ?_
    rintro e w1 ⟨rfl, hB1⟩
    go_wp2_with fail
    refine (c2 _).mono ?_
    rintro e w2 ⟨rfl, hw'⟩
    have hw' := hw'.symm
    subst hw'
    go_wp2_with fail
    refine (c3 _ (hV.below hB1)).mono ?_
    rintro e w3 ⟨rfl, hB3⟩
    go_wp2_with fail
    refine (c4 _).mono ?_
    rintro e w4 ⟨rfl, hB4⟩
    go_wp2_with fail
    go_ret
    exact ⟨by simp, Below.then (Below.then hB1 hB3) hB4⟩
end Go.Proofs.YthfbdhmdaliihaaDoor
