/-
  HashAsks: the walk.
-/
import Derived.Test.YtplhleggemafbaaHashFns
import Derived.Test.YtplhleggemafbaaHashPure
namespace Go.Proofs.Ytplhleggemafbaa
open Go.RowKit
set_option linter.unusedSimpArgs false
set_option linter.unusedVariables false

set_option maxHeartbeats 2000000 in
theorem hashAsks_walk (x : Int) (hx : -9223372036854775808 ≤ x ∧ x ≤ 9223372036854775807) (u : ByteArray) (hu : u.size ≤ 140737488355328) (h : Nat) (hh : h < 18446744073709551616) (a : Option Addr) (l : List UInt8) (n cap : Nat) (hn : n ≤ 140737488355328) (w : World) (hb : BytesAt w a n l) :
    Calls Try.prog 3 #[.int .i64 x, .string u, .int .u64 (h : Int), .slice a n cap] w fun e w' => e = .returned (.bool true) ∧ Below w.heap.size w w' := by
  have cK := hknown_any w
  by_cases h5 : 5000 < u.size + n
  · have s5 : (5000 : Int) < (u.size : Int) + (n : Int) := by omega
    go_enter Try.func3, Try.ntmps3
    go_wp2_with fail
    refine (cK).mono ?_
    rintro e w1 ⟨rfl, hB1⟩
    go_wp2_with fail
    go_ret
    exact ⟨rfl, hB1⟩
  · have s5 : ¬ (5000 : Int) < (u.size : Int) + (n : Int) := by omega
    have c1 := of_any x hx u (by omega)
    have c2 := rof_any x hx u (by omega)
    have c3 := fun W hW => chain_any a l n cap h (by omega) hh W hW
    have c4 := fun W hW => rchain_any a l n cap h (by omega) hh W hW
    obtain ⟨r, hr⟩ : ∃ r, ofN x u.data.toList = r := ⟨_, rfl⟩
    obtain ⟨q, hq⟩ : ∃ q, chain h l = q := ⟨_, rfl⟩
    rw [hr] at c1 c2
    rw [hq] at c3 c4
    clear hr hq
    go_enter Try.func3, Try.ntmps3
    go_wp2_with fail
    refine (cK).mono ?_
    rintro e w1 ⟨rfl, hB1⟩
    go_wp2_with fail
    refine (c1 _).mono ?_
    rintro e w2 ⟨rfl, hB2⟩
    go_wp2_with fail
    refine (c2 _).mono ?_
    rintro e w3 ⟨rfl, hB3⟩
    have hB4 := Below.then (Below.then hB1 hB2) hB3
    go_wp2_with fail
    refine (c3 _ (hb.below hB4)).mono ?_
    rintro e w4 ⟨rfl, hB5⟩
    have hB6 := Below.then hB4 hB5
    go_wp2_with fail
    refine (c4 _ (hb.below hB6)).mono ?_
    rintro e w' ⟨rfl, hw'⟩
    have hw' := hw'.symm
    subst hw'
    go_wp2_with fail
    go_ret
    exact ⟨by simp, hB6⟩
end Go.Proofs.Ytplhleggemafbaa
