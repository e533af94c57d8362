/-
  WHAT MAY NOT BE COMMITTED IS REFUSED: all cases.
-/
import Derived.Test.YtnckfmeidcfabaaWalRef0
import Derived.Test.YtnckfmeidcfabaaWalRef1
import Derived.Test.YtnckfmeidcfabaaWalRef2
import Derived.Test.YtnckfmeidcfabaaWalRef3
import Derived.Test.YtnckfmeidcfabaaWalRef4
import Derived.Test.YtnckfmeidcfabaaWalRef5
namespace Go.Proofs.Ytnckfmeidcfabaa
open Go.RowKit Go.Maps

theorem ref_walk (kind n : Int) (w : World) :
    Calls Try.prog 5 #[.int .i64 kind, .int .i64 n] w fun e w' => e = .returned (.bool true) ∧ Below w.heap.size w w' := by
  have h0 := Int.emod_nonneg kind (show (6 : Int) ≠ 0 by decide)
  have h1 := Int.emod_lt_of_pos kind (show (0 : Int) < 6 by decide)
  obtain h | h | h | h | h | h : kind % 6 = 0 ∨ kind % 6 = 1 ∨ kind % 6 = 2 ∨ kind % 6 = 3 ∨ kind % 6 = 4 ∨ kind % 6 = 5 := by omega
  · exact ref_walk0 kind n h w
  · exact ref_walk1 kind n h w
  · exact ref_walk2 kind n h w
  · exact ref_walk3 kind n h w
  · exact ref_walk4 kind n h w
  · exact ref_walk5 kind n h w
end Go.Proofs.Ytnckfmeidcfabaa
