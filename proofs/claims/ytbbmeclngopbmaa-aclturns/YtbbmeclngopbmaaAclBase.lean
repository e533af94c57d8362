/-
  LISTS OF GRANTS IN MEMORY, and the search for a user's place: acl.find, slices.BinarySearchFunc, strings.Compare.
-/
import Derived.Test.YtbbmeclngopbmaaAclPure
import Derived.WalkLawsBesides
import Derived.Below
import Derived.Deep.RegionHeld
import Derived.Deep.LoopGhost
namespace Go.Proofs.Ytbbmeclngopbmaa
open Go.RowKit

/-- A list's grants lie there. -/
def GAt (w : World) (a : Option Addr) (l : List Gr) : Prop :=
  ∀ j g, l[j]? = some g → ∃ x, a = some x ∧ w.cell? (x.add (j * 2)) = some (.string g.u) ∧ w.cell? ⟨(x.add (j * 2)).block, (x.add (j * 2)).off + 1, none⟩ = some (.int .i64 g.m)
theorem GAt.below {w w' : World} {a : Option Addr} {l : List Gr} (h : GAt w a l) (b : Below w.heap.size w w') : GAt w' a l := by
  intro j g hg
  obtain ⟨x, hx, h1, h2⟩ := h j g hg
  exact ⟨x, hx, (b.cell (World.block_lt_of_cell? _ _ h1)).trans h1, (b.cell (World.block_lt_of_cell? _ _ h2)).trans h2⟩
theorem GAt.drew {w : World} {a : Option Addr} {l : List Gr} (h : GAt w a l) : GAt w.drew a l := h
theorem alloc_below (w : World) (o : Obj) : Below w.heap.size w (w.alloc o) := (Below.refl _ _).alloc (Nat.le_refl _) _
theorem Below.then {w W W' : World} (h : Below w.heap.size w W) (k : Below W.heap.size W W') : Below w.heap.size w W' := h.trans (k.mono h.size)

set_option maxHeartbeats 1000000 in
theorem compareString_any (a b : ByteArray) (w : World) :
    Calls Try.prog 26 #[.string a, .string b] w fun e w' => e = .returned (.int .i64 (cmpB a b)) ∧ w' = w := by
  go_enter Try.func26, Try.ntmps26
  go_wp2
  rw [run_callFunc_extern Try.func27 (by kernel_rfl) (by kernel_rfl) (by kernel_rfl) (e := Extern.BytealgCompare.compare) (by kernel_rfl), Lib.run_compareString]
  simp only [Result.andThen]
  rw [Oper.upon_value]
  go_wp2
  go_ret
  exact ⟨rfl, rfl⟩
set_option maxHeartbeats 1000000 in
theorem compare_any (a b : ByteArray) (w : World) :
    Calls Try.prog 25 #[.string a, .string b] w fun e w' => e = .returned (.int .i64 (cmpB a b)) ∧ w' = w := by
  go_enter Try.func25, Try.ntmps25
  go_wp2_with (go_at_call 26; refine (compareString_any _ _ _).mono ?_; rintro e w' ⟨rfl, rfl⟩)
  go_ret
  exact ⟨rfl, rfl⟩
set_option maxHeartbeats 1000000 in
theorem cmp_any (g : Gr) (u : ByteArray) (w : World) :
    Calls Try.prog 24 #[g.v, .string u] w fun e w' => e = .returned (.int .i64 (cmpB g.u u)) ∧ Below w.heap.size w w' := by
  have hb := alloc_below w (.cells #[.string g.u, .int .i64 g.m] 40)
  go_enter Try.func24, Try.ntmps24
  go_wp2_with (go_at_call 25; refine (compare_any _ _ _).mono ?_; rintro e w' ⟨rfl, rfl⟩)
  go_ret
  exact ⟨rfl, hb⟩
end Go.Proofs.Ytbbmeclngopbmaa
