/-
  strings.Contains AT THIS PROGRAM: the library of contracts laid in plain words, and the call.
-/
import Derived.Shelf.Lays
import Derived.Shelf.Strings.Search3
import Derived.Test.YtjpabjmicaopcaaNames
import Derived.Shelf.Vars
import Derived.HandedShaped
import Derived.Lib.IndexMore
namespace Go.Proofs.Ytjpabjmicaopcaa
open Go.RowKit Go.Shelf
def laysCon_ren : Go.Shelf.Ren := ⟨fun | 144 => 32 | 143 => 39 | 219 => 41 | 217 => 42 | 225 => 43 | 224 => 44 | 267 => 45 | 266 => 46 | 314 => 47 | n => n, fun | 9 => 9 | 4 => 4 | 3 => 3 | 5 => 5 | 46 => 73 | 146 => 75 | 51 => 74 | n => n, fun | 1 => 0 | n => n⟩
theorem laysCon : Go.Proofs.Lays.n144 Try.prog laysCon_ren := {
  mixed := by kernel_rfl
  f143 := Try.func39.trans (congrArg some (by kernel_rfl))
  f144 := Try.func32.trans (congrArg some (by kernel_rfl))
  f217 := Try.func42.trans (congrArg some (by kernel_rfl))
  f219 := Try.func41.trans (congrArg some (by kernel_rfl))
  f224 := Try.func44.trans (congrArg some (by kernel_rfl))
  f225 := Try.func43.trans (congrArg some (by kernel_rfl))
  f266 := Try.func46.trans (congrArg some (by kernel_rfl))
  f267 := Try.func45.trans (congrArg some (by kernel_rfl))
  f314 := Try.func47.trans (congrArg some (by kernel_rfl))
  t3 := Try.underlying3
  a3 := Try.isAgg3
  z3 := Try.sizeOf3
  v3 := Try.zeroValue3
  t4 := Try.underlying4
  a4 := Try.isAgg4
  z4 := Try.sizeOf4
  v4 := Try.zeroValue4
  t5 := Try.underlying5
  a5 := Try.isAgg5
  z5 := Try.sizeOf5
  v5 := Try.zeroValue5
  t9 := Try.underlying9
  a9 := Try.isAgg9
  z9 := Try.sizeOf9
  v9 := Try.zeroValue9
  t46 := Try.underlying73
  a46 := Try.isAgg73
  z46 := Try.sizeOf73
  v46 := Try.zeroValue73
  t51 := Try.underlying74
  a51 := Try.isAgg74
  z51 := Try.sizeOf74
  v51 := Try.zeroValue74
  t146 := Try.underlying75
  a146 := Try.isAgg75
  z146 := Try.sizeOf75
  v146 := Try.zeroValue75
  g1 := by kernel_rfl }

/-- The library's variable that its searches read holds an int. -/
def LenV (w : World) : Prop := ∃ m, w.cell? ⟨0, 0, none⟩ = some (.int .i64 m)
theorem LenV.below {w w' : World} (h : LenV w) (b : Below w.heap.size w w') : LenV w' := by
  obtain ⟨m, hm⟩ := h
  exact ⟨m, (b.cell (World.block_lt_of_cell? _ _ hm)).trans hm⟩
theorem lint_und : Try.prog.underlying 3 = some (.int .i64) := by kernel_rfl
theorem lenV_shaped {W : World} (hsh : W.ShapedOpen Try.prog) : LenV W :=
  cell_of_shapedOpen_int hsh (t := 3) (zero := #[.int .i64 0]) (by decide +kernel) (by kernel_rfl) (by kernel_rfl) (by kernel_rfl) (by kernel_rfl) lint_und
theorem contains_any (s sub : ByteArray) (hs : s.size < 4294967281) (w : World) (hM : LenV w) : Calls Try.prog 32 #[.string s, .string sub] w fun e w' => e = .returned (.bool (Lib.contains s.data.toList sub.data.toList)) ∧ w' = w := by
  obtain ⟨m, hm⟩ := hM
  exact Any.strings_Contains laysCon s sub m w hs hm
end Go.Proofs.Ytjpabjmicaopcaa
