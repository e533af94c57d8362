/-
  A TEXT OF ONE BYTE, OUT OF A ROW THAT WAS JUST MADE.
-/
import Derived.Test.YtjpabjmicaopcaaLPathOf
namespace Go.Proofs.Ytjpabjmicaopcaa
open Go.RowKit
set_option maxRecDepth 8000
set_option linter.unusedSimpArgs false
set_option linter.unusedVariables false

/-- A row of one byte, kept. -/
structure ChrAt (W : World) (pb k : Nat) : Prop where
  lt : pb < W.heap.size
  cell : W.cell? ⟨pb, 0, none⟩ = some (.int .u8 (k : Int))
  hk : k < 256
theorem ChrAt.below {W W' : World} {pb k : Nat} (h : ChrAt W pb k) (b : Below W.heap.size W W') : ChrAt W' pb k := ⟨Nat.lt_of_lt_of_le h.lt b.size, (b.cell (p := ⟨pb, 0, none⟩) h.lt).trans h.cell, h.hk⟩
theorem chr_made (w : World) (k : Nat) (hk : k < 256) : ChrAt (w.alloc (.cells #[.int .u8 (k : Int)] 5)) w.heap.size k := ⟨by simp, by rw [World.cell?_alloc_at _ _ _ _ rfl]; rfl, hk⟩
theorem chr_made2 (w : World) (q : Nat) (hq : 48 + q < 256) : ChrAt (w.alloc (.cells #[.int .u8 (48 + (q : Int))] 5)) w.heap.size (48 + q) := by
  have := chr_made w (48 + q) hq
  rw [Int.natCast_add] at this
  exact this
theorem ChrAt.conv {W : World} {pb k : Nat} (h : ChrAt W pb k) : (convert 48 9 (.slice (some ⟨pb, 0, none⟩) 1 1)).run Try.prog W = .ok (.string (chr k)) W := by
  refine run_convert_bytes_back _ _ _ 5 ⟨pb, 0, none⟩ 1 [UInt8.ofNat k] Try.underlying48 Try.underlying5 Try.underlying9 fun j hj => ?_
  obtain rfl : j = 0 := by simp at hj; omega
  rw [show (⟨pb, 0, none⟩ : Addr).add 0 = ⟨pb, 0, none⟩ by simp [Addr.add], h.cell]
  have := h.hk
  simp
  omega
end Go.Proofs.Ytjpabjmicaopcaa
