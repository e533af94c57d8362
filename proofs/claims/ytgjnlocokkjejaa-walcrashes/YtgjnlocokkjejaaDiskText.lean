/-
  BYTES AS TEXTS.
-/
import Derived.Test.YtgjnlocokkjejaaDiskRows
namespace Go.Proofs.Ytgjnlocokkjejaa
open Go.RowKit Go.Maps

/-- Bytes as a text. -/
def textOf (l : List Int) : ByteArray := l.foldl (fun r n => r.push (UInt8.ofNat n.toNat)) ByteArray.empty
theorem text_run (w : World) (g len cap : Nat) (l : List Int) (h : w.rangeAt g 0 (cellsOf l)) (hl : l.length = len) :
    (Conv.bytesToString (.slice (some ⟨g, 0, none⟩) len cap)).run Try.prog w = .ok (.string (textOf l)) w := by
  refine run_bytesToString w ⟨g, 0, none⟩ len cap l ?_
  have := run_loadCells_list (P := Try.prog) w ⟨g, 0, none⟩ (cellsOf l) (fun j v hv => by rw [Addr.add_mid]; exact h j v hv)
  rw [cells_len, hl] at this
  exact this
theorem text_conv (w : World) (g len cap : Nat) (l : List Int) (h : w.rangeAt g 0 (cellsOf l)) (hl : l.length = len) :
    (convert 31 9 (.slice (some ⟨g, 0, none⟩) len cap)).run Try.prog w = .ok (.string (textOf l)) w := by
  have e := text_run w g len cap l h hl
  simp [convert, run_underlying Try.underlying31, run_underlying Try.underlying9, run_underlying Try.underlying5, e]
end Go.Proofs.Ytgjnlocokkjejaa
