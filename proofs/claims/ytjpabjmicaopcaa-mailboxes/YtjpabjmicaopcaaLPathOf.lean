/-
  THE LAWS' OWN PATHS: Of, within.
-/
import Derived.Test.YtjpabjmicaopcaaLPathPure
import Derived.Lib.ConvBytes
namespace Go.Proofs.Ytjpabjmicaopcaa
open Go.RowKit
set_option maxRecDepth 8000
set_option linter.unusedSimpArgs false
set_option linter.unusedVariables false
/-- A text of one byte. -/
def chr (k : Nat) : ByteArray := ⟨#[UInt8.ofNat k]⟩
theorem conv_chr (w : World) (k : Nat) (hk : k < 256) : (convert 48 9 (.slice (some ⟨w.heap.size, 0, none⟩) 1 1)).run Try.prog (w.alloc (.cells #[.int .u8 (k : Int)] 5)) = .ok (.string (chr k)) (w.alloc (.cells #[.int .u8 (k : Int)] 5)) := by
  refine run_convert_bytes_back _ _ _ 5 ⟨w.heap.size, 0, none⟩ 1 [UInt8.ofNat k] Try.underlying48 Try.underlying5 Try.underlying9 fun j hj => ?_
  obtain rfl : j = 0 := by simp at hj; omega
  rw [show (⟨w.heap.size, 0, none⟩ : Addr).add 0 = ⟨w.heap.size, 0, none⟩ by simp [Addr.add], World.cell?_alloc_at _ _ _ _ rfl]
  simp
  omega

/-- The name of a number. -/
def letterOf (x : Int) : Nat := 97 + (x.tdiv 3 % 5).toNat
def nameOf (x : Int) : ByteArray := ⟨(List.replicate ((x % 3).toNat + 1) (UInt8.ofNat (letterOf x))).toArray⟩
def namesOf (l : List Int) : List ByteArray := (l.take 6).map nameOf
theorem letter_lo (x : Int) : 97 ≤ letterOf x ∧ letterOf x ≤ 101 := by unfold letterOf; omega
theorem nameOf_name (x : Int) : name (nameOf x) = true := by
  obtain ⟨h1, h2⟩ := letter_lo x
  have hs : (nameOf x).size = (x % 3).toNat + 1 := by simp [nameOf, ByteArray.size]
  have ha : (nameOf x).data.toList.all okB = true := by
    simp only [nameOf, List.all_eq_true]
    intro c hc
    have := List.eq_of_mem_replicate hc
    subst this
    have e : (UInt8.ofNat (letterOf x)).toNat = letterOf x := by simp; omega
    simp [okB, e]
    omega
  rw [name, hs, ha]
  simp
  omega
theorem namesOf_names (l : List Int) : Names (namesOf l) := by
  refine ⟨by simp [namesOf]; omega, fun n hn => ?_⟩
  obtain ⟨x, _, rfl⟩ := List.mem_map.1 hn
  exact nameOf_name x

end Go.Proofs.Ytjpabjmicaopcaa
