/-
  ROWS OF BYTES, AND A NEW DISK, in the words that the walks want.
-/
import Derived.Test.YtgjnlocokkjejaaDiskFlush
namespace Go.Proofs.Ytgjnlocokkjejaa
open Go.RowKit Go.Maps

theorem new_ex (n : Nat) (h1 : 1 ≤ n) (h2 : n ≤ 4096) (w : World) :
    Calls Try.prog 8 #[.int .i64 (n : Int)] w fun e w' => ∃ db pb mb, e = .returned (.tuple #[.pointer (some ⟨db, 0, none⟩), .int .i64 0]) ∧ DiskAt w' db pb mb n 0 (fun _ => zeros) (.map []) 0 0 false ∧
      w.heap.size ≤ db ∧ w.heap.size ≤ pb ∧ w.heap.size ≤ mb ∧ Kept [] w w' :=
  (new_any n h1 h2 w).mono fun _ _ ⟨he, hD, hK⟩ => ⟨_, _, _, he, hD, by omega, by omega, by omega, hK⟩

/-- A row that is being filled with one byte. -/
def fillTo (v : Int) (i : Nat) : List Int := List.replicate i v ++ List.replicate (128 - i) 0
theorem fill_start (v : Int) : fillTo v 0 = zeros := by simp [fillTo, zeros]
theorem fill_end (v : Int) : fillTo v 128 = List.replicate 128 v := by simp [fillTo]
theorem fill_len (v : Int) (i : Nat) (h : i ≤ 128) : (fillTo v i).length = 128 := by simp [fillTo]; omega
theorem fill_step (v : Int) (i : Nat) (h : i < 128) : (fillTo v i).set i v = fillTo v (i + 1) := by
  apply List.ext_getElem?
  intro j
  simp only [fillTo, List.getElem?_set, List.getElem?_append, List.length_replicate, List.getElem?_replicate, List.length_append]
  by_cases e : i = j
  · subst e
    simp
    omega
  · simp only [e, if_false]
    by_cases h1 : j < i
    · simp [h1, show j < i + 1 by omega]
    · have h2 : ¬ j < i + 1 := by omega
      simp only [h1, h2, if_false]
      by_cases h3 : j < 128
      · rw [if_pos (by omega), if_pos (by omega)]
      · rw [if_neg (by omega), if_neg (by omega)]
theorem row_set (l : List Int) (i : Nat) (v : Int) : (rowOf l).setIfInBounds i (.int .u8 v) = rowOf (l.set i v) := by
  simp [rowOf, cellsOf, List.map_set]
theorem rep_sec (v : Int) (h0 : 0 ≤ v) (h1 : v < 256) : Sec (List.replicate 128 v) := ⟨by simp, fun x hx => by rw [List.eq_of_mem_replicate hx]; exact ⟨h0, h1⟩⟩

theorem row_cell {w : World} {g : Nat} {l : List Int} {t : TypeId} (hb : w.heap[g]? = some (.cells (rowOf l) t (0, 0))) (i : Nat) (hi : i < l.length) : w.cell? ⟨g, i, none⟩ = some (.int .u8 (l.getD i 0)) := by
  rw [cell_of_row w g i _ t (0, 0) hb]
  simp [rowOf, cellsOf, hi]
theorem row_frozen {w : World} {g : Nat} {c : Array Value} {t : TypeId} (hb : w.heap[g]? = some (.cells c t (0, 0))) (i : Nat) : w.frozen? ⟨g, i, none⟩ = false := by
  unfold World.frozen?
  simp only [hb]
  simp
theorem row_range {w : World} {g : Nat} {l : List Int} {t : TypeId} (hb : w.heap[g]? = some (.cells (rowOf l) t (0, 0))) : w.rangeAt g 0 (cellsOf l) := fun j v hv => by
  rw [cell_of_row w g (0 + j) _ t (0, 0) hb]
  simpa [rowOf] using hv
end Go.Proofs.Ytgjnlocokkjejaa
