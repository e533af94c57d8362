/-
  THE CONTRACT OF disk.New; WHAT make LAYS.
-/
import Derived.Test.YtgjnlocokkjejaaDiskSmall
namespace Go.Proofs.Ytgjnlocokkjejaa
open Go.RowKit

def zeros : List Int := List.replicate 128 0
theorem zeros_sec : Sec zeros := ⟨by simp [zeros], fun x hx => by
  have := List.eq_of_mem_replicate hx
  omega⟩
/-- Bytes in a block of their own. -/
def rowOf (l : List Int) : Array Value := (cellsOf l).toArray
/-- A new platter's cells. -/
def platNew (n : Nat) : Array Value := madeCells (cellsOf zeros).toArray (n * 128)

theorem info_sec : (Try.prog.info? 78).map (fun i => (i.zero, i.size, i.bytes)) = some (some (secOf zeros), 128, 128) := by kernel_rfl
theorem info_byte : (Try.prog.info? 5).map (fun i => (i.zero, i.size, i.bytes)) = some (some (.int .u8 0), 1, 1) := by kernel_rfl

theorem zero_sec (w : World) : (zeroValue 78).run Try.prog w = .ok (secOf zeros) w := by
  obtain ⟨i, hi, hz, hs, hb⟩ := info_parts info_sec
  simp [zeroValue, typeInfo, hi, hz]
theorem size_sec : (Try.prog.info? 78).map (·.size) = some 128 := by kernel_rfl

theorem madeCells_at (z : Array Value) (n j : Nat) (hj : j < n) : (madeCells z n)[j]? = some (z[j % z.size]!) := by
  simp [madeCells, hj]

theorem cells_zeros : cellsOf zeros = List.replicate 128 (.int .u8 0) := by simp only [cellsOf, zeros, List.map_replicate]
theorem rep_at (n : Nat) (v : Value) (j : Nat) (hj : j < n) : (List.replicate n v).toArray[j]! = v := by simp [hj]

theorem platNew_at (n k j : Nat) (hk : k < n) (hj : j < 128) : (platNew n)[k * 128 + j]? = some (.int .u8 0) := by
  unfold platNew
  rw [madeCells_at _ _ _ (by omega)]
  have e : (cellsOf zeros).toArray.size = 128 := by rw [cells_zeros]; simp
  rw [e]
  have e2 : (k * 128 + j) % 128 = j := by omega
  rw [e2, cells_zeros, rep_at 128 _ j hj]

theorem make_plat (n : Nat) (h1 : n ≤ 4096) (w : World) :
    (Instr.makeSlice 72 (.int .i64 (n : Int)) (.int .i64 (n : Int))).run Try.prog w = .ok (.slice (some ⟨w.heap.size, 0, none⟩) n n) (w.alloc (.cells (platNew n) 78)) := by
  obtain ⟨i, hi, hz, hs, hb⟩ := info_parts info_sec
  have := run_make (P := Try.prog) w 72 78 i _ Try.underlying72 hi hz .i64 .i64 n n (by omega) (by omega) (by rw [hb]; omega) (by omega)
  rw [hs] at this
  simpa [platNew, secOf, Value.cells] using this

theorem make_bytes (w : World) :
    (Instr.makeSlice 31 (.int .i64 128) (.int .i64 128)).run Try.prog w = .ok (.slice (some ⟨w.heap.size, 0, none⟩) 128 128) (w.alloc (.cells (rowOf zeros) 5)) := by
  obtain ⟨i, hi, hz, hs, hb⟩ := info_parts info_byte
  have := run_make (P := Try.prog) w 31 5 i _ Try.underlying31 hi hz .i64 .i64 128 128 (by omega) (by omega) (by rw [hb]; omega) (by omega)
  rw [hs] at this
  have e : madeCells (Value.int .u8 0).cells ((128 : Int).toNat * 1) = rowOf zeros := by kernel_rfl
  rw [e] at this
  exact this

theorem plat_new (w : World) (n : Nat) : Plat (w.alloc (.cells (platNew n) 78)) w.heap.size n (fun _ => zeros) := by
  intro k hk
  have hb : (w.alloc (.cells (platNew n) 78)).heap[w.heap.size]? = some (.cells (platNew n) 78 (0, 0)) := heap_alloc_new w _
  refine ⟨zeros_sec, ?_, ?_⟩
  · intro j v hv
    have hj : j < 128 := by
      have := (List.getElem?_eq_some_iff.1 hv).1
      simpa [cellsOf, zeros] using this
    have e : v = .int .u8 0 := by
      have := List.mem_of_getElem? hv
      obtain ⟨a, ha, rfl⟩ := List.mem_map.1 this
      rw [List.eq_of_mem_replicate ha]
    simp only [World.cell?, hb]
    rw [e]
    simpa using platNew_at n k j hk hj
  · intro j hj
    simp only [World.cell?, World.frozen?, hb]
    have := platNew_at n k j hk hj
    simp [this]

set_option maxHeartbeats 400000 in
/-- New, at a number that may not be. -/
theorem new_refuses (k : Int) (h : k < 1 ∨ 4096 < k) (w : World) :
    Calls Try.prog 8 #[.int .i64 k] w fun e w' => e = .returned (.tuple #[.pointer none, .int .i64 1]) ∧ w' = w := by
  by_cases h1 : k < 1
  · go_enter Try.func8, Try.ntmps8
    go_wp2
    go_ret2
    exact ⟨rfl, rfl⟩
  · have h2 : 4096 < k := by omega
    go_enter Try.func8, Try.ntmps8
    go_wp2
    go_ret2
    exact ⟨rfl, rfl⟩

set_option maxHeartbeats 400000 in
/-- New. -/
theorem new_any (n : Nat) (h1 : 1 ≤ n) (h2 : n ≤ 4096) (w : World) :
    Calls Try.prog 8 #[.int .i64 (n : Int)] w fun e w' => e = .returned (.tuple #[.pointer (some ⟨w.heap.size + 2, 0, none⟩), .int .i64 0]) ∧
      DiskAt w' (w.heap.size + 2) w.heap.size (w.heap.size + 1) n 0 (fun _ => zeros) (.map []) 0 0 false ∧ Kept [] w w' := by
  have hmk := make_plat n h2
  have hmm := @run_makeMap Try.prog
  have i1 : (1 : Int) ≤ n := by omega
  have i2 : (n : Int) ≤ 4096 := by omega
  go_enter Try.func8, Try.ntmps8
  go_wp2
  go_ret2
  refine ⟨rfl, ?_, ((Kept.of_alloc _ _ _).alloc _).alloc _⟩
  have e1 : (w.alloc (.cells (platNew n) 78)).heap.size = w.heap.size + 1 := by simp
  have e2 : ((w.alloc (.cells (platNew n) 78)).alloc (.map #[] 0)).heap.size = w.heap.size + 2 := by simp
  generalize ho : Obj.cells _ 75 _ = o
  have k1 := Kept.of_alloc [] (w.alloc (.cells (platNew n) 78)) (.map #[] 0)
  have k2 := k1.alloc o
  refine ⟨?_, (plat_new w n).of_block (k2.block _ (by simp) (by simp)), ?_, ?_, ?_, ?_, ?_, h1, h2⟩
  · have := heap_alloc_new ((w.alloc (.cells (platNew n) 78)).alloc (.map #[] 0)) o
    rw [e2] at this
    rw [this, ← ho]
  · simp; omega
  · have := (World.ownsMap_made (w.alloc (.cells (platNew n) 78)) Try.prog 3 secR).alloc o
    rw [e1] at this
    exact this
  · intro k hk
    simp [Maps.has] at hk
  · omega
  · omega
end Go.Proofs.Ytgjnlocokkjejaa
