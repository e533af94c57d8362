/-
  A DISK AS PLAIN DATA: what is on the platter, what is in the buffer, when it stops; the operations that are done on it, one after another, till it stops; and package wal's read, write and flush.
-/
import Derived.Test.YtgjnlocokkjejaaWalBase
namespace Go.Proofs.Ytgjnlocokkjejaa
open Go.RowKit Go.Maps

structure Dsk where
  pl : Nat → List Int
  bf : Nat → Option (List Int)
  left : Int
  dead : Bool

namespace Dsk
/-- A sector as it was written last. -/
def newest (σ : Dsk) (k : Nat) : List Int := (σ.bf k).getD (σ.pl k)
def dec (l : Int) : Int := if 1 < l then l - 1 else l
def die (σ : Dsk) : Dsk := { σ with left := 0, dead := true }
end Dsk

/-- What is asked of a disk: a sector, or that all lasts. -/
abbrev DOp := Option (Nat × List Int)
abbrev DOp.w (k : Nat) (l : List Int) : DOp := some (k, l)
abbrev DOp.f : DOp := none

namespace Dsk
def ap (σ : Dsk) : DOp → Dsk
  | some (k, l) => { σ with bf := fun j => if j = k then some l else σ.bf j, left := dec σ.left }
  | none => { σ with pl := σ.newest, bf := fun _ => none, left := dec σ.left }
/-- One after another, till it stops: the disk then, and whether all were done. -/
def run (σ : Dsk) : List DOp → Dsk × Bool
  | [] => (σ, true)
  | o :: r => if σ.left = 1 then (σ.die, false) else run (σ.ap o) r

theorem run_nil (σ : Dsk) : σ.run [] = (σ, true) := rfl
theorem run_stop {σ : Dsk} (h : σ.left = 1) (o : DOp) (r : List DOp) : σ.run (o :: r) = (σ.die, false) := by simp [run, h]
theorem run_go {σ : Dsk} (h : σ.left ≠ 1) (o : DOp) (r : List DOp) : σ.run (o :: r) = (σ.ap o).run r := by simp [run, h]
theorem run_append : ∀ (a b : List DOp) (σ : Dsk), σ.run (a ++ b) = if (σ.run a).2 then (σ.run a).1.run b else σ.run a
  | [], b, σ => by simp [run]
  | o :: r, b, σ => by
    by_cases h : σ.left = 1
    · rw [List.cons_append, run_stop h, run_stop h]; rfl
    · rw [List.cons_append, run_go h, run_go h]; exact run_append r b _
end Dsk

/-- The buffer, as plain data. -/
def bfOf (D : DataW (List Int)) (k : Nat) : Option (List Int) := if Maps.has D (.int .i64 (k : Int)) then some (bufAt D k) else none

/-- A disk in memory. B: no more operations than that were done. -/
def DiskIs (w : World) (db pb mb n B : Nat) (σ : Dsk) : Prop :=
  ∃ nn D ops, DiskAt w db pb mb n nn σ.pl D ops σ.left σ.dead ∧ σ.bf = bfOf D ∧ nn ≤ B ∧ 0 ≤ ops ∧ ops ≤ B ∧ 0 ≤ σ.left ∧ σ.left < 1000000

/-- Whether an inner function comes back. -/
def endOf (ok : Bool) : Ending := if ok then .returned (.tuple #[]) else .panicked (thrown 12)

section
variable {w w' : World} {db pb mb n B : Nat} {σ : Dsk}

theorem DiskIs.kept {S : List Nat} (h : DiskIs w db pb mb n B σ) (k : Kept S w w') (h1 : db ∉ S) (h2 : pb ∉ S) (h3 : mb ∉ S) : DiskIs w' db pb mb n B σ := by
  obtain ⟨nn, D, ops, hD, r⟩ := h
  exact ⟨nn, D, ops, hD.kept k h1 h2 h3, r⟩
theorem DiskIs.mono {B' : Nat} (h : DiskIs w db pb mb n B σ) (hb : B ≤ B') : DiskIs w db pb mb n B' σ := by
  obtain ⟨nn, D, ops, hD, hf, h1, h2, h3, h4⟩ := h
  exact ⟨nn, D, ops, hD, hf, by omega, h2, by omega, h4⟩
theorem DiskIs.dbl (h : DiskIs w db pb mb n B σ) : db < w.heap.size := by obtain ⟨_, _, _, hD, _⟩ := h; exact hD.dbl
theorem DiskIs.pbl (h : DiskIs w db pb mb n B σ) : pb < w.heap.size := by obtain ⟨_, _, _, hD, _⟩ := h; exact hD.pbl
theorem DiskIs.mbl (h : DiskIs w db pb mb n B σ) : mb < w.heap.size := by obtain ⟨_, _, _, hD, _⟩ := h; exact hD.mbl
theorem DiskIs.nhi (h : DiskIs w db pb mb n B σ) : n ≤ 4096 := by obtain ⟨_, _, _, hD, _⟩ := h; exact hD.nhi
theorem DiskIs.left_lo (h : DiskIs w db pb mb n B σ) : 0 ≤ σ.left := by obtain ⟨_, _, _, _, _, _, _, _, h, _⟩ := h; exact h

theorem newest_of {pl : Nat → List Int} {bf : Nat → Option (List Int)} {l : Int} {d : Bool} {D : DataW (List Int)} (h : bf = bfOf D) (k : Nat) : newestOf D pl (k : Int) = Dsk.newest ⟨pl, bf, l, d⟩ k := by
  subst h
  simp only [newestOf, Dsk.newest, bfOf]
  by_cases hh : Maps.has D (.int .i64 (k : Int)) = true
  · rw [if_pos hh, if_pos hh]; rfl
  · rw [if_neg hh, if_neg hh]; simp

theorem DiskIs.sec (h : DiskIs w db pb mb n B σ) (k : Nat) (hk : k < n) : Sec (σ.newest k) := by
  obtain ⟨nn, D, ops, hD, hf, _⟩ := h
  have := hD.newest_sec (k : Int) (by omega) (by omega)
  rw [newest_of hf] at this
  exact this

theorem bf_put {D : DataW (List Int)} (hm : IsMap D) (k : Nat) (l : List Int) : bfOf (D.put (.int .i64 (k : Int)) (.held l)) = fun j => if j = k then some l else bfOf D j := by
  funext j
  by_cases e : j = k
  · subst e
    simp only [bfOf, if_true, bufAt]
    rw [if_pos (Maps.has_put_same hm (by simp [WideAt.IsKeyLit]) _), Maps.atKey_put_same hm (by simp [WideAt.IsKeyLit])]
  · have e' : (Lit.int .i64 (j : Int)) ≠ .int .i64 (k : Int) := by
      intro h
      injection h with _ h
      omega
    simp only [bfOf, e, if_false, bufAt]
    rw [Maps.has_put_other e', Maps.atKey_put_other e']

theorem bf_none : bfOf (.map []) = fun _ => none := by
  funext k
  rfl

set_option maxHeartbeats 1000000 in
/-- write. -/
theorem lwrite_any (h : DiskIs w db pb mb n B σ) (hd : σ.dead = false) (lb : Nat) (hlb : w.cell? ⟨lb, 0, none⟩ = some (.pointer (some ⟨db, 0, none⟩))) (k : Nat) (hk : k < n) (l : List Int) (hl : Sec l) (bb bo cap : Nat) (hr : w.rangeAt bb bo (cellsOf l)) (hbb : bb ≠ db) (hB : B < 900000) :
    Calls Try.prog 66 #[.pointer (some ⟨lb, 0, none⟩), .int .i64 (k : Int), .slice (some ⟨bb, bo, none⟩) 128 cap] w fun e w' =>
      e = endOf (σ.run [.w k l]).2 ∧ DiskIs w' db pb mb n (B + 1) (σ.run [.w k l]).1 ∧ Kept [db, pb, mb] w w' := by
  obtain ⟨nn, D, ops, hD, hf, h1, h2, h3, h4, h5⟩ := h
  rw [hd] at hD
  by_cases hs : σ.left = 1
  · rw [Dsk.run_stop hs]
    have cW := write_stops hD (k : Int) (some ⟨bb, bo, none⟩) cap (by omega) (by omega) hs
    have cM := must_dies
    go_enter Try.func66, Try.ntmps66
    go_wp2_with fail
    refine cW.mono ?_
    rintro e w1 ⟨rfl, d1, k1⟩
    go_wp2_with fail
    refine (cM w1).mono ?_
    rintro e w2 ⟨rfl, rfl⟩
    refine died ⟨rfl, ⟨nn, D, ops, d1, hf, by omega, h2, by omega, Int.le_refl 0, (by decide : (0 : Int) < 1000000)⟩, k1.mono (by simp)⟩
  · rw [Dsk.run_go hs, Dsk.run_nil]
    have cW := write_any hD (k : Int) l hl bb bo cap hr hbb (by omega) (by omega) (by omega) h2 (by omega) hs (by omega)
    have cM := must_ok
    have hfin : ∀ W, DiskAt W db pb mb n (nn + 1) σ.pl (D.put (.int .i64 (k : Int)) (.held l)) (ops + 1) (if 1 < σ.left then σ.left - 1 else σ.left) false → DiskIs W db pb mb n (B + 1) (σ.ap (.w k l)) := by
      intro W dW
      refine ⟨nn + 1, _, ops + 1, by rw [← hd] at dW; exact dW, by rw [bf_put hD.buf.isMap, ← hf]; rfl, by omega, by omega, by omega, ?_, ?_⟩
      · show 0 ≤ Dsk.dec σ.left
        unfold Dsk.dec; split <;> omega
      · show Dsk.dec σ.left < 1000000
        unfold Dsk.dec; split <;> omega
    go_enter Try.func66, Try.ntmps66
    go_wp2_with fail
    refine cW.mono ?_
    rintro e w1 ⟨rfl, d1, k1⟩
    go_wp2_with fail
    refine (cM w1).mono ?_
    rintro e w2 ⟨rfl, rfl⟩
    go_wp2
    go_end0
    exact ⟨rfl, hfin _ d1, k1.mono (by simp)⟩

set_option maxHeartbeats 1000000 in
/-- flush. -/
theorem lflush_any (h : DiskIs w db pb mb n B σ) (hd : σ.dead = false) (lb : Nat) (hlb : w.cell? ⟨lb, 0, none⟩ = some (.pointer (some ⟨db, 0, none⟩))) (hB : B < 900000) :
    Calls Try.prog 68 #[.pointer (some ⟨lb, 0, none⟩)] w fun e w' =>
      e = endOf (σ.run [.f]).2 ∧ DiskIs w' db pb mb n (B + 1) (σ.run [.f]).1 ∧ Kept [db, pb, mb] w w' := by
  obtain ⟨nn, D, ops, hD, hf, h1, h2, h3, h4, h5⟩ := h
  rw [hd] at hD
  by_cases hs : σ.left = 1
  · rw [Dsk.run_stop hs]
    have cW := flush_stops hD hs
    have cM := must_dies
    go_enter Try.func68, Try.ntmps68
    go_wp2_with fail
    refine cW.mono ?_
    rintro e w1 ⟨rfl, d1, k1⟩
    go_wp2_with fail
    refine (cM w1).mono ?_
    rintro e w2 ⟨rfl, rfl⟩
    refine died ⟨rfl, ⟨nn, D, ops, d1, hf, by omega, h2, by omega, Int.le_refl 0, (by decide : (0 : Int) < 1000000)⟩, k1.mono (by simp)⟩
  · rw [Dsk.run_go hs, Dsk.run_nil]
    have cW := flush_any hD h2 (by omega) hs (by omega)
    have cM := must_ok
    have hfin : ∀ W, DiskAt W db pb mb n 0 (fun j : Nat => newestOf D σ.pl j) (.map []) (ops + 1) (if 1 < σ.left then σ.left - 1 else σ.left) false → DiskIs W db pb mb n (B + 1) (σ.ap .f) := by
      intro W dW
      have e : (fun j : Nat => newestOf D σ.pl j) = (σ.ap .f).pl := by
        funext j
        exact newest_of hf j
      rw [e, ← hd] at dW
      refine ⟨0, _, ops + 1, dW, by rw [bf_none]; rfl, by omega, by omega, by omega, ?_, ?_⟩
      · show 0 ≤ Dsk.dec σ.left
        unfold Dsk.dec; split <;> omega
      · show Dsk.dec σ.left < 1000000
        unfold Dsk.dec; split <;> omega
    go_enter Try.func68, Try.ntmps68
    go_wp2_with fail
    refine cW.mono ?_
    rintro e w1 ⟨rfl, d1, k1⟩
    go_wp2_with fail
    refine (cM w1).mono ?_
    rintro e w2 ⟨rfl, rfl⟩
    go_wp2
    go_end0
    exact ⟨rfl, hfin _ d1, k1.mono (by simp)⟩

set_option maxHeartbeats 1000000 in
/-- Disk.Read, of a sector that there is. -/
theorem dread_any (h : DiskIs w db pb mb n B σ) (hd : σ.dead = false) (k : Nat) (hk : k < n) :
    Calls Try.prog 14 #[.pointer (some ⟨db, 0, none⟩), .int .i64 (k : Int)] w fun e w' => ∃ g, e = .returned (.tuple #[.slice (some ⟨g, 0, none⟩) 128 128, .int .i64 0]) ∧ w.heap.size ≤ g ∧ Row w' g (σ.newest k) ∧ Kept [] w w' := by
  obtain ⟨nn, D, ops, hD, hf, h1, h2, h3, h4, h5⟩ := h
  rw [hd] at hD
  have cW := read_any hD (k : Int) (by omega) (by omega)
  rw [newest_of (l := σ.left) (d := σ.dead) hf] at cW
  exact cW
/-- .. that there is not. -/
theorem dread_none (h : DiskIs w db pb mb n B σ) (hd : σ.dead = false) (k : Int) (hk : k < 0 ∨ (n : Int) ≤ k) :
    Calls Try.prog 14 #[.pointer (some ⟨db, 0, none⟩), .int .i64 k] w fun e w' => e = .returned (.tuple #[.slice none 0 0, .int .i64 1]) ∧ w' = w := by
  obtain ⟨nn, D, ops, hD, hf, h1, h2, h3, h4, h5⟩ := h
  rw [hd] at hD
  refine read_refuses hD k ?_
  rcases hk with hk | hk
  · rw [decide_eq_false (by omega)]; rfl
  · rw [decide_eq_false (p := k < (n : Int)) (by omega), Bool.and_false]

set_option maxHeartbeats 1000000 in
/-- read. -/
theorem lread_any (h : DiskIs w db pb mb n B σ) (hd : σ.dead = false) (lb : Nat) (hlb : w.cell? ⟨lb, 0, none⟩ = some (.pointer (some ⟨db, 0, none⟩))) (k : Nat) (hk : k < n) :
    Calls Try.prog 55 #[.pointer (some ⟨lb, 0, none⟩), .int .i64 (k : Int)] w fun e w' => ∃ g, e = .returned (.slice (some ⟨g, 0, none⟩) 128 128) ∧ w.heap.size ≤ g ∧ Row w' g (σ.newest k) ∧ Kept [] w w' := by
  have cR := dread_any h hd k hk
  have cM := must_ok
  go_enter Try.func55, Try.ntmps55
  go_wp2_with fail
  refine cR.mono ?_
  rintro e w1 ⟨g, rfl, hg, hr, k1⟩
  go_wp2_with fail
  refine (cM w1).mono ?_
  rintro e w2 ⟨rfl, rfl⟩
  go_wp2
  go_ret
  exact ⟨g, rfl, hg, hr, k1⟩
end
end Go.Proofs.Ytgjnlocokkjejaa
