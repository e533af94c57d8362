/-
  PACKAGE wal's caught: what was panicked is answered.
-/
import Derived.Test.YtgjnlocokkjejaaWalDo
import Derived.Defers
import Derived.Recover
namespace Go.Proofs.Ytgjnlocokkjejaa
open Go.RowKit Go.Maps

theorem catch_idle (p : Addr) (w : World) :
    CallsD Try.prog 54 #[.pointer (some p)] .returning w fun e u' w' => e = .returned (.tuple #[]) ∧ u' = .returning ∧ w' = w := by
  refine callsD_of_wpS Try.func54 rfl fun c₀ cs hu => ?_
  apply wpS_seq
  apply wpS_region
  simp [wpOpsS, go_sem, recoverD, hu, Try.ntmps54, Exit.thenS]
  refine wpS_of_wp ?_
  change Code.wp Try.prog _ _ { tmps := #[.pointer (some p), undef, undef, undef, .nilIface, undef, undef, undef, undef, undef, undef], defers := [] } w
  go_wp2_with fail
  cases c₀
  simp_all [bodyPostS, results, Try.results54]
set_option maxHeartbeats 400000 in
theorem catch_panicking (p : Addr) (x : Int) (w : World) (hc : w.cell? p = some (.int .i64 x)) (hz : w.frozen? p = false) :
    CallsD Try.prog 54 #[.pointer (some p)] (.panicking (thrown 12)) w fun e u' w' => e = .returned (.tuple #[]) ∧ u' = .panicking [{ v := .iface 25 (.int .i64 12), recovered := true }] ∧ w' = w.setCell p (.int .i64 12) := by
  have hnil : ∀ w : World, (binOp BinOp.eql 20 (.iface 25 (.int .i64 12)) .nilIface).run Try.prog w = .ok (.bool false) w := fun _ => by kernel_rfl
  have hta : ∀ w : World, (Instr.typeAssert (.iface 25 (.int .i64 12)) 20 25 true).run Try.prog w = .ok (.tuple #[.int .i64 12, .bool true]) w := fun _ => by kernel_rfl
  refine callsD_of_wpS Try.func54 rfl fun c₀ cs hu => ?_
  apply wpS_seq
  apply wpS_region
  simp [wpOpsS, go_sem, recoverD, hu, thrown, Try.ntmps54, Exit.thenS]
  refine wpS_of_wp ?_
  change Code.wp Try.prog _ _ { tmps := #[.pointer (some p), undef, undef, undef, .iface 25 (.int .i64 12), undef, undef, undef, undef, undef, undef], defers := [] } w
  go_wp2_with fail
  simp [bodyPostS, results, Try.results54]

/-- What caught answers. -/
def codeOf (ok : Bool) : Int := if ok then 0 else 12

section
variable {w : World} {Φ : Bool → World → Prop} {S : List Nat}

set_option maxHeartbeats 1000000 in
theorem caught_settle (lb : Nat) (hS : w.heap.size ∉ S)
    (hc : Calls Try.prog 44 #[.pointer (some ⟨lb, 0, none⟩)] (w.alloc (.cells #[.int .i64 0] 25)) fun e w' => ∃ ok, e = endOf ok ∧ Φ ok w' ∧ Kept S (w.alloc (.cells #[.int .i64 0] 25)) w')
    (hΦ : ∀ ok W W', Φ ok W → Kept [w.heap.size] W W' → Φ ok W') :
    Calls Try.prog 43 #[.func (.func 44) #[.pointer (some ⟨lb, 0, none⟩)] #[]] w fun e w' => ∃ ok, e = .returned (.int .i64 (codeOf ok)) ∧ Φ ok w' ∧ Kept S w w' := by
  have hmf : ∀ (fn : Fn) (first cap : Array Value) (w : World), (Instr.makeFunc fn first cap).run Try.prog w = .ok (.func fn first cap) w := fun _ _ _ _ => rfl
  have ha : (w.alloc (.cells #[.int .i64 0] 25)).heap[w.heap.size]? = some (.cells #[.int .i64 0] 25 (0, 0)) := heap_alloc_new w _
  have ka : Kept [] w (w.alloc (.cells #[.int .i64 0] 25)) := Kept.of_alloc _ _ _
  have hl : w.heap.size < (w.alloc (.cells #[.int .i64 0] 25)).heap.size := (Array.getElem?_eq_some_iff.1 ha).1
  have hfin : ∀ W, Kept S (w.alloc (.cells #[.int .i64 0] 25)) W → ∀ v, Kept S w (W.setCell ⟨w.heap.size, 0, none⟩ v) := fun W k v => ((ka.mono (by simp)).trans k).setCell_new (Nat.le_refl _) _
  go_enter_defers Try.func43, Try.ntmps43
  go_wp2_with fail
  refine hc.mono ?_
  rintro e w1 ⟨ok, rfl, hP, k1⟩
  have h1 : w1.heap[w.heap.size]? = some (.cells #[.int .i64 0] 25 (0, 0)) := (k1.block _ hl hS).trans ha
  have c1 : w1.cell? ⟨w.heap.size, 0, none⟩ = some (.int .i64 0) := by simp [World.cell?, h1]
  have f1 : w1.frozen? ⟨w.heap.size, 0, none⟩ = false := by simp [World.frozen?, h1]
  have kset : ∀ v, Kept [w.heap.size] w1 (w1.setCell ⟨w.heap.size, 0, none⟩ v) := fun v => (Kept.refl _ _).setCell (by simp) v
  have hset : ∀ v, (w1.setCell ⟨w.heap.size, 0, none⟩ v).cell? ⟨w.heap.size, 0, none⟩ = some v := fun v => by
    have h2 := heap_setCell_at (o := 0) v h1
    simp [World.cell?, h2]
  clear hc ha
  cases ok with
  | true =>
    simp only [endOf_true]
    go_wp2_with fail
    refine leaves_cons (f := 54) (args := #[.pointer (some ⟨w.heap.size, 0, none⟩)]) (by simp) (by simp [go_sem]) ?_
    refine (catch_idle ⟨w.heap.size, 0, none⟩ _).mono ?_
    rintro e u' w'' ⟨rfl, rfl, rfl⟩
    simp [Leaves, settle, results, Try.results43, go_sem, hset]
    exact Or.inr ⟨rfl, hΦ _ _ _ hP (kset _), hfin _ k1 _⟩
  | false =>
    simp only [endOf_false]
    refine leaves_cons (f := 54) (args := #[.pointer (some ⟨w.heap.size, 0, none⟩)]) (by simp) (by simp [go_sem]) ?_
    refine (catch_panicking ⟨w.heap.size, 0, none⟩ 0 _ c1 f1).mono ?_
    rintro e u' w'' ⟨rfl, rfl, rfl⟩
    simp [Leaves, settle, results, Try.results43, go_sem, hset]
    exact Or.inl ⟨rfl, hΦ _ _ _ hP (kset _), hfin _ k1 _⟩
set_option maxHeartbeats 1000000 in
theorem caught_commit (xl xp : Addr) (hS : w.heap.size ∉ S)
    (hc : Calls Try.prog 46 #[.pointer (some xl), .pointer (some xp)] (w.alloc (.cells #[.int .i64 0] 25)) fun e w' => ∃ ok, e = endOf ok ∧ Φ ok w' ∧ Kept S (w.alloc (.cells #[.int .i64 0] 25)) w')
    (hΦ : ∀ ok W W', Φ ok W → Kept [w.heap.size] W W' → Φ ok W') :
    Calls Try.prog 43 #[.func (.func 46) #[] #[.pointer (some xl), .pointer (some xp)]] w fun e w' => ∃ ok, e = .returned (.int .i64 (codeOf ok)) ∧ Φ ok w' ∧ Kept S w w' := by
  have hmf : ∀ (fn : Fn) (first cap : Array Value) (w : World), (Instr.makeFunc fn first cap).run Try.prog w = .ok (.func fn first cap) w := fun _ _ _ _ => rfl
  have ha : (w.alloc (.cells #[.int .i64 0] 25)).heap[w.heap.size]? = some (.cells #[.int .i64 0] 25 (0, 0)) := heap_alloc_new w _
  have ka : Kept [] w (w.alloc (.cells #[.int .i64 0] 25)) := Kept.of_alloc _ _ _
  have hl : w.heap.size < (w.alloc (.cells #[.int .i64 0] 25)).heap.size := (Array.getElem?_eq_some_iff.1 ha).1
  have hfin : ∀ W, Kept S (w.alloc (.cells #[.int .i64 0] 25)) W → ∀ v, Kept S w (W.setCell ⟨w.heap.size, 0, none⟩ v) := fun W k v => ((ka.mono (by simp)).trans k).setCell_new (Nat.le_refl _) _
  go_enter_defers Try.func43, Try.ntmps43
  go_wp2_with fail
  refine hc.mono ?_
  rintro e w1 ⟨ok, rfl, hP, k1⟩
  have h1 : w1.heap[w.heap.size]? = some (.cells #[.int .i64 0] 25 (0, 0)) := (k1.block _ hl hS).trans ha
  have c1 : w1.cell? ⟨w.heap.size, 0, none⟩ = some (.int .i64 0) := by simp [World.cell?, h1]
  have f1 : w1.frozen? ⟨w.heap.size, 0, none⟩ = false := by simp [World.frozen?, h1]
  have kset : ∀ v, Kept [w.heap.size] w1 (w1.setCell ⟨w.heap.size, 0, none⟩ v) := fun v => (Kept.refl _ _).setCell (by simp) v
  have hset : ∀ v, (w1.setCell ⟨w.heap.size, 0, none⟩ v).cell? ⟨w.heap.size, 0, none⟩ = some v := fun v => by
    have h2 := heap_setCell_at (o := 0) v h1
    simp [World.cell?, h2]
  clear hc ha
  cases ok with
  | true =>
    simp only [endOf_true]
    go_wp2_with fail
    refine leaves_cons (f := 54) (args := #[.pointer (some ⟨w.heap.size, 0, none⟩)]) (by simp) (by simp [go_sem]) ?_
    refine (catch_idle ⟨w.heap.size, 0, none⟩ _).mono ?_
    rintro e u' w'' ⟨rfl, rfl, rfl⟩
    simp [Leaves, settle, results, Try.results43, go_sem, hset]
    exact Or.inr ⟨rfl, hΦ _ _ _ hP (kset _), hfin _ k1 _⟩
  | false =>
    simp only [endOf_false]
    refine leaves_cons (f := 54) (args := #[.pointer (some ⟨w.heap.size, 0, none⟩)]) (by simp) (by simp [go_sem]) ?_
    refine (catch_panicking ⟨w.heap.size, 0, none⟩ 0 _ c1 f1).mono ?_
    rintro e u' w'' ⟨rfl, rfl, rfl⟩
    simp [Leaves, settle, results, Try.results43, go_sem, hset]
    exact Or.inl ⟨rfl, hΦ _ _ _ hP (kset _), hfin _ k1 _⟩
end
end Go.Proofs.Ytgjnlocokkjejaa
