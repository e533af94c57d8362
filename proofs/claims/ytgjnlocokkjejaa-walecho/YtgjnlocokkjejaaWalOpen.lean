/-
  PACKAGE wal's sectors (by sort.Search), Open, Read, Seq.
-/
import Derived.Test.YtgjnlocokkjejaaWalCaught
import Derived.Test.YtgjnlocokkjejaaWalCheck
namespace Go.Proofs.Ytgjnlocokkjejaa
open Go.RowKit Go.Maps

section
variable {w : World} {lb db pb mb n B : Nat} {σ : Dsk} {s : Int}

set_option maxHeartbeats 1000000 in
/-- Whether a sector is one that a disk hasn't. -/
theorem beyond_any (h : DiskIs w db pb mb n B σ) (hd : σ.dead = false) (bx : Nat) (hb : w.cell? ⟨bx, 0, none⟩ = some (.pointer (some ⟨db, 0, none⟩))) (k : Int) (h0 : 0 ≤ k) :
    Calls Try.prog 53 #[.int .i64 k, .pointer (some ⟨bx, 0, none⟩)] w fun e w' => e = .returned (.bool (decide ((n : Int) ≤ k))) ∧ Kept [] w w' := by
  by_cases hk : (n : Int) ≤ k
  · have cR := dread_none h hd k (Or.inr (by omega))
    rw [decide_eq_true hk]
    clear hk
    go_enter Try.func53, Try.ntmps53
    go_wp2_with fail
    refine cR.mono ?_
    rintro e w1 ⟨rfl, rfl⟩
    go_wp2
    go_ret
    exact ⟨rfl, Kept.refl _ _⟩
  · have cR := dread_any h hd k.toNat (by omega)
    rw [show ((k.toNat : Nat) : Int) = k by omega] at cR
    rw [decide_eq_false hk]
    clear hk
    go_enter Try.func53, Try.ntmps53
    go_wp2_with fail
    refine cR.mono ?_
    rintro e w1 ⟨g, rfl, hg, hr, k1⟩
    go_wp2
    go_ret
    exact ⟨rfl, k1⟩

set_option maxHeartbeats 1000000 in
theorem search_any (h : DiskIs w db pb mb n B σ) (hd : σ.dead = false) (bx : Nat) (hb : w.cell? ⟨bx, 0, none⟩ = some (.pointer (some ⟨db, 0, none⟩))) :
    Calls Try.prog 52 #[.int .i64 4096, .func (.func 53) #[] #[.pointer (some ⟨bx, 0, none⟩)]] w fun e w' => e = .returned (.int .i64 (n : Int)) ∧ Kept [] w w' := by
  have hn := h.nhi
  have hbl : bx < w.heap.size := World.block_lt_of_cell? w _ hb
  obtain ⟨z, hz⟩ : ∃ z : Int, (n : Int) = z := ⟨_, rfl⟩
  have hz0 : 0 ≤ z := by omega
  have hz1 : z ≤ 4096 := by omega
  have cB : ∀ (W : World), Kept [] w W → ∀ k : Int, 0 ≤ k → Calls Try.prog 53 #[.int .i64 k, .pointer (some ⟨bx, 0, none⟩)] W fun e w' => e = .returned (.bool (decide (z ≤ k))) ∧ Kept [] W w' := fun W kW k hk => by
    have := beyond_any (h.kept kW (by simp) (by simp) (by simp)) hd bx ((World.cell?_of_block (kW.block bx hbl (by simp))).trans hb) k hk
    rwa [hz] at this
  rw [hz]
  clear hz hn h hb
  go_enter Try.func52, Try.ntmps52
  go_wp2_with fail
  go_loopw [5, 6] (fun t5 t6 wr => ∃ i j : Int, 0 ≤ i ∧ i ≤ z ∧ z ≤ j ∧ j ≤ 4096 ∧ t5 = .int .i64 i ∧ t6 = .int .i64 j ∧ Kept [] w wr) (fun t5 t6 _ => (Go.RowKit.intOf t6).toNat - (Go.RowKit.intOf t5).toNat)
  case atStart => exact ⟨0, 4096, by omega, by omega, by omega, by omega, rfl, rfl, Kept.refl _ _⟩
  case round =>
    obtain ⟨i, j, hi0, hi1, hj0, hj1, rfl, rfl, kq⟩ := hrel
    by_cases hlt : i < j
    · have cb := cB wr kq
      clear cB
      go_wp2_with fail
      refine (cb _ (by omega)).mono ?_
      rintro e w1 ⟨rfl, k1⟩
      clear cb
      have kf := kq.trans k1
      obtain ⟨h, hh⟩ : ∃ h, (i + j) / 2 = h := ⟨_, rfl⟩
      have hh0 : i ≤ h := by omega
      have hh1 : h < j := by omega
      rw [hh]
      clear hh
      by_cases hc : z ≤ h
      · rw [decide_eq_true hc]
        go_wp2_with fail
        go_roundw
        case rel => exact ⟨i, h, hi0, hi1, hc, by omega, rfl, rfl, kf⟩
        case measure => simp [Go.RowKit.intOf]; omega
      · rw [decide_eq_false hc]
        go_wp2_with fail
        go_roundw
        case rel => exact ⟨h + 1, j, by omega, by omega, hj0, hj1, rfl, rfl, kf⟩
        case measure => simp [Go.RowKit.intOf]; omega
    · obtain rfl : i = z := by omega
      clear cB
      go_wp2
      go_ret
      exact ⟨rfl, kq⟩

set_option maxHeartbeats 1000000 in
theorem sectors_any (h : DiskIs w db pb mb n B σ) (hd : σ.dead = false) :
    Calls Try.prog 42 #[.pointer (some ⟨db, 0, none⟩)] w fun e w' => e = .returned (.int .i64 (n : Int)) ∧ Kept [] w w' := by
  have hmf : ∀ (fn : Fn) (first cap : Array Value) (w : World), (Instr.makeFunc fn first cap).run Try.prog w = .ok (.func fn first cap) w := fun _ _ _ _ => rfl
  have ha : (w.alloc (.cells #[.pointer (some ⟨db, 0, none⟩)] 24)).heap[w.heap.size]? = some (.cells #[.pointer (some ⟨db, 0, none⟩)] 24 (0, 0)) := heap_alloc_new w _
  have ka : Kept [] w (w.alloc (.cells #[.pointer (some ⟨db, 0, none⟩)] 24)) := Kept.of_alloc _ _ _
  have b0 : (w.alloc (.cells #[.pointer (some ⟨db, 0, none⟩)] 24)).cell? ⟨w.heap.size, 0, none⟩ = some (.pointer (some ⟨db, 0, none⟩)) := by rw [cell_of_row _ _ _ _ _ (0, 0) ha]; rfl
  have cS := search_any (h.kept ka (by simp) (by simp) (by simp)) hd w.heap.size b0
  go_enter Try.func42, Try.ntmps42
  go_wp2_with fail
  refine cS.mono ?_
  rintro e w1 ⟨rfl, k1⟩
  clear cS
  have kf := ka.trans k1
  go_wp2
  go_ret
  exact ⟨rfl, kf⟩

/-- Nothing is due. -/
structure IdleOn (σ : Dsk) (s : Int) : Prop where
  state : (σ.newest 0).getD 8 0 ≠ 1
  seq : le ((σ.newest 0).take 8) = s
  lo : 0 ≤ s
  hi : s < 999999
/-- A commit is due. -/
structure DueOn (σ : Dsk) (n m : Nat) : Prop where
  state : (σ.newest 0).getD 8 0 = 1
  h63 : le ((σ.newest 0).take 8) < 9223372036854775808
  count : (σ.newest 1).getD 8 0 = (m : Int)
  few : m ≤ 40
  l63 : le ((σ.newest 1).take 8) < 9223372036854775808
  nums : ∀ j, j < m → 42 ≤ num (σ.newest 1) j ∧ num (σ.newest 1) j < n

theorem Kept.fewer {S T : List Nat} {a b : World} (h : Kept S a b) (hs : ∀ x ∈ S, x ∈ T ∨ a.heap.size ≤ x) : Kept T a b :=
  ⟨h.os, h.tape, h.output, h.size, fun i hi ht => h.block i hi (fun e => by rcases hs i e with h1 | h1; exact ht h1; omega)⟩

theorem settled_idle {s0 : Int} (h : LogIs w lb db pb mb n B σ s0) (hd : σ.dead = false) (hn : 42 < n) (hI : IdleOn σ s) :
    Calls Try.prog 43 #[.func (.func 44) #[.pointer (some ⟨lb, 0, none⟩)] #[]] w fun e w' => e = .returned (.int .i64 0) ∧ LogIs w' lb db pb mb n B σ s ∧ Kept [lb] w w' := by
  have hdb := h.disk.dbl
  have hpb := h.disk.pbl
  have hmb := h.disk.mbl
  have hlb := h.lbl
  have c := settle_idle (h.alloc (.cells #[.int .i64 0] 25)) hd hn hI.state (by rw [hI.seq]; have := hI.hi; omega)
  rw [hI.seq] at c
  refine (caught_settle (w := w) (Φ := fun ok W => ok = true ∧ LogIs W lb db pb mb n B σ s) (S := [lb]) lb (by simp; omega) (c.mono fun e w' ⟨he, hL, hk⟩ => ⟨true, he, ⟨rfl, hL⟩, hk⟩) (fun ok W W' ⟨h1, h2⟩ k => ⟨h1, h2.kept k (by simp; omega) (by simp; omega) (by simp; omega) (by simp; omega)⟩)).mono ?_
  rintro e w1 ⟨ok, he, ⟨rfl, hL⟩, hk⟩
  exact ⟨he, hL, hk⟩

theorem settled_due {s0 : Int} {m : Nat} (h : LogIs w lb db pb mb n B σ s0) (hd : σ.dead = false) (hn : 42 < n) (hB : B < 600000) (hI : DueOn σ n m) :
    Calls Try.prog 43 #[.func (.func 44) #[.pointer (some ⟨lb, 0, none⟩)] #[]] w fun e w' => e = .returned (.int .i64 (codeOf (σ.run (dueOps σ (σ.newest 1) m)).2)) ∧
      LogIs w' lb db pb mb n (B + 43) (σ.run (dueOps σ (σ.newest 1) m)).1 (le ((σ.newest 1).take 8)) ∧ Kept [db, pb, mb, lb] w w' := by
  have hdb := h.disk.dbl
  have hpb := h.disk.pbl
  have hmb := h.disk.mbl
  have hlb := h.lbl
  have c := settle_due (h.alloc (.cells #[.int .i64 0] 25)) hd hn hB hI.state hI.h63 m hI.count hI.few hI.l63 hI.nums
  generalize σ.run (dueOps σ (σ.newest 1) m) = r at c ⊢
  refine (caught_settle (w := w) (Φ := fun ok W => ok = r.2 ∧ LogIs W lb db pb mb n (B + 43) r.1 (le ((σ.newest 1).take 8))) (S := [db, pb, mb, lb]) lb (by simp; omega) (c.mono fun e w' ⟨he, hL, hk⟩ => ⟨r.2, he, ⟨rfl, hL⟩, hk⟩) (fun ok W W' ⟨h1, h2⟩ k => ⟨h1, h2.kept k (by simp; omega) (by simp; omega) (by simp; omega) (by simp; omega)⟩)).mono ?_
  rintro e w1 ⟨ok, he, ⟨rfl, hL⟩, hk⟩
  exact ⟨he, hL, hk⟩

set_option maxHeartbeats 1000000 in
theorem open_dead (h : DiskIs w db pb mb n B σ) (hd : σ.dead = true) :
    Calls Try.prog 25 #[.pointer (some ⟨db, 0, none⟩)] w fun e w' => e = .returned (.tuple #[.pointer none, .int .i64 12]) ∧ w' = w := by
  obtain ⟨nn, D, ops, hD, hf, h1, h2, h3, h4, h5⟩ := h
  rw [hd] at hD
  have cR := read_dead hD 42
  go_enter Try.func25, Try.ntmps25
  go_wp2_with fail
  refine cR.mono ?_
  rintro e w1 ⟨rfl, rfl⟩
  go_wp2
  go_ret2
  exact ⟨rfl, rfl⟩
set_option maxHeartbeats 1000000 in
theorem open_small (h : DiskIs w db pb mb n B σ) (hd : σ.dead = false) (hn : n ≤ 42) :
    Calls Try.prog 25 #[.pointer (some ⟨db, 0, none⟩)] w fun e w' => e = .returned (.tuple #[.pointer none, .int .i64 1]) ∧ w' = w := by
  have cR := dread_none h hd 42 (Or.inr (by omega))
  go_enter Try.func25, Try.ntmps25
  go_wp2_with fail
  refine cR.mono ?_
  rintro e w1 ⟨rfl, rfl⟩
  go_wp2
  go_ret2
  exact ⟨rfl, rfl⟩

theorem DiskIs.log (h : DiskIs w db pb mb n B σ) : LogIs (w.alloc (.cells #[.pointer (some ⟨db, 0, none⟩), .int .i64 (n : Int), .int .i64 0] 89)) w.heap.size db pb mb n B σ 0 :=
  ⟨h.kept (Kept.of_alloc [] _ _) (by simp) (by simp) (by simp), heap_alloc_new w _, by have := h.dbl; omega, by have := h.pbl; omega, by have := h.mbl; omega⟩

set_option maxHeartbeats 1000000 in
/-- Open, where nothing is due. -/
theorem open_idle (h : DiskIs w db pb mb n B σ) (hd : σ.dead = false) (hn : 42 < n) (hI : IdleOn σ s) :
    Calls Try.prog 25 #[.pointer (some ⟨db, 0, none⟩)] w fun e w' => ∃ lb, e = .returned (.tuple #[.pointer (some ⟨lb, 0, none⟩), .int .i64 0]) ∧ w.heap.size ≤ lb ∧ LogIs w' lb db pb mb n B σ s ∧ Kept [] w w' := by
  have hmf : ∀ (fn : Fn) (first cap : Array Value) (w : World), (Instr.makeFunc fn first cap).run Try.prog w = .ok (.func fn first cap) w := fun _ _ _ _ => rfl
  have hdb := h.dbl
  have hpb := h.pbl
  have hmb := h.mbl
  have cR := dread_any h hd 42 hn
  go_enter Try.func25, Try.ntmps25
  go_wp2_with fail
  refine cR.mono ?_
  rintro e w1 ⟨g, rfl, hg, hr, k1⟩
  clear cR hr
  have h1 := h.kept k1 (by simp) (by simp) (by simp)
  have cS := sectors_any h1 hd
  go_wp2_with fail
  refine cS.mono ?_
  rintro e w2 ⟨rfl, k2⟩
  clear cS
  have h2 := h1.kept k2 (by simp) (by simp) (by simp)
  have L3 := h2.log
  have k3 : Kept [] w (w2.alloc (.cells #[.pointer (some ⟨db, 0, none⟩), .int .i64 (n : Int), .int .i64 0] 89)) := (k1.trans k2).alloc _
  have hlb : w.heap.size ≤ w2.heap.size := (k1.trans k2).size
  clear h1 h2 k1 k2
  go_wp2_with fail
  generalize w2.alloc (.cells #[.pointer (some ⟨db, 0, none⟩), .int .i64 (n : Int), .int .i64 0] 89) = w3 at L3 k3 ⊢
  generalize w2.heap.size = lb at L3 hlb ⊢
  refine (settled_idle L3 hd hn hI).mono ?_
  rintro e w4 ⟨rfl, L4, k4⟩
  clear L3
  have kf := (k3.mono (T := [lb]) (by simp)).trans k4
  go_wp2
  go_ret2
  exact ⟨lb, rfl, hlb, L4, kf.fewer (by simp; omega)⟩

set_option maxHeartbeats 1000000 in
/-- Open, where a commit is due. -/
theorem open_due_ok (h : DiskIs w db pb mb n B σ) (hd : σ.dead = false) (hn : 42 < n) (hB : B < 600000) {m : Nat} (hI : DueOn σ n m) {σ1 : Dsk} (hr : σ.run (dueOps σ (σ.newest 1) m) = (σ1, true)) :
    Calls Try.prog 25 #[.pointer (some ⟨db, 0, none⟩)] w fun e w' => ∃ lb, e = .returned (.tuple #[.pointer (some ⟨lb, 0, none⟩), .int .i64 0]) ∧ w.heap.size ≤ lb ∧ LogIs w' lb db pb mb n (B + 43) σ1 (le ((σ.newest 1).take 8)) ∧ Kept [db, pb, mb] w w' := by
  have hmf : ∀ (fn : Fn) (first cap : Array Value) (w : World), (Instr.makeFunc fn first cap).run Try.prog w = .ok (.func fn first cap) w := fun _ _ _ _ => rfl
  have hdb := h.dbl
  have hpb := h.pbl
  have hmb := h.mbl
  have cR := dread_any h hd 42 hn
  go_enter Try.func25, Try.ntmps25
  go_wp2_with fail
  refine cR.mono ?_
  rintro e w1 ⟨g, rfl, hg, hr, k1⟩
  clear cR hr
  have h1 := h.kept k1 (by simp) (by simp) (by simp)
  have cS := sectors_any h1 hd
  go_wp2_with fail
  refine cS.mono ?_
  rintro e w2 ⟨rfl, k2⟩
  clear cS
  have h2 := h1.kept k2 (by simp) (by simp) (by simp)
  have L3 := h2.log
  have k3 : Kept [] w (w2.alloc (.cells #[.pointer (some ⟨db, 0, none⟩), .int .i64 (n : Int), .int .i64 0] 89)) := (k1.trans k2).alloc _
  have hlb : w.heap.size ≤ w2.heap.size := (k1.trans k2).size
  clear h1 h2 k1 k2
  go_wp2_with fail
  generalize w2.alloc (.cells #[.pointer (some ⟨db, 0, none⟩), .int .i64 (n : Int), .int .i64 0] 89) = w3 at L3 k3 ⊢
  generalize w2.heap.size = lb at L3 hlb ⊢
  have cD := settled_due L3 hd hn hB hI
  rw [hr] at cD
  clear hr
  refine cD.mono ?_
  rintro e w4 ⟨rfl, L4, k4⟩
  simp only [codeOf, if_true]
  clear L3 cD
  have kf := (k3.mono (T := [db, pb, mb, lb]) (by simp)).trans k4
  go_wp2
  go_ret2
  exact ⟨lb, rfl, hlb, L4, kf.fewer (by simp; omega)⟩

set_option maxHeartbeats 1000000 in
/-- Open, where a commit is due. -/
theorem open_due_dies (h : DiskIs w db pb mb n B σ) (hd : σ.dead = false) (hn : 42 < n) (hB : B < 600000) {m : Nat} (hI : DueOn σ n m) {σ1 : Dsk} (hr : σ.run (dueOps σ (σ.newest 1) m) = (σ1, false)) :
    Calls Try.prog 25 #[.pointer (some ⟨db, 0, none⟩)] w fun e w' => e = .returned (.tuple #[.pointer none, .int .i64 12]) ∧ DiskIs w' db pb mb n (B + 43) σ1 ∧ Kept [db, pb, mb] w w' := by
  have hmf : ∀ (fn : Fn) (first cap : Array Value) (w : World), (Instr.makeFunc fn first cap).run Try.prog w = .ok (.func fn first cap) w := fun _ _ _ _ => rfl
  have hdb := h.dbl
  have hpb := h.pbl
  have hmb := h.mbl
  have cR := dread_any h hd 42 hn
  go_enter Try.func25, Try.ntmps25
  go_wp2_with fail
  refine cR.mono ?_
  rintro e w1 ⟨g, rfl, hg, hr, k1⟩
  clear cR hr
  have h1 := h.kept k1 (by simp) (by simp) (by simp)
  have cS := sectors_any h1 hd
  go_wp2_with fail
  refine cS.mono ?_
  rintro e w2 ⟨rfl, k2⟩
  clear cS
  have h2 := h1.kept k2 (by simp) (by simp) (by simp)
  have L3 := h2.log
  have k3 : Kept [] w (w2.alloc (.cells #[.pointer (some ⟨db, 0, none⟩), .int .i64 (n : Int), .int .i64 0] 89)) := (k1.trans k2).alloc _
  have hlb : w.heap.size ≤ w2.heap.size := (k1.trans k2).size
  clear h1 h2 k1 k2
  go_wp2_with fail
  generalize w2.alloc (.cells #[.pointer (some ⟨db, 0, none⟩), .int .i64 (n : Int), .int .i64 0] 89) = w3 at L3 k3 ⊢
  generalize w2.heap.size = lb at L3 hlb ⊢
  have cD := settled_due L3 hd hn hB hI
  rw [hr] at cD
  clear hr
  refine cD.mono ?_
  rintro e w4 ⟨rfl, L4, k4⟩
  simp only [codeOf]
  clear L3 cD
  have kf := (k3.mono (T := [db, pb, mb, lb]) (by simp)).trans k4
  go_wp2
  go_ret2
  exact ⟨rfl, L4.disk, kf.fewer (by simp; omega)⟩

set_option maxHeartbeats 1000000 in
/-- Seq, where nothing is due. -/
theorem seq_idle {s0 : Int} (h : LogIs w lb db pb mb n B σ s0) (hd : σ.dead = false) (hn : 42 < n) (hI : IdleOn σ s) :
    Calls Try.prog 31 #[.pointer (some ⟨lb, 0, none⟩)] w fun e w' => e = .returned (.int .i64 s) ∧ LogIs w' lb db pb mb n B σ s ∧ Kept [lb] w w' := by
  have hmf : ∀ (fn : Fn) (first cap : Array Value) (w : World), (Instr.makeFunc fn first cap).run Try.prog w = .ok (.func fn first cap) w := fun _ _ _ _ => rfl
  have cS := settled_idle h hd hn hI
  go_enter Try.func31, Try.ntmps31
  go_wp2_with fail
  refine cS.mono ?_
  rintro e w1 ⟨rfl, L1, k1⟩
  clear cS
  have c2 := L1.c2
  go_wp2
  go_ret
  exact ⟨rfl, L1, k1⟩

set_option maxHeartbeats 1000000 in
/-- Read, where nothing is due. -/
theorem lRead_any {s0 : Int} (h : LogIs w lb db pb mb n B σ s0) (hd : σ.dead = false) (hn : 42 < n) (hI : IdleOn σ s) (k : Int) (h0 : 42 ≤ k) (h1 : k < n) :
    Calls Try.prog 33 #[.pointer (some ⟨lb, 0, none⟩), .int .i64 k] w fun e w' => ∃ g, e = .returned (.tuple #[.slice (some ⟨g, 0, none⟩) 128 128, .int .i64 0]) ∧ w.heap.size ≤ g ∧ Row w' g (σ.newest k.toNat) ∧ LogIs w' lb db pb mb n B σ s ∧ Kept [lb] w w' := by
  have hmf : ∀ (fn : Fn) (first cap : Array Value) (w : World), (Instr.makeFunc fn first cap).run Try.prog w = .ok (.func fn first cap) w := fun _ _ _ _ => rfl
  have c0 := h.c0
  have cd : Calls Try.prog 22 #[.pointer (some ⟨db, 0, none⟩)] w fun e w' => e = .returned (.bool false) ∧ w' = w := by
    obtain ⟨nn, D, ops, hD, _⟩ := h.disk
    rw [hd] at hD
    exact dead_any hD
  have ch := lhas_any h k
  rw [decide_eq_true h0, decide_eq_true h1] at ch
  simp only [Bool.and_self] at ch
  have cS := settled_idle h hd hn hI
  go_enter Try.func33, Try.ntmps33
  go_wp2_with fail
  refine cd.mono ?_
  rintro e wa ⟨rfl, rfl⟩
  go_wp2_with fail
  refine ch.mono ?_
  rintro e wb ⟨rfl, rfl⟩
  go_wp2_with fail
  refine cS.mono ?_
  rintro e w1 ⟨rfl, L1, k1⟩
  clear cS ch cd c0
  have c0 := L1.c0
  have cR := dread_any L1.disk hd k.toNat (by omega)
  rw [show ((k.toNat : Nat) : Int) = k by omega] at cR
  go_wp2_with fail
  refine cR.mono ?_
  rintro e w2 ⟨g, rfl, hg, hr, k2⟩
  clear cR
  have hgg : wb.heap.size ≤ g := by have := k1.size; omega
  have L2 := L1.same k2
  have kf := k1.trans (k2.mono (by simp))
  go_wp2
  go_ret2
  exact ⟨g, rfl, hgg, hr, L2, kf⟩
set_option maxHeartbeats 1000000 in
/-- Read, of no sector of the user's. -/
theorem lRead_none (h : LogIs w lb db pb mb n B σ s) (hd : σ.dead = false) (k : Int) (h0 : k < 42 ∨ (n : Int) ≤ k) :
    Calls Try.prog 33 #[.pointer (some ⟨lb, 0, none⟩), .int .i64 k] w fun e w' => e = .returned (.tuple #[.slice none 0 0, .int .i64 1]) ∧ w' = w := by
  have c0 := h.c0
  have cd : Calls Try.prog 22 #[.pointer (some ⟨db, 0, none⟩)] w fun e w' => e = .returned (.bool false) ∧ w' = w := by
    obtain ⟨nn, D, ops, hD, _⟩ := h.disk
    rw [hd] at hD
    exact dead_any hD
  have ch := lhas_any h k
  have hf : (decide (42 ≤ k) && decide (k < (n : Int))) = false := by
    rcases h0 with h0 | h0
    · rw [decide_eq_false (by omega)]; rfl
    · rw [decide_eq_false (p := k < (n : Int)) (by omega), Bool.and_false]
  rw [hf] at ch
  clear hf
  go_enter Try.func33, Try.ntmps33
  go_wp2_with fail
  refine cd.mono ?_
  rintro e w1 ⟨rfl, rfl⟩
  go_wp2_with fail
  refine ch.mono ?_
  rintro e w1 ⟨rfl, rfl⟩
  go_wp2
  go_ret2
  exact ⟨rfl, rfl⟩
end
end Go.Proofs.Ytgjnlocokkjejaa
