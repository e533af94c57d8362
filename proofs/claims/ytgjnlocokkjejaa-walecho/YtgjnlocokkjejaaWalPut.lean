/-
  PACKAGE wal's Commit.
-/
import Derived.Test.YtgjnlocokkjejaaWalOpen
namespace Go.Proofs.Ytgjnlocokkjejaa
open Go.RowKit Go.Maps

def headOf (x : PutV) : PutC := ⟨(x.N : Int), some ⟨x.b, x.o, none⟩, 128, x.cap⟩
theorem PutsAt.heads {w : World} {pk : Nat} {ps : List PutV} (h : PutsAt w pk ps) : HeadsAt w pk (ps.map headOf) := by
  refine ⟨h.1, fun j x hx => ?_⟩
  rw [List.getElem?_map] at hx
  cases hp : ps[j]? with
  | none => rw [hp] at hx; cases hx
  | some y =>
    rw [hp] at hx
    cases hx
    exact ⟨(h.2 j y hp).1, (h.2 j y hp).2.1⟩
/-- What may be committed. -/
structure GoodPuts (n : Nat) (ps : List PutV) : Prop where
  few : ps.length ≤ 40
  more : 0 < ps.length
  range : ∀ x ∈ ps, 42 ≤ x.N ∧ x.N < n
  apart : ∀ (i j : Nat) (x y : PutV), ps[i]? = some x → ps[j]? = some y → i < j → x.N ≠ y.N
theorem GoodPuts.not_bad {n : Nat} {ps : List PutV} (h : GoodPuts n ps) (i : Nat) (hi : i < ps.length) : ¬ badAt n (ps.map headOf) i := by
  have hx : ps[i]? = some ps[i] := List.getElem?_eq_getElem hi
  have e : (ps.map headOf).getD i zPC = headOf ps[i] := by simp [List.getD, hi]
  have hr := h.range ps[i] (List.getElem_mem hi)
  unfold badAt
  rw [e]
  rintro (h1 | ⟨j, hj, h1⟩ | h1)
  · exact h1 ⟨by show (42 : Int) ≤ ((ps[i].N : Nat) : Int); omega, by show ((ps[i].N : Nat) : Int) < n; omega⟩
  · have hy : ps[j]? = some (ps[j]'(by omega)) := List.getElem?_eq_getElem (by omega)
    have e2 : (ps.map headOf).getD j zPC = headOf (ps[j]'(by omega)) := by simp [List.getD, show j < ps.length by omega]
    rw [e2] at h1
    have h2 : (((ps[j]'(by omega)).N : Nat) : Int) = ((ps[i].N : Nat) : Int) := h1
    exact h.apart j i _ _ hy hx hj (by omega)
  · exact h1 rfl

section
variable {w : World} {lb db pb mb n B : Nat} {σ : Dsk} {s : Int}

set_option maxHeartbeats 1000000 in
theorem doit_any {s0 : Int} (h : LogIs w lb db pb mb n B σ s0) (hd : σ.dead = false) (hn : 42 < n) (hB : B < 500000) (pk cap : Nat) (ps : List PutV) (hp : PutsAt w pk ps) (hpk : pk ∉ [db, pb, mb, lb]) (hpb : ∀ x ∈ ps, x.b ∉ [db, pb, mb, lb]) (hg : GoodPuts n ps) (hI : IdleOn σ s)
    (xl xp : Nat) (hl : w.cell? ⟨xl, 0, none⟩ = some (.pointer (some ⟨lb, 0, none⟩))) (hx : w.cell? ⟨xp, 0, none⟩ = some (.slice (some ⟨pk, 0, none⟩) ps.length cap)) :
    Calls Try.prog 46 #[.pointer (some ⟨xl, 0, none⟩), .pointer (some ⟨xp, 0, none⟩)] w fun e w' =>
      e = endOf (σ.run (commitOps s ps)).2 ∧ (∃ s1, LogIs w' lb db pb mb n (B + 90) (σ.run (commitOps s ps)).1 s1) ∧ Kept [db, pb, mb, lb] w w' := by
  have cC := commit_any h hd hn hB pk cap ps hp hpk hpb hg.few hg.range hI.state hI.seq hI.lo hI.hi
  obtain ⟨⟨σ1, ok⟩, hr⟩ : ∃ x, σ.run (commitOps s ps) = x := ⟨_, rfl⟩
  rw [hr] at cC ⊢
  clear hr
  obtain ⟨m, hml⟩ : ∃ m, ps.length = m := ⟨_, rfl⟩
  rw [hml] at cC hx
  clear hml
  go_enter Try.func46, Try.ntmps46
  go_wp2_with fail
  refine cC.mono ?_
  rintro e w1 ⟨rfl, ⟨s1, L1⟩, k1⟩
  cases ok with
  | true =>
    simp only [endOf_true]
    go_wp2
    go_end0
    exact ⟨rfl, ⟨s1, L1⟩, k1⟩
  | false =>
    simp only [endOf_false]
    refine (show _ ∧ _ from ⟨rfl, ?_⟩)
    exact ⟨rfl, ⟨s1, L1⟩, k1⟩

set_option maxHeartbeats 2000000 in
/-- Commit. -/
theorem Commit_any {s0 : Int} (h : LogIs w lb db pb mb n B σ s0) (hd : σ.dead = false) (hn : 42 < n) (hB : B < 500000) (pk cap : Nat) (ps : List PutV) (hp : PutsAt w pk ps) (hcap : ps.length ≤ cap) (hpk : pk ∉ [db, pb, mb, lb]) (hpb : ∀ x ∈ ps, x.b ∉ [db, pb, mb, lb]) (hg : GoodPuts n ps) (hI : IdleOn σ s) :
    Calls Try.prog 29 #[.pointer (some ⟨lb, 0, none⟩), .slice (some ⟨pk, 0, none⟩) ps.length cap] w fun e w' =>
      e = .returned (.int .i64 (codeOf (σ.run (commitOps s ps)).2)) ∧ (∃ s1, LogIs w' lb db pb mb n (B + 90) (σ.run (commitOps s ps)).1 s1) ∧ Kept [db, pb, mb, lb] w w' := by
  have hmf : ∀ (fn : Fn) (first cap : Array Value) (w : World), (Instr.makeFunc fn first cap).run Try.prog w = .ok (.func fn first cap) w := fun _ _ _ _ => rfl
  obtain ⟨m, hml⟩ : ∃ m, ps.length = m := ⟨_, rfl⟩
  have hm0 : ¬ m = 0 := by have := hg.more; omega
  rw [hml] at hcap ⊢
  have hdb := h.disk.dbl
  have hpbl := h.disk.pbl
  have hmb := h.disk.mbl
  have hlb := h.lbl
  have k0 : Kept [] w ((w.alloc (.cells #[.pointer (some ⟨lb, 0, none⟩)] 53)).alloc (.cells #[.slice (some ⟨pk, 0, none⟩) m cap] 61)) := (Kept.of_alloc _ _ _).alloc _
  have e1 : (w.alloc (.cells #[.pointer (some ⟨lb, 0, none⟩)] 53)).heap.size = w.heap.size + 1 := by simp
  have b1 : ((w.alloc (.cells #[.pointer (some ⟨lb, 0, none⟩)] 53)).alloc (.cells #[.slice (some ⟨pk, 0, none⟩) m cap] 61)).heap[w.heap.size + 1]? = some (.cells #[.slice (some ⟨pk, 0, none⟩) m cap] 61 (0, 0)) := by
    rw [← e1]; exact heap_alloc_new _ _
  have b0 : ((w.alloc (.cells #[.pointer (some ⟨lb, 0, none⟩)] 53)).alloc (.cells #[.slice (some ⟨pk, 0, none⟩) m cap] 61)).heap[w.heap.size]? = some (.cells #[.pointer (some ⟨lb, 0, none⟩)] 53 (0, 0)) := by
    rw [Below.heap_alloc _ _ _ (by rw [e1]; omega)]; exact heap_alloc_new _ _
  clear e1
  go_enter Try.func29, Try.ntmps29
  go_wp2_with fail
  generalize (w.alloc (.cells #[.pointer (some ⟨lb, 0, none⟩)] 53)).alloc (.cells #[.slice (some ⟨pk, 0, none⟩) m cap] 61) = w0 at k0 b0 b1 ⊢
  obtain ⟨xl, hxl⟩ : ∃ x, w.heap.size = x := ⟨_, rfl⟩
  rw [hxl] at b0 b1 ⊢
  have hxls : w.heap.size ≤ xl := by omega
  clear hxl
  have L0 := h.same k0
  have cK := check_any L0 pk cap (ps.map headOf) (hp.heads.kept k0 (by simp)) (by simpa using hg.few) (by simp; omega)
  rw [List.length_map, hml] at cK
  refine cK.mono ?_
  rintro e w1 ⟨r, rfl, hr, k1⟩
  clear cK
  obtain rfl : r = 0 := by
    rcases hr with ⟨_, i, hi, hb⟩ | ⟨h0, _⟩
    · exact absurd hb (hg.not_bad i (by omega))
    · exact h0
  clear hr
  have k01 := k0.trans k1
  have bl := (Array.getElem?_eq_some_iff.1 b1).1
  have c1 : w1.heap[xl + 1]? = some (.cells #[.slice (some ⟨pk, 0, none⟩) m cap] 61 (0, 0)) := (k1.block _ bl (by simp)).trans b1
  have c0 : w1.heap[xl]? = some (.cells #[.pointer (some ⟨lb, 0, none⟩)] 53 (0, 0)) := (k1.block _ (by omega) (by simp)).trans b0
  clear b0 b1 bl k0 k1 L0
  have d1 : w1.cell? ⟨xl + 1, 0, none⟩ = some (.slice (some ⟨pk, 0, none⟩) m cap) := by simp [World.cell?, c1]
  have d0 : w1.cell? ⟨xl, 0, none⟩ = some (.pointer (some ⟨lb, 0, none⟩)) := by simp [World.cell?, c0]
  have l1 := (Array.getElem?_eq_some_iff.1 c1).1
  clear c0 c1
  have ka : Kept [] w1 (w1.alloc (.cells #[.int .i64 0] 25)) := Kept.of_alloc _ _ _
  have cD := doit_any (h.same (k01.trans ka)) hd hn hB pk cap ps (hp.kept (k01.trans ka) (by simp) (by simp)) hpk hpb hg hI xl (xl + 1) ((World.cell?_of_block (ka.block xl (show xl < w1.heap.size by omega) (by simp))).trans d0) ((World.cell?_of_block (ka.block (xl + 1) l1 (by simp))).trans (by rw [hml]; exact d1))
  obtain ⟨⟨σ1, ok⟩, hrun⟩ : ∃ x, σ.run (commitOps s ps) = x := ⟨_, rfl⟩
  rw [hrun] at cD
  have hs1 := k01.size
  have cC := caught_commit (w := w1) (Φ := fun ok' W => ok' = ok ∧ ∃ s1, LogIs W lb db pb mb n (B + 90) σ1 s1) (S := [db, pb, mb, lb]) ⟨xl, 0, none⟩ ⟨xl + 1, 0, none⟩ (by simp; omega) (cD.mono fun e w' ⟨he, hL, hk⟩ => ⟨ok, he, ⟨rfl, hL⟩, hk⟩)
    (fun ok W W' ⟨h1, s1, h2⟩ k => ⟨h1, s1, h2.kept k (by simp; omega) (by simp; omega) (by simp; omega) (by simp; omega)⟩)
  clear cD ka hml
  go_wp2_with fail
  refine cC.mono ?_
  rintro e w2 ⟨ok', rfl, ⟨rfl, hL⟩, k2⟩
  clear cC
  have kf := (k01.mono (T := [db, pb, mb, lb]) (by simp)).trans k2
  go_wp2
  go_ret
  rw [hrun]
  exact ⟨rfl, hL, kf⟩

set_option maxHeartbeats 2000000 in
/-- Commit, of none. -/
theorem Commit_none (cap : Nat) (A : Option Addr) :
    Calls Try.prog 29 #[.pointer (some ⟨lb, 0, none⟩), .slice A 0 cap] w fun e w' =>
      e = .returned (.int .i64 0) ∧ Kept [] w w' := by
  have hmf : ∀ (fn : Fn) (first cap : Array Value) (w : World), (Instr.makeFunc fn first cap).run Try.prog w = .ok (.func fn first cap) w := fun _ _ _ _ => rfl
  have k0 : Kept [] w ((w.alloc (.cells #[.pointer (some ⟨lb, 0, none⟩)] 53)).alloc (.cells #[.slice A 0 cap] 61)) := (Kept.of_alloc _ _ _).alloc _
  have cK := check_none lb A cap ((w.alloc (.cells #[.pointer (some ⟨lb, 0, none⟩)] 53)).alloc (.cells #[.slice A 0 cap] 61))
  go_enter Try.func29, Try.ntmps29
  go_wp2_with fail
  refine cK.mono ?_
  rintro e w1 ⟨rfl, rfl⟩
  clear cK
  go_wp2
  go_ret
  exact ⟨rfl, k0⟩
set_option maxHeartbeats 2000000 in
/-- Commit, where it is refused. -/
theorem Commit_refuses (A : Option Addr) (m cap : Nat) (r : Int) (hr : ¬ r = 0)
    (cK : ∀ W, Kept [] w W → Calls Try.prog 45 #[.pointer (some ⟨lb, 0, none⟩), .slice A m cap] W fun e w' => e = .returned (.int .i64 r) ∧ Kept [] W w') :
    Calls Try.prog 29 #[.pointer (some ⟨lb, 0, none⟩), .slice A m cap] w fun e w' =>
      e = .returned (.int .i64 r) ∧ Kept [] w w' := by
  have hmf : ∀ (fn : Fn) (first cap : Array Value) (w : World), (Instr.makeFunc fn first cap).run Try.prog w = .ok (.func fn first cap) w := fun _ _ _ _ => rfl
  have k0 : Kept [] w ((w.alloc (.cells #[.pointer (some ⟨lb, 0, none⟩)] 53)).alloc (.cells #[.slice A m cap] 61)) := (Kept.of_alloc _ _ _).alloc _
  have cK := cK _ k0
  go_enter Try.func29, Try.ntmps29
  go_wp2_with fail
  refine cK.mono ?_
  rintro e w1 ⟨rfl, k1⟩
  clear cK
  have kf := k0.trans k1
  go_wp2
  go_ret
  exact ⟨rfl, kf⟩
end
end Go.Proofs.Ytgjnlocokkjejaa
