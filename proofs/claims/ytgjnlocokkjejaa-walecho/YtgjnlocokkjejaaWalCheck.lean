/-
  PACKAGE wal's check: what may be committed.
-/
import Derived.Test.YtgjnlocokkjejaaWalDo
namespace Go.Proofs.Ytgjnlocokkjejaa
open Go.RowKit Go.Maps

/-- What a list says of a sector: its number, and the bytes' slice. -/
structure PutC where
  N : Int
  a : Option Addr
  len : Nat
  cap : Nat
abbrev zPC : PutC := ⟨0, none, 0, 0⟩
/-- A list of them in memory. -/
def HeadsAt (w : World) (pk : Nat) (cs : List PutC) : Prop := pk < w.heap.size ∧ ∀ j x, cs[j]? = some x → w.cell? ⟨pk, j * 2, none⟩ = some (.int .i64 x.N) ∧ w.cell? ⟨pk, j * 2 + 1, none⟩ = some (.slice x.a x.len x.cap)
theorem HeadsAt.kept {S : List Nat} {w w' : World} {pk : Nat} {cs : List PutC} (h : HeadsAt w pk cs) (k : Kept S w w') (hp : pk ∉ S) : HeadsAt w' pk cs :=
  ⟨Nat.lt_of_lt_of_le h.1 k.size, fun j x hx => ⟨(World.cell?_of_block (k.block pk h.1 hp)).trans (h.2 j x hx).1, (World.cell?_of_block (k.block pk h.1 hp)).trans (h.2 j x hx).2⟩⟩

section
variable {w : World} {lb db pb mb n B : Nat} {σ : Dsk} {s : Int}
theorem lhas_any (h : LogIs w lb db pb mb n B σ s) (k : Int) :
    Calls Try.prog 48 #[.pointer (some ⟨lb, 0, none⟩), .int .i64 k] w fun e w' => e = .returned (.bool (decide (42 ≤ k) && decide (k < n))) ∧ w' = w := by
  have c1 := h.c1
  by_cases h0 : 42 ≤ k
  · go_enter Try.func48, Try.ntmps48
    go_wp2
    go_ret
    exact ⟨by simp [h0], rfl⟩
  · go_enter Try.func48, Try.ntmps48
    go_wp2
    go_ret
    exact ⟨by simp; omega, rfl⟩
end

theorem same_any (w : World) (bx : Nat) (X N : Int) (v : Value) (hb : w.cell? ⟨bx, 0, none⟩ = some (.int .i64 X)) :
    Calls Try.prog 60 #[.agg #[.int .i64 N, v], .pointer (some ⟨bx, 0, none⟩)] w fun e w' => e = .returned (.bool (N == X)) ∧ Kept [] w w' := by
  have hl : bx < w.heap.size := World.block_lt_of_cell? w _ hb
  have hne : ¬ bx = w.heap.size := by omega
  go_enter Try.func60, Try.ntmps60
  go_wp2
  go_ret
  exact ⟨rfl, (Kept.refl _ _).alloc _⟩

set_option maxHeartbeats 1000000 in
theorem index_any (w : World) (bx : Nat) (X : Int) (hb : w.cell? ⟨bx, 0, none⟩ = some (.int .i64 X)) (pk cap : Nat) (cs : List PutC) (hp : HeadsAt w pk cs) (i : Nat) (hi : i ≤ cs.length) (hi2 : i ≤ 1000) :
    Calls Try.prog 70 #[.slice (some ⟨pk, 0, none⟩) i cap, .func (.func 60) #[] #[.pointer (some ⟨bx, 0, none⟩)]] w fun e w' =>
      ∃ r : Int, e = .returned (.int .i64 r) ∧ (0 ≤ r ↔ ∃ j, j < i ∧ (cs.getD j zPC).N = X) ∧ Kept [] w w' := by
  have hbl : bx < w.heap.size := World.block_lt_of_cell? w _ hb
  go_enter Try.func70, Try.ntmps70
  go_wp2_with fail
  go_loopw [8] (fun t wr => ∃ q : Int, 0 ≤ q ∧ q ≤ i ∧ t = .int .i64 q ∧ (∀ j, j < q.toNat → (cs.getD j zPC).N ≠ X) ∧ Kept [] w wr) (fun t _ => i - (Go.RowKit.intOf t).toNat)
  case atStart => exact ⟨0, by omega, by omega, rfl, by intro j hj; omega, Kept.refl _ _⟩
  case round =>
    obtain ⟨q, hq0, hq1, rfl, hno, kq⟩ := hrel
    by_cases hlt : q < i
    · obtain ⟨x, hx⟩ : ∃ x, cs[q.toNat]? = some x := ⟨_, List.getElem?_eq_getElem (by omega)⟩
      have hxd : cs.getD q.toNat zPC = x := by simp [List.getD, hx]
      obtain ⟨p0, p1⟩ := (hp.kept kq (by simp)).2 q.toNat x hx
      have hbq : wr.cell? ⟨bx, 0, none⟩ = some (.int .i64 X) := (World.cell?_of_block (kq.block bx hbl (by simp))).trans hb
      have cS := same_any wr bx X x.N (.slice x.a x.len x.cap) hbq
      clear hx hb hbq
      by_cases he : x.N = X
      · have he' : (x.N == X) = true := by simpa using he
        rw [he'] at cS
        have hfin : ∃ j, j < i ∧ (cs.getD j zPC).N = X := ⟨q.toNat, by omega, by rw [hxd]; exact he⟩
        clear hno he he'
        go_wp2_with fail
        refine cS.mono ?_
        rintro e w1 ⟨rfl, k1⟩
        have kf := kq.trans k1
        clear cS p0 p1
        go_wp2
        go_ret
        exact ⟨q, rfl, ⟨fun _ => hfin, fun _ => hq0⟩, kf⟩
      · have he' : (x.N == X) = false := by simpa using he
        rw [he'] at cS
        have hno' : ∀ j, j < (q + 1).toNat → (cs.getD j zPC).N ≠ X := by
          intro j hj
          by_cases e : j = q.toNat
          · rw [e, hxd]; exact he
          · exact hno j (by omega)
        clear hno
        go_wp2_with fail
        refine cS.mono ?_
        rintro e w1 ⟨rfl, k1⟩
        have kf := kq.trans k1
        clear cS p0 p1 he he' hxd
        go_wp2_with fail
        go_roundw
        case rel => exact ⟨q + 1, by omega, by omega, rfl, hno', kf⟩
        case measure => simp [Go.RowKit.intOf]; omega
    · obtain rfl : q = i := by omega
      have hfin : ¬ ∃ j, j < i ∧ (cs.getD j zPC).N = X := fun ⟨j, h1, h2⟩ => hno j (by omega) h2
      clear hno
      go_wp2
      go_ret
      exact ⟨-1, rfl, ⟨fun h => absurd h (by decide), fun h => absurd h hfin⟩, kq⟩

set_option maxHeartbeats 1000000 in
theorem contains_any (w : World) (bx : Nat) (X : Int) (hb : w.cell? ⟨bx, 0, none⟩ = some (.int .i64 X)) (pk cap : Nat) (cs : List PutC) (hp : HeadsAt w pk cs) (i : Nat) (hi : i ≤ cs.length) (hi2 : i ≤ 1000) :
    Calls Try.prog 59 #[.slice (some ⟨pk, 0, none⟩) i cap, .func (.func 60) #[] #[.pointer (some ⟨bx, 0, none⟩)]] w fun e w' =>
      ∃ b : Bool, e = .returned (.bool b) ∧ (b = true ↔ ∃ j, j < i ∧ (cs.getD j zPC).N = X) ∧ Kept [] w w' := by
  have cI := index_any w bx X hb pk cap cs hp i hi hi2
  go_enter Try.func59, Try.ntmps59
  go_wp2_with fail
  refine cI.mono ?_
  rintro e w1 ⟨r, rfl, hr, k1⟩
  clear cI
  by_cases h0 : 0 ≤ r
  · have hP := hr.1 h0
    clear hr
    go_wp2
    go_ret
    exact ⟨true, by simp, ⟨fun _ => hP, fun _ => rfl⟩, k1⟩
  · have hP := fun h => h0 (hr.2 h)
    clear hr
    go_wp2
    go_ret
    exact ⟨false, by simp; omega, ⟨fun h => (by cases h), fun h => absurd h hP⟩, k1⟩

/-- What may not be committed. -/
def badAt (n : Nat) (cs : List PutC) (i : Nat) : Prop := ¬ (42 ≤ (cs.getD i zPC).N ∧ (cs.getD i zPC).N < n) ∨ (∃ j, j < i ∧ (cs.getD j zPC).N = (cs.getD i zPC).N) ∨ (cs.getD i zPC).len ≠ 128

section
variable {w : World} {lb db pb mb n B : Nat} {σ : Dsk} {s : Int}
set_option maxHeartbeats 2000000 in
theorem check_any (h : LogIs w lb db pb mb n B σ s) (pk cap : Nat) (cs : List PutC) (hp : HeadsAt w pk cs) (hi2 : cs.length ≤ 40) (hcap : cs.length ≤ cap) :
    Calls Try.prog 45 #[.pointer (some ⟨lb, 0, none⟩), .slice (some ⟨pk, 0, none⟩) cs.length cap] w fun e w' =>
      ∃ r : Int, e = .returned (.int .i64 r) ∧ (r = 1 ∧ (∃ i, i < cs.length ∧ badAt n cs i) ∨ r = 0 ∧ ∀ i, i < cs.length → ¬ badAt n cs i) ∧ Kept [] w w' := by
  have hmf : ∀ (fn : Fn) (first cap : Array Value) (w : World), (Instr.makeFunc fn first cap).run Try.prog w = .ok (.func fn first cap) w := fun _ _ _ _ => rfl
  obtain ⟨m, hml⟩ : ∃ m, cs.length = m := ⟨_, rfl⟩
  rw [hml] at hi2 hcap ⊢
  go_enter Try.func45, Try.ntmps45
  go_wp2_with fail
  go_loopw [13] (fun t wr => ∃ q : Int, 0 ≤ q ∧ q ≤ m ∧ t = .int .i64 q ∧ (∀ j, j < q.toNat → ¬ badAt n cs j) ∧ Kept [] w wr) (fun t _ => m - (Go.RowKit.intOf t).toNat)
  case atStart => exact ⟨0, by omega, by omega, rfl, by intro j hj; omega, Kept.refl _ _⟩
  case round =>
    obtain ⟨q, hq0, hq1, rfl, hno, kq⟩ := hrel
    by_cases hlt : q < m
    · obtain ⟨x, hx⟩ : ∃ x, cs[q.toNat]? = some x := ⟨_, List.getElem?_eq_getElem (by omega)⟩
      have hxd : cs.getD q.toNat zPC = x := by simp [List.getD, hx]
      have hpq := hp.kept kq (by simp)
      obtain ⟨p0, p1⟩ := hpq.2 q.toNat x hx
      have hqc : q ≤ (cap : Int) := by omega
      clear hx
      have hba : (wr.alloc (.cells #[.int .i64 x.N, .slice x.a x.len x.cap] 69)).heap[wr.heap.size]? = some (.cells #[.int .i64 x.N, .slice x.a x.len x.cap] 69 (0, 0)) := heap_alloc_new wr _
      have kA : Kept [] wr (wr.alloc (.cells #[.int .i64 x.N, .slice x.a x.len x.cap] 69)) := Kept.of_alloc _ _ _
      go_wp2_with fail
      have hw := kq.trans kA
      have LA := h.same hw
      have hpA := hp.kept hw (by simp)
      obtain ⟨bx, hbx⟩ : ∃ bx, bx = wr.heap.size := ⟨_, rfl⟩
      rw [← hbx] at hba ⊢
      clear hbx
      generalize wr.alloc (.cells #[.int .i64 x.N, .slice x.a x.len x.cap] 69) = wa at hba kA LA hpA hw ⊢
      have b0 : wa.cell? ⟨bx, 0, none⟩ = some (.int .i64 x.N) := by simp [World.cell?, hba]
      have hbl : bx < wa.heap.size := (Array.getElem?_eq_some_iff.1 hba).1
      have cC := contains_any wa bx x.N b0 pk cap cs hpA q.toNat (by omega) (by omega)
      refine cC.mono ?_
      rintro e w1 ⟨b, rfl, hb, k1⟩
      clear cC b0
      have L1 := LA.same k1
      have h1 : w1.heap[bx]? = some (.cells #[.int .i64 x.N, .slice x.a x.len x.cap] 69 (0, 0)) := (k1.block bx hbl (by simp)).trans hba
      have b0 : w1.cell? ⟨bx, 0, none⟩ = some (.int .i64 x.N) := by simp [World.cell?, h1]
      have b1 : w1.cell? ⟨bx, 1, none⟩ = some (.slice x.a x.len x.cap) := by simp [World.cell?, h1]
      have cH := lhas_any L1 x.N
      have kf := hw.trans k1
      clear h1 hba hpA p0 p1 LA kA k1 hw hpq L1
      cases hh : (decide (42 ≤ x.N) && decide (x.N < (n : Int))) with
      | false =>
        have hbad : ∃ i, i < m ∧ badAt n cs i := ⟨q.toNat, by omega, Or.inl (by rw [hxd]; intro hc; rw [decide_eq_true hc.1, decide_eq_true hc.2] at hh; cases hh)⟩
        rw [hh] at cH
        clear hb hno hxd hh
        go_wp2_with fail
        refine cH.mono ?_
        rintro e w2 ⟨rfl, rfl⟩
        clear cH
        go_wp2
        go_ret
        exact ⟨1, rfl, Or.inl ⟨rfl, hbad⟩, kf⟩
      | true =>
        rw [hh] at cH
        have hin : 42 ≤ x.N ∧ x.N < (n : Int) := by simpa using hh
        clear hh
        cases b with
        | true =>
          have hbad : ∃ i, i < m ∧ badAt n cs i := ⟨q.toNat, by omega, Or.inr (Or.inl (by rw [hxd]; exact hb.1 rfl))⟩
          clear hb hno hxd
          go_wp2_with fail
          refine cH.mono ?_
          rintro e w2 ⟨rfl, rfl⟩
          clear cH
          go_wp2
          go_ret
          exact ⟨1, rfl, Or.inl ⟨rfl, hbad⟩, kf⟩
        | false =>
          by_cases h128 : x.len = 128
          · have hgood : ¬ badAt n cs q.toNat := by
              unfold badAt
              rw [hxd]
              rintro (h1 | h1 | h1)
              · exact h1 hin
              · have := hb.2 h1; cases this
              · exact h1 h128
            have hno' : ∀ j, j < (q + 1).toNat → ¬ badAt n cs j := by
              intro j hj
              by_cases e : j = q.toNat
              · rw [e]; exact hgood
              · exact hno j (by omega)
            rw [h128] at b1
            clear hb hno hxd hgood h128
            go_wp2_with fail
            refine cH.mono ?_
            rintro e w2 ⟨rfl, rfl⟩
            clear cH
            go_wp2_with fail
            go_roundw
            case rel => exact ⟨q + 1, by omega, by omega, rfl, hno', kf⟩
            case measure => simp [Go.RowKit.intOf]; omega
          · have hbad : ∃ i, i < m ∧ badAt n cs i := ⟨q.toNat, by omega, Or.inr (Or.inr (by rw [hxd]; exact h128))⟩
            have h128' : ((x.len : Int) == 128) = false := by simp; omega
            clear hb hno hxd h128
            go_wp2_with fail
            refine cH.mono ?_
            rintro e w2 ⟨rfl, rfl⟩
            clear cH
            go_wp2
            go_ret
            exact ⟨1, rfl, Or.inl ⟨rfl, hbad⟩, kf⟩
    · obtain rfl : q = m := by omega
      have hall : ∀ i, i < m → ¬ badAt n cs i := fun i hi => hno i (by omega)
      clear hno
      go_wp2
      go_ret
      exact ⟨0, rfl, Or.inr ⟨rfl, hall⟩, kq⟩

/-- .. too many. -/
theorem check_many (lb : Nat) (a : Option Addr) (m cap : Nat) (h : 40 < m) (w : World) :
    Calls Try.prog 45 #[.pointer (some ⟨lb, 0, none⟩), .slice a m cap] w fun e w' => e = .returned (.int .i64 4) ∧ w' = w := by
  have h2 : (40 : Int) < (m : Int) := by omega
  go_enter Try.func45, Try.ntmps45
  go_wp2
  go_ret
  exact ⟨rfl, rfl⟩
/-- .. none. -/
theorem check_none (lb : Nat) (a : Option Addr) (cap : Nat) (w : World) :
    Calls Try.prog 45 #[.pointer (some ⟨lb, 0, none⟩), .slice a 0 cap] w fun e w' => e = .returned (.int .i64 0) ∧ w' = w := by
  go_enter Try.func45, Try.ntmps45
  go_wp2_with fail
  go_loopw [13] (fun t wr => t = .int .i64 0 ∧ wr = w) (fun _ _ => 0)
  case atStart => exact ⟨rfl, rfl⟩
  case round =>
    obtain ⟨rfl, rfl⟩ := hrel
    go_wp2
    go_ret
    exact ⟨rfl, rfl⟩
end
end Go.Proofs.Ytgjnlocokkjejaa
