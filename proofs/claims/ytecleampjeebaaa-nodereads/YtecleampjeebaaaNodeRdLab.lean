/-
  A LABEL OF FOUR BYTES, READ (donjonref10's reader).
-/
import Derived.Test.YtecleampjeebaaaNodeRdNum
namespace Go.Proofs.Ytecleampjeebaaa
open Go.RowKit
set_option linter.unusedSimpArgs false
set_option linter.unusedVariables false

structure LSt (w W : World) (g : Nat) (a : Option Addr) (n cap : Nat) (l : List UInt8) (r : Rd) (x : Lab) : Prop where
  rd : RdAt W g a n cap l r
  l2 : LBox W w.heap.size ⟨0, 0, 0, 0⟩
  l3 : LBox W (w.heap.size + 1) x
  rs : Rest g w W
  hg : g < w.heap.size
  ha : ∀ y, a = some y → 0 < n → y.block < w.heap.size
section
variable {w W W' : World} {g : Nat} {a : Option Addr} {n cap : Nat} {l : List UInt8} {r r' : Rd} {x x' : Lab}
theorem LSt.call (h : LSt w W g a n cap l r x) (hr : RdAt W' g a n cap l r') (ht : Rest g W W') : LSt w W' g a n cap l r' x := by
  have b2 : w.heap.size < W.heap.size := World.block_lt_of_cell? _ ⟨w.heap.size, 0, none⟩ h.l2.1.1
  have b3 : w.heap.size + 1 < W.heap.size := World.block_lt_of_cell? _ ⟨w.heap.size + 1, 0, none⟩ h.l3.1.1
  have hg := h.hg
  exact ⟨hr, h.l2.same (ht.block _ b2 (fun e => by injection e; omega)), h.l3.same (ht.block _ b3 (fun e => by injection e; omega)), h.rs.trans ht, h.hg, h.ha⟩
theorem LSt.set (h : LSt w W g a n cap l r x) (k : Nat) (v : Value) (hl : LBox (W.setCell ⟨w.heap.size + 1, k, none⟩ v) (w.heap.size + 1) x') : LSt w (W.setCell ⟨w.heap.size + 1, k, none⟩ v) g a n cap l r x' := by
  have b : Below (w.heap.size + 1) W (W.setCell ⟨w.heap.size + 1, k, none⟩ v) := (Below.refl _ _).setCell (p := ⟨w.heap.size + 1, k, none⟩) (Nat.le_refl _) _
  exact ⟨h.rd.past (Nat.lt_succ_of_lt h.hg) (fun y hy hn => Nat.lt_succ_of_lt (h.ha y hy hn)) b, h.l2.same (b.block _ (Nat.lt_succ_self _)), hl, h.rs.past (Nat.le_succ _) b, h.hg, h.ha⟩
theorem lst_alloc (h : RdAt w g a n cap l r) : LSt w ((w.alloc (.cells #[.int .i64 0, .int .i64 0, .int .i64 0, .int .i64 0] 23)).alloc (.cells #[.int .i64 0, .int .i64 0, .int .i64 0, .int .i64 0] 23)) g a n cap l r ⟨0, 0, 0, 0⟩ := by
  have b1 := alloc_below w (.cells #[.int .i64 0, .int .i64 0, .int .i64 0, .int .i64 0] 23)
  have hx : LBox (w.alloc (.cells #[.int .i64 0, .int .i64 0, .int .i64 0, .int .i64 0] 23)) w.heap.size ⟨0, 0, 0, 0⟩ := lbox_alloc w ⟨0, 0, 0, 0⟩ _
  have hs := World.size_alloc w (.cells #[.int .i64 0, .int .i64 0, .int .i64 0, .int .i64 0] 23)
  generalize w.alloc (.cells #[.int .i64 0, .int .i64 0, .int .i64 0, .int .i64 0] 23) = W1 at *
  have b2 := alloc_below W1 (.cells #[.int .i64 0, .int .i64 0, .int .i64 0, .int .i64 0] 23)
  have hy : LBox (W1.alloc (.cells #[.int .i64 0, .int .i64 0, .int .i64 0, .int .i64 0] 23)) W1.heap.size ⟨0, 0, 0, 0⟩ := lbox_alloc W1 ⟨0, 0, 0, 0⟩ _
  rw [hs] at hy
  have hB := Below.then b1 b2
  exact ⟨h.past h.lt h.alt hB, hx.same (b2.block _ (by omega)), hy, (Rest.refl _ _).past (Nat.le_refl _) hB, h.lt, h.alt⟩
end

set_option maxHeartbeats 2000000 in
theorem rlabR_any (g : Nat) (a : Option Addr) (n cap : Nat) (l : List UInt8) (r : Rd) (w : World) (h : RdAt w g a n cap l r) :
    Calls Try.prog 42 #[.pointer (some ⟨g, 0, none⟩)] w fun e w' => e = .returned (labV l r).v ∧ RdAt w' g a n cap l (labR l r) ∧ Rest g w w' := by
  have h0 := lst_alloc h
  unfold labV labR
  generalize hr1 : u8R l r = r1 at *
  generalize hr2 : u8R l r1 = r2 at *
  generalize hr3 : u8R l r2 = r3 at *
  generalize hr4 : u8R l r3 = r4 at *
  generalize hx1 : u8V l r = x1 at *
  generalize hx2 : u8V l r1 = x2 at *
  generalize hx3 : u8V l r2 = x3 at *
  generalize hx4 : u8V l r3 = x4 at *
  have k1 := ru8_any g a n cap l r
  have k2 := ru8_any g a n cap l r1
  have k3 := ru8_any g a n cap l r2
  have k4 := ru8_any g a n cap l r3
  rw [hr1, hx1] at k1
  rw [hr2, hx2] at k2
  rw [hr3, hx3] at k3
  rw [hr4, hx4] at k4
  clear hr1 hr2 hr3 hr4 hx1 hx2 hx3 hx4 h
  go_enter Try.func42, Try.ntmps42
  go_wp2_with fail
  generalize (w.alloc (.cells #[.int .i64 0, .int .i64 0, .int .i64 0, .int .i64 0] 23)).alloc (.cells #[.int .i64 0, .int .i64 0, .int .i64 0, .int .i64 0] 23) = W0 at *
  refine (k1 _ h0.rd).mono ?_
  rintro e W1 ⟨rfl, hR1, hT1⟩
  have h1 := h0.call hR1 hT1
  have q1 := h1.l3
  have h1s := h1.set 0 (.int .i64 (x1 : Int)) (h1.l3.set0 _)
  clear k1 h0 hR1 hT1 h1
  go_wp2_with fail
  generalize W1.setCell ⟨w.heap.size + 1, 0, none⟩ (.int .i64 (x1 : Int)) = W1s at *
  refine (k2 _ h1s.rd).mono ?_
  rintro e W2 ⟨rfl, hR2, hT2⟩
  have h2 := h1s.call hR2 hT2
  have q2 := h2.l3
  have h2s := h2.set 1 (.int .i64 (x2 : Int)) (h2.l3.set1 _)
  clear k2 h1s hR2 hT2 h2 q1
  go_wp2_with fail
  generalize W2.setCell ⟨w.heap.size + 1, 1, none⟩ (.int .i64 (x2 : Int)) = W2s at *
  refine (k3 _ h2s.rd).mono ?_
  rintro e W3 ⟨rfl, hR3, hT3⟩
  have h3 := h2s.call hR3 hT3
  have q3 := h3.l3
  have h3s := h3.set 2 (.int .i64 (x3 : Int)) (h3.l3.set2 _)
  clear k3 h2s hR3 hT3 h3 q2
  go_wp2_with fail
  generalize W3.setCell ⟨w.heap.size + 1, 2, none⟩ (.int .i64 (x3 : Int)) = W3s at *
  refine (k4 _ h3s.rd).mono ?_
  rintro e W4 ⟨rfl, hR4, hT4⟩
  have h4 := h3s.call hR4 hT4
  have h4s := h4.set 3 (.int .i64 (x4 : Int)) (h4.l3.set3 _)
  have q4 := h4.l3
  have q4s := h4s.l3
  have p4s := h4s.l2
  clear k4 h3s hR4 hT4 h4 q3
  obtain ⟨W5, hW5⟩ : ∃ W5, W4.setCell ⟨w.heap.size + 1, 3, none⟩ (.int .i64 (x4 : Int)) = W5 := ⟨_, rfl⟩
  rw [hW5] at q4s p4s h4s
  go_wp2_with fail
  have z : LBox ((((W5.setCell ⟨w.heap.size, 0, none⟩ (.int .i64 (x1 : Int))).setCell ⟨w.heap.size, 1, none⟩ (.int .i64 (x2 : Int))).setCell ⟨w.heap.size, 2, none⟩ (.int .i64 (x3 : Int))).setCell ⟨w.heap.size, 3, none⟩ (.int .i64 (x4 : Int))) w.heap.size ⟨(x1 : Int), (x2 : Int), (x3 : Int), (x4 : Int)⟩ := (((p4s.set0 _).set1 _).set2 _).set3 _
  have b : Below w.heap.size W5 ((((W5.setCell ⟨w.heap.size, 0, none⟩ (.int .i64 (x1 : Int))).setCell ⟨w.heap.size, 1, none⟩ (.int .i64 (x2 : Int))).setCell ⟨w.heap.size, 2, none⟩ (.int .i64 (x3 : Int))).setCell ⟨w.heap.size, 3, none⟩ (.int .i64 (x4 : Int))) := ((((Below.refl _ W5).setCell (p := ⟨w.heap.size, 0, none⟩) (Nat.le_refl _) _).setCell (p := ⟨w.heap.size, 1, none⟩) (Nat.le_refl _) _).setCell (p := ⟨w.heap.size, 2, none⟩) (Nat.le_refl _) _).setCell (p := ⟨w.heap.size, 3, none⟩) (Nat.le_refl _) _
  have hR := h4s.rd.past h4s.hg h4s.ha b
  have hT := h4s.rs.past (Nat.le_refl _) b
  generalize ((((W5.setCell ⟨w.heap.size, 0, none⟩ (.int .i64 (x1 : Int))).setCell ⟨w.heap.size, 1, none⟩ (.int .i64 (x2 : Int))).setCell ⟨w.heap.size, 2, none⟩ (.int .i64 (x3 : Int))).setCell ⟨w.heap.size, 3, none⟩ (.int .i64 (x4 : Int))) = W6 at *
  clear hW5 q4 q4s p4s h4s b
  exact bodyPost_ret (v := (⟨(x1 : Int), (x2 : Int), (x3 : Int), (x4 : Int)⟩ : Lab).v) (by simp [results, Try.results42, go_sem, z]) rfl ⟨rfl, hR, hT⟩
end Go.Proofs.Ytecleampjeebaaa
