/-
  ParseMessage: the document's own (donjonref10). Written by mk_nparse.py.
-/
import Derived.Test.YtecleampjeebaaaNodePst
namespace Go.Proofs.Ytecleampjeebaaa
open Go.RowKit
set_option linter.unusedSimpArgs false
set_option linter.unusedVariables false

def msgR0 (l : List UInt8) : Rd := ⟨0, 0⟩
def msgR1 (l : List UInt8) : Rd := textR l (msgR0 l)
def msgR2 (l : List UInt8) : Rd := labR l (msgR1 l)
def msgR3 (l : List UInt8) : Rd := textR l (msgR2 l)
def msgR4 (l : List UInt8) : Rd := labR l (msgR3 l)
def msgR5 (l : List UInt8) : Rd := textR l (msgR4 l)
def msgV (l : List UInt8) : Msg := ⟨textV l (msgR0 l), labV l (msgR1 l), textV l (msgR2 l), labV l (msgR3 l), textV l (msgR4 l)⟩
def msgZ : Msg := ⟨⟨#[]⟩, ⟨0, 0, 0, 0⟩, ⟨#[]⟩, ⟨0, 0, 0, 0⟩, ⟨#[]⟩⟩
def msgE (l : List UInt8) : Int := endV l (msgR5 l)
def msgP (l : List UInt8) : Msg := if msgE l = 0 then msgV l else msgZ

set_option maxRecDepth 8000 in
set_option maxHeartbeats 8000000 in
theorem rmsg_any (a : Option Addr) (n cap : Nat) (l : List UInt8) (hn : n < 1000000) (hnc : n ≤ cap) (w : World) (hb : BytesAt w a n l) :
    Calls Try.prog 18 #[.slice a n cap] w fun e w' => e = .returned (.tuple #[(msgP l).v, .int .i64 (msgE l)]) ∧ Below w.heap.size w w' := by
  have h0 : PSt w ((w.alloc (.cells #[.string ⟨#[]⟩, .int .i64 0, .int .i64 0, .int .i64 0, .int .i64 0, .string ⟨#[]⟩, .int .i64 0, .int .i64 0, .int .i64 0, .int .i64 0, .string ⟨#[]⟩] 42)).alloc (.cells #[.slice a n cap, .int .i64 0, .int .i64 0] 77)) a n cap l ⟨0, 0⟩ [.string ⟨#[]⟩, .int .i64 0, .int .i64 0, .int .i64 0, .int .i64 0, .string ⟨#[]⟩, .int .i64 0, .int .i64 0, .int .i64 0, .int .i64 0, .string ⟨#[]⟩] := pst_start hn hnc hb #[.string ⟨#[]⟩, .int .i64 0, .int .i64 0, .int .i64 0, .int .i64 0, .string ⟨#[]⟩, .int .i64 0, .int .i64 0, .int .i64 0, .int .i64 0, .string ⟨#[]⟩] _ _
  unfold msgP msgE msgV
  have c0 : ∀ W, RdAt W (w.heap.size + 1) a n cap l (msgR5 l) → Calls Try.prog 44 #[.pointer (some ⟨w.heap.size + 1, 0, none⟩)] W _ := fun W h => rend_any (w.heap.size + 1) a n cap l _ W h
  have k0 := fun W h => rtextR_any (w.heap.size + 1) a n cap l (msgR0 l) W h
  have k1 := fun W h => rlabR_any (w.heap.size + 1) a n cap l (msgR1 l) W h
  have k2 := fun W h => rtextR_any (w.heap.size + 1) a n cap l (msgR2 l) W h
  have k3 := fun W h => rlabR_any (w.heap.size + 1) a n cap l (msgR3 l) W h
  have k4 := fun W h => rtextR_any (w.heap.size + 1) a n cap l (msgR4 l) W h
  change ∀ W, RdAt W (w.heap.size + 1) a n cap l (msgR0 l) → Calls Try.prog _ _ W (fun e w' => _ ∧ RdAt w' (w.heap.size + 1) a n cap l (msgR1 l) ∧ _) at k0
  change ∀ W, RdAt W (w.heap.size + 1) a n cap l (msgR1 l) → Calls Try.prog _ _ W (fun e w' => _ ∧ RdAt w' (w.heap.size + 1) a n cap l (msgR2 l) ∧ _) at k1
  change ∀ W, RdAt W (w.heap.size + 1) a n cap l (msgR2 l) → Calls Try.prog _ _ W (fun e w' => _ ∧ RdAt w' (w.heap.size + 1) a n cap l (msgR3 l) ∧ _) at k2
  change ∀ W, RdAt W (w.heap.size + 1) a n cap l (msgR3 l) → Calls Try.prog _ _ W (fun e w' => _ ∧ RdAt w' (w.heap.size + 1) a n cap l (msgR4 l) ∧ _) at k3
  change ∀ W, RdAt W (w.heap.size + 1) a n cap l (msgR4 l) → Calls Try.prog _ _ W (fun e w' => _ ∧ RdAt w' (w.heap.size + 1) a n cap l (msgR5 l) ∧ _) at k4
  have hr0 : msgR0 l = ⟨0, 0⟩ := rfl
  generalize textV l (msgR0 l) = x0 at *
  generalize labV l (msgR1 l) = x1 at *
  generalize textV l (msgR2 l) = x2 at *
  generalize labV l (msgR3 l) = x3 at *
  generalize textV l (msgR4 l) = x4 at *
  generalize endV l (msgR5 l) = er at *
  generalize msgR0 l = r0 at *
  generalize msgR1 l = r1 at *
  generalize msgR2 l = r2 at *
  generalize msgR3 l = r3 at *
  generalize msgR4 l = r4 at *
  generalize msgR5 l = r5 at *
  subst hr0
  obtain ⟨Pm, hPm⟩ : ∃ Pm, (if er = 0 then (⟨x0, x1, x2, x3, x4⟩ : Msg) else msgZ) = Pm := ⟨_, rfl⟩
  rw [hPm]
  go_enter Try.func18, Try.ntmps18
  go_wp2_with fail
  generalize (w.alloc (.cells #[.string ⟨#[]⟩, .int .i64 0, .int .i64 0, .int .i64 0, .int .i64 0, .string ⟨#[]⟩, .int .i64 0, .int .i64 0, .int .i64 0, .int .i64 0, .string ⟨#[]⟩] 42)).alloc (.cells #[.slice a n cap, .int .i64 0, .int .i64 0] 77) = W0 at *
  refine (k0 _ h0.rd).mono ?_
  rintro e W1 ⟨rfl, hR1, hT1⟩
  have h1 := h0.call hR1 hT1
  have f1 : Blk (W1.alloc (.cells #[.string x0, .int .i64 0, .int .i64 0, .int .i64 0, .int .i64 0, .string ⟨#[]⟩, .int .i64 0, .int .i64 0, .int .i64 0, .int .i64 0, .string ⟨#[]⟩] 42)) W1.heap.size [.string x0, .int .i64 0, .int .i64 0, .int .i64 0, .int .i64 0, .string ⟨#[]⟩, .int .i64 0, .int .i64 0, .int .i64 0, .int .i64 0, .string ⟨#[]⟩] := blk_alloc W1 #[.string x0, .int .i64 0, .int .i64 0, .int .i64 0, .int .i64 0, .string ⟨#[]⟩, .int .i64 0, .int .i64 0, .int .i64 0, .int .i64 0, .string ⟨#[]⟩] _
  have b1 : Below W1.heap.size W1 (W1.alloc (.cells #[.string x0, .int .i64 0, .int .i64 0, .int .i64 0, .int .i64 0, .string ⟨#[]⟩, .int .i64 0, .int .i64 0, .int .i64 0, .int .i64 0, .string ⟨#[]⟩] 42)) := alloc_below _ _
  have hp := h1.two
  have g1 := h1.past hp b1
  clear k0 h0 hR1 hT1 h1 b1 hb
  go_wp2_with fail
  generalize (W1.alloc (.cells #[.string x0, .int .i64 0, .int .i64 0, .int .i64 0, .int .i64 0, .string ⟨#[]⟩, .int .i64 0, .int .i64 0, .int .i64 0, .int .i64 0, .string ⟨#[]⟩] 42)) = S1 at *
  generalize W1.heap.size = p at *
  refine (k1 _ g1.rd).mono ?_
  rintro e W2 ⟨rfl, hR, hT⟩
  have h2 := g1.call hR hT
  have e2 := blk_rest f1 hp rfl hT
  have q1_0 := e2 1 _ rfl
  have q1_1 := e2 2 _ rfl
  have q1_2 := e2 3 _ rfl
  have q1_3 := e2 4 _ rfl
  have f2 : Blk ((((W2.setCell ⟨p, 1, none⟩ (.int .i64 x1.s)).setCell ⟨p, 2, none⟩ (.int .i64 x1.c)).setCell ⟨p, 3, none⟩ (.int .i64 x1.i)).setCell ⟨p, 4, none⟩ (.int .i64 x1.k)) p [.string x0, .int .i64 x1.s, .int .i64 x1.c, .int .i64 x1.i, .int .i64 x1.k, .string ⟨#[]⟩, .int .i64 0, .int .i64 0, .int .i64 0, .int .i64 0, .string ⟨#[]⟩] := ((((e2.set 1 (.int .i64 x1.s) (by simp)).set 2 (.int .i64 x1.c) (by simp)).set 3 (.int .i64 x1.i) (by simp)).set 4 (.int .i64 x1.k) (by simp))
  have g2 := h2.past hp (((((Below.refl p W2).setCell (p := ⟨p, 1, none⟩) (Nat.le_refl _) (.int .i64 x1.s)).setCell (p := ⟨p, 2, none⟩) (Nat.le_refl _) (.int .i64 x1.c)).setCell (p := ⟨p, 3, none⟩) (Nat.le_refl _) (.int .i64 x1.i)).setCell (p := ⟨p, 4, none⟩) (Nat.le_refl _) (.int .i64 x1.k))
  clear k1 g1 hR hT h2 f1 e2
  go_wp2_with fail
  generalize ((((W2.setCell ⟨p, 1, none⟩ (.int .i64 x1.s)).setCell ⟨p, 2, none⟩ (.int .i64 x1.c)).setCell ⟨p, 3, none⟩ (.int .i64 x1.i)).setCell ⟨p, 4, none⟩ (.int .i64 x1.k)) = S2 at *
  clear q1_0 q1_1 q1_2 q1_3
  refine (k2 _ g2.rd).mono ?_
  rintro e W3 ⟨rfl, hR, hT⟩
  have h3 := g2.call hR hT
  have e3 := blk_rest f2 hp rfl hT
  have q2_0 := e3 5 _ rfl
  have f3 : Blk (W3.setCell ⟨p, 5, none⟩ (.string x2)) p [.string x0, .int .i64 x1.s, .int .i64 x1.c, .int .i64 x1.i, .int .i64 x1.k, .string x2, .int .i64 0, .int .i64 0, .int .i64 0, .int .i64 0, .string ⟨#[]⟩] := (e3.set 5 (.string x2) (by simp))
  have g3 := h3.past hp ((Below.refl p W3).setCell (p := ⟨p, 5, none⟩) (Nat.le_refl _) (.string x2))
  clear k2 g2 hR hT h3 f2 e3
  go_wp2_with fail
  generalize (W3.setCell ⟨p, 5, none⟩ (.string x2)) = S3 at *
  clear q2_0
  refine (k3 _ g3.rd).mono ?_
  rintro e W4 ⟨rfl, hR, hT⟩
  have h4 := g3.call hR hT
  have e4 := blk_rest f3 hp rfl hT
  have q3_0 := e4 6 _ rfl
  have q3_1 := e4 7 _ rfl
  have q3_2 := e4 8 _ rfl
  have q3_3 := e4 9 _ rfl
  have f4 : Blk ((((W4.setCell ⟨p, 6, none⟩ (.int .i64 x3.s)).setCell ⟨p, 7, none⟩ (.int .i64 x3.c)).setCell ⟨p, 8, none⟩ (.int .i64 x3.i)).setCell ⟨p, 9, none⟩ (.int .i64 x3.k)) p [.string x0, .int .i64 x1.s, .int .i64 x1.c, .int .i64 x1.i, .int .i64 x1.k, .string x2, .int .i64 x3.s, .int .i64 x3.c, .int .i64 x3.i, .int .i64 x3.k, .string ⟨#[]⟩] := ((((e4.set 6 (.int .i64 x3.s) (by simp)).set 7 (.int .i64 x3.c) (by simp)).set 8 (.int .i64 x3.i) (by simp)).set 9 (.int .i64 x3.k) (by simp))
  have g4 := h4.past hp (((((Below.refl p W4).setCell (p := ⟨p, 6, none⟩) (Nat.le_refl _) (.int .i64 x3.s)).setCell (p := ⟨p, 7, none⟩) (Nat.le_refl _) (.int .i64 x3.c)).setCell (p := ⟨p, 8, none⟩) (Nat.le_refl _) (.int .i64 x3.i)).setCell (p := ⟨p, 9, none⟩) (Nat.le_refl _) (.int .i64 x3.k))
  clear k3 g3 hR hT h4 f3 e4
  go_wp2_with fail
  generalize ((((W4.setCell ⟨p, 6, none⟩ (.int .i64 x3.s)).setCell ⟨p, 7, none⟩ (.int .i64 x3.c)).setCell ⟨p, 8, none⟩ (.int .i64 x3.i)).setCell ⟨p, 9, none⟩ (.int .i64 x3.k)) = S4 at *
  clear q3_0 q3_1 q3_2 q3_3
  refine (k4 _ g4.rd).mono ?_
  rintro e W5 ⟨rfl, hR, hT⟩
  have h5 := g4.call hR hT
  have e5 := blk_rest f4 hp rfl hT
  have q4_0 := e5 10 _ rfl
  have f5 : Blk (W5.setCell ⟨p, 10, none⟩ (.string x4)) p [.string x0, .int .i64 x1.s, .int .i64 x1.c, .int .i64 x1.i, .int .i64 x1.k, .string x2, .int .i64 x3.s, .int .i64 x3.c, .int .i64 x3.i, .int .i64 x3.k, .string x4] := (e5.set 10 (.string x4) (by simp))
  have g5 := h5.past hp ((Below.refl p W5).setCell (p := ⟨p, 10, none⟩) (Nat.le_refl _) (.string x4))
  clear k4 g4 hR hT h5 f4 e5
  go_wp2_with fail
  generalize (W5.setCell ⟨p, 10, none⟩ (.string x4)) = S5 at *
  clear q4_0
  refine (c0 _ g5.rd).mono ?_
  rintro e V ⟨rfl, hR, hT⟩
  have h := g5.call hR hT
  have f := blk_rest f5 hp rfl hT
  clear g5 f5 hR hT
  by_cases he : er = 0
  · obtain rfl : Pm = _ := hPm.symm.trans (if_pos he)
    have q0 := f 0 _ rfl
    have q1 := f 1 _ rfl
    have q2 := f 2 _ rfl
    have q3 := f 3 _ rfl
    have q4 := f 4 _ rfl
    have q5 := f 5 _ rfl
    have q6 := f 6 _ rfl
    have q7 := f 7 _ rfl
    have q8 := f 8 _ rfl
    have q9 := f 9 _ rfl
    have q10 := f 10 _ rfl
    clear f
    have z0 := h.m2 0 _ rfl
    have z1 := h.m2 1 _ rfl
    have z2 := h.m2 2 _ rfl
    have z3 := h.m2 3 _ rfl
    have z4 := h.m2 4 _ rfl
    have z5 := h.m2 5 _ rfl
    have z6 := h.m2 6 _ rfl
    have z7 := h.m2 7 _ rfl
    have z8 := h.m2 8 _ rfl
    have z9 := h.m2 9 _ rfl
    have z10 := h.m2 10 _ rfl
    have z : Blk (((((((((((V.setCell ⟨w.heap.size, 0, none⟩ (.string x0)).setCell ⟨w.heap.size, 1, none⟩ (.int .i64 x1.s)).setCell ⟨w.heap.size, 2, none⟩ (.int .i64 x1.c)).setCell ⟨w.heap.size, 3, none⟩ (.int .i64 x1.i)).setCell ⟨w.heap.size, 4, none⟩ (.int .i64 x1.k)).setCell ⟨w.heap.size, 5, none⟩ (.string x2)).setCell ⟨w.heap.size, 6, none⟩ (.int .i64 x3.s)).setCell ⟨w.heap.size, 7, none⟩ (.int .i64 x3.c)).setCell ⟨w.heap.size, 8, none⟩ (.int .i64 x3.i)).setCell ⟨w.heap.size, 9, none⟩ (.int .i64 x3.k)).setCell ⟨w.heap.size, 10, none⟩ (.string x4)) w.heap.size [.string x0, .int .i64 x1.s, .int .i64 x1.c, .int .i64 x1.i, .int .i64 x1.k, .string x2, .int .i64 x3.s, .int .i64 x3.c, .int .i64 x3.i, .int .i64 x3.k, .string x4] := (((((((((((h.m2.set 0 (.string x0) (by simp)).set 1 (.int .i64 x1.s) (by simp)).set 2 (.int .i64 x1.c) (by simp)).set 3 (.int .i64 x1.i) (by simp)).set 4 (.int .i64 x1.k) (by simp)).set 5 (.string x2) (by simp)).set 6 (.int .i64 x3.s) (by simp)).set 7 (.int .i64 x3.c) (by simp)).set 8 (.int .i64 x3.i) (by simp)).set 9 (.int .i64 x3.k) (by simp)).set 10 (.string x4) (by simp))
    have b := h.bl.trans ((((((((((((Below.refl w.heap.size V).setCell (p := ⟨w.heap.size, 0, none⟩) (Nat.le_refl _) (.string x0)).setCell (p := ⟨w.heap.size, 1, none⟩) (Nat.le_refl _) (.int .i64 x1.s)).setCell (p := ⟨w.heap.size, 2, none⟩) (Nat.le_refl _) (.int .i64 x1.c)).setCell (p := ⟨w.heap.size, 3, none⟩) (Nat.le_refl _) (.int .i64 x1.i)).setCell (p := ⟨w.heap.size, 4, none⟩) (Nat.le_refl _) (.int .i64 x1.k)).setCell (p := ⟨w.heap.size, 5, none⟩) (Nat.le_refl _) (.string x2)).setCell (p := ⟨w.heap.size, 6, none⟩) (Nat.le_refl _) (.int .i64 x3.s)).setCell (p := ⟨w.heap.size, 7, none⟩) (Nat.le_refl _) (.int .i64 x3.c)).setCell (p := ⟨w.heap.size, 8, none⟩) (Nat.le_refl _) (.int .i64 x3.i)).setCell (p := ⟨w.heap.size, 9, none⟩) (Nat.le_refl _) (.int .i64 x3.k)).setCell (p := ⟨w.heap.size, 10, none⟩) (Nat.le_refl _) (.string x4))
    clear h
    go_wp2_with fail
    generalize (((((((((((V.setCell ⟨w.heap.size, 0, none⟩ (.string x0)).setCell ⟨w.heap.size, 1, none⟩ (.int .i64 x1.s)).setCell ⟨w.heap.size, 2, none⟩ (.int .i64 x1.c)).setCell ⟨w.heap.size, 3, none⟩ (.int .i64 x1.i)).setCell ⟨w.heap.size, 4, none⟩ (.int .i64 x1.k)).setCell ⟨w.heap.size, 5, none⟩ (.string x2)).setCell ⟨w.heap.size, 6, none⟩ (.int .i64 x3.s)).setCell ⟨w.heap.size, 7, none⟩ (.int .i64 x3.c)).setCell ⟨w.heap.size, 8, none⟩ (.int .i64 x3.i)).setCell ⟨w.heap.size, 9, none⟩ (.int .i64 x3.k)).setCell ⟨w.heap.size, 10, none⟩ (.string x4)) = V9 at *
    clear z0 z1 z2 z3 z4 z5 z6 z7 z8 z9 z10
    have y0 := (z 0 _ rfl).1
    have y1 := (z 1 _ rfl).1
    have y2 := (z 2 _ rfl).1
    have y3 := (z 3 _ rfl).1
    have y4 := (z 4 _ rfl).1
    have y5 := (z 5 _ rfl).1
    have y6 := (z 6 _ rfl).1
    have y7 := (z 7 _ rfl).1
    have y8 := (z 8 _ rfl).1
    have y9 := (z 9 _ rfl).1
    have y10 := (z 10 _ rfl).1
    exact bodyPost_ret (v := .tuple #[(⟨x0, x1, x2, x3, x4⟩ : Msg).v, .int .i64 er]) (by simp [results, Try.results18, go_sem, he, msgZ, y0, y1, y2, y3, y4, y5, y6, y7, y8, y9, y10]) rfl ⟨rfl, b⟩
  · obtain rfl : Pm = _ := hPm.symm.trans (if_neg he)
    clear f
    go_wp2_with fail
    refine (c0 _ h.rd).mono ?_
    rintro e U ⟨rfl, hR, hT⟩
    replace h := h.call hR hT
    clear hR hT c0
    have z0 := h.m2 0 _ rfl
    have z1 := h.m2 1 _ rfl
    have z2 := h.m2 2 _ rfl
    have z3 := h.m2 3 _ rfl
    have z4 := h.m2 4 _ rfl
    have z5 := h.m2 5 _ rfl
    have z6 := h.m2 6 _ rfl
    have z7 := h.m2 7 _ rfl
    have z8 := h.m2 8 _ rfl
    have z9 := h.m2 9 _ rfl
    have z10 := h.m2 10 _ rfl
    have z : Blk (((((((((((U.setCell ⟨w.heap.size, 0, none⟩ (.string ⟨#[]⟩)).setCell ⟨w.heap.size, 1, none⟩ (.int .i64 0)).setCell ⟨w.heap.size, 2, none⟩ (.int .i64 0)).setCell ⟨w.heap.size, 3, none⟩ (.int .i64 0)).setCell ⟨w.heap.size, 4, none⟩ (.int .i64 0)).setCell ⟨w.heap.size, 5, none⟩ (.string ⟨#[]⟩)).setCell ⟨w.heap.size, 6, none⟩ (.int .i64 0)).setCell ⟨w.heap.size, 7, none⟩ (.int .i64 0)).setCell ⟨w.heap.size, 8, none⟩ (.int .i64 0)).setCell ⟨w.heap.size, 9, none⟩ (.int .i64 0)).setCell ⟨w.heap.size, 10, none⟩ (.string ⟨#[]⟩)) w.heap.size [.string ⟨#[]⟩, .int .i64 0, .int .i64 0, .int .i64 0, .int .i64 0, .string ⟨#[]⟩, .int .i64 0, .int .i64 0, .int .i64 0, .int .i64 0, .string ⟨#[]⟩] := (((((((((((h.m2.set 0 (.string ⟨#[]⟩) (by simp)).set 1 (.int .i64 0) (by simp)).set 2 (.int .i64 0) (by simp)).set 3 (.int .i64 0) (by simp)).set 4 (.int .i64 0) (by simp)).set 5 (.string ⟨#[]⟩) (by simp)).set 6 (.int .i64 0) (by simp)).set 7 (.int .i64 0) (by simp)).set 8 (.int .i64 0) (by simp)).set 9 (.int .i64 0) (by simp)).set 10 (.string ⟨#[]⟩) (by simp))
    have b := h.bl.trans ((((((((((((Below.refl w.heap.size U).setCell (p := ⟨w.heap.size, 0, none⟩) (Nat.le_refl _) (.string ⟨#[]⟩)).setCell (p := ⟨w.heap.size, 1, none⟩) (Nat.le_refl _) (.int .i64 0)).setCell (p := ⟨w.heap.size, 2, none⟩) (Nat.le_refl _) (.int .i64 0)).setCell (p := ⟨w.heap.size, 3, none⟩) (Nat.le_refl _) (.int .i64 0)).setCell (p := ⟨w.heap.size, 4, none⟩) (Nat.le_refl _) (.int .i64 0)).setCell (p := ⟨w.heap.size, 5, none⟩) (Nat.le_refl _) (.string ⟨#[]⟩)).setCell (p := ⟨w.heap.size, 6, none⟩) (Nat.le_refl _) (.int .i64 0)).setCell (p := ⟨w.heap.size, 7, none⟩) (Nat.le_refl _) (.int .i64 0)).setCell (p := ⟨w.heap.size, 8, none⟩) (Nat.le_refl _) (.int .i64 0)).setCell (p := ⟨w.heap.size, 9, none⟩) (Nat.le_refl _) (.int .i64 0)).setCell (p := ⟨w.heap.size, 10, none⟩) (Nat.le_refl _) (.string ⟨#[]⟩))
    clear h
    go_wp2_with fail
    generalize (((((((((((U.setCell ⟨w.heap.size, 0, none⟩ (.string ⟨#[]⟩)).setCell ⟨w.heap.size, 1, none⟩ (.int .i64 0)).setCell ⟨w.heap.size, 2, none⟩ (.int .i64 0)).setCell ⟨w.heap.size, 3, none⟩ (.int .i64 0)).setCell ⟨w.heap.size, 4, none⟩ (.int .i64 0)).setCell ⟨w.heap.size, 5, none⟩ (.string ⟨#[]⟩)).setCell ⟨w.heap.size, 6, none⟩ (.int .i64 0)).setCell ⟨w.heap.size, 7, none⟩ (.int .i64 0)).setCell ⟨w.heap.size, 8, none⟩ (.int .i64 0)).setCell ⟨w.heap.size, 9, none⟩ (.int .i64 0)).setCell ⟨w.heap.size, 10, none⟩ (.string ⟨#[]⟩)) = V9 at *
    clear z0 z1 z2 z3 z4 z5 z6 z7 z8 z9 z10
    have y0 := (z 0 _ rfl).1
    have y1 := (z 1 _ rfl).1
    have y2 := (z 2 _ rfl).1
    have y3 := (z 3 _ rfl).1
    have y4 := (z 4 _ rfl).1
    have y5 := (z 5 _ rfl).1
    have y6 := (z 6 _ rfl).1
    have y7 := (z 7 _ rfl).1
    have y8 := (z 8 _ rfl).1
    have y9 := (z 9 _ rfl).1
    have y10 := (z 10 _ rfl).1
    exact bodyPost_ret (v := .tuple #[msgZ.v, .int .i64 er]) (by simp [results, Try.results18, go_sem, he, msgZ, y0, y1, y2, y3, y4, y5, y6, y7, y8, y9, y10]) rfl ⟨rfl, b⟩
end Go.Proofs.Ytecleampjeebaaa
