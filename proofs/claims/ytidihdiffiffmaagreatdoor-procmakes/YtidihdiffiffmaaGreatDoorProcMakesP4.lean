/-
  PART 4 of what ProcMakes leans on: PcFnG PcFnH PcFnI PcFnJ PcCopy PcFnK PcFnL PcFnM PcFnN PcFnO PcFnP PcFnQ RowSet PrL.
-/
import Derived.Defers
import Derived.Recover
import Derived.Test.YtidihdiffiffmaaGreatDoorProcMakesP3
namespace Go.Proofs.YtidihdiffiffmaaGreatDoor
open Go.RowKit
set_option maxRecDepth 8000
set_option linter.unusedSimpArgs false
set_option linter.unusedVariables false
section
variable {ops : Array Oper} {o : Oper} {a : Act} {w : World} {Q : Exit → Act → World → Prop}
theorem step_st {T : TypeId} {K : Act → World → Prop} {E : Prop} (hg : o.guard = none) (x z : Operand) (ho : o.op = .store T x z) (y : Addr) (hx : a.eval x = .pointer (some y)) (v : Value) (hz : a.eval z = v) (hst : (Instr.storeAt T (.pointer (some y)) v).run Tryz.prog w = .ok () (w.setCell y v)) (hK : K (a.put o.dst undef) (w.setCell y v)) :
    if Region.wanted o (yielded ops a.tmps) = true then Oper.wp Tryz.prog o a w K Q else E := by
 have hw : Region.wanted o (yielded ops a.tmps) = true := by simp [Region.wanted, hg]
 rw [if_pos hw]
 unfold Oper.wp
 simp [execOp, ho, hx, hz, hst, Result.andThen]
 exact hK
end
theorem int_store (w : World) (y : Addr) (u : Value) (x : Int) (hc : w.cell? y = some u) (hf : w.frozen? y = false) : (Instr.storeAt 3 (.pointer (some y)) (.int .i64 x)).run Tryz.prog w = .ok () (w.setCell y (.int .i64 x)) := by
 have h1 := Tryz.underlying3
 go_simp
theorem int64_store (w : World) (y : Addr) (u : Value) (x : Int) (hc : w.cell? y = some u) (hf : w.frozen? y = false) : (Instr.storeAt 2 (.pointer (some y)) (.int .i64 x)).run Tryz.prog w = .ok () (w.setCell y (.int .i64 x)) := by
 have h1 := Tryz.underlying2
 go_simp
set_option maxHeartbeats 2000000 in
theorem creck_any (o a b : Int) (ho : o ≠ 1) (w : World) : Calls Tryz.prog 118 #[.int .i64 o, .int .i64 a, .int .i64 b] w fun e w' => e = .returned (.int .i64 (arC o a b)) ∧ Below w.heap.size w w' := by
 by_cases c4 : o = 4
 ·subst c4
  have k := word_Add_any a b w
  rw [show arC 4 a b = wrap64 (a + b) from rfl]
  generalize wrap64 (a + b) = x at *
  go_enter Tryz.func118, Tryz.ntmps118
  go_wp2_with fail
  refine k.mono ?_
  rintro e W' ⟨rfl, rfl⟩
  go_wp2_with fail
  go_ret
  exact ⟨rfl, Below.refl _ _⟩
 have n4 : (o == 4) = false := by simpa using c4
 by_cases c5 : o = 5
 ·subst c5
  have k := word_Sub_any a b w
  rw [show arC 5 a b = wrap64 (a - b) from rfl]
  generalize wrap64 (a - b) = x at *
  go_enter Tryz.func118, Tryz.ntmps118
  go_wp2_with fail
  refine k.mono ?_
  rintro e W' ⟨rfl, rfl⟩
  go_wp2_with fail
  go_ret
  exact ⟨rfl, Below.refl _ _⟩
 have n5 : (o == 5) = false := by simpa using c5
 by_cases c6 : o = 6
 ·subst c6
  have k := word_Mul_any a b w
  rw [show arC 6 a b = wrap64 (a * b) from rfl]
  generalize wrap64 (a * b) = x at *
  go_enter Tryz.func118, Tryz.ntmps118
  go_wp2_with fail
  refine k.mono ?_
  rintro e W' ⟨rfl, rfl⟩
  go_wp2_with fail
  go_ret
  exact ⟨rfl, Below.refl _ _⟩
 have n6 : (o == 6) = false := by simpa using c6
 by_cases c7 : o = 7
 ·subst c7
  have k := word_FAdd_any a b w
  rw [show arC 7 a b = fop .add a b from rfl]
  generalize fop .add a b = x at *
  go_enter Tryz.func118, Tryz.ntmps118
  go_wp2_with fail
  refine k.mono ?_
  rintro e W' ⟨rfl, n, rfl⟩
  go_wp2_with fail
  go_ret
  exact ⟨rfl, below_drewN w n⟩
 have n7 : (o == 7) = false := by simpa using c7
 by_cases c8 : o = 8
 ·subst c8
  have k := word_FSub_any a b w
  rw [show arC 8 a b = fop .sub a b from rfl]
  generalize fop .sub a b = x at *
  go_enter Tryz.func118, Tryz.ntmps118
  go_wp2_with fail
  refine k.mono ?_
  rintro e W' ⟨rfl, n, rfl⟩
  go_wp2_with fail
  go_ret
  exact ⟨rfl, below_drewN w n⟩
 have n8 : (o == 8) = false := by simpa using c8
 by_cases c9 : o = 9
 ·subst c9
  have k := word_FMul_any a b w
  rw [show arC 9 a b = fop .mul a b from rfl]
  generalize fop .mul a b = x at *
  go_enter Tryz.func118, Tryz.ntmps118
  go_wp2_with fail
  refine k.mono ?_
  rintro e W' ⟨rfl, n, rfl⟩
  go_wp2_with fail
  go_ret
  exact ⟨rfl, below_drewN w n⟩
 have n9 : (o == 9) = false := by simpa using c9
 by_cases c10 : o = 10
 ·subst c10
  have k := word_FDiv_any a b w
  rw [show arC 10 a b = fop .quo a b from rfl]
  generalize fop .quo a b = x at *
  go_enter Tryz.func118, Tryz.ntmps118
  go_wp2_with fail
  refine k.mono ?_
  rintro e W' ⟨rfl, n, rfl⟩
  go_wp2_with fail
  go_ret
  exact ⟨rfl, below_drewN w n⟩
 have n10 : (o == 10) = false := by simpa using c10
 have k := word_FLess_any a b w
 have hx : arC o a b = less a b := by unfold arC; rw [if_neg ho, if_neg c4, if_neg c5, if_neg c6, if_neg c7, if_neg c8, if_neg c9, if_neg c10]
 rw [hx]
 generalize less a b = x at *
 clear hx ho c4 c5 c6 c7 c8 c9 c10
 go_enter Tryz.func118, Tryz.ntmps118
 go_wp2_with fail
 refine k.mono ?_
 rintro e W' ⟨rfl, rfl⟩
 go_wp2_with fail
 go_ret
 exact ⟨rfl, Below.refl _ _⟩
set_option maxHeartbeats 2000000 in
theorem cfix_any (bx : Nat) (c : Cp) (v : Value) (r : List Value) (w : World) (hX : XAt bx c v r w) :
    Calls Tryz.prog 120 #[.pointer (some ⟨bx, 0, none⟩)] w fun e w' => (toE c.a ≠ 0 ∧ e = .panicked (thr 36) ∧ w' = w) ∨ (toE c.a = 0 ∧ (∃ q, e = .returned q) ∧ XAt bx { c with a := toV c.a } v r w' ∧ Sole bx w w') := by
 have k := word_ToInt_any c.a w
 have y3 := hX.a
 have yf := hX.free (i := 3) (by decide)
 obtain ⟨P, hP⟩ : ∃ P : Ending → World → Prop, (fun e w' => (toE c.a ≠ 0 ∧ e = .panicked (thr 36) ∧ w' = w) ∨ (toE c.a = 0 ∧ (∃ q, e = .returned q) ∧ XAt bx { c with a := toV c.a } v r w' ∧ Sole bx w w')) = P := ⟨_, rfl⟩
 rw [hP]
 replace hP : Aside ((fun e w' => (toE c.a ≠ 0 ∧ e = .panicked (thr 36) ∧ w' = w) ∨ (toE c.a = 0 ∧ (∃ q, e = .returned q) ∧ XAt bx { c with a := toV c.a } v r w' ∧ Sole bx w w')) = P) := hP
 by_cases h : toE c.a = 0
 ·have hX2 := hX.setA (toV c.a)
  have hS := (Sole.of (bx := bx) (Below.refl w.heap.size w)).set 3 (.int .i64 (toV c.a))
  have hp : ∀ q, P (.returned q) (w.setCell ⟨bx, 3, none⟩ (.int .i64 (toV c.a))) := fun q => by rw [← hP.out]; exact .inr ⟨h, ⟨q, rfl⟩, hX2, hS⟩
  rw [h] at k
  clear hP hX2 hS h hX
  generalize toV c.a = x at *
  go_enter Tryz.func120, Tryz.ntmps120
  go_wp2_with fail
  refine k.mono ?_
  rintro e W1 ⟨rfl, rfl⟩
  go_wp2_with fail
  refine (need_ok 36 W1).mono ?_
  rintro e W2 ⟨rfl, rfl⟩
  go_wp2_with fail
  refine bodyPost_end (v := .tuple #[]) (by simp [results, Tryz.results120, go_sem]) rfl ?_
  exact hp _
 ·have hp : P (.panicked (thr 36)) w := by rw [← hP.out]; exact .inl ⟨h, rfl, rfl⟩
  have q : (toE c.a == 0) = false := by simpa using h
  clear hP h hX
  generalize toE c.a = ee at *
  go_enter Tryz.func120, Tryz.ntmps120
  go_wp2_with fail
  refine k.mono ?_
  rintro e W1 ⟨rfl, rfl⟩
  go_wp2_with fail
  refine (need_no 36 W1).mono ?_
  rintro e W2 ⟨rfl, rfl⟩
  go_wp2_with fail
  exact diedC hp
set_option maxHeartbeats 2000000 in
theorem center_any (bx : Nat) (c : Cp) (v : Value) (r : List Value) (f : Fr) (w : World) (hX : XAt bx c v r w) :
    Calls Tryz.prog 162 #[.pointer (some ⟨bx, 0, none⟩), .agg (frc f).toArray] w fun e w' => (∃ q, e = .returned q) ∧ XAt bx { c with seg := f.s, off := f.f, ring := f.r } v r w' ∧ Sole bx w w' := by
 have hf0 := blkl_alloc w (frc f).toArray 102
 have hB0 := alloc_below w (.cells (frc f).toArray 102)
 have hX0 := hX.keep hB0
 have hbx := hX.lt
 replace hf0 : BlkL w.heap.size (frc f) (w.alloc (.cells #[.int .i64 f.s, .int .i64 f.f, .int .i64 f.r] 102)) := hf0
 replace hB0 : Below w.heap.size w (w.alloc (.cells #[.int .i64 f.s, .int .i64 f.f, .int .i64 f.r] 102)) := hB0
 replace hX0 : XAt bx c v r (w.alloc (.cells #[.int .i64 f.s, .int .i64 f.f, .int .i64 f.r] 102)) := hX0
 clear hX
 have hfe : (frc f).toArray = #[.int .i64 f.s, .int .i64 f.f, .int .i64 f.r] := rfl
 rw [hfe]
 go_enter Tryz.func162, Tryz.ntmps162
 go_upto_region 1 with fail
 generalize w.alloc (.cells #[.int .i64 f.s, .int .i64 f.f, .int .i64 f.r] 102) = Z at *
 have hdr := (Below.refl Z.heap.size Z).drew
 have hX1 := hX0.keep hdr
 have hf1 := stab_blk _ _ _ _ hf0 hdr
 have hO1 := Sole.of (bx := bx) (Below.then hB0 hdr)
 clear hdr hX0 hf0 hB0
 refine wp_region_held_drew (S := (BlkL w.heap.size (frc f))) (by kernel_rfl) (by exact hf1) ?_
 intro hHeld
 generalize Z.drew = w0 at *
 refine tkA 0 ?_
 refine tkA 1 ?_
 refine tkA 2 ?_
 refine tkA 3 ?_
 refine tkB 4 (y := yields_cellI (by rfl) _ rfl ⟨w.heap.size, 0, none⟩ rfl (.int .i64 f.s) (fun _ s => (s.1 0 _ rfl).1) intI_load) (h := ?_)
 refine tkA 5 ?_
 refine tkB 6 (y := yields_cellI (by rfl) _ rfl ⟨w.heap.size, 1, none⟩ rfl (.int .i64 f.f) (fun _ s => (s.1 1 _ rfl).1) intI_load) (h := ?_)
 refine tkA 7 ?_
 refine tkB 8 (y := yields_cellI (by rfl) _ rfl ⟨w.heap.size, 2, none⟩ rfl (.int .i64 f.r) (fun _ s => (s.1 2 _ rfl).1) intI_load) (h := ?_)
 refine tkA 9 ?_
 refine tkA 10 ?_
 refine tkA 11 ?_
 refine tkR (rs := [12]) ?_
 refine tkC (fun K hK => ?_) AllReadyH.nil
 have hX2 := hX1.setSeg f.s
 have hO2 := hO1.set 0 (.int .i64 f.s)
 have hf2 := far_blk hf1 (show bx ≠ w.heap.size by omega) 0 (.int .i64 f.s)
 refine step_st rfl _ _ rfl ⟨bx, 0, none⟩ rfl (.int .i64 f.s) rfl (int_store _ _ _ _ hX1.seg (hX1.free (by decide))) ?_
 (try simp only [Act.put, zsA, zsB, zsC])
 refine hK.out _ _ (hf2) ?_
 clear hHeld hK
 intro hHeld
 (try simp only [Act.put, zsA, zsB, zsC])
 refine tkA 13 ?_
 refine tkA 14 ?_
 refine tkA 15 ?_
 refine tkR (rs := [16]) ?_
 refine tkC (fun K hK => ?_) AllReadyH.nil
 have hX3 := hX2.setOff f.f
 have hO3 := hO2.set 1 (.int .i64 f.f)
 have hf3 := far_blk hf2 (show bx ≠ w.heap.size by omega) 1 (.int .i64 f.f)
 refine step_st rfl _ _ rfl ⟨bx, 1, none⟩ rfl (.int .i64 f.f) rfl (int_store _ _ _ _ hX2.off (hX2.free (by decide))) ?_
 (try simp only [Act.put, zsA, zsB, zsC])
 refine hK.out _ _ (hf3) ?_
 clear hHeld hK
 intro hHeld
 (try simp only [Act.put, zsA, zsB, zsC])
 refine tkA 17 ?_
 refine tkA 18 ?_
 refine tkA 19 ?_
 refine tkR (rs := [20]) ?_
 refine tkC (fun K hK => ?_) AllReadyH.nil
 have hX4 := hX3.setRing f.r
 have hO4 := hO3.set 2 (.int .i64 f.r)
 have hf4 := far_blk hf3 (show bx ≠ w.heap.size by omega) 2 (.int .i64 f.r)
 refine step_st rfl _ _ rfl ⟨bx, 2, none⟩ rfl (.int .i64 f.r) rfl (int_store _ _ _ _ hX3.ring (hX3.free (by decide))) ?_
 (try simp only [Act.put, zsA, zsB, zsC])
 refine hK.out _ _ (hf4) ?_
 clear hHeld hK
 intro hHeld
 (try simp only [Act.put, zsA, zsB, zsC])
 refine wpAnyH_done (by kernel_rfl) ?_ _
 go_wp2_with fail
 refine bodyPost_end (v := .tuple #[]) (by simp [results, Tryz.results162, go_sem]) rfl ?_
 exact ⟨⟨_, rfl⟩, hX4, hO4⟩
theorem xraise_step {b : Nat} {c : Cp} {v : Value} {r : List Value} {W : World} (h4 : c.ps.length = 4) (R : Int) {k : Nat} (hk : k < 4) (h : XAt b (raiseK c R k) v r W) :
    W.cell? ⟨b, 4 + k * 3 + 2, none⟩ = some (.int .i64 (c.ps.getD k ⟨0, 0, 0⟩).r) ∧ W.frozen? ⟨b, 4 + k * 3 + 2, none⟩ = false ∧ XAt b (raiseK c R (k + 1)) v r (W.setCell ⟨b, 4 + k * 3 + 2, none⟩ (.int .i64 (gmax (c.ps.getD k ⟨0, 0, 0⟩).r R))) := by
 have hidx := st_ptr (c := raiseK c R k) (v := v) (raise_len h4 R k) hk (j := 2) (by decide)
 rw [raise_ptr h4 R hk] at hidx
 have hc := h.cells (i := 4 + k * 3 + 2) (hidx.trans rfl)
 exact ⟨hc.1, hc.2, h.put (by omega) _ (raise_len h4 R (k + 1)) (raise_step h4 v R hk)⟩
set_option maxRecDepth 8000 in
set_option maxHeartbeats 2000000 in
theorem cweaken_any (bx : Nat) (c : Cp) (v : Value) (r : List Value) (R : Int) (w : World) (hX : XAt bx c v r w) :
    Calls Tryz.prog 163 #[.pointer (some ⟨bx, 0, none⟩), .int .i64 R] w fun e w' => (∃ q, e = .returned q) ∧ XAt bx (raiseC c R) v r w' ∧ Sole bx w w' := by
 have h4 := hX.ps
 have hE : Aside (∀ W, XAt bx (raiseK c R 4) v r W → XAt bx (raiseC c R) v r W) := by intro W h; rw [raise_four h4] at h; exact h
 rw [← raise_zero c R] at hX
 have hS := Sole.of (bx := bx) (Below.refl w.heap.size w)
 go_enter Tryz.func163, Tryz.ntmps163
 go_wp2_with fail
 go_loopw [5] (fun t5 wr => ∃ k : Nat, k ≤ 4 ∧ t5 = .int .i64 (k : Int) ∧ XAt bx (raiseK c R k) v r wr ∧ Sole bx w wr) (fun t5 _ => 4 - (Go.RowKit.intOf t5).toNat)
 case atStart => exact ⟨0, by omega, rfl, hX, hS⟩
 case round =>
 clear hX hS
 obtain ⟨k, hk, rfl, hX, hS⟩ := hrel
 by_cases hk4 : k < 4
 ·have i1 : (k : Int) < 4 := by omega
  have i2 : ¬ (k : Int) < 0 := by omega
  go_upto_region 3 with fail
  have hdr := (Below.refl wr.heap.size wr).drew
  obtain ⟨hc1, hf1, hX2⟩ := xraise_step h4 R hk4 (hX.keep hdr)
  have hS2 := (hS.trans (Sole.of hdr)).set (4 + k * 3 + 2) (.int .i64 (gmax (c.ps.getD k ⟨0, 0, 0⟩).r R))
  generalize c.ps.getD k ⟨0, 0, 0⟩ = p at *
  obtain ⟨G, hG⟩ : ∃ G, gmax p.r R = G := ⟨_, rfl⟩
  rw [hG] at hX2 hS2
  have hgm : (if p.r < R then R else p.r) = G := hG
  clear hX hS hdr hG
  refine wp_region_held_drew (S := (fun _ => True)) (by kernel_rfl) (by trivial) ?_
  intro hHeld
  generalize wr.drew = w0 at *
  refine tkA 0 ?_
  refine tkA 1 ?_
  refine tkA 2 ?_
  refine tkA 3 ?_
  refine tkA 4 ?_
  refine tkA 5 ?_
  refine tkA 6 ?_
  refine tkA 7 ?_
  refine tkA 8 ?_
  refine tkA 10 ?_
  refine tkA 12 ?_
  refine tkA 13 ?_
  refine tkA 14 ?_
  refine tkR (rs := [9]) ?_
  refine tkC (fun K hK => ?_) AllReadyH.nil
  refine step_oneJ rfl _ rfl ⟨bx, 4 + k * 3 + 2, none⟩ rfl (.int .i64 p.r) hc1 intI_load ?_
  (try simp only [Act.put, zsA, zsB, zsC])
  refine hK.out _ _ (trivial) ?_
  clear hHeld hK
  intro hHeld
  (try simp only [Act.put, zsA, zsB, zsC])
  refine tkA 11 ?_
  refine tkA 15 ?_
  refine tkA 16 ?_
  refine tkR (rs := [17]) ?_
  refine tkC (fun K hK => ?_) AllReadyH.nil
  refine step_st rfl _ _ rfl ⟨bx, 4 + k * 3 + 2, none⟩ rfl (.int .i64 G) (by simp [Act.eval, hgm, max_ofI hgm]) (int_store _ _ _ _ hc1 hf1) ?_
  (try simp only [Act.put, zsA, zsB, zsC])
  refine hK.out _ _ (trivial) ?_
  clear hHeld hK
  intro hHeld
  (try simp only [Act.put, zsA, zsB, zsC])
  refine wpAnyH_done (by kernel_rfl) ?_ _
  go_wp2_with fail
  exact ⟨⟨k + 1, by omega, by simp, hX2, hS2⟩, by simp [Go.RowKit.intOf]; omega⟩
 ·obtain rfl : k = 4 := by omega
  have hX4 := hE.out wr hX
  clear hE hX
  go_wp2_with fail
  refine bodyPost_end (v := .tuple #[]) (by simp [results, Tryz.results163, go_sem]) rfl ?_
  exact ⟨⟨_, rfl⟩, hX4, hS⟩
end Go.Proofs.YtidihdiffiffmaaGreatDoor
namespace Go.Proofs.YtidihdiffiffmaaGreatDoor
open Go.RowKit
set_option maxRecDepth 8000
set_option linter.unusedSimpArgs false
set_option linter.unusedVariables false
def jmpC (c : Cp) (i : Ins) : Cp := if i.o = 14 ∨ i.o = 15 ∧ c.a = 0 ∨ i.o = 16 ∧ c.a < 0 then { c with off := i.n } else c
set_option maxHeartbeats 4000000 in
theorem cjump_any (bx : Nat) (c : Cp) (v : Value) (r : List Value) (i : Ins) (w : World) (hX : XAt bx c v r w) :
    Calls Tryz.prog 121 #[.pointer (some ⟨bx, 0, none⟩), i.v] w fun e w' => (∃ q, e = .returned q) ∧ XAt bx (jmpC c i) v r w' ∧ Sole bx w w' := by
 have hi0 := blkl_alloc w (ins3 i).toArray 80
 have hB0 := alloc_below w (.cells (ins3 i).toArray 80)
 have hX0 := hX.keep hB0
 have hbx := hX.lt
 replace hi0 : BlkL w.heap.size (ins3 i) (w.alloc (.cells #[.int .i64 i.o, .int .i64 i.p, .int .i64 i.n] 80)) := hi0
 replace hB0 : Below w.heap.size w (w.alloc (.cells #[.int .i64 i.o, .int .i64 i.p, .int .i64 i.n] 80)) := hB0
 replace hX0 : XAt bx c v r (w.alloc (.cells #[.int .i64 i.o, .int .i64 i.p, .int .i64 i.n] 80)) := hX0
 have hO0 := Sole.of (bx := bx) hB0
 have x0 := (hi0.1 0 _ rfl).1
 have x2 := (hi0.1 2 _ rfl).1
 have y3 := hX0.a
 have y1 := hX0.off
 have yf := hX0.free (i := 1) (by decide)
 have hX1 := hX0.setOff i.n
 have hO1 := hO0.set 1 (.int .i64 i.n)
 obtain ⟨j, hj⟩ : ∃ j, jmpC c i = j := ⟨_, rfl⟩
 rw [hj]
 replace hj : Aside (jmpC c i = j) := hj
 clear hi0 hB0 hX
 by_cases hc : i.o = 14 ∨ i.o = 15 ∧ c.a = 0 ∨ i.o = 16 ∧ c.a < 0
 ·have hjj : Aside ({ c with off := i.n } = j) := by
    show _ = _
    rw [← hj.out, jmpC, if_pos hc]
  clear hj hX0 hO0
  rcases hc with h1 | ⟨h1, h2⟩ | ⟨h1, h2⟩
  ·replace h1 : Aside (i.o = 14) := h1
   go_enter Tryz.func121, Tryz.ntmps121
   go_upto_region 1 with fail
   generalize w.alloc (.cells #[.int .i64 i.o, .int .i64 i.p, .int .i64 i.n] 80) = W0 at *
   rw [h1.out] at x0
   go_wp2_with fail
   refine bodyPost_end (v := .tuple #[]) (by simp [results, Tryz.results121, go_sem]) rfl ?_
   exact ⟨⟨_, rfl⟩, by rw [← hjj.out]; exact hX1, hO1⟩
  ·replace h1 : Aside (i.o = 15) := h1
   go_enter Tryz.func121, Tryz.ntmps121
   go_upto_region 1 with fail
   generalize w.alloc (.cells #[.int .i64 i.o, .int .i64 i.p, .int .i64 i.n] 80) = W0 at *
   rw [h1.out] at x0
   rw [h2] at y3
   go_wp2_with fail
   refine bodyPost_end (v := .tuple #[]) (by simp [results, Tryz.results121, go_sem]) rfl ?_
   exact ⟨⟨_, rfl⟩, by rw [← hjj.out]; exact hX1, hO1⟩
  ·replace h1 : Aside (i.o = 16) := h1
   have q : ¬ (0 : Int) ≤ c.a := by omega
   go_enter Tryz.func121, Tryz.ntmps121
   go_upto_region 1 with fail
   generalize w.alloc (.cells #[.int .i64 i.o, .int .i64 i.p, .int .i64 i.n] 80) = W0 at *
   rw [h1.out] at x0
   go_wp2_with fail
   refine bodyPost_end (v := .tuple #[]) (by simp [results, Tryz.results121, go_sem]) rfl ?_
   exact ⟨⟨_, rfl⟩, by rw [← hjj.out]; exact hX1, hO1⟩
 ·have hjj : Aside (c = j) := by
    show _ = _
    rw [← hj.out, jmpC, if_neg hc]
  clear hj hX1 hO1
  have h14 : (i.o == 14) = false := by simp; omega
  by_cases h15 : i.o = 15
  ·have ha : (c.a == 0) = false := by simp; omega
   replace h15 : Aside (i.o = 15) := h15
   clear hc
   go_enter Tryz.func121, Tryz.ntmps121
   go_upto_region 1 with fail
   generalize w.alloc (.cells #[.int .i64 i.o, .int .i64 i.p, .int .i64 i.n] 80) = W0 at *
   rw [h15.out] at x0
   go_wp2_with fail
   refine bodyPost_end (v := .tuple #[]) (by simp [results, Tryz.results121, go_sem]) rfl ?_
   exact ⟨⟨_, rfl⟩, by rw [← hjj.out]; exact hX0, hO0⟩
  ·by_cases h16 : i.o = 16
   ·have ha : ¬ c.a < 0 := by omega
    have ha2 : 0 ≤ c.a := by omega
    replace h16 : Aside (i.o = 16) := h16
    clear hc
    go_enter Tryz.func121, Tryz.ntmps121
    go_upto_region 1 with fail
    generalize w.alloc (.cells #[.int .i64 i.o, .int .i64 i.p, .int .i64 i.n] 80) = W0 at *
    rw [h16.out] at x0
    go_wp2_with fail
    refine bodyPost_end (v := .tuple #[]) (by simp [results, Tryz.results121, go_sem]) rfl ?_
    exact ⟨⟨_, rfl⟩, by rw [← hjj.out]; exact hX0, hO0⟩
   ·have q15 : (i.o == 15) = false := by simpa using h15
    have q16 : (i.o == 16) = false := by simpa using h16
    clear hc h15 h16
    go_enter Tryz.func121, Tryz.ntmps121
    go_upto_region 1 with fail
    generalize w.alloc (.cells #[.int .i64 i.o, .int .i64 i.p, .int .i64 i.n] 80) = W0 at *
    go_wp2_with fail
    refine bodyPost_end (v := .tuple #[]) (by simp [results, Tryz.results121, go_sem]) rfl ?_
    exact ⟨⟨_, rfl⟩, by rw [← hjj.out]; exact hX0, hO0⟩
set_option maxRecDepth 8000 in
set_option maxHeartbeats 4000000 in
theorem csetp_any (bx : Nat) (c : Cp) (v : Value) (r : List Value) (hc : c.Ok) (k : Nat) (hk : k < 4) (w : World) (hX : XAt bx c v r w) :
    Calls Tryz.prog 122 #[.pointer (some ⟨bx, 0, none⟩), .int .i64 (k : Int)] w fun e w' => (∃ q, e = .returned q) ∧ XAt bx { c with ps := c.ps.set k ⟨(wPtr c.a).s, (wPtr c.a).f, gmax (wPtr c.a).r c.ring⟩ } v r w' ∧ Sole bx w w' := by
 have hundP := Tryz.underlying41
 have hszP : (Tryz.prog.info? 41).map (·.size) = some 3 := by kernel_rfl
 have kd := fun (W : World) => idecp_any c.a hc.a W
 have y3 := hX.a
 have hbx := hX.lt
 generalize wPtr c.a = p at *
 have hgm : (if p.r < c.ring then c.ring else p.r) = gmax p.r c.ring := rfl
 generalize gmax p.r c.ring = G at *
 have i1 : (k : Int) < 4 := by omega
 have i2 : ¬ (k : Int) < 0 := by omega
 go_enter Tryz.func122, Tryz.ntmps122
 go_wp2_with fail
 refine (kd w).mono ?_
 rintro e W1 ⟨rfl, hb⟩
 have hp2 := blkl_alloc W1 (ptr3 p).toArray 41
 have hb2 := alloc_below W1 (.cells (ptr3 p).toArray 41)
 have hX2 := (hX.keep hb).keep hb2
 have hB2 := Below.then hb hb2
 have hlt := hb.size
 go_upto_region 1 with fail
 replace hp2 : BlkL W1.heap.size (ptr3 p) (W1.alloc (.cells #[.int .i64 p.s, .int .i64 p.f, .int .i64 p.r] 41)) := hp2
 replace hX2 : XAt bx c v r (W1.alloc (.cells #[.int .i64 p.s, .int .i64 p.f, .int .i64 p.r] 41)) := hX2
 replace hB2 : Below w.heap.size w (W1.alloc (.cells #[.int .i64 p.s, .int .i64 p.f, .int .i64 p.r] 41)) := hB2
 generalize W1.alloc (.cells #[.int .i64 p.s, .int .i64 p.f, .int .i64 p.r] 41) = Z at *
 generalize W1.heap.size = bp at *
 have hdr := (Below.refl Z.heap.size Z).drew
 have hX3 := hX2.keep hdr
 have hp3 := stab_blk _ _ _ _ hp2 hdr
 have hB3 := Below.then hB2 hdr
 clear hX hX2 hp2 hB2 hb hb2 hdr kd y3
 refine wp_region_held_drew (S := (XAt bx c v r)) (by kernel_rfl) (by exact hX3) ?_
 intro hHeld
 generalize Z.drew = w0 at *
 refine tkA 0 ?_
 refine tkA 2 ?_
 refine tkA 3 ?_
 refine tkA 4 ?_
 refine tkA 5 ?_
 refine tkB 6 (y := yields_cellI (by rfl) _ rfl ⟨bx, 2, none⟩ rfl (.int .i64 c.ring) (fun _ s => s.ring) intI_load) (h := ?_)
 refine tkR (rs := [1]) ?_
 refine tkC (fun K hK => ?_) AllReadyH.nil
 refine step_oneJ rfl _ rfl ⟨bp, 2, none⟩ rfl (.int .i64 p.r) (hp3.1 2 _ rfl).1 intI_load ?_
 (try simp only [Act.put, zsA, zsB, zsC])
 refine hK.out _ _ (hX3) ?_
 clear hHeld hK
 intro hHeld
 (try simp only [Act.put, zsA, zsB, zsC])
 refine tkA 7 ?_
 refine tkA 8 ?_
 refine tkR (rs := [9]) ?_
 refine tkC (fun K hK => ?_) AllReadyH.nil
 have hp4 := hp3.1.set 2 (.int .i64 G) (by show 2 < 3; decide)
 have hX4 : XAt bx c v r (w0.setCell ⟨bp, 2, none⟩ (.int .i64 G)) := hX3.same (heap_setCell_other _ ⟨bp, 2, none⟩ bx _ (by show bx ≠ bp; omega)) (by simp)
 have hB4 := hB3.setCell (p := ⟨bp, 2, none⟩) hlt (.int .i64 G)
 refine step_st rfl _ _ rfl ⟨bp, 2, none⟩ rfl (.int .i64 G) (by simp [Act.eval, hgm, max_ofI hgm]) (int_store _ _ _ _ (hp3.1 2 _ rfl).1 (hp3.1 2 _ rfl).2) ?_
 (try simp only [Act.put, zsA, zsB, zsC])
 refine hK.out _ _ (hX4) ?_
 clear hHeld hK
 intro hHeld
 replace hp4 : BlkL bp (ptr3 ⟨p.s, p.f, G⟩) (w0.setCell ⟨bp, 2, none⟩ (.int .i64 G)) := ⟨hp4, hp4.lt (List.getElem?_eq_getElem (by show 0 < 3; decide))⟩
 generalize w0.setCell ⟨bp, 2, none⟩ (.int .i64 G) = W5 at *
 clear hX3 hp3 hB3
 (try simp only [Act.put, zsA, zsB, zsC])
 refine wpAnyH_done (by kernel_rfl) ?_ _
 go_upto_region 2 with fail
 have hdr := (Below.refl W5.heap.size W5).drew
 have hX6 := hX4.keep hdr
 have hp6 := stab_blk _ _ _ _ hp4 hdr
 have hO6 := Sole.of (bx := bx) (Below.then hB4 hdr)
 clear hX4 hp4 hB4 hdr
 refine wp_region_held_drew (S := (BlkL bp (ptr3 ⟨p.s, p.f, G⟩))) (by kernel_rfl) (by exact hp6) ?_
 intro hHeld
 generalize W5.drew = w6 at *
 refine tkA 0 ?_
 refine tkA 1 ?_
 refine tkB 2 (y := yields_row (by rfl) _ rfl bp rfl (ptr3 ⟨p.s, p.f, G⟩) (fun _ s => s.range) hundP rfl hszP) (h := ?_)
 refine tkA 3 ?_
 refine tkA 4 ?_
 refine tkA 5 ?_
 refine tkA 6 ?_
 refine tkR (rs := [7]) ?_
 refine tkC (fun K hK => ?_) AllReadyH.nil
 obtain ⟨W7, hW7, hth7, hX7, -, hot7⟩ := hX6.setPtr hk ⟨p.s, p.f, G⟩
 have hO7 : Sole bx w W7 := by rw [← hW7]; exact hO6.cells (.inl rfl) _ _
 have hp7 : BlkL bp (ptr3 ⟨p.s, p.f, G⟩) W7 := ⟨hp6.1.same (hot7 _ (by omega)), Nat.lt_of_lt_of_le hp6.2 (by rw [← hW7]; exact (Below.cells (B := 0) (Nat.zero_le _) _ _ (Below.refl 0 w6)).size)⟩
 refine step_store_part rfl _ _ rfl bx (4 + k * 3) rfl (ptr3 ⟨p.s, p.f, G⟩) rfl hth7 hszP (ptr3J_one _) hW7 ?_
 (try simp only [Act.put, zsA, zsB, zsC])
 refine hK.out _ _ (hp7) ?_
 clear hHeld hK
 intro hHeld
 (try simp only [Act.put, zsA, zsB, zsC])
 refine wpAnyH_done (by kernel_rfl) ?_ _
 go_wp2_with fail
 refine bodyPost_end (v := .tuple #[]) (by simp [results, Tryz.results122, go_sem]) rfl ?_
 exact ⟨⟨_, rfl⟩, hX7, hO7⟩
end Go.Proofs.YtidihdiffiffmaaGreatDoor
namespace Go.Proofs.YtidihdiffiffmaaGreatDoor
open Go.RowKit
set_option maxRecDepth 8000
set_option linter.unusedSimpArgs false
set_option linter.unusedVariables false
structure SL (bi bf ba : Nat) (i : Ins) (x : Rg) (q : Ptr) (W : World) : Prop where
 i : BlkL bi (ins3 i) W
 x : BlkL bf (rg4 x) W
 q : BlkL ba (ptr3 q) W
theorem SL.keep {bi bf ba : Nat} {i : Ins} {x : Rg} {q : Ptr} {W W' : World} (h : SL bi bf ba i x q W) (hb : Below W.heap.size W W') : SL bi bf ba i x q W' := ⟨stab_blk _ _ _ _ h.i hb, stab_blk _ _ _ _ h.x hb, stab_blk _ _ _ _ h.q hb⟩
def LpP (bx : Nat) (c : Cp) (v : Value) (r : List Value) (k : Nat) (P : Ptr) (E : Int) (w : World) (e : Ending) (w' : World) : Prop :=
 (E ≠ 0 ∧ e = .panicked (thr E) ∧ Below w.heap.size w w') ∨ (E = 0 ∧ (∃ q, e = .returned q) ∧ XAt bx { c with ps := c.ps.set k P } v r w' ∧ Sole bx w w')
set_option maxRecDepth 8000 in
set_option maxHeartbeats 4000000 in
theorem cldp_any (bm bx : Nat) (a : Option Addr) (cap : Nat) (m : List PG) (hm : MG m) (c : Cp) (v : Value) (r : List Value) (hc : c.Ok) (i : Ins) (hi : insE i = 0) (k : Nat) (hk : i.p = (k : Int)) (hk4 : k < 4) (w : World) (hM : MAt bm a cap m w) (hX : XAt bx c v (memI bm :: r) w) :
    Calls Tryz.prog 123 #[.pointer (some ⟨bx, 0, none⟩), i.v] w (LpP bx c v (memI bm :: r) k (follow (wPtr (rdW c (m.map (·.g)) i)) (mSeg c (m.map (·.g)) i).rg (mRing c i)) (rdE c (m.map (·.g)) i) w) := by
 have hundP := Tryz.underlying41
 have hszP : (Tryz.prog.info? 41).map (·.size) = some 3 := by kernel_rfl
 have hundI := Tryz.underlying80
 have hszI : (Tryz.prog.info? 80).map (·.size) = some 3 := by kernel_rfl
 have hundR := Tryz.underlying33
 have hszR : (Tryz.prog.info? 33).map (·.size) = some 4 := by kernel_rfl
 have hbx := hX.lt
 have kme := fun (W : World) h => cmem_any bx c v (memI bm :: r) hc i hi W h
 have krd := fun (W : World) h1 h2 => cread_any bm bx a cap m hm c v r (memP c i) (kn (m.map (·.g)) (memP c i).s) rfl (rdE c (m.map (·.g)) i) rfl W h1 h2
 have hgok : (kn (m.map (·.g)) (memP c i).s).Ok := kn_ok (fun g hg => by obtain ⟨x, hx, rfl⟩ := List.mem_map.1 hg; exact hm.ok x hx) _
 have hfit : fit64 (rdW c (m.map (·.g)) i) := wAt_fit hgok _
 have hw : wAt (mSeg c (m.map (·.g)) i) (memP c i).f = rdW c (m.map (·.g)) i := rfl
 have hsg : kn (m.map (·.g)) (memP c i).s = mSeg c (m.map (·.g)) i := rfl
 have hrr : (memP c i).r = mRing c i := rfl
 simp only [hsg] at krd
 simp only [hw] at krd
 rw [hsg] at hgok
 have kdp := fun (W : World) => idecp_any (rdW c (m.map (·.g)) i) hfit W
 generalize rdW c (m.map (·.g)) i = wd at *
 generalize rdE c (m.map (·.g)) i = E at *
 generalize (mSeg c (m.map (·.g)) i).rg = x at *
 rw [← hrr]
 generalize memP c i = q at *
 clear hw hsg hrr hgok hfit
 have kfo := fun (W : World) => follow_any (wPtr wd) x q.r W
 generalize wPtr wd = wp at *
 have hi0 := blkl_alloc w (ins3 i).toArray 80
 have hB0 := alloc_below w (.cells (ins3 i).toArray 80)
 have hX0 := hX.keep hB0
 have hM0 := hM.below hB0
 replace hi0 : BlkL w.heap.size (ins3 i) (w.alloc (.cells #[.int .i64 i.o, .int .i64 i.p, .int .i64 i.n] 80)) := hi0
 replace hB0 : Below w.heap.size w (w.alloc (.cells #[.int .i64 i.o, .int .i64 i.p, .int .i64 i.n] 80)) := hB0
 replace hX0 : XAt bx c v (memI bm :: r) (w.alloc (.cells #[.int .i64 i.o, .int .i64 i.p, .int .i64 i.n] 80)) := hX0
 replace hM0 : MAt bm a cap m (w.alloc (.cells #[.int .i64 i.o, .int .i64 i.p, .int .i64 i.n] 80)) := hM0
 replace hk : Aside (i.p = (k : Int)) := hk
 clear hX hM hm
 have kme2 : Aside (∀ W, XAt bx c v (memI bm :: r) W → Calls Tryz.prog 116 #[.pointer (some ⟨bx, 0, none⟩), .agg (ins3 i).toArray] W fun e w' => e = .returned (.agg (ptr3 q).toArray) ∧ Below W.heap.size W w') := kme
 clear kme
 go_enter Tryz.func123, Tryz.ntmps123
 go_upto_region 1 with fail
 generalize w.alloc (.cells #[.int .i64 i.o, .int .i64 i.p, .int .i64 i.n] 80) = W0 at *
 have hri := hi0.range
 go_wp2_with (first | (refine wpList_load_row rfl _ rfl w.heap.size rfl (ins3 i) hri hundI rfl hszI ?_) | fail)
 refine (kme2.out W0 hX0).mono ?_
 rintro e W1 ⟨rfl, hb⟩
 obtain ⟨W2, hW2, hth2, hq2, hb2⟩ := put_new W1 (ptr3 ⟨0, 0, 0⟩).toArray 41 (ptr3 q) rfl (by show 0 < 3; decide)
 have hX2 := (hX0.keep hb).keep hb2
 have hM2 := (hM0.below hb).below hb2
 have hi2 := stab_blk _ _ _ _ (stab_blk _ _ _ _ hi0 hb) hb2
 have hB2 := Below.then (Below.then hB0 hb) hb2
 have hl1 := hb.size
 have hl0 := hi0.2
 clear hX0 hM0 hi0 hB0 hb hb2 hri kme2
 go_upto_region 2 with (first | (refine wpList_store_row rfl _ _ rfl W1.heap.size rfl (ptr3 q) rfl hth2 hszP (ptr3J_one _) hW2 ?_) | fail)
 clear hW2 hth2
 have hrq := hq2.range
 have hlq := hq2.2
 generalize W1.heap.size = ba at *
 go_wp2_with (first | (refine wpList_load_row rfl _ rfl ba rfl (ptr3 q) hrq hundP rfl hszP ?_) | fail)
 refine (krd W2 hM2 hX2).mono ?_
 rintro e W3 ⟨rfl, hb⟩
 by_cases hE : E = 0
 rotate_left
 ·rw [if_neg hE]
  clear krd kdp kfo
  go_wp2_with fail
  exact diedC (.inl ⟨hE, rfl, Below.then hB2 hb⟩)
 rw [if_pos hE]
 obtain ⟨W4, hW4, hth4, hx4, hb4⟩ := put_new W3 (rg4 ⟨0, 0, 0, 0⟩).toArray 33 (rg4 x) rfl (by show 0 < 4; decide)
 have hX4 := (hX2.keep hb).keep hb4
 have hi4 := stab_blk _ _ _ _ (stab_blk _ _ _ _ hi2 hb) hb4
 have hq4 := stab_blk _ _ _ _ (stab_blk _ _ _ _ hq2 hb) hb4
 have hB4 := Below.then (Below.then hB2 hb) hb4
 have hl3 := hb.size
 replace hE : Aside (E = 0) := hE
 clear hX2 hM2 hi2 hq2 hB2 hb hb4 krd hrq
 go_upto_region 3 with (first | (refine wpList_store_row rfl _ _ rfl W3.heap.size rfl (rg4 x) rfl hth4 hszR (rg4_one _) hW4 ?_) | fail)
 clear hW4 hth4
 generalize W3.heap.size = bf at *
 have hdr := (Below.refl W4.heap.size W4).drew
 have hS0 : SL w.heap.size bf ba i x q W4.drew := ⟨stab_blk _ _ _ _ hi4 hdr, stab_blk _ _ _ _ hx4 hdr, stab_blk _ _ _ _ hq4 hdr⟩
 have hX5 := hX4.keep hdr
 have hB5 := Below.then hB4 hdr
 have i1 : (k : Int) < 4 := by omega
 have i2 : ¬ (k : Int) < 0 := by omega
 clear hX4 hi4 hq4 hx4 hB4 hdr
 refine wp_region_held_drew (S := (SL w.heap.size bf ba i x q)) (by kernel_rfl) (by exact hS0) ?_
 intro hHeld
 generalize W4.drew = w0 at *
 refine tkA 0 ?_
 refine tkA 1 ?_
 refine tkB 2 (y := yields_cellI (by rfl) _ rfl ⟨w.heap.size, 1, none⟩ rfl (.int .i64 (k : Int)) (fun _ s => by rw [← hk.out]; exact (s.i.1 1 _ rfl).1) intI_load) (h := ?_)
 refine tkA 3 ?_
 refine tkB 5 (y := yields_row (by rfl) _ rfl bf rfl (rg4 x) (fun _ s => s.x.range) hundR rfl hszR) (h := ?_)
 refine tkA 6 ?_
 refine tkB 7 (y := yields_cellI (by rfl) _ rfl ⟨ba, 2, none⟩ rfl (.int .i64 q.r) (fun _ s => (s.q.1 2 _ rfl).1) intI_load) (h := ?_)
 refine tkA 9 ?_
 refine tkA 10 ?_
 refine tkA 11 ?_
 refine tkR (rs := [4]) ?_
 refine tkC (fun K hK => ?_) AllReadyH.nil
 go_simp
 go_at_call 158
 refine (kdp w0).mono ?_
 rintro e w1 ⟨rfl, hb⟩
 replace hS0 := hS0.keep hb
 replace hX5 := hX5.keep hb
 replace hB5 := Below.then hB5 hb
 clear hb
 refine hK.out _ _ (hS0) ?_
 clear hHeld hK
 intro hHeld
 (try simp only [Act.put, zsA, zsB, zsC])
 refine tkR (rs := [8]) ?_
 refine tkC (fun K hK => ?_) AllReadyH.nil
 go_simp
 go_at_call 159
 refine (kfo w1).mono ?_
 rintro e w2 ⟨rfl, hb⟩
 replace hS0 := hS0.keep hb
 replace hX5 := hX5.keep hb
 replace hB5 := Below.then hB5 hb
 clear hb
 refine hK.out _ _ (hS0) ?_
 clear hHeld hK
 intro hHeld
 (try simp only [Act.put, zsA, zsB, zsC])
 refine tkA 12 ?_
 refine tkR (rs := [13]) ?_
 refine tkC (fun K hK => ?_) AllReadyH.nil
 obtain ⟨W7, hW7, hth7, hX7, -, hot7⟩ := hX5.setPtr hk4 (follow wp x q.r)
 have hO7 : Sole bx w W7 := by rw [← hW7]; exact (Sole.of (bx := bx) hB5).cells (.inl rfl) _ _
 have hs7 : w2.heap.size ≤ W7.heap.size := by rw [← hW7]; exact (Below.cells (B := 0) (Nat.zero_le _) _ _ (Below.refl 0 w2)).size
 have hS7 : SL w.heap.size bf ba i x q W7 := ⟨⟨hS0.i.1.same (hot7 _ (by omega)), Nat.lt_of_lt_of_le hS0.i.2 hs7⟩, ⟨hS0.x.1.same (hot7 _ (by omega)), Nat.lt_of_lt_of_le hS0.x.2 hs7⟩, ⟨hS0.q.1.same (hot7 _ (by omega)), Nat.lt_of_lt_of_le hS0.q.2 hs7⟩⟩
 refine step_store_part rfl _ _ rfl bx (4 + k * 3) rfl (ptr3 (follow wp x q.r)) rfl hth7 hszP (ptr3J_one _) hW7 ?_
 (try simp only [Act.put, zsA, zsB, zsC])
 refine hK.out _ _ (hS7) ?_
 clear hHeld hK
 intro hHeld
 (try simp only [Act.put, zsA, zsB, zsC])
 refine wpAnyH_done (by kernel_rfl) ?_ _
 go_wp2_with fail
 refine bodyPost_end (v := .tuple #[]) (by simp [results, Tryz.results123, go_sem]) rfl ?_
 exact .inr ⟨hE.out, ⟨_, rfl⟩, hX7, hO7⟩
end Go.Proofs.YtidihdiffiffmaaGreatDoor
namespace Go.Proofs.YtidihdiffiffmaaGreatDoor
open Go.RowKit
set_option maxRecDepth 8000
set_option linter.unusedSimpArgs false
set_option linter.unusedVariables false
def clG (g : Sg) (q : Ptr) (n : Nat) : Int := if g.is = false then 35 else if hasM g.md 4 = false then 33 else if callE g.rg q.f q.r ≠ 0 then 34 else if ¬ inG g q.f then 35 else if 8 ≤ n then 37 else 0
def clD (d : Cp) (g : Sg) (q : Ptr) : Cp := raiseC { d with seg := q.s, off := q.f, ring := callN g.rg q.f q.r, st := d.st ++ [⟨d.seg, d.off, d.ring⟩] } d.ring
theorem fr_okC : ElemOk 102 43 3 frc :=
 ⟨Tryz.underlying43, by
  obtain ⟨i, h1, h2, h3, h4⟩ := info_of (e := 102) (z := .agg #[.int .i64 0, .int .i64 0, .int .i64 0]) (sz := 3) (b := 24) (by kernel_rfl)
  exact ⟨i, _, _, h1, h2, h3, h4, rfl, by omega⟩, by omega, fun _ => rfl, fun x u hu => by simp [frc] at hu; rcases hu with rfl | rfl | rfl <;> rfl⟩
theorem frc_one (f : Fr) : ∀ u ∈ frc f, u.oneCell' = true := fr_okC.one f
theorem crs_store (w : World) (y : Addr) (u v : Value) {b : Option Addr} {n c : Nat} (hs : v = .slice b n c) (hc : w.cell? y = some u) (hf : w.frozen? y = false) : (Instr.storeAt 43 (.pointer (some y)) v).run Tryz.prog w = .ok () (w.setCell y v) := by
 subst hs
 have h1 := Tryz.underlying43
 go_simp
theorem XAt.any {b : Nat} {c : Cp} {v : Value} {r : List Value} {W : World} (h : XAt b c v r W) (s : List Fr) : XAt b { c with st := s } v r W := ⟨h.ps, h.blk⟩
def ClP (bx L : Nat) (t : Cp) (r : List Value) (E : Int) (w : World) (e : Ending) (w' : World) : Prop :=
 (E ≠ 0 ∧ e = .panicked (thr E) ∧ Below w.heap.size w w') ∨ (E = 0 ∧ (∃ q, e = .returned q) ∧ ∃ v', XAt bx t v' r w' ∧ OwnR 102 3 frc w' L v' t.st ∧ Below L w w')
set_option maxRecDepth 8000 in
set_option maxHeartbeats 8000000 in
theorem ccall_any (bm bx L : Nat) (a : Option Addr) (cap : Nat) (m : List PG) (hm : MG m) (d : Cp) (v : Value) (r : List Value) (hst : d.st.length ≤ 8) (q : Ptr) (g : Sg) (hg : kn (m.map (·.g)) q.s = g) (E : Int) (hE : clG g q d.st.length = E) (w : World) (hM : MAt bm a cap m w) (hX : XAt bx d v (memI bm :: r) w) (hO : OwnR 102 3 frc w L v d.st) (hLx : L ≤ bx) (hvx : v.ownBlock ≠ some bx) :
    Calls Tryz.prog 125 #[.pointer (some ⟨bx, 0, none⟩), .agg (ptr3 q).toArray] w (ClP bx L (clD d g q) (memI bm :: r) E w) := by
 have hundC := Tryz.underlying147
 have hszC : (Tryz.prog.info? 147).map (·.size) = some 6 := by kernel_rfl
 have hundR := Tryz.underlying33
 have hszR : (Tryz.prog.info? 33).map (·.size) = some 4 := by kernel_rfl
 have hundF := Tryz.underlying102
 have hszF : (Tryz.prog.info? 102).map (·.size) = some 3 := by kernel_rfl
 have hgok : g.Ok := by rw [← hg]; exact kn_ok (fun g hg => by obtain ⟨x, hx, rfl⟩ := List.mem_map.1 hg; exact hm.ok x hx) _
 have hq0 := blkl_alloc w (ptr3 q).toArray 41
 have hB0 := alloc_below w (.cells (ptr3 q).toArray 41)
 have hX1 := hX.keep hB0
 have hM1 := hM.below hB0
 have hO1 := hO.below hB0
 have hbx := hX.lt
 have hvk : ∀ k, v.ownBlock = some k → k < w.heap.size := fun k hk => (hO.lt hk).2
 replace hq0 : BlkL w.heap.size (ptr3 q) (w.alloc (.cells #[.int .i64 q.s, .int .i64 q.f, .int .i64 q.r] 41)) := hq0
 replace hX1 : XAt bx d v (memI bm :: r) (w.alloc (.cells #[.int .i64 q.s, .int .i64 q.f, .int .i64 q.r] 41)) := hX1
 replace hM1 : MAt bm a cap m (w.alloc (.cells #[.int .i64 q.s, .int .i64 q.f, .int .i64 q.r] 41)) := hM1
 replace hB0 : Below w.heap.size w (w.alloc (.cells #[.int .i64 q.s, .int .i64 q.f, .int .i64 q.r] 41)) := hB0
 replace hO1 : OwnR 102 3 frc (w.alloc (.cells #[.int .i64 q.s, .int .i64 q.f, .int .i64 q.r] 41)) L v d.st := hO1
 clear hX hM hO
 have kn0 := fun (W : World) h1 h2 => cseg_none bm bx a cap m hm d v r q.s W h1 h2
 have kn1 := fun (W : World) h1 h2 => cseg_some bm bx a cap m hm d v r q.s W h1 h2
 rw [hg] at kn0 kn1
 by_cases c1 : g.is = false
 ·have e35 : E = 35 := by rw [← hE, clG, if_pos c1]
  subst e35
  replace hE : Aside (clG g q d.st.length = 35) := hE
  clear kn1 hg
  go_enter Tryz.func125, Tryz.ntmps125
  go_upto_region 1 with fail
  generalize w.alloc (.cells #[.int .i64 q.s, .int .i64 q.f, .int .i64 q.r] 41) = W0 at *
  have z0 := (hq0.1 0 _ rfl).1
  go_wp2_with fail
  refine (kn0 W0 hM1 hX1 c1).mono ?_
  rintro e W1 ⟨rfl, hb⟩
  go_wp2_with fail
  exact diedC (.inl ⟨by decide, rfl, Below.then hB0 hb⟩)
 have c1' : g.is = true := by simpa using c1
 replace hE : Aside (clG g q d.st.length = E) := hE
 clear kn0 hg
 go_enter Tryz.func125, Tryz.ntmps125
 go_upto_region 1 with fail
 generalize w.alloc (.cells #[.int .i64 q.s, .int .i64 q.f, .int .i64 q.r] 41) = W0 at *
 have z0 := (hq0.1 0 _ rfl).1
 go_wp2_with fail
 refine (kn1 W0 hM1 hX1 c1').mono ?_
 rintro e W1 ⟨u, rfl, ho, hb⟩
 obtain ⟨W2, hW2, hth2, hg2, hB2⟩ := new_sg W1 g u
 obtain ⟨ua, uc, hu, -, -, -⟩ := ho.slice wd_okC.len
 have hX2 := (hX1.keep hb).keep hB2
 have hq2 := stab_blk _ _ _ _ (stab_blk _ _ _ _ hq0 hb) hB2
 have hBB := Below.then (Below.then hB0 hb) hB2
 have hO2 := (hO1.below hb).below hB2
 subst hu
 have hone := sg6_one g ua g.ws.length uc
 have ka := fun (W : World) => allows_any g (.slice ua g.ws.length uc) 4 W
 have kh := fun (W : World) => has_any g ua uc q.f W
 obtain ⟨X, hXe⟩ : ∃ X, sg6 g (.slice ua g.ws.length uc) = X := ⟨_, rfl⟩
 have hl : X.length = 6 := by rw [← hXe]; rfl
 have hszX : (Tryz.prog.info? 147).map (·.size) = some X.length := by rw [hl]; exact hszC
 have hfr : ∀ W b, BlkL b X W → W.rangeAt b 2 (rg4 g.rg) := fun W b h => by rw [← hXe] at h; exact fld_rg h
 simp only [hXe] at hW2 hth2 hg2 hone ka kh
 have hXv : Aside (.agg (sg6 g (.slice ua g.ws.length uc)).toArray = Value.agg X.toArray) := by rw [hXe]; exact rfl
 clear hXe hl ho hb hB2 hq0 hB0 z0 kn1 hM1 hX1 hm hO1
 go_upto_region 2 with (first | (refine wpList_store_row rfl _ _ rfl W1.heap.size rfl X hXv.out hth2 hszX hone hW2 ?_) | fail)
 clear hW2 hth2 hXv
 generalize W1.heap.size = bg at *
 have hrx := hg2.range
 cases c2 : hasM g.md 4 with
 | false =>
  have hEE : Aside (E = 33) := by
   show _ = _
   rw [← hE.out, clG, if_neg c1, if_pos c2]
  rw [c2] at ka
  clear hE c2 kh
  go_wp2_with (first | (refine wpList_load_row rfl _ rfl bg rfl X hrx hundC rfl hszX ?_) | fail)
  refine (ka W2).mono ?_
  rintro e W3 ⟨rfl, hb⟩
  go_wp2_with fail
  refine (need_no 33 W3).mono ?_
  rintro e W4 ⟨rfl, rfl⟩
  go_wp2_with fail
  exact diedC (.inl ⟨by rw [hEE.out]; decide, by rw [hEE.out], Below.then hBB hb⟩)
 | true =>
 rw [c2] at ka
 have hE1 : Aside (E = if callE g.rg q.f q.r ≠ 0 then 34 else if ¬ inG g q.f then 35 else if 8 ≤ d.st.length then 37 else 0) := by
  show _ = _
  rw [← hE.out, clG, if_neg c1, if_neg (by rw [c2]; simp)]
 go_wp2_with (first | (refine wpList_load_row rfl _ rfl bg rfl X hrx hundC rfl hszX ?_) | fail)
 refine (ka W2).mono ?_
 rintro e W3 ⟨rfl, hb⟩
 replace hX2 := hX2.keep hb
 replace hq2 := stab_blk _ _ _ _ hq2 hb
 replace hg2 := stab_blk _ _ _ _ hg2 hb
 replace hBB := Below.then hBB hb
 replace hO2 := hO2.below hb
 have z1 := (hq2.1 1 _ rfl).1
 have z2 := (hq2.1 2 _ rfl).1
 have hrgx := hfr _ _ hg2
 have hb8 : g.rg.v = .agg (rg4 g.rg).toArray := rfl
 have kx := fun (W : World) => rgcall_any g.rg q.f q.r W (hgok.rg c1')
 rw [hb8] at kx
 clear hb ka hb8 hE c1 c2 hrx hgok c1'
 go_wp2_with fail
 refine (need_ok 33 W3).mono ?_
 rintro e W4 ⟨rfl, hw4⟩
 rw [hw4]
 clear hw4 W4
 obtain ⟨CE, hCE⟩ : ∃ CE, callE g.rg q.f q.r = CE := ⟨_, rfl⟩
 obtain ⟨CN, hCN⟩ : ∃ CN, callN g.rg q.f q.r = CN := ⟨_, rfl⟩
 rw [hCE] at hE1
 simp only [hCE, hCN] at kx
 replace hCN : Aside (callN g.rg q.f q.r = CN) := hCN
 replace hCE : Aside (callE g.rg q.f q.r = CE) := hCE
 go_wp2_with (first | (refine wpList_load_midg (by rfl) _ rfl bg 2 rfl (rg4 g.rg) hrgx hundR rfl hszR ?_) | fail)
 refine (kx W3).mono ?_
 rintro e W4 ⟨rfl, hb⟩
 replace hX2 := hX2.keep hb
 replace hq2 := stab_blk _ _ _ _ hq2 hb
 replace hg2 := stab_blk _ _ _ _ hg2 hb
 replace hBB := Below.then hBB hb
 replace hO2 := hO2.below hb
 clear hb kx z1 z2 hrgx hCE
 by_cases c3 : CE = 0
 rotate_left
 ·have hEE : Aside (E = 34) := by
    show _ = _
    rw [hE1.out, if_pos c3]
  have qq : (CE == 0) = false := by simpa using c3
  clear hE1 c3 kh
  go_wp2_with fail
  refine (need_no 34 W4).mono ?_
  rintro e W5 ⟨rfl, rfl⟩
  go_wp2_with fail
  exact diedC (.inl ⟨by rw [hEE.out]; decide, by rw [hEE.out], hBB⟩)
 have hE2 : Aside (E = if ¬ inG g q.f then 35 else if 8 ≤ d.st.length then 37 else 0) := by
  show _ = _
  rw [hE1.out, if_neg (by simpa using c3)]
 have qq : (CE == 0) = true := by simpa using c3
 clear hE1 c3
 go_wp2_with fail
 refine (need_ok 34 W4).mono ?_
 rintro e W5 ⟨rfl, hw5⟩
 rw [hw5]
 clear hw5 W5 qq
 have hrx := hg2.range
 have z1 := (hq2.1 1 _ rfl).1
 cases c5 : decide (inG g q.f) with
 | false =>
  rw [c5] at kh
  have hEE : Aside (E = 35) := by
   show _ = _
   rw [hE2.out, if_pos (by simpa using c5)]
  clear hE2 c5
  go_wp2_with (first | (refine wpList_load_row rfl _ rfl bg rfl X hrx hundC rfl hszX ?_) | fail)
  refine (kh W4).mono ?_
  rintro e W6 ⟨rfl, hb⟩
  go_wp2_with fail
  refine (need_no 35 W6).mono ?_
  rintro e W7 ⟨rfl, rfl⟩
  go_wp2_with fail
  exact diedC (.inl ⟨by rw [hEE.out]; decide, by rw [hEE.out], Below.then hBB hb⟩)
 | true =>
 rw [c5] at kh
 have hE3 : Aside (E = if 8 ≤ d.st.length then 37 else 0) := by
  show _ = _
  rw [hE2.out, if_neg (by simpa using c5)]
 clear hE2 c5
 go_wp2_with (first | (refine wpList_load_row rfl _ rfl bg rfl X hrx hundC rfl hszX ?_) | fail)
 refine (kh W4).mono ?_
 rintro e W6 ⟨rfl, hb⟩
 replace hX2 := hX2.keep hb
 replace hq2 := stab_blk _ _ _ _ hq2 hb
 replace hBB := Below.then hBB hb
 replace hO2 := hO2.below hb
 clear hb kh hrx hg2 z1 hfr
 go_wp2_with fail
 refine (need_ok 35 W6).mono ?_
 rintro e W7 ⟨rfl, hw7⟩
 rw [hw7]
 clear hw7 W7
 obtain ⟨va, vc, hv, hvc, -, -⟩ := hO2.slice frc_len
 have y16 := hX2.stk
 rw [hv] at y16
 have hvv : Aside (v = .slice va d.st.length vc) := hv
 clear hv
 by_cases c6 : 8 ≤ d.st.length
 ·have hEE : Aside (E = 37) := by
    show _ = _
    rw [hE3.out, if_pos c6]
  have qq : decide ((d.st.length : Int) < 8) = false := by simp; omega
  clear hE3 c6
  generalize d.st.length = n at *
  go_wp2_with fail
  refine (need_no 37 W6).mono ?_
  rintro e W7 ⟨rfl, rfl⟩
  go_wp2_with fail
  exact diedC (.inl ⟨by rw [hEE.out]; decide, by rw [hEE.out], hBB⟩)
 have hEE : Aside (E = 0) := by
  show _ = _
  rw [hE3.out, if_neg c6]
 have qq : (d.st.length : Int) < 8 := by omega
 clear hE3
 go_wp2_with fail
 refine (need_ok 37 W6).mono ?_
 rintro e W7 ⟨rfl, hw7⟩
 rw [hw7]
 clear hw7 W7 qq
 go_upto_region 7 with fail
 have hdr := (Below.refl W6.heap.size W6).drew
 have hX7 := hX2.keep hdr
 have hq7 := stab_blk _ _ _ _ hq2 hdr
 have hB7 := Below.then hBB hdr
 have hO7 := hO2.below hdr
 clear hX2 hq2 hBB hO2 hdr y16
 refine wp_region_held_drew (S := (XAt bx d v (memI bm :: r))) (by kernel_rfl) (by exact hX7) ?_
 intro hHeld
 generalize W6.drew = w0 at *
 obtain ⟨W8, hW8, hth8, hf8, hb8⟩ := put_new w0 (frc ⟨0, 0, 0⟩).toArray 102 (frc ⟨d.seg, d.off, d.ring⟩) rfl (by show 0 < 3; decide)
 have hA := alloc_below w0 (.cells (frc ⟨0, 0, 0⟩).toArray 102)
 have hXA := hX7.keep hA
 have hX8 := hX7.keep hb8
 refine tkA 0 ?_
 refine tkA 1 ?_
 refine tkA 2 ?_
 refine tkA 3 ?_
 refine tkB 4 (y := yields_cellI (by rfl) _ rfl ⟨bx, 0, none⟩ rfl (.int .i64 d.seg) (fun _ s => s.seg) intI_load) (h := ?_)
 refine tkA 5 ?_
 refine tkA 6 ?_
 refine tkA 7 ?_
 refine tkA 8 ?_
 refine tkB 9 (y := yields_cellI (by rfl) _ rfl ⟨bx, 1, none⟩ rfl (.int .i64 d.off) (fun _ s => s.off) intI_load) (h := ?_)
 refine tkA 10 ?_
 refine tkA 11 ?_
 refine tkA 12 ?_
 refine tkA 13 ?_
 refine tkB 14 (y := yields_cellI (by rfl) _ rfl ⟨bx, 2, none⟩ rfl (.int .i64 d.ring) (fun _ s => s.ring) intI_load) (h := ?_)
 refine tkA 15 ?_
 refine tkR (rs := [16]) ?_
 refine tkC (fun K hK => ?_) AllReadyH.nil
 refine step_allocC (z := #[.int .i64 0, .int .i64 0, .int .i64 0]) rfl rfl (fun _ => rfl) ?_
 (try simp only [Act.put, zsA, zsB, zsC])
 refine hK.out _ _ (hXA) ?_
 clear hHeld hK
 intro hHeld
 (try simp only [Act.put, zsA, zsB, zsC])
 refine tkR (rs := [17]) ?_
 refine tkC (fun K hK => ?_) AllReadyH.nil
 refine step_store_rowC rfl _ _ rfl w0.heap.size rfl (frc ⟨d.seg, d.off, d.ring⟩) rfl hth8 hszF (frc_one _) hW8 ?_
 (try simp only [Act.put, zsA, zsB, zsC])
 refine hK.out _ _ (hX8) ?_
 clear hHeld hK
 intro hHeld
 (try simp only [Act.put, zsA, zsB, zsC])
 refine wpAnyH_done (by kernel_rfl) ?_ _
 have hq8 := stab_blk _ _ _ _ hq7 hb8
 have hB8 := Below.then hB7 hb8
 have hO8 := hO7.below hb8
 have hbk : w.heap.size ≤ w0.heap.size ∧ bx < w0.heap.size := ⟨hB7.size, hX7.lt⟩
 have hqk := hq7.2
 go_upto_region 8 with fail
 clear hW8 hth8 hXA hA hX7 hq7 hB7 hO7 hb8
 generalize w0.heap.size = bk at *
 have hdr := (Below.refl W8.heap.size W8).drew
 have hX9 := hX8.keep hdr
 have hf9 := stab_blk _ _ _ _ hf8 hdr
 have hq9 := stab_blk _ _ _ _ hq8 hdr
 have hO9 := hO8.below hdr
 have hL9 : L ≤ W8.drew.heap.size := by have := hX9.lt; omega
 have hB9 : Below L w W8.drew := (Below.then hB8 hdr).mono (by omega)
 clear hX8 hf8 hq8 hO8 hB8 hdr
 refine wp_region_held_drew (S := (BlkL bk (frc ⟨d.seg, d.off, d.ring⟩))) (by kernel_rfl) (by exact hf9) ?_
 intro hHeld
 generalize W8.drew = wz at *
 obtain ⟨v2, WB, hap, hoB, hgB⟩ := OwnR.push fr_okC hO9 hL9 ⟨d.seg, d.off, d.ring⟩ (frc ⟨d.seg, d.off, d.ring⟩).toArray rfl 102 (by omega)
 have hbB := hO9.grew_below hL9 hgB
 have hbA := alloc_below wz (.cells (frc ⟨d.seg, d.off, d.ring⟩).toArray 102)
 have hXA := hX9.keep hbA
 have hfA := stab_blk _ _ _ _ hf9 hbA
 have hXB : XAt bx d v (memI bm :: r) WB := hX9.same (hgB.by_.block bx hX9.lt (fun e => hvx e.symm)) hgB.by_.size
 have hfB : BlkL bk (frc ⟨d.seg, d.off, d.ring⟩) WB := ⟨hf9.1.same (hgB.by_.block bk hf9.2 (fun e => by have := hvk bk e.symm; omega)), Nat.lt_of_lt_of_le hf9.2 hgB.by_.size⟩
 have hqB : BlkL w.heap.size (ptr3 q) WB := ⟨hq9.1.same (hgB.by_.block _ hq9.2 (fun e => by have := hvk _ e.symm; omega)), Nat.lt_of_lt_of_le hq9.2 hgB.by_.size⟩
 have hvB := hgB.apart hX9.lt (fun e => hvx e.symm)
 obtain ⟨a2, cap2, hv2, -, -, -⟩ := hoB.slice frc_len
 refine tkA 0 ?_
 refine tkA 1 ?_
 refine tkA 2 ?_
 refine tkA 3 ?_
 refine tkA 4 ?_
 refine tkB 6 (y := yields_row (by rfl) _ rfl bk rfl (frc ⟨d.seg, d.off, d.ring⟩) (fun _ s => s.range) hundF rfl hszF) (h := ?_)
 refine tkR (rs := [5, 7]) ?_
 refine tkC (fun K hK => ?_) ?_
 ·skip
  refine step_oneJ rfl _ rfl ⟨bx, 16, none⟩ rfl v hX9.stk crs_load ?_
  (try simp only [Act.put, zsA, zsB, zsC])
  refine hK.out _ _ (hf9) ?_
  clear hHeld hK
  intro hHeld
  (try simp only [Act.put, zsA, zsB, zsC])
  refine tkR (rs := [7]) ?_
  refine tkC (fun K hK => ?_) AllReadyH.nil
  refine step_build1 fr_okC (by decide) rfl _ rfl (frc ⟨d.seg, d.off, d.ring⟩) rfl rfl ?_
  (try simp only [Act.put, zsA, zsB, zsC])
  refine hK.out _ _ (hfA) ?_
  clear hHeld hK
  intro hHeld
  (try simp only [Act.put, zsA, zsB, zsC])
  refine tkR (rs := [8]) ?_
  refine tkC (fun K hK => ?_) AllReadyH.nil
  refine step_append rfl _ _ rfl rfl rfl rfl hap ?_
  (try simp only [Act.put, zsA, zsB, zsC])
  refine hK.out _ _ (hfB) ?_
  clear hHeld hK
  intro hHeld
  clear hap
  (try simp only [Act.put, zsA, zsB, zsC])
  refine tkA 9 ?_
  refine tkA 10 ?_
  refine tkA 11 ?_
  refine tkR (rs := [12]) ?_
  refine tkC (fun K hK => ?_) AllReadyH.nil
  have hXC := hXB.setStk v2
  have hfC := far_blk hfB (show bx ≠ bk by omega) 16 v2
  have hqC := far_blk hqB (show bx ≠ w.heap.size by omega) 16 v2
  have hoC := hoB.keep (w' := WB.setCell ⟨bx, 16, none⟩ v2) (fun j hj => heap_setCell_other _ ⟨bx, 16, none⟩ j _ (fun e => hvB (by rw [hj]; exact congrArg some e.symm)))
  have hBC := (hB9.trans hbB).setCell (p := ⟨bx, 16, none⟩) hLx v2
  refine step_st rfl _ _ rfl ⟨bx, 16, none⟩ rfl v2 rfl (crs_store _ _ _ _ hv2 hXB.stk (hXB.free (by decide))) ?_
  (try simp only [Act.put, zsA, zsB, zsC])
  refine hK.out _ _ (hfC) ?_
  clear hHeld hK
  intro hHeld
  generalize WB.setCell ⟨bx, 16, none⟩ v2 = WC at *
  clear hXB hfB hqB hoB hgB hbB hbA hXA hfA hX9 hf9 hq9 hO9 hL9 hB9 hv2
  (try simp only [Act.put, zsA, zsB, zsC])
  refine wpAnyH_done (by kernel_rfl) ?_ _
  have z0 := (hqC.1 0 _ rfl).1
  have z1 := (hqC.1 1 _ rfl).1
  have ke := center_any bx d v2 (memI bm :: r) ⟨q.s, q.f, CN⟩ WC hXC
  rw [show (frc ⟨q.s, q.f, CN⟩).toArray = #[.int .i64 q.s, .int .i64 q.f, .int .i64 CN] from rfl] at ke
  go_wp2_with fail
  refine ke.mono ?_
  rintro e WD ⟨⟨re, rfl⟩, hXD, hSD⟩
  have hfD := hSD.blk hfC (by omega)
  have hoD := hSD.own hoC (fun e => hvB e.symm)
  have hBD := hSD.below hBC hLx (by have := hXC.lt; omega)
  have z2 := (hfD.1 2 _ rfl).1
  clear ke hXC hfC hqC hoC hBC hSD z0 z1
  go_wp2_with fail
  refine (cweaken_any bx _ v2 (memI bm :: r) d.ring WD hXD).mono ?_
  rintro e WE ⟨⟨re2, rfl⟩, hXE, hSE⟩
  have hoE := hSE.own hoD (fun e => hvB e.symm)
  have hBE := hSE.below hBD hLx (by have := hXD.lt; omega)
  clear hXD hfD hoD hBD hSE z2
  go_wp2_with fail
  refine bodyPost_end (v := .tuple #[]) (by simp [results, Tryz.results125, go_sem]) rfl ?_
  refine .inr ⟨hEE.out, ⟨_, rfl⟩, v2, ?_, hoE, hBE⟩
  rw [clD, hCN.out]
  exact hXE.any _
 refine tkC (fun K hK => ?_) AllReadyH.nil
 refine step_build1 fr_okC (by decide) rfl _ rfl (frc ⟨d.seg, d.off, d.ring⟩) rfl rfl ?_
 (try simp only [Act.put, zsA, zsB, zsC])
 refine hK.out _ _ (hfA) ?_
 clear hHeld hK
 intro hHeld
 (try simp only [Act.put, zsA, zsB, zsC])
 refine tkR (rs := [5]) ?_
 refine tkC (fun K hK => ?_) AllReadyH.nil
 refine step_oneJ rfl _ rfl ⟨bx, 16, none⟩ rfl v hXA.stk crs_load ?_
 (try simp only [Act.put, zsA, zsB, zsC])
 refine hK.out _ _ (hfA) ?_
 clear hHeld hK
 intro hHeld
 (try simp only [Act.put, zsA, zsB, zsC])
 refine tkR (rs := [8]) ?_
 refine tkC (fun K hK => ?_) AllReadyH.nil
 refine step_append rfl _ _ rfl rfl rfl rfl hap ?_
 (try simp only [Act.put, zsA, zsB, zsC])
 refine hK.out _ _ (hfB) ?_
 clear hHeld hK
 intro hHeld
 clear hap
 (try simp only [Act.put, zsA, zsB, zsC])
 refine tkA 9 ?_
 refine tkA 10 ?_
 refine tkA 11 ?_
 refine tkR (rs := [12]) ?_
 refine tkC (fun K hK => ?_) AllReadyH.nil
 have hXC := hXB.setStk v2
 have hfC := far_blk hfB (show bx ≠ bk by omega) 16 v2
 have hqC := far_blk hqB (show bx ≠ w.heap.size by omega) 16 v2
 have hoC := hoB.keep (w' := WB.setCell ⟨bx, 16, none⟩ v2) (fun j hj => heap_setCell_other _ ⟨bx, 16, none⟩ j _ (fun e => hvB (by rw [hj]; exact congrArg some e.symm)))
 have hBC := (hB9.trans hbB).setCell (p := ⟨bx, 16, none⟩) hLx v2
 refine step_st rfl _ _ rfl ⟨bx, 16, none⟩ rfl v2 rfl (crs_store _ _ _ _ hv2 hXB.stk (hXB.free (by decide))) ?_
 (try simp only [Act.put, zsA, zsB, zsC])
 refine hK.out _ _ (hfC) ?_
 clear hHeld hK
 intro hHeld
 generalize WB.setCell ⟨bx, 16, none⟩ v2 = WC at *
 clear hXB hfB hqB hoB hgB hbB hbA hXA hfA hX9 hf9 hq9 hO9 hL9 hB9 hv2
 (try simp only [Act.put, zsA, zsB, zsC])
 refine wpAnyH_done (by kernel_rfl) ?_ _
 have z0 := (hqC.1 0 _ rfl).1
 have z1 := (hqC.1 1 _ rfl).1
 have ke := center_any bx d v2 (memI bm :: r) ⟨q.s, q.f, CN⟩ WC hXC
 rw [show (frc ⟨q.s, q.f, CN⟩).toArray = #[.int .i64 q.s, .int .i64 q.f, .int .i64 CN] from rfl] at ke
 go_wp2_with fail
 refine ke.mono ?_
 rintro e WD ⟨⟨re, rfl⟩, hXD, hSD⟩
 have hfD := hSD.blk hfC (by omega)
 have hoD := hSD.own hoC (fun e => hvB e.symm)
 have hBD := hSD.below hBC hLx (by have := hXC.lt; omega)
 have z2 := (hfD.1 2 _ rfl).1
 clear ke hXC hfC hqC hoC hBC hSD z0 z1
 go_wp2_with fail
 refine (cweaken_any bx _ v2 (memI bm :: r) d.ring WD hXD).mono ?_
 rintro e WE ⟨⟨re2, rfl⟩, hXE, hSE⟩
 have hoE := hSE.own hoD (fun e => hvB e.symm)
 have hBE := hSE.below hBD hLx (by have := hXD.lt; omega)
 clear hXD hfD hoD hBD hSE z2
 go_wp2_with fail
 refine bodyPost_end (v := .tuple #[]) (by simp [results, Tryz.results125, go_sem]) rfl ?_
 refine .inr ⟨hEE.out, ⟨_, rfl⟩, v2, ?_, hoE, hBE⟩
 rw [clD, hCN.out]
 exact hXE.any _
end Go.Proofs.YtidihdiffiffmaaGreatDoor
namespace Go.Proofs.YtidihdiffiffmaaGreatDoor
open Go.RowKit
set_option maxRecDepth 8000
set_option linter.unusedSimpArgs false
set_option linter.unusedVariables false
theorem heapC_setCell_at {w : World} {b o : Nat} {c : Array Value} {t : TypeId} {fr : Nat × Nat} (v : Value) (h : w.heap[b]? = some (.cells c t fr)) : (w.setCell ⟨b, o, none⟩ v).heap[b]? = some (.cells (c.setIfInBounds o v) t fr) := by
 have hb := (Array.getElem?_eq_some_iff.1 h).1
 have he := (Array.getElem?_eq_some_iff.1 h).2
 simp only [World.setCell, Array.getElem?_modify]
 simp [hb, he]
theorem heapC_setCells {b : Nat} {t : TypeId} {fr : Nat × Nat} : ∀ (vs : List Value) (o : Nat) (w : World) (c : Array Value), w.heap[b]? = some (.cells c t fr) → (w.setCells b o vs).heap[b]? = some (.cells (setM c.toList o vs).toArray t fr)
 | [], o, w, c, h => by
  rw [setM]
  exact h
 | v :: r, o, w, c, h => by
  have h1 := heapC_setCells r (o + 1) _ _ (heapC_setCell_at (o := o) v h)
  rw [setM]
  rw [Array.toList_setIfInBounds] at h1
  exact h1
theorem setM_allC : ∀ (Y X p : List Value), X.length = Y.length → setM (p ++ X) p.length Y = p ++ Y
 | [], X, p, h => by
  rw [List.eq_nil_of_length_eq_zero h]
  rfl
 | y :: r, [], p, h => by simp at h
 | y :: r, x :: s, p, h => by
  rw [setM, List.set_append_right _ _ (Nat.le_refl _), Nat.sub_self, List.set_cons_zero]
  have := setM_allC r s (p ++ [y]) (by simpa using h)
  simpa [List.append_assoc] using this
theorem copiedR_run {α : Type} {e t : TypeId} {sz : Nat} {f : α → List Value} (hE : ElemOk e t sz f) (l : List α) (n : Nat) (hl : l.length = n) (a : Option Addr) (cap : Nat) (w : World) (hn : n ≤ 1000) (h : RowAt sz f w a l) (ty : TypeId) :
    ∃ W1 W2, (Instr.makeSlice t (.int .i64 (n : Int)) (.int .i64 (n : Int))).run Tryz.prog w = .ok (.slice (some ⟨w.heap.size, 0, none⟩) n n) W1 ∧
     (Builtin.copy_ #[t, t] ty #[.slice (some ⟨w.heap.size, 0, none⟩) n n, .slice a n cap]).run Tryz.prog W1 = .ok (goInt n) W2 ∧ OwnR e sz f W2 w.heap.size (.slice (some ⟨w.heap.size, 0, none⟩) n n) l ∧ Below w.heap.size w W2 := by
 obtain ⟨cur, hcs, hmk⟩ := make_some hE w n hn
 obtain ⟨i, z, b, hi, hz, hs, hb, hzs, hbb⟩ := hE.info
 have hp := hE.pos
 have hszm : (Tryz.prog.info? e).map (·.size) = some sz := by rw [hi]; simpa using hs
 have hB := alloc_below w (.cells cur e)
 have hnew := heap_alloc_new w (.cells cur e)
 have hmax : n ≤ maxLen := by simp only [maxLen]; omega
 cases a with
 | none =>
  have hl0 : l = [] := by
   cases l with
   | nil => rfl
   | cons x r =>
    obtain ⟨y, hy, _⟩ := h 0 x rfl
    cases hy
  subst hl0
  obtain rfl : n = 0 := hl.symm
  refine ⟨_, _, hmk, run_copy_none _ t t ty e sz _ _ _ _ _ _ hE.und hszm (by rfl), ?_, hB⟩
  refine ⟨by simp, .inr ⟨w.heap.size, 0, cur, rfl, Nat.le_refl _, hnew, Nat.le_refl _, hmax, hcs, by simp⟩⟩
 | some y =>
  have hfl : (l.flatMap f).length = n * sz := by rw [flat_length hE.len, hl]
  have hbk := blk_alloc w cur e
  have hr := (h.below hE.len hB).flat hE.len hp
  have hbl : cur.toList.length = (l.flatMap f).length := by rw [hfl]; simpa using hcs
  have hth := hbk.there
  rw [hbl] at hth
  have hc := run_copy_cells_many (P := Tryz.prog) (w.alloc (.cells cur e)) t t ty e sz w.heap.size 0 n n y n cap (l.flatMap f) hE.und hszm (by rw [show Nat.min n n = n from Nat.min_self n]; exact hfl) hr (fun j hj => (hth j hj).1) (fun j hj => (hth j hj).2) (fun u hu => by
   obtain ⟨x, _, hx⟩ := List.mem_flatMap.1 hu
   exact hE.one x u hx)
  rw [show Nat.min n n = n from Nat.min_self n] at hc
  refine ⟨_, _, hmk, hc, ?_, Below.cells (Nat.le_refl _) _ 0 hB⟩
  have h2 := heapC_setCells (l.flatMap f) 0 _ _ hnew
  have h3 := setM_allC (l.flatMap f) cur.toList [] hbl
  simp only [List.nil_append, List.length_nil] at h3
  rw [h3] at h2
  refine ⟨by rw [hfl, hl], .inr ⟨w.heap.size, n, _, by rw [hl], Nat.le_refl _, h2, by omega, hmax, by simpa using hfl, ?_⟩⟩
  rw [List.take_of_length_le]
  simp [hfl, hl]
theorem scl_ok : ElemOk 9 39 1 scl :=
 ⟨Tryz.underlying39, by
  obtain ⟨i, h1, h2, h3, h4⟩ := info_of (e := 9) (z := .string ⟨#[]⟩) (sz := 1) (b := 16) (by kernel_rfl)
  exact ⟨i, _, _, h1, h2, h3, h4, rfl, by omega⟩, by omega, fun _ => rfl, fun x u hu => by simp [scl] at hu; subst hu; rfl⟩
set_option maxHeartbeats 1000000 in
theorem pcpS_any (a : Option Addr) (cap : Nat) (l : List ByteArray) (w : World) (hn : l.length ≤ 1000) (h : RowAt 1 scl w a l) :
    Calls Tryz.prog 29 #[.slice a l.length cap] w fun e w' => e = .returned (.slice (some ⟨w.heap.size, 0, none⟩) l.length l.length) ∧ OwnR 9 1 scl w' w.heap.size (.slice (some ⟨w.heap.size, 0, none⟩) l.length l.length) l ∧ Below w.heap.size w w' := by
 obtain ⟨n, hl⟩ : ∃ n, l.length = n := ⟨_, rfl⟩
 rw [hl] at hn ⊢
 obtain ⟨W1, W2, hmk, hcp, hr, hB⟩ := copiedR_run scl_ok l n hl a cap w hn h 3
 clear hl
 go_enter Tryz.func29, Tryz.ntmps29
 go_wp2_with fail
 go_ret
 exact ⟨rfl, hr, hB⟩
set_option maxHeartbeats 1000000 in
theorem pcpN_any (a : Option Addr) (cap : Nat) (l : List PN) (w : World) (hn : l.length ≤ 1000) (h : RowAt 16 PN.cs w a l) :
    Calls Tryz.prog 53 #[.slice a l.length cap] w fun e w' => e = .returned (.slice (some ⟨w.heap.size, 0, none⟩) l.length l.length) ∧ OwnR 36 16 PN.cs w' w.heap.size (.slice (some ⟨w.heap.size, 0, none⟩) l.length l.length) l ∧ Below w.heap.size w w' := by
 obtain ⟨n, hl⟩ : ∃ n, l.length = n := ⟨_, rfl⟩
 rw [hl] at hn ⊢
 obtain ⟨W1, W2, hmk, hcp, hr, hB⟩ := copiedR_run pn_ok l n hl a cap w hn h 3
 clear hl
 go_enter Tryz.func53, Tryz.ntmps53
 go_wp2_with fail
 go_ret
 exact ⟨rfl, hr, hB⟩
set_option maxHeartbeats 1000000 in
theorem pcpG_any (a : Option Addr) (cap : Nat) (l : List Gr) (w : World) (hn : l.length ≤ 1000) (h : RowAt 2 gcl w a l) :
    Calls Tryz.prog 54 #[.slice a l.length cap] w fun e w' => e = .returned (.slice (some ⟨w.heap.size, 0, none⟩) l.length l.length) ∧ OwnR 119 2 gcl w' w.heap.size (.slice (some ⟨w.heap.size, 0, none⟩) l.length l.length) l ∧ Below w.heap.size w w' := by
 obtain ⟨n, hl⟩ : ∃ n, l.length = n := ⟨_, rfl⟩
 rw [hl] at hn ⊢
 obtain ⟨W1, W2, hmk, hcp, hr, hB⟩ := copiedR_run gr_okT l n hl a cap w hn h 3
 clear hl
 go_enter Tryz.func54, Tryz.ntmps54
 go_wp2_with fail
 go_ret
 exact ⟨rfl, hr, hB⟩
set_option maxHeartbeats 1000000 in
theorem pcpW_any (a : Option Addr) (cap : Nat) (l : List Int) (w : World) (hn : l.length ≤ 1000) (h : RowAt 1 wcl w a l) :
    Calls Tryz.prog 55 #[.slice a l.length cap] w fun e w' => e = .returned (.slice (some ⟨w.heap.size, 0, none⟩) l.length l.length) ∧ OwnR 2 1 wcl w' w.heap.size (.slice (some ⟨w.heap.size, 0, none⟩) l.length l.length) l ∧ Below w.heap.size w w' := by
 obtain ⟨n, hl⟩ : ∃ n, l.length = n := ⟨_, rfl⟩
 rw [hl] at hn ⊢
 obtain ⟨W1, W2, hmk, hcp, hr, hB⟩ := copiedR_run wd_okT l n hl a cap w hn h 3
 clear hl
 go_enter Tryz.func55, Tryz.ntmps55
 go_wp2_with fail
 go_ret
 exact ⟨rfl, hr, hB⟩
set_option maxHeartbeats 1000000 in
theorem pcpF_any (a : Option Addr) (cap : Nat) (l : List Fr) (w : World) (hn : l.length ≤ 1000) (h : RowAt 3 frc w a l) :
    Calls Tryz.prog 56 #[.slice a l.length cap] w fun e w' => e = .returned (.slice (some ⟨w.heap.size, 0, none⟩) l.length l.length) ∧ OwnR 102 3 frc w' w.heap.size (.slice (some ⟨w.heap.size, 0, none⟩) l.length l.length) l ∧ Below w.heap.size w w' := by
 obtain ⟨n, hl⟩ : ∃ n, l.length = n := ⟨_, rfl⟩
 rw [hl] at hn ⊢
 obtain ⟨W1, W2, hmk, hcp, hr, hB⟩ := copiedR_run fr_okC l n hl a cap w hn h 3
 clear hl
 go_enter Tryz.func56, Tryz.ntmps56
 go_wp2_with fail
 go_ret
 exact ⟨rfl, hr, hB⟩
end Go.Proofs.YtidihdiffiffmaaGreatDoor
namespace Go.Proofs.YtidihdiffiffmaaGreatDoor
open Go.RowKit
set_option maxRecDepth 8000
set_option linter.unusedSimpArgs false
set_option linter.unusedVariables false
theorem own_short {w : World} {L : Nat} {v : Value} {l : List Fr} (h : OwnR 102 3 frc w L v l) (k : Nat) (hk : k ≤ l.length) (hp : 0 < l.length) :
    ∃ a n cap u, v = .slice (some a) n cap ∧ n = l.length ∧ (∃ a2 c2, u = .slice a2 k c2) ∧ (∀ W, (Instr.slice 43 (.slice (some a) n cap) none (some (.int .i64 (k : Int))) none).run Tryz.prog W = .ok u W) ∧ OwnR 102 3 frc w L u (l.take k) ∧ u.ownBlock = v.ownBlock := by
 rcases h.2 with ⟨_, h2⟩ | ⟨g, cap, cur, hv, hg, hh, hc, hm, hs, ht⟩
 ·omega
 refine ⟨⟨g, 0, none⟩, l.length, cap, .slice (some ⟨g, 0, none⟩) k cap, hv, rfl, ⟨_, _, rfl⟩, fun W => ?_, ⟨?_, .inr ⟨g, cap, cur, ?_, hg, hh, ?_, hm, hs, ?_⟩⟩, ?_⟩
 ·obtain ⟨i, z, b, hi, hz, hsz, _⟩ := fr_okC.info
  have ht : Tryz.prog.elem 43 = 102 := by kernel_rfl
  rw [run_slice_h (P := Tryz.prog) W 43 (some ⟨g, 0, none⟩) l.length cap (by rw [ht]; exact fr_okC.und) .i64 (k : Int) (by omega) (by omega), ht]
  have hc0 : ¬ cap = 0 := by omega
  simp [sizeOf, typeInfo, hi, hsz, sliced, hc0, add_at]
 ·rw [flat_length frc_len, List.length_take, Nat.min_eq_left hk]
 ·rw [List.length_take, Nat.min_eq_left hk]
 ·rw [List.length_take, Nat.min_eq_left hk]; omega
 ·rw [List.length_take, Nat.min_eq_left hk]
  have h1 : (l.flatMap frc).take (k * 3) = (l.take k).flatMap frc := by
   have h2 : l.flatMap frc = (l.take k).flatMap frc ++ (l.drop k).flatMap frc := by rw [← List.flatMap_append, List.take_append_drop]
   rw [h2, List.take_append_of_le_length (by rw [flat_length frc_len, List.length_take, Nat.min_eq_left hk]; exact Nat.le_refl _), List.take_of_length_le (by rw [flat_length frc_len, List.length_take, Nat.min_eq_left hk]; exact Nat.le_refl _)]
  rw [← h1, ← ht, List.take_take, Nat.min_eq_left (by omega)]
 ·rw [hv]; rfl
def rtD (d : Cp) : Cp := raiseC { d with seg := (lastF d).s, off := (lastF d).f, ring := (lastF d).r, st := d.st.take (d.st.length - 1) } (lastF d).r
set_option maxRecDepth 8000 in
set_option maxHeartbeats 8000000 in
theorem cret_any (bx L : Nat) (d : Cp) (v : Value) (r : List Value) (hst : d.st.length ≤ 8) (E : Int) (hE : rtE d = E) (w : World) (hX : XAt bx d v r w) (hO : OwnR 102 3 frc w L v d.st) (hLx : L ≤ bx) (hvx : v.ownBlock ≠ some bx) :
    Calls Tryz.prog 126 #[.pointer (some ⟨bx, 0, none⟩)] w (ClP bx L (rtD d) r E w) := by
 have hundF := Tryz.underlying102
 have hszF : (Tryz.prog.info? 102).map (·.size) = some 3 := by kernel_rfl
 have hbx := hX.lt
 have hvk : ∀ k, v.ownBlock = some k → k < w.heap.size := fun k hk => (hO.lt hk).2
 by_cases c0 : d.st.length = 0
 ·have e37 : E = 37 := by rw [← hE, rtE, if_pos c0]
  subst e37
  obtain ⟨va, vc, hv, -, -, -⟩ := hO.slice frc_len
  rw [c0] at hv
  have y16 := hX.stk
  rw [hv] at y16
  clear hE hX hO hv c0 hvx hvk
  go_enter Tryz.func126, Tryz.ntmps126
  go_wp2_with fail
  refine (need_no 37 w).mono ?_
  rintro e W1 ⟨rfl, rfl⟩
  go_wp2_with fail
  exact diedC (.inl ⟨by decide, rfl, Below.refl _ _⟩)
 obtain ⟨k, hk⟩ : ∃ k : Nat, d.st.length = k + 1 := ⟨d.st.length - 1, by omega⟩
 obtain ⟨va, vn, vc, u, hv, hvn, ⟨ua, uc, huu⟩, hsl, hOu, hub⟩ := own_short hO k (by omega) (by omega)
 obtain ⟨f, hf⟩ : ∃ f, d.st[k]? = some f := ⟨_, List.getElem?_eq_getElem (by omega)⟩
 have hlf : lastF d = f := by unfold lastF; rw [hk, Nat.add_sub_cancel, List.getD_eq_getElem?_getD, hf]; rfl
 have htk : d.st.take (d.st.length - 1) = d.st.take k := by rw [hk, Nat.add_sub_cancel]
 have hrow := (hO.slice frc_len)
 obtain ⟨ra, rc, hrv, -, -, hrow⟩ := hrow
 rw [hv] at hrv
 injection hrv with hra hrn hrc
 subst hra
 have hcl := hrow.at frc_len hf
 have hva : (va.add (k * 3)).block < w.heap.size := World.block_lt_of_cell? _ _ (hcl 0 _ rfl)
 have y16 := hX.stk
 have hgt : rtD d = raiseC { d with seg := f.s, off := f.f, ring := f.r, st := d.st.take k } f.r := by unfold rtD; rw [hlf, htk]
 have hEE : E = if f.r < d.ring then 34 else 0 := by rw [← hE, rtE, if_neg c0, hlf]
 rw [hgt]
 have hvb : Aside (u.ownBlock = v.ownBlock) := hub
 rw [hv] at y16
 rw [hvn, hk] at y16 hsl
 have i0 : IntKind.i64.wrap (((k + 1 : Nat) : Int) - 1) = (k : Int) := by rw [IntKind.wrap_i64]; omega
 have i1 : (k : Int) < ((k + 1 : Nat) : Int) := by omega
 have i2 : (0 : Int) ≤ (k : Int) := by omega
 have i3 : ¬ (k : Int) < 0 := by omega
 replace hEE : Aside (E = if f.r < d.ring then 34 else 0) := hEE
 have hkk : Aside (d.st.length = k + 1) := hk
 have hcl' : Aside (CellsAt w (va.add (k * 3)) (frc f)) := hcl
 have hvv0 : v = .slice (some va) (k + 1) vc := by rw [hv, hvn, hk]
 clear hE c0 hv hvn hub hf hlf htk hrow hrn hrc hgt hk hcl
 obtain ⟨n1, hn1⟩ : ∃ n1 : Nat, k + 1 = n1 := ⟨_, rfl⟩
 rw [hn1] at y16 hsl i0 i1
 have i4 : ¬ (n1 : Int) ≤ (k : Int) := by omega
 have hvv : Aside (v = .slice (some va) n1 vc) := by rw [← hn1]; exact hvv0
 replace hn1 : Aside (k + 1 = n1) := hn1
 clear hvv0
 go_enter Tryz.func126, Tryz.ntmps126
 go_wp2_with fail
 refine (need_ok 37 w).mono ?_
 rintro e W1 ⟨rfl, hw1⟩
 rw [hw1]
 clear hw1 W1
 obtain ⟨W2, hW2, hth2, hf2, hB2⟩ := put_new w (frc ⟨0, 0, 0⟩).toArray 102 (frc f) rfl (by show 0 < 3; decide)
 go_upto_region 3 with (first | (refine wpList_load_at rfl _ rfl (va.add (k * 3)) rfl (frc f) hcl'.out hundF rfl hszF ?_) | (refine wpList_store_row rfl _ _ rfl w.heap.size rfl (frc f) rfl hth2 hszF (frc_one _) hW2 ?_) | fail)
 clear hW2 hth2 y16 hcl'
 have hX2 := hX.keep hB2
 have hO2 := hO.below hB2
 have hS0 := (Below.refl W2.heap.size W2).drew
 by_cases c1 : f.r < d.ring
 ·have hE3 : Aside (E = 34) := by
    show _ = _
    rw [hEE.out, if_pos c1]
  have qq : decide (d.ring ≤ f.r) = false := by simp; omega
  clear hEE c1
  refine wp_region_held_drew (S := (fun W => Below W2.heap.size W2 W)) (by kernel_rfl) (by exact hS0) ?_
  intro hHeld
  generalize W2.drew = w0 at *
  refine tkA 0 ?_; (try simp only [Act.put, zsA, zsB, zsC, qq])
  refine tkB 1 (y := yields_cellI (by rfl) _ rfl ⟨w.heap.size, 2, none⟩ rfl (.int .i64 f.r) (fun _ q => ((stab_blk _ _ _ _ hf2 q).1 2 _ rfl).1) intI_load) (h := ?_); (try simp only [Act.put, zsA, zsB, zsC, qq])
  refine tkA 2 ?_; (try simp only [Act.put, zsA, zsB, zsC, qq])
  refine tkA 3 ?_; (try simp only [Act.put, zsA, zsB, zsC, qq])
  refine tkA 4 ?_; (try simp only [Act.put, zsA, zsB, zsC, qq])
  refine tkA 5 ?_; (try simp only [Act.put, zsA, zsB, zsC, qq])
  refine tkB 6 (y := yields_cellI (by rfl) _ rfl ⟨bx, 2, none⟩ rfl (.int .i64 d.ring) (fun _ q => (hX2.keep q).ring) intI_load) (h := ?_); (try simp only [Act.put, zsA, zsB, zsC, qq])
  refine tkA 7 ?_; (try simp only [Act.put, zsA, zsB, zsC, qq])
  refine tkR (rs := [8]) ?_
  refine tkC (fun K hK => ?_) AllReadyH.nil
  go_simp
  go_at_call 128
  refine (needB_no 34 w0).mono ?_
  rintro e w1 ⟨rfl, hb⟩
  exact (show _ ∧ _ from ⟨rfl, .inl ⟨by rw [hE3.out]; decide, by rw [hE3.out], Below.then hB2 (Below.then hS0 hb)⟩⟩)
 have hE3 : Aside (E = 0) := by
  show _ = _
  rw [hEE.out, if_neg c1]
 have qq : decide (d.ring ≤ f.r) = true := by simp; omega
 clear hEE c1
 refine wp_region_held_drew (S := (fun W => Below W2.heap.size W2 W)) (by kernel_rfl) (by exact hS0) ?_
 intro hHeld
 generalize W2.drew = w0 at *
 refine tkA 0 ?_; (try simp only [Act.put, zsA, zsB, zsC, qq])
 refine tkB 1 (y := yields_cellI (by rfl) _ rfl ⟨w.heap.size, 2, none⟩ rfl (.int .i64 f.r) (fun _ q => ((stab_blk _ _ _ _ hf2 q).1 2 _ rfl).1) intI_load) (h := ?_); (try simp only [Act.put, zsA, zsB, zsC, qq])
 refine tkA 2 ?_; (try simp only [Act.put, zsA, zsB, zsC, qq])
 refine tkA 3 ?_; (try simp only [Act.put, zsA, zsB, zsC, qq])
 refine tkA 4 ?_; (try simp only [Act.put, zsA, zsB, zsC, qq])
 refine tkA 5 ?_; (try simp only [Act.put, zsA, zsB, zsC, qq])
 refine tkB 6 (y := yields_cellI (by rfl) _ rfl ⟨bx, 2, none⟩ rfl (.int .i64 d.ring) (fun _ q => (hX2.keep q).ring) intI_load) (h := ?_); (try simp only [Act.put, zsA, zsB, zsC, qq])
 refine tkA 7 ?_; (try simp only [Act.put, zsA, zsB, zsC, qq])
 refine tkR (rs := [8]) ?_
 refine tkC (fun K hK => ?_) AllReadyH.nil
 go_simp
 go_at_call 128
 refine (needB_ok 34 w0).mono ?_
 rintro e w1 ⟨rfl, hb⟩
 have hS1 := Below.then hS0 hb
 clear hb
 refine hK.out _ _ (by exact hS1) ?_
 clear hHeld hK
 intro hHeld
 (try simp only [Act.put, zsA, zsB, zsC, qq])
 refine wpAnyH_done (by kernel_rfl) ?_ _
 have hX3 := hX2.keep hS1
 have hf3 := stab_blk _ _ _ _ hf2 hS1
 have hB3 := Below.then hB2 hS1
 have hO3 := (hOu.below hB2).below hS1
 clear hX2 hf2 hB2 hO2 hS0 hS1 hX hO hOu
 have y16 := hX3.stk
 rw [hvv.out] at y16
 have hX4 := hX3.setStk u
 have hf4 := far_blk hf3 (show bx ≠ w.heap.size by omega) 16 u
 have hO4 := hO3.keep (w' := w1.setCell ⟨bx, 16, none⟩ u) (fun j hj => heap_setCell_other _ ⟨bx, 16, none⟩ j _ (fun e => hvx (by rw [← hvb.out, hj]; exact congrArg some e)))
 have hB4 := (hB3.mono (show L ≤ w.heap.size by omega)).setCell (p := ⟨bx, 16, none⟩) hLx u
 have yf := hX3.free (i := 16) (by decide)
 have hub : ∀ j, u.ownBlock = some j → j ≠ bx := fun j hj e => hvx (by rw [← hvb.out, hj, e])
 subst huu
 clear hX3 hf3 hO3 hB3 hvb
 go_upto_region 5 with fail
 generalize w1.setCell ⟨bx, 16, none⟩ (.slice ua k uc) = W5 at *
 have hr4 := hf4.range
 have ke := center_any bx d (.slice ua k uc) r f W5 hX4
 go_wp2_with (first | (refine wpList_load_row rfl _ rfl w.heap.size rfl (frc f) hr4 hundF rfl hszF ?_) | fail)
 refine ke.mono ?_
 rintro e W6 ⟨⟨re, rfl⟩, hX6, hS6⟩
 have hf6 := hS6.blk hf4 (by omega)
 have hO6 := hS6.own hO4 (fun e => hub bx e rfl)
 have hB6 := hS6.below hB4 hLx (by have := hX4.lt; omega)
 have z2 := (hf6.1 2 _ rfl).1
 clear ke hX4 hf4 hO4 hB4 hS6 hr4 y16 yf
 go_wp2_with fail
 refine (cweaken_any bx _ (.slice ua k uc) r f.r W6 hX6).mono ?_
 rintro e W7 ⟨⟨re2, rfl⟩, hX7, hS7⟩
 have hO7 := hS7.own hO6 (fun e => hub bx e rfl)
 have hB7 := hS7.below hB6 hLx (by have := hX6.lt; omega)
 clear hX6 hf6 hO6 hB6 hS7 z2
 go_wp2_with fail
 refine bodyPost_end (v := .tuple #[]) (by simp [results, Tryz.results126, go_sem]) rfl ?_
 exact .inr ⟨hE3.out, ⟨_, rfl⟩, _, hX7.any _, hO7, hB7⟩
end Go.Proofs.YtidihdiffiffmaaGreatDoor
namespace Go.Proofs.YtidihdiffiffmaaGreatDoor
open Go.RowKit
set_option maxRecDepth 8000
set_option linter.unusedSimpArgs false
set_option linter.unusedVariables false
def opD (d : Cp) (m : List Sg) (i : Ins) : Ot :=
 if i.o = 0 then okC { d with hl := true }
 else if i.o = 1 ∨ 4 ≤ i.o ∧ i.o ≤ 11 then (if rdE d m i ≠ 0 then flt (rdE d m i) else okC { d with a := arC i.o d.a (rdW d m i) })
 else if i.o = 2 then (if wrE d m i ≠ 0 then flt (wrE d m i) else ⟨0, d, some ((memP d i).s, (memP d i).f, d.a), 0, false⟩)
 else if i.o = 3 then okC { d with a := i.n }
 else if i.o = 12 then okC { d with a := toW (floatOfInt .f64 d.a) }
 else if i.o = 13 then (if toE d.a ≠ 0 then flt 36 else okC { d with a := toV d.a })
 else if 14 ≤ i.o ∧ i.o ≤ 16 then okC (jmpC d i)
 else if i.o = 17 then okC { d with ps := d.ps.set i.p.toNat ⟨(wPtr d.a).s, (wPtr d.a).f, gmax (wPtr d.a).r d.ring⟩ }
 else if i.o = 18 then (if rdE d m i ≠ 0 then flt (rdE d m i) else okC { d with ps := d.ps.set i.p.toNat (follow (wPtr (rdW d m i)) (mSeg d m i).rg (mRing d i)) })
 else if i.o = 19 then okC { d with a := ptrW (pAt d i.p) }
 else if i.o = 20 then (if clG (mSeg d m i) (memP d i) d.st.length ≠ 0 then flt (clG (mSeg d m i) (memP d i) d.st.length) else okC (clD d (mSeg d m i) (memP d i)))
 else if i.o = 21 then (if rtE d ≠ 0 then flt (rtE d) else okC (rtD d))
 else if i.o = 22 then ⟨0, d, none, d.a, true⟩
 else okC d
def Wr (bm L : Nat) (sl : List PG) (n : Int) (w : World) : Option (Int × Int × Int) → World → Prop
 | none, w' => Below L w w'
 | some p, w' => WrtM sl p.1 p.2.1 p.2.2 w w'
abbrev rest3 (bm : Nat) (o : Int) (t : Bool) : List Value := [memI bm, .int .i64 o, .bool t]
def DoP (bx bm L : Nat) (sl : List PG) (n : Int) (O : Ot) (w : World) (e : Ending) (w' : World) : Prop :=
 (O.e ≠ 0 ∧ e = .panicked (thr O.e) ∧ Below w.heap.size w w') ∨ (O.e = 0 ∧ (∃ q, e = .returned q) ∧ ∃ v', XAt bx O.t v' (rest3 bm O.v O.told) w' ∧ OwnR 102 3 frc w' L v' O.t.st ∧ Wr bm L sl n w O.wr w')
theorem DoP.no {bx bm L : Nat} {sl : List PG} {n : Int} {w w' : World} {e : Ending} {E : Int} (hE : E ≠ 0) (he : e = .panicked (thr E)) (hb : Below w.heap.size w w') : DoP bx bm L sl n (flt E) w e w' := .inl ⟨hE, he, hb⟩
theorem DoP.ok {bx bm L : Nat} {sl : List PG} {n : Int} {w w' : World} {t : Cp} (v' q : Value) (hX : XAt bx t v' (rest3 bm 0 false) w') (hO : OwnR 102 3 frc w' L v' t.st) (hB : Below L w w') : DoP bx bm L sl n (okC t) w (.returned q) w' := .inr ⟨rfl, ⟨q, rfl⟩, v', hX, hO, hB⟩
theorem own_set {bx L : Nat} {W : World} {v : Value} {l : List Fr} (h : OwnR 102 3 frc W L v l) (hn : v.ownBlock ≠ some bx) (i : Nat) (u : Value) : OwnR 102 3 frc (W.setCell ⟨bx, i, none⟩ u) L v l :=
 h.keep fun k hk => heap_setCell_other _ ⟨bx, i, none⟩ k _ (fun e => hn (by rw [hk]; exact congrArg some e))
theorem bool_store (w : World) (y : Addr) (u : Value) (x : Bool) (hc : w.cell? y = some u) (hf : w.frozen? y = false) : (Instr.storeAt 4 (.pointer (some y)) (.bool x)).run Tryz.prog w = .ok () (w.setCell y (.bool x)) := by
 have h1 := Tryz.underlying4
 go_simp
structure XO (bx bm L : Nat) (a : Option Addr) (cap : Nat) (m : List PG) (is : Bool) (s o y n : Int) (d : Cp) (v : Value) (w : World) : Prop where
 mg : MG m
 ok : d.Ok
 x : XAt bx d v (rest3 bm 0 false) w
 own : OwnR 102 3 frc w L v d.st
 mem : MAt bm a cap m w
 lw : LowM m L
 nb : 0 ≤ n ∧ n < 1000000
 lx : L ≤ bx
 bl : bm < L
 vx : v.ownBlock ≠ some bx
theorem XO.keep {bx bm L : Nat} {a : Option Addr} {cap : Nat} {m : List PG} {is : Bool} {s o y n : Int} {d : Cp} {v : Value} {w w' : World} (h : XO bx bm L a cap m is s o y n d v w) (hb : Below w.heap.size w w') : XO bx bm L a cap m is s o y n d v w' :=
 ⟨h.mg, h.ok, h.x.keep hb, h.own.below hb, h.mem.below hb, h.lw, h.nb, h.lx, h.bl, h.vx⟩
theorem XO.at {bx bm L : Nat} {a : Option Addr} {cap : Nat} {m : List PG} {is : Bool} {s o y n : Int} {d : Cp} {v : Value} {w : World} (h : XO bx bm L a cap m is s o y n d v w) : MAt bm a cap m w := h.mem
set_option maxRecDepth 8000 in
set_option maxHeartbeats 4000000 in
theorem cdo0 {bx bm L : Nat} {a : Option Addr} {cap : Nat} {m : List PG} {is : Bool} {s o y n : Int} {d : Cp} {v : Value} {w : World} (h : XO bx bm L a cap m is s o y n d v w) (p nn : Int) (hi : insE ⟨0, p, nn⟩ = 0) :
    Calls Tryz.prog 92 #[.pointer (some ⟨bx, 0, none⟩), .agg #[.int .i64 0, .int .i64 p, .int .i64 nn]] w (DoP bx bm L m n (opD d (m.map (·.g)) ⟨0, p, nn⟩) w) := by
 have hundI := Tryz.underlying80
 have hszI : (Tryz.prog.info? 80).map (·.size) = some 3 := by kernel_rfl
 have hi0 := blkl_alloc w (ins3 ⟨0, p, nn⟩).toArray 80
 have hB0 := alloc_below w (.cells (ins3 ⟨0, p, nn⟩).toArray 80)
 have h0 := h.keep hB0
 have hbx := h.x.lt
 have hLw : L ≤ w.heap.size := by have := h.lx; omega
 replace hi0 : BlkL w.heap.size (ins3 ⟨0, p, nn⟩) (w.alloc (.cells #[.int .i64 0, .int .i64 p, .int .i64 nn] 80)) := hi0
 replace hB0 : Below w.heap.size w (w.alloc (.cells #[.int .i64 0, .int .i64 p, .int .i64 nn] 80)) := hB0
 replace h0 : XO bx bm L a cap m is s o y n d v (w.alloc (.cells #[.int .i64 0, .int .i64 p, .int .i64 nn] 80)) := h0
 go_enter Tryz.func92, Tryz.ntmps92
 go_upto_region 1 with fail
 generalize w.alloc (.cells #[.int .i64 0, .int .i64 p, .int .i64 nn] 80) = W0 at *
 have x0 := (hi0.1 0 _ rfl).1
 have hri := hi0.range
 have y17 := h0.x.hl
 have yf := h0.x.free (i := 17) (by decide)
 have hX2 := h0.x.setHl true
 have hO2 := own_set h0.own h0.vx 17 (.bool true)
 have hB2 := (hB0.mono hLw).setCell (p := ⟨bx, 17, none⟩) h.lx (.bool true)
 go_wp2_with fail
 refine bodyPost_end (v := .tuple #[]) (by simp [results, Tryz.results92, go_sem]) rfl ?_
 exact .ok v _ hX2 hO2 hB2
set_option maxRecDepth 8000 in
set_option maxHeartbeats 4000000 in
theorem cdo3 {bx bm L : Nat} {a : Option Addr} {cap : Nat} {m : List PG} {is : Bool} {s o y n : Int} {d : Cp} {v : Value} {w : World} (h : XO bx bm L a cap m is s o y n d v w) (p nn : Int) (hi : insE ⟨3, p, nn⟩ = 0) :
    Calls Tryz.prog 92 #[.pointer (some ⟨bx, 0, none⟩), .agg #[.int .i64 3, .int .i64 p, .int .i64 nn]] w (DoP bx bm L m n (opD d (m.map (·.g)) ⟨3, p, nn⟩) w) := by
 have hundI := Tryz.underlying80
 have hszI : (Tryz.prog.info? 80).map (·.size) = some 3 := by kernel_rfl
 have hi0 := blkl_alloc w (ins3 ⟨3, p, nn⟩).toArray 80
 have hB0 := alloc_below w (.cells (ins3 ⟨3, p, nn⟩).toArray 80)
 have h0 := h.keep hB0
 have hbx := h.x.lt
 have hLw : L ≤ w.heap.size := by have := h.lx; omega
 replace hi0 : BlkL w.heap.size (ins3 ⟨3, p, nn⟩) (w.alloc (.cells #[.int .i64 3, .int .i64 p, .int .i64 nn] 80)) := hi0
 replace hB0 : Below w.heap.size w (w.alloc (.cells #[.int .i64 3, .int .i64 p, .int .i64 nn] 80)) := hB0
 replace h0 : XO bx bm L a cap m is s o y n d v (w.alloc (.cells #[.int .i64 3, .int .i64 p, .int .i64 nn] 80)) := h0
 go_enter Tryz.func92, Tryz.ntmps92
 go_upto_region 1 with fail
 generalize w.alloc (.cells #[.int .i64 3, .int .i64 p, .int .i64 nn] 80) = W0 at *
 have x0 := (hi0.1 0 _ rfl).1
 have hri := hi0.range
 have x2 := (hi0.1 2 _ rfl).1
 have y3 := h0.x.a
 have yf := h0.x.free (i := 3) (by decide)
 have hX2 := h0.x.setA nn
 have hO2 := own_set h0.own h0.vx 3 (.int .i64 nn)
 have hB2 := (hB0.mono hLw).setCell (p := ⟨bx, 3, none⟩) h.lx (.int .i64 nn)
 go_wp2_with fail
 refine bodyPost_end (v := .tuple #[]) (by simp [results, Tryz.results92, go_sem]) rfl ?_
 exact .ok v _ hX2 hO2 hB2
set_option maxRecDepth 8000 in
set_option maxHeartbeats 4000000 in
theorem cdo22 {bx bm L : Nat} {a : Option Addr} {cap : Nat} {m : List PG} {is : Bool} {s o y n : Int} {d : Cp} {v : Value} {w : World} (h : XO bx bm L a cap m is s o y n d v w) (p nn : Int) (hi : insE ⟨22, p, nn⟩ = 0) :
    Calls Tryz.prog 92 #[.pointer (some ⟨bx, 0, none⟩), .agg #[.int .i64 22, .int .i64 p, .int .i64 nn]] w (DoP bx bm L m n (opD d (m.map (·.g)) ⟨22, p, nn⟩) w) := by
 have hundI := Tryz.underlying80
 have hszI : (Tryz.prog.info? 80).map (·.size) = some 3 := by kernel_rfl
 have hi0 := blkl_alloc w (ins3 ⟨22, p, nn⟩).toArray 80
 have hB0 := alloc_below w (.cells (ins3 ⟨22, p, nn⟩).toArray 80)
 have h0 := h.keep hB0
 have hbx := h.x.lt
 have hLw : L ≤ w.heap.size := by have := h.lx; omega
 replace hi0 : BlkL w.heap.size (ins3 ⟨22, p, nn⟩) (w.alloc (.cells #[.int .i64 22, .int .i64 p, .int .i64 nn] 80)) := hi0
 replace hB0 : Below w.heap.size w (w.alloc (.cells #[.int .i64 22, .int .i64 p, .int .i64 nn] 80)) := hB0
 replace h0 : XO bx bm L a cap m is s o y n d v (w.alloc (.cells #[.int .i64 22, .int .i64 p, .int .i64 nn] 80)) := h0
 go_enter Tryz.func92, Tryz.ntmps92
 go_upto_region 1 with fail
 generalize w.alloc (.cells #[.int .i64 22, .int .i64 p, .int .i64 nn] 80) = W0 at *
 have x0 := (hi0.1 0 _ rfl).1
 have hri := hi0.range
 have y3 := h0.x.a
 have y19 := (h0.x.tails (i := 1) rfl).1
 have yf19 := (h0.x.tails (i := 1) rfl).2
 have y20 := (h0.x.tails (i := 2) rfl).1
 have yf20 := (h0.x.tails (i := 2) rfl).2
 have hX2 := (h0.x.putT (i := 1) (by show 1 < 3; decide) (.int .i64 d.a)).putT (i := 2) (by show 2 < 3; decide) (.bool true)
 have hO2 := own_set (own_set h0.own h0.vx 19 (.int .i64 d.a)) h0.vx 20 (.bool true)
 have hB2 := ((hB0.mono hLw).setCell (p := ⟨bx, 19, none⟩) h.lx (.int .i64 d.a)).setCell (p := ⟨bx, 20, none⟩) h.lx (.bool true)
 go_wp2_with fail
 refine bodyPost_end (v := .tuple #[]) (by simp [results, Tryz.results92, go_sem]) rfl ?_
 exact .inr ⟨rfl, ⟨_, rfl⟩, v, hX2, hO2, hB2⟩
set_option maxRecDepth 8000 in
set_option maxHeartbeats 4000000 in
theorem cdo12 {bx bm L : Nat} {a : Option Addr} {cap : Nat} {m : List PG} {is : Bool} {s o y n : Int} {d : Cp} {v : Value} {w : World} (h : XO bx bm L a cap m is s o y n d v w) (p nn : Int) (hi : insE ⟨12, p, nn⟩ = 0) :
    Calls Tryz.prog 92 #[.pointer (some ⟨bx, 0, none⟩), .agg #[.int .i64 12, .int .i64 p, .int .i64 nn]] w (DoP bx bm L m n (opD d (m.map (·.g)) ⟨12, p, nn⟩) w) := by
 have hundI := Tryz.underlying80
 have hszI : (Tryz.prog.info? 80).map (·.size) = some 3 := by kernel_rfl
 have hi0 := blkl_alloc w (ins3 ⟨12, p, nn⟩).toArray 80
 have hB0 := alloc_below w (.cells (ins3 ⟨12, p, nn⟩).toArray 80)
 have h0 := h.keep hB0
 have hbx := h.x.lt
 have hLw : L ≤ w.heap.size := by have := h.lx; omega
 replace hi0 : BlkL w.heap.size (ins3 ⟨12, p, nn⟩) (w.alloc (.cells #[.int .i64 12, .int .i64 p, .int .i64 nn] 80)) := hi0
 replace hB0 : Below w.heap.size w (w.alloc (.cells #[.int .i64 12, .int .i64 p, .int .i64 nn] 80)) := hB0
 replace h0 : XO bx bm L a cap m is s o y n d v (w.alloc (.cells #[.int .i64 12, .int .i64 p, .int .i64 nn] 80)) := h0
 go_enter Tryz.func92, Tryz.ntmps92
 go_upto_region 1 with fail
 generalize w.alloc (.cells #[.int .i64 12, .int .i64 p, .int .i64 nn] 80) = W0 at *
 have x0 := (hi0.1 0 _ rfl).1
 have hri := hi0.range
 have k := word_FromInt_any d.a W0
 have y3 := h0.x.a
 have yf := h0.x.free (i := 3) (by decide)
 have hX2 := h0.x.setA (toW (floatOfInt .f64 d.a))
 have hO2 := own_set h0.own h0.vx 3 (.int .i64 (toW (floatOfInt .f64 d.a)))
 have hB2 := (hB0.mono hLw).setCell (p := ⟨bx, 3, none⟩) h.lx (.int .i64 (toW (floatOfInt .f64 d.a)))
 obtain ⟨z, hy⟩ : ∃ z, toW (floatOfInt .f64 d.a) = z := ⟨_, rfl⟩
 rw [hy] at hX2 hO2 hB2 k
 replace hy : Aside (toW (floatOfInt .f64 d.a) = z) := hy
 go_wp2_with fail
 refine k.mono ?_
 rintro e W1 ⟨rfl, hw1⟩
 rw [hw1]
 clear hw1 W1
 go_wp2_with fail
 refine bodyPost_end (v := .tuple #[]) (by simp [results, Tryz.results92, go_sem]) rfl ?_
 rw [show opD d (m.map (·.g)) ⟨12, p, nn⟩ = okC { d with a := z } by rw [← hy.out]; rfl]
 exact .ok v _ hX2 hO2 hB2
set_option maxRecDepth 8000 in
set_option maxHeartbeats 4000000 in
theorem cdo13 {bx bm L : Nat} {a : Option Addr} {cap : Nat} {m : List PG} {is : Bool} {s o y n : Int} {d : Cp} {v : Value} {w : World} (h : XO bx bm L a cap m is s o y n d v w) (p nn : Int) (hi : insE ⟨13, p, nn⟩ = 0) :
    Calls Tryz.prog 92 #[.pointer (some ⟨bx, 0, none⟩), .agg #[.int .i64 13, .int .i64 p, .int .i64 nn]] w (DoP bx bm L m n (opD d (m.map (·.g)) ⟨13, p, nn⟩) w) := by
 have hundI := Tryz.underlying80
 have hszI : (Tryz.prog.info? 80).map (·.size) = some 3 := by kernel_rfl
 have hi0 := blkl_alloc w (ins3 ⟨13, p, nn⟩).toArray 80
 have hB0 := alloc_below w (.cells (ins3 ⟨13, p, nn⟩).toArray 80)
 have h0 := h.keep hB0
 have hbx := h.x.lt
 have hLw : L ≤ w.heap.size := by have := h.lx; omega
 replace hi0 : BlkL w.heap.size (ins3 ⟨13, p, nn⟩) (w.alloc (.cells #[.int .i64 13, .int .i64 p, .int .i64 nn] 80)) := hi0
 replace hB0 : Below w.heap.size w (w.alloc (.cells #[.int .i64 13, .int .i64 p, .int .i64 nn] 80)) := hB0
 replace h0 : XO bx bm L a cap m is s o y n d v (w.alloc (.cells #[.int .i64 13, .int .i64 p, .int .i64 nn] 80)) := h0
 go_enter Tryz.func92, Tryz.ntmps92
 go_upto_region 1 with fail
 generalize w.alloc (.cells #[.int .i64 13, .int .i64 p, .int .i64 nn] 80) = W0 at *
 have x0 := (hi0.1 0 _ rfl).1
 have hri := hi0.range
 have k := cfix_any bx d v (rest3 bm 0 false) W0 h0.x
 go_wp2_with fail
 refine k.mono ?_
 rintro e W1 (⟨hE, rfl, hw1⟩ | ⟨hE, ⟨q, rfl⟩, hX1, hS1⟩)
 ·rw [hw1]
  go_wp2_with fail
  refine diedC ?_
  rw [show opD d (m.map (·.g)) ⟨13, p, nn⟩ = (if toE d.a ≠ 0 then flt 36 else okC { d with a := toV d.a }) from rfl, if_pos hE]
  exact .no (by decide) rfl hB0
 ·have hO1 := hS1.own h0.own h0.vx
  have hB1 := hS1.below (hB0.mono hLw) h.lx (Nat.le_trans hLw hB0.size)
  go_wp2_with fail
  refine bodyPost_end (v := .tuple #[]) (by simp [results, Tryz.results92, go_sem]) rfl ?_
  rw [show opD d (m.map (·.g)) ⟨13, p, nn⟩ = (if toE d.a ≠ 0 then flt 36 else okC { d with a := toV d.a }) from rfl, if_neg (by simpa using hE)]
  exact .ok v _ hX1 hO1 hB1
set_option maxRecDepth 8000 in
set_option maxHeartbeats 4000000 in
theorem cdo14 {bx bm L : Nat} {a : Option Addr} {cap : Nat} {m : List PG} {is : Bool} {s o y n : Int} {d : Cp} {v : Value} {w : World} (h : XO bx bm L a cap m is s o y n d v w) (p nn : Int) (hi : insE ⟨14, p, nn⟩ = 0) :
    Calls Tryz.prog 92 #[.pointer (some ⟨bx, 0, none⟩), .agg #[.int .i64 14, .int .i64 p, .int .i64 nn]] w (DoP bx bm L m n (opD d (m.map (·.g)) ⟨14, p, nn⟩) w) := by
 have hundI := Tryz.underlying80
 have hszI : (Tryz.prog.info? 80).map (·.size) = some 3 := by kernel_rfl
 have hi0 := blkl_alloc w (ins3 ⟨14, p, nn⟩).toArray 80
 have hB0 := alloc_below w (.cells (ins3 ⟨14, p, nn⟩).toArray 80)
 have h0 := h.keep hB0
 have hbx := h.x.lt
 have hLw : L ≤ w.heap.size := by have := h.lx; omega
 replace hi0 : BlkL w.heap.size (ins3 ⟨14, p, nn⟩) (w.alloc (.cells #[.int .i64 14, .int .i64 p, .int .i64 nn] 80)) := hi0
 replace hB0 : Below w.heap.size w (w.alloc (.cells #[.int .i64 14, .int .i64 p, .int .i64 nn] 80)) := hB0
 replace h0 : XO bx bm L a cap m is s o y n d v (w.alloc (.cells #[.int .i64 14, .int .i64 p, .int .i64 nn] 80)) := h0
 go_enter Tryz.func92, Tryz.ntmps92
 go_upto_region 1 with fail
 generalize w.alloc (.cells #[.int .i64 14, .int .i64 p, .int .i64 nn] 80) = W0 at *
 have x0 := (hi0.1 0 _ rfl).1
 have hri := hi0.range
 have k := cjump_any bx d v (rest3 bm 0 false) ⟨14, p, nn⟩ W0 h0.x
 go_wp2_with (first | (refine wpList_load_row rfl _ rfl w.heap.size rfl (ins3 ⟨14, p, nn⟩) hri hundI rfl hszI ?_) | fail)
 refine k.mono ?_
 rintro e W1 ⟨⟨q, rfl⟩, hX1, hS1⟩
 have hO1 : OwnR 102 3 frc W1 L v (jmpC d ⟨14, p, nn⟩).st := by
  have hj : (jmpC d ⟨14, p, nn⟩).st = d.st := by unfold jmpC; split <;> rfl
  rw [hj]; exact hS1.own h0.own h0.vx
 have hB1 := hS1.below (hB0.mono hLw) h.lx (Nat.le_trans hLw hB0.size)
 go_wp2_with fail
 refine bodyPost_end (v := .tuple #[]) (by simp [results, Tryz.results92, go_sem]) rfl ?_
 rw [show opD d (m.map (·.g)) ⟨14, p, nn⟩ = okC (jmpC d ⟨14, p, nn⟩) from rfl]
 exact .ok v _ hX1 hO1 hB1
set_option maxRecDepth 8000 in
set_option maxHeartbeats 4000000 in
theorem cdo15 {bx bm L : Nat} {a : Option Addr} {cap : Nat} {m : List PG} {is : Bool} {s o y n : Int} {d : Cp} {v : Value} {w : World} (h : XO bx bm L a cap m is s o y n d v w) (p nn : Int) (hi : insE ⟨15, p, nn⟩ = 0) :
    Calls Tryz.prog 92 #[.pointer (some ⟨bx, 0, none⟩), .agg #[.int .i64 15, .int .i64 p, .int .i64 nn]] w (DoP bx bm L m n (opD d (m.map (·.g)) ⟨15, p, nn⟩) w) := by
 have hundI := Tryz.underlying80
 have hszI : (Tryz.prog.info? 80).map (·.size) = some 3 := by kernel_rfl
 have hi0 := blkl_alloc w (ins3 ⟨15, p, nn⟩).toArray 80
 have hB0 := alloc_below w (.cells (ins3 ⟨15, p, nn⟩).toArray 80)
 have h0 := h.keep hB0
 have hbx := h.x.lt
 have hLw : L ≤ w.heap.size := by have := h.lx; omega
 replace hi0 : BlkL w.heap.size (ins3 ⟨15, p, nn⟩) (w.alloc (.cells #[.int .i64 15, .int .i64 p, .int .i64 nn] 80)) := hi0
 replace hB0 : Below w.heap.size w (w.alloc (.cells #[.int .i64 15, .int .i64 p, .int .i64 nn] 80)) := hB0
 replace h0 : XO bx bm L a cap m is s o y n d v (w.alloc (.cells #[.int .i64 15, .int .i64 p, .int .i64 nn] 80)) := h0
 go_enter Tryz.func92, Tryz.ntmps92
 go_upto_region 1 with fail
 generalize w.alloc (.cells #[.int .i64 15, .int .i64 p, .int .i64 nn] 80) = W0 at *
 have x0 := (hi0.1 0 _ rfl).1
 have hri := hi0.range
 have k := cjump_any bx d v (rest3 bm 0 false) ⟨15, p, nn⟩ W0 h0.x
 go_wp2_with (first | (refine wpList_load_row rfl _ rfl w.heap.size rfl (ins3 ⟨15, p, nn⟩) hri hundI rfl hszI ?_) | fail)
 refine k.mono ?_
 rintro e W1 ⟨⟨q, rfl⟩, hX1, hS1⟩
 have hO1 : OwnR 102 3 frc W1 L v (jmpC d ⟨15, p, nn⟩).st := by
  have hj : (jmpC d ⟨15, p, nn⟩).st = d.st := by unfold jmpC; split <;> rfl
  rw [hj]; exact hS1.own h0.own h0.vx
 have hB1 := hS1.below (hB0.mono hLw) h.lx (Nat.le_trans hLw hB0.size)
 go_wp2_with fail
 refine bodyPost_end (v := .tuple #[]) (by simp [results, Tryz.results92, go_sem]) rfl ?_
 rw [show opD d (m.map (·.g)) ⟨15, p, nn⟩ = okC (jmpC d ⟨15, p, nn⟩) from rfl]
 exact .ok v _ hX1 hO1 hB1
set_option maxRecDepth 8000 in
set_option maxHeartbeats 4000000 in
theorem cdo16 {bx bm L : Nat} {a : Option Addr} {cap : Nat} {m : List PG} {is : Bool} {s o y n : Int} {d : Cp} {v : Value} {w : World} (h : XO bx bm L a cap m is s o y n d v w) (p nn : Int) (hi : insE ⟨16, p, nn⟩ = 0) :
    Calls Tryz.prog 92 #[.pointer (some ⟨bx, 0, none⟩), .agg #[.int .i64 16, .int .i64 p, .int .i64 nn]] w (DoP bx bm L m n (opD d (m.map (·.g)) ⟨16, p, nn⟩) w) := by
 have hundI := Tryz.underlying80
 have hszI : (Tryz.prog.info? 80).map (·.size) = some 3 := by kernel_rfl
 have hi0 := blkl_alloc w (ins3 ⟨16, p, nn⟩).toArray 80
 have hB0 := alloc_below w (.cells (ins3 ⟨16, p, nn⟩).toArray 80)
 have h0 := h.keep hB0
 have hbx := h.x.lt
 have hLw : L ≤ w.heap.size := by have := h.lx; omega
 replace hi0 : BlkL w.heap.size (ins3 ⟨16, p, nn⟩) (w.alloc (.cells #[.int .i64 16, .int .i64 p, .int .i64 nn] 80)) := hi0
 replace hB0 : Below w.heap.size w (w.alloc (.cells #[.int .i64 16, .int .i64 p, .int .i64 nn] 80)) := hB0
 replace h0 : XO bx bm L a cap m is s o y n d v (w.alloc (.cells #[.int .i64 16, .int .i64 p, .int .i64 nn] 80)) := h0
 go_enter Tryz.func92, Tryz.ntmps92
 go_upto_region 1 with fail
 generalize w.alloc (.cells #[.int .i64 16, .int .i64 p, .int .i64 nn] 80) = W0 at *
 have x0 := (hi0.1 0 _ rfl).1
 have hri := hi0.range
 have k := cjump_any bx d v (rest3 bm 0 false) ⟨16, p, nn⟩ W0 h0.x
 go_wp2_with (first | (refine wpList_load_row rfl _ rfl w.heap.size rfl (ins3 ⟨16, p, nn⟩) hri hundI rfl hszI ?_) | fail)
 refine k.mono ?_
 rintro e W1 ⟨⟨q, rfl⟩, hX1, hS1⟩
 have hO1 : OwnR 102 3 frc W1 L v (jmpC d ⟨16, p, nn⟩).st := by
  have hj : (jmpC d ⟨16, p, nn⟩).st = d.st := by unfold jmpC; split <;> rfl
  rw [hj]; exact hS1.own h0.own h0.vx
 have hB1 := hS1.below (hB0.mono hLw) h.lx (Nat.le_trans hLw hB0.size)
 go_wp2_with fail
 refine bodyPost_end (v := .tuple #[]) (by simp [results, Tryz.results92, go_sem]) rfl ?_
 rw [show opD d (m.map (·.g)) ⟨16, p, nn⟩ = okC (jmpC d ⟨16, p, nn⟩) from rfl]
 exact .ok v _ hX1 hO1 hB1
set_option maxRecDepth 8000 in
set_option maxHeartbeats 4000000 in
theorem cdo17 {bx bm L : Nat} {a : Option Addr} {cap : Nat} {m : List PG} {is : Bool} {s o y n : Int} {d : Cp} {v : Value} {w : World} (h : XO bx bm L a cap m is s o y n d v w) (p nn : Int) (hi : insE ⟨17, p, nn⟩ = 0) :
    Calls Tryz.prog 92 #[.pointer (some ⟨bx, 0, none⟩), .agg #[.int .i64 17, .int .i64 p, .int .i64 nn]] w (DoP bx bm L m n (opD d (m.map (·.g)) ⟨17, p, nn⟩) w) := by
 have hundI := Tryz.underlying80
 have hszI : (Tryz.prog.info? 80).map (·.size) = some 3 := by kernel_rfl
 have hi0 := blkl_alloc w (ins3 ⟨17, p, nn⟩).toArray 80
 have hB0 := alloc_below w (.cells (ins3 ⟨17, p, nn⟩).toArray 80)
 have h0 := h.keep hB0
 have hbx := h.x.lt
 have hLw : L ≤ w.heap.size := by have := h.lx; omega
 replace hi0 : BlkL w.heap.size (ins3 ⟨17, p, nn⟩) (w.alloc (.cells #[.int .i64 17, .int .i64 p, .int .i64 nn] 80)) := hi0
 replace hB0 : Below w.heap.size w (w.alloc (.cells #[.int .i64 17, .int .i64 p, .int .i64 nn] 80)) := hB0
 replace h0 : XO bx bm L a cap m is s o y n d v (w.alloc (.cells #[.int .i64 17, .int .i64 p, .int .i64 nn] 80)) := h0
 obtain ⟨pk, hpk, hp4⟩ : ∃ pk : Nat, p = (pk : Int) ∧ pk < 4 := by
  obtain ⟨-, p0, p1, -⟩ := insE_zero.1 hi
  replace p0 : 0 ≤ p := p0
  replace p1 : p ≤ 3 := p1
  exact ⟨p.toNat, by omega, by omega⟩
 replace hpk : Aside (p = (pk : Int)) := hpk
 go_enter Tryz.func92, Tryz.ntmps92
 go_upto_region 1 with fail
 generalize w.alloc (.cells #[.int .i64 17, .int .i64 p, .int .i64 nn] 80) = W0 at *
 have x0 := (hi0.1 0 _ rfl).1
 have hri := hi0.range
 have x1 := (hi0.1 1 _ rfl).1
 have k := csetp_any bx d v (rest3 bm 0 false) h.ok pk hp4 W0 h0.x
 rw [← hpk.out] at k
 go_wp2_with fail
 refine k.mono ?_
 rintro e W1 ⟨⟨q, rfl⟩, hX1, hS1⟩
 have hO1 := hS1.own h0.own h0.vx
 have hB1 := hS1.below (hB0.mono hLw) h.lx (Nat.le_trans hLw hB0.size)
 go_wp2_with fail
 refine bodyPost_end (v := .tuple #[]) (by simp [results, Tryz.results92, go_sem]) rfl ?_
 rw [show opD d (m.map (·.g)) ⟨17, p, nn⟩ = okC { d with ps := d.ps.set p.toNat ⟨(wPtr d.a).s, (wPtr d.a).f, gmax (wPtr d.a).r d.ring⟩ } from rfl, show p.toNat = pk by rw [hpk.out, Int.toNat_natCast]]
 exact .ok v _ hX1 hO1 hB1
set_option maxRecDepth 8000 in
set_option maxHeartbeats 4000000 in
theorem cdo18 {bx bm L : Nat} {a : Option Addr} {cap : Nat} {m : List PG} {is : Bool} {s o y n : Int} {d : Cp} {v : Value} {w : World} (h : XO bx bm L a cap m is s o y n d v w) (p nn : Int) (hi : insE ⟨18, p, nn⟩ = 0) :
    Calls Tryz.prog 92 #[.pointer (some ⟨bx, 0, none⟩), .agg #[.int .i64 18, .int .i64 p, .int .i64 nn]] w (DoP bx bm L m n (opD d (m.map (·.g)) ⟨18, p, nn⟩) w) := by
 have hundI := Tryz.underlying80
 have hszI : (Tryz.prog.info? 80).map (·.size) = some 3 := by kernel_rfl
 have hi0 := blkl_alloc w (ins3 ⟨18, p, nn⟩).toArray 80
 have hB0 := alloc_below w (.cells (ins3 ⟨18, p, nn⟩).toArray 80)
 have h0 := h.keep hB0
 have hbx := h.x.lt
 have hLw : L ≤ w.heap.size := by have := h.lx; omega
 replace hi0 : BlkL w.heap.size (ins3 ⟨18, p, nn⟩) (w.alloc (.cells #[.int .i64 18, .int .i64 p, .int .i64 nn] 80)) := hi0
 replace hB0 : Below w.heap.size w (w.alloc (.cells #[.int .i64 18, .int .i64 p, .int .i64 nn] 80)) := hB0
 replace h0 : XO bx bm L a cap m is s o y n d v (w.alloc (.cells #[.int .i64 18, .int .i64 p, .int .i64 nn] 80)) := h0
 obtain ⟨pk, hpk, hp4⟩ : ∃ pk : Nat, p = (pk : Int) ∧ pk < 4 := by
  obtain ⟨-, p0, p1, -⟩ := insE_zero.1 hi
  replace p0 : 0 ≤ p := p0
  replace p1 : p ≤ 3 := p1
  exact ⟨p.toNat, by omega, by omega⟩
 replace hpk : Aside (p = (pk : Int)) := hpk
 go_enter Tryz.func92, Tryz.ntmps92
 go_upto_region 1 with fail
 generalize w.alloc (.cells #[.int .i64 18, .int .i64 p, .int .i64 nn] 80) = W0 at *
 have x0 := (hi0.1 0 _ rfl).1
 have hri := hi0.range
 have k := cldp_any bm bx a cap m h.mg d v [.int .i64 0, .bool false] h.ok ⟨18, p, nn⟩ hi pk hpk.out hp4 W0 h0.at h0.x
 go_wp2_with (first | (refine wpList_load_row rfl _ rfl w.heap.size rfl (ins3 ⟨18, p, nn⟩) hri hundI rfl hszI ?_) | fail)
 refine k.mono ?_
 rintro e W1 (⟨hE, rfl, hb⟩ | ⟨hE, ⟨q, rfl⟩, hX1, hS1⟩)
 ·go_wp2_with fail
  refine diedC ?_
  rw [show opD d (m.map (·.g)) ⟨18, p, nn⟩ = (if rdE d (m.map (·.g)) ⟨18, p, nn⟩ ≠ 0 then flt (rdE d (m.map (·.g)) ⟨18, p, nn⟩) else okC { d with ps := d.ps.set p.toNat (follow (wPtr (rdW d (m.map (·.g)) ⟨18, p, nn⟩)) (mSeg d (m.map (·.g)) ⟨18, p, nn⟩).rg (mRing d ⟨18, p, nn⟩)) }) from rfl, if_pos hE]
  exact .no hE rfl (Below.then hB0 hb)
 ·have hO1 := hS1.own h0.own h0.vx
  have hB1 := hS1.below (hB0.mono hLw) h.lx (Nat.le_trans hLw hB0.size)
  go_wp2_with fail
  refine bodyPost_end (v := .tuple #[]) (by simp [results, Tryz.results92, go_sem]) rfl ?_
  rw [show opD d (m.map (·.g)) ⟨18, p, nn⟩ = (if rdE d (m.map (·.g)) ⟨18, p, nn⟩ ≠ 0 then flt (rdE d (m.map (·.g)) ⟨18, p, nn⟩) else okC { d with ps := d.ps.set p.toNat (follow (wPtr (rdW d (m.map (·.g)) ⟨18, p, nn⟩)) (mSeg d (m.map (·.g)) ⟨18, p, nn⟩).rg (mRing d ⟨18, p, nn⟩)) }) from rfl, if_neg (by simpa using hE), show p.toNat = pk by rw [hpk.out, Int.toNat_natCast]]
  exact .ok v _ hX1 hO1 hB1
end Go.Proofs.YtidihdiffiffmaaGreatDoor
namespace Go.Proofs.YtidihdiffiffmaaGreatDoor
open Go.RowKit
set_option maxRecDepth 8000
set_option linter.unusedSimpArgs false
set_option linter.unusedVariables false
set_option maxRecDepth 8000 in
set_option maxHeartbeats 4000000 in
theorem cdo1 {bx bm L : Nat} {a : Option Addr} {cap : Nat} {m : List PG} {is : Bool} {s o y n : Int} {d : Cp} {v : Value} {w : World} (h : XO bx bm L a cap m is s o y n d v w) (p nn : Int) (hi : insE ⟨1, p, nn⟩ = 0) :
    Calls Tryz.prog 92 #[.pointer (some ⟨bx, 0, none⟩), .agg #[.int .i64 1, .int .i64 p, .int .i64 nn]] w (DoP bx bm L m n (opD d (m.map (·.g)) ⟨1, p, nn⟩) w) := by
 have hundI := Tryz.underlying80
 have hszI : (Tryz.prog.info? 80).map (·.size) = some 3 := by kernel_rfl
 have hi0 := blkl_alloc w (ins3 ⟨1, p, nn⟩).toArray 80
 have hB0 := alloc_below w (.cells (ins3 ⟨1, p, nn⟩).toArray 80)
 have h0 := h.keep hB0
 have hbx := h.x.lt
 have hLw : L ≤ w.heap.size := by have := h.lx; omega
 replace hi0 : BlkL w.heap.size (ins3 ⟨1, p, nn⟩) (w.alloc (.cells #[.int .i64 1, .int .i64 p, .int .i64 nn] 80)) := hi0
 replace hB0 : Below w.heap.size w (w.alloc (.cells #[.int .i64 1, .int .i64 p, .int .i64 nn] 80)) := hB0
 replace h0 : XO bx bm L a cap m is s o y n d v (w.alloc (.cells #[.int .i64 1, .int .i64 p, .int .i64 nn] 80)) := h0
 go_enter Tryz.func92, Tryz.ntmps92
 go_upto_region 1 with fail
 generalize w.alloc (.cells #[.int .i64 1, .int .i64 p, .int .i64 nn] 80) = W0 at *
 have x0 := (hi0.1 0 _ rfl).1
 have hri := hi0.range
 have kme := cmem_any bx d v (rest3 bm 0 false) h.ok ⟨1, p, nn⟩ hi W0 h0.x
 have krd := fun (W : World) h1 h2 => cread_any bm bx a cap m h.mg d v [.int .i64 0, .bool false] (memP d ⟨1, p, nn⟩) (kn (m.map (·.g)) (memP d ⟨1, p, nn⟩).s) rfl (rdE d (m.map (·.g)) ⟨1, p, nn⟩) rfl W h1 h2
 have hsg : kn (m.map (·.g)) (memP d ⟨1, p, nn⟩).s = mSeg d (m.map (·.g)) ⟨1, p, nn⟩ := rfl
 have hw : wAt (mSeg d (m.map (·.g)) ⟨1, p, nn⟩) (memP d ⟨1, p, nn⟩).f = rdW d (m.map (·.g)) ⟨1, p, nn⟩ := rfl
 simp only [hsg] at krd
 simp only [hw] at krd
 clear hsg hw
 obtain ⟨E, hE⟩ : ∃ E, rdE d (m.map (·.g)) ⟨1, p, nn⟩ = E := ⟨_, rfl⟩
 obtain ⟨wd, hwd⟩ : ∃ wd, rdW d (m.map (·.g)) ⟨1, p, nn⟩ = wd := ⟨_, rfl⟩
 rw [hE, hwd] at krd
 replace hE : Aside (rdE d (m.map (·.g)) ⟨1, p, nn⟩ = E) := hE
 replace hwd : Aside (rdW d (m.map (·.g)) ⟨1, p, nn⟩ = wd) := hwd
 generalize (mSeg d (m.map (·.g)) ⟨1, p, nn⟩).rg = rg at *
 generalize memP d ⟨1, p, nn⟩ = q at *
 have heq : Aside (opD d (m.map (·.g)) ⟨1, p, nn⟩ = if E ≠ 0 then flt E else okC { d with a := arC 1 d.a wd }) := by
  show _ = _
  rw [← hE.out, ← hwd.out]
  rfl
 go_wp2_with (first | (refine wpList_load_row rfl _ rfl w.heap.size rfl (ins3 ⟨1, p, nn⟩) hri hundI rfl hszI ?_) | fail)
 refine kme.mono ?_
 rintro e W1 ⟨rfl, hb⟩
 have h1 := h0.keep hb
 have hB1 := Below.then hB0 hb
 have hi1 := stab_blk _ _ _ _ hi0 hb
 clear kme h0 hB0 hb hri x0 hi0
 go_wp2_with fail
 refine (krd W1 h1.at h1.x).mono ?_
 rintro e W2 ⟨rfl, hb⟩
 have h2 := h1.keep hb
 have hB2 := Below.then hB1 hb
 have hi2 := stab_blk _ _ _ _ hi1 hb
 clear krd h1 hB1 hb hi1
 by_cases hE0 : E = 0
 rotate_left
 ·rw [if_neg hE0]
  go_wp2_with fail
  refine diedC ?_
  rw [heq.out, if_pos hE0]
  exact .no hE0 rfl hB2
 rw [if_pos hE0]
 rw [if_neg (by simpa using hE0)] at heq
 clear hE0
 have y3 := h2.x.a
 have yf := h2.x.free (i := 3) (by decide)
 have hX3 := h2.x.setA wd
 have hO3 := own_set h2.own h2.vx 3 (.int .i64 wd)
 have hB3 := (hB2.mono hLw).setCell (p := ⟨bx, 3, none⟩) h.lx (.int .i64 wd)
 clear h2 hB2 hi2
 go_wp2_with fail
 refine bodyPost_end (v := .tuple #[]) (by simp [results, Tryz.results92, go_sem]) rfl ?_
 rw [heq.out, show arC 1 d.a wd = wd from rfl]
 exact .ok v _ hX3 hO3 hB3
set_option maxRecDepth 8000 in
set_option maxHeartbeats 4000000 in
theorem cdo4 {bx bm L : Nat} {a : Option Addr} {cap : Nat} {m : List PG} {is : Bool} {s o y n : Int} {d : Cp} {v : Value} {w : World} (h : XO bx bm L a cap m is s o y n d v w) (p nn : Int) (hi : insE ⟨4, p, nn⟩ = 0) :
    Calls Tryz.prog 92 #[.pointer (some ⟨bx, 0, none⟩), .agg #[.int .i64 4, .int .i64 p, .int .i64 nn]] w (DoP bx bm L m n (opD d (m.map (·.g)) ⟨4, p, nn⟩) w) := by
 have hundI := Tryz.underlying80
 have hszI : (Tryz.prog.info? 80).map (·.size) = some 3 := by kernel_rfl
 have hi0 := blkl_alloc w (ins3 ⟨4, p, nn⟩).toArray 80
 have hB0 := alloc_below w (.cells (ins3 ⟨4, p, nn⟩).toArray 80)
 have h0 := h.keep hB0
 have hbx := h.x.lt
 have hLw : L ≤ w.heap.size := by have := h.lx; omega
 replace hi0 : BlkL w.heap.size (ins3 ⟨4, p, nn⟩) (w.alloc (.cells #[.int .i64 4, .int .i64 p, .int .i64 nn] 80)) := hi0
 replace hB0 : Below w.heap.size w (w.alloc (.cells #[.int .i64 4, .int .i64 p, .int .i64 nn] 80)) := hB0
 replace h0 : XO bx bm L a cap m is s o y n d v (w.alloc (.cells #[.int .i64 4, .int .i64 p, .int .i64 nn] 80)) := h0
 go_enter Tryz.func92, Tryz.ntmps92
 go_upto_region 1 with fail
 generalize w.alloc (.cells #[.int .i64 4, .int .i64 p, .int .i64 nn] 80) = W0 at *
 have x0 := (hi0.1 0 _ rfl).1
 have hri := hi0.range
 have kme := cmem_any bx d v (rest3 bm 0 false) h.ok ⟨4, p, nn⟩ hi W0 h0.x
 have krd := fun (W : World) h1 h2 => cread_any bm bx a cap m h.mg d v [.int .i64 0, .bool false] (memP d ⟨4, p, nn⟩) (kn (m.map (·.g)) (memP d ⟨4, p, nn⟩).s) rfl (rdE d (m.map (·.g)) ⟨4, p, nn⟩) rfl W h1 h2
 have hsg : kn (m.map (·.g)) (memP d ⟨4, p, nn⟩).s = mSeg d (m.map (·.g)) ⟨4, p, nn⟩ := rfl
 have hw : wAt (mSeg d (m.map (·.g)) ⟨4, p, nn⟩) (memP d ⟨4, p, nn⟩).f = rdW d (m.map (·.g)) ⟨4, p, nn⟩ := rfl
 simp only [hsg] at krd
 simp only [hw] at krd
 clear hsg hw
 obtain ⟨E, hE⟩ : ∃ E, rdE d (m.map (·.g)) ⟨4, p, nn⟩ = E := ⟨_, rfl⟩
 obtain ⟨wd, hwd⟩ : ∃ wd, rdW d (m.map (·.g)) ⟨4, p, nn⟩ = wd := ⟨_, rfl⟩
 rw [hE, hwd] at krd
 replace hE : Aside (rdE d (m.map (·.g)) ⟨4, p, nn⟩ = E) := hE
 replace hwd : Aside (rdW d (m.map (·.g)) ⟨4, p, nn⟩ = wd) := hwd
 generalize (mSeg d (m.map (·.g)) ⟨4, p, nn⟩).rg = rg at *
 generalize memP d ⟨4, p, nn⟩ = q at *
 have heq : Aside (opD d (m.map (·.g)) ⟨4, p, nn⟩ = if E ≠ 0 then flt E else okC { d with a := arC 4 d.a wd }) := by
  show _ = _
  rw [← hE.out, ← hwd.out]
  rfl
 go_wp2_with (first | (refine wpList_load_row rfl _ rfl w.heap.size rfl (ins3 ⟨4, p, nn⟩) hri hundI rfl hszI ?_) | fail)
 refine kme.mono ?_
 rintro e W1 ⟨rfl, hb⟩
 have h1 := h0.keep hb
 have hB1 := Below.then hB0 hb
 have hi1 := stab_blk _ _ _ _ hi0 hb
 clear kme h0 hB0 hb hri x0 hi0
 go_wp2_with fail
 refine (krd W1 h1.at h1.x).mono ?_
 rintro e W2 ⟨rfl, hb⟩
 have h2 := h1.keep hb
 have hB2 := Below.then hB1 hb
 have hi2 := stab_blk _ _ _ _ hi1 hb
 clear krd h1 hB1 hb hi1
 by_cases hE0 : E = 0
 rotate_left
 ·rw [if_neg hE0]
  go_wp2_with fail
  refine diedC ?_
  rw [heq.out, if_pos hE0]
  exact .no hE0 rfl hB2
 rw [if_pos hE0]
 rw [if_neg (by simpa using hE0)] at heq
 clear hE0
 have hszR : (Tryz.prog.info? 33).map (·.size) = some 4 := by kernel_rfl
 obtain ⟨W4, hW4, hth4, -, hb4⟩ := put_new W2 (rg4 ⟨0, 0, 0, 0⟩).toArray 33 (rg4 rg) rfl (by show 0 < 4; decide)
 have h4 := h2.keep hb4
 have hB4 := Below.then hB2 hb4
 have hi4 := stab_blk _ _ _ _ hi2 hb4
 clear h2 hB2 hi2 hb4
 go_upto_region 19 with (first | (refine wpList_store_row rfl _ _ rfl W2.heap.size rfl (rg4 rg) rfl hth4 hszR (rg4_one _) hW4 ?_) | fail)
 have hdr := (Below.refl W4.heap.size W4).drew
 have h5 := h4.keep hdr
 have hB5 := Below.then hB4 hdr
 have hi5 := stab_blk _ _ _ _ hi4 hdr
 clear h4 hB4 hi4 hdr hW4 hth4
 refine wp_region_held_drew (S := (BlkL w.heap.size (ins3 ⟨4, p, nn⟩))) (by kernel_rfl) (by exact hi5) ?_
 intro hHeld
 generalize W4.drew = w0 at *
 refine tkA 0 ?_
 refine tkA 1 ?_
 refine tkB 2 (y := yields_cellI (by rfl) _ rfl ⟨w.heap.size, 0, none⟩ rfl (.int .i64 4) (fun _ s => (s.1 0 _ rfl).1) intI_load) (h := ?_)
 refine tkA 3 ?_
 refine tkA 4 ?_
 refine tkA 5 ?_
 refine tkA 6 ?_
 refine tkA 8 ?_
 refine tkR (rs := [7]) ?_
 refine tkC (fun K hK => ?_) AllReadyH.nil
 refine step_oneJ rfl _ rfl ⟨bx, 3, none⟩ rfl (.int .i64 d.a) h5.x.a int64_load ?_
 (try simp only [Act.put, zsA, zsB, zsC])
 refine hK.out _ _ (hi5) ?_
 clear hHeld hK
 intro hHeld
 (try simp only [Act.put, zsA, zsB, zsC])
 refine tkR (rs := [9]) ?_
 refine tkC (fun K hK => ?_) AllReadyH.nil
 go_simp
 go_at_call 118
 refine (creck_any 4 d.a wd (by decide) w0).mono ?_
 rintro e w1 ⟨rfl, hb⟩
 replace h5 := h5.keep hb
 replace hB5 := Below.then hB5 hb
 replace hi5 := stab_blk _ _ _ _ hi5 hb
 clear hb
 refine hK.out _ _ (hi5) ?_
 clear hHeld hK
 intro hHeld
 (try simp only [Act.put, zsA, zsB, zsC])
 refine tkA 10 ?_
 refine tkA 11 ?_
 refine tkA 12 ?_
 refine tkR (rs := [13]) ?_
 refine tkC (fun K hK => ?_) AllReadyH.nil
 have hX6 := h5.x.setA (arC 4 d.a wd)
 have hO6 := own_set h5.own h5.vx 3 (.int .i64 (arC 4 d.a wd))
 have hB6 := (hB5.mono hLw).setCell (p := ⟨bx, 3, none⟩) h.lx (.int .i64 (arC 4 d.a wd))
 have hi6 := far_blk hi5 (show bx ≠ w.heap.size by omega) 3 (.int .i64 (arC 4 d.a wd))
 refine step_st rfl _ _ rfl ⟨bx, 3, none⟩ rfl (.int .i64 (arC 4 d.a wd)) rfl (int64_store _ _ _ _ h5.x.a (h5.x.free (by decide))) ?_
 (try simp only [Act.put, zsA, zsB, zsC])
 refine hK.out _ _ (hi6) ?_
 clear hHeld hK
 intro hHeld
 (try simp only [Act.put, zsA, zsB, zsC])
 refine wpAnyH_done (by kernel_rfl) ?_ _
 go_wp2_with fail
 refine bodyPost_end (v := .tuple #[]) (by simp [results, Tryz.results92, go_sem]) rfl ?_
 rw [heq.out]
 exact .ok v _ hX6 hO6 hB6
set_option maxRecDepth 8000 in
set_option maxHeartbeats 4000000 in
theorem cdo5 {bx bm L : Nat} {a : Option Addr} {cap : Nat} {m : List PG} {is : Bool} {s o y n : Int} {d : Cp} {v : Value} {w : World} (h : XO bx bm L a cap m is s o y n d v w) (p nn : Int) (hi : insE ⟨5, p, nn⟩ = 0) :
    Calls Tryz.prog 92 #[.pointer (some ⟨bx, 0, none⟩), .agg #[.int .i64 5, .int .i64 p, .int .i64 nn]] w (DoP bx bm L m n (opD d (m.map (·.g)) ⟨5, p, nn⟩) w) := by
 have hundI := Tryz.underlying80
 have hszI : (Tryz.prog.info? 80).map (·.size) = some 3 := by kernel_rfl
 have hi0 := blkl_alloc w (ins3 ⟨5, p, nn⟩).toArray 80
 have hB0 := alloc_below w (.cells (ins3 ⟨5, p, nn⟩).toArray 80)
 have h0 := h.keep hB0
 have hbx := h.x.lt
 have hLw : L ≤ w.heap.size := by have := h.lx; omega
 replace hi0 : BlkL w.heap.size (ins3 ⟨5, p, nn⟩) (w.alloc (.cells #[.int .i64 5, .int .i64 p, .int .i64 nn] 80)) := hi0
 replace hB0 : Below w.heap.size w (w.alloc (.cells #[.int .i64 5, .int .i64 p, .int .i64 nn] 80)) := hB0
 replace h0 : XO bx bm L a cap m is s o y n d v (w.alloc (.cells #[.int .i64 5, .int .i64 p, .int .i64 nn] 80)) := h0
 go_enter Tryz.func92, Tryz.ntmps92
 go_upto_region 1 with fail
 generalize w.alloc (.cells #[.int .i64 5, .int .i64 p, .int .i64 nn] 80) = W0 at *
 have x0 := (hi0.1 0 _ rfl).1
 have hri := hi0.range
 have kme := cmem_any bx d v (rest3 bm 0 false) h.ok ⟨5, p, nn⟩ hi W0 h0.x
 have krd := fun (W : World) h1 h2 => cread_any bm bx a cap m h.mg d v [.int .i64 0, .bool false] (memP d ⟨5, p, nn⟩) (kn (m.map (·.g)) (memP d ⟨5, p, nn⟩).s) rfl (rdE d (m.map (·.g)) ⟨5, p, nn⟩) rfl W h1 h2
 have hsg : kn (m.map (·.g)) (memP d ⟨5, p, nn⟩).s = mSeg d (m.map (·.g)) ⟨5, p, nn⟩ := rfl
 have hw : wAt (mSeg d (m.map (·.g)) ⟨5, p, nn⟩) (memP d ⟨5, p, nn⟩).f = rdW d (m.map (·.g)) ⟨5, p, nn⟩ := rfl
 simp only [hsg] at krd
 simp only [hw] at krd
 clear hsg hw
 obtain ⟨E, hE⟩ : ∃ E, rdE d (m.map (·.g)) ⟨5, p, nn⟩ = E := ⟨_, rfl⟩
 obtain ⟨wd, hwd⟩ : ∃ wd, rdW d (m.map (·.g)) ⟨5, p, nn⟩ = wd := ⟨_, rfl⟩
 rw [hE, hwd] at krd
 replace hE : Aside (rdE d (m.map (·.g)) ⟨5, p, nn⟩ = E) := hE
 replace hwd : Aside (rdW d (m.map (·.g)) ⟨5, p, nn⟩ = wd) := hwd
 generalize (mSeg d (m.map (·.g)) ⟨5, p, nn⟩).rg = rg at *
 generalize memP d ⟨5, p, nn⟩ = q at *
 have heq : Aside (opD d (m.map (·.g)) ⟨5, p, nn⟩ = if E ≠ 0 then flt E else okC { d with a := arC 5 d.a wd }) := by
  show _ = _
  rw [← hE.out, ← hwd.out]
  rfl
 go_wp2_with (first | (refine wpList_load_row rfl _ rfl w.heap.size rfl (ins3 ⟨5, p, nn⟩) hri hundI rfl hszI ?_) | fail)
 refine kme.mono ?_
 rintro e W1 ⟨rfl, hb⟩
 have h1 := h0.keep hb
 have hB1 := Below.then hB0 hb
 have hi1 := stab_blk _ _ _ _ hi0 hb
 clear kme h0 hB0 hb hri x0 hi0
 go_wp2_with fail
 refine (krd W1 h1.at h1.x).mono ?_
 rintro e W2 ⟨rfl, hb⟩
 have h2 := h1.keep hb
 have hB2 := Below.then hB1 hb
 have hi2 := stab_blk _ _ _ _ hi1 hb
 clear krd h1 hB1 hb hi1
 by_cases hE0 : E = 0
 rotate_left
 ·rw [if_neg hE0]
  go_wp2_with fail
  refine diedC ?_
  rw [heq.out, if_pos hE0]
  exact .no hE0 rfl hB2
 rw [if_pos hE0]
 rw [if_neg (by simpa using hE0)] at heq
 clear hE0
 have hszR : (Tryz.prog.info? 33).map (·.size) = some 4 := by kernel_rfl
 obtain ⟨W4, hW4, hth4, -, hb4⟩ := put_new W2 (rg4 ⟨0, 0, 0, 0⟩).toArray 33 (rg4 rg) rfl (by show 0 < 4; decide)
 have h4 := h2.keep hb4
 have hB4 := Below.then hB2 hb4
 have hi4 := stab_blk _ _ _ _ hi2 hb4
 clear h2 hB2 hi2 hb4
 go_upto_region 19 with (first | (refine wpList_store_row rfl _ _ rfl W2.heap.size rfl (rg4 rg) rfl hth4 hszR (rg4_one _) hW4 ?_) | fail)
 have hdr := (Below.refl W4.heap.size W4).drew
 have h5 := h4.keep hdr
 have hB5 := Below.then hB4 hdr
 have hi5 := stab_blk _ _ _ _ hi4 hdr
 clear h4 hB4 hi4 hdr hW4 hth4
 refine wp_region_held_drew (S := (BlkL w.heap.size (ins3 ⟨5, p, nn⟩))) (by kernel_rfl) (by exact hi5) ?_
 intro hHeld
 generalize W4.drew = w0 at *
 refine tkA 0 ?_
 refine tkA 1 ?_
 refine tkB 2 (y := yields_cellI (by rfl) _ rfl ⟨w.heap.size, 0, none⟩ rfl (.int .i64 5) (fun _ s => (s.1 0 _ rfl).1) intI_load) (h := ?_)
 refine tkA 3 ?_
 refine tkA 4 ?_
 refine tkA 5 ?_
 refine tkA 6 ?_
 refine tkA 8 ?_
 refine tkR (rs := [7]) ?_
 refine tkC (fun K hK => ?_) AllReadyH.nil
 refine step_oneJ rfl _ rfl ⟨bx, 3, none⟩ rfl (.int .i64 d.a) h5.x.a int64_load ?_
 (try simp only [Act.put, zsA, zsB, zsC])
 refine hK.out _ _ (hi5) ?_
 clear hHeld hK
 intro hHeld
 (try simp only [Act.put, zsA, zsB, zsC])
 refine tkR (rs := [9]) ?_
 refine tkC (fun K hK => ?_) AllReadyH.nil
 go_simp
 go_at_call 118
 refine (creck_any 5 d.a wd (by decide) w0).mono ?_
 rintro e w1 ⟨rfl, hb⟩
 replace h5 := h5.keep hb
 replace hB5 := Below.then hB5 hb
 replace hi5 := stab_blk _ _ _ _ hi5 hb
 clear hb
 refine hK.out _ _ (hi5) ?_
 clear hHeld hK
 intro hHeld
 (try simp only [Act.put, zsA, zsB, zsC])
 refine tkA 10 ?_
 refine tkA 11 ?_
 refine tkA 12 ?_
 refine tkR (rs := [13]) ?_
 refine tkC (fun K hK => ?_) AllReadyH.nil
 have hX6 := h5.x.setA (arC 5 d.a wd)
 have hO6 := own_set h5.own h5.vx 3 (.int .i64 (arC 5 d.a wd))
 have hB6 := (hB5.mono hLw).setCell (p := ⟨bx, 3, none⟩) h.lx (.int .i64 (arC 5 d.a wd))
 have hi6 := far_blk hi5 (show bx ≠ w.heap.size by omega) 3 (.int .i64 (arC 5 d.a wd))
 refine step_st rfl _ _ rfl ⟨bx, 3, none⟩ rfl (.int .i64 (arC 5 d.a wd)) rfl (int64_store _ _ _ _ h5.x.a (h5.x.free (by decide))) ?_
 (try simp only [Act.put, zsA, zsB, zsC])
 refine hK.out _ _ (hi6) ?_
 clear hHeld hK
 intro hHeld
 (try simp only [Act.put, zsA, zsB, zsC])
 refine wpAnyH_done (by kernel_rfl) ?_ _
 go_wp2_with fail
 refine bodyPost_end (v := .tuple #[]) (by simp [results, Tryz.results92, go_sem]) rfl ?_
 rw [heq.out]
 exact .ok v _ hX6 hO6 hB6
set_option maxRecDepth 8000 in
set_option maxHeartbeats 4000000 in
theorem cdo6 {bx bm L : Nat} {a : Option Addr} {cap : Nat} {m : List PG} {is : Bool} {s o y n : Int} {d : Cp} {v : Value} {w : World} (h : XO bx bm L a cap m is s o y n d v w) (p nn : Int) (hi : insE ⟨6, p, nn⟩ = 0) :
    Calls Tryz.prog 92 #[.pointer (some ⟨bx, 0, none⟩), .agg #[.int .i64 6, .int .i64 p, .int .i64 nn]] w (DoP bx bm L m n (opD d (m.map (·.g)) ⟨6, p, nn⟩) w) := by
 have hundI := Tryz.underlying80
 have hszI : (Tryz.prog.info? 80).map (·.size) = some 3 := by kernel_rfl
 have hi0 := blkl_alloc w (ins3 ⟨6, p, nn⟩).toArray 80
 have hB0 := alloc_below w (.cells (ins3 ⟨6, p, nn⟩).toArray 80)
 have h0 := h.keep hB0
 have hbx := h.x.lt
 have hLw : L ≤ w.heap.size := by have := h.lx; omega
 replace hi0 : BlkL w.heap.size (ins3 ⟨6, p, nn⟩) (w.alloc (.cells #[.int .i64 6, .int .i64 p, .int .i64 nn] 80)) := hi0
 replace hB0 : Below w.heap.size w (w.alloc (.cells #[.int .i64 6, .int .i64 p, .int .i64 nn] 80)) := hB0
 replace h0 : XO bx bm L a cap m is s o y n d v (w.alloc (.cells #[.int .i64 6, .int .i64 p, .int .i64 nn] 80)) := h0
 go_enter Tryz.func92, Tryz.ntmps92
 go_upto_region 1 with fail
 generalize w.alloc (.cells #[.int .i64 6, .int .i64 p, .int .i64 nn] 80) = W0 at *
 have x0 := (hi0.1 0 _ rfl).1
 have hri := hi0.range
 have kme := cmem_any bx d v (rest3 bm 0 false) h.ok ⟨6, p, nn⟩ hi W0 h0.x
 have krd := fun (W : World) h1 h2 => cread_any bm bx a cap m h.mg d v [.int .i64 0, .bool false] (memP d ⟨6, p, nn⟩) (kn (m.map (·.g)) (memP d ⟨6, p, nn⟩).s) rfl (rdE d (m.map (·.g)) ⟨6, p, nn⟩) rfl W h1 h2
 have hsg : kn (m.map (·.g)) (memP d ⟨6, p, nn⟩).s = mSeg d (m.map (·.g)) ⟨6, p, nn⟩ := rfl
 have hw : wAt (mSeg d (m.map (·.g)) ⟨6, p, nn⟩) (memP d ⟨6, p, nn⟩).f = rdW d (m.map (·.g)) ⟨6, p, nn⟩ := rfl
 simp only [hsg] at krd
 simp only [hw] at krd
 clear hsg hw
 obtain ⟨E, hE⟩ : ∃ E, rdE d (m.map (·.g)) ⟨6, p, nn⟩ = E := ⟨_, rfl⟩
 obtain ⟨wd, hwd⟩ : ∃ wd, rdW d (m.map (·.g)) ⟨6, p, nn⟩ = wd := ⟨_, rfl⟩
 rw [hE, hwd] at krd
 replace hE : Aside (rdE d (m.map (·.g)) ⟨6, p, nn⟩ = E) := hE
 replace hwd : Aside (rdW d (m.map (·.g)) ⟨6, p, nn⟩ = wd) := hwd
 generalize (mSeg d (m.map (·.g)) ⟨6, p, nn⟩).rg = rg at *
 generalize memP d ⟨6, p, nn⟩ = q at *
 have heq : Aside (opD d (m.map (·.g)) ⟨6, p, nn⟩ = if E ≠ 0 then flt E else okC { d with a := arC 6 d.a wd }) := by
  show _ = _
  rw [← hE.out, ← hwd.out]
  rfl
 go_wp2_with (first | (refine wpList_load_row rfl _ rfl w.heap.size rfl (ins3 ⟨6, p, nn⟩) hri hundI rfl hszI ?_) | fail)
 refine kme.mono ?_
 rintro e W1 ⟨rfl, hb⟩
 have h1 := h0.keep hb
 have hB1 := Below.then hB0 hb
 have hi1 := stab_blk _ _ _ _ hi0 hb
 clear kme h0 hB0 hb hri x0 hi0
 go_wp2_with fail
 refine (krd W1 h1.at h1.x).mono ?_
 rintro e W2 ⟨rfl, hb⟩
 have h2 := h1.keep hb
 have hB2 := Below.then hB1 hb
 have hi2 := stab_blk _ _ _ _ hi1 hb
 clear krd h1 hB1 hb hi1
 by_cases hE0 : E = 0
 rotate_left
 ·rw [if_neg hE0]
  go_wp2_with fail
  refine diedC ?_
  rw [heq.out, if_pos hE0]
  exact .no hE0 rfl hB2
 rw [if_pos hE0]
 rw [if_neg (by simpa using hE0)] at heq
 clear hE0
 have hszR : (Tryz.prog.info? 33).map (·.size) = some 4 := by kernel_rfl
 obtain ⟨W4, hW4, hth4, -, hb4⟩ := put_new W2 (rg4 ⟨0, 0, 0, 0⟩).toArray 33 (rg4 rg) rfl (by show 0 < 4; decide)
 have h4 := h2.keep hb4
 have hB4 := Below.then hB2 hb4
 have hi4 := stab_blk _ _ _ _ hi2 hb4
 clear h2 hB2 hi2 hb4
 go_upto_region 19 with (first | (refine wpList_store_row rfl _ _ rfl W2.heap.size rfl (rg4 rg) rfl hth4 hszR (rg4_one _) hW4 ?_) | fail)
 have hdr := (Below.refl W4.heap.size W4).drew
 have h5 := h4.keep hdr
 have hB5 := Below.then hB4 hdr
 have hi5 := stab_blk _ _ _ _ hi4 hdr
 clear h4 hB4 hi4 hdr hW4 hth4
 refine wp_region_held_drew (S := (BlkL w.heap.size (ins3 ⟨6, p, nn⟩))) (by kernel_rfl) (by exact hi5) ?_
 intro hHeld
 generalize W4.drew = w0 at *
 refine tkA 0 ?_
 refine tkA 1 ?_
 refine tkB 2 (y := yields_cellI (by rfl) _ rfl ⟨w.heap.size, 0, none⟩ rfl (.int .i64 6) (fun _ s => (s.1 0 _ rfl).1) intI_load) (h := ?_)
 refine tkA 3 ?_
 refine tkA 4 ?_
 refine tkA 5 ?_
 refine tkA 6 ?_
 refine tkA 8 ?_
 refine tkR (rs := [7]) ?_
 refine tkC (fun K hK => ?_) AllReadyH.nil
 refine step_oneJ rfl _ rfl ⟨bx, 3, none⟩ rfl (.int .i64 d.a) h5.x.a int64_load ?_
 (try simp only [Act.put, zsA, zsB, zsC])
 refine hK.out _ _ (hi5) ?_
 clear hHeld hK
 intro hHeld
 (try simp only [Act.put, zsA, zsB, zsC])
 refine tkR (rs := [9]) ?_
 refine tkC (fun K hK => ?_) AllReadyH.nil
 go_simp
 go_at_call 118
 refine (creck_any 6 d.a wd (by decide) w0).mono ?_
 rintro e w1 ⟨rfl, hb⟩
 replace h5 := h5.keep hb
 replace hB5 := Below.then hB5 hb
 replace hi5 := stab_blk _ _ _ _ hi5 hb
 clear hb
 refine hK.out _ _ (hi5) ?_
 clear hHeld hK
 intro hHeld
 (try simp only [Act.put, zsA, zsB, zsC])
 refine tkA 10 ?_
 refine tkA 11 ?_
 refine tkA 12 ?_
 refine tkR (rs := [13]) ?_
 refine tkC (fun K hK => ?_) AllReadyH.nil
 have hX6 := h5.x.setA (arC 6 d.a wd)
 have hO6 := own_set h5.own h5.vx 3 (.int .i64 (arC 6 d.a wd))
 have hB6 := (hB5.mono hLw).setCell (p := ⟨bx, 3, none⟩) h.lx (.int .i64 (arC 6 d.a wd))
 have hi6 := far_blk hi5 (show bx ≠ w.heap.size by omega) 3 (.int .i64 (arC 6 d.a wd))
 refine step_st rfl _ _ rfl ⟨bx, 3, none⟩ rfl (.int .i64 (arC 6 d.a wd)) rfl (int64_store _ _ _ _ h5.x.a (h5.x.free (by decide))) ?_
 (try simp only [Act.put, zsA, zsB, zsC])
 refine hK.out _ _ (hi6) ?_
 clear hHeld hK
 intro hHeld
 (try simp only [Act.put, zsA, zsB, zsC])
 refine wpAnyH_done (by kernel_rfl) ?_ _
 go_wp2_with fail
 refine bodyPost_end (v := .tuple #[]) (by simp [results, Tryz.results92, go_sem]) rfl ?_
 rw [heq.out]
 exact .ok v _ hX6 hO6 hB6
set_option maxRecDepth 8000 in
set_option maxHeartbeats 4000000 in
theorem cdo7 {bx bm L : Nat} {a : Option Addr} {cap : Nat} {m : List PG} {is : Bool} {s o y n : Int} {d : Cp} {v : Value} {w : World} (h : XO bx bm L a cap m is s o y n d v w) (p nn : Int) (hi : insE ⟨7, p, nn⟩ = 0) :
    Calls Tryz.prog 92 #[.pointer (some ⟨bx, 0, none⟩), .agg #[.int .i64 7, .int .i64 p, .int .i64 nn]] w (DoP bx bm L m n (opD d (m.map (·.g)) ⟨7, p, nn⟩) w) := by
 have hundI := Tryz.underlying80
 have hszI : (Tryz.prog.info? 80).map (·.size) = some 3 := by kernel_rfl
 have hi0 := blkl_alloc w (ins3 ⟨7, p, nn⟩).toArray 80
 have hB0 := alloc_below w (.cells (ins3 ⟨7, p, nn⟩).toArray 80)
 have h0 := h.keep hB0
 have hbx := h.x.lt
 have hLw : L ≤ w.heap.size := by have := h.lx; omega
 replace hi0 : BlkL w.heap.size (ins3 ⟨7, p, nn⟩) (w.alloc (.cells #[.int .i64 7, .int .i64 p, .int .i64 nn] 80)) := hi0
 replace hB0 : Below w.heap.size w (w.alloc (.cells #[.int .i64 7, .int .i64 p, .int .i64 nn] 80)) := hB0
 replace h0 : XO bx bm L a cap m is s o y n d v (w.alloc (.cells #[.int .i64 7, .int .i64 p, .int .i64 nn] 80)) := h0
 go_enter Tryz.func92, Tryz.ntmps92
 go_upto_region 1 with fail
 generalize w.alloc (.cells #[.int .i64 7, .int .i64 p, .int .i64 nn] 80) = W0 at *
 have x0 := (hi0.1 0 _ rfl).1
 have hri := hi0.range
 have kme := cmem_any bx d v (rest3 bm 0 false) h.ok ⟨7, p, nn⟩ hi W0 h0.x
 have krd := fun (W : World) h1 h2 => cread_any bm bx a cap m h.mg d v [.int .i64 0, .bool false] (memP d ⟨7, p, nn⟩) (kn (m.map (·.g)) (memP d ⟨7, p, nn⟩).s) rfl (rdE d (m.map (·.g)) ⟨7, p, nn⟩) rfl W h1 h2
 have hsg : kn (m.map (·.g)) (memP d ⟨7, p, nn⟩).s = mSeg d (m.map (·.g)) ⟨7, p, nn⟩ := rfl
 have hw : wAt (mSeg d (m.map (·.g)) ⟨7, p, nn⟩) (memP d ⟨7, p, nn⟩).f = rdW d (m.map (·.g)) ⟨7, p, nn⟩ := rfl
 simp only [hsg] at krd
 simp only [hw] at krd
 clear hsg hw
 obtain ⟨E, hE⟩ : ∃ E, rdE d (m.map (·.g)) ⟨7, p, nn⟩ = E := ⟨_, rfl⟩
 obtain ⟨wd, hwd⟩ : ∃ wd, rdW d (m.map (·.g)) ⟨7, p, nn⟩ = wd := ⟨_, rfl⟩
 rw [hE, hwd] at krd
 replace hE : Aside (rdE d (m.map (·.g)) ⟨7, p, nn⟩ = E) := hE
 replace hwd : Aside (rdW d (m.map (·.g)) ⟨7, p, nn⟩ = wd) := hwd
 generalize (mSeg d (m.map (·.g)) ⟨7, p, nn⟩).rg = rg at *
 generalize memP d ⟨7, p, nn⟩ = q at *
 have heq : Aside (opD d (m.map (·.g)) ⟨7, p, nn⟩ = if E ≠ 0 then flt E else okC { d with a := arC 7 d.a wd }) := by
  show _ = _
  rw [← hE.out, ← hwd.out]
  rfl
 go_wp2_with (first | (refine wpList_load_row rfl _ rfl w.heap.size rfl (ins3 ⟨7, p, nn⟩) hri hundI rfl hszI ?_) | fail)
 refine kme.mono ?_
 rintro e W1 ⟨rfl, hb⟩
 have h1 := h0.keep hb
 have hB1 := Below.then hB0 hb
 have hi1 := stab_blk _ _ _ _ hi0 hb
 clear kme h0 hB0 hb hri x0 hi0
 go_wp2_with fail
 refine (krd W1 h1.at h1.x).mono ?_
 rintro e W2 ⟨rfl, hb⟩
 have h2 := h1.keep hb
 have hB2 := Below.then hB1 hb
 have hi2 := stab_blk _ _ _ _ hi1 hb
 clear krd h1 hB1 hb hi1
 by_cases hE0 : E = 0
 rotate_left
 ·rw [if_neg hE0]
  go_wp2_with fail
  refine diedC ?_
  rw [heq.out, if_pos hE0]
  exact .no hE0 rfl hB2
 rw [if_pos hE0]
 rw [if_neg (by simpa using hE0)] at heq
 clear hE0
 have hszR : (Tryz.prog.info? 33).map (·.size) = some 4 := by kernel_rfl
 obtain ⟨W4, hW4, hth4, -, hb4⟩ := put_new W2 (rg4 ⟨0, 0, 0, 0⟩).toArray 33 (rg4 rg) rfl (by show 0 < 4; decide)
 have h4 := h2.keep hb4
 have hB4 := Below.then hB2 hb4
 have hi4 := stab_blk _ _ _ _ hi2 hb4
 clear h2 hB2 hi2 hb4
 go_upto_region 19 with (first | (refine wpList_store_row rfl _ _ rfl W2.heap.size rfl (rg4 rg) rfl hth4 hszR (rg4_one _) hW4 ?_) | fail)
 have hdr := (Below.refl W4.heap.size W4).drew
 have h5 := h4.keep hdr
 have hB5 := Below.then hB4 hdr
 have hi5 := stab_blk _ _ _ _ hi4 hdr
 clear h4 hB4 hi4 hdr hW4 hth4
 refine wp_region_held_drew (S := (BlkL w.heap.size (ins3 ⟨7, p, nn⟩))) (by kernel_rfl) (by exact hi5) ?_
 intro hHeld
 generalize W4.drew = w0 at *
 refine tkA 0 ?_
 refine tkA 1 ?_
 refine tkB 2 (y := yields_cellI (by rfl) _ rfl ⟨w.heap.size, 0, none⟩ rfl (.int .i64 7) (fun _ s => (s.1 0 _ rfl).1) intI_load) (h := ?_)
 refine tkA 3 ?_
 refine tkA 4 ?_
 refine tkA 5 ?_
 refine tkA 6 ?_
 refine tkA 8 ?_
 refine tkR (rs := [7]) ?_
 refine tkC (fun K hK => ?_) AllReadyH.nil
 refine step_oneJ rfl _ rfl ⟨bx, 3, none⟩ rfl (.int .i64 d.a) h5.x.a int64_load ?_
 (try simp only [Act.put, zsA, zsB, zsC])
 refine hK.out _ _ (hi5) ?_
 clear hHeld hK
 intro hHeld
 (try simp only [Act.put, zsA, zsB, zsC])
 refine tkR (rs := [9]) ?_
 refine tkC (fun K hK => ?_) AllReadyH.nil
 go_simp
 go_at_call 118
 refine (creck_any 7 d.a wd (by decide) w0).mono ?_
 rintro e w1 ⟨rfl, hb⟩
 replace h5 := h5.keep hb
 replace hB5 := Below.then hB5 hb
 replace hi5 := stab_blk _ _ _ _ hi5 hb
 clear hb
 refine hK.out _ _ (hi5) ?_
 clear hHeld hK
 intro hHeld
 (try simp only [Act.put, zsA, zsB, zsC])
 refine tkA 10 ?_
 refine tkA 11 ?_
 refine tkA 12 ?_
 refine tkR (rs := [13]) ?_
 refine tkC (fun K hK => ?_) AllReadyH.nil
 have hX6 := h5.x.setA (arC 7 d.a wd)
 have hO6 := own_set h5.own h5.vx 3 (.int .i64 (arC 7 d.a wd))
 have hB6 := (hB5.mono hLw).setCell (p := ⟨bx, 3, none⟩) h.lx (.int .i64 (arC 7 d.a wd))
 have hi6 := far_blk hi5 (show bx ≠ w.heap.size by omega) 3 (.int .i64 (arC 7 d.a wd))
 refine step_st rfl _ _ rfl ⟨bx, 3, none⟩ rfl (.int .i64 (arC 7 d.a wd)) rfl (int64_store _ _ _ _ h5.x.a (h5.x.free (by decide))) ?_
 (try simp only [Act.put, zsA, zsB, zsC])
 refine hK.out _ _ (hi6) ?_
 clear hHeld hK
 intro hHeld
 (try simp only [Act.put, zsA, zsB, zsC])
 refine wpAnyH_done (by kernel_rfl) ?_ _
 go_wp2_with fail
 refine bodyPost_end (v := .tuple #[]) (by simp [results, Tryz.results92, go_sem]) rfl ?_
 rw [heq.out]
 exact .ok v _ hX6 hO6 hB6
set_option maxRecDepth 8000 in
set_option maxHeartbeats 4000000 in
theorem cdo8 {bx bm L : Nat} {a : Option Addr} {cap : Nat} {m : List PG} {is : Bool} {s o y n : Int} {d : Cp} {v : Value} {w : World} (h : XO bx bm L a cap m is s o y n d v w) (p nn : Int) (hi : insE ⟨8, p, nn⟩ = 0) :
    Calls Tryz.prog 92 #[.pointer (some ⟨bx, 0, none⟩), .agg #[.int .i64 8, .int .i64 p, .int .i64 nn]] w (DoP bx bm L m n (opD d (m.map (·.g)) ⟨8, p, nn⟩) w) := by
 have hundI := Tryz.underlying80
 have hszI : (Tryz.prog.info? 80).map (·.size) = some 3 := by kernel_rfl
 have hi0 := blkl_alloc w (ins3 ⟨8, p, nn⟩).toArray 80
 have hB0 := alloc_below w (.cells (ins3 ⟨8, p, nn⟩).toArray 80)
 have h0 := h.keep hB0
 have hbx := h.x.lt
 have hLw : L ≤ w.heap.size := by have := h.lx; omega
 replace hi0 : BlkL w.heap.size (ins3 ⟨8, p, nn⟩) (w.alloc (.cells #[.int .i64 8, .int .i64 p, .int .i64 nn] 80)) := hi0
 replace hB0 : Below w.heap.size w (w.alloc (.cells #[.int .i64 8, .int .i64 p, .int .i64 nn] 80)) := hB0
 replace h0 : XO bx bm L a cap m is s o y n d v (w.alloc (.cells #[.int .i64 8, .int .i64 p, .int .i64 nn] 80)) := h0
 go_enter Tryz.func92, Tryz.ntmps92
 go_upto_region 1 with fail
 generalize w.alloc (.cells #[.int .i64 8, .int .i64 p, .int .i64 nn] 80) = W0 at *
 have x0 := (hi0.1 0 _ rfl).1
 have hri := hi0.range
 have kme := cmem_any bx d v (rest3 bm 0 false) h.ok ⟨8, p, nn⟩ hi W0 h0.x
 have krd := fun (W : World) h1 h2 => cread_any bm bx a cap m h.mg d v [.int .i64 0, .bool false] (memP d ⟨8, p, nn⟩) (kn (m.map (·.g)) (memP d ⟨8, p, nn⟩).s) rfl (rdE d (m.map (·.g)) ⟨8, p, nn⟩) rfl W h1 h2
 have hsg : kn (m.map (·.g)) (memP d ⟨8, p, nn⟩).s = mSeg d (m.map (·.g)) ⟨8, p, nn⟩ := rfl
 have hw : wAt (mSeg d (m.map (·.g)) ⟨8, p, nn⟩) (memP d ⟨8, p, nn⟩).f = rdW d (m.map (·.g)) ⟨8, p, nn⟩ := rfl
 simp only [hsg] at krd
 simp only [hw] at krd
 clear hsg hw
 obtain ⟨E, hE⟩ : ∃ E, rdE d (m.map (·.g)) ⟨8, p, nn⟩ = E := ⟨_, rfl⟩
 obtain ⟨wd, hwd⟩ : ∃ wd, rdW d (m.map (·.g)) ⟨8, p, nn⟩ = wd := ⟨_, rfl⟩
 rw [hE, hwd] at krd
 replace hE : Aside (rdE d (m.map (·.g)) ⟨8, p, nn⟩ = E) := hE
 replace hwd : Aside (rdW d (m.map (·.g)) ⟨8, p, nn⟩ = wd) := hwd
 generalize (mSeg d (m.map (·.g)) ⟨8, p, nn⟩).rg = rg at *
 generalize memP d ⟨8, p, nn⟩ = q at *
 have heq : Aside (opD d (m.map (·.g)) ⟨8, p, nn⟩ = if E ≠ 0 then flt E else okC { d with a := arC 8 d.a wd }) := by
  show _ = _
  rw [← hE.out, ← hwd.out]
  rfl
 go_wp2_with (first | (refine wpList_load_row rfl _ rfl w.heap.size rfl (ins3 ⟨8, p, nn⟩) hri hundI rfl hszI ?_) | fail)
 refine kme.mono ?_
 rintro e W1 ⟨rfl, hb⟩
 have h1 := h0.keep hb
 have hB1 := Below.then hB0 hb
 have hi1 := stab_blk _ _ _ _ hi0 hb
 clear kme h0 hB0 hb hri x0 hi0
 go_wp2_with fail
 refine (krd W1 h1.at h1.x).mono ?_
 rintro e W2 ⟨rfl, hb⟩
 have h2 := h1.keep hb
 have hB2 := Below.then hB1 hb
 have hi2 := stab_blk _ _ _ _ hi1 hb
 clear krd h1 hB1 hb hi1
 by_cases hE0 : E = 0
 rotate_left
 ·rw [if_neg hE0]
  go_wp2_with fail
  refine diedC ?_
  rw [heq.out, if_pos hE0]
  exact .no hE0 rfl hB2
 rw [if_pos hE0]
 rw [if_neg (by simpa using hE0)] at heq
 clear hE0
 have hszR : (Tryz.prog.info? 33).map (·.size) = some 4 := by kernel_rfl
 obtain ⟨W4, hW4, hth4, -, hb4⟩ := put_new W2 (rg4 ⟨0, 0, 0, 0⟩).toArray 33 (rg4 rg) rfl (by show 0 < 4; decide)
 have h4 := h2.keep hb4
 have hB4 := Below.then hB2 hb4
 have hi4 := stab_blk _ _ _ _ hi2 hb4
 clear h2 hB2 hi2 hb4
 go_upto_region 19 with (first | (refine wpList_store_row rfl _ _ rfl W2.heap.size rfl (rg4 rg) rfl hth4 hszR (rg4_one _) hW4 ?_) | fail)
 have hdr := (Below.refl W4.heap.size W4).drew
 have h5 := h4.keep hdr
 have hB5 := Below.then hB4 hdr
 have hi5 := stab_blk _ _ _ _ hi4 hdr
 clear h4 hB4 hi4 hdr hW4 hth4
 refine wp_region_held_drew (S := (BlkL w.heap.size (ins3 ⟨8, p, nn⟩))) (by kernel_rfl) (by exact hi5) ?_
 intro hHeld
 generalize W4.drew = w0 at *
 refine tkA 0 ?_
 refine tkA 1 ?_
 refine tkB 2 (y := yields_cellI (by rfl) _ rfl ⟨w.heap.size, 0, none⟩ rfl (.int .i64 8) (fun _ s => (s.1 0 _ rfl).1) intI_load) (h := ?_)
 refine tkA 3 ?_
 refine tkA 4 ?_
 refine tkA 5 ?_
 refine tkA 6 ?_
 refine tkA 8 ?_
 refine tkR (rs := [7]) ?_
 refine tkC (fun K hK => ?_) AllReadyH.nil
 refine step_oneJ rfl _ rfl ⟨bx, 3, none⟩ rfl (.int .i64 d.a) h5.x.a int64_load ?_
 (try simp only [Act.put, zsA, zsB, zsC])
 refine hK.out _ _ (hi5) ?_
 clear hHeld hK
 intro hHeld
 (try simp only [Act.put, zsA, zsB, zsC])
 refine tkR (rs := [9]) ?_
 refine tkC (fun K hK => ?_) AllReadyH.nil
 go_simp
 go_at_call 118
 refine (creck_any 8 d.a wd (by decide) w0).mono ?_
 rintro e w1 ⟨rfl, hb⟩
 replace h5 := h5.keep hb
 replace hB5 := Below.then hB5 hb
 replace hi5 := stab_blk _ _ _ _ hi5 hb
 clear hb
 refine hK.out _ _ (hi5) ?_
 clear hHeld hK
 intro hHeld
 (try simp only [Act.put, zsA, zsB, zsC])
 refine tkA 10 ?_
 refine tkA 11 ?_
 refine tkA 12 ?_
 refine tkR (rs := [13]) ?_
 refine tkC (fun K hK => ?_) AllReadyH.nil
 have hX6 := h5.x.setA (arC 8 d.a wd)
 have hO6 := own_set h5.own h5.vx 3 (.int .i64 (arC 8 d.a wd))
 have hB6 := (hB5.mono hLw).setCell (p := ⟨bx, 3, none⟩) h.lx (.int .i64 (arC 8 d.a wd))
 have hi6 := far_blk hi5 (show bx ≠ w.heap.size by omega) 3 (.int .i64 (arC 8 d.a wd))
 refine step_st rfl _ _ rfl ⟨bx, 3, none⟩ rfl (.int .i64 (arC 8 d.a wd)) rfl (int64_store _ _ _ _ h5.x.a (h5.x.free (by decide))) ?_
 (try simp only [Act.put, zsA, zsB, zsC])
 refine hK.out _ _ (hi6) ?_
 clear hHeld hK
 intro hHeld
 (try simp only [Act.put, zsA, zsB, zsC])
 refine wpAnyH_done (by kernel_rfl) ?_ _
 go_wp2_with fail
 refine bodyPost_end (v := .tuple #[]) (by simp [results, Tryz.results92, go_sem]) rfl ?_
 rw [heq.out]
 exact .ok v _ hX6 hO6 hB6
set_option maxRecDepth 8000 in
set_option maxHeartbeats 4000000 in
theorem cdo9 {bx bm L : Nat} {a : Option Addr} {cap : Nat} {m : List PG} {is : Bool} {s o y n : Int} {d : Cp} {v : Value} {w : World} (h : XO bx bm L a cap m is s o y n d v w) (p nn : Int) (hi : insE ⟨9, p, nn⟩ = 0) :
    Calls Tryz.prog 92 #[.pointer (some ⟨bx, 0, none⟩), .agg #[.int .i64 9, .int .i64 p, .int .i64 nn]] w (DoP bx bm L m n (opD d (m.map (·.g)) ⟨9, p, nn⟩) w) := by
 have hundI := Tryz.underlying80
 have hszI : (Tryz.prog.info? 80).map (·.size) = some 3 := by kernel_rfl
 have hi0 := blkl_alloc w (ins3 ⟨9, p, nn⟩).toArray 80
 have hB0 := alloc_below w (.cells (ins3 ⟨9, p, nn⟩).toArray 80)
 have h0 := h.keep hB0
 have hbx := h.x.lt
 have hLw : L ≤ w.heap.size := by have := h.lx; omega
 replace hi0 : BlkL w.heap.size (ins3 ⟨9, p, nn⟩) (w.alloc (.cells #[.int .i64 9, .int .i64 p, .int .i64 nn] 80)) := hi0
 replace hB0 : Below w.heap.size w (w.alloc (.cells #[.int .i64 9, .int .i64 p, .int .i64 nn] 80)) := hB0
 replace h0 : XO bx bm L a cap m is s o y n d v (w.alloc (.cells #[.int .i64 9, .int .i64 p, .int .i64 nn] 80)) := h0
 go_enter Tryz.func92, Tryz.ntmps92
 go_upto_region 1 with fail
 generalize w.alloc (.cells #[.int .i64 9, .int .i64 p, .int .i64 nn] 80) = W0 at *
 have x0 := (hi0.1 0 _ rfl).1
 have hri := hi0.range
 have kme := cmem_any bx d v (rest3 bm 0 false) h.ok ⟨9, p, nn⟩ hi W0 h0.x
 have krd := fun (W : World) h1 h2 => cread_any bm bx a cap m h.mg d v [.int .i64 0, .bool false] (memP d ⟨9, p, nn⟩) (kn (m.map (·.g)) (memP d ⟨9, p, nn⟩).s) rfl (rdE d (m.map (·.g)) ⟨9, p, nn⟩) rfl W h1 h2
 have hsg : kn (m.map (·.g)) (memP d ⟨9, p, nn⟩).s = mSeg d (m.map (·.g)) ⟨9, p, nn⟩ := rfl
 have hw : wAt (mSeg d (m.map (·.g)) ⟨9, p, nn⟩) (memP d ⟨9, p, nn⟩).f = rdW d (m.map (·.g)) ⟨9, p, nn⟩ := rfl
 simp only [hsg] at krd
 simp only [hw] at krd
 clear hsg hw
 obtain ⟨E, hE⟩ : ∃ E, rdE d (m.map (·.g)) ⟨9, p, nn⟩ = E := ⟨_, rfl⟩
 obtain ⟨wd, hwd⟩ : ∃ wd, rdW d (m.map (·.g)) ⟨9, p, nn⟩ = wd := ⟨_, rfl⟩
 rw [hE, hwd] at krd
 replace hE : Aside (rdE d (m.map (·.g)) ⟨9, p, nn⟩ = E) := hE
 replace hwd : Aside (rdW d (m.map (·.g)) ⟨9, p, nn⟩ = wd) := hwd
 generalize (mSeg d (m.map (·.g)) ⟨9, p, nn⟩).rg = rg at *
 generalize memP d ⟨9, p, nn⟩ = q at *
 have heq : Aside (opD d (m.map (·.g)) ⟨9, p, nn⟩ = if E ≠ 0 then flt E else okC { d with a := arC 9 d.a wd }) := by
  show _ = _
  rw [← hE.out, ← hwd.out]
  rfl
 go_wp2_with (first | (refine wpList_load_row rfl _ rfl w.heap.size rfl (ins3 ⟨9, p, nn⟩) hri hundI rfl hszI ?_) | fail)
 refine kme.mono ?_
 rintro e W1 ⟨rfl, hb⟩
 have h1 := h0.keep hb
 have hB1 := Below.then hB0 hb
 have hi1 := stab_blk _ _ _ _ hi0 hb
 clear kme h0 hB0 hb hri x0 hi0
 go_wp2_with fail
 refine (krd W1 h1.at h1.x).mono ?_
 rintro e W2 ⟨rfl, hb⟩
 have h2 := h1.keep hb
 have hB2 := Below.then hB1 hb
 have hi2 := stab_blk _ _ _ _ hi1 hb
 clear krd h1 hB1 hb hi1
 by_cases hE0 : E = 0
 rotate_left
 ·rw [if_neg hE0]
  go_wp2_with fail
  refine diedC ?_
  rw [heq.out, if_pos hE0]
  exact .no hE0 rfl hB2
 rw [if_pos hE0]
 rw [if_neg (by simpa using hE0)] at heq
 clear hE0
 have hszR : (Tryz.prog.info? 33).map (·.size) = some 4 := by kernel_rfl
 obtain ⟨W4, hW4, hth4, -, hb4⟩ := put_new W2 (rg4 ⟨0, 0, 0, 0⟩).toArray 33 (rg4 rg) rfl (by show 0 < 4; decide)
 have h4 := h2.keep hb4
 have hB4 := Below.then hB2 hb4
 have hi4 := stab_blk _ _ _ _ hi2 hb4
 clear h2 hB2 hi2 hb4
 go_upto_region 19 with (first | (refine wpList_store_row rfl _ _ rfl W2.heap.size rfl (rg4 rg) rfl hth4 hszR (rg4_one _) hW4 ?_) | fail)
 have hdr := (Below.refl W4.heap.size W4).drew
 have h5 := h4.keep hdr
 have hB5 := Below.then hB4 hdr
 have hi5 := stab_blk _ _ _ _ hi4 hdr
 clear h4 hB4 hi4 hdr hW4 hth4
 refine wp_region_held_drew (S := (BlkL w.heap.size (ins3 ⟨9, p, nn⟩))) (by kernel_rfl) (by exact hi5) ?_
 intro hHeld
 generalize W4.drew = w0 at *
 refine tkA 0 ?_
 refine tkA 1 ?_
 refine tkB 2 (y := yields_cellI (by rfl) _ rfl ⟨w.heap.size, 0, none⟩ rfl (.int .i64 9) (fun _ s => (s.1 0 _ rfl).1) intI_load) (h := ?_)
 refine tkA 3 ?_
 refine tkA 4 ?_
 refine tkA 5 ?_
 refine tkA 6 ?_
 refine tkA 8 ?_
 refine tkR (rs := [7]) ?_
 refine tkC (fun K hK => ?_) AllReadyH.nil
 refine step_oneJ rfl _ rfl ⟨bx, 3, none⟩ rfl (.int .i64 d.a) h5.x.a int64_load ?_
 (try simp only [Act.put, zsA, zsB, zsC])
 refine hK.out _ _ (hi5) ?_
 clear hHeld hK
 intro hHeld
 (try simp only [Act.put, zsA, zsB, zsC])
 refine tkR (rs := [9]) ?_
 refine tkC (fun K hK => ?_) AllReadyH.nil
 go_simp
 go_at_call 118
 refine (creck_any 9 d.a wd (by decide) w0).mono ?_
 rintro e w1 ⟨rfl, hb⟩
 replace h5 := h5.keep hb
 replace hB5 := Below.then hB5 hb
 replace hi5 := stab_blk _ _ _ _ hi5 hb
 clear hb
 refine hK.out _ _ (hi5) ?_
 clear hHeld hK
 intro hHeld
 (try simp only [Act.put, zsA, zsB, zsC])
 refine tkA 10 ?_
 refine tkA 11 ?_
 refine tkA 12 ?_
 refine tkR (rs := [13]) ?_
 refine tkC (fun K hK => ?_) AllReadyH.nil
 have hX6 := h5.x.setA (arC 9 d.a wd)
 have hO6 := own_set h5.own h5.vx 3 (.int .i64 (arC 9 d.a wd))
 have hB6 := (hB5.mono hLw).setCell (p := ⟨bx, 3, none⟩) h.lx (.int .i64 (arC 9 d.a wd))
 have hi6 := far_blk hi5 (show bx ≠ w.heap.size by omega) 3 (.int .i64 (arC 9 d.a wd))
 refine step_st rfl _ _ rfl ⟨bx, 3, none⟩ rfl (.int .i64 (arC 9 d.a wd)) rfl (int64_store _ _ _ _ h5.x.a (h5.x.free (by decide))) ?_
 (try simp only [Act.put, zsA, zsB, zsC])
 refine hK.out _ _ (hi6) ?_
 clear hHeld hK
 intro hHeld
 (try simp only [Act.put, zsA, zsB, zsC])
 refine wpAnyH_done (by kernel_rfl) ?_ _
 go_wp2_with fail
 refine bodyPost_end (v := .tuple #[]) (by simp [results, Tryz.results92, go_sem]) rfl ?_
 rw [heq.out]
 exact .ok v _ hX6 hO6 hB6
set_option maxRecDepth 8000 in
set_option maxHeartbeats 4000000 in
theorem cdo10 {bx bm L : Nat} {a : Option Addr} {cap : Nat} {m : List PG} {is : Bool} {s o y n : Int} {d : Cp} {v : Value} {w : World} (h : XO bx bm L a cap m is s o y n d v w) (p nn : Int) (hi : insE ⟨10, p, nn⟩ = 0) :
    Calls Tryz.prog 92 #[.pointer (some ⟨bx, 0, none⟩), .agg #[.int .i64 10, .int .i64 p, .int .i64 nn]] w (DoP bx bm L m n (opD d (m.map (·.g)) ⟨10, p, nn⟩) w) := by
 have hundI := Tryz.underlying80
 have hszI : (Tryz.prog.info? 80).map (·.size) = some 3 := by kernel_rfl
 have hi0 := blkl_alloc w (ins3 ⟨10, p, nn⟩).toArray 80
 have hB0 := alloc_below w (.cells (ins3 ⟨10, p, nn⟩).toArray 80)
 have h0 := h.keep hB0
 have hbx := h.x.lt
 have hLw : L ≤ w.heap.size := by have := h.lx; omega
 replace hi0 : BlkL w.heap.size (ins3 ⟨10, p, nn⟩) (w.alloc (.cells #[.int .i64 10, .int .i64 p, .int .i64 nn] 80)) := hi0
 replace hB0 : Below w.heap.size w (w.alloc (.cells #[.int .i64 10, .int .i64 p, .int .i64 nn] 80)) := hB0
 replace h0 : XO bx bm L a cap m is s o y n d v (w.alloc (.cells #[.int .i64 10, .int .i64 p, .int .i64 nn] 80)) := h0
 go_enter Tryz.func92, Tryz.ntmps92
 go_upto_region 1 with fail
 generalize w.alloc (.cells #[.int .i64 10, .int .i64 p, .int .i64 nn] 80) = W0 at *
 have x0 := (hi0.1 0 _ rfl).1
 have hri := hi0.range
 have kme := cmem_any bx d v (rest3 bm 0 false) h.ok ⟨10, p, nn⟩ hi W0 h0.x
 have krd := fun (W : World) h1 h2 => cread_any bm bx a cap m h.mg d v [.int .i64 0, .bool false] (memP d ⟨10, p, nn⟩) (kn (m.map (·.g)) (memP d ⟨10, p, nn⟩).s) rfl (rdE d (m.map (·.g)) ⟨10, p, nn⟩) rfl W h1 h2
 have hsg : kn (m.map (·.g)) (memP d ⟨10, p, nn⟩).s = mSeg d (m.map (·.g)) ⟨10, p, nn⟩ := rfl
 have hw : wAt (mSeg d (m.map (·.g)) ⟨10, p, nn⟩) (memP d ⟨10, p, nn⟩).f = rdW d (m.map (·.g)) ⟨10, p, nn⟩ := rfl
 simp only [hsg] at krd
 simp only [hw] at krd
 clear hsg hw
 obtain ⟨E, hE⟩ : ∃ E, rdE d (m.map (·.g)) ⟨10, p, nn⟩ = E := ⟨_, rfl⟩
 obtain ⟨wd, hwd⟩ : ∃ wd, rdW d (m.map (·.g)) ⟨10, p, nn⟩ = wd := ⟨_, rfl⟩
 rw [hE, hwd] at krd
 replace hE : Aside (rdE d (m.map (·.g)) ⟨10, p, nn⟩ = E) := hE
 replace hwd : Aside (rdW d (m.map (·.g)) ⟨10, p, nn⟩ = wd) := hwd
 generalize (mSeg d (m.map (·.g)) ⟨10, p, nn⟩).rg = rg at *
 generalize memP d ⟨10, p, nn⟩ = q at *
 have heq : Aside (opD d (m.map (·.g)) ⟨10, p, nn⟩ = if E ≠ 0 then flt E else okC { d with a := arC 10 d.a wd }) := by
  show _ = _
  rw [← hE.out, ← hwd.out]
  rfl
 go_wp2_with (first | (refine wpList_load_row rfl _ rfl w.heap.size rfl (ins3 ⟨10, p, nn⟩) hri hundI rfl hszI ?_) | fail)
 refine kme.mono ?_
 rintro e W1 ⟨rfl, hb⟩
 have h1 := h0.keep hb
 have hB1 := Below.then hB0 hb
 have hi1 := stab_blk _ _ _ _ hi0 hb
 clear kme h0 hB0 hb hri x0 hi0
 go_wp2_with fail
 refine (krd W1 h1.at h1.x).mono ?_
 rintro e W2 ⟨rfl, hb⟩
 have h2 := h1.keep hb
 have hB2 := Below.then hB1 hb
 have hi2 := stab_blk _ _ _ _ hi1 hb
 clear krd h1 hB1 hb hi1
 by_cases hE0 : E = 0
 rotate_left
 ·rw [if_neg hE0]
  go_wp2_with fail
  refine diedC ?_
  rw [heq.out, if_pos hE0]
  exact .no hE0 rfl hB2
 rw [if_pos hE0]
 rw [if_neg (by simpa using hE0)] at heq
 clear hE0
 have hszR : (Tryz.prog.info? 33).map (·.size) = some 4 := by kernel_rfl
 obtain ⟨W4, hW4, hth4, -, hb4⟩ := put_new W2 (rg4 ⟨0, 0, 0, 0⟩).toArray 33 (rg4 rg) rfl (by show 0 < 4; decide)
 have h4 := h2.keep hb4
 have hB4 := Below.then hB2 hb4
 have hi4 := stab_blk _ _ _ _ hi2 hb4
 clear h2 hB2 hi2 hb4
 go_upto_region 19 with (first | (refine wpList_store_row rfl _ _ rfl W2.heap.size rfl (rg4 rg) rfl hth4 hszR (rg4_one _) hW4 ?_) | fail)
 have hdr := (Below.refl W4.heap.size W4).drew
 have h5 := h4.keep hdr
 have hB5 := Below.then hB4 hdr
 have hi5 := stab_blk _ _ _ _ hi4 hdr
 clear h4 hB4 hi4 hdr hW4 hth4
 refine wp_region_held_drew (S := (BlkL w.heap.size (ins3 ⟨10, p, nn⟩))) (by kernel_rfl) (by exact hi5) ?_
 intro hHeld
 generalize W4.drew = w0 at *
 refine tkA 0 ?_
 refine tkA 1 ?_
 refine tkB 2 (y := yields_cellI (by rfl) _ rfl ⟨w.heap.size, 0, none⟩ rfl (.int .i64 10) (fun _ s => (s.1 0 _ rfl).1) intI_load) (h := ?_)
 refine tkA 3 ?_
 refine tkA 4 ?_
 refine tkA 5 ?_
 refine tkA 6 ?_
 refine tkA 8 ?_
 refine tkR (rs := [7]) ?_
 refine tkC (fun K hK => ?_) AllReadyH.nil
 refine step_oneJ rfl _ rfl ⟨bx, 3, none⟩ rfl (.int .i64 d.a) h5.x.a int64_load ?_
 (try simp only [Act.put, zsA, zsB, zsC])
 refine hK.out _ _ (hi5) ?_
 clear hHeld hK
 intro hHeld
 (try simp only [Act.put, zsA, zsB, zsC])
 refine tkR (rs := [9]) ?_
 refine tkC (fun K hK => ?_) AllReadyH.nil
 go_simp
 go_at_call 118
 refine (creck_any 10 d.a wd (by decide) w0).mono ?_
 rintro e w1 ⟨rfl, hb⟩
 replace h5 := h5.keep hb
 replace hB5 := Below.then hB5 hb
 replace hi5 := stab_blk _ _ _ _ hi5 hb
 clear hb
 refine hK.out _ _ (hi5) ?_
 clear hHeld hK
 intro hHeld
 (try simp only [Act.put, zsA, zsB, zsC])
 refine tkA 10 ?_
 refine tkA 11 ?_
 refine tkA 12 ?_
 refine tkR (rs := [13]) ?_
 refine tkC (fun K hK => ?_) AllReadyH.nil
 have hX6 := h5.x.setA (arC 10 d.a wd)
 have hO6 := own_set h5.own h5.vx 3 (.int .i64 (arC 10 d.a wd))
 have hB6 := (hB5.mono hLw).setCell (p := ⟨bx, 3, none⟩) h.lx (.int .i64 (arC 10 d.a wd))
 have hi6 := far_blk hi5 (show bx ≠ w.heap.size by omega) 3 (.int .i64 (arC 10 d.a wd))
 refine step_st rfl _ _ rfl ⟨bx, 3, none⟩ rfl (.int .i64 (arC 10 d.a wd)) rfl (int64_store _ _ _ _ h5.x.a (h5.x.free (by decide))) ?_
 (try simp only [Act.put, zsA, zsB, zsC])
 refine hK.out _ _ (hi6) ?_
 clear hHeld hK
 intro hHeld
 (try simp only [Act.put, zsA, zsB, zsC])
 refine wpAnyH_done (by kernel_rfl) ?_ _
 go_wp2_with fail
 refine bodyPost_end (v := .tuple #[]) (by simp [results, Tryz.results92, go_sem]) rfl ?_
 rw [heq.out]
 exact .ok v _ hX6 hO6 hB6
set_option maxRecDepth 8000 in
set_option maxHeartbeats 4000000 in
theorem cdo11 {bx bm L : Nat} {a : Option Addr} {cap : Nat} {m : List PG} {is : Bool} {s o y n : Int} {d : Cp} {v : Value} {w : World} (h : XO bx bm L a cap m is s o y n d v w) (p nn : Int) (hi : insE ⟨11, p, nn⟩ = 0) :
    Calls Tryz.prog 92 #[.pointer (some ⟨bx, 0, none⟩), .agg #[.int .i64 11, .int .i64 p, .int .i64 nn]] w (DoP bx bm L m n (opD d (m.map (·.g)) ⟨11, p, nn⟩) w) := by
 have hundI := Tryz.underlying80
 have hszI : (Tryz.prog.info? 80).map (·.size) = some 3 := by kernel_rfl
 have hi0 := blkl_alloc w (ins3 ⟨11, p, nn⟩).toArray 80
 have hB0 := alloc_below w (.cells (ins3 ⟨11, p, nn⟩).toArray 80)
 have h0 := h.keep hB0
 have hbx := h.x.lt
 have hLw : L ≤ w.heap.size := by have := h.lx; omega
 replace hi0 : BlkL w.heap.size (ins3 ⟨11, p, nn⟩) (w.alloc (.cells #[.int .i64 11, .int .i64 p, .int .i64 nn] 80)) := hi0
 replace hB0 : Below w.heap.size w (w.alloc (.cells #[.int .i64 11, .int .i64 p, .int .i64 nn] 80)) := hB0
 replace h0 : XO bx bm L a cap m is s o y n d v (w.alloc (.cells #[.int .i64 11, .int .i64 p, .int .i64 nn] 80)) := h0
 go_enter Tryz.func92, Tryz.ntmps92
 go_upto_region 1 with fail
 generalize w.alloc (.cells #[.int .i64 11, .int .i64 p, .int .i64 nn] 80) = W0 at *
 have x0 := (hi0.1 0 _ rfl).1
 have hri := hi0.range
 have kme := cmem_any bx d v (rest3 bm 0 false) h.ok ⟨11, p, nn⟩ hi W0 h0.x
 have krd := fun (W : World) h1 h2 => cread_any bm bx a cap m h.mg d v [.int .i64 0, .bool false] (memP d ⟨11, p, nn⟩) (kn (m.map (·.g)) (memP d ⟨11, p, nn⟩).s) rfl (rdE d (m.map (·.g)) ⟨11, p, nn⟩) rfl W h1 h2
 have hsg : kn (m.map (·.g)) (memP d ⟨11, p, nn⟩).s = mSeg d (m.map (·.g)) ⟨11, p, nn⟩ := rfl
 have hw : wAt (mSeg d (m.map (·.g)) ⟨11, p, nn⟩) (memP d ⟨11, p, nn⟩).f = rdW d (m.map (·.g)) ⟨11, p, nn⟩ := rfl
 simp only [hsg] at krd
 simp only [hw] at krd
 clear hsg hw
 obtain ⟨E, hE⟩ : ∃ E, rdE d (m.map (·.g)) ⟨11, p, nn⟩ = E := ⟨_, rfl⟩
 obtain ⟨wd, hwd⟩ : ∃ wd, rdW d (m.map (·.g)) ⟨11, p, nn⟩ = wd := ⟨_, rfl⟩
 rw [hE, hwd] at krd
 replace hE : Aside (rdE d (m.map (·.g)) ⟨11, p, nn⟩ = E) := hE
 replace hwd : Aside (rdW d (m.map (·.g)) ⟨11, p, nn⟩ = wd) := hwd
 generalize (mSeg d (m.map (·.g)) ⟨11, p, nn⟩).rg = rg at *
 generalize memP d ⟨11, p, nn⟩ = q at *
 have heq : Aside (opD d (m.map (·.g)) ⟨11, p, nn⟩ = if E ≠ 0 then flt E else okC { d with a := arC 11 d.a wd }) := by
  show _ = _
  rw [← hE.out, ← hwd.out]
  rfl
 go_wp2_with (first | (refine wpList_load_row rfl _ rfl w.heap.size rfl (ins3 ⟨11, p, nn⟩) hri hundI rfl hszI ?_) | fail)
 refine kme.mono ?_
 rintro e W1 ⟨rfl, hb⟩
 have h1 := h0.keep hb
 have hB1 := Below.then hB0 hb
 have hi1 := stab_blk _ _ _ _ hi0 hb
 clear kme h0 hB0 hb hri x0 hi0
 go_wp2_with fail
 refine (krd W1 h1.at h1.x).mono ?_
 rintro e W2 ⟨rfl, hb⟩
 have h2 := h1.keep hb
 have hB2 := Below.then hB1 hb
 have hi2 := stab_blk _ _ _ _ hi1 hb
 clear krd h1 hB1 hb hi1
 by_cases hE0 : E = 0
 rotate_left
 ·rw [if_neg hE0]
  go_wp2_with fail
  refine diedC ?_
  rw [heq.out, if_pos hE0]
  exact .no hE0 rfl hB2
 rw [if_pos hE0]
 rw [if_neg (by simpa using hE0)] at heq
 clear hE0
 have hszR : (Tryz.prog.info? 33).map (·.size) = some 4 := by kernel_rfl
 obtain ⟨W4, hW4, hth4, -, hb4⟩ := put_new W2 (rg4 ⟨0, 0, 0, 0⟩).toArray 33 (rg4 rg) rfl (by show 0 < 4; decide)
 have h4 := h2.keep hb4
 have hB4 := Below.then hB2 hb4
 have hi4 := stab_blk _ _ _ _ hi2 hb4
 clear h2 hB2 hi2 hb4
 go_upto_region 19 with (first | (refine wpList_store_row rfl _ _ rfl W2.heap.size rfl (rg4 rg) rfl hth4 hszR (rg4_one _) hW4 ?_) | fail)
 have hdr := (Below.refl W4.heap.size W4).drew
 have h5 := h4.keep hdr
 have hB5 := Below.then hB4 hdr
 have hi5 := stab_blk _ _ _ _ hi4 hdr
 clear h4 hB4 hi4 hdr hW4 hth4
 refine wp_region_held_drew (S := (BlkL w.heap.size (ins3 ⟨11, p, nn⟩))) (by kernel_rfl) (by exact hi5) ?_
 intro hHeld
 generalize W4.drew = w0 at *
 refine tkA 0 ?_
 refine tkA 1 ?_
 refine tkB 2 (y := yields_cellI (by rfl) _ rfl ⟨w.heap.size, 0, none⟩ rfl (.int .i64 11) (fun _ s => (s.1 0 _ rfl).1) intI_load) (h := ?_)
 refine tkA 3 ?_
 refine tkA 4 ?_
 refine tkA 5 ?_
 refine tkA 6 ?_
 refine tkA 8 ?_
 refine tkR (rs := [7]) ?_
 refine tkC (fun K hK => ?_) AllReadyH.nil
 refine step_oneJ rfl _ rfl ⟨bx, 3, none⟩ rfl (.int .i64 d.a) h5.x.a int64_load ?_
 (try simp only [Act.put, zsA, zsB, zsC])
 refine hK.out _ _ (hi5) ?_
 clear hHeld hK
 intro hHeld
 (try simp only [Act.put, zsA, zsB, zsC])
 refine tkR (rs := [9]) ?_
 refine tkC (fun K hK => ?_) AllReadyH.nil
 go_simp
 go_at_call 118
 refine (creck_any 11 d.a wd (by decide) w0).mono ?_
 rintro e w1 ⟨rfl, hb⟩
 replace h5 := h5.keep hb
 replace hB5 := Below.then hB5 hb
 replace hi5 := stab_blk _ _ _ _ hi5 hb
 clear hb
 refine hK.out _ _ (hi5) ?_
 clear hHeld hK
 intro hHeld
 (try simp only [Act.put, zsA, zsB, zsC])
 refine tkA 10 ?_
 refine tkA 11 ?_
 refine tkA 12 ?_
 refine tkR (rs := [13]) ?_
 refine tkC (fun K hK => ?_) AllReadyH.nil
 have hX6 := h5.x.setA (arC 11 d.a wd)
 have hO6 := own_set h5.own h5.vx 3 (.int .i64 (arC 11 d.a wd))
 have hB6 := (hB5.mono hLw).setCell (p := ⟨bx, 3, none⟩) h.lx (.int .i64 (arC 11 d.a wd))
 have hi6 := far_blk hi5 (show bx ≠ w.heap.size by omega) 3 (.int .i64 (arC 11 d.a wd))
 refine step_st rfl _ _ rfl ⟨bx, 3, none⟩ rfl (.int .i64 (arC 11 d.a wd)) rfl (int64_store _ _ _ _ h5.x.a (h5.x.free (by decide))) ?_
 (try simp only [Act.put, zsA, zsB, zsC])
 refine hK.out _ _ (hi6) ?_
 clear hHeld hK
 intro hHeld
 (try simp only [Act.put, zsA, zsB, zsC])
 refine wpAnyH_done (by kernel_rfl) ?_ _
 go_wp2_with fail
 refine bodyPost_end (v := .tuple #[]) (by simp [results, Tryz.results92, go_sem]) rfl ?_
 rw [heq.out]
 exact .ok v _ hX6 hO6 hB6
end Go.Proofs.YtidihdiffiffmaaGreatDoor
namespace Go.Proofs.YtidihdiffiffmaaGreatDoor
open Go.RowKit
set_option maxRecDepth 8000
set_option linter.unusedSimpArgs false
set_option linter.unusedVariables false
structure SG (bi bx pk : Nat) (i : Ins) (P : Ptr) (W : World) : Prop where
 i : BlkL bi (ins3 i) W
 p : W.rangeAt bx (4 + pk * 3) (ptr3 P)
theorem SG.keep {bi bx pk : Nat} {i : Ins} {P : Ptr} {W W' : World} (h : SG bi bx pk i P W) (hb : Below W.heap.size W W') : SG bi bx pk i P W' := ⟨stab_blk _ _ _ _ h.i hb, fun j u hu => (hb.cell (World.block_lt_of_cell? _ _ (h.p j u hu))).trans (h.p j u hu)⟩
set_option maxRecDepth 8000 in
set_option maxHeartbeats 4000000 in
theorem cdo2 {bx bm L : Nat} {a : Option Addr} {cap : Nat} {m : List PG} {is : Bool} {s o y n : Int} {d : Cp} {v : Value} {w : World} (h : XO bx bm L a cap m is s o y n d v w) (p nn : Int) (hi : insE ⟨2, p, nn⟩ = 0) :
    Calls Tryz.prog 92 #[.pointer (some ⟨bx, 0, none⟩), .agg #[.int .i64 2, .int .i64 p, .int .i64 nn]] w (DoP bx bm L m n (opD d (m.map (·.g)) ⟨2, p, nn⟩) w) := by
 have hundI := Tryz.underlying80
 have hszI : (Tryz.prog.info? 80).map (·.size) = some 3 := by kernel_rfl
 have hi0 := blkl_alloc w (ins3 ⟨2, p, nn⟩).toArray 80
 have hB0 := alloc_below w (.cells (ins3 ⟨2, p, nn⟩).toArray 80)
 have h0 := h.keep hB0
 have hbx := h.x.lt
 have hLw : L ≤ w.heap.size := by have := h.lx; omega
 replace hi0 : BlkL w.heap.size (ins3 ⟨2, p, nn⟩) (w.alloc (.cells #[.int .i64 2, .int .i64 p, .int .i64 nn] 80)) := hi0
 replace hB0 : Below w.heap.size w (w.alloc (.cells #[.int .i64 2, .int .i64 p, .int .i64 nn] 80)) := hB0
 replace h0 : XO bx bm L a cap m is s o y n d v (w.alloc (.cells #[.int .i64 2, .int .i64 p, .int .i64 nn] 80)) := h0
 go_enter Tryz.func92, Tryz.ntmps92
 go_upto_region 1 with fail
 generalize w.alloc (.cells #[.int .i64 2, .int .i64 p, .int .i64 nn] 80) = W0 at *
 have x0 := (hi0.1 0 _ rfl).1
 have hri := hi0.range
 have kme := cmem_any bx d v (rest3 bm 0 false) h.ok ⟨2, p, nn⟩ hi W0 h0.x
 have kwr := fun (W : World) (hh : XO bx bm L a cap m is s o y n d v W) => cwrite_any bm bx a cap m h.mg d v [.int .i64 0, .bool false] (memP d ⟨2, p, nn⟩) (kn (m.map (·.g)) (memP d ⟨2, p, nn⟩).s) rfl (wrE d (m.map (·.g)) ⟨2, p, nn⟩) rfl is s o y n h.nb W hh.mem hh.x (fun x hx hi q9 => by have := h.lx; have := h.lw x hx hi _ q9; omega)
 have hkn : wrE d (m.map (·.g)) ⟨2, p, nn⟩ = 0 → (kn (m.map (·.g)) (memP d ⟨2, p, nn⟩).s).is = true := fun z => by
  have e' : wrG (kn (m.map (·.g)) (memP d ⟨2, p, nn⟩).s) (memP d ⟨2, p, nn⟩) = 0 := by rw [← wrE_eq]; exact z
  unfold wrG at e'
  by_cases q1 : (kn (m.map (·.g)) (memP d ⟨2, p, nn⟩).s).is = false
  ·rw [if_pos q1] at e'; cases e'
  ·simpa using q1
 obtain ⟨E, hE⟩ : ∃ E, wrE d (m.map (·.g)) ⟨2, p, nn⟩ = E := ⟨_, rfl⟩
 have heq : Aside (opD d (m.map (·.g)) ⟨2, p, nn⟩ = if E ≠ 0 then flt E else ⟨0, d, some ((memP d ⟨2, p, nn⟩).s, (memP d ⟨2, p, nn⟩).f, d.a), 0, false⟩) := by
  show _ = _
  rw [← hE]
  rfl
 rw [hE] at kwr hkn
 clear hE
 generalize memP d ⟨2, p, nn⟩ = q at *
 go_wp2_with (first | (refine wpList_load_row rfl _ rfl w.heap.size rfl (ins3 ⟨2, p, nn⟩) hri hundI rfl hszI ?_) | fail)
 refine kme.mono ?_
 rintro e W1 ⟨rfl, hb⟩
 have h1 := h0.keep hb
 have hB1 := Below.then hB0 hb
 clear kme h0 hB0 hb hri x0 hi0
 go_wp2_with fail
 refine (kwr W1 h1).mono ?_
 rintro e W2 (⟨hE, rfl, hb⟩ | ⟨hE, ⟨rr, rfl⟩, gw, hgw, hgl, hS2, hce⟩)
 ·go_wp2_with fail
  refine diedC ?_
  rw [heq.out, if_pos hE]
  exact .no hE rfl (Below.then hB1 hb)
 ·go_wp2_with fail
  refine bodyPost_end (v := .tuple #[]) (by simp [results, Tryz.results92, go_sem]) rfl ?_
  rw [heq.out, if_neg (by simpa using hE)]
  have hl := h.lx
  have hbl := h.bl
  have hkm := hkn (by simpa using hE)
  have hgL : gw < L := h.lw _ (knP_mem hkm).1 (by rw [knP_g]; exact hkm) _ hgw
  refine .inr ⟨rfl, ⟨_, rfl⟩, v, h1.x.same (hS2.block bx h1.x.lt (by omega)) hS2.size, h1.own.keep (fun k hk => hS2.block k (h1.own.lt hk).2 (by have := (h1.own.lt hk).1; omega)), gw, hgw, by omega, (Sole.of hB1).trans hS2, ?_⟩
  rw [hce]
  exact heap_setCell_congr (hB1.block gw (by omega)) _ _
set_option maxRecDepth 8000 in
set_option maxHeartbeats 4000000 in
theorem cdo19 {bx bm L : Nat} {a : Option Addr} {cap : Nat} {m : List PG} {is : Bool} {s o y n : Int} {d : Cp} {v : Value} {w : World} (h : XO bx bm L a cap m is s o y n d v w) (p nn : Int) (hi : insE ⟨19, p, nn⟩ = 0) :
    Calls Tryz.prog 92 #[.pointer (some ⟨bx, 0, none⟩), .agg #[.int .i64 19, .int .i64 p, .int .i64 nn]] w (DoP bx bm L m n (opD d (m.map (·.g)) ⟨19, p, nn⟩) w) := by
 have hundI := Tryz.underlying80
 have hszI : (Tryz.prog.info? 80).map (·.size) = some 3 := by kernel_rfl
 have hi0 := blkl_alloc w (ins3 ⟨19, p, nn⟩).toArray 80
 have hB0 := alloc_below w (.cells (ins3 ⟨19, p, nn⟩).toArray 80)
 have h0 := h.keep hB0
 have hbx := h.x.lt
 have hLw : L ≤ w.heap.size := by have := h.lx; omega
 replace hi0 : BlkL w.heap.size (ins3 ⟨19, p, nn⟩) (w.alloc (.cells #[.int .i64 19, .int .i64 p, .int .i64 nn] 80)) := hi0
 replace hB0 : Below w.heap.size w (w.alloc (.cells #[.int .i64 19, .int .i64 p, .int .i64 nn] 80)) := hB0
 replace h0 : XO bx bm L a cap m is s o y n d v (w.alloc (.cells #[.int .i64 19, .int .i64 p, .int .i64 nn] 80)) := h0
 obtain ⟨pk, hpk, hp4⟩ : ∃ pk : Nat, p = (pk : Int) ∧ pk < 4 := by
  obtain ⟨-, p0, p1, -⟩ := insE_zero.1 hi
  replace p0 : 0 ≤ p := p0
  replace p1 : p ≤ 3 := p1
  exact ⟨p.toNat, by omega, by omega⟩
 replace hpk : Aside (p = (pk : Int)) := hpk
 go_enter Tryz.func92, Tryz.ntmps92
 go_upto_region 1 with fail
 generalize w.alloc (.cells #[.int .i64 19, .int .i64 p, .int .i64 nn] 80) = W0 at *
 have x0 := (hi0.1 0 _ rfl).1
 have hri := hi0.range
 have hundP := Tryz.underlying41
 have hszP : (Tryz.prog.info? 41).map (·.size) = some 3 := by kernel_rfl
 obtain ⟨P, hP⟩ : ∃ P, d.ps.getD pk ⟨0, 0, 0⟩ = P := ⟨_, rfl⟩
 have ken := fun (W : World) => iencp_any P W
 have heq : Aside (opD d (m.map (·.g)) ⟨19, p, nn⟩ = okC { d with a := ptrW P }) := by
  show _ = _
  rw [← hP]
  show okC { d with a := ptrW (d.ps.getD p.toNat ⟨0, 0, 0⟩) } = _
  rw [show p.toNat = pk by rw [hpk.out, Int.toNat_natCast]]
 replace hP : Aside (d.ps.getD pk ⟨0, 0, 0⟩ = P) := hP
 have j1 : (pk : Int) < 4 := by omega
 have j2 : ¬ (pk : Int) < 0 := by omega
 go_upto_region 33 with fail
 have hdr := (Below.refl W0.heap.size W0).drew
 have h5 := h0.keep hdr
 have hB5 := Below.then hB0 hdr
 have hS5 : SG w.heap.size bx pk ⟨19, p, nn⟩ P W0.drew := ⟨stab_blk _ _ _ _ hi0 hdr, by have := h5.x.ptr hp4; rw [hP.out] at this; exact this⟩
 clear h0 hB0 hi0 hdr hri x0
 refine wp_region_held_drew (S := (SG w.heap.size bx pk ⟨19, p, nn⟩ P)) (by kernel_rfl) (by exact hS5) ?_
 intro hHeld
 generalize W0.drew = w0 at *
 refine tkA 0 ?_
 refine tkA 1 ?_
 refine tkA 2 ?_
 refine tkB 3 (y := yields_cellI (by rfl) _ rfl ⟨w.heap.size, 1, none⟩ rfl (.int .i64 (pk : Int)) (fun _ s => by rw [← hpk.out]; exact (s.i.1 1 _ rfl).1) intI_load) (h := ?_)
 refine tkA 4 ?_
 refine tkA 5 ?_
 refine tkA 6 ?_
 refine tkA 7 ?_
 refine tkB 8 (y := yieldsIf_load_mid (by rfl) 41 _ rfl bx (4 + pk * 3) rfl (ptr3 P) _ (fun _ s => s.p) hundP rfl hszP) (h := ?_)
 refine tkR (rs := [9]) ?_
 refine tkC (fun K hK => ?_) AllReadyH.nil
 go_simp
 go_at_call 124
 refine (ken w0).mono ?_
 rintro e w1 ⟨rfl, hb⟩
 replace h5 := h5.keep hb
 replace hB5 := Below.then hB5 hb
 replace hS5 := hS5.keep hb
 clear hb
 refine hK.out _ _ (hS5) ?_
 clear hHeld hK
 intro hHeld
 (try simp only [Act.put, zsA, zsB, zsC])
 refine tkA 10 ?_
 refine tkA 11 ?_
 refine tkA 12 ?_
 refine tkR (rs := [13]) ?_
 refine tkC (fun K hK => ?_) AllReadyH.nil
 have hX6 := h5.x.setA (ptrW P)
 have hO6 := own_set h5.own h5.vx 3 (.int .i64 (ptrW P))
 have hB6 := (hB5.mono hLw).setCell (p := ⟨bx, 3, none⟩) h.lx (.int .i64 (ptrW P))
 have hS6 : SG w.heap.size bx pk ⟨19, p, nn⟩ P (w1.setCell ⟨bx, 3, none⟩ (.int .i64 (ptrW P))) := ⟨far_blk hS5.i (show bx ≠ w.heap.size by omega) 3 _, by have := hX6.ptr hp4; rw [show ({ d with a := ptrW P } : Cp).ps.getD pk ⟨0, 0, 0⟩ = P from hP.out] at this; exact this⟩
 refine step_st rfl _ _ rfl ⟨bx, 3, none⟩ rfl (.int .i64 (ptrW P)) rfl (int64_store _ _ _ _ h5.x.a (h5.x.free (by decide))) ?_
 (try simp only [Act.put, zsA, zsB, zsC])
 refine hK.out _ _ (hS6) ?_
 clear hHeld hK
 intro hHeld
 (try simp only [Act.put, zsA, zsB, zsC])
 refine wpAnyH_done (by kernel_rfl) ?_ _
 go_wp2_with fail
 refine bodyPost_end (v := .tuple #[]) (by simp [results, Tryz.results92, go_sem]) rfl ?_
 rw [heq.out]
 exact .ok v _ hX6 hO6 hB6
set_option maxRecDepth 8000 in
set_option maxHeartbeats 4000000 in
theorem cdo20 {bx bm L : Nat} {a : Option Addr} {cap : Nat} {m : List PG} {is : Bool} {s o y n : Int} {d : Cp} {v : Value} {w : World} (h : XO bx bm L a cap m is s o y n d v w) (p nn : Int) (hi : insE ⟨20, p, nn⟩ = 0) :
    Calls Tryz.prog 92 #[.pointer (some ⟨bx, 0, none⟩), .agg #[.int .i64 20, .int .i64 p, .int .i64 nn]] w (DoP bx bm L m n (opD d (m.map (·.g)) ⟨20, p, nn⟩) w) := by
 have hundI := Tryz.underlying80
 have hszI : (Tryz.prog.info? 80).map (·.size) = some 3 := by kernel_rfl
 have hi0 := blkl_alloc w (ins3 ⟨20, p, nn⟩).toArray 80
 have hB0 := alloc_below w (.cells (ins3 ⟨20, p, nn⟩).toArray 80)
 have h0 := h.keep hB0
 have hbx := h.x.lt
 have hLw : L ≤ w.heap.size := by have := h.lx; omega
 replace hi0 : BlkL w.heap.size (ins3 ⟨20, p, nn⟩) (w.alloc (.cells #[.int .i64 20, .int .i64 p, .int .i64 nn] 80)) := hi0
 replace hB0 : Below w.heap.size w (w.alloc (.cells #[.int .i64 20, .int .i64 p, .int .i64 nn] 80)) := hB0
 replace h0 : XO bx bm L a cap m is s o y n d v (w.alloc (.cells #[.int .i64 20, .int .i64 p, .int .i64 nn] 80)) := h0
 go_enter Tryz.func92, Tryz.ntmps92
 go_upto_region 1 with fail
 generalize w.alloc (.cells #[.int .i64 20, .int .i64 p, .int .i64 nn] 80) = W0 at *
 have x0 := (hi0.1 0 _ rfl).1
 have hri := hi0.range
 have kme := cmem_any bx d v (rest3 bm 0 false) h.ok ⟨20, p, nn⟩ hi W0 h0.x
 have kcl := fun (W : World) (hh : XO bx bm L a cap m is s o y n d v W) => ccall_any bm bx L a cap m h.mg d v [.int .i64 0, .bool false] h.ok.st (memP d ⟨20, p, nn⟩) (mSeg d (m.map (·.g)) ⟨20, p, nn⟩) rfl (clG (mSeg d (m.map (·.g)) ⟨20, p, nn⟩) (memP d ⟨20, p, nn⟩) d.st.length) rfl W hh.at hh.x hh.own hh.lx hh.vx
 obtain ⟨E, hE⟩ : ∃ E, clG (mSeg d (m.map (·.g)) ⟨20, p, nn⟩) (memP d ⟨20, p, nn⟩) d.st.length = E := ⟨_, rfl⟩
 have heq : Aside (opD d (m.map (·.g)) ⟨20, p, nn⟩ = if E ≠ 0 then flt E else okC (clD d (mSeg d (m.map (·.g)) ⟨20, p, nn⟩) (memP d ⟨20, p, nn⟩))) := by
  show _ = _
  rw [← hE]
  rfl
 rw [hE] at kcl
 clear hE
 generalize mSeg d (m.map (·.g)) ⟨20, p, nn⟩ = g at *
 generalize memP d ⟨20, p, nn⟩ = q at *
 go_wp2_with (first | (refine wpList_load_row rfl _ rfl w.heap.size rfl (ins3 ⟨20, p, nn⟩) hri hundI rfl hszI ?_) | fail)
 refine kme.mono ?_
 rintro e W1 ⟨rfl, hb⟩
 have h1 := h0.keep hb
 have hB1 := Below.then hB0 hb
 clear kme h0 hB0 hb hri x0 hi0
 go_wp2_with fail
 refine (kcl W1 h1).mono ?_
 rintro e W2 (⟨hE, rfl, hb⟩ | ⟨hE, ⟨rr, rfl⟩, v2, hX2, hO2, hB2⟩)
 ·go_wp2_with fail
  refine diedC ?_
  rw [heq.out, if_pos hE]
  exact .no hE rfl (Below.then hB1 hb)
 ·go_wp2_with fail
  refine bodyPost_end (v := .tuple #[]) (by simp [results, Tryz.results92, go_sem]) rfl ?_
  rw [heq.out, if_neg (by simpa using hE)]
  exact .ok v2 _ hX2 hO2 ((hB1.mono hLw).trans hB2)
set_option maxRecDepth 8000 in
set_option maxHeartbeats 4000000 in
theorem cdo21 {bx bm L : Nat} {a : Option Addr} {cap : Nat} {m : List PG} {is : Bool} {s o y n : Int} {d : Cp} {v : Value} {w : World} (h : XO bx bm L a cap m is s o y n d v w) (p nn : Int) (hi : insE ⟨21, p, nn⟩ = 0) :
    Calls Tryz.prog 92 #[.pointer (some ⟨bx, 0, none⟩), .agg #[.int .i64 21, .int .i64 p, .int .i64 nn]] w (DoP bx bm L m n (opD d (m.map (·.g)) ⟨21, p, nn⟩) w) := by
 have hundI := Tryz.underlying80
 have hszI : (Tryz.prog.info? 80).map (·.size) = some 3 := by kernel_rfl
 have hi0 := blkl_alloc w (ins3 ⟨21, p, nn⟩).toArray 80
 have hB0 := alloc_below w (.cells (ins3 ⟨21, p, nn⟩).toArray 80)
 have h0 := h.keep hB0
 have hbx := h.x.lt
 have hLw : L ≤ w.heap.size := by have := h.lx; omega
 replace hi0 : BlkL w.heap.size (ins3 ⟨21, p, nn⟩) (w.alloc (.cells #[.int .i64 21, .int .i64 p, .int .i64 nn] 80)) := hi0
 replace hB0 : Below w.heap.size w (w.alloc (.cells #[.int .i64 21, .int .i64 p, .int .i64 nn] 80)) := hB0
 replace h0 : XO bx bm L a cap m is s o y n d v (w.alloc (.cells #[.int .i64 21, .int .i64 p, .int .i64 nn] 80)) := h0
 go_enter Tryz.func92, Tryz.ntmps92
 go_upto_region 1 with fail
 generalize w.alloc (.cells #[.int .i64 21, .int .i64 p, .int .i64 nn] 80) = W0 at *
 have x0 := (hi0.1 0 _ rfl).1
 have hri := hi0.range
 have kcl := cret_any bx L d v (rest3 bm 0 false) h.ok.st (rtE d) rfl W0 h0.x h0.own h0.lx h0.vx
 have heq : Aside (opD d (m.map (·.g)) ⟨21, p, nn⟩ = if rtE d ≠ 0 then flt (rtE d) else okC (rtD d)) := rfl
 go_wp2_with fail
 refine kcl.mono ?_
 rintro e W2 (⟨hE, rfl, hb⟩ | ⟨hE, ⟨rr, rfl⟩, v2, hX2, hO2, hB2⟩)
 ·go_wp2_with fail
  refine diedC ?_
  rw [heq.out, if_pos hE]
  exact .no hE rfl (Below.then hB0 hb)
 ·go_wp2_with fail
  refine bodyPost_end (v := .tuple #[]) (by simp [results, Tryz.results92, go_sem]) rfl ?_
  rw [heq.out, if_neg (by simpa using hE)]
  exact .ok v2 _ hX2 hO2 ((hB0.mono hLw).trans hB2)
theorem cdo_any {bx bm L : Nat} {a : Option Addr} {cap : Nat} {m : List PG} {is : Bool} {s o y n : Int} {d : Cp} {v : Value} {w : World} (h : XO bx bm L a cap m is s o y n d v w) (i : Ins) (hi : insE i = 0) :
    Calls Tryz.prog 92 #[.pointer (some ⟨bx, 0, none⟩), .agg (ins3 i).toArray] w (DoP bx bm L m n (opD d (m.map (·.g)) i) w) := by
 obtain ⟨k, p, nn⟩ := i
 obtain ⟨⟨o0, o1⟩, -⟩ := insE_zero.1 hi
 obtain ⟨j, hj, hj2⟩ : ∃ j : Nat, k = (j : Int) ∧ j < 23 := by
  replace o0 : 0 ≤ k := o0
  replace o1 : k ≤ 22 := o1
  exact ⟨k.toNat, by omega, by omega⟩
 subst hj
 match j, hj2 with
 | 0, _ => exact cdo0 h p nn hi
 | 1, _ => exact cdo1 h p nn hi
 | 2, _ => exact cdo2 h p nn hi
 | 3, _ => exact cdo3 h p nn hi
 | 4, _ => exact cdo4 h p nn hi
 | 5, _ => exact cdo5 h p nn hi
 | 6, _ => exact cdo6 h p nn hi
 | 7, _ => exact cdo7 h p nn hi
 | 8, _ => exact cdo8 h p nn hi
 | 9, _ => exact cdo9 h p nn hi
 | 10, _ => exact cdo10 h p nn hi
 | 11, _ => exact cdo11 h p nn hi
 | 12, _ => exact cdo12 h p nn hi
 | 13, _ => exact cdo13 h p nn hi
 | 14, _ => exact cdo14 h p nn hi
 | 15, _ => exact cdo15 h p nn hi
 | 16, _ => exact cdo16 h p nn hi
 | 17, _ => exact cdo17 h p nn hi
 | 18, _ => exact cdo18 h p nn hi
 | 19, _ => exact cdo19 h p nn hi
 | 20, _ => exact cdo20 h p nn hi
 | 21, _ => exact cdo21 h p nn hi
 | 22, _ => exact cdo22 h p nn hi
end Go.Proofs.YtidihdiffiffmaaGreatDoor
namespace Go.Proofs.YtidihdiffiffmaaGreatDoor
open Go.RowKit
set_option maxRecDepth 8000
set_option linter.unusedSimpArgs false
set_option linter.unusedVariables false
structure R4 (b : Nat) (t : List Value) (o : Int) (td : Bool) (e : Int) (W : World) : Prop where
 s : BlkL (b + 1) t W
 o : BlkL (b + 2) [.int .i64 o] W
 t : BlkL (b + 3) [.bool td] W
 e : BlkL (b + 4) [.int .i64 e] W
theorem R4.same {b : Nat} {t : List Value} {o e : Int} {td : Bool} {W W' : World} (h : R4 b t o td e W) (hb : ∀ j, j < b + 5 → b < j → W'.heap[j]? = W.heap[j]?) (hs : W.heap.size ≤ W'.heap.size) : R4 b t o td e W' :=
 ⟨⟨h.s.1.same (hb _ (by omega) (by omega)), Nat.lt_of_lt_of_le h.s.2 hs⟩, ⟨h.o.1.same (hb _ (by omega) (by omega)), Nat.lt_of_lt_of_le h.o.2 hs⟩, ⟨h.t.1.same (hb _ (by omega) (by omega)), Nat.lt_of_lt_of_le h.t.2 hs⟩, ⟨h.e.1.same (hb _ (by omega) (by omega)), Nat.lt_of_lt_of_le h.e.2 hs⟩⟩
theorem R4.keep {b : Nat} {t : List Value} {o e : Int} {td : Bool} {W W' : World} (h : R4 b t o td e W) (hb : Below W.heap.size W W') : R4 b t o td e W' := h.same (fun j hj _ => hb.block j (by have := h.e.2; omega)) hb.size
structure Far (b : Nat) (W W' : World) : Prop where
 bl : Below (b + 1) W W'
 up : ∀ j, b + 5 ≤ j → W'.heap[j]? = W.heap[j]?
theorem Far.set {b : Nat} {W W' : World} (h : Far b W W') (k : Nat) (hk : b < k ∧ k < b + 5) (o : Nat) (u : Value) : Far b W (W'.setCell ⟨k, o, none⟩ u) :=
 ⟨h.bl.setCell (p := ⟨k, o, none⟩) (show b + 1 ≤ k by omega) u, fun j hj => (heap_setCell_other _ ⟨k, o, none⟩ j _ (show j ≠ k by omega)).trans (h.up j hj)⟩
theorem Far.x {b bx : Nat} {W W' : World} {c : Cp} {v : Value} {r : List Value} (h : Far b W W') (hX : XAt bx c v r W) (hb : b + 5 ≤ bx) : XAt bx c v r W' := hX.same (h.up bx hb) h.bl.size
theorem R4.put {b : Nat} {t0 : List Value} {o0 e0 : Int} {d0 : Bool} {W : World} (h : R4 b t0 o0 d0 e0 W) (t : List Value) (hl : t0.length = t.length) (hp : 0 < t.length) (o : Int) (td : Bool) (e : Int) :
    ∃ WA, W.setCells (b + 1) 0 t = WA ∧ W.there (b + 1) 0 t.length ∧ R4 b t o0 d0 e0 WA ∧ Far b W WA ∧ R4 b t o d0 e0 (WA.setCell ⟨b + 2, 0, none⟩ (.int .i64 o)) ∧ R4 b t o td e0 ((WA.setCell ⟨b + 2, 0, none⟩ (.int .i64 o)).setCell ⟨b + 3, 0, none⟩ (.bool td)) ∧ R4 b t o td e (((WA.setCell ⟨b + 2, 0, none⟩ (.int .i64 o)).setCell ⟨b + 3, 0, none⟩ (.bool td)).setCell ⟨b + 4, 0, none⟩ (.int .i64 e)) := by
 obtain ⟨WA, hWA, hth, hs, hk⟩ := put_any h.s (ds := t) hl hp
 have hfar : ∀ j, j ≠ b + 1 → WA.heap[j]? = W.heap[j]? := fun j hj => by rw [← hWA]; exact heap_setCells_other hj _ _ _
 have hsz := (hk 0 W (Nat.zero_le _) (Below.refl _ _)).size
 have hA : R4 b t o0 d0 e0 WA := ⟨hs, ⟨h.o.1.same (hfar _ (by omega)), Nat.lt_of_lt_of_le h.o.2 hsz⟩, ⟨h.t.1.same (hfar _ (by omega)), Nat.lt_of_lt_of_le h.t.2 hsz⟩, ⟨h.e.1.same (hfar _ (by omega)), Nat.lt_of_lt_of_le h.e.2 hsz⟩⟩
 have hF : Far b W WA := ⟨hk _ _ (Nat.le_refl _) (Below.refl _ _), fun j hj => hfar j (by omega)⟩
 have one : ∀ {g : Nat} {u : Value} {Z : World} (x : Value), BlkL g [u] Z → BlkL g [x] (Z.setCell ⟨g, 0, none⟩ x) := fun x hz => by
  have h1 := hz.1.set 0 x (by show 0 < 1; decide)
  exact ⟨h1, h1.lt rfl⟩
 have hB : R4 b t o d0 e0 (WA.setCell ⟨b + 2, 0, none⟩ (.int .i64 o)) := ⟨far_blk hA.s (by omega) _ _, one _ hA.o, far_blk hA.t (by omega) _ _, far_blk hA.e (by omega) _ _⟩
 have hC : R4 b t o td e0 ((WA.setCell ⟨b + 2, 0, none⟩ (.int .i64 o)).setCell ⟨b + 3, 0, none⟩ (.bool td)) := ⟨far_blk hB.s (by omega) _ _, far_blk hB.o (by omega) _ _, one _ hB.t, far_blk hB.e (by omega) _ _⟩
 exact ⟨WA, hWA, hth, hA, hF, hB, hC, ⟨far_blk hC.s (by omega) _ _, far_blk hC.o (by omega) _ _, far_blk hC.t (by omega) _ _, one _ hC.e⟩⟩
theorem far4 {b : Nat} {W WA : World} (h : Far b W WA) (o e : Int) (td : Bool) : Far b W (((WA.setCell ⟨b + 2, 0, none⟩ (.int .i64 o)).setCell ⟨b + 3, 0, none⟩ (.bool td)).setCell ⟨b + 4, 0, none⟩ (.int .i64 e)) := ((h.set (b + 2) (by omega) 0 _).set (b + 3) (by omega) 0 _).set (b + 4) (by omega) 0 _
theorem zst_one : ∀ u ∈ stCs zeroC nilS, u.oneCell' = true := st_one zeroC nilS rfl
theorem errorOf_any (e : Int) (w : World) : Calls Tryz.prog 90 #[.iface 192 (.int .i64 e)] w fun r w' => r = .returned (.int .i64 e) ∧ w' = w := by
 have hta : ∀ w : World, (Instr.typeAssert (.iface 192 (.int .i64 e)) 20 192 true).run Tryz.prog w = .ok (.tuple #[.int .i64 e, .bool true]) w := fun _ => by first | kernel_rfl | rfl
 go_enter Tryz.func90, Tryz.ntmps90
 go_wp2_with fail
 go_ret
 exact ⟨rfl, rfl⟩
theorem catch_idle (p0 p1 p2 p3 : Addr) (w : World) :
    CallsD Tryz.prog 89 #[.pointer (some p0), .pointer (some p1), .pointer (some p2), .pointer (some p3)] .returning w fun e u' w' => e = .returned (.tuple #[]) ∧ u' = .returning ∧ w' = w := by
 refine callsD_of_wpS Tryz.func89 rfl fun c₀ cs hu => ?_
 apply wpS_seq
 apply wpS_region
 simp [wpOpsS, go_sem, recoverD, hu, Tryz.ntmps89, Exit.thenS]
 refine wpS_of_wp ?_
 change Code.wp Tryz.prog _ _ { tmps := #[.pointer (some p0), .pointer (some p1), .pointer (some p2), .pointer (some p3), .nilIface, .nilIface, undef, undef, undef, undef, undef], defers := [] } w
 go_wp2_with fail
 cases c₀
 simp_all [bodyPostS, results, Tryz.results89]
set_option maxRecDepth 8000 in
set_option maxHeartbeats 2000000 in
theorem catch_panicking (b : Nat) (t0 : List Value) (ht0 : t0.length = 18) (o0 e0 : Int) (d0 : Bool) (er : Int) (w : World) (h : R4 b t0 o0 d0 e0 w) :
    CallsD Tryz.prog 89 #[.pointer (some ⟨b + 1, 0, none⟩), .pointer (some ⟨b + 2, 0, none⟩), .pointer (some ⟨b + 3, 0, none⟩), .pointer (some ⟨b + 4, 0, none⟩)] (.panicking (thr er)) w fun e u' w' => e = .returned (.tuple #[]) ∧ u' = .panicking [{ v := .iface 192 (.int .i64 er), recovered := true }] ∧ (R4 b (stCs zeroC nilS) 0 false er w' ∧ Far b w w') := by
 have hszS : (Tryz.prog.info? 45).map (·.size) = some (stCs zeroC nilS).length := by kernel_rfl
 have hnil : ∀ w : World, (binOp BinOp.neq 20 (.iface 192 (.int .i64 er)) .nilIface).run Tryz.prog w = .ok (.bool true) w := fun _ => rfl
 have k := errorOf_any er w
 obtain ⟨WA, hWA, hth, hA, hF, hB, hC, hD⟩ := h.put (stCs zeroC nilS) (by rw [ht0]; rfl) (by show 0 < 18; decide) 0 false er
 have hF4 := far4 hF 0 er false
 have a2 := (hA.o.1 0 _ rfl).1
 have f2 := (hA.o.1 0 _ rfl).2
 have a3 := (hA.t.1 0 _ rfl).1
 have f3 := (hA.t.1 0 _ rfl).2
 have a4 := (hA.e.1 0 _ rfl).1
 have f4 := (hA.e.1 0 _ rfl).2
 have hbd : ∀ w : World, (Instr.build 45 #[]).run Tryz.prog w = .ok (.agg (stCs zeroC nilS).toArray) w := fun w => by
  have h1 := Tryz.underlying45
  rw [zS_eq]
  go_simp
 obtain ⟨X, hX⟩ : ∃ X, stCs zeroC nilS = X := ⟨_, rfl⟩
 have hone := zst_one
 simp only [hX] at hWA hth hA hB hC hD hbd hszS hone
 rw [hX]
 clear hB hC hA hF hX
 refine callsD_of_wpS Tryz.func89 rfl fun c₀ cs hu => ?_
 apply wpS_seq
 apply wpS_region
 simp [wpOpsS, go_sem, recoverD, hu, thr, Tryz.ntmps89, Exit.thenS]
 refine wpS_of_wp ?_
 change Code.wp Tryz.prog _ _ { tmps := #[.pointer (some ⟨b + 1, 0, none⟩), .pointer (some ⟨b + 2, 0, none⟩), .pointer (some ⟨b + 3, 0, none⟩), .pointer (some ⟨b + 4, 0, none⟩), .iface 192 (.int .i64 er), .iface 192 (.int .i64 er), undef, undef, undef, undef, undef], defers := [] } w
 go_wp2_with (first | (refine wpList_buildv rfl _ rfl #[] (by simp) (hbd _) ?_) | fail)
 refine k.mono ?_
 rintro e W1 ⟨rfl, hw1⟩
 rw [hw1]
 go_wp2_with (first | (refine wpList_store_row rfl _ _ rfl (b + 1) rfl X rfl hth hszS hone hWA ?_) | fail)
 simp [bodyPostS, results, Tryz.results89]
 exact ⟨hD, hF4⟩
theorem cclone_any (a : Option Addr) (c : Nat) (l : List Fr) (hn : a = none → c = 0) (hl : l.length ≤ 1000) (w : World) (h : RowAt 3 frc w a l) :
    Calls Tryz.prog 91 #[.slice a l.length c] w fun e w' => ∃ v, e = .returned v ∧ OwnR 102 3 frc w' w.heap.size v l ∧ Below w.heap.size w w' := by
 cases a with
 | none =>
  have hl0 : l = [] := by
   cases l with
   | nil => rfl
   | cons x r => obtain ⟨y, hy, -⟩ := h 0 x rfl; cases hy
  subst hl0
  obtain rfl := hn rfl
  have hq : ∀ w : World, (binOp .eql 43 (.slice none 0 0) (.slice none 0 0)).run Tryz.prog w = .ok (.bool true) w := fun _ => rfl
  go_enter Tryz.func91, Tryz.ntmps91
  go_wp2_with fail
  go_ret
  exact ⟨_, rfl, OwnR.nil _ _ _ _ _, Below.refl _ _⟩
 | some y =>
  obtain ⟨v, W, hap, ho, hb⟩ := wasW_run fr_okC (n := l.length) (c := c) h rfl (fun q => (by cases q)) (by omega)
  generalize l.length = n at *
  have hq : ∀ w : World, (binOp .eql 43 (.slice (some y) n c) (.slice none 0 0)).run Tryz.prog w = .ok (.bool false) w := fun _ => rfl
  go_enter Tryz.func91, Tryz.ntmps91
  go_wp2_with (first | (refine wpList_append rfl _ _ rfl rfl rfl rfl hap ?_) | (refine wpList_build0W fr_okC rfl rfl ?_) | fail)
  go_ret
  exact ⟨v, rfl, ho, hb⟩
end Go.Proofs.YtidihdiffiffmaaGreatDoor
namespace Go.Proofs.YtidihdiffiffmaaGreatDoor
open Go.RowKit
set_option maxRecDepth 8000
set_option linter.unusedSimpArgs false
set_option linter.unusedVariables false
theorem cl_eq {c : Cp} {m : List Sg} {i : Ins} (hg : (mSeg c m i).Ok) : clE c m i = clG (mSeg c m i) (memP c i) c.st.length := by
 unfold clE clG
 by_cases h1 : (mSeg c m i).is = false
 ·rw [if_pos h1, if_pos h1]
 rw [if_neg h1, if_neg h1]
 by_cases h2 : hasM (mSeg c m i).md 4 = false
 ·rw [if_pos h2, if_pos h2]
 rw [if_neg h2, if_neg h2]
 by_cases h3 : callE (mSeg c m i).rg (mOff c i) (mRing c i) ≠ 0
 ·rw [if_pos h3, if_pos (show callE (mSeg c m i).rg (memP c i).f (memP c i).r ≠ 0 from h3)]
 rw [if_neg h3, if_neg (show ¬ callE (mSeg c m i).rg (memP c i).f (memP c i).r ≠ 0 from h3)]
 have h0 := (call_ok (hg.rg (by simpa using h1)) (by simpa using h3)).2.2.1
 by_cases h4 : ¬ mOff c i < ((mSeg c m i).ws.length : Int)
 ·rw [if_pos h4, if_pos (show ¬ inG (mSeg c m i) (memP c i).f from fun q => h4 q.2)]
 ·rw [if_neg h4, if_neg (show ¬ ¬ inG (mSeg c m i) (memP c i).f from fun q => q ⟨h0, by show mOff c i < _; omega⟩)]
theorem op_eq {c : Cp} {m : List Sg} {i : Ins} (hg : (mSeg c m i).Ok) (hi : insE i = 0) : opC c m i = opD { c with off := c.off + 1 } m i := by
 have hcl := cl_eq (c := c) (m := m) (i := i) hg
 obtain ⟨k, p, nn⟩ := i
 obtain ⟨⟨o0, o1⟩, -⟩ := insE_zero.1 hi
 obtain ⟨j, hj, hj2⟩ : ∃ j : Nat, k = (j : Int) ∧ j < 23 := by
  replace o0 : 0 ≤ k := o0
  replace o1 : k ≤ 22 := o1
  exact ⟨k.toNat, by omega, by omega⟩
 subst hj
 match j, hj2 with
 | 0, _ => rfl
 | 1, _ => rfl
 | 2, _ => rfl
 | 3, _ => rfl
 | 4, _ => rfl
 | 5, _ => rfl
 | 6, _ => rfl
 | 7, _ => rfl
 | 8, _ => rfl
 | 9, _ => rfl
 | 10, _ => rfl
 | 11, _ => rfl
 | 12, _ => rfl
 | 13, _ => rfl
 | 14, _ => rfl
 | 15, _ =>
  show (if ((15 : Nat) : Int) = 14 ∨ ((15 : Nat) : Int) = 15 ∧ c.a = 0 ∨ ((15 : Nat) : Int) = 16 ∧ c.a < 0 then okC { c with off := nn } else okC { c with off := c.off + 1 }) = okC (if ((15 : Nat) : Int) = 14 ∨ ((15 : Nat) : Int) = 15 ∧ c.a = 0 ∨ ((15 : Nat) : Int) = 16 ∧ c.a < 0 then { c with off := nn } else { c with off := c.off + 1 })
  split <;> rfl
 | 16, _ =>
  show (if ((16 : Nat) : Int) = 14 ∨ ((16 : Nat) : Int) = 15 ∧ c.a = 0 ∨ ((16 : Nat) : Int) = 16 ∧ c.a < 0 then okC { c with off := nn } else okC { c with off := c.off + 1 }) = okC (if ((16 : Nat) : Int) = 14 ∨ ((16 : Nat) : Int) = 15 ∧ c.a = 0 ∨ ((16 : Nat) : Int) = 16 ∧ c.a < 0 then { c with off := nn } else { c with off := c.off + 1 })
  split <;> rfl
 | 17, _ => rfl
 | 18, _ => rfl
 | 19, _ => rfl
 | 20, _ =>
  show (if clE c m ⟨((20 : Nat) : Int), p, nn⟩ ≠ 0 then flt (clE c m ⟨((20 : Nat) : Int), p, nn⟩) else okC (clT c m ⟨((20 : Nat) : Int), p, nn⟩)) = _
  rw [hcl]
  rfl
 | 21, _ => rfl
 | 22, _ => rfl
theorem x_build (c : Cp) (h4 : c.ps.length = 4) (va : Option Addr) (vn vc bm : Nat) (w : World) : (Instr.build 173 #[(0, .agg (stCs c (.slice va vn vc)).toArray), (1, memI bm)]).run Tryz.prog w = .ok (.agg (stCs c (.slice va vn vc) ++ rest3 bm 0 false).toArray) w := by
 obtain ⟨p0, p1, p2, p3, hps⟩ := four h4
 have h1 := Tryz.underlying173
 have h2 := Tryz.underlying45
 unfold stCs
 rw [hps]
 go_simp
theorem start4 (w : World) (cs : List Value) (T1 T2 T3 T4 T5 : TypeId) : BlkL w.heap.size cs (((((w.alloc (.cells cs.toArray T1)).alloc (.cells zS T2)).alloc (.cells #[.int .i64 0] T3)).alloc (.cells #[.bool false] T4)).alloc (.cells #[.int .i64 0] T5)) ∧ R4 w.heap.size (stCs zeroC nilS) 0 false 0 (((((w.alloc (.cells cs.toArray T1)).alloc (.cells zS T2)).alloc (.cells #[.int .i64 0] T3)).alloc (.cells #[.bool false] T4)).alloc (.cells #[.int .i64 0] T5)) ∧ Below w.heap.size w (((((w.alloc (.cells cs.toArray T1)).alloc (.cells zS T2)).alloc (.cells #[.int .i64 0] T3)).alloc (.cells #[.bool false] T4)).alloc (.cells #[.int .i64 0] T5)) ∧ (((((w.alloc (.cells cs.toArray T1)).alloc (.cells zS T2)).alloc (.cells #[.int .i64 0] T3)).alloc (.cells #[.bool false] T4)).alloc (.cells #[.int .i64 0] T5)).heap.size = w.heap.size + 5 := by
 have b1 := alloc_below w (.cells cs.toArray T1)
 have m1 := blkl_alloc w cs.toArray T1
 have s1 := World.size_alloc w (.cells cs.toArray T1)
 generalize w.alloc (.cells cs.toArray T1) = W1 at *
 have b2 := alloc_below W1 (.cells zS T2)
 have m2 := blkl_alloc W1 zS T2
 have s2 := World.size_alloc W1 (.cells zS T2)
 generalize W1.alloc (.cells zS T2) = W2 at *
 have b3 := alloc_below W2 (.cells #[.int .i64 0] T3)
 have m3 := blkl_alloc W2 #[.int .i64 0] T3
 have s3 := World.size_alloc W2 (.cells #[.int .i64 0] T3)
 generalize W2.alloc (.cells #[.int .i64 0] T3) = W3 at *
 have b4 := alloc_below W3 (.cells #[.bool false] T4)
 have m4 := blkl_alloc W3 #[.bool false] T4
 have s4 := World.size_alloc W3 (.cells #[.bool false] T4)
 generalize W3.alloc (.cells #[.bool false] T4) = W4 at *
 have b5 := alloc_below W4 (.cells #[.int .i64 0] T5)
 have m5 := blkl_alloc W4 #[.int .i64 0] T5
 have s5 := World.size_alloc W4 (.cells #[.int .i64 0] T5)
 generalize W4.alloc (.cells #[.int .i64 0] T5) = W5 at *
 have e2 : W1.heap.size = w.heap.size + 1 := by omega
 have e3 : W2.heap.size = w.heap.size + 2 := by omega
 have e4 : W3.heap.size = w.heap.size + 3 := by omega
 have e5 : W4.heap.size = w.heap.size + 4 := by omega
 have k1 := stab_blk _ _ _ _ (stab_blk _ _ _ _ (stab_blk _ _ _ _ (stab_blk _ _ _ _ m1 b2) b3) b4) b5
 have k2 := stab_blk _ _ _ _ (stab_blk _ _ _ _ (stab_blk _ _ _ _ m2 b3) b4) b5
 have k3 := stab_blk _ _ _ _ (stab_blk _ _ _ _ m3 b4) b5
 have k4 := stab_blk _ _ _ _ m4 b5
 rw [e2] at k2
 rw [e3] at k3
 rw [e4] at k4
 rw [e5] at m5
 exact ⟨k1, ⟨k2, k3, k4, m5⟩, Below.then (Below.then (Below.then (Below.then b1 b2) b3) b4) b5, by omega⟩
theorem results_r4 {fn : Func} (h : fn.results = #[.cell 4 45, .cell 5 2, .cell 6 4, .cell 7 48]) (tmps : Array Value) (w : World) (b : Nat) (h4 : tmps.getD 4 undef = .pointer (some ⟨b + 1, 0, none⟩)) (h5 : tmps.getD 5 undef = .pointer (some ⟨b + 2, 0, none⟩)) (h6 : tmps.getD 6 undef = .pointer (some ⟨b + 3, 0, none⟩)) (h7 : tmps.getD 7 undef = .pointer (some ⟨b + 4, 0, none⟩))
    (t : List Value) (ht : t.length = 18) (o e : Int) (td : Bool) (hr : R4 b t o td e w) : (results fn tmps).run Tryz.prog w = .ok (.tuple #[.agg t.toArray, .int .i64 o, .bool td, .int .i64 e]) w := by
 have g4 : tmps[4]?.getD undef = .pointer (some ⟨b + 1, 0, none⟩) := by simpa using h4
 have g5 : tmps[5]?.getD undef = .pointer (some ⟨b + 2, 0, none⟩) := by simpa using h5
 have g6 : tmps[6]?.getD undef = .pointer (some ⟨b + 3, 0, none⟩) := by simpa using h6
 have g7 : tmps[7]?.getD undef = .pointer (some ⟨b + 4, 0, none⟩) := by simpa using h7
 have hszS : (Tryz.prog.info? 45).map (·.size) = some t.length := by rw [ht]; kernel_rfl
 have e4 := run_loadVar_mid (P := Tryz.prog) w (b + 1) 0 45 t _ hr.s.range Tryz.underlying45 rfl hszS
 have a5 := (hr.o.1 0 _ rfl).1
 have a6 := (hr.t.1 0 _ rfl).1
 have a7 := (hr.e.1 0 _ rfl).1
 have e5 : (loadVar 2 ⟨b + 2, 0, none⟩).run Tryz.prog w = .ok (.int .i64 o) w := by simp [go_sem, a5]
 have e6 : (loadVar 4 ⟨b + 3, 0, none⟩).run Tryz.prog w = .ok (.bool td) w := by simp [go_sem, a6]
 have e7 : (loadVar 48 ⟨b + 4, 0, none⟩).run Tryz.prog w = .ok (.int .i64 e) w := by simp [go_sem, a7]
 simp [results, h, g4, g5, g6, g7, asAddr, e4, e5, e6, e7]
def StP (bm : Nat) (sl : List PG) (n : Int) (O : Ot) (w : World) (e : Ending) (w' : World) : Prop :=
 ∃ v', e = .returned (.tuple #[.agg (stCs O.t v').toArray, .int .i64 O.v, .bool O.told, .int .i64 O.e]) ∧ OwnR 102 3 frc w' w.heap.size v' O.t.st ∧ Wr bm w.heap.size sl n w O.wr w'
theorem Wr.after {bm L : Nat} {sl : List PG} {n : Int} {w W4 W5 W6 : World} {r : Option (Int × Int × Int)} (h : Wr bm L sl n W4 r W5) (hb : Below w.heap.size w W4) (hL : w.heap.size ≤ L) (hf : Far w.heap.size W5 W6) (hm : LowM sl w.heap.size) (hk : ∀ p, r = some p → (knP sl p.1).g.is = true ∧ knP sl p.1 ∈ sl) : Wr bm w.heap.size sl n w r W6 := by
 cases r with
 | none => exact (hb.trans (Below.mono (show Below L W4 W5 from h) hL)).trans (hf.bl.mono (Nat.le_succ _))
 | some p =>
  obtain ⟨g, h1, h2, h3, h4⟩ : WrtM sl p.1 p.2.1 p.2.2 W4 W5 := h
  have hg : g < w.heap.size := hm _ (hk p rfl).2 (hk p rfl).1 g h1
  refine ⟨g, h1, hg, ⟨hf.bl.os.trans (h3.os.trans hb.os), hf.bl.tape.trans (h3.tape.trans hb.tape), hf.bl.output.trans (h3.output.trans hb.output), Nat.le_trans hb.size (Nat.le_trans h3.size hf.bl.size), fun j hj hn => (hf.bl.block j (by omega)).trans ((h3.block j (Nat.lt_of_lt_of_le hj hb.size) hn).trans (hb.block j hj))⟩, ?_⟩
  rw [hf.bl.block g (by omega), h4]
  exact heap_setCell_congr (hb.block g hg) _ _
abbrev zX : Array Value := #[.int .i64 0, .int .i64 0, .int .i64 0, .int .i64 0, .int .i64 0, .int .i64 0, .int .i64 0, .int .i64 0, .int .i64 0, .int .i64 0, .int .i64 0, .int .i64 0, .int .i64 0, .int .i64 0, .int .i64 0, .int .i64 0, .slice none 0 0, .bool false, .nilIface, .int .i64 0, .bool false]
theorem Wr.drew {bm L : Nat} {sl : List PG} {n : Int} {w W : World} {r : Option (Int × Int × Int)} (h : Wr bm L sl n w r W) : Wr bm L sl n w r W.drew := by
 cases r with
 | none => exact Below.drew (show Below L w W from h)
 | some p =>
  obtain ⟨g, h1, h2, h3, h4⟩ : WrtM sl p.1 p.2.1 p.2.2 w W := h
  have hd := (Below.refl W.heap.size W).drew
  exact ⟨g, h1, h2, h3.trans (Sole.of hd), by rw [hd.block g (Nat.lt_of_lt_of_le h2 h3.size)]; exact h4⟩
theorem Wr.size {bm L : Nat} {sl : List PG} {n : Int} {w W : World} {r : Option (Int × Int × Int)} (h : Wr bm L sl n w r W) : w.heap.size ≤ W.heap.size := by
 cases r with
 | none => exact (show Below L w W from h).size
 | some p => exact WrtM.size (show WrtM sl p.1 p.2.1 p.2.2 w W from h)
theorem Wr.block {bm L : Nat} {sl : List PG} {n : Int} {w W : World} {r : Option (Int × Int × Int)} (h : Wr bm L sl n w r W) (j : Nat) (hj : j < L) (hs : j < w.heap.size) (hm : LowM sl j) (hk : ∀ p, r = some p → (knP sl p.1).g.is = true ∧ knP sl p.1 ∈ sl) : W.heap[j]? = w.heap[j]? := by
 cases r with
 | none => exact (show Below L w W from h).block j hj
 | some p =>
  obtain ⟨g, h1, h2, h3, h4⟩ : WrtM sl p.1 p.2.1 p.2.2 w W := h
  have := hm _ (hk p rfl).2 (hk p rfl).1 g h1
  exact h3.block j hs (by omega)
def WK (m : List Sg) (O : Ot) : Prop := ∀ p, O.wr = some p → (kn m p.1).is = true
theorem ite_wk {m : List Sg} {p : Prop} [Decidable p] {x y : Ot} (h1 : p → WK m x) (h2 : ¬ p → WK m y) : WK m (if p then x else y) := by
 by_cases h : p
 ·rw [if_pos h]; exact h1 h
 ·rw [if_neg h]; exact h2 h
theorem okC_wk {m : List Sg} (d : Cp) : WK m (okC d) := fun p q => by cases q
theorem flt_wk {m : List Sg} (e : Int) : WK m (flt e) := fun p q => by cases q
theorem opD_wk (d : Cp) (m : List Sg) (i : Ins) : WK m (opD d m i) := by
 unfold opD
 refine ite_wk (fun _ => okC_wk _) (fun _ => ?_)
 refine ite_wk (fun _ => ite_wk (fun _ => flt_wk _) (fun _ => okC_wk _)) (fun _ => ?_)
 refine ite_wk (fun _ => ite_wk (fun _ => flt_wk _) (fun e => ?_)) (fun _ => ?_)
 ·intro p h
  obtain rfl := Option.some.inj h
  have e' : wrG (kn m (memP d i).s) (memP d i) = 0 := by rw [← wrE_eq]; simpa using e
  unfold wrG at e'
  show (kn m (memP d i).s).is = true
  by_cases q1 : (kn m (memP d i).s).is = false
  ·rw [if_pos q1] at e'; cases e'
  ·simpa using q1
 refine ite_wk (fun _ => okC_wk _) (fun _ => ?_)
 refine ite_wk (fun _ => okC_wk _) (fun _ => ?_)
 refine ite_wk (fun _ => ite_wk (fun _ => flt_wk _) (fun _ => okC_wk _)) (fun _ => ?_)
 refine ite_wk (fun _ => okC_wk _) (fun _ => ?_)
 refine ite_wk (fun _ => okC_wk _) (fun _ => ?_)
 refine ite_wk (fun _ => ite_wk (fun _ => flt_wk _) (fun _ => okC_wk _)) (fun _ => ?_)
 refine ite_wk (fun _ => okC_wk _) (fun _ => ?_)
 refine ite_wk (fun _ => ite_wk (fun _ => flt_wk _) (fun _ => okC_wk _)) (fun _ => ?_)
 refine ite_wk (fun _ => ite_wk (fun _ => flt_wk _) (fun _ => okC_wk _)) (fun _ => ?_)
 refine ite_wk (fun _ => ?_) (fun _ => okC_wk _)
 exact fun p q => by cases q
theorem opD_wr {d : Cp} {m : List PG} {i : Ins} {p : Int × Int × Int} (h : (opD d (m.map (·.g)) i).wr = some p) : (knP m p.1).g.is = true ∧ knP m p.1 ∈ m := by
 have hw := opD_wk d (m.map (·.g)) i
 generalize opD d (m.map (·.g)) i = O at h hw
 have key : (kn (m.map (·.g)) p.1).is = true := hw p h
 have h1 := knP_mem key
 exact ⟨by rw [knP_g]; exact key, h1.1⟩
theorem opD_flt {d : Cp} {m : List Sg} {i : Ins} (h : (opD d m i).e ≠ 0) : opD d m i = flt (opD d m i).e := by
 unfold opD at h ⊢
 by_cases c0 : i.o = 0
 ·rw [if_pos c0] at h ⊢
  exact absurd rfl h
 rw [if_neg c0] at h ⊢
 by_cases c1 : i.o = 1 ∨ 4 ≤ i.o ∧ i.o ≤ 11
 ·rw [if_pos c1] at h ⊢
  by_cases e : rdE d m i ≠ 0
  ·rw [if_pos e]; rfl
  ·rw [if_neg e] at h; exact absurd rfl h
 rw [if_neg c1] at h ⊢
 by_cases c2 : i.o = 2
 ·rw [if_pos c2] at h ⊢
  by_cases e : wrE d m i ≠ 0
  ·rw [if_pos e]; rfl
  ·rw [if_neg e] at h; exact absurd rfl h
 rw [if_neg c2] at h ⊢
 by_cases c3 : i.o = 3
 ·rw [if_pos c3] at h ⊢
  exact absurd rfl h
 rw [if_neg c3] at h ⊢
 by_cases c4 : i.o = 12
 ·rw [if_pos c4] at h ⊢
  exact absurd rfl h
 rw [if_neg c4] at h ⊢
 by_cases c5 : i.o = 13
 ·rw [if_pos c5] at h ⊢
  by_cases e : toE d.a ≠ 0
  ·rw [if_pos e]; rfl
  ·rw [if_neg e] at h; exact absurd rfl h
 rw [if_neg c5] at h ⊢
 by_cases c6 : 14 ≤ i.o ∧ i.o ≤ 16
 ·rw [if_pos c6] at h ⊢
  exact absurd rfl h
 rw [if_neg c6] at h ⊢
 by_cases c7 : i.o = 17
 ·rw [if_pos c7] at h ⊢
  exact absurd rfl h
 rw [if_neg c7] at h ⊢
 by_cases c8 : i.o = 18
 ·rw [if_pos c8] at h ⊢
  by_cases e : rdE d m i ≠ 0
  ·rw [if_pos e]; rfl
  ·rw [if_neg e] at h; exact absurd rfl h
 rw [if_neg c8] at h ⊢
 by_cases c9 : i.o = 19
 ·rw [if_pos c9] at h ⊢
  exact absurd rfl h
 rw [if_neg c9] at h ⊢
 by_cases c10 : i.o = 20
 ·rw [if_pos c10] at h ⊢
  by_cases e : clG (mSeg d m i) (memP d i) d.st.length ≠ 0
  ·rw [if_pos e]; rfl
  ·rw [if_neg e] at h; exact absurd rfl h
 rw [if_neg c10] at h ⊢
 by_cases c11 : i.o = 21
 ·rw [if_pos c11] at h ⊢
  by_cases e : rtE d ≠ 0
  ·rw [if_pos e]; rfl
  ·rw [if_neg e] at h; exact absurd rfl h
 rw [if_neg c11] at h ⊢
 by_cases c12 : i.o = 22
 ·rw [if_pos c12] at h ⊢
  exact absurd rfl h
 rw [if_neg c12] at h ⊢
 exact absurd rfl h
theorem errno_store (w : World) (y : Addr) (u : Value) (x : Int) (hc : w.cell? y = some u) (hf : w.frozen? y = false) : (Instr.storeAt 48 (.pointer (some y)) (.int .i64 x)).run Tryz.prog w = .ok () (w.setCell y (.int .i64 x)) := by
 have h1 := Tryz.underlying48
 go_simp
theorem bool_load (w : World) (y : Addr) (v : Value) (h : w.cell? y = some v) : (Instr.loadAt 4 (.pointer (some y))).run Tryz.prog w = .ok v w := by
 have h1 := Tryz.underlying4
 go_simp
theorem StP.fault {bm : Nat} {sl : List PG} {n : Int} {w w' : World} (E : Int) (hb : Below w.heap.size w w') : StP bm sl n (flt E) w (.returned (.tuple #[.agg (stCs zeroC nilS).toArray, .int .i64 0, .bool false, .int .i64 E])) w' := ⟨nilS, rfl, OwnR.nil _ _ _ _ _, hb⟩
theorem leaves_tmps {P : Program} {fn : Func} {t1 t2 : Array Value} {R : Ending → World → Prop} (h : results fn t1 = results fn t2) : ∀ (ds : List Deferred) (u : FrameMode) (w : World), Leaves P fn t1 R ds u w → Leaves P fn t2 R ds u w
 | [], .returning, w, k => by
  obtain ⟨v, h1, h2⟩ := k
  exact ⟨v, by rw [← h]; exact h1, h2⟩
 | [], .panicking chain, w, k => k
 | [], .run, _, k => k
 | d :: ds, u, w, k => by
  obtain ⟨h1, fv, cap, f, args, h2, h3, h5⟩ := k
  refine ⟨h1, fv, cap, f, args, h2, h3, CallsD.mono h5 ?_⟩
  intro e u' w' q
  cases e with
  | returned v => exact leaves_tmps h ds _ _ q
  | panicked chain => exact leaves_tmps h ds _ _ q
  | outgrown => exact q
theorem step_hQ {R : Ending → World → Prop} {k : Nat} {v : Value} (hk : 8 ≤ k) (c : List PanicEntry) (a : Act) (w : World) (h : bodyPostD Tryz.prog Tryz.f57 R (.panic c) (a.put (some k) v) w) : bodyPostD Tryz.prog Tryz.f57 R (.panic c) a w := by
 refine leaves_tmps ?_ _ _ _ (show Leaves Tryz.prog Tryz.f57 (a.put (some k) v).tmps R a.defers (.panicking c) w from h)
 have e : ∀ j, j < 8 → (a.tmps.setIfInBounds k v)[j]? = a.tmps[j]? := fun j hj => by
  rw [Array.getElem?_setIfInBounds]
  rw [if_neg (by omega)]
 have hr : Tryz.f57.results = #[.cell 4 45, .cell 5 2, .cell 6 4, .cell 7 48] := rfl
 simp [results, hr, Act.put, e 4 (by omega), e 5 (by omega), e 6 (by omega), e 7 (by omega)]
end Go.Proofs.YtidihdiffiffmaaGreatDoor
namespace Go.Proofs.YtidihdiffiffmaaGreatDoor
open Go.RowKit
set_option maxRecDepth 8000
set_option linter.unusedSimpArgs false
set_option linter.unusedVariables false
set_option maxRecDepth 8000 in
set_option maxHeartbeats 8000000 in
theorem cstep_any (c : Cp) (hc : c.Ok) (a1 : Option Addr) (c1 : Nat) (hn1 : a1 = none → c1 = 0) (bm : Nat) (a : Option Addr) (cap : Nat) (m : List PG) (hm : MG m) (is : Bool) (s o y n : Int) (hn : 0 ≤ n ∧ n < 1000000) (w : World) (hr1 : RowAt 3 frc w a1 c.st) (hN : MAt bm a cap m w) :
    Calls Tryz.prog 57 #[.agg (stCs c (.slice a1 c.st.length c1)).toArray, memI bm] w (StP bm m n (stepC c (m.map (·.g))) w) := by
 have hmf : ∀ (fn : Fn) (first cap : Array Value) (w : World), (Instr.makeFunc fn first cap).run Tryz.prog w = .ok (.func fn first cap) w := fun _ _ _ _ => rfl
 have hundS := Tryz.underlying45
 have hszS : (Tryz.prog.info? 45).map (·.size) = some 18 := by kernel_rfl
 have h4 := hc.ps
 obtain ⟨k1, hr4, hB0, hsz0⟩ := start4 w (stCs c (.slice a1 c.st.length c1)) 45 45 2 4 48
 have hs0 : StAt w.heap.size c (.slice a1 c.st.length c1) (((((w.alloc (.cells (stCs c (.slice a1 c.st.length c1)).toArray 45)).alloc (.cells zS 45)).alloc (.cells #[.int .i64 0] 2)).alloc (.cells #[.bool false] 4)).alloc (.cells #[.int .i64 0] 48)) := ⟨h4, k1⟩
 have x16 := hs0.stk
 have hrow0 := hr1.below frc_len hB0
 have hbm := hN.low
 have hlen := hc.st
 have kcl := cclone_any a1 c1 c.st hn1 (by omega) (((((w.alloc (.cells (stCs c (.slice a1 c.st.length c1)).toArray 45)).alloc (.cells zS 45)).alloc (.cells #[.int .i64 0] 2)).alloc (.cells #[.bool false] 4)).alloc (.cells #[.int .i64 0] 48)) hrow0
 have hN0 := hN.below hB0
 clear k1 hr1 hrow0
 obtain ⟨X, hX⟩ : ∃ X, stCs c (.slice a1 c.st.length c1) = X := ⟨_, rfl⟩
 simp only [hX] at hs0 hr4 hB0 hsz0 x16 kcl hN0
 rw [hX]
 clear hX
 go_enter_defers Tryz.func57, Tryz.ntmps57
 go_upto_region 2 with fail
 generalize (((((w.alloc (.cells X.toArray 45)).alloc (.cells zS 45)).alloc (.cells #[.int .i64 0] 2)).alloc (.cells #[.bool false] 4)).alloc (.cells #[.int .i64 0] 48)) = W0 at *
 have x16f := (hs0.blk.1 16 _ (st_stk h4)).2
 go_wp2_with fail
 refine kcl.mono ?_
 rintro e W1 ⟨v, rfl, ho, hb⟩
 obtain ⟨va, vc, hv, -, -, -⟩ := ho.slice frc_len
 subst hv
 have hs1 := hs0.keep hb
 have hr41 := hr4.keep hb
 have hB1 := Below.then hB0 hb
 have hN1 := hN0.below hb
 have y16 := hs1.stk
 have y16f := (hs1.blk.1 16 _ (st_stk h4)).2
 have hs2 := hs1.setStk (.slice va c.st.length vc)
 have hr42 : R4 w.heap.size (stCs zeroC nilS) 0 false 0 (W1.setCell ⟨w.heap.size, 16, none⟩ (.slice va c.st.length vc)) := hr41.same (fun j _ hj => heap_setCell_other _ ⟨w.heap.size, 16, none⟩ j _ (by show j ≠ w.heap.size; omega)) (by simp)
 have hB2 := hB1.setCell (p := ⟨w.heap.size, 16, none⟩) (Nat.le_refl _) (.slice va c.st.length vc)
 have hN2 := hN.below hB2
 have hO2 : OwnR 102 3 frc (W1.setCell ⟨w.heap.size, 16, none⟩ (.slice va c.st.length vc)) (w.heap.size + 5) (.slice va c.st.length vc) c.st := by
  rw [hsz0] at ho
  exact ho.keep fun k hk => heap_setCell_other _ ⟨w.heap.size, 16, none⟩ k _ (by have := (ho.lt hk).1; show k ≠ w.heap.size; omega)
 have hsz1 : w.heap.size + 5 ≤ (W1.setCell ⟨w.heap.size, 16, none⟩ (.slice va c.st.length vc)).heap.size := by have := hb.size; simp; omega
 clear hs1 hr41 hB1 hN1 ho hb kcl hs0 hr4 hB0 hN0 x16 x16f hsz0
 go_upto_region 3 with fail
 generalize W1.setCell ⟨w.heap.size, 16, none⟩ (.slice va c.st.length vc) = W2 at *
 clear y16 y16f
 have y17 := hs2.hl
 have hrs := hs2.blk.range
 have hlS : (stCs c (.slice va c.st.length vc)).length = 18 := st_len h4
 have hone := st_one c (.slice va c.st.length vc) rfl
 have hbd := x_build c h4 va c.st.length vc bm
 cases hhl : c.hl with
 | true =>
  have hst : stepC c (m.map (·.g)) = okC c := by unfold stepC; rw [if_pos hhl]
  rw [hhl] at y17
  obtain ⟨WA, hWA, hth, hA, hF, -, -, hD⟩ := hr42.put (stCs c (.slice va c.st.length vc)) (by rw [hlS]; rfl) (by rw [hlS]; decide) 0 false 0
  have hF4 := far4 hF 0 0 false
  have a2 := (hA.o.1 0 _ rfl).1
  have f2 := (hA.o.1 0 _ rfl).2
  have a3 := (hA.t.1 0 _ rfl).1
  have f3 := (hA.t.1 0 _ rfl).2
  have a4 := (hA.e.1 0 _ rfl).1
  have f4 := (hA.e.1 0 _ rfl).2
  have hO4 : OwnR 102 3 frc (((WA.setCell ⟨w.heap.size + 2, 0, none⟩ (.int .i64 0)).setCell ⟨w.heap.size + 3, 0, none⟩ (.bool false)).setCell ⟨w.heap.size + 4, 0, none⟩ (.int .i64 0)) w.heap.size (.slice va c.st.length vc) c.st := (hO2.keep fun k hk => hF4.up k (by have := (hO2.lt hk).1; omega)).lower (by omega)
  have hB4 := hB2.trans (hF4.bl.mono (Nat.le_succ _))
  replace hst : Aside (stepC c (m.map (·.g)) = okC c) := hst
  obtain ⟨Y, hY⟩ : ∃ Y, stCs c (.slice va c.st.length vc) = Y := ⟨_, rfl⟩
  rw [hY] at hWA hth hD hrs hone hlS
  have hszY : (Tryz.prog.info? 45).map (·.size) = some Y.length := by rw [hlS]; exact hszS
  replace hY : Aside (stCs c (.slice va c.st.length vc) = Y) := hY
  clear hF hF4 hA hs2 hr42 hB2 hN2 hO2 hbd hhl
  go_wp2_with (first | (refine wpList_load_row rfl _ rfl w.heap.size rfl Y hrs hundS rfl hszY ?_) | (refine wpList_store_row rfl _ _ rfl (w.heap.size + 1) rfl Y rfl hth hszY hone hWA ?_) | fail)
  refine leaves_cons (f := 89) (args := #[.pointer (some ⟨w.heap.size + 1, 0, none⟩), .pointer (some ⟨w.heap.size + 2, 0, none⟩), .pointer (some ⟨w.heap.size + 3, 0, none⟩), .pointer (some ⟨w.heap.size + 4, 0, none⟩)]) (by simp) (by simp [go_sem]) ?_
  refine (catch_idle _ _ _ _ _).mono ?_
  rintro e u' w'' ⟨rfl, rfl, rfl⟩
  refine ⟨_, results_r4 rfl _ _ w.heap.size rfl rfl rfl rfl Y hlS 0 0 false hD, ?_⟩
  rw [hst.out]
  exact ⟨.slice va c.st.length vc, by rw [← hY.out]; rfl, hO4, hB4⟩
 | false =>
 rw [hhl] at y17
 have hszX : (Tryz.prog.info? 173).map (·.size) = some 21 := by kernel_rfl
 have hlX : (stCs c (.slice va c.st.length vc) ++ rest3 bm 0 false).length = 21 := by rw [List.length_append, hlS]; rfl
 have honeX : ∀ u ∈ stCs c (.slice va c.st.length vc) ++ rest3 bm 0 false, u.oneCell' = true := fun u hu => by
  rcases List.mem_append.1 hu with hu | hu
  ·exact hone u hu
  ·simp at hu
   rcases hu with rfl | rfl | rfl <;> rfl
 obtain ⟨W3, hW3, hth3, hx3, hb3⟩ := put_new W2 zX 173 (stCs c (.slice va c.st.length vc) ++ rest3 bm 0 false) (by rw [hlX]; rfl) (by rw [hlX]; decide)
 have hx3' : XAt W2.heap.size c (.slice va c.st.length vc) (rest3 bm 0 false) W3 := ⟨h4, hx3⟩
 have h3 : XO W2.heap.size bm (w.heap.size + 5) a cap m is s o y n c (.slice va c.st.length vc) W3 := ⟨hm, hc, hx3', hO2.below hb3, hN2.below hb3, hbm.mono (by omega), hn, hsz1, by have := hN.lt; omega, fun q => by have := (hO2.lt q).2; omega⟩
 have hr43 := hr42.keep hb3
 have hB3 := Below.then hB2 hb3
 have hst : stepC c (m.map (·.g)) = if fetE c (m.map (·.g)) ≠ 0 then flt (fetE c (m.map (·.g))) else opC c (m.map (·.g)) (fetI c (m.map (·.g))) := by unfold stepC; rw [if_neg (by rw [hhl]; decide)]
 have hgs : ∀ g ∈ m.map (·.g), g.Ok := fun g hg => by obtain ⟨x, hx, rfl⟩ := List.mem_map.1 hg; exact hm.ok x hx
 have kfe := cfetch_any bm W2.heap.size a cap m hm c (.slice va c.st.length vc) [.int .i64 0, .bool false] (kn (m.map (·.g)) c.seg) rfl (fetE c (m.map (·.g))) rfl W3 h3.at h3.x
 obtain ⟨SC, hSC⟩ : ∃ SC, stepC c (m.map (·.g)) = SC := ⟨_, rfl⟩
 rw [hSC] at hst
 replace hSC : Aside (stepC c (m.map (·.g)) = SC) := hSC
 replace hst : Aside (SC = if fetE c (m.map (·.g)) ≠ 0 then flt (fetE c (m.map (·.g))) else opC c (m.map (·.g)) (fetI c (m.map (·.g)))) := hst
 have hXX : Aside (∀ W b, XAt b c (.slice va c.st.length vc) (rest3 bm 0 false) W → BlkL b (stCs c (.slice va c.st.length vc) ++ rest3 bm 0 false) W) := fun W b h => h.blk
 obtain ⟨Y, hY⟩ : ∃ Y, stCs c (.slice va c.st.length vc) = Y := ⟨_, rfl⟩
 obtain ⟨YX, hYX⟩ : ∃ YX, stCs c (.slice va c.st.length vc) ++ rest3 bm 0 false = YX := ⟨_, rfl⟩
 simp only [hYX] at hW3 hth3 hlX honeX hbd
 simp only [hY] at hrs hlS hbd
 have hszY : (Tryz.prog.info? 45).map (·.size) = some Y.length := by rw [hlS]; exact hszS
 have hszYX : (Tryz.prog.info? 173).map (·.size) = some YX.length := by rw [hlX]; exact hszX
 have hbxl := h3.lx
 clear hXX hY hYX hx3 hx3' hb3 hs2 hr42 hB2 hN2 hO2 hhl hlX hone hsz1 hszX
 go_upto_region 6 with (first | (refine wpList_load_row rfl _ rfl w.heap.size rfl Y hrs hundS rfl hszY ?_) | (refine wpList_buildv rfl _ rfl #[(0, .agg Y.toArray), (1, memI bm)] (by simp [Act.eval]) (hbd _) ?_) | (refine wpList_store_row rfl _ _ rfl W2.heap.size rfl YX rfl hth3 hszYX honeX hW3 ?_) | fail)
 clear hW3 hth3 hszYX honeX hbd hrs hlS hszY y17
 generalize W2.heap.size = bx at *
 have hbmx : bm < w.heap.size + 5 := h3.bl
 go_wp2_with fail
 refine kfe.mono ?_
 rintro e W4 (⟨hE, rfl, hb⟩ | ⟨hE, rfl, hX4, hS4⟩)
 ·have hst2 : Aside (SC = flt (fetE c (m.map (·.g)))) := by
    show _ = _
    rw [hst.out, if_pos hE]
  have hr44 := hr43.keep hb
  have hB4 := Below.then hB3 hb
  clear hst kfe h3 hr43 hB3
  go_wp2_with fail
  refine leaves_cons (f := 89) (args := #[.pointer (some ⟨w.heap.size + 1, 0, none⟩), .pointer (some ⟨w.heap.size + 2, 0, none⟩), .pointer (some ⟨w.heap.size + 3, 0, none⟩), .pointer (some ⟨w.heap.size + 4, 0, none⟩)]) (by simp) (by simp [go_sem]) ?_
  refine (catch_panicking w.heap.size (stCs zeroC nilS) rfl 0 0 false (fetE c (m.map (·.g))) W4 hr44).mono ?_
  rintro e u' w'' ⟨rfl, rfl, hr9, hF⟩
  refine ⟨_, results_r4 rfl _ _ w.heap.size rfl rfl rfl rfl (stCs zeroC nilS) rfl 0 (fetE c (m.map (·.g))) false hr9, ?_⟩
  rw [hSC.out, hst2.out]
  exact StP.fault _ (hB4.trans (hF.bl.mono (Nat.le_succ _)))
 have hi := fet_ok hgs hE
 have hst2 : Aside (SC = opD { c with off := c.off + 1 } (m.map (·.g)) (fetI c (m.map (·.g)))) := by
  show _ = _
  rw [hst.out, if_neg (by simpa using hE), op_eq (kn_ok hgs _) hi]
 have h4' : XO bx bm (w.heap.size + 5) a cap m is s o y n { c with off := c.off + 1 } (.slice va c.st.length vc) W4 := ⟨hm, ⟨hc.ps, hc.pp, hc.ring, hc.a, hc.st, hc.sr⟩, hX4, hS4.own h3.own h3.vx, hN.below (hS4.below hB3 (by omega) hB3.size), h3.lw, hn, h3.lx, h3.bl, h3.vx⟩
 have hr44 : R4 w.heap.size (stCs zeroC nilS) 0 false 0 W4 := hr43.same (fun j hj _ => hS4.block j (by have := hr43.e.2; omega) (by omega)) hS4.size
 have hB4 : Below w.heap.size w W4 := hS4.below hB3 (by omega) hB3.size
 have kdo0 := fun (i : Ins) (q : insE i = 0) => cdo_any h4' i q
 have kdo : ∀ i, fetI c (m.map (·.g)) = i → Calls Tryz.prog 92 #[.pointer (some ⟨bx, 0, none⟩), .agg (ins3 i).toArray] W4 (DoP bx bm (w.heap.size + 5) m n SC W4) := fun i q => by
  have e : SC = opD { c with off := c.off + 1 } (m.map (·.g)) i := by rw [← q]; exact hst2.out
  rw [e]
  exact kdo0 i (by rw [← q]; exact hi)
 obtain ⟨i, hfi⟩ : ∃ i, fetI c (m.map (·.g)) = i := ⟨_, rfl⟩
 have hfi2 : decI (wAt (kn (m.map (·.g)) c.seg) c.off) = i := hfi
 rw [hfi2]
 have kdo := kdo i hfi
 have hwk : ∀ p, SC.wr = some p → (knP m p.1).g.is = true ∧ knP m p.1 ∈ m := fun p q => by rw [hst2.out] at q; exact opD_wr q
 have hflt : Aside (SC.e ≠ 0 → SC = flt SC.e) := fun q => by rw [hst2.out] at q ⊢; exact opD_flt q
 clear hst kfe h3 hr43 hB3 hX4 hS4 hE hi hfi hfi2 hgs hst2 kdo0
 go_wp2_with fail
 refine kdo.mono ?_
 rintro e W5 (⟨hE, rfl, hb⟩ | ⟨hE, ⟨qq, rfl⟩, v5, hX5, hO5, hw5⟩)
 ·have hr45 := hr44.keep hb
  have hB5 := Below.then hB4 hb
  clear kdo h4' hr44 hB4
  go_wp2_with fail
  refine leaves_cons (f := 89) (args := #[.pointer (some ⟨w.heap.size + 1, 0, none⟩), .pointer (some ⟨w.heap.size + 2, 0, none⟩), .pointer (some ⟨w.heap.size + 3, 0, none⟩), .pointer (some ⟨w.heap.size + 4, 0, none⟩)]) (by simp) (by simp [go_sem]) ?_
  refine (catch_panicking w.heap.size (stCs zeroC nilS) rfl 0 0 false (SC.e) W5 hr45).mono ?_
  rintro e u' w'' ⟨rfl, rfl, hr9, hF⟩
  refine ⟨_, results_r4 rfl _ _ w.heap.size rfl rfl rfl rfl (stCs zeroC nilS) rfl 0 (SC.e) false hr9, ?_⟩
  rw [hSC.out, hflt.out hE]
  exact StP.fault _ (hB5.trans (hF.bl.mono (Nat.le_succ _)))
 have hr45 : R4 w.heap.size (stCs zeroC nilS) 0 false 0 W5 := hr44.same (fun j hj hj2 => hw5.block j hj (by have := hr44.e.2; omega) (hbm.mono (by omega)) hwk) hw5.size
 clear kdo h4' hr44
 go_upto_region 7 with fail
 have hdr := (Below.refl W5.heap.size W5).drew
 have hX6 := hX5.keep hdr
 have hO6 := hO5.below hdr
 have hr46 := hr45.keep hdr
 have hw6 : Wr bm (w.heap.size + 5) m n W4 SC.wr W5.drew := hw5.drew
 clear hX5 hO5 hr45 hw5 hdr
 refine wp_region_held_drew (S := (XAt bx SC.t v5 (rest3 bm SC.v SC.told))) (by kernel_rfl) (by exact hX6) ?_
 intro hHeld
 generalize W5.drew = w0 at *
 have hlT : (stCs SC.t v5).length = 18 := st_len hX6.ps
 obtain ⟨WA, hWA, hth, hA, hF, hRB, hRC, hD⟩ := hr46.put (stCs SC.t v5) (by rw [hlT]; rfl) (by rw [hlT]; decide) SC.v SC.told 0
 have hFB := hF.set (w.heap.size + 2) (by omega) 0 (.int .i64 SC.v)
 have hFC := hFB.set (w.heap.size + 3) (by omega) 0 (.bool SC.told)
 have hF4 := far4 hF SC.v 0 SC.told
 have hXA := hF.x hX6 hbxl
 have hXB := hFB.x hX6 hbxl
 have hXC := hFC.x hX6 hbxl
 have hXD := hF4.x hX6 hbxl
 obtain ⟨wa, wc, hwv, -, -, -⟩ := hO6.slice frc_len
 have hone := st_one SC.t v5 (by rw [hwv]; rfl)
 have hszT : (Tryz.prog.info? 45).map (·.size) = some (stCs SC.t v5).length := by rw [hlT]; exact hszS
 have hO9 : OwnR 102 3 frc (((WA.setCell ⟨w.heap.size + 2, 0, none⟩ (.int .i64 SC.v)).setCell ⟨w.heap.size + 3, 0, none⟩ (.bool SC.told)).setCell ⟨w.heap.size + 4, 0, none⟩ (.int .i64 0)) w.heap.size v5 SC.t.st := (hO6.keep fun k hk => hF4.up k (by have := (hO6.lt hk).1; omega)).lower (by omega)
 have hW9 := hw6.after hB4 (by omega) hF4 hbm hwk
 obtain ⟨Y, hY⟩ : ∃ Y, stCs SC.t v5 = Y := ⟨_, rfl⟩
 have hsY : ∀ W, XAt bx SC.t v5 (rest3 bm SC.v SC.told) W → W.rangeAt bx 0 Y := fun W h => by rw [← hY]; exact h.st
 simp only [hY] at hWA hth hone hszT hlT hD hRB hRC hA
 replace hY : Aside (stCs SC.t v5 = Y) := hY
 clear hF hFB hFC hF4 hw6 hB4 hr46 hO6 hwv
 refine wpAnyH_take (i := 0) (v := ?_) (by simp only [zgA, zgB, zgC]; rfl) (by kernel_rfl) (by kernel_rfl) (by kernel_rfl) (by exact step_hQ (by decide)) (Or.inl ⟨by rfl, ?_⟩) (by assumption) ?_; rotate_left; (focus (intro w hSw; (try dsimp only at hSw); go_simp; try with_reducible rfl)); (try simp only [Act.put, zsA, zsB, zsC])
 refine wpAnyH_take (i := 1) (v := _) (by simp only [zgA, zgB, zgC]; rfl) (by kernel_rfl) (by kernel_rfl) (by kernel_rfl) (by exact step_hQ (by decide)) (yieldsIf_load_mid (by rfl) 45 _ rfl bx 0 rfl Y _ (fun W s => hsY W s) hundS rfl hszT) (by assumption) ?_; (try simp only [Act.put, zsA, zsB, zsC])
 refine wpAnyH_take (i := 2) (v := ?_) (by simp only [zgA, zgB, zgC]; rfl) (by kernel_rfl) (by kernel_rfl) (by kernel_rfl) (by exact step_hQ (by decide)) (Or.inl ⟨by rfl, ?_⟩) (by assumption) ?_; rotate_left; (focus (intro w hSw; (try dsimp only at hSw); go_simp; try with_reducible rfl)); (try simp only [Act.put, zsA, zsB, zsC])
 refine wpAnyH_take (i := 3) (v := _) (by simp only [zgA, zgB, zgC]; rfl) (by kernel_rfl) (by kernel_rfl) (by kernel_rfl) (by exact step_hQ (by decide)) (yields_cellI (by rfl) _ rfl ⟨bx, 19, none⟩ rfl (.int .i64 SC.v) (fun _ s => (s.tails (i := 1) rfl).1) int64_load) (by assumption) ?_; (try simp only [Act.put, zsA, zsB, zsC])
 refine wpAnyH_take (i := 4) (v := ?_) (by simp only [zgA, zgB, zgC]; rfl) (by kernel_rfl) (by kernel_rfl) (by kernel_rfl) (by exact step_hQ (by decide)) (Or.inl ⟨by rfl, ?_⟩) (by assumption) ?_; rotate_left; (focus (intro w hSw; (try dsimp only at hSw); go_simp; try with_reducible rfl)); (try simp only [Act.put, zsA, zsB, zsC])
 refine wpAnyH_take (i := 5) (v := _) (by simp only [zgA, zgB, zgC]; rfl) (by kernel_rfl) (by kernel_rfl) (by kernel_rfl) (by exact step_hQ (by decide)) (yields_cellI (by rfl) _ rfl ⟨bx, 20, none⟩ rfl (.bool SC.told) (fun _ s => (s.tails (i := 2) rfl).1) bool_load) (by assumption) ?_; (try simp only [Act.put, zsA, zsB, zsC])
 refine tkR (rs := [6]) ?_
 refine tkC (fun K hK => ?_) AllReadyH.nil
 refine step_store_rowC rfl _ _ rfl (w.heap.size + 1) rfl Y rfl hth hszT hone hWA ?_
 (try simp only [Act.put, zsA, zsB, zsC])
 refine hK.out _ _ (hXA) ?_
 clear hHeld hK
 intro hHeld
 (try simp only [Act.put, zsA, zsB, zsC])
 refine tkR (rs := [7]) ?_
 refine tkC (fun K hK => ?_) AllReadyH.nil
 refine step_st rfl _ _ rfl ⟨w.heap.size + 2, 0, none⟩ rfl (.int .i64 SC.v) rfl (int64_store _ _ _ _ (hA.o.1 0 _ rfl).1 (hA.o.1 0 _ rfl).2) ?_
 (try simp only [Act.put, zsA, zsB, zsC])
 refine hK.out _ _ (hXB) ?_
 clear hHeld hK
 intro hHeld
 (try simp only [Act.put, zsA, zsB, zsC])
 refine tkR (rs := [8]) ?_
 refine tkC (fun K hK => ?_) AllReadyH.nil
 refine step_st rfl _ _ rfl ⟨w.heap.size + 3, 0, none⟩ rfl (.bool SC.told) rfl (bool_store _ _ _ _ (hRB.t.1 0 _ rfl).1 (hRB.t.1 0 _ rfl).2) ?_
 (try simp only [Act.put, zsA, zsB, zsC])
 refine hK.out _ _ (hXC) ?_
 clear hHeld hK
 intro hHeld
 (try simp only [Act.put, zsA, zsB, zsC])
 refine tkR (rs := [9]) ?_
 refine tkC (fun K hK => ?_) AllReadyH.nil
 refine step_st rfl _ _ rfl ⟨w.heap.size + 4, 0, none⟩ rfl (.int .i64 0) rfl (errno_store _ _ _ _ (hRC.e.1 0 _ rfl).1 (hRC.e.1 0 _ rfl).2) ?_
 (try simp only [Act.put, zsA, zsB, zsC])
 refine hK.out _ _ (hXD) ?_
 clear hHeld hK
 intro hHeld
 (try simp only [Act.put, zsA, zsB, zsC])
 refine wpAnyH_done (by kernel_rfl) ?_ _
 go_wp2_with fail
 refine leaves_cons (f := 89) (args := #[.pointer (some ⟨w.heap.size + 1, 0, none⟩), .pointer (some ⟨w.heap.size + 2, 0, none⟩), .pointer (some ⟨w.heap.size + 3, 0, none⟩), .pointer (some ⟨w.heap.size + 4, 0, none⟩)]) (by simp) (by simp [go_sem]) ?_
 refine (catch_idle _ _ _ _ _).mono ?_
 rintro e u' w'' ⟨rfl, rfl, rfl⟩
 refine ⟨_, results_r4 rfl _ _ w.heap.size rfl rfl rfl rfl Y hlT SC.v 0 SC.told hD, ?_⟩
 rw [hSC.out]
 exact ⟨v5, by rw [hY.out, hE], hO9, hW9⟩
end Go.Proofs.YtidihdiffiffmaaGreatDoor
namespace Go.Proofs.YtidihdiffiffmaaGreatDoor
open Go.RowKit
set_option maxRecDepth 8000
set_option linter.unusedSimpArgs false
set_option linter.unusedVariables false
theorem flat_setR {α : Type} {f : α → List Value} {n : Nat} (hf : ∀ a, (f a).length = n) : ∀ (l : List α) (j o : Nat) (x y : α) (u : Value), l[j]? = some x → o < n → (f x).set o u = f y → (l.flatMap f).set (j * n + o) u = (l.set j y).flatMap f
 | [], _, _, _, _, _, h, _, _ => by simp at h
 | b :: r, 0, o, x, y, u, h, ho, he => by
  simp at h
  subst h
  rw [List.set_cons_zero, List.flatMap_cons, List.flatMap_cons, Nat.zero_mul, Nat.zero_add, List.set_append_left _ _ (by rw [hf]; exact ho), he]
 | b :: r, j + 1, o, x, y, u, h, ho, he => by
  simp at h
  rw [List.set_cons_succ, List.flatMap_cons, List.flatMap_cons, List.set_append_right _ _ (by rw [hf, Nat.succ_mul]; omega), hf, show (j + 1) * n + o - n = j * n + o by rw [Nat.succ_mul]; omega]
  rw [flat_setR hf r j o x y u h ho he]
theorem OwnR.formR {α : Type} {e : TypeId} {sz base : Nat} {f : α → List Value} {w : World} {v : Value} {l : List α} (h : OwnR e sz f w base v l) (hl : 0 < l.length) : ∃ g cap, v = .slice (some ⟨g, 0, none⟩) l.length cap ∧ base ≤ g ∧ g < w.heap.size := by
 rcases h.2 with ⟨rfl, h0⟩ | ⟨g, cap, cur, hv, hb, _⟩
 ·omega
 ·exact ⟨g, cap, hv, hb, (h.lt (show v.ownBlock = some g by rw [hv]; rfl)).2⟩
theorem OwnR.storedR {α : Type} {e : TypeId} {sz base g n cap : Nat} {f : α → List Value} {w : World} {l : List α} (hf : ∀ a, (f a).length = sz) (h : OwnR e sz f w base (.slice (some ⟨g, 0, none⟩) n cap) l) (hn : n = l.length) {j o : Nat} {x y : α} {u : Value} (hx : l[j]? = some x) (ho : o < sz) (he : (f x).set o u = f y) :
    OwnR e sz f (w.setCell ⟨g, j * sz + o, none⟩ u) base (.slice (some ⟨g, 0, none⟩) n cap) (l.set j y) ∧ w.frozen? ⟨g, j * sz + o, none⟩ = false ∧ ∃ z, w.cell? ⟨g, j * sz + o, none⟩ = some z := by
 subst hn
 have h1 := World.ownsRow.stored (show w.ownsRow base e sz (.slice (some ⟨g, 0, none⟩) l.length cap) l.length (l.flatMap f) from h) (j * sz + o) u
 refine ⟨?_, World.ownsRow.frozenAt (show w.ownsRow base e sz (.slice (some ⟨g, 0, none⟩) l.length cap) l.length (l.flatMap f) from h) _, ?_⟩
 ·have h2 := h1.1
  rw [flat_setR hf l j o x y u hx ho he] at h2
  unfold OwnR
  rw [List.length_set]
  exact h2
 ·obtain ⟨a, c, hv, -, -, hr⟩ := h.slice hf
  injection hv with e1 e2 e3
  subst e1
  obtain ⟨y', hy', hc⟩ := hr j x hx
  injection hy' with hy'
  subst hy'
  have := hc o ho
  rw [add_at, List.getElem?_eq_getElem (by rw [hf]; exact ho)] at this
  exact ⟨_, this⟩
end Go.Proofs.YtidihdiffiffmaaGreatDoor
namespace Go.Proofs.YtidihdiffiffmaaGreatDoor
open Go.RowKit
set_option maxRecDepth 8000
abbrev prL (b : Value) (X : List Value) : List Value := b :: X
end Go.Proofs.YtidihdiffiffmaaGreatDoor
